/- Texts that the claims of this seat share, part 2: Utf KMay1 KOpen UDoor KName KRow KNameO KNamedO KSchema KMayO KCmpO KSchemaO KIs WOpen KOpenS NPlain NRef GPlain GRef GMay GEq GOpen GPart GOf. -/
import Derived.Shelf.Unicode.ValidAny
import Derived.Lib.LaidU8T
import Derived.PinnedBridge
import Derived.Test.YtniniophoocalaaDoorProg
import Derived.Lib.SmallJoins
import Derived.Test.YtniniophoocalaaDoorTie
import Derived.Test.YtniniophoocalaaDoorCards
import Derived.SevenTiedAt
import Derived.Stop.Joined
import Derived.Lay
import Derived.LaidOnce
import Derived.Lib.OthersKept
import Derived.Lib.TrimUEq
import Derived.BigQuiet
import Derived.Lib.ValidLaws
import Derived.Deep.Slices
import Derived.Laws.StructEq
import Derived.Test.YtniniophoocalaaDoorG1
/- utf8.ValidString's contract, laid at this program; its two tables out of what a seat's rows list. -/









namespace Go.Proofs

open Go.Shelf Go.Lib Go.RowKit
def Tryd.lays196_ren : Go.Shelf.Ren := ⟨fun | 196 => 46 | 259 => 53 | n => n, fun | 0 => 0 | 3 => 3 | 4 => 4 | 5 => 5 | 9 => 9 | 12 => 12 | 46 => 80 | 53 => 91 | 119 => 82 | 138 => 84 | 139 => 85 | n => n, fun | 3 => 0 | 4 => 1 | n => n⟩
theorem Tryd.lays196 : Lays.n196 Tryd.prog Tryd.lays196_ren := {
  mixed := by kernel_rfl
  f196 := Tryd.func46.trans (congrArg some (by kernel_rfl))
  f259 := Tryd.func53.trans (congrArg some (by kernel_rfl))
  t0 := Tryd.underlying0
  a0 := Tryd.isAgg0
  z0 := Tryd.sizeOf0
  v0 := Tryd.zeroValue0
  t3 := Tryd.underlying3
  a3 := Tryd.isAgg3
  z3 := Tryd.sizeOf3
  v3 := Tryd.zeroValue3
  t4 := Tryd.underlying4
  a4 := Tryd.isAgg4
  z4 := Tryd.sizeOf4
  v4 := Tryd.zeroValue4
  t5 := Tryd.underlying5
  a5 := Tryd.isAgg5
  z5 := Tryd.sizeOf5
  v5 := Tryd.zeroValue5
  t9 := Tryd.underlying9
  a9 := Tryd.isAgg9
  z9 := Tryd.sizeOf9
  v9 := Tryd.zeroValue9
  t12 := Tryd.underlying12
  a12 := Tryd.isAgg12
  z12 := Tryd.sizeOf12
  v12 := Tryd.zeroValue12
  t46 := Tryd.underlying80
  a46 := Tryd.isAgg80
  z46 := Tryd.sizeOf80
  v46 := Tryd.zeroValue80
  t53 := Tryd.underlying91
  a53 := Tryd.isAgg91
  z53 := Tryd.sizeOf91
  v53 := Tryd.zeroValue91
  t119 := Tryd.underlying82
  a119 := Tryd.isAgg82
  z119 := Tryd.sizeOf82
  t138 := Tryd.underlying84
  a138 := Tryd.isAgg84
  z138 := Tryd.sizeOf84
  v138 := Tryd.zeroValue84
  t139 := Tryd.underlying85
  a139 := Tryd.isAgg85
  z139 := Tryd.sizeOf85
  v139 := Tryd.zeroValue85
  g3 := by kernel_rfl
  g4 := by kernel_rfl }
theorem Tryd.u8extra : U8Extra Tryd.prog Tryd.lays196_ren := {
  n3 := by kernel_rfl
  n4 := by kernel_rfl
  y3 := by kernel_rfl
  y4 := by kernel_rfl
  c5 := by kernel_rfl
  c119 := by kernel_rfl
  c138 := by kernel_rfl }
/-- The two tables lie as their initialisers lay them. -/
def Tryd.U8 (w : World) : Prop := Lib.Utf8Tabs 0 1 w
theorem Tryd.validString (s : ByteArray) (w : World) (hs : s.size ≤ 9223372036854775807) (hT : Tryd.U8 w) :
    Calls Tryd.prog 46 #[.string s] w fun e w' => e = .returned (.bool (Lib.validD s.data.toList)) ∧ Below w.heap.size w w' := Any.utf8_ValidString Tryd.lays196 s w hs hT
end Go.Proofs

/- Contracts of layer 12's reference: Number and May. -/





namespace Go.Proofs.YtniniophoocalaaDoor

open Go.RowKit

def knumber (k : Int) : Bool := decide (1 ≤ k) && decide (k ≤ 5)
def kmay (k : Int) (v : CV) : Bool :=
  if (decide (k < 1) || decide (7 < k)) = true then false
  else if v.null = true then (v.n == 0) && (v.s.toList == [])
  else if decide (k ≤ 5) = true then (v.s.toList == []) && (((k != 1) || (v.n == 0)) || (v.n == 1))
  else ((v.n == 0) && decide ((v.s.size : Int) ≤ 300)) && ((k == 7) || Lib.validD v.s.data.toList)
/-- The same, of its tests. -/
def kmayB (c1 c2 b n0 s0 c5 k1 n1 len k7 v : Bool) : Bool :=
  bif c1 || c2 then false else bif b then n0 && s0 else bif c5 then s0 && ((k1 || n0) || n1) else (n0 && len) && (k7 || v)
theorem kmay_of (k : Int) (b : Bool) (n : Int) (s : ByteArray) : kmay k ⟨b, n, s⟩ = kmayB (decide (k < 1)) (decide (7 < k)) b (n == 0) (s.toList == []) (decide (k ≤ 5)) (k != 1) (n == 1) (decide ((s.size : Int) ≤ 300)) (k == 7) (Lib.validD s.data.toList) := by
  unfold kmay kmayB
  simp only [cond_eq_ite]
theorem rnumber12_any (k : Int) (w : World) : Calls Tryd.prog 34 #[.int .i64 k] w fun e w' => e = .returned (.bool (knumber k)) ∧ w = w' := by
  have HK : Hid (knumber k = (decide (1 ≤ k) && decide (k ≤ 5))) := Lib.hid rfl
  cases c1 : decide (1 ≤ k)
  · rw [c1] at HK
    go_enter Tryd.func34, Tryd.ntmps34
    go_wp2
    go_ret
    exact ⟨by rw [HK.out]; rfl, rfl⟩
  · cases c2 : decide (k ≤ 5)
    all_goals
      rw [c1, c2] at HK
      go_enter Tryd.func34, Tryd.ntmps34
      go_wp2
      go_ret
      exact ⟨by rw [HK.out]; rfl, rfl⟩
set_option maxHeartbeats 2000000 in
set_option maxRecDepth 100000 in
theorem rmay12_any (k : Int) (v : CV) (w : World) (hU : Tryd.U8 w) (hs : v.s.size ≤ maxLen) :
    Calls Tryd.prog 28 #[.int .i64 k, cv v] w fun e w' => e = .returned (.bool (kmay k v)) ∧ Below w.heap.size w w' := by
  obtain ⟨b, n, s⟩ := v
  dsimp only at hs
  have hsi : s.size ≤ 9223372036854775807 := by unfold maxLen at hs; omega
  have HVS := Lib.hid (fun W (h : Tryd.U8 W) => Tryd.validString s W hsi h)
  have hA : Row (w.alloc (.cells #[.bool b, .int .i64 n, .string s] 41)) w.heap.size 41 [.bool b, .int .i64 n, .string s] := heap_alloc_new w _
  have hb : Below w.heap.size w (w.alloc (.cells #[.bool b, .int .i64 n, .string s] 41)) := (Below.refl _ _).alloc (Nat.le_refl _) _
  have HU := Lib.hid (show Tryd.U8 _ from Utf8Tabs_below hU hb)
  have HBE := Lib.hid hb
  have a0 := hA.cell 0
  have a1 := hA.cell 1
  have a2 := hA.cell 2
  have HK0 := kmay_of k b n s
  clear hA hb hs hsi hU
  unfold cv
  cases c1 : decide (k < 1)
  · cases c2 : decide (7 < k)
    · cases b
      · cases c5 : decide (k ≤ 5)
        · cases n0 : (n == 0)
          · rw [c1, c2, c5, n0] at HK0
            have HK := Lib.hid HK0
            clear HK0
            go_enter Tryd.func28, Tryd.ntmps28
            go_wp2
            go_ret
            exact ⟨by rw [HK.out]; rfl, HBE.out⟩
          · cases len : decide ((s.size : Int) ≤ 300)
            · rw [c1, c2, c5, n0, len] at HK0
              have HK := Lib.hid HK0
              clear HK0
              go_enter Tryd.func28, Tryd.ntmps28
              go_wp2
              go_ret
              exact ⟨by rw [HK.out]; rfl, HBE.out⟩
            · cases k7 : (k == 7)
              · rw [c1, c2, c5, n0, len, k7] at HK0
                have HK := Lib.hid HK0
                clear HK0
                go_enter Tryd.func28, Tryd.ntmps28
                go_wp2_with (go_at_call 46; refine (HVS.out _ HU.out).mono ?_)
                rintro e w2 ⟨rfl, hb2⟩
                have HB2 := Lib.hid (below_then HBE.out hb2)
                clear hb2
                go_wp2
                go_ret
                exact ⟨by rw [HK.out]; rfl, HB2.out⟩
              · rw [c1, c2, c5, n0, len, k7] at HK0
                have HK := Lib.hid HK0
                clear HK0
                go_enter Tryd.func28, Tryd.ntmps28
                go_wp2
                go_ret
                exact ⟨by rw [HK.out]; rfl, HBE.out⟩
        · cases s0 : (s.toList == [])
          · rw [c1, c2, c5, s0] at HK0
            have HK := Lib.hid HK0
            clear HK0
            go_enter Tryd.func28, Tryd.ntmps28
            go_wp2
            go_ret
            exact ⟨by rw [HK.out]; rfl, HBE.out⟩
          · cases k1 : (k != 1)
            · cases n0 : (n == 0)
              · cases n1 : (n == 1)
                · rw [c1, c2, c5, s0, k1, n0, n1] at HK0
                  have HK := Lib.hid HK0
                  clear HK0
                  go_enter Tryd.func28, Tryd.ntmps28
                  go_wp2
                  go_ret
                  exact ⟨by rw [HK.out]; rfl, HBE.out⟩
                · rw [c1, c2, c5, s0, k1, n0, n1] at HK0
                  have HK := Lib.hid HK0
                  clear HK0
                  go_enter Tryd.func28, Tryd.ntmps28
                  go_wp2
                  go_ret
                  exact ⟨by rw [HK.out]; rfl, HBE.out⟩
              · rw [c1, c2, c5, s0, k1, n0] at HK0
                have HK := Lib.hid HK0
                clear HK0
                go_enter Tryd.func28, Tryd.ntmps28
                go_wp2
                go_ret
                exact ⟨by rw [HK.out]; rfl, HBE.out⟩
            · rw [c1, c2, c5, s0, k1] at HK0
              have HK := Lib.hid HK0
              clear HK0
              go_enter Tryd.func28, Tryd.ntmps28
              go_wp2
              go_ret
              exact ⟨by rw [HK.out]; rfl, HBE.out⟩
      · cases n0 : (n == 0)
        · rw [c1, c2, n0] at HK0
          have HK := Lib.hid HK0
          clear HK0
          go_enter Tryd.func28, Tryd.ntmps28
          go_wp2
          go_ret
          exact ⟨by rw [HK.out]; rfl, HBE.out⟩
        · cases s0 : (s.toList == [])
          · rw [c1, c2, n0, s0] at HK0
            have HK := Lib.hid HK0
            clear HK0
            go_enter Tryd.func28, Tryd.ntmps28
            go_wp2
            go_ret
            exact ⟨by rw [HK.out]; rfl, HBE.out⟩
          · rw [c1, c2, n0, s0] at HK0
            have HK := Lib.hid HK0
            clear HK0
            go_enter Tryd.func28, Tryd.ntmps28
            go_wp2
            go_ret
            exact ⟨by rw [HK.out]; rfl, HBE.out⟩
    · rw [c1, c2] at HK0
      have HK := Lib.hid HK0
      clear HK0
      go_enter Tryd.func28, Tryd.ntmps28
      go_wp2
      go_ret
      exact ⟨by rw [HK.out]; rfl, HBE.out⟩
  · rw [c1] at HK0
    have HK := Lib.hid HK0
    clear HK0
    go_enter Tryd.func28, Tryd.ntmps28
    go_wp2
    go_ret
    exact ⟨by rw [HK.out]; rfl, HBE.out⟩
end Go.Proofs.YtniniophoocalaaDoor

/- A value (a struct of a truth, a number, a text) that comes in. -/







namespace Go.Proofs.YtniniophoocalaaDoor

open Go.RowKit

end Go.Proofs.YtniniophoocalaaDoor

/- utf8's two tables out of what a seat's rows list. (For seats whose rows list these two alone.) -/



















namespace Go.Proofs.YtniniophoocalaaDoor

open Go.Lib Go.RowKit Go.ChangeShapes Go.WideShapes Go.ChangeAt

theorem u8_of {W : World} (h : laidMetH Tryd.prog [("unicode/utf8.acceptRanges", Rows.laid_unicode_utf8_acceptRanges), ("unicode/utf8.first", Rows.laid_unicode_utf8_first)] W) : Tryd.U8 W := by
  rw [MakeChecks.laidMetH_plain _ _ _ (by kernel_rfl)] at h
  have h1 := Go.Lib.laidMet.reads h (n := "unicode/utf8.first") (d := Rows.laid_unicode_utf8_first) (by simp)
  have h2 := Go.Lib.laidMet.reads h (n := "unicode/utf8.acceptRanges") (d := Rows.laid_unicode_utf8_acceptRanges) (by simp)
  rw [show Rows.laid_unicode_utf8_first = firstData from Pinned.utf8First_eq] at h1
  rw [show (Rows.laid_unicode_utf8_acceptRanges : DataW Unit) = acceptData from by kernel_rfl] at h2
  exact utf8Tabs_of_readsT (U8Types.of196 Tryd.lays196) Tryd.u8extra h1 h2
end Go.Proofs.YtniniophoocalaaDoor

/- Contract of layer 12's reference: whether a column's name may be. -/



namespace Go.Proofs.YtniniophoocalaaDoor

open Go.RowKit

/-- Whether a byte may stand in a name (its value as a number). -/
def kchar (c : Int) : Bool := !((decide (c < 97) || decide (122 < c)) && (decide (c < 48) || decide (57 < c)) && (c != 95))
def kchars (s : ByteArray) (k : Nat) : Prop := ∀ j, (h : j < s.size) → j < k → kchar (s[j].toNat : Int) = true
noncomputable instance (s : ByteArray) (k : Nat) : Decidable (kchars s k) := Classical.propDecidable _
noncomputable def kname (s : ByteArray) : Bool := decide (kchars s s.size) && (!(s.toList == []) && decide ((s.size : Int) ≤ 20))
theorem kchar_yes (c : Int) : kchar c = true ↔ ¬((c < 97 ∨ 122 < c) ∧ (c < 48 ∨ 57 < c) ∧ c ≠ 95) := by
  unfold kchar
  simp only [Bool.not_eq_true', Bool.and_eq_false_iff, Bool.or_eq_false_iff, decide_eq_false_iff_not, bne_eq_false_iff_eq]
  omega
theorem kname_no {s : ByteArray} {k : Nat} (h : k < s.size) (hk : ¬ kchar (s[k].toNat : Int) = true) : false = kname s := by
  unfold kname
  rw [decide_eq_false fun h2 => hk (h2 k h h)]
  rfl
theorem kchars_next {s : ByteArray} {k : Nat} (hc : kchars s k) (h : k < s.size) (hk : kchar (s[k].toNat : Int) = true) : kchars s (k + 1) := by
  intro j hj hjk
  by_cases e : j = k
  · subst e; exact hk
  · exact hc j hj (by omega)
def NameRel (s : ByteArray) (i : Value) : Prop := ∃ k : Nat, k ≤ s.size ∧ i = .int .i64 (k : Int) ∧ kchars s k
set_option maxHeartbeats 1000000 in
set_option maxRecDepth 100000 in
theorem rname12_any (s : ByteArray) (w : World) (hs : s.size ≤ maxLen) : Calls Tryd.prog 27 #[.string s] w fun e w' => e = .returned (.bool (kname s)) ∧ w = w' := by
  have hsi : (s.size : Int) ≤ 9223372036854775807 := by unfold maxLen at hs; omega
  go_enter Tryd.func27, Tryd.ntmps27
  go_wp2
  go_loop [3] (NameRel s) (fun i => s.size - (intOf i).toNat)
  case atStart => exact ⟨0, Nat.zero_le _, rfl, fun j _ h => absurd h (Nat.not_lt_zero _)⟩
  case round =>
    obtain ⟨k, hk, rfl, hch⟩ := hrel
    have HCH := Lib.hid hch
    clear hch
    by_cases hlt : k < s.size
    · have hlti : (k : Int) < (s.size : Int) := by omega
      obtain ⟨c, hc⟩ : ∃ c : Int, c = (s[k].toNat : Int) := ⟨_, rfl⟩
      have HC := Lib.hid hc
      have hy := kchar_yes c
      rw [hc] at hy
      have HY := Lib.hid hy
      clear hc hy
      go_wp2
      all_goals first
        | (go_ret; exact ⟨by rw [← kname_no hlt (by rw [HY.out]; simp only [bne_iff_ne] at *; omega)]; rfl, rfl⟩)
        | (refine ⟨⟨k + 1, by omega, by go_num, kchars_next HCH.out hlt (HY.out.2 (by simp only [bne_eq_false_iff_eq] at *; omega))⟩, by simp [intOf]; omega⟩)
        | (refine ⟨⟨k + 1, by omega, by go_num, kchars_next HCH.out hlt (HY.out.2 (by omega))⟩, by simp [intOf]; omega⟩)
    · obtain rfl : k = s.size := by omega
      have hk : kname s = (!(s.toList == []) && decide ((s.size : Int) ≤ 20)) := by unfold kname; rw [decide_eq_true HCH.out]; rfl
      cases e1 : (s.toList == [])
      · cases e2 : decide ((s.size : Int) ≤ 20)
        all_goals
          rw [e1, e2] at hk
          have HK := Lib.hid hk
          clear hk
          go_wp2
          go_ret
          exact ⟨by rw [HK.out]; rfl, rfl⟩
      · rw [e1] at hk
        have HK := Lib.hid hk
        clear hk
        go_wp2
        go_ret
        exact ⟨by rw [HK.out]; rfl, rfl⟩
end Go.Proofs.YtniniophoocalaaDoor

/- The contract of layer 12's reference: Row. -/





namespace Go.Proofs.YtniniophoocalaaDoor

open Go.RowKit

theorem col_size (W : World) : (sizeOf 39).run Tryd.prog W = .ok 2 W := by kernel_rfl
theorem val_size (W : World) : (sizeOf 41).run Tryd.prog W = .ok 3 W := by kernel_rfl
theorem col_kind (W : World) (a : Addr) : (Instr.fieldAt 39 (.pointer (some a)) 1).run Tryd.prog W = .ok (.pointer (some (a.add 1))) W := by
  simp [Instr.fieldAt, run_underlying Tryd.underlying39, Instr.sureAddr, fieldPlace]
/-- Whether the first k values fit. -/
def kfits (l : List CC) (r : List CV) (k : Nat) : Prop := ∀ j, (h : j < l.length) → (h' : j < r.length) → j < k → kmay l[j].kind r[j] = true
open Classical in
noncomputable def krow (l : List CC) (r : List CV) : Int := if l.length = r.length ∧ kfits l r l.length then 0 else 21
theorem krow_no {l : List CC} {r : List CV} {k : Nat} (h : k < l.length) (h' : k < r.length) (hk : kmay l[k].kind r[k] = false) : krow l r = 21 := by
  unfold krow
  rw [if_neg]
  intro h2
  have := h2.2 k h h' h
  rw [hk] at this
  cases this
theorem kfits_next {l : List CC} {r : List CV} {k : Nat} (hc : kfits l r k) (h : k < l.length) (h' : k < r.length) (hk : kmay l[k].kind r[k] = true) : kfits l r (k + 1) := by
  intro j hj hj' hjk
  by_cases e : j = k
  · subst e; exact hk
  · exact hc j hj hj' (by omega)
def RowRel (l : List CC) (r : List CV) (w : World) (i : Value) (wr : World) : Prop := ∃ k : Nat, k ≤ l.length ∧ i = .int .i64 (k : Int) ∧ kfits l r k ∧ Below w.heap.size w wr
set_option maxHeartbeats 2000000 in
set_option maxRecDepth 100000 in
theorem rrow12_own (l : List CC) (r : List CV) (v1 v2 : Value) (w : World) (hU : Tryd.U8 w) (h1 : IsR ccells l v1 w) (h2 : IsR kcells r v2 w) (hs : ∀ x ∈ r, x.s.size ≤ maxLen) (hb : l.length ≤ 1000000) :
    Calls Tryd.prog 13 #[v1, v2] w fun e w' => e = .returned (.int .i64 (krow l r)) ∧ Below w.heap.size w w' := by
  obtain ⟨A, n, c, rfl⟩ := h1.shape
  obtain ⟨B, m, d, rfl⟩ := h2.shape
  have HN := Lib.hid h1.parts.1
  have HM := Lib.hid h2.parts.1
  have H1 := Lib.hid h1
  have H2 := Lib.hid h2
  have HU := Lib.hid hU
  have HSS := Lib.hid hs
  have hn6 : n ≤ 1000000 := by have := HN.out; omega
  have hm6 : (m : Int) ≤ 9223372036854775807 := by obtain ⟨_, _, h3, h4, _⟩ := h2.parts; unfold maxLen at h4; omega
  clear h1 h2 hU hs hb
  by_cases hnm : n = m
  · subst hnm
    go_enter Tryd.func13, Tryd.ntmps13
    go_wp2
    go_loopw [5] (RowRel l r w) (fun i _ => n - (intOf i).toNat)
    case atStart => exact ⟨0, Nat.zero_le _, rfl, fun j _ _ h => absurd h (Nat.not_lt_zero _), Below.refl _ _⟩
    case round =>
      obtain ⟨k, hk, rfl, hfit, hbw⟩ := hrel
      have hkn : k ≤ n := by have := HN.out; omega
      have HF := Lib.hid hfit
      have HB := Lib.hid hbw
      clear hfit hk
      by_cases hlt : k < n
      · have hkl : k < l.length := by have := HN.out; omega
        have hkr : k < r.length := by have := HM.out; omega
        have hlti : (k : Int) < (n : Int) := by omega
        obtain ⟨ad, rfl, had, hcell⟩ := (H1.out.below hbw).at (m := 2) (fun _ => rfl) (by omega) hkl
        obtain ⟨bd, rfl, hbd, hcell2⟩ := (H2.out.below hbw).at (m := 3) (fun _ => rfl) (by omega) hkr
        have HAB := Lib.hid had
        have HBB := Lib.hid hbd
        have HKD0 : wr.cell? (ad.add (k * 2 + 1)) = some (.int .i64 l[k].kind) := hcell 1 (by omega)
        have HX0 : ∀ j v, (kcells r[k])[j]? = some v → wr.cell? (bd.add (k * 3 + j)) = some v := fun j v hj => by
          rw [hcell2 j (by have := (List.getElem?_eq_some_iff.1 hj).1; exact this)]; exact hj
        have HS0 : r[k].s.size ≤ maxLen := HSS.out _ (List.getElem_mem hkr)
        have HNO := Lib.hid (krow_no hkl hkr)
        have HNX := Lib.hid (kfits_next HF.out hkl hkr)
        generalize l[k].kind = kd at *
        generalize r[k] = x at *
        have HKD := Lib.hid HKD0
        have HX := Lib.hid HX0
        have HS := Lib.hid HS0
        clear HKD0 HX0 HS0 hcell hcell2 had hbd hbw
        cases hmay : kmay kd x
        · have HNO' := Lib.hid (HNO.out hmay)
          have HMY := Lib.hid hmay
          clear hmay
          go_wp2
          refine wp_region_list [.is (.slice (some ad) n c), .is (.int .i64 (k : Int)), .is (.pointer (some (ad.add (k * 2)))), .is (.pointer (some ((ad.add (k * 2)).add 1))), .is (.int .i64 kd), .is (.slice (some bd) n d), .is (.int .i64 (k : Int)), .is (.pointer (some (bd.add (k * 3)))), .is (cv x), .is (.bool (kmay kd x)), .is (.bool (kmay kd x))] [some 18, some 19, some 20, some 21, some 22, some 23, some 24, some 25, some 26, some 27, some 6] (by kernel_rfl) (by kernel_rfl) (by kernel_rfl) rfl ⟨?_, ?_, ?_, ?_, ?_, ?_, ?_, ?_, ?_, ?_, ?_, trivial⟩ ?_
          · intro ρ W1 hb1 H
            exact gives_move rfl (H.old 0 _ (by kernel_rfl) rfl) ⟨rfl, Below.refl _ _⟩
          · intro ρ W1 hb1 H
            exact gives_move rfl (H.old 5 _ (by kernel_rfl) rfl) ⟨rfl, Below.refl _ _⟩
          · intro ρ W1 hb1 H
            exact gives_index_wide Tryd.underlying22 col_size rfl (H.new 18 0 (by kernel_rfl)) (H.new 19 1 (by kernel_rfl)) hlt ⟨rfl, Below.refl _ _⟩
          · intro ρ W1 hb1 H
            exact gives_field rfl (H.new 20 2 (by kernel_rfl)) (fun W => col_kind W _) ⟨rfl, Below.refl _ _⟩
          · intro ρ W1 hb1 H
            exact gives_load rfl (H.new 21 3 (by kernel_rfl)) Tryd.underlying3 rfl (by rw [add_add]; exact (hb1.cell (by rw [add_block]; exact HAB.out)).trans HKD.out) ⟨rfl, Below.refl _ _⟩
          · intro ρ W1 hb1 H
            exact gives_move rfl (H.old 1 _ (by kernel_rfl) rfl) ⟨rfl, Below.refl _ _⟩
          · intro ρ W1 hb1 H
            exact gives_move rfl (H.old 5 _ (by kernel_rfl) rfl) ⟨rfl, Below.refl _ _⟩
          · intro ρ W1 hb1 H
            exact gives_index_wide Tryd.underlying32 val_size rfl (H.new 23 5 (by kernel_rfl)) (H.new 24 6 (by kernel_rfl)) hlt ⟨rfl, Below.refl _ _⟩
          · intro ρ W1 hb1 H
            exact gives_load_wide (cs := kcells x) rfl (H.new 25 7 (by kernel_rfl)) Tryd.underlying41 rfl val_size (fun j v hj => by rw [add_add]; exact (hb1.cell (by rw [add_block]; exact HBB.out)).trans (HX.out j v hj)) ⟨rfl, Below.refl _ _⟩
          · intro ρ W1 hb1 H
            have e0 : ρ (.tmp 22) = .int .i64 kd := H.new 22 4 (by kernel_rfl)
            have e1 : ρ (.tmp 26) = cv x := H.new 26 8 (by kernel_rfl)
            refine gives_call rfl (fun _ _ => by kernel_rfl) (H.func _) (args := #[.int .i64 kd, cv x]) (by simp [e0, e1]) ?_
            exact (rmay12_any kd x W1 (Utf8Tabs_below HU.out (below_then HB.out hb1)) HS.out).mono fun e w' h => ⟨_, h.1, rfl, h.2⟩
          · intro ρ W1 hb1 H
            exact gives_assign rfl (H.new 27 9 (by kernel_rfl)) ⟨rfl, Below.refl _ _⟩
          · intro vs W1 hb1 hfs
            have f10 : vs 10 = .bool (kmay kd x) := hfs 10 (by decide)
            clear hfs
            simp only [putAll, Nat.zero_add, Nat.reduceAdd]
            generalize vs 0 = z0
            generalize vs 1 = z1
            generalize vs 2 = z2
            generalize vs 3 = z3
            generalize vs 4 = z4
            generalize vs 5 = z5
            generalize vs 6 = z6
            generalize vs 7 = z7
            generalize vs 8 = z8
            generalize vs 9 = z9
            simp only [f10, Act.put, List.setIfInBounds_toArray, List.set_cons_succ, List.set_cons_zero]
            clear f10
            rw [HMY.out]
            go_wp2
            go_ret
            exact ⟨by rw [HNO'.out]; rfl, below_then HB.out hb1⟩
        · have HNX' := Lib.hid (HNX.out hmay)
          have HMY := Lib.hid hmay
          clear hmay
          go_wp2
          refine wp_region_list [.is (.slice (some ad) n c), .is (.int .i64 (k : Int)), .is (.pointer (some (ad.add (k * 2)))), .is (.pointer (some ((ad.add (k * 2)).add 1))), .is (.int .i64 kd), .is (.slice (some bd) n d), .is (.int .i64 (k : Int)), .is (.pointer (some (bd.add (k * 3)))), .is (cv x), .is (.bool (kmay kd x)), .is (.bool (kmay kd x))] [some 18, some 19, some 20, some 21, some 22, some 23, some 24, some 25, some 26, some 27, some 6] (by kernel_rfl) (by kernel_rfl) (by kernel_rfl) rfl ⟨?_, ?_, ?_, ?_, ?_, ?_, ?_, ?_, ?_, ?_, ?_, trivial⟩ ?_
          · intro ρ W1 hb1 H
            exact gives_move rfl (H.old 0 _ (by kernel_rfl) rfl) ⟨rfl, Below.refl _ _⟩
          · intro ρ W1 hb1 H
            exact gives_move rfl (H.old 5 _ (by kernel_rfl) rfl) ⟨rfl, Below.refl _ _⟩
          · intro ρ W1 hb1 H
            exact gives_index_wide Tryd.underlying22 col_size rfl (H.new 18 0 (by kernel_rfl)) (H.new 19 1 (by kernel_rfl)) hlt ⟨rfl, Below.refl _ _⟩
          · intro ρ W1 hb1 H
            exact gives_field rfl (H.new 20 2 (by kernel_rfl)) (fun W => col_kind W _) ⟨rfl, Below.refl _ _⟩
          · intro ρ W1 hb1 H
            exact gives_load rfl (H.new 21 3 (by kernel_rfl)) Tryd.underlying3 rfl (by rw [add_add]; exact (hb1.cell (by rw [add_block]; exact HAB.out)).trans HKD.out) ⟨rfl, Below.refl _ _⟩
          · intro ρ W1 hb1 H
            exact gives_move rfl (H.old 1 _ (by kernel_rfl) rfl) ⟨rfl, Below.refl _ _⟩
          · intro ρ W1 hb1 H
            exact gives_move rfl (H.old 5 _ (by kernel_rfl) rfl) ⟨rfl, Below.refl _ _⟩
          · intro ρ W1 hb1 H
            exact gives_index_wide Tryd.underlying32 val_size rfl (H.new 23 5 (by kernel_rfl)) (H.new 24 6 (by kernel_rfl)) hlt ⟨rfl, Below.refl _ _⟩
          · intro ρ W1 hb1 H
            exact gives_load_wide (cs := kcells x) rfl (H.new 25 7 (by kernel_rfl)) Tryd.underlying41 rfl val_size (fun j v hj => by rw [add_add]; exact (hb1.cell (by rw [add_block]; exact HBB.out)).trans (HX.out j v hj)) ⟨rfl, Below.refl _ _⟩
          · intro ρ W1 hb1 H
            have e0 : ρ (.tmp 22) = .int .i64 kd := H.new 22 4 (by kernel_rfl)
            have e1 : ρ (.tmp 26) = cv x := H.new 26 8 (by kernel_rfl)
            refine gives_call rfl (fun _ _ => by kernel_rfl) (H.func _) (args := #[.int .i64 kd, cv x]) (by simp [e0, e1]) ?_
            exact (rmay12_any kd x W1 (Utf8Tabs_below HU.out (below_then HB.out hb1)) HS.out).mono fun e w' h => ⟨_, h.1, rfl, h.2⟩
          · intro ρ W1 hb1 H
            exact gives_assign rfl (H.new 27 9 (by kernel_rfl)) ⟨rfl, Below.refl _ _⟩
          · intro vs W1 hb1 hfs
            have f10 : vs 10 = .bool (kmay kd x) := hfs 10 (by decide)
            clear hfs
            simp only [putAll, Nat.zero_add, Nat.reduceAdd]
            generalize vs 0 = z0
            generalize vs 1 = z1
            generalize vs 2 = z2
            generalize vs 3 = z3
            generalize vs 4 = z4
            generalize vs 5 = z5
            generalize vs 6 = z6
            generalize vs 7 = z7
            generalize vs 8 = z8
            generalize vs 9 = z9
            simp only [f10, Act.put, List.setIfInBounds_toArray, List.set_cons_succ, List.set_cons_zero]
            clear f10
            rw [HMY.out]
            go_wp2
            go_roundw
            case rel => exact ⟨k + 1, hkl, by go_num, HNX'.out, below_then HB.out hb1⟩
            case measure => simp [intOf]; omega
      · obtain rfl : k = n := by omega
        have hlti : ¬ (k : Int) < (k : Int) := by omega
        have hk : krow l r = 0 := by
          unfold krow
          rw [if_pos ⟨by have := HN.out; have := HM.out; omega, by rw [HN.out]; exact HF.out⟩]
        have HK := Lib.hid hk
        clear hk
        go_wp2
        go_ret
        exact ⟨by rw [HK.out]; rfl, HB.out⟩
  · have hne : ((n : Int) != (m : Int)) = true := by simpa using fun h => hnm (by omega)
    have hk : krow l r = 21 := by
      unfold krow
      rw [if_neg]
      intro h
      exact hnm (by rw [← HN.out, ← HM.out]; exact h.1)
    have HK := Lib.hid hk
    clear hk
    go_enter Tryd.func13, Tryd.ntmps13
    go_wp2
    go_ret
    exact ⟨by rw [HK.out]; rfl, Below.refl _ _⟩
end Go.Proofs.YtniniophoocalaaDoor

/- The program's contracts of layer 12: name (of a column), named. -/









namespace Go.Proofs.YtniniophoocalaaDoor

open Go.RowKit

end Go.Proofs.YtniniophoocalaaDoor

/- The program's contract of layer 12: named. -/



namespace Go.Proofs.YtniniophoocalaaDoor

open Go.RowKit

end Go.Proofs.YtniniophoocalaaDoor

/- The contract of layer 12's reference: Schema. -/







namespace Go.Proofs.YtniniophoocalaaDoor

open Go.RowKit

def kcolok (l : List CC) (i : Nat) : Prop := ∃ h : i < l.length, kname l[i].s = true ∧ 1 ≤ l[i].kind ∧ l[i].kind ≤ 7 ∧ ∀ j, (hj : j < i) → l[j].s.toList ≠ l[i].s.toList
open Classical in
noncomputable def kscheme (l : List CC) : Int := if 1 ≤ l.length ∧ l.length ≤ 6 ∧ ∀ i, i < l.length → kcolok l i then 0 else 20
theorem kscheme_no {l : List CC} {i : Nat} (h : i < l.length) (hk : ¬ kcolok l i) : kscheme l = 20 := by
  unfold kscheme
  rw [if_neg]
  exact fun h2 => hk (h2.2.2 i h)
def SchRel (l : List CC) (w : World) (i : Value) (wr : World) : Prop := ∃ k : Nat, k ≤ l.length ∧ i = .int .i64 (k : Int) ∧ (∀ j, j < k → kcolok l j) ∧ Below w.heap.size w wr
def SchRel2 (l : List CC) (k : Nat) (hk : k < l.length) (w : World) (i : Value) (wr : World) : Prop := ∃ j : Nat, j ≤ k ∧ i = .int .i64 (j : Int) ∧ (∀ m, (h : m < j) → (h' : m < k) → l[m].s.toList ≠ l[k].s.toList) ∧ Below w.heap.size w wr
set_option maxHeartbeats 2000000 in
set_option maxRecDepth 100000 in
theorem rschema12_own (l : List CC) (v : Value) (w : World) (h1 : IsR ccells l v w) (hs : ∀ x ∈ l, x.s.size ≤ maxLen) :
    Calls Tryd.prog 12 #[v] w fun e w' => e = .returned (.int .i64 (kscheme l)) ∧ Below w.heap.size w w' := by
  obtain ⟨A, n, c, rfl⟩ := h1.shape
  have HN := Lib.hid h1.parts.1
  have H1 := Lib.hid h1
  have HSS := Lib.hid hs
  have hn6 : (n : Int) ≤ 9223372036854775807 := by obtain ⟨_, _, h3, h4, _⟩ := h1.parts; unfold maxLen at h4; omega
  clear h1 hs
  by_cases hb1 : 1 ≤ n ∧ n ≤ 6
  · have d1 : decide ((n : Int) < 1) = false := decide_eq_false (by omega)
    have d2 : decide ((6 : Int) < (n : Int)) = false := decide_eq_false (by omega)
    go_enter Tryd.func12, Tryd.ntmps12
    go_wp2
    go_loopw [3] (SchRel l w) (fun i _ => n - (intOf i).toNat)
    case atStart => exact ⟨0, Nat.zero_le _, rfl, fun j h => absurd h (Nat.not_lt_zero _), Below.refl _ _⟩
    case round =>
      obtain ⟨k, hk, rfl, hfit, hbw⟩ := hrel
      have hkn : k ≤ n := by have := HN.out; omega
      have HF := Lib.hid hfit
      have HB := Lib.hid hbw
      clear hfit hk
      by_cases hlt : k < n
      · have hkl : k < l.length := by have := HN.out; omega
        have hlti : (k : Int) < (n : Int) := by omega
        obtain ⟨ad, rfl, had, hcell⟩ := (H1.out.below hbw).at (m := 2) (fun _ => rfl) (by omega) hkl
        have HAB := Lib.hid had
        have k0 : wr.cell? (ad.add (k * 2)) = some (.string l[k].s) := hcell 0 (by omega)
        have k1 : wr.cell? ⟨(ad.add (k * 2)).block, (ad.add (k * 2)).off + 1, none⟩ = some (.int .i64 l[k].kind) := by have h := hcell 1 (by omega); rw [← add_add] at h; exact h
        have HS := Lib.hid (HSS.out _ (List.getElem_mem hkl))
        have HNO := Lib.hid (kscheme_no hkl)
        clear hcell had hbw
        go_wp2_with fail
        refine (rname12_any _ wr HS.out).mono ?_
        rintro e w2 ⟨rfl, rfl⟩
        obtain ⟨nm, hnm⟩ : ∃ b, b = kname l[k].s := ⟨_, rfl⟩
        obtain ⟨kd, hkd⟩ : ∃ x, x = l[k].kind := ⟨_, rfl⟩
        rw [← hnm]
        rw [← hkd] at k1
        have HNM := Lib.hid hnm
        have HKD := Lib.hid hkd
        clear hnm hkd
        cases nm
        · go_wp2
          go_ret
          exact ⟨by rw [HNO.out (fun h => by obtain ⟨_, h2, _⟩ := h; rw [← HNM.out] at h2; cases h2)]; rfl, HB.out⟩
        · by_cases c1 : kd < 1
          · have d3 : decide (kd < 1) = true := decide_eq_true c1
            have hno := HNO.out (fun h => by obtain ⟨_, _, h2, _⟩ := h; rw [← HKD.out] at h2; omega)
            have HNO' := Lib.hid hno
            clear hno
            go_wp2
            go_ret
            exact ⟨by rw [HNO'.out]; rfl, HB.out⟩
          · have d3 : decide (kd < 1) = false := decide_eq_false c1
            by_cases c2 : 7 < kd
            · have d4 : decide (7 < kd) = true := decide_eq_true c2
              have hno := HNO.out (fun h => by obtain ⟨_, _, _, h2, _⟩ := h; rw [← HKD.out] at h2; omega)
              have HNO' := Lib.hid hno
              clear hno
              go_wp2
              go_ret
              exact ⟨by rw [HNO'.out]; rfl, HB.out⟩
            · have d4 : decide (7 < kd) = false := decide_eq_false c2
              have HC1 := Lib.hid c1
              have HC2 := Lib.hid c2
              clear c1 c2
              go_wp2
              go_loopw [5] (SchRel2 l k hkl w) (fun i _ => k - (intOf i).toNat)
              case atStart => exact ⟨0, Nat.zero_le _, rfl, fun m h => absurd h (Nat.not_lt_zero _), HB.out⟩
              case round =>
                obtain ⟨j, hj, rfl, hne, hbw2⟩ := hrel
                have HE := Lib.hid hne
                have HB2 := Lib.hid hbw2
                clear hne k0 k1
                by_cases hlt2 : j < k
                · have hjl : j < l.length := by omega
                  have hjn : j < n := by omega
                  have hlti2 : (j : Int) < (k : Int) := by omega
                  have hltj : (j : Int) < (n : Int) := by omega
                  obtain ⟨ad1, hA1, _, hcell⟩ := (H1.out.below hbw2).at (m := 2) (fun _ => rfl) (by omega) hjl
                  obtain ⟨ad2, hA2, _, hcell2⟩ := (H1.out.below hbw2).at (m := 2) (fun _ => rfl) (by omega) hkl
                  injection hA1 with hA1
                  injection hA2 with hA2
                  subst hA1 hA2
                  have g0 : wr.cell? (ad.add (j * 2)) = some (.string l[j].s) := hcell 0 (by omega)
                  have g1 : wr.cell? (ad.add (k * 2)) = some (.string l[k].s) := hcell2 0 (by omega)
                  clear hcell hcell2 hbw2
                  cases e : (l[j].s.toList == l[k].s.toList)
                  · have hne2 : l[j].s.toList ≠ l[k].s.toList := by simpa using e
                    have HN2 := Lib.hid hne2
                    clear hne2
                    go_wp2
                    go_quiet (fail)
                    go_wp2
                    go_roundw
                    case rel =>
                      refine ⟨j + 1, hlt2, by go_num, fun m h h' => ?_, HB2.out.trans ⟨rfl, rfl, rfl, Nat.le_refl _, fun _ _ => rfl⟩⟩
                      by_cases hm : m = j
                      · subst hm; exact HN2.out
                      · exact HE.out m (by omega) h'
                    case measure => simp [intOf]; omega
                  · have heq : l[j].s.toList = l[k].s.toList := by simpa using e
                    have hno := HNO.out (fun h => by obtain ⟨_, _, _, _, h2⟩ := h; exact h2 j hlt2 heq)
                    have HNO' := Lib.hid hno
                    clear hno heq
                    go_wp2
                    go_quiet (fail)
                    go_wp2
                    go_ret
                    exact ⟨by rw [HNO'.out]; rfl, HB2.out.trans ⟨rfl, rfl, rfl, Nat.le_refl _, fun _ _ => rfl⟩⟩
                · obtain rfl : j = k := by omega
                  have hlti2 : ¬ (j : Int) < (j : Int) := by omega
                  go_wp2
                  go_roundw
                  case rel =>
                    refine ⟨j + 1, hkl, by go_num, fun m h => ?_, HB2.out⟩
                    by_cases hm : m = j
                    · subst hm
                      exact ⟨hkl, HNM.out.symm, by rw [← HKD.out]; have := HC1.out; omega, by rw [← HKD.out]; have := HC2.out; omega, fun q hq => HE.out q hq hq⟩
                    · exact HF.out m (by omega)
                  case measure => simp [intOf]; omega
      · obtain rfl : k = n := by omega
        have hlti : ¬ (k : Int) < (k : Int) := by omega
        have hk : kscheme l = 0 := by
          unfold kscheme
          rw [if_pos ⟨by have := HN.out; omega, by have := HN.out; omega, by rw [HN.out]; exact HF.out⟩]
        have HK := Lib.hid hk
        clear hk
        go_wp2
        go_ret
        exact ⟨by rw [HK.out]; rfl, HB.out⟩
  · have hk : kscheme l = 20 := by
      unfold kscheme
      rw [if_neg]
      intro h
      exact hb1 ⟨by rw [← HN.out]; exact h.1, by rw [← HN.out]; exact h.2.1⟩
    have HK := Lib.hid hk
    clear hk
    by_cases h0 : n < 1
    · have d1 : decide ((n : Int) < 1) = true := decide_eq_true (by omega)
      go_enter Tryd.func12, Tryd.ntmps12
      go_wp2
      go_ret
      exact ⟨by rw [HK.out]; rfl, Below.refl _ _⟩
    · have d1 : decide ((n : Int) < 1) = false := decide_eq_false (by omega)
      have d2 : decide ((6 : Int) < (n : Int)) = true := decide_eq_true (by omega)
      go_enter Tryd.func12, Tryd.ntmps12
      go_wp2
      go_ret
      exact ⟨by rw [HK.out]; rfl, Below.refl _ _⟩
end Go.Proofs.YtniniophoocalaaDoor

/- The program's contracts of layer 12: Number, known, right, May. -/









namespace Go.Proofs.YtniniophoocalaaDoor

open Go.RowKit

theorem knumber_own (k : Int) (w : World) : Calls Tryd.prog 51 #[.int .i64 k] w fun e w' => e = .returned (.bool (knumber k)) ∧ w = w' := by
  have HK : Hid (knumber k = (decide (1 ≤ k) && decide (k ≤ 5))) := Lib.hid rfl
  cases c1 : decide (1 ≤ k)
  · rw [c1] at HK
    go_enter Tryd.func51, Tryd.ntmps51
    go_wp2
    go_ret
    exact ⟨by rw [HK.out]; rfl, rfl⟩
  · cases c2 : decide (k ≤ 5)
    all_goals
      rw [c1, c2] at HK
      go_enter Tryd.func51, Tryd.ntmps51
      go_wp2
      go_ret
      exact ⟨by rw [HK.out]; rfl, rfl⟩
/-- Whether there are columns of that kind. -/
def kknown (k : Int) : Bool := (knumber k || (k == 6)) || (k == 7)
theorem kknown_iff (k : Int) : kknown k = true ↔ 1 ≤ k ∧ k ≤ 7 := by
  unfold kknown knumber
  simp only [Bool.or_eq_true, Bool.and_eq_true, decide_eq_true_eq, beq_iff_eq]
  omega
theorem kknown_any (k : Int) (w : World) : Calls Tryd.prog 50 #[.int .i64 k] w fun e w' => e = .returned (.bool (kknown k)) ∧ w = w' := by
  have HK : Hid (kknown k = ((knumber k || (k == 6)) || (k == 7))) := Lib.hid rfl
  have HN := Lib.hid (fun W => knumber_own k W)
  cases c1 : knumber k
  · rw [c1] at HK HN
    clear c1
    cases c2 : (k == 6)
    all_goals
      rw [c2] at HK
      go_enter Tryd.func50, Tryd.ntmps50
      go_wp2_with (go_at_call 51; refine (HN.out _).mono ?_)
      rintro e w' ⟨rfl, rfl⟩
      go_wp2
      go_ret
      exact ⟨by rw [HK.out]; rfl, rfl⟩
  · rw [c1] at HK HN
    clear c1
    go_enter Tryd.func50, Tryd.ntmps50
    go_wp2_with (go_at_call 51; refine (HN.out _).mono ?_)
    rintro e w' ⟨rfl, rfl⟩
    go_wp2
    go_ret
    exact ⟨by rw [HK.out]; rfl, rfl⟩
set_option maxRecDepth 100000 in
set_option maxHeartbeats 4000000 in
/-- U+FFFD is decoded out of its three bytes, or stands for what can't be read, which takes one byte. -/
theorem decodeN_fffd (n b0 b1 b2 b3 : Nat) (h0 : b0 < 256) (_h1 : b1 < 256) (_h2 : b2 < 256) (_h3 : b3 < 256) (h : (Lib.decodeN n b0 b1 b2 b3).1 = 65533) :
    ((Lib.decodeN n b0 b1 b2 b3).2 = 1 ∧ ¬ (3 ≤ n ∧ b0 = 239 ∧ b1 = 191 ∧ b2 = 189)) ∨ ((Lib.decodeN n b0 b1 b2 b3).2 = 3 ∧ 3 ≤ n ∧ b0 = 239 ∧ b1 = 191 ∧ b2 = 189) := by
  unfold Lib.decodeN at h ⊢
  repeat' split at h
  all_goals simp only [] at h
  all_goals first
    | (exfalso; omega)
    | (rw [if_neg (by omega), if_neg (by omega), if_pos (by omega), if_pos (by omega)]; right; simp only []; omega)
    | skip
  all_goals
    repeat' split
    all_goals first | (exfalso; omega) | (left; refine ⟨rfl, ?_⟩; omega) | (right; refine ⟨rfl, ?_⟩; omega)
theorem prefix3 (l : List UInt8) : Lib.hasPrefix l [239, 191, 189] = true ↔ 3 ≤ l.length ∧ (l.getD 0 0).toNat = 239 ∧ (l.getD 1 0).toNat = 191 ∧ (l.getD 2 0).toNat = 189 := by
  unfold Lib.hasPrefix
  rcases l with _ | ⟨a, _ | ⟨b, _ | ⟨c, l⟩⟩⟩
  · simp
  · simp
  · simp
  · simp only [List.isPrefixOf, List.getD_cons_zero, List.getD_cons_succ, List.length_cons, Bool.and_eq_true, beq_iff_eq, and_true]
    constructor
    · rintro ⟨rfl, rfl, rfl⟩
      exact ⟨by omega, rfl, rfl, rfl⟩
    · rintro ⟨-, h1, h2, h3⟩
      exact ⟨UInt8.toNat_inj.1 h1.symm, UInt8.toNat_inj.1 h2.symm, UInt8.toNat_inj.1 h3.symm⟩
/-- One step of reading a text, as the program takes it. -/
theorem valid_step (l : List UInt8) (hne : l ≠ []) : Lib.validD l = if (Lib.decodeL l).1 = 65533 ∧ Lib.hasPrefix l [239, 191, 189] = false then false else Lib.validD (l.drop (Lib.decodeL l).2) := by
  rw [Lib.validD_step l hne]
  by_cases h : (Lib.decodeL l).1 = 65533
  · have hd := Lib.decodeL_N l
    have h' := h
    rw [hd] at h'
    have key := decodeN_fffd _ _ _ _ _ (UInt8.toNat_lt _) (UInt8.toNat_lt _) (UInt8.toNat_lt _) (UInt8.toNat_lt _) h'
    rw [← hd] at key
    rcases key with ⟨k1, k2⟩ | ⟨k1, k2⟩
    · have : Lib.hasPrefix l [239, 191, 189] = false := by
        rw [← Bool.not_eq_true, prefix3]
        exact k2
      rw [if_pos ⟨h, k1⟩, if_pos ⟨h, this⟩]
    · have : Lib.hasPrefix l [239, 191, 189] = true := (prefix3 l).2 k2
      rw [if_neg (by rw [k1]; omega), if_neg (by rw [this]; simp)]
  · rw [if_neg (fun h2 => h h2.1), if_neg (fun h2 => h h2.1)]
/-- What a range over a text knows of its place. -/
def TextRel (s : ByteArray) (w wr : World) : Prop := ∃ pos : Nat, wr.heap[w.heap.size]? = some (.stringIter s pos) ∧ Lib.validD (s.data.toList.drop pos) = Lib.validD s.data.toList ∧ Below w.heap.size w wr
set_option maxHeartbeats 2000000 in
set_option maxRecDepth 100000 in
theorem kright_any (s : ByteArray) (w : World) (hs : s.size ≤ maxLen) : Calls Tryd.prog 52 #[.string s] w fun e w' => e = .returned (.bool (Lib.validD s.data.toList)) ∧ Below w.heap.size w w' := by
  have hsi : (s.size : Int) ≤ 9223372036854775807 := by unfold maxLen at hs; omega
  go_enter Tryd.func52, Tryd.ntmps52
  go_wp2
  go_loopw [] (TextRel s w) (fun wr => s.size - wr.iterPos w.heap.size)
  case atStart =>
    refine ⟨0, ?_, rfl, (Below.refl _ w).alloc (Nat.le_refl _) _⟩
    exact World.iter_heap w s 0
  case round =>
    obtain ⟨pos, hit, hv, hbw⟩ := hrel
    by_cases hp : pos < s.size
    · have hnx : ∀ ty, (Instr.next (.pointer (some ⟨w.heap.size, 0, none⟩)) true ty).run Tryd.prog wr = _ := fun ty => Lib.run_next_any_at wr w.heap.size s pos ty hit hp
      have hit2 := Lib.iterAt_heap wr w.heap.size s pos (pos + (Utf8.decode s pos).2) hit
      have hbw2 := Lib.below_iterAt hbw (k := w.heap.size) (Nat.le_refl _) s (pos + (Utf8.decode s pos).2)
      have hwd := Lib.width_pos s pos
      have hne : s.data.toList.drop pos ≠ [] := by
        intro h0
        have h1 := congrArg List.length h0
        rw [List.length_drop, ← Lib.size_eq] at h1
        simp at h1
        omega
      have hst := valid_step _ hne
      rw [Lib.decodeL_drop, List.drop_drop] at hst
      have hpi : (pos : Int) ≤ (s.size : Int) := by omega
      obtain ⟨r, hr⟩ : ∃ r, r = (Utf8.decode s pos).1 := ⟨_, rfl⟩
      obtain ⟨d, hd⟩ : ∃ d, d = (Utf8.decode s pos).2 := ⟨_, rfl⟩
      rw [← hr, ← hd] at hst
      rw [← hd] at hit2 hbw2 hwd
      simp only [← hr, ← hd] at hnx
      have HIT := Lib.hid hit
      have HIT2 := Lib.hid hit2
      have HB2 := Lib.hid hbw2
      have HV := Lib.hid hv
      have HD := Lib.hid hwd
      clear hr hd hne hit hit2 hbw hbw2 hv hwd
      by_cases h1 : r = 65533
      · subst h1
        have HP := Lib.hid (fun W => lprefix_any (s.extract pos s.size) ⟨#[239, 191, 189]⟩ W)
        rw [show (s.extract pos s.size).data.toList = s.data.toList.drop pos by rw [Lib.extract_data, List.take_of_length_le (by rw [List.length_drop, ← Lib.size_eq]; exact Nat.le_refl _)]] at HP
        change Hid (∀ W, Calls Tryd.prog 59 _ W fun e w' => e = .returned (.bool (Lib.hasPrefix (s.data.toList.drop pos) [239, 191, 189])) ∧ W = w') at HP
        cases hp2 : Lib.hasPrefix (s.data.toList.drop pos) [239, 191, 189]
        · rw [hp2] at HP
          rw [if_pos ⟨rfl, hp2⟩] at hst
          have HX := Lib.hid (HV.out.symm.trans hst)
          clear hst hp2
          go_wp2_with (go_at_call 59; refine (HP.out _).mono ?_; rintro e w' ⟨rfl, rfl⟩)
          go_ret
          exact ⟨by rw [HX.out]; rfl, HB2.out⟩
        · rw [hp2] at HP
          rw [if_neg (by rw [hp2]; simp)] at hst
          have HX := Lib.hid (hst.symm.trans HV.out)
          clear hst hp2
          go_wp2_with (go_at_call 59; refine (HP.out _).mono ?_; rintro e w' ⟨rfl, rfl⟩)
          go_roundw
          case rel => exact ⟨pos + d, HIT2.out, HX.out, HB2.out⟩
          case measure =>
            have := HD.out
            simp only [World.iterPos, HIT.out, HIT2.out]
            omega
      · have hrf : ((r : Int) == 65533) = false := by simp; omega
        rw [if_neg (fun h => h1 h.1)] at hst
        have HX := Lib.hid (hst.symm.trans HV.out)
        clear hst h1
        go_wp2
        go_roundw
        case rel => exact ⟨pos + d, HIT2.out, HX.out, HB2.out⟩
        case measure =>
          have := HD.out
          simp only [World.iterPos, HIT.out, HIT2.out]
          omega
    · have hnx : ∀ ty, (Instr.next (.pointer (some ⟨w.heap.size, 0, none⟩)) true ty).run Tryd.prog wr = _ := fun ty => Lib.run_next_end_at wr w.heap.size s pos ty hit hp
      have h0 : s.data.toList.drop pos = [] := List.drop_eq_nil_of_le (by rw [← Lib.size_eq]; omega)
      rw [h0] at hv
      have HV := Lib.hid hv
      have HB := Lib.hid hbw
      clear hv hbw h0
      go_wp2
      go_ret
      exact ⟨by rw [← HV.out]; rfl, HB.out⟩
/-- What the program asks of a value, of its tests. -/
def kmayP (kn b e1 nu n0 s0 n1 len k7 v : Bool) : Bool :=
  bif !kn then false else bif b then n0 && s0 else bif e1 then s0 && (n0 || n1) else bif nu then s0 else (n0 && len) && (k7 || v)
theorem kmay_own (k : Int) (b : Bool) (n : Int) (s : ByteArray) : kmay k ⟨b, n, s⟩ = kmayP (kknown k) b (k == 1) (knumber k) (n == 0) (s.toList == []) (n == 1) (decide ((s.size : Int) ≤ 300)) (k == 7) (Lib.validD s.data.toList) := by
  rw [kmay_of]
  unfold kmayB kmayP
  have h0 := kknown_iff k
  by_cases h1 : k < 1
  · rw [decide_eq_true h1, show kknown k = false by rw [← Bool.not_eq_true, h0]; omega]; rfl
  · by_cases h7 : 7 < k
    · rw [decide_eq_true h7, show kknown k = false by rw [← Bool.not_eq_true, h0]; omega, Bool.or_true]; rfl
    · rw [decide_eq_false h1, decide_eq_false h7, show kknown k = true from h0.2 (by omega)]
      by_cases h5 : k ≤ 5
      · rw [decide_eq_true h5, show knumber k = true by unfold knumber; rw [decide_eq_true h5, decide_eq_true (by omega)]; rfl]
        by_cases e : k = 1
        · subst e; cases b <;> simp
        · rw [show (k == 1) = false by simpa using e, show (k != 1) = true by simpa using e]
          cases b <;> simp
      · rw [decide_eq_false h5, show knumber k = false by unfold knumber; rw [decide_eq_false h5, Bool.and_false], show (k == 1) = false by simp; omega]
        cases b <;> simp
set_option maxHeartbeats 4000000 in
set_option maxRecDepth 100000 in
theorem kmay_free (k : Int) (v : CV) (w : World) (hs : v.s.size ≤ maxLen) : Calls Tryd.prog 44 #[.int .i64 k, cv v] w fun e w' => e = .returned (.bool (kmay k v)) ∧ Below w.heap.size w w' := by
  obtain ⟨b, n, s⟩ := v
  dsimp only at hs
  have HVS := Lib.hid (fun W => kright_any s W hs)
  have hA : Row (w.alloc (.cells #[.bool b, .int .i64 n, .string s] 41)) w.heap.size 41 [.bool b, .int .i64 n, .string s] := heap_alloc_new w _
  have hb : Below w.heap.size w (w.alloc (.cells #[.bool b, .int .i64 n, .string s] 41)) := (Below.refl _ _).alloc (Nat.le_refl _) _
  have HBE := Lib.hid hb
  have a0 := hA.cell 0
  have a1 := hA.cell 1
  have a2 := hA.cell 2
  have HK0 := kmay_own k b n s
  have HN1 := Lib.hid (fun W => kknown_any k W)
  have HN2 := Lib.hid (fun W => knumber_own k W)
  clear hA hb hs
  unfold cv
  cases kn : kknown k
  · rw [kn] at HK0
    have HK := Lib.hid HK0
    clear HK0
    rw [kn] at HN1
    clear kn
    go_enter Tryd.func44, Tryd.ntmps44
    go_wp2_with (first | (go_at_call 50; refine (HN1.out _).mono ?_; rintro e w' ⟨rfl, rfl⟩))
    go_ret
    exact ⟨by rw [HK.out]; rfl, HBE.out⟩
  · cases b
    · cases e1 : (k == 1)
      · cases nu : knumber k
        · cases n0 : (n == 0)
          · rw [kn, e1, nu, n0] at HK0
            have HK := Lib.hid HK0
            clear HK0
            rw [kn] at HN1
            clear kn
            rw [nu] at HN2
            clear nu
            go_enter Tryd.func44, Tryd.ntmps44
            go_wp2_with (first | (go_at_call 50; refine (HN1.out _).mono ?_; rintro e w' ⟨rfl, rfl⟩) | (go_at_call 51; refine (HN2.out _).mono ?_; rintro e w' ⟨rfl, rfl⟩))
            go_ret
            exact ⟨by rw [HK.out]; rfl, HBE.out⟩
          · cases len : decide ((s.size : Int) ≤ 300)
            · rw [kn, e1, nu, n0, len] at HK0
              have HK := Lib.hid HK0
              clear HK0
              rw [kn] at HN1
              clear kn
              rw [nu] at HN2
              clear nu
              go_enter Tryd.func44, Tryd.ntmps44
              go_wp2_with (first | (go_at_call 50; refine (HN1.out _).mono ?_; rintro e w' ⟨rfl, rfl⟩) | (go_at_call 51; refine (HN2.out _).mono ?_; rintro e w' ⟨rfl, rfl⟩))
              go_ret
              exact ⟨by rw [HK.out]; rfl, HBE.out⟩
            · cases k7 : (k == 7)
              · rw [kn, e1, nu, n0, len, k7] at HK0
                have HK := Lib.hid HK0
                clear HK0
                rw [kn] at HN1
                clear kn
                rw [nu] at HN2
                clear nu
                go_enter Tryd.func44, Tryd.ntmps44
                go_wp2_with (first | (go_at_call 50; refine (HN1.out _).mono ?_; rintro e w' ⟨rfl, rfl⟩) | (go_at_call 51; refine (HN2.out _).mono ?_; rintro e w' ⟨rfl, rfl⟩))
                refine (HVS.out _).mono ?_
                rintro e w2 ⟨rfl, hb2⟩
                have HB2 := Lib.hid (below_then HBE.out hb2)
                clear hb2
                go_wp2
                go_ret
                exact ⟨by rw [HK.out]; rfl, HB2.out⟩
              · rw [kn, e1, nu, n0, len, k7] at HK0
                have HK := Lib.hid HK0
                clear HK0
                rw [kn] at HN1
                clear kn
                rw [nu] at HN2
                clear nu
                go_enter Tryd.func44, Tryd.ntmps44
                go_wp2_with (first | (go_at_call 50; refine (HN1.out _).mono ?_; rintro e w' ⟨rfl, rfl⟩) | (go_at_call 51; refine (HN2.out _).mono ?_; rintro e w' ⟨rfl, rfl⟩))
                go_ret
                exact ⟨by rw [HK.out]; rfl, HBE.out⟩
        · cases s0 : (s.toList == [])
          · rw [kn, e1, nu, s0] at HK0
            have HK := Lib.hid HK0
            clear HK0
            rw [kn] at HN1
            clear kn
            rw [nu] at HN2
            clear nu
            go_enter Tryd.func44, Tryd.ntmps44
            go_wp2_with (first | (go_at_call 50; refine (HN1.out _).mono ?_; rintro e w' ⟨rfl, rfl⟩) | (go_at_call 51; refine (HN2.out _).mono ?_; rintro e w' ⟨rfl, rfl⟩))
            go_ret
            exact ⟨by rw [HK.out]; rfl, HBE.out⟩
          · rw [kn, e1, nu, s0] at HK0
            have HK := Lib.hid HK0
            clear HK0
            rw [kn] at HN1
            clear kn
            rw [nu] at HN2
            clear nu
            go_enter Tryd.func44, Tryd.ntmps44
            go_wp2_with (first | (go_at_call 50; refine (HN1.out _).mono ?_; rintro e w' ⟨rfl, rfl⟩) | (go_at_call 51; refine (HN2.out _).mono ?_; rintro e w' ⟨rfl, rfl⟩))
            go_ret
            exact ⟨by rw [HK.out]; rfl, HBE.out⟩
      · cases s0 : (s.toList == [])
        · rw [kn, e1, s0] at HK0
          have HK := Lib.hid HK0
          clear HK0
          rw [kn] at HN1
          clear kn
          go_enter Tryd.func44, Tryd.ntmps44
          go_wp2_with (first | (go_at_call 50; refine (HN1.out _).mono ?_; rintro e w' ⟨rfl, rfl⟩))
          go_ret
          exact ⟨by rw [HK.out]; rfl, HBE.out⟩
        · cases n0 : (n == 0)
          · cases n1 : (n == 1)
            · rw [kn, e1, s0, n0, n1] at HK0
              have HK := Lib.hid HK0
              clear HK0
              rw [kn] at HN1
              clear kn
              go_enter Tryd.func44, Tryd.ntmps44
              go_wp2_with (first | (go_at_call 50; refine (HN1.out _).mono ?_; rintro e w' ⟨rfl, rfl⟩))
              go_ret
              exact ⟨by rw [HK.out]; rfl, HBE.out⟩
            · rw [kn, e1, s0, n0, n1] at HK0
              have HK := Lib.hid HK0
              clear HK0
              rw [kn] at HN1
              clear kn
              go_enter Tryd.func44, Tryd.ntmps44
              go_wp2_with (first | (go_at_call 50; refine (HN1.out _).mono ?_; rintro e w' ⟨rfl, rfl⟩))
              go_ret
              exact ⟨by rw [HK.out]; rfl, HBE.out⟩
          · rw [kn, e1, s0, n0] at HK0
            have HK := Lib.hid HK0
            clear HK0
            rw [kn] at HN1
            clear kn
            go_enter Tryd.func44, Tryd.ntmps44
            go_wp2_with (first | (go_at_call 50; refine (HN1.out _).mono ?_; rintro e w' ⟨rfl, rfl⟩))
            go_ret
            exact ⟨by rw [HK.out]; rfl, HBE.out⟩
    · cases n0 : (n == 0)
      · rw [kn, n0] at HK0
        have HK := Lib.hid HK0
        clear HK0
        rw [kn] at HN1
        clear kn
        go_enter Tryd.func44, Tryd.ntmps44
        go_wp2_with (first | (go_at_call 50; refine (HN1.out _).mono ?_; rintro e w' ⟨rfl, rfl⟩))
        go_ret
        exact ⟨by rw [HK.out]; rfl, HBE.out⟩
      · cases s0 : (s.toList == [])
        · rw [kn, n0, s0] at HK0
          have HK := Lib.hid HK0
          clear HK0
          rw [kn] at HN1
          clear kn
          go_enter Tryd.func44, Tryd.ntmps44
          go_wp2_with (first | (go_at_call 50; refine (HN1.out _).mono ?_; rintro e w' ⟨rfl, rfl⟩))
          go_ret
          exact ⟨by rw [HK.out]; rfl, HBE.out⟩
        · rw [kn, n0, s0] at HK0
          have HK := Lib.hid HK0
          clear HK0
          rw [kn] at HN1
          clear kn
          go_enter Tryd.func44, Tryd.ntmps44
          go_wp2_with (first | (go_at_call 50; refine (HN1.out _).mono ?_; rintro e w' ⟨rfl, rfl⟩))
          go_ret
          exact ⟨by rw [HK.out]; rfl, HBE.out⟩
end Go.Proofs.YtniniophoocalaaDoor

/- The program's contracts of layer 12: Compare, Same. -/





namespace Go.Proofs.YtniniophoocalaaDoor

open Go.RowKit

set_option maxHeartbeats 1000000 in
set_option maxRecDepth 100000 in
theorem kcmp_own (a b : CV) (w : World) : Calls Tryd.prog 55 #[cv a, cv b] w fun e w' => e = .returned (.int .i64 (kcmp a b)) ∧ Below w.heap.size w w' := by
  obtain ⟨an, ai, as_⟩ := a
  obtain ⟨bn, bi, bs⟩ := b
  have hA : Row ((w.alloc (.cells #[.bool an, .int .i64 ai, .string as_] 41)).alloc (.cells #[.bool bn, .int .i64 bi, .string bs] 41)) w.heap.size 41 [.bool an, .int .i64 ai, .string as_] := (show Row (w.alloc _) _ _ _ from heap_alloc_new w _).alloc _
  have hB : Row ((w.alloc (.cells #[.bool an, .int .i64 ai, .string as_] 41)).alloc (.cells #[.bool bn, .int .i64 bi, .string bs] 41)) (w.heap.size + 1) 41 [.bool bn, .int .i64 bi, .string bs] := by
    have h := heap_alloc_new (w.alloc (.cells #[.bool an, .int .i64 ai, .string as_] 41)) (.cells #[.bool bn, .int .i64 bi, .string bs] 41)
    rw [show (w.alloc (.cells #[.bool an, .int .i64 ai, .string as_] 41)).heap.size = w.heap.size + 1 by simp] at h
    exact h
  have hb : Below w.heap.size w ((w.alloc (.cells #[.bool an, .int .i64 ai, .string as_] 41)).alloc (.cells #[.bool bn, .int .i64 bi, .string bs] 41)) := ((Below.refl _ _).alloc (Nat.le_refl _) _).alloc (by simp) _
  have HBE := Lib.hid hb
  have a0 := hA.cell 0
  have a1 := hA.cell 1
  have a2 := hA.cell 2
  have b0 := hB.cell 0
  have b1 := hB.cell 1
  have b2 := hB.cell 2
  clear hA hB hb
  unfold cv
  cases h0 : (!an == bn)
  · obtain rfl : an = bn := by cases an <;> cases bn <;> simp_all
    by_cases h1 : ai = bi
    · subst h1
      have HC := Lib.hid (fun W => lcompareI_any ai ai W)
      rw [show Lib.compareInt ai ai = 0 by unfold Lib.compareInt; simp] at HC
      obtain ⟨t, ht⟩ : ∃ t, t = Lib.compareBytes as_.data.toList bs.data.toList := ⟨_, rfl⟩
      have HS := Lib.hid (fun W => lcompareS_any as_ bs W)
      rw [← ht] at HS
      have hk : kcmp ⟨an, ai, as_⟩ ⟨an, ai, bs⟩ = t := by
        rw [ht, compareBytes_sless]
        by_cases h3 : as_ = bs
        · subst h3; rw [kcmp_self, if_pos rfl]
        · rw [kcmp_s (a := ⟨an, ai, as_⟩) (b := ⟨an, ai, bs⟩) rfl rfl h3, if_neg h3]
      have HK := Lib.hid hk
      clear hk ht
      go_enter Tryd.func55, Tryd.ntmps55
      go_wp2_with (go_at_call 60; refine (HC.out _).mono ?_)
      rintro e w' ⟨rfl, rfl⟩
      go_wp2_with (go_at_call 61; refine (HS.out _).mono ?_)
      rintro e w' ⟨rfl, rfl⟩
      go_wp2
      go_ret
      exact ⟨by rw [HK.out]; rfl, HBE.out⟩
    · obtain ⟨t, ht, hk, htn⟩ : ∃ t, Lib.compareInt ai bi = t ∧ kcmp ⟨an, ai, as_⟩ ⟨an, bi, bs⟩ = t ∧ (t = -1 ∨ t = 1) := by
        rw [kcmp_n (a := ⟨an, ai, as_⟩) (b := ⟨an, bi, bs⟩) rfl h1]
        unfold Lib.compareInt
        by_cases h2 : ai < bi
        · exact ⟨-1, if_pos h2, if_pos h2, .inl rfl⟩
        · exact ⟨1, by rw [if_neg h2, if_pos (by omega)], if_neg h2, .inr rfl⟩
      have HC := Lib.hid (fun W => lcompareI_any ai bi W)
      rw [ht] at HC
      have HK := Lib.hid hk
      clear ht hk h1
      rcases htn with rfl | rfl
      all_goals
        go_enter Tryd.func55, Tryd.ntmps55
        go_wp2_with (go_at_call 60; refine (HC.out _).mono ?_)
        rintro e w' ⟨rfl, rfl⟩
        go_wp2
        go_ret
        exact ⟨by rw [HK.out]; rfl, HBE.out⟩
  · cases an
    · cases bn
      · simp at h0
      · have HK := Lib.hid (kcmp_of false true ai bi as_ bs)
        rw [h0] at HK
        clear h0
        go_enter Tryd.func55, Tryd.ntmps55
        go_wp2
        go_ret
        exact ⟨by rw [HK.out]; rfl, HBE.out⟩
    · cases bn
      · have HK := Lib.hid (kcmp_of true false ai bi as_ bs)
        rw [h0] at HK
        clear h0
        go_enter Tryd.func55, Tryd.ntmps55
        go_wp2
        go_ret
        exact ⟨by rw [HK.out]; rfl, HBE.out⟩
      · simp at h0
end Go.Proofs.YtniniophoocalaaDoor

/- The program's contracts of layer 12: Schema, Row. -/







namespace Go.Proofs.YtniniophoocalaaDoor

open Go.RowKit

end Go.Proofs.YtniniophoocalaaDoor

/- The program's contracts of layer 12. -/







namespace Go.Proofs.YtniniophoocalaaDoor

open Go.RowKit

set_option maxRecDepth 100000 in
theorem ksame_own (a b : CV) (w : World) : Calls Tryd.prog 54 #[cv a, cv b] w fun e w' => e = .returned (.bool (kcmp a b == 0)) ∧ Below w.heap.size w w' := by
  have HC := Lib.hid (fun W => kcmp_own a b W)
  obtain ⟨an, ai, as_⟩ := a
  obtain ⟨bn, bi, bs⟩ := b
  obtain ⟨t, ht⟩ : ∃ t, t = kcmp ⟨an, ai, as_⟩ ⟨bn, bi, bs⟩ := ⟨_, rfl⟩
  rw [← ht] at HC
  rw [← ht]
  clear ht
  unfold cv at *
  dsimp only at HC
  have hA : Row ((w.alloc (.cells #[.bool an, .int .i64 ai, .string as_] 41)).alloc (.cells #[.bool bn, .int .i64 bi, .string bs] 41)) w.heap.size 41 [.bool an, .int .i64 ai, .string as_] := (show Row (w.alloc _) _ _ _ from heap_alloc_new w _).alloc _
  have hB : Row ((w.alloc (.cells #[.bool an, .int .i64 ai, .string as_] 41)).alloc (.cells #[.bool bn, .int .i64 bi, .string bs] 41)) (w.heap.size + 1) 41 [.bool bn, .int .i64 bi, .string bs] := by
    have h := heap_alloc_new (w.alloc (.cells #[.bool an, .int .i64 ai, .string as_] 41)) (.cells #[.bool bn, .int .i64 bi, .string bs] 41)
    rw [show (w.alloc (.cells #[.bool an, .int .i64 ai, .string as_] 41)).heap.size = w.heap.size + 1 by simp] at h
    exact h
  have HBE := Lib.hid (show Below w.heap.size w ((w.alloc (.cells #[.bool an, .int .i64 ai, .string as_] 41)).alloc (.cells #[.bool bn, .int .i64 bi, .string bs] 41)) from ((Below.refl _ _).alloc (Nat.le_refl _) _).alloc (by simp) _)
  have a0 := hA.cell 0
  have a1 := hA.cell 1
  have a2 := hA.cell 2
  have b0 := hB.cell 0
  have b1 := hB.cell 1
  have b2 := hB.cell 2
  clear hA hB
  go_enter Tryd.func54, Tryd.ntmps54
  go_wp2_with fail
  refine (HC.out _).mono ?_
  rintro e w2 ⟨rfl, hb2⟩
  have HB2 := Lib.hid (below_then HBE.out hb2)
  clear hb2
  go_wp2
  go_ret
  exact ⟨rfl, HB2.out⟩
end Go.Proofs.YtniniophoocalaaDoor

/- Slices of values of several cells each, and what fields hold, that come in. Over any program. -/









namespace Go.Proofs.YtniniophoocalaaDoor

open Go.RowKit Go.ChangeShapes Go.WideShapes Go.Deep

/-- A slice, in a field, of values of several cells each; what each holds may lie elsewhere. -/
theorem open_wide0 {H : Type} {enc : TypeId × Value → H} {P : Program} {α : Type} [Inhabited α] {f : α → List Value} {m : Nat} {p : α → Prop} {t e : TypeId} {W : World} {v : Value} {y : DataW H × List MemPlace} {fuel : Nat}
    (ht : P.underlying t = some (.slice e)) (hc : P.cellsOf e = m) (hm : 0 < m) (hf : ∀ x, (f x).length = m)
    (each : ∀ cs n x, cs.length = m → DataW.trod enc P W 0 (fun _ => true) true n e cs = some x → (∀ q ∈ x.2, q.block < W.heap.size) → ∃ a : α, cs = f a ∧ p a)
    (hf0 : DataW.trod enc P W 0 (fun _ => true) true fuel t [v] = some y) (hlt : ∀ x ∈ y.2, x.block < W.heap.size) :
    ∃ l : List α, IsR f l v W ∧ ∀ x ∈ l, p x := by
  obtain ⟨d, ps⟩ := y
  rcases open_slice ht hf0 with ⟨hcs, hx⟩ | ⟨a, len, cap, k, n, D, Pl, hcs, _, hl, hmx, hk, hx, hcell⟩
  · simp at hcs
    subst hcs
    exact ⟨[], ⟨none, 0, rfl, by simp, by simp, by unfold maxLen; omega, Lies.nil⟩, by simp⟩
  · simp at hcs
    subst hcs
    simp only [Prod.mk.injEq] at hx
    obtain ⟨rfl, rfl⟩ := hx
    simp only [if_true] at hk
    obtain ⟨F, hF⟩ := choose_lt (n := len) (p := fun i (a' : α) => p a' ∧ ∀ j u, (f a')[j]? = some u → W.cell? (a.add (i * m + j)) = some u) fun i hi => by
      obtain ⟨cs', h1, h2⟩ := hcell i (by omega)
      rw [hc] at h1
      obtain ⟨_, hlen, hce⟩ := World.cells?_some h1
      obtain ⟨a', rfl, ha⟩ := each cs' n _ hlen h2 fun q hq => hlt q (List.mem_append_right _ (List.mem_flatMap.2 ⟨i, List.mem_range.2 (by omega), hq⟩))
      refine ⟨a', ha, fun j u hu => ?_⟩
      have hj : j < m := by rw [← hf a']; exact (List.getElem?_eq_some_iff.1 hu).1
      have h3 := hce j hj
      rw [add_add, hu] at h3
      exact h3
    have hll : ((List.range len).map F).length = len := by simp
    refine ⟨(List.range len).map F, ⟨some a, cap, by rw [hll], by simp, by rw [hll]; exact hl, hmx, ?_⟩, fun x hx => ?_⟩
    · by_cases h0 : len = 0
      · subst h0; exact .inl (by simp)
      · refine .inr ⟨a, rfl, ?_, fun j u hu => ?_⟩
        · have h1 := (hF 0 (by omega)).2 0 _ (List.getElem?_eq_getElem (by rw [hf]; exact hm))
          have hs : a.spot = none := by
            have h2 : a.add (0 * m + 0) = a := by simp [Addr.add]
            rw [h2] at h1
            exact World.cell?_spot h1
          obtain ⟨b, off, spot⟩ := a
          exact hlt (.cell b off) (List.mem_append_left _ (MemPlace.mem_row.2 ⟨0, by rw [hc]; exact Nat.mul_pos (by omega) hm, by simp⟩))
        · have hjl : j < len * m := by
            have h1 := (List.getElem?_eq_some_iff.1 hu).1
            rwa [flat_len hf, hll] at h1
          have hk2 : j / m < len := Nat.div_lt_of_lt_mul (by rwa [Nat.mul_comm])
          have e1 : j / m * m + j % m = j := by rw [Nat.mul_comm]; exact Nat.div_add_mod j m
          have h1 := flat_at hf ((List.range len).map F) (j / m) (by rw [hll]; exact hk2) (j % m) (Nat.mod_lt _ hm)
          rw [e1, List.getElem_map, List.getElem_range] at h1
          have h2 := (hF (j / m) hk2).2 (j % m) u (by rw [← h1]; exact hu)
          rwa [e1] at h2
    · obtain ⟨i, hi, rfl⟩ := List.mem_map.1 hx
      exact (hF i (by simpa using hi)).1
/-- A slice of values of several cells each that came in: f tells a value's cells, p what is known of each. -/
theorem open_wide {H : Type} {enc : TypeId × Value → H} {P : Program} {α : Type} [Inhabited α] {f : α → List Value} {m : Nat} {p : α → Prop} {t e : TypeId} {W : World} {v : Value} {d : DataW H} {ps : List MemPlace} {base : Nat}
    (ht : P.underlying t = some (.slice e)) (hc : P.cellsOf e = m) (hm : 0 < m) (hf : ∀ x, (f x).length = m)
    (each : ∀ cs n x, cs.length = m → DataW.trod enc P W 0 (fun _ => true) true n e cs = some x → ∃ a : α, cs = f a ∧ p a)
    (hval : Value.okWide P W .any base t v) (hd : DataW.Trod enc P W 0 (fun _ => true) true t v d ps) (hlt : ∀ x ∈ ps, x.block < W.heap.size) :
    ∃ l : List α, IsR f l v W ∧ ∀ x ∈ l, p x := by
  obtain ⟨a0, len, cap, rfl⟩ := okWide_slice ht hval
  obtain ⟨fuel, hf0⟩ := hd
  exact open_wide0 ht hc hm hf (fun cs n x h1 h2 _ => each cs n x h1 h2) (y := (d, ps)) (by simpa [Value.cells] using hf0) hlt
end Go.Proofs.YtniniophoocalaaDoor

/- Slices of structs that come in: columns, values. -/





namespace Go.Proofs.YtniniophoocalaaDoor

open Go.RowKit Go.ChangeShapes Go.WideShapes Go.Deep

instance : Inhabited CC := ⟨⟨⟨#[]⟩, 0⟩⟩
instance : Inhabited CV := ⟨⟨false, 0, ⟨#[]⟩⟩⟩
section

variable {H : Type} {enc : TypeId × Value → H} {W : World} {v : Value} {d : DataW H} {ps : List MemPlace} {base : Nat}
theorem Tryd.cells_string : Tryd.prog.cellsOf 9 = 1 := by kernel_rfl
theorem Tryd.cells_int : Tryd.prog.cellsOf 3 = 1 := by kernel_rfl
theorem Tryd.cells_bool : Tryd.prog.cellsOf 4 = 1 := by kernel_rfl
set_option maxRecDepth 100000 in
theorem open_cols (hval : Value.okWide Tryd.prog W .any base 22 v) (hd : DataW.Trod enc Tryd.prog W 0 (fun _ => true) true 22 v d ps) (hlt : ∀ x ∈ ps, x.block < W.heap.size) :
    ∃ l : List CC, IsR ccells l v W ∧ (∀ x ∈ l, x.s.size ≤ maxLen) ∧ ∀ x ∈ l, -9223372036854775808 ≤ x.kind ∧ x.kind ≤ 9223372036854775807 := by
  obtain ⟨l, h1, h2⟩ := open_wide (f := ccells) (m := 2) (p := fun x => x.s.size ≤ maxLen ∧ -9223372036854775808 ≤ x.kind ∧ x.kind ≤ 9223372036854775807) Tryd.underlying22 (by kernel_rfl) (by omega) (fun _ => rfl) (fun cs n x hlen h => by
    obtain ⟨xs, k, hk, hxy, _, hxl, hf⟩ := DataW.trod_struct Tryd.underlying39 h
    match xs, hxl, cs, hlen with
    | [y0, y1], _, [v0, v1], _ =>
      have g0 := hf 0 _ rfl
      have g1 := hf 1 _ rfl
      simp [Tryd.cells_string, Tryd.cells_int] at g0 g1
      obtain ⟨s, e0, _, hs⟩ := DataW.trod_string Tryd.underlying9 g0
      obtain ⟨i, e1, _, hw⟩ := DataW.trod_int Tryd.underlying3 g1
      simp at e0 e1
      subst e0 e1
      exact ⟨⟨s, i⟩, rfl, hs, wf_i64 hw⟩) hval hd hlt
  exact ⟨l, h1, fun x hx => (h2 x hx).1, fun x hx => (h2 x hx).2⟩
end

end Go.Proofs.YtniniophoocalaaDoor

/- Values that are nothing (layer 13), as plain mathematics. -/





namespace Go.Proofs.YtniniophoocalaaDoor

/-- What is nothing. -/
def nul : CV := ⟨true, 0, ⟨#[]⟩⟩
/-- A number. -/
def nv (n : Int) : CV := ⟨false, n, ⟨#[]⟩⟩
def nsome (l : List CV) : List CV := l.filter fun x => !x.null
theorem nsome_len (l : List CV) : (nsome l).length ≤ l.length := List.length_filter_le _ _
end Go.Proofs.YtniniophoocalaaDoor

/- Contracts of layer 13's reference: Split, Join; and of layer 12's SameRow. -/









namespace Go.Proofs.YtniniophoocalaaDoor

open Go.RowKit

theorem Tryd.infoV : (Tryd.prog.info? 41).map (fun i => (i.zero, i.size, i.bytes)) = some (some (cv ⟨false, 0, ⟨#[]⟩⟩), 3, 32) := by kernel_rfl
theorem elemW : ElemW Tryd.prog 31 41 32 3 (cv ⟨false, 0, ⟨#[]⟩⟩) := by
  obtain ⟨i0, hi, hz0, hz1, hz2⟩ := info_parts Tryd.infoV
  exact ⟨Tryd.underlying31, rfl, by omega, i0, hi, hz0, hz1, hz2⟩
theorem kcells_one (x : CV) : ∀ u ∈ kcells x, u.oneCell' = true := by
  intro u hu
  unfold kcells at hu
  simp at hu
  rcases hu with rfl | rfl | rfl <;> rfl
/-- Values and an error. -/
def RetRE (w : World) (p : List CV × Int) (e : Ending) (w' : World) : Prop := ∃ v, e = .returned (.tuple #[v, .int .i64 p.2]) ∧ IsR kcells p.1 v w' ∧ Below w.heap.size w w'
theorem RetRE.nil {w w' : World} (n : Int) (hb : Below w.heap.size w w') : RetRE w ([], n) (.returned (.tuple #[.slice none 0 0, .int .i64 n])) w' := ⟨_, rfl, isR_nil _ _, hb⟩
/-- The cells of a value in a slice. -/
theorem cells3 {w : World} {ad : Addr} {k : Nat} {x : CV} (h : ∀ i, i < 3 → w.cell? (ad.add (k * 3 + i)) = (kcells x)[i]?) :
    w.cell? (ad.add (k * 3)) = some (.bool x.null) ∧ w.cell? ⟨(ad.add (k * 3)).block, (ad.add (k * 3)).off + 1, none⟩ = some (.int .i64 x.n) ∧ w.cell? ⟨(ad.add (k * 3)).block, (ad.add (k * 3)).off + 2, none⟩ = some (.string x.s) := by
  refine ⟨h 0 (by omega), ?_, ?_⟩
  · have h1 := h 1 (by omega); rw [← add_add] at h1; exact h1
  · have h1 := h 2 (by omega); rw [← add_add] at h1; exact h1
end Go.Proofs.YtniniophoocalaaDoor

/- What is known of values (layer 17), as plain mathematics. -/





namespace Go.Proofs.YtniniophoocalaaDoor

/-- What is known of values. -/
structure GS where
  count : Int
  has : Bool
  min : CV
  max : CV
  sum : Int
  over : Bool
def gcells (s : GS) : List Value := [.int .i64 s.count, .bool s.has, .bool s.min.null, .int .i64 s.min.n, .string s.min.s, .bool s.max.null, .int .i64 s.max.n, .string s.max.s, .int .i64 s.sum, .bool s.over]
def gsv (s : GS) : Value := .agg (gcells s).toArray
def GS.inInt (s : GS) : Prop := -9223372036854775808 ≤ s.count ∧ s.count ≤ 9223372036854775807 ∧ s.min.inInt ∧ s.max.inInt ∧ -9223372036854775808 ≤ s.sum ∧ s.sum ≤ 9223372036854775807
/-- A row's sum, if it is one of an int's. -/
def gsumE (l : List Int) : Int × Bool := if -9223372036854775808 ≤ l.sum ∧ l.sum ≤ 9223372036854775807 then (l.sum, true) else (0, false)
def glow (m v : CV) : CV := if kcmp v m < 0 then v else m
def ghigh (m v : CV) : CV := if 0 < kcmp v m then v else m
def gleast : List CV → CV
  | [] => nul
  | x :: l => l.foldl glow x
def gmost : List CV → CV
  | [] => nul
  | x :: l => l.foldl ghigh x
/-- What Of answers. -/
def gofE (k : Int) (l : List CV) : GS :=
  ⟨((nsome l).length : Int), l.any (·.null), gleast (nsome l), gmost (nsome l), if knumber k = true then (gsumE ((nsome l).map (·.n))).1 else 0, knumber k && !(gsumE ((nsome l).map (·.n))).2⟩
/-- What May answers. -/
def gmayE (k : Int) (s : GS) : Bool :=
  if s.count < 0 ∨ 409600 < s.count ∨ kmay k s.min = false ∨ kmay k s.max = false ∨ s.min.null ≠ decide (s.count = 0) ∨ s.max.null ≠ decide (s.count = 0) ∨ kcmp s.max s.min < 0 then false
  else (s.sum == 0 || (!s.over && knumber k)) && (!s.over || knumber k)

theorem gleast_snoc (l : List CV) (v : CV) : gleast (l ++ [v]) = if l = [] ∨ kcmp v (gleast l) < 0 then v else gleast l := by
  cases l with
  | nil => simp [gleast]
  | cons x l =>
    show (l ++ [v]).foldl glow x = _
    rw [List.foldl_append]
    show (if kcmp v (l.foldl glow x) < 0 then v else l.foldl glow x) = _
    by_cases h : kcmp v (gleast (x :: l)) < 0
    · rw [if_pos (show kcmp v (l.foldl glow x) < 0 from h), if_pos (.inr h)]
    · rw [if_neg (show ¬ kcmp v (l.foldl glow x) < 0 from h), if_neg (by simpa using h)]
      rfl
theorem gmost_snoc (l : List CV) (v : CV) : gmost (l ++ [v]) = if l = [] ∨ 0 < kcmp v (gmost l) then v else gmost l := by
  cases l with
  | nil => simp [gmost]
  | cons x l =>
    show (l ++ [v]).foldl ghigh x = _
    rw [List.foldl_append]
    show (if 0 < kcmp v (l.foldl ghigh x) then v else l.foldl ghigh x) = _
    by_cases h : 0 < kcmp v (gmost (x :: l))
    · rw [if_pos (show 0 < kcmp v (l.foldl ghigh x) from h), if_pos (.inr h)]
    · rw [if_neg (show ¬ 0 < kcmp v (l.foldl ghigh x) from h), if_neg (by simpa using h)]
      rfl
theorem fold_low : ∀ (l : List CV) (m : CV), (l.foldl glow m = m ∨ l.foldl glow m ∈ l) ∧ kcmp (l.foldl glow m) m ≤ 0 ∧ ∀ x ∈ l, kcmp (l.foldl glow m) x ≤ 0
  | [], m => ⟨.inl rfl, by rw [List.foldl_nil, kcmp_self]; omega, by simp⟩
  | v :: l, m => by
    obtain ⟨h1, h2, h3⟩ := fold_low l (glow m v)
    have hv : kcmp (glow m v) v ≤ 0 := by
      unfold glow
      split
      · rw [kcmp_self]; omega
      · have := kcmp_neg m v; omega
    have hm : kcmp (glow m v) m ≤ 0 := by
      unfold glow
      split
      · omega
      · rw [kcmp_self]; omega
    refine ⟨?_, kcmp_trans h2 hm, fun x hx => ?_⟩
    · show l.foldl glow (glow m v) = m ∨ _
      rcases h1 with h1 | h1
      · rw [List.foldl_cons, h1]
        unfold glow
        split
        · exact .inr List.mem_cons_self
        · exact .inl rfl
      · exact .inr (List.mem_cons_of_mem _ h1)
    · rcases List.mem_cons.1 hx with rfl | hx
      · exact kcmp_trans h2 hv
      · exact h3 x hx
theorem fold_high : ∀ (l : List CV) (m : CV), (l.foldl ghigh m = m ∨ l.foldl ghigh m ∈ l) ∧ kcmp m (l.foldl ghigh m) ≤ 0 ∧ ∀ x ∈ l, kcmp x (l.foldl ghigh m) ≤ 0
  | [], m => ⟨.inl rfl, by rw [List.foldl_nil, kcmp_self]; omega, by simp⟩
  | v :: l, m => by
    obtain ⟨h1, h2, h3⟩ := fold_high l (ghigh m v)
    have hv : kcmp v (ghigh m v) ≤ 0 := by
      unfold ghigh
      split
      · rw [kcmp_self]; omega
      · omega
    have hm : kcmp m (ghigh m v) ≤ 0 := by
      unfold ghigh
      split
      · have := kcmp_neg m v; omega
      · rw [kcmp_self]; omega
    refine ⟨?_, kcmp_trans hm h2, fun x hx => ?_⟩
    · show l.foldl ghigh (ghigh m v) = m ∨ _
      rcases h1 with h1 | h1
      · rw [List.foldl_cons, h1]
        unfold ghigh
        split
        · exact .inr List.mem_cons_self
        · exact .inl rfl
      · exact .inr (List.mem_cons_of_mem _ h1)
    · rcases List.mem_cons.1 hx with rfl | hx
      · exact kcmp_trans hv h2
      · exact h3 x hx
theorem gleast_is {l : List CV} (h : l ≠ []) : gleast l ∈ l ∧ ∀ x ∈ l, kcmp (gleast l) x ≤ 0 := by
  cases l with
  | nil => exact absurd rfl h
  | cons y l =>
    obtain ⟨h1, h2, h3⟩ := fold_low l y
    refine ⟨?_, fun x hx => ?_⟩
    · rcases h1 with h1 | h1
      · exact List.mem_cons.2 (.inl h1)
      · exact List.mem_cons_of_mem _ h1
    · rcases List.mem_cons.1 hx with rfl | hx
      · exact h2
      · exact h3 x hx
theorem gmost_is {l : List CV} (h : l ≠ []) : gmost l ∈ l ∧ ∀ x ∈ l, kcmp x (gmost l) ≤ 0 := by
  cases l with
  | nil => exact absurd rfl h
  | cons y l =>
    obtain ⟨h1, h2, h3⟩ := fold_high l y
    refine ⟨?_, fun x hx => ?_⟩
    · rcases h1 with h1 | h1
      · exact List.mem_cons.2 (.inl h1)
      · exact List.mem_cons_of_mem _ h1
    · rcases List.mem_cons.1 hx with rfl | hx
      · exact h2
      · exact h3 x hx
theorem kcmp_anti {a b : CV} (h1 : kcmp a b ≤ 0) (h2 : kcmp b a ≤ 0) : a = b := kcmp_zero.1 (by have := kcmp_neg a b; omega)
theorem nsome_app (a b : List CV) : nsome (a ++ b) = nsome a ++ nsome b := List.filter_append _ _
end Go.Proofs.YtniniophoocalaaDoor

/- Contracts of layer 17's reference: Sum. -/







namespace Go.Proofs.YtniniophoocalaaDoor

open Go.RowKit

def ghi (l : List Int) : Int := (l.map (· / 4294967296)).sum
def glo (l : List Int) : Int := (l.map (· % 4294967296)).sum
theorem gsum_parts : ∀ l : List Int, l.sum = 4294967296 * ghi l + glo l
  | [] => rfl
  | x :: l => by
    have h := gsum_parts l
    unfold ghi glo at *
    simp only [List.map_cons, List.sum_cons]
    omega
theorem ghi_next {l : List Int} {j : Nat} (h : j < l.length) : ghi (l.take (j + 1)) = ghi (l.take j) + l[j] / 4294967296 ∧ glo (l.take (j + 1)) = glo (l.take j) + l[j] % 4294967296 := by
  unfold ghi glo
  rw [List.take_succ_eq_append_getElem h, List.map_append, List.map_append, List.sum_append, List.sum_append]
  simp only [List.map_cons, List.map_nil, List.sum_cons, List.sum_nil, Int.add_zero, and_self]
theorem ghi_bd : ∀ {l : List Int}, (∀ x ∈ l, -9223372036854775808 ≤ x ∧ x ≤ 9223372036854775807) → -2147483648 * (l.length : Int) ≤ ghi l ∧ ghi l ≤ 2147483648 * (l.length : Int) ∧ 0 ≤ glo l ∧ glo l ≤ 4294967296 * (l.length : Int)
  | [], _ => by simp [ghi, glo]
  | x :: l, h => by
    have h1 := ghi_bd (l := l) fun y hy => h y (List.mem_cons_of_mem _ hy)
    have h2 := h x List.mem_cons_self
    unfold ghi glo at *
    simp only [List.map_cons, List.sum_cons, List.length_cons]
    omega
/-- What Sum answers, by its parts. -/
theorem gsum_end (l : List Int) {H : Int} (hH : H = ghi l + glo l / 4294967296) : (H < -2147483648 ∨ 2147483648 ≤ H → gsumE l = (0, false)) ∧ (¬ (H < -2147483648 ∨ 2147483648 ≤ H) → gsumE l = (4294967296 * H + glo l % 4294967296, true)) := by
  have h := gsum_parts l
  unfold gsumE
  constructor
  · intro h1
    rw [if_neg (by omega)]
  · intro h1
    rw [if_pos (by omega), h]
    refine Prod.ext ?_ rfl
    show 4294967296 * ghi l + glo l = _
    omega
def GSumRel (l : List Int) (w : World) (h lo i : Value) (wr : World) : Prop := ∃ j : Nat, j ≤ l.length ∧ i = .int .i64 (j : Int) ∧ h = .int .i64 (ghi (l.take j)) ∧ lo = .int .i64 (glo (l.take j)) ∧ w = wr
set_option maxHeartbeats 2000000 in
set_option maxRecDepth 100000 in
theorem rsum17_any (l : List Int) (v : Value) (w : World) (hv : IsV iv l v w) (hi : ∀ x ∈ l, -9223372036854775808 ≤ x ∧ x ≤ 9223372036854775807) (hb : l.length ≤ 1000000) :
    Calls Tryd.prog 42 #[v] w fun e w' => e = .returned (.tuple #[.int .i64 (gsumE l).1, .bool (gsumE l).2]) ∧ w = w' := by
  obtain ⟨A, n, c, rfl⟩ := hv.shape
  have HN := Lib.hid hv.parts.1
  have HV := Lib.hid hv
  have HI := Lib.hid hi
  have hn6 : n ≤ 1000000 := by have := HN.out; omega
  have HST := Lib.hid (show GSumRel l w (.int .i64 0) (.int .i64 0) (.int .i64 0) w from ⟨0, Nat.zero_le _, rfl, rfl, rfl, rfl⟩)
  clear hv hi hb
  go_enter Tryd.func42, Tryd.ntmps42
  go_wp2
  go_loopw [4, 5, 6] (GSumRel l w) (fun _ _ i _ => n - (intOf i).toNat)
  case atStart => exact HST.out
  case round =>
    obtain ⟨j, hj, rfl, rfl, rfl, rfl⟩ := hrel
    have hjn : j ≤ n := by have := HN.out; omega
    have hbd := ghi_bd (l := l.take j) fun x hx => HI.out x (List.mem_of_mem_take hx)
    rw [List.length_take] at hbd
    obtain ⟨H, hH⟩ : ∃ H, H = ghi (l.take j) := ⟨_, rfl⟩
    obtain ⟨Lo, hLo⟩ : ∃ Lo, Lo = glo (l.take j) := ⟨_, rfl⟩
    rw [← hH, ← hLo] at hbd ⊢
    have hH6 : -2147483648000000 ≤ H ∧ H ≤ 2147483648000000 ∧ 0 ≤ Lo ∧ Lo ≤ 4294967296000000 := by omega
    clear HST hj hbd
    by_cases hlt : j < n
    · have hjl : j < l.length := by have := HN.out; omega
      have hlti : (j : Int) < (n : Int) := by omega
      obtain ⟨ad, hAd, _, hcell⟩ := HV.out.at hjl
      subst hAd
      have hnx := ghi_next hjl
      have hxi := HI.out _ (List.getElem_mem hjl)
      rw [← hH, ← hLo] at hnx
      obtain ⟨x, hx⟩ : ∃ x, x = l[j] := ⟨_, rfl⟩
      rw [← hx] at hcell hnx hxi
      have hcx : w.cell? (ad.add j) = some (.int .i64 x) := hcell
      obtain ⟨d, hd⟩ : ∃ d, d = x / 4294967296 := ⟨_, rfl⟩
      have hd6 : -2147483648 ≤ d ∧ d ≤ 2147483647 := by omega
      have HNX := Lib.hid hnx
      have hs1 : x >>> 32 = d := by rw [Int.shiftRight_eq_div_pow]; exact hd.symm
      clear hnx hx hH hLo hcell
      go_wp2
      go_roundw
      case rel => exact ⟨j + 1, hjl, by go_num, by rw [HNX.out.1], by rw [HNX.out.2]; congr 1; omega, rfl⟩
      case measure => simp [intOf]; omega
    · obtain rfl : j = n := by omega
      have hlti : ¬ (j : Int) < (j : Int) := by omega
      rw [List.take_of_length_le (by have := HN.out; omega)] at hH hLo
      obtain ⟨K, hK⟩ : ∃ K, H + Lo / 4294967296 = K := ⟨_, rfl⟩
      obtain ⟨h1, h2⟩ := gsum_end l (H := K) (by rw [← hK, hH, hLo])
      obtain ⟨R, hR⟩ : ∃ R, R = Lo % 4294967296 := ⟨_, rfl⟩
      rw [← hLo, ← hR] at h2
      have hR6 : 0 ≤ R ∧ R < 4294967296 := by omega
      have hm : bits .and .i64 Lo 4294967295 = R := (i64_mask Lo 32 (by omega)).trans hR.symm
      have H1 := Lib.hid h1
      have H2 := Lib.hid h2
      have hK6 : -3000000000000000 ≤ K ∧ K ≤ 3000000000000000 := by omega
      clear h1 h2 hH hLo hR
      by_cases g1 : K < -2147483648
      · have d1 : decide (K < -2147483648) = true := decide_eq_true g1
        have HE := Lib.hid (H1.out (.inl g1))
        clear g1
        go_wp2
        go_ret2
        rw [HE.out]
        exact ⟨rfl, rfl⟩
      by_cases g2 : 2147483648 ≤ K
      · have d1 : decide (K < -2147483648) = false := decide_eq_false g1
        have d2 : decide (2147483648 ≤ K) = true := decide_eq_true g2
        have HE := Lib.hid (H1.out (.inr g2))
        clear g1 g2
        go_wp2
        go_ret2
        rw [HE.out]
        exact ⟨rfl, rfl⟩
      · have d1 : decide (K < -2147483648) = false := decide_eq_false g1
        have d2 : decide (2147483648 ≤ K) = false := decide_eq_false g2
        have HE := Lib.hid (H2.out (by omega))
        go_wp2
        go_ret2
        rw [HE.out]
        exact ⟨by rw [show K * 4294967296 = 4294967296 * K from Int.mul_comm _ _]; rfl, rfl⟩
end Go.Proofs.YtniniophoocalaaDoor

/- Contracts of layer 17's reference: May. -/





namespace Go.Proofs.YtniniophoocalaaDoor

open Go.RowKit

theorem gmayE_no {k : Int} {s : GS} (h : s.count < 0 ∨ 409600 < s.count ∨ kmay k s.min = false ∨ kmay k s.max = false ∨ s.min.null ≠ decide (s.count = 0) ∨ s.max.null ≠ decide (s.count = 0) ∨ kcmp s.max s.min < 0) : gmayE k s = false := by unfold gmayE; rw [if_pos h]
theorem gmayE_in {k : Int} {s : GS} (h1 : ¬ s.count < 0) (h2 : ¬ 409600 < s.count) (h3 : kmay k s.min = true) (h4 : kmay k s.max = true) (h5 : s.min.null = decide (s.count = 0)) (h6 : s.max.null = decide (s.count = 0)) (h7 : ¬ kcmp s.max s.min < 0) :
    gmayE k s = ((s.sum == 0 || (!s.over && knumber k)) && (!s.over || knumber k)) := by
  unfold gmayE
  rw [if_neg]
  rintro (h | h | h | h | h | h | h)
  · exact h1 h
  · exact h2 h
  · rw [h3] at h; cases h
  · rw [h4] at h; cases h
  · exact h h5
  · exact h h6
  · exact h7 h
set_option maxHeartbeats 8000000 in
set_option maxRecDepth 100000 in
theorem rmay17_any (k : Int) (s : GS) (w : World) (hU : Tryd.U8 w) (hs1 : s.min.s.size ≤ maxLen) (hs2 : s.max.s.size ≤ maxLen) :
    Calls Tryd.prog 16 #[.int .i64 k, gsv s] w fun e w' => e = .returned (.bool (gmayE k s)) ∧ Below w.heap.size w w' := by
  obtain ⟨ct, hh, ⟨mb, mn, ms⟩, ⟨xb, xn, xs⟩, sm, ov⟩ := s
  dsimp only at hs1 hs2
  obtain ⟨S, hS⟩ : ∃ S : GS, S = ⟨ct, hh, ⟨mb, mn, ms⟩, ⟨xb, xn, xs⟩, sm, ov⟩ := ⟨_, rfl⟩
  rw [← hS]
  have hsv : gsv S = .agg #[.int .i64 ct, .bool hh, .bool mb, .int .i64 mn, .string ms, .bool xb, .int .i64 xn, .string xs, .int .i64 sm, .bool ov] := by rw [hS]; rfl
  rw [hsv]
  have HF := Lib.hid (show S.count = ct ∧ S.min = ⟨mb, mn, ms⟩ ∧ S.max = ⟨xb, xn, xs⟩ ∧ S.sum = sm ∧ S.over = ov by rw [hS]; exact ⟨rfl, rfl, rfl, rfl, rfl⟩)
  clear hsv hS
  obtain ⟨w0, hw0⟩ : ∃ w0, w0 = w.alloc (.cells #[.int .i64 ct, .bool hh, .bool mb, .int .i64 mn, .string ms, .bool xb, .int .i64 xn, .string xs, .int .i64 sm, .bool ov] 43) := ⟨_, rfl⟩
  have hr0 : Row w0 w.heap.size 43 [.int .i64 ct, .bool hh, .bool mb, .int .i64 mn, .string ms, .bool xb, .int .i64 xn, .string xs, .int .i64 sm, .bool ov] := by rw [hw0]; exact heap_alloc_new w _
  have hb0 : Below w.heap.size w w0 := by rw [hw0]; exact (Below.refl _ _).alloc (Nat.le_refl _) _
  have HR0 := Lib.hid hr0
  have HB0 := Lib.hid hb0
  have HU0 := Lib.hid (Utf8Tabs_below hU hb0)
  have HM1 := Lib.hid (fun (X : World) (h : Tryd.U8 X) => rmay12_any k ⟨mb, mn, ms⟩ X h hs1)
  have HM2 := Lib.hid (fun (X : World) (h : Tryd.U8 X) => rmay12_any k ⟨xb, xn, xs⟩ X h hs2)
  have HCM := Lib.hid (fun (X : World) => rcmp12_any ⟨xb, xn, xs⟩ ⟨mb, mn, ms⟩ X)
  have HNU := Lib.hid (fun (X : World) => rnumber12_any k X)
  obtain ⟨one, h1⟩ : ∃ b, b = kmay k ⟨mb, mn, ms⟩ := ⟨_, rfl⟩
  obtain ⟨two, h2⟩ : ∃ b, b = kmay k ⟨xb, xn, xs⟩ := ⟨_, rfl⟩
  obtain ⟨cmp, h3⟩ : ∃ b, b = kcmp ⟨xb, xn, xs⟩ ⟨mb, mn, ms⟩ := ⟨_, rfl⟩
  rw [← h1] at HM1
  rw [← h2] at HM2
  rw [← h3] at HCM
  have HNO := Lib.hid (show ct < 0 ∨ 409600 < ct ∨ one = false ∨ two = false ∨ mb ≠ decide (ct = 0) ∨ xb ≠ decide (ct = 0) ∨ cmp < 0 → gmayE k S = false from fun h => gmayE_no (by obtain ⟨e1, e2, e3, _, _⟩ := HF.out; rw [e1, e2, e3, ← h1, ← h2, ← h3]; exact h))
  have HIN := Lib.hid (show ¬ ct < 0 → ¬ 409600 < ct → one = true → two = true → mb = decide (ct = 0) → xb = decide (ct = 0) → ¬ cmp < 0 → gmayE k S = ((sm == 0 || (!ov && knumber k)) && (!ov || knumber k)) from fun g1 g2 g3 g4 g5 g6 g7 => by
    obtain ⟨e1, e2, e3, e4, e5⟩ := HF.out
    have h := gmayE_in (k := k) (s := S) (by rw [e1]; exact g1) (by rw [e1]; exact g2) (by rw [e2, ← h1]; exact g3) (by rw [e3, ← h2]; exact g4) (by rw [e2, e1]; exact g5) (by rw [e3, e1]; exact g6) (by rw [e2, e3, ← h3]; exact g7)
    rw [e4, e5] at h
    exact h)
  have hset := hw0.symm
  have a2 : w0.cell? ⟨w.heap.size, 2, none⟩ = some (.bool mb) := hr0.cell 2
  have a3 : w0.cell? ⟨w.heap.size, 3, none⟩ = some (.int .i64 mn) := hr0.cell 3
  have a4 : w0.cell? ⟨w.heap.size, 4, none⟩ = some (.string ms) := hr0.cell 4
  clear hw0 hr0 hb0 hU hs1 hs2 h1 h2 h3
  unfold cv at HM1 HM2 HCM
  go_enter Tryd.func16, Tryd.ntmps16
  go_wp2_with fail
  refine (HM1.out _ HU0.out).mono ?_
  rintro e w1 ⟨rfl, hb1⟩
  have HR1 := Lib.hid (HR0.out.below hb1 HR0.out.lt)
  have HU1 := Lib.hid (Utf8Tabs_below HU0.out hb1)
  have HB1 := Lib.hid (below_then HB0.out hb1)
  have b5 : w1.cell? ⟨w.heap.size, 5, none⟩ = some (.bool xb) := HR1.out.cell 5
  have b6 : w1.cell? ⟨w.heap.size, 6, none⟩ = some (.int .i64 xn) := HR1.out.cell 6
  have b7 : w1.cell? ⟨w.heap.size, 7, none⟩ = some (.string xs) := HR1.out.cell 7
  clear hb1 hset a2 a3 a4
  go_wp2_with fail
  refine (HM2.out _ HU1.out).mono ?_
  rintro e w2 ⟨rfl, hb2⟩
  have HR2 := Lib.hid (HR1.out.below hb2 HR1.out.lt)
  have HB2 := Lib.hid (below_then HB1.out hb2)
  have c0 : w2.cell? ⟨w.heap.size, 0, none⟩ = some (.int .i64 ct) := HR2.out.cell 0
  have c2 : w2.cell? ⟨w.heap.size, 2, none⟩ = some (.bool mb) := HR2.out.cell 2
  have c3 : w2.cell? ⟨w.heap.size, 3, none⟩ = some (.int .i64 mn) := HR2.out.cell 3
  have c4 : w2.cell? ⟨w.heap.size, 4, none⟩ = some (.string ms) := HR2.out.cell 4
  have c5 : w2.cell? ⟨w.heap.size, 5, none⟩ = some (.bool xb) := HR2.out.cell 5
  have c6 : w2.cell? ⟨w.heap.size, 6, none⟩ = some (.int .i64 xn) := HR2.out.cell 6
  have c7 : w2.cell? ⟨w.heap.size, 7, none⟩ = some (.string xs) := HR2.out.cell 7
  clear hb2 b5 b6 b7
  by_cases g1 : ct < 0
  case pos =>
    have d1 : decide (ct < 0) = true := decide_eq_true g1
    have HE := Lib.hid (HNO.out (.inl g1))
    go_wp2
    go_ret
    rw [HE.out]
    exact ⟨rfl, HB2.out⟩
  have d1 : decide (ct < 0) = false := decide_eq_false g1
  by_cases g2 : 409600 < ct
  case pos =>
    have d2 : decide (409600 < ct) = true := decide_eq_true g2
    have HE := Lib.hid (HNO.out (.inr (.inl g2)))
    go_wp2
    go_ret
    rw [HE.out]
    exact ⟨rfl, HB2.out⟩
  have d2 : decide (409600 < ct) = false := decide_eq_false g2
  cases one with
  | false =>
    have HE := Lib.hid (HNO.out (.inr (.inr (.inl rfl))))
    go_wp2
    go_ret
    rw [HE.out]
    exact ⟨rfl, HB2.out⟩
  | true =>
  cases two with
  | false =>
    have HE := Lib.hid (HNO.out (.inr (.inr (.inr (.inl rfl)))))
    go_wp2
    go_ret
    rw [HE.out]
    exact ⟨rfl, HB2.out⟩
  | true =>
  obtain ⟨z, hz⟩ : ∃ z, z = decide (ct = 0) := ⟨_, rfl⟩
  have d3 : (ct == 0) = z := by rw [hz]; rfl
  rw [← hz] at HNO HIN
  clear hz g1 g2
  by_cases g3 : mb = z
  case neg =>
    have d4 : (!mb == z) = true := by simpa using g3
    have HE := Lib.hid (HNO.out (.inr (.inr (.inr (.inr (.inl g3))))))
    clear g3
    go_wp2
    go_ret
    rw [HE.out]
    exact ⟨rfl, HB2.out⟩
  by_cases g4 : xb = z
  case neg =>
    have d4 : (!mb == z) = false := by simpa using g3
    have d5 : (!xb == z) = true := by simpa using g4
    have HE := Lib.hid (HNO.out (.inr (.inr (.inr (.inr (.inr (.inl g4)))))))
    clear g3 g4
    go_wp2
    go_ret
    rw [HE.out]
    exact ⟨rfl, HB2.out⟩
  have d4 : (!mb == z) = false := by simpa using g3
  have d5 : (!xb == z) = false := by simpa using g4
  have G3 := Lib.hid g3
  have G4 := Lib.hid g4
  clear g3 g4
  go_wp2_with fail
  refine (HCM.out _).mono ?_
  rintro e w3 ⟨rfl, hb3⟩
  have HR3 := Lib.hid (HR2.out.below hb3 HR2.out.lt)
  have HB3 := Lib.hid (below_then HB2.out hb3)
  have e8 : w3.cell? ⟨w.heap.size, 8, none⟩ = some (.int .i64 sm) := HR3.out.cell 8
  have e9 : w3.cell? ⟨w.heap.size, 9, none⟩ = some (.bool ov) := HR3.out.cell 9
  clear hb3 c0 c2 c3 c4 c5 c6 c7
  by_cases g5 : cmp < 0
  case pos =>
    have d6 : decide (cmp < 0) = true := decide_eq_true g5
    have HE := Lib.hid (HNO.out (.inr (.inr (.inr (.inr (.inr (.inr g5)))))))
    go_wp2
    go_ret
    rw [HE.out]
    exact ⟨rfl, HB3.out⟩
  have d6 : decide (cmp < 0) = false := decide_eq_false g5
  have HE := Lib.hid (HIN.out (by simpa using d1) (by simpa using d2) (by trivial) (by trivial) G3.out G4.out (by omega))
  clear g5
  go_wp2_with fail
  refine (HNU.out _).mono ?_
  rintro e w4 ⟨rfl, rfl⟩
  obtain ⟨kn, hkn⟩ : ∃ b, b = knumber k := ⟨_, rfl⟩
  rw [← hkn] at HE ⊢
  obtain ⟨q, hq⟩ : ∃ b, b = (sm == 0) := ⟨_, rfl⟩
  have d7 : (sm == 0) = q := hq.symm
  rw [d7] at HE
  clear hq hkn
  cases q <;> cases ov <;> cases kn
  all_goals
    go_wp2
    go_ret
    rw [HE.out]
    exact ⟨rfl, HB3.out⟩
end Go.Proofs.YtniniophoocalaaDoor

/- What is known of values: '==' of two that are the same, of two values; a struct stored into the midst of a block. -/









namespace Go.Proofs.YtniniophoocalaaDoor

open Go.RowKit

/-- A struct stored into the midst of a block. -/
theorem wpList_storeG {P : Program} {w : World} {ops : Array Oper} {rest : List Oper} {o : Oper} {a : Act} {Q : Exit → Act → World → Prop} (hgd : o.guard = none) (t : TypeId) (x y : Operand) (ho : o.op = .store t x y)
    (g off : Nat) (t' : TypeId) (cur cs new : List Value) (hnew : cur.take off ++ cs ++ cur.drop (off + cs.length) = new) (hx : a.eval x = .pointer (some ⟨g, off, none⟩)) (hy : a.eval y = .agg cs.toArray) (hr : Row w g t' cur) (hi : (P.info? t).map (·.size) = some cs.length)
    (hfit : off + cs.length ≤ cur.length) (h1 : ∀ u ∈ cs, u.oneCell' = true) (w0 : World) (B : Nat) (hb : Below B w0 w) (hB : B ≤ g)
    (h : ∀ w', Row w' g t' new → Below B w0 w' → w.grownBy w' (some g) → wpList P ops Q rest (a.put o.dst undef) w') : wpList P ops Q (o :: rest) a w := by
  subst hnew
  have hst := run_storeCells_at P g off t' cs 0 cur.toArray w hr (by simpa using hfit) h1
  have hrun : (storeVar t ⟨g, off, none⟩ (.agg cs.toArray)).run P w = .ok () (w.setRow g (cur.take off ++ cs ++ cur.drop (off + cs.length)).toArray) := by
    cases hq : P.info? t with
    | none => simp [hq] at hi
    | some i =>
      have hs : cs.length = i.size := by simp [hq] at hi; omega
      have hst2 : (storeCells ⟨g, off, none⟩ cs).run P w = .ok () (w.setRow g (cur.take off ++ cs ++ cur.drop (off + cs.length)).toArray) := by simpa using hst
      simp [storeVar, sizeOf, typeInfo, hq, Value.cells, hs]
      rw [← hs]
      simpa using hst2
  refine wpList_plain hgd fun K hK => ?_
  unfold Oper.wp execOp
  simp only [ho, hx, hy, Instr.storeAt, Instr.sureAddr, Sem.run_bind, Sem.run_pure, Result.andThen_ok, hrun]
  exact hK _ _ (h _ (setRow_heap w g cur.toArray _ t' (0, 0) hr) (below_setRow hb hB _) ⟨rfl, rfl, rfl, by simp [World.setRow], fun k _ hg => setRow_other w g k _ (fun e => hg (by rw [e]))⟩)
end Go.Proofs.YtniniophoocalaaDoor

/- What is known of values (a struct of ten cells) that comes in. -/









namespace Go.Proofs.YtniniophoocalaaDoor

open Go.RowKit

theorem open_val0 {H : Type} {enc : TypeId × Value → H} {W : World} {a b c : Value} {y : DataW H × List MemPlace} {n : Nat} (h : DataW.trod enc Tryd.prog W 0 (fun _ => true) true n 41 [a, b, c] = some y) :
    ∃ v : CV, a = .bool v.null ∧ b = .int .i64 v.n ∧ c = .string v.s ∧ v.inInt ∧ v.s.size ≤ maxLen := by
  obtain ⟨y0, y1, y2, m, _, _, h0, h1, h2⟩ := Deep.trod_struct3 Tryd.underlying41 h
  have c0 : Tryd.prog.cellsOf 4 = 1 := by kernel_rfl
  have c1 : Tryd.prog.cellsOf 3 = 1 := by kernel_rfl
  have c2 : Tryd.prog.cellsOf 9 = 1 := by kernel_rfl
  simp only [c0, c1, c2, List.drop_zero, List.take_succ_cons, List.take_zero, List.drop_succ_cons] at h0 h1 h2
  obtain ⟨t, e0, _⟩ := DataW.trod_bool Tryd.underlying4 h0
  obtain ⟨i, e1, _, hw⟩ := DataW.trod_int Tryd.underlying3 h1
  obtain ⟨s, e2, _, hs⟩ := DataW.trod_string Tryd.underlying9 h2
  simp at e0 e1 e2
  subst e0 e1 e2
  exact ⟨⟨t, i, s⟩, rfl, rfl, rfl, wf_i64 hw, hs⟩
end Go.Proofs.YtniniophoocalaaDoor

/- What is known of the first values (layer 17): Of, step by step. -/



namespace Go.Proofs.YtniniophoocalaaDoor

/-- What is known of the first ones, but for their sum. -/
def gpart (l : List CV) : GS := ⟨((nsome l).length : Int), l.any (·.null), gleast (nsome l), gmost (nsome l), 0, false⟩
theorem nsome_null1 {l : List CV} {v : CV} (h : v.null = true) : nsome (l ++ [v]) = nsome l := by
  rw [nsome_app]
  simp [nsome, h]
theorem nsome_some1 {l : List CV} {v : CV} (h : v.null = false) : nsome (l ++ [v]) = nsome l ++ [v] := by
  rw [nsome_app]
  simp [nsome, h]
theorem gpart_null {l : List CV} {v : CV} (h : v.null = true) : gpart (l ++ [v]) = { gpart l with has := true } := by
  unfold gpart
  rw [nsome_null1 h]
  simp [h]
theorem gpart_some {l : List CV} {v : CV} (h : v.null = false) : gpart (l ++ [v]) =
    ⟨(gpart l).count + 1, (gpart l).has, if (gpart l).count = 0 ∨ kcmp v (gpart l).min < 0 then v else (gpart l).min, if (gpart l).count = 0 ∨ 0 < kcmp v (gpart l).max then v else (gpart l).max, 0, false⟩ := by
  have h0 : ((gpart l).count = 0) = (nsome l = []) := by
    unfold gpart
    dsimp only
    rw [eq_iff_iff]
    constructor
    · intro h; exact List.eq_nil_of_length_eq_zero (by omega)
    · intro h; rw [h]; rfl
  simp only [h0]
  unfold gpart
  dsimp only
  rw [nsome_some1 h, gleast_snoc, gmost_snoc]
  simp [h]
theorem gof_part (k : Int) (l : List CV) : gofE k l = if knumber k = true then { gpart l with sum := (gsumE ((nsome l).map (·.n))).1, over := !(gsumE ((nsome l).map (·.n))).2 } else gpart l := by
  unfold gofE gpart
  cases knumber k <;> simp
theorem gpart_count_bd (l : List CV) : 0 ≤ (gpart l).count ∧ (gpart l).count ≤ l.length := by
  unfold gpart nsome
  dsimp only
  have := List.length_filter_le (fun v : CV => !v.null) l
  omega
end Go.Proofs.YtniniophoocalaaDoor

/- The reference's Of of layer 17. Written by gen_gof.py. -/









namespace Go.Proofs.YtniniophoocalaaDoor

open Go.RowKit

def gz : List Value := gcells ⟨0, false, ⟨false, 0, ⟨#[]⟩⟩, ⟨false, 0, ⟨#[]⟩⟩, 0, false⟩
def GOfRel (l : List CV) (w : World) (nv i : Value) (wr : World) : Prop :=
  ∃ (j : Nat) (ns : List Int), j ≤ l.length ∧ i = .int .i64 (j : Int) ∧ ns = (nsome (l.take j)).map (·.n) ∧ Row wr (w.heap.size + 1) 43 (gcells (gpart (l.take j))) ∧ Row wr w.heap.size 43 gz ∧
    wr.ownsRow (w.heap.size + 2) 3 1 nv ns.length (ns.map iv) ∧ Below w.heap.size w wr
theorem val_size17 : (Tryd.prog.info? 41).map (·.size) = some 3 := by
  obtain ⟨i0, hi, hz0, hz1, hz2⟩ := info_parts Tryd.infoV
  rw [hi]; simp [hz1]
theorem stats_size17 : (Tryd.prog.info? 43).map (·.size) = some 10 := by kernel_rfl
theorem stats_one17 (s : GS) : ∀ u ∈ gcells s, u.oneCell' = true := by
  intro u hu
  simp only [gcells, List.mem_cons, List.not_mem_nil, or_false] at hu
  rcases hu with h | h | h | h | h | h | h | h | h | h <;> rw [h] <;> rfl
theorem grown_row {w w' : World} {g k : Nat} {t : TypeId} {cs : List Value} (h : Row w k t cs) (hg : w.grownBy w' (some g)) (hne : k ≠ g) : Row w' k t cs := (hg.block k h.lt (by intro e; injection e with e; exact hne e)).trans h
theorem row_past {w w' : World} {k base : Nat} {t e : TypeId} {cs xs : List Value} {v : Value} {n : Nat} (h : Row w k t cs) (hown : w.ownsRow base e 1 v n xs) (hg : w.grownBy w' v.ownBlock) (hlt : k < base) : Row w' k t cs := by
  refine (hg.block k h.lt ?_).trans h
  rcases hown.2 with ⟨rfl, _⟩ | ⟨g2, cap2, cur2, rfl, hge, _⟩
  · simp [Value.ownBlock]
  · simp only [Value.ownBlock, ne_eq, Option.some.injEq]
    omega
set_option maxHeartbeats 8000000 in
set_option maxRecDepth 100000 in
theorem rof17_any (k : Int) (l : List CV) (v : Value) (w : World) (hv : IsR kcells l v w) (hi : ∀ x ∈ l, x.inInt) (hb : l.length ≤ 1000000) :
    Calls Tryd.prog 20 #[.int .i64 k, v] w fun e w' => e = .returned (gsv (gofE k l)) ∧ Below w.heap.size w w' := by
  obtain ⟨A, n, c, rfl⟩ := hv.shape
  have HN := Lib.hid hv.parts.1
  have HV := Lib.hid hv
  have HI := Lib.hid hi
  have hn6 : n ≤ 1000000 := by have := HN.out; omega
  clear hv hi hb
  have hst : GOfRel l w (.slice (some ⟨w.heap.size + 1 + 1, 0, none⟩) 0 0) (.int .i64 0) (((w.alloc (.cells #[.int .i64 0, .bool false, .bool false, .int .i64 0, .string ⟨#[]⟩, .bool false, .int .i64 0, .string ⟨#[]⟩, .int .i64 0, .bool false] 43)).alloc (.cells #[.int .i64 0, .bool false, .bool true, .int .i64 0, .string ⟨#[]⟩, .bool true, .int .i64 0, .string ⟨#[]⟩, .int .i64 0, .bool false] 43)).alloc (.cells #[] 3)) := by
    obtain ⟨w1, hw1⟩ : ∃ w1, w1 = w.alloc (.cells #[.int .i64 0, .bool false, .bool false, .int .i64 0, .string ⟨#[]⟩, .bool false, .int .i64 0, .string ⟨#[]⟩, .int .i64 0, .bool false] 43) := ⟨_, rfl⟩
    have r1 : Row w1 w.heap.size 43 gz := by rw [hw1]; exact heap_alloc_new w _
    have z1 : w1.heap.size = w.heap.size + 1 := by rw [hw1]; simp
    have b1 : Below w.heap.size w w1 := by rw [hw1]; exact (Below.refl _ _).alloc (Nat.le_refl _) _
    rw [← hw1]
    obtain ⟨w2, hw2⟩ : ∃ w2, w2 = w1.alloc (.cells #[.int .i64 0, .bool false, .bool true, .int .i64 0, .string ⟨#[]⟩, .bool true, .int .i64 0, .string ⟨#[]⟩, .int .i64 0, .bool false] 43) := ⟨_, rfl⟩
    have r2 : Row w2 (w.heap.size + 1) 43 (gcells (gpart [])) := by rw [hw2, ← z1]; exact heap_alloc_new w1 _
    have z2 : w2.heap.size = w.heap.size + 1 + 1 := by rw [hw2]; simp [z1]
    have q1 : Row w2 w.heap.size 43 gz := by rw [hw2]; exact r1.alloc _
    have b2 : Below w.heap.size w w2 := by rw [hw2]; exact b1.alloc (by omega) _
    rw [← hw2]
    have ho : (w2.alloc (.cells #[] 3)).ownsRow w2.heap.size 3 1 (.slice (some ⟨w2.heap.size, 0, none⟩) 0 0) 0 [] := World.ownsRow_made w2 #[] 0 (Nat.le_refl _) (by unfold maxLen; omega) (by simp)
    rw [z2] at ho
    exact ⟨0, [], Nat.zero_le _, rfl, rfl, r2.alloc _, q1.alloc _, ho, b2.alloc (by omega) _⟩
  have HST := Lib.hid hst
  clear hst
  go_enter Tryd.func20, Tryd.ntmps20
  go_wp2
  go_loopw [6, 7] (GOfRel l w) (fun _ i _ => n - (intOf i).toNat)
  case atStart => exact HST.out
  case round =>
    obtain ⟨j, ns, hj, rfl, hns, hrow, hz, hown, hbw⟩ := hrel
    have HSTT := HST
    clear HST
    have hjn : j ≤ n := by have := HN.out; omega
    have hcb := gpart_count_bd (l.take j)
    rw [List.length_take] at hcb
    obtain ⟨G, hG⟩ : ∃ G, G = gpart (l.take j) := ⟨_, rfl⟩
    have hGs : G.sum = 0 := by rw [hG]; rfl
    have hGo : G.over = false := by rw [hG]; rfl
    rw [← hG] at hrow hcb
    have HG := Lib.hid hG
    obtain ⟨ct, hh, ⟨mb, mn, ms⟩, ⟨xb, xn, xs⟩, sm, ov⟩ := G
    dsimp only at hGs hGo hcb
    subst hGs hGo
    have hct : 0 ≤ ct ∧ ct ≤ 1000000 := by omega
    have HNS := Lib.hid hns
    have hnl : ns.length ≤ 1000000 := by rw [hns, List.length_map]; have := nsome_len (l.take j); rw [List.length_take] at this; omega
    have hrow' : Row wr (w.heap.size + 1) 43 [.int .i64 ct, .bool hh, .bool mb, .int .i64 mn, .string ms, .bool xb, .int .i64 xn, .string xs, .int .i64 0, .bool false] := hrow
    have HROW := Lib.hid hrow'
    have HZ := Lib.hid hz
    have HOWN := Lib.hid hown
    have HB := Lib.hid hbw
    obtain ⟨B6, c6, rfl, _, _, _, _, _⟩ := own_shape hown
    obtain ⟨nl, hnl2⟩ : ∃ nl, nl = ns.length := ⟨_, rfl⟩
    have HNL := Lib.hid hnl2
    rw [← hnl2] at hnl ⊢
    clear hG hns hrow hrow' hz hown hcb hj hnl2
    by_cases hlt : j < n
    · have hjl : j < l.length := by have := HN.out; omega
      have hlti : (j : Int) < (n : Int) := by omega
      obtain ⟨ad, rfl, had, hcell⟩ := (HV.out.below HB.out).at (m := 3) (fun _ => rfl) (by omega) hjl
      have HTK := Lib.hid (List.take_succ_eq_append_getElem hjl)
      obtain ⟨x, hx⟩ : ∃ x, x = l[j] := ⟨_, rfl⟩
      have HXI := Lib.hid (show x.inInt by rw [hx]; exact HI.out _ (List.getElem_mem hjl))
      rw [← hx] at hcell
      have HX := Lib.hid hx
      obtain ⟨k0, k1, k2⟩ := cells3 hcell
      obtain ⟨xb8, xn8, xs8⟩ := x
      dsimp only at k0 k1 k2
      obtain ⟨w1, hw1⟩ : ∃ w1, w1 = wr.alloc (.cells #[.bool xb8, .int .i64 xn8, .string xs8] 41) := ⟨_, rfl⟩
      have hb1 : Below wr.heap.size wr w1 := by rw [hw1]; exact (Below.refl _ _).alloc (Nat.le_refl _) _
      have r8 : Row w1 wr.heap.size 41 [.bool xb8, .int .i64 xn8, .string xs8] := by rw [hw1]; exact heap_alloc_new wr _
      have rg := HROW.out.below hb1 HROW.out.lt
      have rz := HZ.out.below hb1 HZ.out.lt
      have ow := own_below HOWN.out hb1
      have bw := below_then HB.out hb1
      have hgr : w.heap.size + 1 < wr.heap.size := HROW.out.lt
      have e0 : w1.cell? ⟨wr.heap.size, 0, none⟩ = some (.bool xb8) := r8.cell 0
      have HR8 := Lib.hid r8
      have HRG := Lib.hid rg
      have HRZ := Lib.hid rz
      have HOW := Lib.hid ow
      have HBW := Lib.hid bw
      have HW1 := Lib.hid hw1
      cases xb8 with
      | true =>
        have hfz : wr.frozen? ⟨w.heap.size + 1, 1, none⟩ = false := HROW.out.free 1
        have hcz : wr.cell? ⟨w.heap.size + 1, 1, none⟩ = some (.bool hh) := HROW.out.cell 1
        have hrel2 : GOfRel l w (.slice B6 nl c6) (.int .i64 ((j : Int) + 1)) ((wr.setCell ⟨w.heap.size + 1, 1, none⟩ (.bool true)).alloc (.cells #[.bool true, .int .i64 xn8, .string xs8] 41)) := by
          have hs : (wr.setCell ⟨w.heap.size + 1, 1, none⟩ (.bool true)).heap.size = wr.heap.size := by simp
          have h1 := HROW.out.set_ 1 (.bool true)
          have h2 := own_past HOWN.out (grown_set wr (w.heap.size + 1) 1 (.bool true)) (by omega)
          have h3 : Below w.heap.size w (wr.setCell ⟨w.heap.size + 1, 1, none⟩ (.bool true)) := HB.out.setCell (by show w.heap.size ≤ w.heap.size + 1; omega) _
          refine ⟨j + 1, ns, hjl, by go_num, ?_, ?_, (HZ.out.far (by simp) _).alloc _, ?_, h3.alloc (by rw [hs]; omega) _⟩
          · rw [HTK.out, ← HX.out, nsome_null1 rfl]; exact HNS.out
          · rw [HTK.out, ← HX.out, gpart_null rfl, ← HG.out]
            exact h1.alloc _
          · rw [← HNL.out] at h2 ⊢
            exact own_below h2 ((Below.refl _ _).alloc (Nat.le_refl _) _)
        have HREL := Lib.hid hrel2
        rw [hw1] at e0
        clear hb1 r8 rg rz ow bw hrel2 hw1 hx hcell
        go_wp2
        go_roundw
        case rel => exact HREL.out
        case measure => simp [intOf]; omega
      | false =>
        have hct6 : ct + 1 ≤ 9223372036854775807 := by omega
        have LR := HRG.out
        have L8 := HR8.out
        rw [HW1.out] at LR L8
        have LB := HBW.out
        rw [HW1.out] at LB
        have LZ := HRZ.out
        rw [HW1.out] at LZ
        have LO := HOW.out
        rw [HW1.out] at LO
        rw [hw1] at e0
        have HLR := Lib.hid LR
        have HL8 := Lib.hid L8
        have HLB := Lib.hid LB
        have HLZ := Lib.hid LZ
        have HLO := Lib.hid LO
        clear hb1 r8 rg rz ow bw hx hcell hw1 LR L8 LB LZ LO HRG HR8 HRZ HOW HBW
        have p0 : (wr.alloc (.cells #[.bool false, .int .i64 xn8, .string xs8] 41)).cell? ⟨w.heap.size + 1, 0, none⟩ = some (.int .i64 ct) := HLR.out.cell 0
        by_cases hc0 : ct = 0
        · have d1 : (ct == 0) = true := by simpa using hc0
          have HC0 := Lib.hid hc0
          clear hc0
          have q0 : (wr.alloc (.cells #[.bool false, .int .i64 xn8, .string xs8] 41)).cell? ⟨wr.heap.size, 0, none⟩ = some (.bool false) := HL8.out.cell 0
          have q1 : (wr.alloc (.cells #[.bool false, .int .i64 xn8, .string xs8] 41)).cell? ⟨wr.heap.size, 1, none⟩ = some (.int .i64 xn8) := HL8.out.cell 1
          have q2 : (wr.alloc (.cells #[.bool false, .int .i64 xn8, .string xs8] 41)).cell? ⟨wr.heap.size, 2, none⟩ = some (.string xs8) := HL8.out.cell 2
          go_wp2_with (refine wpList_storeG rfl _ _ _ rfl (w.heap.size + 1) 2 43 [.int .i64 ct, .bool hh, .bool mb, .int .i64 mn, .string ms, .bool xb, .int .i64 xn, .string xs, .int .i64 0, .bool false] (kcells ⟨false, xn8, xs8⟩) [.int .i64 ct, .bool hh, .bool false, .int .i64 xn8, .string xs8, .bool xb, .int .i64 xn, .string xs, .int .i64 0, .bool false] rfl rfl rfl HLR.out val_size17 (by simp [kcells]) (kcells_one _) w w.heap.size HLB.out (by omega) ?_)
          intro w2 hg2 hb2 hgr2
          have HRG2 := Lib.hid hg2
          have HR82 := Lib.hid (grown_row HL8.out hgr2 (by omega))
          have HRZ2 := Lib.hid (grown_row HLZ.out hgr2 (by omega))
          have HOW2 := Lib.hid (own_past HLO.out hgr2 (by omega))
          have HBW2 := Lib.hid hb2
          clear hg2 hb2 hgr2
          clear p0 q0 q1 q2 e0 k0 k1 k2
          have p0 : w2.cell? ⟨w.heap.size + 1, 0, none⟩ = some (.int .i64 ct) := HRG2.out.cell 0
          have q0 : w2.cell? ⟨wr.heap.size, 0, none⟩ = some (.bool false) := HR82.out.cell 0
          have q1 : w2.cell? ⟨wr.heap.size, 1, none⟩ = some (.int .i64 xn8) := HR82.out.cell 1
          have q2 : w2.cell? ⟨wr.heap.size, 2, none⟩ = some (.string xs8) := HR82.out.cell 2
          go_wp2_with (refine wpList_storeG rfl _ _ _ rfl (w.heap.size + 1) 5 43 [.int .i64 ct, .bool hh, .bool false, .int .i64 xn8, .string xs8, .bool xb, .int .i64 xn, .string xs, .int .i64 0, .bool false] (kcells ⟨false, xn8, xs8⟩) [.int .i64 ct, .bool hh, .bool false, .int .i64 xn8, .string xs8, .bool false, .int .i64 xn8, .string xs8, .int .i64 0, .bool false] rfl rfl rfl HRG2.out val_size17 (by simp [kcells]) (kcells_one _) w w.heap.size HBW2.out (by omega) ?_)
          intro w3 hg3 hb3 hgr3
          have HRG3 := Lib.hid hg3
          have HR83 := Lib.hid (grown_row HR82.out hgr3 (by omega))
          have HRZ3 := Lib.hid (grown_row HRZ2.out hgr3 (by omega))
          have HOW3 := Lib.hid (own_past HOW2.out hgr3 (by omega))
          have HBW3 := Lib.hid hb3
          clear hg3 hb3 hgr3
          clear p0 q0 q1 q2
          have t0 : w3.cell? ⟨w.heap.size + 1, 0, none⟩ = some (.int .i64 ct) := HRG3.out.cell 0
          have tf : w3.frozen? ⟨w.heap.size + 1, 0, none⟩ = false := HRG3.out.free 0
          obtain ⟨w6, hw6⟩ : ∃ w6, w6 = w3.setCell ⟨w.heap.size + 1, 0, none⟩ (.int .i64 (ct + 1)) := ⟨_, rfl⟩
          have hg6 : w3.grownBy w6 (some (w.heap.size + 1)) := by rw [hw6]; exact grown_set _ _ _ _
          have HRG6 : Hid (Row w6 (w.heap.size + 1) 43 [.int .i64 (ct + 1), .bool hh, .bool false, .int .i64 xn8, .string xs8, .bool false, .int .i64 xn8, .string xs8, .int .i64 0, .bool false]) := Lib.hid (by rw [hw6]; exact HRG3.out.set_ 0 (.int .i64 (ct + 1)))
          have r86 := grown_row HR83.out hg6 (by omega)
          have HRZ6 := Lib.hid (grown_row HRZ3.out hg6 (by omega))
          have HOW6 := Lib.hid (own_past HOW3.out hg6 (by omega))
          have HBW6 : Hid (Below w.heap.size w w6) := Lib.hid (by rw [hw6]; exact HBW3.out.setCell (by show w.heap.size ≤ w.heap.size + 1; omega) _)
          have hz6 : w6.heap.size = w3.heap.size := by rw [hw6]; simp
          have t8 : w6.cell? ⟨wr.heap.size, 1, none⟩ = some (.int .i64 xn8) := r86.cell 1
          have hA6 : Below w6.heap.size w6 (w6.alloc (.cells #[.int .i64 xn8] 3)) := (Below.refl _ _).alloc (Nat.le_refl _) _
          have hl7 : Lies (w6.alloc (.cells #[.int .i64 xn8] 3)) (some ⟨w6.heap.size, 0, none⟩) [iv xn8] := (show Row (w6.alloc (.cells #[.int .i64 xn8] 3)) w6.heap.size 3 [iv xn8] from heap_alloc_new w6 _).lies 0
          have how7 := own_below HOW6.out hA6
          have HRG7 := Lib.hid (HRG6.out.below hA6 HRG6.out.lt)
          have HRZ7 := Lib.hid (HRZ6.out.below hA6 HRZ6.out.lt)
          have HBW7 := Lib.hid (below_then HBW6.out hA6)
          have hz7 : w.heap.size + 2 ≤ (w6.alloc (.cells #[.int .i64 xn8] 3)).heap.size := by have := HRG3.out.lt; simp; omega
          rw [← HNL.out] at how7
          have HOW7 := Lib.hid how7
          rw [hz6] at hl7
          rw [hw6] at t8 hl7 how7 hz7
          clear hg6 r86 hA6 hz6
          have HW6 := Lib.hid hw6
          clear hw6
          go_wp2_with (at_builtin; refine wpList_join elemI rfl _ _ rfl (w.heap.size + 2) _ _ _ _ _ _ [iv xn8] _ rfl rfl (fun h => by cases h) rfl hl7 (vs_one (f := iv) (fun _ => rfl) [xn8]) how7 (Below.refl _ _) hz7 (by omega) (by omega) ?_)
          intro v9 w9 hown9 hb9 hgr9 _
          rw [← HW6.out] at hb9 hgr9
          have hrel2 : GOfRel l w v9 (.int .i64 ((j : Int) + 1)) w9 := by
            refine ⟨j + 1, ns ++ [xn8], hjl, by go_num, ?_, ?_, row_past HRZ7.out HOW7.out hgr9 (by omega), ?_, HBW7.out.trans (hb9.mono (by omega))⟩
            · rw [HTK.out, ← HX.out, nsome_some1 rfl, List.map_append, ← HNS.out]; rfl
            · have h := row_past HRG7.out HOW7.out hgr9 (by omega)
              rw [HTK.out, ← HX.out, gpart_some rfl, ← HG.out]
              dsimp only
              rw [if_pos (.inl HC0.out), if_pos (.inl HC0.out)]
              exact h
            · rw [List.length_append, List.map_append, ← HNL.out]; exact hown9
          have HREL := Lib.hid hrel2
          obtain ⟨B10, c10, rfl, _, _, _, _, _⟩ := own_shape hown9
          clear hrel2 hown9 hb9 hgr9 how7 hl7 hz7 t0 tf t8
          go_wp2
          go_roundw
          case rel => exact HREL.out
          case measure => simp [intOf]; omega
        · have d1 : (ct == 0) = false := by simpa using hc0
          have HC0 := Lib.hid hc0
          clear hc0
          have q0 : (wr.alloc (.cells #[.bool false, .int .i64 xn8, .string xs8] 41)).cell? ⟨wr.heap.size, 0, none⟩ = some (.bool false) := HL8.out.cell 0
          have q1 : (wr.alloc (.cells #[.bool false, .int .i64 xn8, .string xs8] 41)).cell? ⟨wr.heap.size, 1, none⟩ = some (.int .i64 xn8) := HL8.out.cell 1
          have q2 : (wr.alloc (.cells #[.bool false, .int .i64 xn8, .string xs8] 41)).cell? ⟨wr.heap.size, 2, none⟩ = some (.string xs8) := HL8.out.cell 2
          have p2 : (wr.alloc (.cells #[.bool false, .int .i64 xn8, .string xs8] 41)).cell? ⟨w.heap.size + 1, 2, none⟩ = some (.bool mb) := HLR.out.cell 2
          have p3 : (wr.alloc (.cells #[.bool false, .int .i64 xn8, .string xs8] 41)).cell? ⟨w.heap.size + 1, 3, none⟩ = some (.int .i64 mn) := HLR.out.cell 3
          have p4 : (wr.alloc (.cells #[.bool false, .int .i64 xn8, .string xs8] 41)).cell? ⟨w.heap.size + 1, 4, none⟩ = some (.string ms) := HLR.out.cell 4
          have HCM := Lib.hid (fun X => rcmp12_any ⟨false, xn8, xs8⟩ ⟨mb, mn, ms⟩ X)
          have HCX := Lib.hid (fun X => rcmp12_any ⟨false, xn8, xs8⟩ ⟨xb, xn, xs⟩ X)
          obtain ⟨cm, hcm⟩ : ∃ c, c = kcmp ⟨false, xn8, xs8⟩ ⟨mb, mn, ms⟩ := ⟨_, rfl⟩
          obtain ⟨cx, hcx⟩ : ∃ c, c = kcmp ⟨false, xn8, xs8⟩ ⟨xb, xn, xs⟩ := ⟨_, rfl⟩
          rw [← hcm] at HCM
          rw [← hcx] at HCX
          have HKM := Lib.hid hcm
          have HKX := Lib.hid hcx
          clear hcm hcx
          unfold cv at HCM HCX
          go_wp2_with fail
          refine (HCM.out _).mono ?_
          rintro e w2 ⟨rfl, hb2⟩
          have HRG2 := Lib.hid (HLR.out.below hb2 HLR.out.lt)
          have HR82 := Lib.hid (HL8.out.below hb2 HL8.out.lt)
          have HRZ2 := Lib.hid (HLZ.out.below hb2 HLZ.out.lt)
          have HOW2 := Lib.hid (own_below HLO.out hb2)
          have HBW2 := Lib.hid (below_then HLB.out hb2)
          clear hb2 p0 p2 p3 p4 q0 q1 q2 e0 k0 k1 k2
          by_cases hm0 : cm < 0
          · have d2 : decide (cm < 0) = true := decide_eq_true hm0
            have HM0 : Hid (kcmp ⟨false, xn8, xs8⟩ ⟨mb, mn, ms⟩ < 0) := Lib.hid (by rw [← HKM.out]; exact hm0)
            clear hm0
            have q0 : w2.cell? ⟨wr.heap.size, 0, none⟩ = some (.bool false) := HR82.out.cell 0
            have q1 : w2.cell? ⟨wr.heap.size, 1, none⟩ = some (.int .i64 xn8) := HR82.out.cell 1
            have q2 : w2.cell? ⟨wr.heap.size, 2, none⟩ = some (.string xs8) := HR82.out.cell 2
            go_wp2_with (refine wpList_storeG rfl _ _ _ rfl (w.heap.size + 1) 2 43 [.int .i64 ct, .bool hh, .bool mb, .int .i64 mn, .string ms, .bool xb, .int .i64 xn, .string xs, .int .i64 0, .bool false] (kcells ⟨false, xn8, xs8⟩) [.int .i64 ct, .bool hh, .bool false, .int .i64 xn8, .string xs8, .bool xb, .int .i64 xn, .string xs, .int .i64 0, .bool false] rfl rfl rfl HRG2.out val_size17 (by simp [kcells]) (kcells_one _) w w.heap.size HBW2.out (by omega) ?_)
            intro w3 hg3 hb3 hgr3
            have HRG3 := Lib.hid hg3
            have HR83 := Lib.hid (grown_row HR82.out hgr3 (by omega))
            have HRZ3 := Lib.hid (grown_row HRZ2.out hgr3 (by omega))
            have HOW3 := Lib.hid (own_past HOW2.out hgr3 (by omega))
            have HBW3 := Lib.hid hb3
            clear hg3 hb3 hgr3
            clear q0 q1 q2
            have p0 : w3.cell? ⟨w.heap.size + 1, 0, none⟩ = some (.int .i64 ct) := HRG3.out.cell 0
            have p5 : w3.cell? ⟨w.heap.size + 1, 5, none⟩ = some (.bool xb) := HRG3.out.cell 5
            have p6 : w3.cell? ⟨w.heap.size + 1, 6, none⟩ = some (.int .i64 xn) := HRG3.out.cell 6
            have p7 : w3.cell? ⟨w.heap.size + 1, 7, none⟩ = some (.string xs) := HRG3.out.cell 7
            have q0 : w3.cell? ⟨wr.heap.size, 0, none⟩ = some (.bool false) := HR83.out.cell 0
            have q1 : w3.cell? ⟨wr.heap.size, 1, none⟩ = some (.int .i64 xn8) := HR83.out.cell 1
            have q2 : w3.cell? ⟨wr.heap.size, 2, none⟩ = some (.string xs8) := HR83.out.cell 2
            go_wp2_with fail
            refine (HCX.out _).mono ?_
            rintro e w4 ⟨rfl, hb4⟩
            have HRG4 := Lib.hid (HRG3.out.below hb4 HRG3.out.lt)
            have HR84 := Lib.hid (HR83.out.below hb4 HR83.out.lt)
            have HRZ4 := Lib.hid (HRZ3.out.below hb4 HRZ3.out.lt)
            have HOW4 := Lib.hid (own_below HOW3.out hb4)
            have HBW4 := Lib.hid (below_then HBW3.out hb4)
            clear hb4 p0 p5 p6 p7 q0 q1 q2
            by_cases hx0 : 0 < cx
            · have d3 : decide (0 < cx) = true := decide_eq_true hx0
              have HX0 : Hid (0 < kcmp ⟨false, xn8, xs8⟩ ⟨xb, xn, xs⟩) := Lib.hid (by rw [← HKX.out]; exact hx0)
              clear hx0
              have q0 : w4.cell? ⟨wr.heap.size, 0, none⟩ = some (.bool false) := HR84.out.cell 0
              have q1 : w4.cell? ⟨wr.heap.size, 1, none⟩ = some (.int .i64 xn8) := HR84.out.cell 1
              have q2 : w4.cell? ⟨wr.heap.size, 2, none⟩ = some (.string xs8) := HR84.out.cell 2
              go_wp2_with (refine wpList_storeG rfl _ _ _ rfl (w.heap.size + 1) 5 43 [.int .i64 ct, .bool hh, .bool false, .int .i64 xn8, .string xs8, .bool xb, .int .i64 xn, .string xs, .int .i64 0, .bool false] (kcells ⟨false, xn8, xs8⟩) [.int .i64 ct, .bool hh, .bool false, .int .i64 xn8, .string xs8, .bool false, .int .i64 xn8, .string xs8, .int .i64 0, .bool false] rfl rfl rfl HRG4.out val_size17 (by simp [kcells]) (kcells_one _) w w.heap.size HBW4.out (by omega) ?_)
              intro w5 hg5 hb5 hgr5
              have HRG5 := Lib.hid hg5
              have HR85 := Lib.hid (grown_row HR84.out hgr5 (by omega))
              have HRZ5 := Lib.hid (grown_row HRZ4.out hgr5 (by omega))
              have HOW5 := Lib.hid (own_past HOW4.out hgr5 (by omega))
              have HBW5 := Lib.hid hb5
              clear hg5 hb5 hgr5
              clear q0 q1 q2
              have t0 : w5.cell? ⟨w.heap.size + 1, 0, none⟩ = some (.int .i64 ct) := HRG5.out.cell 0
              have tf : w5.frozen? ⟨w.heap.size + 1, 0, none⟩ = false := HRG5.out.free 0
              obtain ⟨w6, hw6⟩ : ∃ w6, w6 = w5.setCell ⟨w.heap.size + 1, 0, none⟩ (.int .i64 (ct + 1)) := ⟨_, rfl⟩
              have hg6 : w5.grownBy w6 (some (w.heap.size + 1)) := by rw [hw6]; exact grown_set _ _ _ _
              have HRG6 : Hid (Row w6 (w.heap.size + 1) 43 [.int .i64 (ct + 1), .bool hh, .bool false, .int .i64 xn8, .string xs8, .bool false, .int .i64 xn8, .string xs8, .int .i64 0, .bool false]) := Lib.hid (by rw [hw6]; exact HRG5.out.set_ 0 (.int .i64 (ct + 1)))
              have r86 := grown_row HR85.out hg6 (by omega)
              have HRZ6 := Lib.hid (grown_row HRZ5.out hg6 (by omega))
              have HOW6 := Lib.hid (own_past HOW5.out hg6 (by omega))
              have HBW6 : Hid (Below w.heap.size w w6) := Lib.hid (by rw [hw6]; exact HBW5.out.setCell (by show w.heap.size ≤ w.heap.size + 1; omega) _)
              have hz6 : w6.heap.size = w5.heap.size := by rw [hw6]; simp
              have t8 : w6.cell? ⟨wr.heap.size, 1, none⟩ = some (.int .i64 xn8) := r86.cell 1
              have hA6 : Below w6.heap.size w6 (w6.alloc (.cells #[.int .i64 xn8] 3)) := (Below.refl _ _).alloc (Nat.le_refl _) _
              have hl7 : Lies (w6.alloc (.cells #[.int .i64 xn8] 3)) (some ⟨w6.heap.size, 0, none⟩) [iv xn8] := (show Row (w6.alloc (.cells #[.int .i64 xn8] 3)) w6.heap.size 3 [iv xn8] from heap_alloc_new w6 _).lies 0
              have how7 := own_below HOW6.out hA6
              have HRG7 := Lib.hid (HRG6.out.below hA6 HRG6.out.lt)
              have HRZ7 := Lib.hid (HRZ6.out.below hA6 HRZ6.out.lt)
              have HBW7 := Lib.hid (below_then HBW6.out hA6)
              have hz7 : w.heap.size + 2 ≤ (w6.alloc (.cells #[.int .i64 xn8] 3)).heap.size := by have := HRG5.out.lt; simp; omega
              rw [← HNL.out] at how7
              have HOW7 := Lib.hid how7
              rw [hz6] at hl7
              rw [hw6] at t8 hl7 how7 hz7
              clear hg6 r86 hA6 hz6
              have HW6 := Lib.hid hw6
              clear hw6
              go_wp2_with (at_builtin; refine wpList_join elemI rfl _ _ rfl (w.heap.size + 2) _ _ _ _ _ _ [iv xn8] _ rfl rfl (fun h => by cases h) rfl hl7 (vs_one (f := iv) (fun _ => rfl) [xn8]) how7 (Below.refl _ _) hz7 (by omega) (by omega) ?_)
              intro v9 w9 hown9 hb9 hgr9 _
              rw [← HW6.out] at hb9 hgr9
              have hrel2 : GOfRel l w v9 (.int .i64 ((j : Int) + 1)) w9 := by
                refine ⟨j + 1, ns ++ [xn8], hjl, by go_num, ?_, ?_, row_past HRZ7.out HOW7.out hgr9 (by omega), ?_, HBW7.out.trans (hb9.mono (by omega))⟩
                · rw [HTK.out, ← HX.out, nsome_some1 rfl, List.map_append, ← HNS.out]; rfl
                · have h := row_past HRG7.out HOW7.out hgr9 (by omega)
                  rw [HTK.out, ← HX.out, gpart_some rfl, ← HG.out]
                  dsimp only
                  rw [if_pos (.inr HM0.out), if_pos (.inr HX0.out)]
                  exact h
                · rw [List.length_append, List.map_append, ← HNL.out]; exact hown9
              have HREL := Lib.hid hrel2
              obtain ⟨B10, c10, rfl, _, _, _, _, _⟩ := own_shape hown9
              clear hrel2 hown9 hb9 hgr9 how7 hl7 hz7 t0 tf t8
              go_wp2
              go_roundw
              case rel => exact HREL.out
              case measure => simp [intOf]; omega
            · have d3 : decide (0 < cx) = false := decide_eq_false hx0
              have HX0 : Hid (¬ (ct = 0 ∨ 0 < kcmp ⟨false, xn8, xs8⟩ ⟨xb, xn, xs⟩)) := Lib.hid (by rw [← HKX.out]; rintro (h | h); exact HC0.out h; exact hx0 h)
              clear hx0
              have t0 : w4.cell? ⟨w.heap.size + 1, 0, none⟩ = some (.int .i64 ct) := HRG4.out.cell 0
              have tf : w4.frozen? ⟨w.heap.size + 1, 0, none⟩ = false := HRG4.out.free 0
              obtain ⟨w6, hw6⟩ : ∃ w6, w6 = w4.setCell ⟨w.heap.size + 1, 0, none⟩ (.int .i64 (ct + 1)) := ⟨_, rfl⟩
              have hg6 : w4.grownBy w6 (some (w.heap.size + 1)) := by rw [hw6]; exact grown_set _ _ _ _
              have HRG6 : Hid (Row w6 (w.heap.size + 1) 43 [.int .i64 (ct + 1), .bool hh, .bool false, .int .i64 xn8, .string xs8, .bool xb, .int .i64 xn, .string xs, .int .i64 0, .bool false]) := Lib.hid (by rw [hw6]; exact HRG4.out.set_ 0 (.int .i64 (ct + 1)))
              have r86 := grown_row HR84.out hg6 (by omega)
              have HRZ6 := Lib.hid (grown_row HRZ4.out hg6 (by omega))
              have HOW6 := Lib.hid (own_past HOW4.out hg6 (by omega))
              have HBW6 : Hid (Below w.heap.size w w6) := Lib.hid (by rw [hw6]; exact HBW4.out.setCell (by show w.heap.size ≤ w.heap.size + 1; omega) _)
              have hz6 : w6.heap.size = w4.heap.size := by rw [hw6]; simp
              have t8 : w6.cell? ⟨wr.heap.size, 1, none⟩ = some (.int .i64 xn8) := r86.cell 1
              have hA6 : Below w6.heap.size w6 (w6.alloc (.cells #[.int .i64 xn8] 3)) := (Below.refl _ _).alloc (Nat.le_refl _) _
              have hl7 : Lies (w6.alloc (.cells #[.int .i64 xn8] 3)) (some ⟨w6.heap.size, 0, none⟩) [iv xn8] := (show Row (w6.alloc (.cells #[.int .i64 xn8] 3)) w6.heap.size 3 [iv xn8] from heap_alloc_new w6 _).lies 0
              have how7 := own_below HOW6.out hA6
              have HRG7 := Lib.hid (HRG6.out.below hA6 HRG6.out.lt)
              have HRZ7 := Lib.hid (HRZ6.out.below hA6 HRZ6.out.lt)
              have HBW7 := Lib.hid (below_then HBW6.out hA6)
              have hz7 : w.heap.size + 2 ≤ (w6.alloc (.cells #[.int .i64 xn8] 3)).heap.size := by have := HRG4.out.lt; simp; omega
              rw [← HNL.out] at how7
              have HOW7 := Lib.hid how7
              rw [hz6] at hl7
              rw [hw6] at t8 hl7 how7 hz7
              clear hg6 r86 hA6 hz6
              have HW6 := Lib.hid hw6
              clear hw6
              go_wp2_with (at_builtin; refine wpList_join elemI rfl _ _ rfl (w.heap.size + 2) _ _ _ _ _ _ [iv xn8] _ rfl rfl (fun h => by cases h) rfl hl7 (vs_one (f := iv) (fun _ => rfl) [xn8]) how7 (Below.refl _ _) hz7 (by omega) (by omega) ?_)
              intro v9 w9 hown9 hb9 hgr9 _
              rw [← HW6.out] at hb9 hgr9
              have hrel2 : GOfRel l w v9 (.int .i64 ((j : Int) + 1)) w9 := by
                refine ⟨j + 1, ns ++ [xn8], hjl, by go_num, ?_, ?_, row_past HRZ7.out HOW7.out hgr9 (by omega), ?_, HBW7.out.trans (hb9.mono (by omega))⟩
                · rw [HTK.out, ← HX.out, nsome_some1 rfl, List.map_append, ← HNS.out]; rfl
                · have h := row_past HRG7.out HOW7.out hgr9 (by omega)
                  rw [HTK.out, ← HX.out, gpart_some rfl, ← HG.out]
                  dsimp only
                  rw [if_pos (.inr HM0.out), if_neg HX0.out]
                  exact h
                · rw [List.length_append, List.map_append, ← HNL.out]; exact hown9
              have HREL := Lib.hid hrel2
              obtain ⟨B10, c10, rfl, _, _, _, _, _⟩ := own_shape hown9
              clear hrel2 hown9 hb9 hgr9 how7 hl7 hz7 t0 tf t8
              go_wp2
              go_roundw
              case rel => exact HREL.out
              case measure => simp [intOf]; omega
          · have d2 : decide (cm < 0) = false := decide_eq_false hm0
            have HM0 : Hid (¬ (ct = 0 ∨ kcmp ⟨false, xn8, xs8⟩ ⟨mb, mn, ms⟩ < 0)) := Lib.hid (by rw [← HKM.out]; rintro (h | h); exact HC0.out h; exact hm0 h)
            clear hm0
            have p0 : w2.cell? ⟨w.heap.size + 1, 0, none⟩ = some (.int .i64 ct) := HRG2.out.cell 0
            have p5 : w2.cell? ⟨w.heap.size + 1, 5, none⟩ = some (.bool xb) := HRG2.out.cell 5
            have p6 : w2.cell? ⟨w.heap.size + 1, 6, none⟩ = some (.int .i64 xn) := HRG2.out.cell 6
            have p7 : w2.cell? ⟨w.heap.size + 1, 7, none⟩ = some (.string xs) := HRG2.out.cell 7
            have q0 : w2.cell? ⟨wr.heap.size, 0, none⟩ = some (.bool false) := HR82.out.cell 0
            have q1 : w2.cell? ⟨wr.heap.size, 1, none⟩ = some (.int .i64 xn8) := HR82.out.cell 1
            have q2 : w2.cell? ⟨wr.heap.size, 2, none⟩ = some (.string xs8) := HR82.out.cell 2
            go_wp2_with fail
            refine (HCX.out _).mono ?_
            rintro e w4 ⟨rfl, hb4⟩
            have HRG4 := Lib.hid (HRG2.out.below hb4 HRG2.out.lt)
            have HR84 := Lib.hid (HR82.out.below hb4 HR82.out.lt)
            have HRZ4 := Lib.hid (HRZ2.out.below hb4 HRZ2.out.lt)
            have HOW4 := Lib.hid (own_below HOW2.out hb4)
            have HBW4 := Lib.hid (below_then HBW2.out hb4)
            clear hb4 p0 p5 p6 p7 q0 q1 q2
            by_cases hx0 : 0 < cx
            · have d3 : decide (0 < cx) = true := decide_eq_true hx0
              have HX0 : Hid (0 < kcmp ⟨false, xn8, xs8⟩ ⟨xb, xn, xs⟩) := Lib.hid (by rw [← HKX.out]; exact hx0)
              clear hx0
              have q0 : w4.cell? ⟨wr.heap.size, 0, none⟩ = some (.bool false) := HR84.out.cell 0
              have q1 : w4.cell? ⟨wr.heap.size, 1, none⟩ = some (.int .i64 xn8) := HR84.out.cell 1
              have q2 : w4.cell? ⟨wr.heap.size, 2, none⟩ = some (.string xs8) := HR84.out.cell 2
              go_wp2_with (refine wpList_storeG rfl _ _ _ rfl (w.heap.size + 1) 5 43 [.int .i64 ct, .bool hh, .bool mb, .int .i64 mn, .string ms, .bool xb, .int .i64 xn, .string xs, .int .i64 0, .bool false] (kcells ⟨false, xn8, xs8⟩) [.int .i64 ct, .bool hh, .bool mb, .int .i64 mn, .string ms, .bool false, .int .i64 xn8, .string xs8, .int .i64 0, .bool false] rfl rfl rfl HRG4.out val_size17 (by simp [kcells]) (kcells_one _) w w.heap.size HBW4.out (by omega) ?_)
              intro w5 hg5 hb5 hgr5
              have HRG5 := Lib.hid hg5
              have HR85 := Lib.hid (grown_row HR84.out hgr5 (by omega))
              have HRZ5 := Lib.hid (grown_row HRZ4.out hgr5 (by omega))
              have HOW5 := Lib.hid (own_past HOW4.out hgr5 (by omega))
              have HBW5 := Lib.hid hb5
              clear hg5 hb5 hgr5
              clear q0 q1 q2
              have t0 : w5.cell? ⟨w.heap.size + 1, 0, none⟩ = some (.int .i64 ct) := HRG5.out.cell 0
              have tf : w5.frozen? ⟨w.heap.size + 1, 0, none⟩ = false := HRG5.out.free 0
              obtain ⟨w6, hw6⟩ : ∃ w6, w6 = w5.setCell ⟨w.heap.size + 1, 0, none⟩ (.int .i64 (ct + 1)) := ⟨_, rfl⟩
              have hg6 : w5.grownBy w6 (some (w.heap.size + 1)) := by rw [hw6]; exact grown_set _ _ _ _
              have HRG6 : Hid (Row w6 (w.heap.size + 1) 43 [.int .i64 (ct + 1), .bool hh, .bool mb, .int .i64 mn, .string ms, .bool false, .int .i64 xn8, .string xs8, .int .i64 0, .bool false]) := Lib.hid (by rw [hw6]; exact HRG5.out.set_ 0 (.int .i64 (ct + 1)))
              have r86 := grown_row HR85.out hg6 (by omega)
              have HRZ6 := Lib.hid (grown_row HRZ5.out hg6 (by omega))
              have HOW6 := Lib.hid (own_past HOW5.out hg6 (by omega))
              have HBW6 : Hid (Below w.heap.size w w6) := Lib.hid (by rw [hw6]; exact HBW5.out.setCell (by show w.heap.size ≤ w.heap.size + 1; omega) _)
              have hz6 : w6.heap.size = w5.heap.size := by rw [hw6]; simp
              have t8 : w6.cell? ⟨wr.heap.size, 1, none⟩ = some (.int .i64 xn8) := r86.cell 1
              have hA6 : Below w6.heap.size w6 (w6.alloc (.cells #[.int .i64 xn8] 3)) := (Below.refl _ _).alloc (Nat.le_refl _) _
              have hl7 : Lies (w6.alloc (.cells #[.int .i64 xn8] 3)) (some ⟨w6.heap.size, 0, none⟩) [iv xn8] := (show Row (w6.alloc (.cells #[.int .i64 xn8] 3)) w6.heap.size 3 [iv xn8] from heap_alloc_new w6 _).lies 0
              have how7 := own_below HOW6.out hA6
              have HRG7 := Lib.hid (HRG6.out.below hA6 HRG6.out.lt)
              have HRZ7 := Lib.hid (HRZ6.out.below hA6 HRZ6.out.lt)
              have HBW7 := Lib.hid (below_then HBW6.out hA6)
              have hz7 : w.heap.size + 2 ≤ (w6.alloc (.cells #[.int .i64 xn8] 3)).heap.size := by have := HRG5.out.lt; simp; omega
              rw [← HNL.out] at how7
              have HOW7 := Lib.hid how7
              rw [hz6] at hl7
              rw [hw6] at t8 hl7 how7 hz7
              clear hg6 r86 hA6 hz6
              have HW6 := Lib.hid hw6
              clear hw6
              go_wp2_with (at_builtin; refine wpList_join elemI rfl _ _ rfl (w.heap.size + 2) _ _ _ _ _ _ [iv xn8] _ rfl rfl (fun h => by cases h) rfl hl7 (vs_one (f := iv) (fun _ => rfl) [xn8]) how7 (Below.refl _ _) hz7 (by omega) (by omega) ?_)
              intro v9 w9 hown9 hb9 hgr9 _
              rw [← HW6.out] at hb9 hgr9
              have hrel2 : GOfRel l w v9 (.int .i64 ((j : Int) + 1)) w9 := by
                refine ⟨j + 1, ns ++ [xn8], hjl, by go_num, ?_, ?_, row_past HRZ7.out HOW7.out hgr9 (by omega), ?_, HBW7.out.trans (hb9.mono (by omega))⟩
                · rw [HTK.out, ← HX.out, nsome_some1 rfl, List.map_append, ← HNS.out]; rfl
                · have h := row_past HRG7.out HOW7.out hgr9 (by omega)
                  rw [HTK.out, ← HX.out, gpart_some rfl, ← HG.out]
                  dsimp only
                  rw [if_neg HM0.out, if_pos (.inr HX0.out)]
                  exact h
                · rw [List.length_append, List.map_append, ← HNL.out]; exact hown9
              have HREL := Lib.hid hrel2
              obtain ⟨B10, c10, rfl, _, _, _, _, _⟩ := own_shape hown9
              clear hrel2 hown9 hb9 hgr9 how7 hl7 hz7 t0 tf t8
              go_wp2
              go_roundw
              case rel => exact HREL.out
              case measure => simp [intOf]; omega
            · have d3 : decide (0 < cx) = false := decide_eq_false hx0
              have HX0 : Hid (¬ (ct = 0 ∨ 0 < kcmp ⟨false, xn8, xs8⟩ ⟨xb, xn, xs⟩)) := Lib.hid (by rw [← HKX.out]; rintro (h | h); exact HC0.out h; exact hx0 h)
              clear hx0
              have t0 : w4.cell? ⟨w.heap.size + 1, 0, none⟩ = some (.int .i64 ct) := HRG4.out.cell 0
              have tf : w4.frozen? ⟨w.heap.size + 1, 0, none⟩ = false := HRG4.out.free 0
              obtain ⟨w6, hw6⟩ : ∃ w6, w6 = w4.setCell ⟨w.heap.size + 1, 0, none⟩ (.int .i64 (ct + 1)) := ⟨_, rfl⟩
              have hg6 : w4.grownBy w6 (some (w.heap.size + 1)) := by rw [hw6]; exact grown_set _ _ _ _
              have HRG6 : Hid (Row w6 (w.heap.size + 1) 43 [.int .i64 (ct + 1), .bool hh, .bool mb, .int .i64 mn, .string ms, .bool xb, .int .i64 xn, .string xs, .int .i64 0, .bool false]) := Lib.hid (by rw [hw6]; exact HRG4.out.set_ 0 (.int .i64 (ct + 1)))
              have r86 := grown_row HR84.out hg6 (by omega)
              have HRZ6 := Lib.hid (grown_row HRZ4.out hg6 (by omega))
              have HOW6 := Lib.hid (own_past HOW4.out hg6 (by omega))
              have HBW6 : Hid (Below w.heap.size w w6) := Lib.hid (by rw [hw6]; exact HBW4.out.setCell (by show w.heap.size ≤ w.heap.size + 1; omega) _)
              have hz6 : w6.heap.size = w4.heap.size := by rw [hw6]; simp
              have t8 : w6.cell? ⟨wr.heap.size, 1, none⟩ = some (.int .i64 xn8) := r86.cell 1
              have hA6 : Below w6.heap.size w6 (w6.alloc (.cells #[.int .i64 xn8] 3)) := (Below.refl _ _).alloc (Nat.le_refl _) _
              have hl7 : Lies (w6.alloc (.cells #[.int .i64 xn8] 3)) (some ⟨w6.heap.size, 0, none⟩) [iv xn8] := (show Row (w6.alloc (.cells #[.int .i64 xn8] 3)) w6.heap.size 3 [iv xn8] from heap_alloc_new w6 _).lies 0
              have how7 := own_below HOW6.out hA6
              have HRG7 := Lib.hid (HRG6.out.below hA6 HRG6.out.lt)
              have HRZ7 := Lib.hid (HRZ6.out.below hA6 HRZ6.out.lt)
              have HBW7 := Lib.hid (below_then HBW6.out hA6)
              have hz7 : w.heap.size + 2 ≤ (w6.alloc (.cells #[.int .i64 xn8] 3)).heap.size := by have := HRG4.out.lt; simp; omega
              rw [← HNL.out] at how7
              have HOW7 := Lib.hid how7
              rw [hz6] at hl7
              rw [hw6] at t8 hl7 how7 hz7
              clear hg6 r86 hA6 hz6
              have HW6 := Lib.hid hw6
              clear hw6
              go_wp2_with (at_builtin; refine wpList_join elemI rfl _ _ rfl (w.heap.size + 2) _ _ _ _ _ _ [iv xn8] _ rfl rfl (fun h => by cases h) rfl hl7 (vs_one (f := iv) (fun _ => rfl) [xn8]) how7 (Below.refl _ _) hz7 (by omega) (by omega) ?_)
              intro v9 w9 hown9 hb9 hgr9 _
              rw [← HW6.out] at hb9 hgr9
              have hrel2 : GOfRel l w v9 (.int .i64 ((j : Int) + 1)) w9 := by
                refine ⟨j + 1, ns ++ [xn8], hjl, by go_num, ?_, ?_, row_past HRZ7.out HOW7.out hgr9 (by omega), ?_, HBW7.out.trans (hb9.mono (by omega))⟩
                · rw [HTK.out, ← HX.out, nsome_some1 rfl, List.map_append, ← HNS.out]; rfl
                · have h := row_past HRG7.out HOW7.out hgr9 (by omega)
                  rw [HTK.out, ← HX.out, gpart_some rfl, ← HG.out]
                  dsimp only
                  rw [if_neg HM0.out, if_neg HX0.out]
                  exact h
                · rw [List.length_append, List.map_append, ← HNL.out]; exact hown9
              have HREL := Lib.hid hrel2
              obtain ⟨B10, c10, rfl, _, _, _, _, _⟩ := own_shape hown9
              clear hrel2 hown9 hb9 hgr9 how7 hl7 hz7 t0 tf t8
              go_wp2
              go_roundw
              case rel => exact HREL.out
              case measure => simp [intOf]; omega
    · obtain rfl : j = n := by omega
      have hlti : ¬ (j : Int) < (j : Int) := by omega
      have HLL := Lib.hid (show l.take j = l from List.take_of_length_le (by have := HN.out; omega))
      have hnb : ∀ x ∈ ns, -9223372036854775808 ≤ x ∧ x ≤ 9223372036854775807 := by
        intro x hx
        rw [HNS.out, HLL.out] at hx
        obtain ⟨y, hy, rfl⟩ := List.mem_map.1 hx
        unfold nsome at hy
        exact HI.out y (List.mem_filter.1 hy).1
      have hO := HOWN.out
      rw [← HNL.out] at hO
      have hIV : IsV iv ns (.slice B6 nl c6) wr := isV_own hO
      have HSUM := Lib.hid (rsum17_any ns _ wr hIV hnb (by rw [← HNL.out]; exact hnl))
      have HNU := Lib.hid (rnumber12_any k wr)
      have HE := Lib.hid (gof_part k l)
      rw [HLL.out] at HNS HG
      rw [← HNS.out, ← HG.out] at HE
      obtain ⟨sv, ok, hso⟩ : ∃ sv ok, gsumE ns = (sv, ok) := ⟨_, _, rfl⟩
      rw [hso] at HSUM HE
      have hgr : w.heap.size + 1 < wr.heap.size := HROW.out.lt
      obtain ⟨nu, hnu⟩ : ∃ nu, nu = knumber k := ⟨_, rfl⟩
      rw [← hnu] at HNU HE
      clear hO hIV hnb hso hnu
      cases nu with
      | false =>
        have z0 : wr.cell? ⟨w.heap.size + 1, 0, none⟩ = some (.int .i64 ct) := HROW.out.cell 0
        have z1 : wr.cell? ⟨w.heap.size + 1, 1, none⟩ = some (.bool hh) := HROW.out.cell 1
        have z2 : wr.cell? ⟨w.heap.size + 1, 2, none⟩ = some (.bool mb) := HROW.out.cell 2
        have z3 : wr.cell? ⟨w.heap.size + 1, 3, none⟩ = some (.int .i64 mn) := HROW.out.cell 3
        have z4 : wr.cell? ⟨w.heap.size + 1, 4, none⟩ = some (.string ms) := HROW.out.cell 4
        have z5 : wr.cell? ⟨w.heap.size + 1, 5, none⟩ = some (.bool xb) := HROW.out.cell 5
        have z6 : wr.cell? ⟨w.heap.size + 1, 6, none⟩ = some (.int .i64 xn) := HROW.out.cell 6
        have z7 : wr.cell? ⟨w.heap.size + 1, 7, none⟩ = some (.string xs) := HROW.out.cell 7
        have z8 : wr.cell? ⟨w.heap.size + 1, 8, none⟩ = some (.int .i64 0) := HROW.out.cell 8
        have z9 : wr.cell? ⟨w.heap.size + 1, 9, none⟩ = some (.bool false) := HROW.out.cell 9
        have HE2 : Hid (gofE k l = ⟨ct, hh, ⟨mb, mn, ms⟩, ⟨xb, xn, xs⟩, 0, false⟩) := Lib.hid (by rw [HE.out]; rfl)
        go_wp2_with (first | (go_at_call 34; refine HNU.out.mono ?_; rintro e w' ⟨rfl, rfl⟩) | (go_at_call 42; refine HSUM.out.mono ?_; rintro e w' ⟨rfl, rfl⟩) | (refine wpList_storeG rfl _ _ _ rfl w.heap.size 0 43 gz (gcells ⟨ct, hh, ⟨mb, mn, ms⟩, ⟨xb, xn, xs⟩, 0, false⟩) (gcells ⟨ct, hh, ⟨mb, mn, ms⟩, ⟨xb, xn, xs⟩, 0, false⟩) rfl rfl rfl HZ.out stats_size17 (by simp [gz, gcells]) (stats_one17 _) w w.heap.size HB.out (Nat.le_refl _) ?_))
        intro w9 hg9 hb9 _
        have HG9 := Lib.hid hg9
        have HB9 := Lib.hid hb9
        clear hg9 hb9
        go_wp2
        refine bodyPost_ret (results_cell_row rfl _ _ w.heap.size 43 (gcells ⟨ct, hh, ⟨mb, mn, ms⟩, ⟨xb, xn, xs⟩, 0, false⟩).toArray (0, 0) _ rfl HG9.out Tryd.underlying43 rfl (by rw [stats_size17]; rfl)) rfl ?_
        rw [HE2.out]
        exact ⟨rfl, HB9.out⟩
      | true =>
        have f8 : wr.frozen? ⟨w.heap.size + 1, 8, none⟩ = false := HROW.out.free 8
        have h8 := HROW.out.set_ 8 (.int .i64 sv)
        have y8 : wr.cell? ⟨w.heap.size + 1, 8, none⟩ = some (.int .i64 0) := HROW.out.cell 8
        have y9 : wr.cell? ⟨w.heap.size + 1, 9, none⟩ = some (.bool false) := HROW.out.cell 9
        have x9 : (wr.setCell ⟨w.heap.size + 1, 8, none⟩ (.int .i64 sv)).cell? ⟨w.heap.size + 1, 9, none⟩ = some (.bool false) := h8.cell 9
        have f9' : wr.frozen? ⟨w.heap.size + 1, 9, none⟩ = false := HROW.out.free 9
        have f9 : (wr.setCell ⟨w.heap.size + 1, 8, none⟩ (.int .i64 sv)).frozen? ⟨w.heap.size + 1, 9, none⟩ = false := h8.free 9
        have h9 := h8.set_ 9 (.bool (!ok))
        have HR9 := Lib.hid h9
        have HZ9 := Lib.hid ((HZ.out.far (p := ⟨w.heap.size + 1, 8, none⟩) (by simp) (.int .i64 sv)).far (p := ⟨w.heap.size + 1, 9, none⟩) (by simp) (.bool (!ok)))
        have HB9' := Lib.hid ((HB.out.setCell (p := ⟨w.heap.size + 1, 8, none⟩) (by show w.heap.size ≤ w.heap.size + 1; omega) (.int .i64 sv)).setCell (p := ⟨w.heap.size + 1, 9, none⟩) (by show w.heap.size ≤ w.heap.size + 1; omega) (.bool (!ok)))
        have z0 : ((wr.setCell ⟨w.heap.size + 1, 8, none⟩ (.int .i64 sv)).setCell ⟨w.heap.size + 1, 9, none⟩ (.bool (!ok))).cell? ⟨w.heap.size + 1, 0, none⟩ = some (.int .i64 ct) := HR9.out.cell 0
        have z1 : ((wr.setCell ⟨w.heap.size + 1, 8, none⟩ (.int .i64 sv)).setCell ⟨w.heap.size + 1, 9, none⟩ (.bool (!ok))).cell? ⟨w.heap.size + 1, 1, none⟩ = some (.bool hh) := HR9.out.cell 1
        have z2 : ((wr.setCell ⟨w.heap.size + 1, 8, none⟩ (.int .i64 sv)).setCell ⟨w.heap.size + 1, 9, none⟩ (.bool (!ok))).cell? ⟨w.heap.size + 1, 2, none⟩ = some (.bool mb) := HR9.out.cell 2
        have z3 : ((wr.setCell ⟨w.heap.size + 1, 8, none⟩ (.int .i64 sv)).setCell ⟨w.heap.size + 1, 9, none⟩ (.bool (!ok))).cell? ⟨w.heap.size + 1, 3, none⟩ = some (.int .i64 mn) := HR9.out.cell 3
        have z4 : ((wr.setCell ⟨w.heap.size + 1, 8, none⟩ (.int .i64 sv)).setCell ⟨w.heap.size + 1, 9, none⟩ (.bool (!ok))).cell? ⟨w.heap.size + 1, 4, none⟩ = some (.string ms) := HR9.out.cell 4
        have z5 : ((wr.setCell ⟨w.heap.size + 1, 8, none⟩ (.int .i64 sv)).setCell ⟨w.heap.size + 1, 9, none⟩ (.bool (!ok))).cell? ⟨w.heap.size + 1, 5, none⟩ = some (.bool xb) := HR9.out.cell 5
        have z6 : ((wr.setCell ⟨w.heap.size + 1, 8, none⟩ (.int .i64 sv)).setCell ⟨w.heap.size + 1, 9, none⟩ (.bool (!ok))).cell? ⟨w.heap.size + 1, 6, none⟩ = some (.int .i64 xn) := HR9.out.cell 6
        have z7 : ((wr.setCell ⟨w.heap.size + 1, 8, none⟩ (.int .i64 sv)).setCell ⟨w.heap.size + 1, 9, none⟩ (.bool (!ok))).cell? ⟨w.heap.size + 1, 7, none⟩ = some (.string xs) := HR9.out.cell 7
        have z8 : ((wr.setCell ⟨w.heap.size + 1, 8, none⟩ (.int .i64 sv)).setCell ⟨w.heap.size + 1, 9, none⟩ (.bool (!ok))).cell? ⟨w.heap.size + 1, 8, none⟩ = some (.int .i64 sv) := HR9.out.cell 8
        have z9 : ((wr.setCell ⟨w.heap.size + 1, 8, none⟩ (.int .i64 sv)).setCell ⟨w.heap.size + 1, 9, none⟩ (.bool (!ok))).cell? ⟨w.heap.size + 1, 9, none⟩ = some (.bool (!ok)) := HR9.out.cell 9
        clear h8 h9
        have HE2 : Hid (gofE k l = ⟨ct, hh, ⟨mb, mn, ms⟩, ⟨xb, xn, xs⟩, sv, !ok⟩) := Lib.hid (by rw [HE.out]; rfl)
        go_wp2_with (first | (go_at_call 34; refine HNU.out.mono ?_; rintro e w' ⟨rfl, rfl⟩) | (go_at_call 42; refine HSUM.out.mono ?_; rintro e w' ⟨rfl, rfl⟩) | (refine wpList_storeG rfl _ _ _ rfl w.heap.size 0 43 gz (gcells ⟨ct, hh, ⟨mb, mn, ms⟩, ⟨xb, xn, xs⟩, sv, !ok⟩) (gcells ⟨ct, hh, ⟨mb, mn, ms⟩, ⟨xb, xn, xs⟩, sv, !ok⟩) rfl rfl rfl HZ9.out stats_size17 (by simp [gz, gcells]) (stats_one17 _) w w.heap.size HB9'.out (Nat.le_refl _) ?_))
        intro w9 hg9 hb9 _
        have HG9 := Lib.hid hg9
        have HB9 := Lib.hid hb9
        clear hg9 hb9
        go_wp2
        refine bodyPost_ret (results_cell_row rfl _ _ w.heap.size 43 (gcells ⟨ct, hh, ⟨mb, mn, ms⟩, ⟨xb, xn, xs⟩, sv, !ok⟩).toArray (0, 0) _ rfl HG9.out Tryd.underlying43 rfl (by rw [stats_size17]; rfl)) rfl ?_
        rw [HE2.out]
        exact ⟨rfl, HB9.out⟩
end Go.Proofs.YtniniophoocalaaDoor
