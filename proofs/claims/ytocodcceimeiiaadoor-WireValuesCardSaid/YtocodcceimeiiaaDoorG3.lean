/- Texts that the claims of this seat share, part 3: Utf KMay1 KOpen UDoor KMayO KCmpO WOpen NPlain NRef GPlain GRef GMay GEq GOpen GPart GTal GSum GOf GMerge GFew GAdd GTly GAddC GTold GOfO GMayO GIs FPlain FVal0 FVal FTurn FRef FTk RegG FNum FPutO. -/
import Derived.Shelf.Unicode.ValidAny
import Derived.Lib.LaidU8T
import Derived.PinnedBridge
import Derived.Test.YtocodcceimeiiaaDoorProg
import Derived.Lib.SmallJoins
import Derived.Test.YtocodcceimeiiaaDoorTie
import Derived.Test.YtocodcceimeiiaaDoorCards
import Derived.SevenTiedAt
import Derived.Stop.Joined
import Derived.Lay
import Derived.LaidOnce
import Derived.Lib.ValidLaws
import Derived.Lib.OthersKept
import Derived.Deep.Slices
import Derived.Laws.StructEq
import Derived.Laws.Externs
import Derived.Deep.DeepCutAuto
import Derived.BigQuiet
import Derived.Deep.QuietTactic
import Derived.Test.YtocodcceimeiiaaDoorG2
/- utf8.ValidString's contract, laid at this program; its two tables out of what a seat's rows list. -/









namespace Go.Proofs

open Go.Shelf Go.Lib Go.RowKit
def Tryd.lays196_ren : Go.Shelf.Ren := ⟨fun | 196 => 47 | 259 => 53 | n => n, fun | 0 => 0 | 3 => 3 | 4 => 4 | 5 => 5 | 9 => 9 | 12 => 12 | 46 => 73 | 53 => 47 | 119 => 82 | 138 => 84 | 139 => 85 | n => n, fun | 3 => 0 | 4 => 1 | n => n⟩
theorem Tryd.lays196 : Lays.n196 Tryd.prog Tryd.lays196_ren := {
  mixed := by kernel_rfl
  f196 := Tryd.func47.trans (congrArg some (by kernel_rfl))
  f259 := Tryd.func53.trans (congrArg some (by kernel_rfl))
  t0 := Tryd.underlying0
  a0 := Tryd.isAgg0
  z0 := Tryd.sizeOf0
  v0 := Tryd.zeroValue0
  t3 := Tryd.underlying3
  a3 := Tryd.isAgg3
  z3 := Tryd.sizeOf3
  v3 := Tryd.zeroValue3
  t4 := Tryd.underlying4
  a4 := Tryd.isAgg4
  z4 := Tryd.sizeOf4
  v4 := Tryd.zeroValue4
  t5 := Tryd.underlying5
  a5 := Tryd.isAgg5
  z5 := Tryd.sizeOf5
  v5 := Tryd.zeroValue5
  t9 := Tryd.underlying9
  a9 := Tryd.isAgg9
  z9 := Tryd.sizeOf9
  v9 := Tryd.zeroValue9
  t12 := Tryd.underlying12
  a12 := Tryd.isAgg12
  z12 := Tryd.sizeOf12
  v12 := Tryd.zeroValue12
  t46 := Tryd.underlying73
  a46 := Tryd.isAgg73
  z46 := Tryd.sizeOf73
  v46 := Tryd.zeroValue73
  t53 := Tryd.underlying47
  a53 := Tryd.isAgg47
  z53 := Tryd.sizeOf47
  v53 := Tryd.zeroValue47
  t119 := Tryd.underlying82
  a119 := Tryd.isAgg82
  z119 := Tryd.sizeOf82
  t138 := Tryd.underlying84
  a138 := Tryd.isAgg84
  z138 := Tryd.sizeOf84
  v138 := Tryd.zeroValue84
  t139 := Tryd.underlying85
  a139 := Tryd.isAgg85
  z139 := Tryd.sizeOf85
  v139 := Tryd.zeroValue85
  g3 := by kernel_rfl
  g4 := by kernel_rfl }
theorem Tryd.u8extra : U8Extra Tryd.prog Tryd.lays196_ren := {
  n3 := by kernel_rfl
  n4 := by kernel_rfl
  y3 := by kernel_rfl
  y4 := by kernel_rfl
  c5 := by kernel_rfl
  c119 := by kernel_rfl
  c138 := by kernel_rfl }
/-- The two tables lie as their initialisers lay them. -/
def Tryd.U8 (w : World) : Prop := Lib.Utf8Tabs 0 1 w
theorem Tryd.validString (s : ByteArray) (w : World) (hs : s.size ≤ 9223372036854775807) (hT : Tryd.U8 w) :
    Calls Tryd.prog 47 #[.string s] w fun e w' => e = .returned (.bool (Lib.validD s.data.toList)) ∧ Below w.heap.size w w' := Any.utf8_ValidString Tryd.lays196 s w hs hT
end Go.Proofs

/- Contracts of layer 12's reference: Number and May. -/





namespace Go.Proofs.YtocodcceimeiiaaDoor

open Go.RowKit

def knumber (k : Int) : Bool := decide (1 ≤ k) && decide (k ≤ 5)
def kmay (k : Int) (v : CV) : Bool :=
  if (decide (k < 1) || decide (7 < k)) = true then false
  else if v.null = true then (v.n == 0) && (v.s.toList == [])
  else if decide (k ≤ 5) = true then (v.s.toList == []) && (((k != 1) || (v.n == 0)) || (v.n == 1))
  else ((v.n == 0) && decide ((v.s.size : Int) ≤ 300)) && ((k == 7) || Lib.validD v.s.data.toList)
/-- The same, of its tests. -/
def kmayB (c1 c2 b n0 s0 c5 k1 n1 len k7 v : Bool) : Bool :=
  bif c1 || c2 then false else bif b then n0 && s0 else bif c5 then s0 && ((k1 || n0) || n1) else (n0 && len) && (k7 || v)
theorem kmay_of (k : Int) (b : Bool) (n : Int) (s : ByteArray) : kmay k ⟨b, n, s⟩ = kmayB (decide (k < 1)) (decide (7 < k)) b (n == 0) (s.toList == []) (decide (k ≤ 5)) (k != 1) (n == 1) (decide ((s.size : Int) ≤ 300)) (k == 7) (Lib.validD s.data.toList) := by
  unfold kmay kmayB
  simp only [cond_eq_ite]
theorem rnumber12_any (k : Int) (w : World) : Calls Tryd.prog 37 #[.int .i64 k] w fun e w' => e = .returned (.bool (knumber k)) ∧ w = w' := by
  have HK : Hid (knumber k = (decide (1 ≤ k) && decide (k ≤ 5))) := Lib.hid rfl
  cases c1 : decide (1 ≤ k)
  · rw [c1] at HK
    go_enter Tryd.func37, Tryd.ntmps37
    go_wp2
    go_ret
    exact ⟨by rw [HK.out]; rfl, rfl⟩
  · cases c2 : decide (k ≤ 5)
    all_goals
      rw [c1, c2] at HK
      go_enter Tryd.func37, Tryd.ntmps37
      go_wp2
      go_ret
      exact ⟨by rw [HK.out]; rfl, rfl⟩
set_option maxHeartbeats 2000000 in
set_option maxRecDepth 100000 in
theorem rmay12_any (k : Int) (v : CV) (w : World) (hU : Tryd.U8 w) (hs : v.s.size ≤ maxLen) :
    Calls Tryd.prog 35 #[.int .i64 k, cv v] w fun e w' => e = .returned (.bool (kmay k v)) ∧ Below w.heap.size w w' := by
  obtain ⟨b, n, s⟩ := v
  dsimp only at hs
  have hsi : s.size ≤ 9223372036854775807 := by unfold maxLen at hs; omega
  have HVS := Lib.hid (fun W (h : Tryd.U8 W) => Tryd.validString s W hsi h)
  have hA : Row (w.alloc (.cells #[.bool b, .int .i64 n, .string s] 32)) w.heap.size 32 [.bool b, .int .i64 n, .string s] := heap_alloc_new w _
  have hb : Below w.heap.size w (w.alloc (.cells #[.bool b, .int .i64 n, .string s] 32)) := (Below.refl _ _).alloc (Nat.le_refl _) _
  have HU := Lib.hid (show Tryd.U8 _ from Utf8Tabs_below hU hb)
  have HBE := Lib.hid hb
  have a0 := hA.cell 0
  have a1 := hA.cell 1
  have a2 := hA.cell 2
  have HK0 := kmay_of k b n s
  clear hA hb hs hsi hU
  unfold cv
  cases c1 : decide (k < 1)
  · cases c2 : decide (7 < k)
    · cases b
      · cases c5 : decide (k ≤ 5)
        · cases n0 : (n == 0)
          · rw [c1, c2, c5, n0] at HK0
            have HK := Lib.hid HK0
            clear HK0
            go_enter Tryd.func35, Tryd.ntmps35
            go_wp2
            go_ret
            exact ⟨by rw [HK.out]; rfl, HBE.out⟩
          · cases len : decide ((s.size : Int) ≤ 300)
            · rw [c1, c2, c5, n0, len] at HK0
              have HK := Lib.hid HK0
              clear HK0
              go_enter Tryd.func35, Tryd.ntmps35
              go_wp2
              go_ret
              exact ⟨by rw [HK.out]; rfl, HBE.out⟩
            · cases k7 : (k == 7)
              · rw [c1, c2, c5, n0, len, k7] at HK0
                have HK := Lib.hid HK0
                clear HK0
                go_enter Tryd.func35, Tryd.ntmps35
                go_wp2_with (go_at_call 47; refine (HVS.out _ HU.out).mono ?_)
                rintro e w2 ⟨rfl, hb2⟩
                have HB2 := Lib.hid (below_then HBE.out hb2)
                clear hb2
                go_wp2
                go_ret
                exact ⟨by rw [HK.out]; rfl, HB2.out⟩
              · rw [c1, c2, c5, n0, len, k7] at HK0
                have HK := Lib.hid HK0
                clear HK0
                go_enter Tryd.func35, Tryd.ntmps35
                go_wp2
                go_ret
                exact ⟨by rw [HK.out]; rfl, HBE.out⟩
        · cases s0 : (s.toList == [])
          · rw [c1, c2, c5, s0] at HK0
            have HK := Lib.hid HK0
            clear HK0
            go_enter Tryd.func35, Tryd.ntmps35
            go_wp2
            go_ret
            exact ⟨by rw [HK.out]; rfl, HBE.out⟩
          · cases k1 : (k != 1)
            · cases n0 : (n == 0)
              · cases n1 : (n == 1)
                · rw [c1, c2, c5, s0, k1, n0, n1] at HK0
                  have HK := Lib.hid HK0
                  clear HK0
                  go_enter Tryd.func35, Tryd.ntmps35
                  go_wp2
                  go_ret
                  exact ⟨by rw [HK.out]; rfl, HBE.out⟩
                · rw [c1, c2, c5, s0, k1, n0, n1] at HK0
                  have HK := Lib.hid HK0
                  clear HK0
                  go_enter Tryd.func35, Tryd.ntmps35
                  go_wp2
                  go_ret
                  exact ⟨by rw [HK.out]; rfl, HBE.out⟩
              · rw [c1, c2, c5, s0, k1, n0] at HK0
                have HK := Lib.hid HK0
                clear HK0
                go_enter Tryd.func35, Tryd.ntmps35
                go_wp2
                go_ret
                exact ⟨by rw [HK.out]; rfl, HBE.out⟩
            · rw [c1, c2, c5, s0, k1] at HK0
              have HK := Lib.hid HK0
              clear HK0
              go_enter Tryd.func35, Tryd.ntmps35
              go_wp2
              go_ret
              exact ⟨by rw [HK.out]; rfl, HBE.out⟩
      · cases n0 : (n == 0)
        · rw [c1, c2, n0] at HK0
          have HK := Lib.hid HK0
          clear HK0
          go_enter Tryd.func35, Tryd.ntmps35
          go_wp2
          go_ret
          exact ⟨by rw [HK.out]; rfl, HBE.out⟩
        · cases s0 : (s.toList == [])
          · rw [c1, c2, n0, s0] at HK0
            have HK := Lib.hid HK0
            clear HK0
            go_enter Tryd.func35, Tryd.ntmps35
            go_wp2
            go_ret
            exact ⟨by rw [HK.out]; rfl, HBE.out⟩
          · rw [c1, c2, n0, s0] at HK0
            have HK := Lib.hid HK0
            clear HK0
            go_enter Tryd.func35, Tryd.ntmps35
            go_wp2
            go_ret
            exact ⟨by rw [HK.out]; rfl, HBE.out⟩
    · rw [c1, c2] at HK0
      have HK := Lib.hid HK0
      clear HK0
      go_enter Tryd.func35, Tryd.ntmps35
      go_wp2
      go_ret
      exact ⟨by rw [HK.out]; rfl, HBE.out⟩
  · rw [c1] at HK0
    have HK := Lib.hid HK0
    clear HK0
    go_enter Tryd.func35, Tryd.ntmps35
    go_wp2
    go_ret
    exact ⟨by rw [HK.out]; rfl, HBE.out⟩
end Go.Proofs.YtocodcceimeiiaaDoor

/- A value (a struct of a truth, a number, a text) that comes in. -/







namespace Go.Proofs.YtocodcceimeiiaaDoor

open Go.RowKit

set_option maxRecDepth 100000 in
set_option maxHeartbeats 2000000 in
theorem open_val {H : Type} {enc : TypeId × Value → H} {W : World} {v : Value} {d : DataW H} {ps : List MemPlace} {base : Nat}
    (hval : Value.okWide Tryd.prog W .any base 32 v) (hd : DataW.Trod enc Tryd.prog W 0 (fun _ => true) true 32 v d ps) :
    ∃ c : CV, v = cv c ∧ c.inInt ∧ c.s.size ≤ maxLen := by
  obtain ⟨v0, v1, v2, y0, y1, y2, n, rfl, _, _, h0, h1, h2⟩ := Joins.open_agg3 Tryd.underlying32 (by kernel_rfl) (by kernel_rfl) hval hd
  obtain ⟨b, e0, _⟩ := DataW.trod_bool Tryd.underlying4 h0
  obtain ⟨i, e1, _, hw⟩ := DataW.trod_int Tryd.underlying3 h1
  obtain ⟨s, e2, _, hs⟩ := DataW.trod_string Tryd.underlying9 h2
  simp at e0 e1 e2
  subst e0 e1 e2
  exact ⟨⟨b, i, s⟩, rfl, (wf_i64 hw), hs⟩
end Go.Proofs.YtocodcceimeiiaaDoor

/- utf8's two tables out of what a seat's rows list. (For seats whose rows list these two alone.) -/



















namespace Go.Proofs.YtocodcceimeiiaaDoor

open Go.Lib Go.RowKit Go.ChangeShapes Go.WideShapes Go.ChangeAt

theorem u8_of {W : World} (h : laidMetH Tryd.prog [("unicode/utf8.acceptRanges", Rows.laid_unicode_utf8_acceptRanges), ("unicode/utf8.first", Rows.laid_unicode_utf8_first)] W) : Tryd.U8 W := by
  rw [MakeChecks.laidMetH_plain _ _ _ (by kernel_rfl)] at h
  have h1 := Go.Lib.laidMet.reads h (n := "unicode/utf8.first") (d := Rows.laid_unicode_utf8_first) (by simp)
  have h2 := Go.Lib.laidMet.reads h (n := "unicode/utf8.acceptRanges") (d := Rows.laid_unicode_utf8_acceptRanges) (by simp)
  rw [show Rows.laid_unicode_utf8_first = firstData from Pinned.utf8First_eq] at h1
  rw [show (Rows.laid_unicode_utf8_acceptRanges : DataW Unit) = acceptData from by kernel_rfl] at h2
  exact utf8Tabs_of_readsT (U8Types.of196 Tryd.lays196) Tryd.u8extra h1 h2
end Go.Proofs.YtocodcceimeiiaaDoor

/- The program's contracts of layer 12: Number, known, right, May. -/









namespace Go.Proofs.YtocodcceimeiiaaDoor

open Go.RowKit

theorem knumber_own (k : Int) (w : World) : Calls Tryd.prog 52 #[.int .i64 k] w fun e w' => e = .returned (.bool (knumber k)) ∧ w = w' := by
  have HK : Hid (knumber k = (decide (1 ≤ k) && decide (k ≤ 5))) := Lib.hid rfl
  cases c1 : decide (1 ≤ k)
  · rw [c1] at HK
    go_enter Tryd.func52, Tryd.ntmps52
    go_wp2
    go_ret
    exact ⟨by rw [HK.out]; rfl, rfl⟩
  · cases c2 : decide (k ≤ 5)
    all_goals
      rw [c1, c2] at HK
      go_enter Tryd.func52, Tryd.ntmps52
      go_wp2
      go_ret
      exact ⟨by rw [HK.out]; rfl, rfl⟩
/-- Whether there are columns of that kind. -/
def kknown (k : Int) : Bool := (knumber k || (k == 6)) || (k == 7)
theorem kknown_iff (k : Int) : kknown k = true ↔ 1 ≤ k ∧ k ≤ 7 := by
  unfold kknown knumber
  simp only [Bool.or_eq_true, Bool.and_eq_true, decide_eq_true_eq, beq_iff_eq]
  omega
theorem kknown_any (k : Int) (w : World) : Calls Tryd.prog 56 #[.int .i64 k] w fun e w' => e = .returned (.bool (kknown k)) ∧ w = w' := by
  have HK : Hid (kknown k = ((knumber k || (k == 6)) || (k == 7))) := Lib.hid rfl
  have HN := Lib.hid (fun W => knumber_own k W)
  cases c1 : knumber k
  · rw [c1] at HK HN
    clear c1
    cases c2 : (k == 6)
    all_goals
      rw [c2] at HK
      go_enter Tryd.func56, Tryd.ntmps56
      go_wp2_with (go_at_call 52; refine (HN.out _).mono ?_)
      rintro e w' ⟨rfl, rfl⟩
      go_wp2
      go_ret
      exact ⟨by rw [HK.out]; rfl, rfl⟩
  · rw [c1] at HK HN
    clear c1
    go_enter Tryd.func56, Tryd.ntmps56
    go_wp2_with (go_at_call 52; refine (HN.out _).mono ?_)
    rintro e w' ⟨rfl, rfl⟩
    go_wp2
    go_ret
    exact ⟨by rw [HK.out]; rfl, rfl⟩
set_option maxRecDepth 100000 in
set_option maxHeartbeats 4000000 in
/-- U+FFFD is decoded out of its three bytes, or stands for what can't be read, which takes one byte. -/
theorem decodeN_fffd (n b0 b1 b2 b3 : Nat) (h0 : b0 < 256) (_h1 : b1 < 256) (_h2 : b2 < 256) (_h3 : b3 < 256) (h : (Lib.decodeN n b0 b1 b2 b3).1 = 65533) :
    ((Lib.decodeN n b0 b1 b2 b3).2 = 1 ∧ ¬ (3 ≤ n ∧ b0 = 239 ∧ b1 = 191 ∧ b2 = 189)) ∨ ((Lib.decodeN n b0 b1 b2 b3).2 = 3 ∧ 3 ≤ n ∧ b0 = 239 ∧ b1 = 191 ∧ b2 = 189) := by
  unfold Lib.decodeN at h ⊢
  repeat' split at h
  all_goals simp only [] at h
  all_goals first
    | (exfalso; omega)
    | (rw [if_neg (by omega), if_neg (by omega), if_pos (by omega), if_pos (by omega)]; right; simp only []; omega)
    | skip
  all_goals
    repeat' split
    all_goals first | (exfalso; omega) | (left; refine ⟨rfl, ?_⟩; omega) | (right; refine ⟨rfl, ?_⟩; omega)
theorem prefix3 (l : List UInt8) : Lib.hasPrefix l [239, 191, 189] = true ↔ 3 ≤ l.length ∧ (l.getD 0 0).toNat = 239 ∧ (l.getD 1 0).toNat = 191 ∧ (l.getD 2 0).toNat = 189 := by
  unfold Lib.hasPrefix
  rcases l with _ | ⟨a, _ | ⟨b, _ | ⟨c, l⟩⟩⟩
  · simp
  · simp
  · simp
  · simp only [List.isPrefixOf, List.getD_cons_zero, List.getD_cons_succ, List.length_cons, Bool.and_eq_true, beq_iff_eq, and_true]
    constructor
    · rintro ⟨rfl, rfl, rfl⟩
      exact ⟨by omega, rfl, rfl, rfl⟩
    · rintro ⟨-, h1, h2, h3⟩
      exact ⟨UInt8.toNat_inj.1 h1.symm, UInt8.toNat_inj.1 h2.symm, UInt8.toNat_inj.1 h3.symm⟩
/-- One step of reading a text, as the program takes it. -/
theorem valid_step (l : List UInt8) (hne : l ≠ []) : Lib.validD l = if (Lib.decodeL l).1 = 65533 ∧ Lib.hasPrefix l [239, 191, 189] = false then false else Lib.validD (l.drop (Lib.decodeL l).2) := by
  rw [Lib.validD_step l hne]
  by_cases h : (Lib.decodeL l).1 = 65533
  · have hd := Lib.decodeL_N l
    have h' := h
    rw [hd] at h'
    have key := decodeN_fffd _ _ _ _ _ (UInt8.toNat_lt _) (UInt8.toNat_lt _) (UInt8.toNat_lt _) (UInt8.toNat_lt _) h'
    rw [← hd] at key
    rcases key with ⟨k1, k2⟩ | ⟨k1, k2⟩
    · have : Lib.hasPrefix l [239, 191, 189] = false := by
        rw [← Bool.not_eq_true, prefix3]
        exact k2
      rw [if_pos ⟨h, k1⟩, if_pos ⟨h, this⟩]
    · have : Lib.hasPrefix l [239, 191, 189] = true := (prefix3 l).2 k2
      rw [if_neg (by rw [k1]; omega), if_neg (by rw [this]; simp)]
  · rw [if_neg (fun h2 => h h2.1), if_neg (fun h2 => h h2.1)]
/-- What a range over a text knows of its place. -/
def TextRel (s : ByteArray) (w wr : World) : Prop := ∃ pos : Nat, wr.heap[w.heap.size]? = some (.stringIter s pos) ∧ Lib.validD (s.data.toList.drop pos) = Lib.validD s.data.toList ∧ Below w.heap.size w wr
set_option maxHeartbeats 2000000 in
set_option maxRecDepth 100000 in
theorem kright_any (s : ByteArray) (w : World) (hs : s.size ≤ maxLen) : Calls Tryd.prog 57 #[.string s] w fun e w' => e = .returned (.bool (Lib.validD s.data.toList)) ∧ Below w.heap.size w w' := by
  have hsi : (s.size : Int) ≤ 9223372036854775807 := by unfold maxLen at hs; omega
  go_enter Tryd.func57, Tryd.ntmps57
  go_wp2
  go_loopw [] (TextRel s w) (fun wr => s.size - wr.iterPos w.heap.size)
  case atStart =>
    refine ⟨0, ?_, rfl, (Below.refl _ w).alloc (Nat.le_refl _) _⟩
    exact World.iter_heap w s 0
  case round =>
    obtain ⟨pos, hit, hv, hbw⟩ := hrel
    by_cases hp : pos < s.size
    · have hnx : ∀ ty, (Instr.next (.pointer (some ⟨w.heap.size, 0, none⟩)) true ty).run Tryd.prog wr = _ := fun ty => Lib.run_next_any_at wr w.heap.size s pos ty hit hp
      have hit2 := Lib.iterAt_heap wr w.heap.size s pos (pos + (Utf8.decode s pos).2) hit
      have hbw2 := Lib.below_iterAt hbw (k := w.heap.size) (Nat.le_refl _) s (pos + (Utf8.decode s pos).2)
      have hwd := Lib.width_pos s pos
      have hne : s.data.toList.drop pos ≠ [] := by
        intro h0
        have h1 := congrArg List.length h0
        rw [List.length_drop, ← Lib.size_eq] at h1
        simp at h1
        omega
      have hst := valid_step _ hne
      rw [Lib.decodeL_drop, List.drop_drop] at hst
      have hpi : (pos : Int) ≤ (s.size : Int) := by omega
      obtain ⟨r, hr⟩ : ∃ r, r = (Utf8.decode s pos).1 := ⟨_, rfl⟩
      obtain ⟨d, hd⟩ : ∃ d, d = (Utf8.decode s pos).2 := ⟨_, rfl⟩
      rw [← hr, ← hd] at hst
      rw [← hd] at hit2 hbw2 hwd
      simp only [← hr, ← hd] at hnx
      have HIT := Lib.hid hit
      have HIT2 := Lib.hid hit2
      have HB2 := Lib.hid hbw2
      have HV := Lib.hid hv
      have HD := Lib.hid hwd
      clear hr hd hne hit hit2 hbw hbw2 hv hwd
      by_cases h1 : r = 65533
      · subst h1
        have HP := Lib.hid (fun W => lprefix_any (s.extract pos s.size) ⟨#[239, 191, 189]⟩ W)
        rw [show (s.extract pos s.size).data.toList = s.data.toList.drop pos by rw [Lib.extract_data, List.take_of_length_le (by rw [List.length_drop, ← Lib.size_eq]; exact Nat.le_refl _)]] at HP
        change Hid (∀ W, Calls Tryd.prog 61 _ W fun e w' => e = .returned (.bool (Lib.hasPrefix (s.data.toList.drop pos) [239, 191, 189])) ∧ W = w') at HP
        cases hp2 : Lib.hasPrefix (s.data.toList.drop pos) [239, 191, 189]
        · rw [hp2] at HP
          rw [if_pos ⟨rfl, hp2⟩] at hst
          have HX := Lib.hid (HV.out.symm.trans hst)
          clear hst hp2
          go_wp2_with (go_at_call 61; refine (HP.out _).mono ?_; rintro e w' ⟨rfl, rfl⟩)
          go_ret
          exact ⟨by rw [HX.out]; rfl, HB2.out⟩
        · rw [hp2] at HP
          rw [if_neg (by rw [hp2]; simp)] at hst
          have HX := Lib.hid (hst.symm.trans HV.out)
          clear hst hp2
          go_wp2_with (go_at_call 61; refine (HP.out _).mono ?_; rintro e w' ⟨rfl, rfl⟩)
          go_roundw
          case rel => exact ⟨pos + d, HIT2.out, HX.out, HB2.out⟩
          case measure =>
            have := HD.out
            simp only [World.iterPos, HIT.out, HIT2.out]
            omega
      · have hrf : ((r : Int) == 65533) = false := by simp; omega
        rw [if_neg (fun h => h1 h.1)] at hst
        have HX := Lib.hid (hst.symm.trans HV.out)
        clear hst h1
        go_wp2
        go_roundw
        case rel => exact ⟨pos + d, HIT2.out, HX.out, HB2.out⟩
        case measure =>
          have := HD.out
          simp only [World.iterPos, HIT.out, HIT2.out]
          omega
    · have hnx : ∀ ty, (Instr.next (.pointer (some ⟨w.heap.size, 0, none⟩)) true ty).run Tryd.prog wr = _ := fun ty => Lib.run_next_end_at wr w.heap.size s pos ty hit hp
      have h0 : s.data.toList.drop pos = [] := List.drop_eq_nil_of_le (by rw [← Lib.size_eq]; omega)
      rw [h0] at hv
      have HV := Lib.hid hv
      have HB := Lib.hid hbw
      clear hv hbw h0
      go_wp2
      go_ret
      exact ⟨by rw [← HV.out]; rfl, HB.out⟩
/-- What the program asks of a value, of its tests. -/
def kmayP (kn b e1 nu n0 s0 n1 len k7 v : Bool) : Bool :=
  bif !kn then false else bif b then n0 && s0 else bif e1 then s0 && (n0 || n1) else bif nu then s0 else (n0 && len) && (k7 || v)
theorem kmay_own (k : Int) (b : Bool) (n : Int) (s : ByteArray) : kmay k ⟨b, n, s⟩ = kmayP (kknown k) b (k == 1) (knumber k) (n == 0) (s.toList == []) (n == 1) (decide ((s.size : Int) ≤ 300)) (k == 7) (Lib.validD s.data.toList) := by
  rw [kmay_of]
  unfold kmayB kmayP
  have h0 := kknown_iff k
  by_cases h1 : k < 1
  · rw [decide_eq_true h1, show kknown k = false by rw [← Bool.not_eq_true, h0]; omega]; rfl
  · by_cases h7 : 7 < k
    · rw [decide_eq_true h7, show kknown k = false by rw [← Bool.not_eq_true, h0]; omega, Bool.or_true]; rfl
    · rw [decide_eq_false h1, decide_eq_false h7, show kknown k = true from h0.2 (by omega)]
      by_cases h5 : k ≤ 5
      · rw [decide_eq_true h5, show knumber k = true by unfold knumber; rw [decide_eq_true h5, decide_eq_true (by omega)]; rfl]
        by_cases e : k = 1
        · subst e; cases b <;> simp
        · rw [show (k == 1) = false by simpa using e, show (k != 1) = true by simpa using e]
          cases b <;> simp
      · rw [decide_eq_false h5, show knumber k = false by unfold knumber; rw [decide_eq_false h5, Bool.and_false], show (k == 1) = false by simp; omega]
        cases b <;> simp
set_option maxHeartbeats 4000000 in
set_option maxRecDepth 100000 in
theorem kmay_free (k : Int) (v : CV) (w : World) (hs : v.s.size ≤ maxLen) : Calls Tryd.prog 50 #[.int .i64 k, cv v] w fun e w' => e = .returned (.bool (kmay k v)) ∧ Below w.heap.size w w' := by
  obtain ⟨b, n, s⟩ := v
  dsimp only at hs
  have HVS := Lib.hid (fun W => kright_any s W hs)
  have hA : Row (w.alloc (.cells #[.bool b, .int .i64 n, .string s] 32)) w.heap.size 32 [.bool b, .int .i64 n, .string s] := heap_alloc_new w _
  have hb : Below w.heap.size w (w.alloc (.cells #[.bool b, .int .i64 n, .string s] 32)) := (Below.refl _ _).alloc (Nat.le_refl _) _
  have HBE := Lib.hid hb
  have a0 := hA.cell 0
  have a1 := hA.cell 1
  have a2 := hA.cell 2
  have HK0 := kmay_own k b n s
  have HN1 := Lib.hid (fun W => kknown_any k W)
  have HN2 := Lib.hid (fun W => knumber_own k W)
  clear hA hb hs
  unfold cv
  cases kn : kknown k
  · rw [kn] at HK0
    have HK := Lib.hid HK0
    clear HK0
    rw [kn] at HN1
    clear kn
    go_enter Tryd.func50, Tryd.ntmps50
    go_wp2_with (first | (go_at_call 56; refine (HN1.out _).mono ?_; rintro e w' ⟨rfl, rfl⟩))
    go_ret
    exact ⟨by rw [HK.out]; rfl, HBE.out⟩
  · cases b
    · cases e1 : (k == 1)
      · cases nu : knumber k
        · cases n0 : (n == 0)
          · rw [kn, e1, nu, n0] at HK0
            have HK := Lib.hid HK0
            clear HK0
            rw [kn] at HN1
            clear kn
            rw [nu] at HN2
            clear nu
            go_enter Tryd.func50, Tryd.ntmps50
            go_wp2_with (first | (go_at_call 56; refine (HN1.out _).mono ?_; rintro e w' ⟨rfl, rfl⟩) | (go_at_call 52; refine (HN2.out _).mono ?_; rintro e w' ⟨rfl, rfl⟩))
            go_ret
            exact ⟨by rw [HK.out]; rfl, HBE.out⟩
          · cases len : decide ((s.size : Int) ≤ 300)
            · rw [kn, e1, nu, n0, len] at HK0
              have HK := Lib.hid HK0
              clear HK0
              rw [kn] at HN1
              clear kn
              rw [nu] at HN2
              clear nu
              go_enter Tryd.func50, Tryd.ntmps50
              go_wp2_with (first | (go_at_call 56; refine (HN1.out _).mono ?_; rintro e w' ⟨rfl, rfl⟩) | (go_at_call 52; refine (HN2.out _).mono ?_; rintro e w' ⟨rfl, rfl⟩))
              go_ret
              exact ⟨by rw [HK.out]; rfl, HBE.out⟩
            · cases k7 : (k == 7)
              · rw [kn, e1, nu, n0, len, k7] at HK0
                have HK := Lib.hid HK0
                clear HK0
                rw [kn] at HN1
                clear kn
                rw [nu] at HN2
                clear nu
                go_enter Tryd.func50, Tryd.ntmps50
                go_wp2_with (first | (go_at_call 56; refine (HN1.out _).mono ?_; rintro e w' ⟨rfl, rfl⟩) | (go_at_call 52; refine (HN2.out _).mono ?_; rintro e w' ⟨rfl, rfl⟩))
                refine (HVS.out _).mono ?_
                rintro e w2 ⟨rfl, hb2⟩
                have HB2 := Lib.hid (below_then HBE.out hb2)
                clear hb2
                go_wp2
                go_ret
                exact ⟨by rw [HK.out]; rfl, HB2.out⟩
              · rw [kn, e1, nu, n0, len, k7] at HK0
                have HK := Lib.hid HK0
                clear HK0
                rw [kn] at HN1
                clear kn
                rw [nu] at HN2
                clear nu
                go_enter Tryd.func50, Tryd.ntmps50
                go_wp2_with (first | (go_at_call 56; refine (HN1.out _).mono ?_; rintro e w' ⟨rfl, rfl⟩) | (go_at_call 52; refine (HN2.out _).mono ?_; rintro e w' ⟨rfl, rfl⟩))
                go_ret
                exact ⟨by rw [HK.out]; rfl, HBE.out⟩
        · cases s0 : (s.toList == [])
          · rw [kn, e1, nu, s0] at HK0
            have HK := Lib.hid HK0
            clear HK0
            rw [kn] at HN1
            clear kn
            rw [nu] at HN2
            clear nu
            go_enter Tryd.func50, Tryd.ntmps50
            go_wp2_with (first | (go_at_call 56; refine (HN1.out _).mono ?_; rintro e w' ⟨rfl, rfl⟩) | (go_at_call 52; refine (HN2.out _).mono ?_; rintro e w' ⟨rfl, rfl⟩))
            go_ret
            exact ⟨by rw [HK.out]; rfl, HBE.out⟩
          · rw [kn, e1, nu, s0] at HK0
            have HK := Lib.hid HK0
            clear HK0
            rw [kn] at HN1
            clear kn
            rw [nu] at HN2
            clear nu
            go_enter Tryd.func50, Tryd.ntmps50
            go_wp2_with (first | (go_at_call 56; refine (HN1.out _).mono ?_; rintro e w' ⟨rfl, rfl⟩) | (go_at_call 52; refine (HN2.out _).mono ?_; rintro e w' ⟨rfl, rfl⟩))
            go_ret
            exact ⟨by rw [HK.out]; rfl, HBE.out⟩
      · cases s0 : (s.toList == [])
        · rw [kn, e1, s0] at HK0
          have HK := Lib.hid HK0
          clear HK0
          rw [kn] at HN1
          clear kn
          go_enter Tryd.func50, Tryd.ntmps50
          go_wp2_with (first | (go_at_call 56; refine (HN1.out _).mono ?_; rintro e w' ⟨rfl, rfl⟩))
          go_ret
          exact ⟨by rw [HK.out]; rfl, HBE.out⟩
        · cases n0 : (n == 0)
          · cases n1 : (n == 1)
            · rw [kn, e1, s0, n0, n1] at HK0
              have HK := Lib.hid HK0
              clear HK0
              rw [kn] at HN1
              clear kn
              go_enter Tryd.func50, Tryd.ntmps50
              go_wp2_with (first | (go_at_call 56; refine (HN1.out _).mono ?_; rintro e w' ⟨rfl, rfl⟩))
              go_ret
              exact ⟨by rw [HK.out]; rfl, HBE.out⟩
            · rw [kn, e1, s0, n0, n1] at HK0
              have HK := Lib.hid HK0
              clear HK0
              rw [kn] at HN1
              clear kn
              go_enter Tryd.func50, Tryd.ntmps50
              go_wp2_with (first | (go_at_call 56; refine (HN1.out _).mono ?_; rintro e w' ⟨rfl, rfl⟩))
              go_ret
              exact ⟨by rw [HK.out]; rfl, HBE.out⟩
          · rw [kn, e1, s0, n0] at HK0
            have HK := Lib.hid HK0
            clear HK0
            rw [kn] at HN1
            clear kn
            go_enter Tryd.func50, Tryd.ntmps50
            go_wp2_with (first | (go_at_call 56; refine (HN1.out _).mono ?_; rintro e w' ⟨rfl, rfl⟩))
            go_ret
            exact ⟨by rw [HK.out]; rfl, HBE.out⟩
    · cases n0 : (n == 0)
      · rw [kn, n0] at HK0
        have HK := Lib.hid HK0
        clear HK0
        rw [kn] at HN1
        clear kn
        go_enter Tryd.func50, Tryd.ntmps50
        go_wp2_with (first | (go_at_call 56; refine (HN1.out _).mono ?_; rintro e w' ⟨rfl, rfl⟩))
        go_ret
        exact ⟨by rw [HK.out]; rfl, HBE.out⟩
      · cases s0 : (s.toList == [])
        · rw [kn, n0, s0] at HK0
          have HK := Lib.hid HK0
          clear HK0
          rw [kn] at HN1
          clear kn
          go_enter Tryd.func50, Tryd.ntmps50
          go_wp2_with (first | (go_at_call 56; refine (HN1.out _).mono ?_; rintro e w' ⟨rfl, rfl⟩))
          go_ret
          exact ⟨by rw [HK.out]; rfl, HBE.out⟩
        · rw [kn, n0, s0] at HK0
          have HK := Lib.hid HK0
          clear HK0
          rw [kn] at HN1
          clear kn
          go_enter Tryd.func50, Tryd.ntmps50
          go_wp2_with (first | (go_at_call 56; refine (HN1.out _).mono ?_; rintro e w' ⟨rfl, rfl⟩))
          go_ret
          exact ⟨by rw [HK.out]; rfl, HBE.out⟩
end Go.Proofs.YtocodcceimeiiaaDoor

/- The program's contracts of layer 12: Compare, Same. -/





namespace Go.Proofs.YtocodcceimeiiaaDoor

open Go.RowKit

set_option maxHeartbeats 1000000 in
set_option maxRecDepth 100000 in
theorem kcmp_own (a b : CV) (w : World) : Calls Tryd.prog 51 #[cv a, cv b] w fun e w' => e = .returned (.int .i64 (kcmp a b)) ∧ Below w.heap.size w w' := by
  obtain ⟨an, ai, as_⟩ := a
  obtain ⟨bn, bi, bs⟩ := b
  have hA : Row ((w.alloc (.cells #[.bool an, .int .i64 ai, .string as_] 32)).alloc (.cells #[.bool bn, .int .i64 bi, .string bs] 32)) w.heap.size 32 [.bool an, .int .i64 ai, .string as_] := (show Row (w.alloc _) _ _ _ from heap_alloc_new w _).alloc _
  have hB : Row ((w.alloc (.cells #[.bool an, .int .i64 ai, .string as_] 32)).alloc (.cells #[.bool bn, .int .i64 bi, .string bs] 32)) (w.heap.size + 1) 32 [.bool bn, .int .i64 bi, .string bs] := by
    have h := heap_alloc_new (w.alloc (.cells #[.bool an, .int .i64 ai, .string as_] 32)) (.cells #[.bool bn, .int .i64 bi, .string bs] 32)
    rw [show (w.alloc (.cells #[.bool an, .int .i64 ai, .string as_] 32)).heap.size = w.heap.size + 1 by simp] at h
    exact h
  have hb : Below w.heap.size w ((w.alloc (.cells #[.bool an, .int .i64 ai, .string as_] 32)).alloc (.cells #[.bool bn, .int .i64 bi, .string bs] 32)) := ((Below.refl _ _).alloc (Nat.le_refl _) _).alloc (by simp) _
  have HBE := Lib.hid hb
  have a0 := hA.cell 0
  have a1 := hA.cell 1
  have a2 := hA.cell 2
  have b0 := hB.cell 0
  have b1 := hB.cell 1
  have b2 := hB.cell 2
  clear hA hB hb
  unfold cv
  cases h0 : (!an == bn)
  · obtain rfl : an = bn := by cases an <;> cases bn <;> simp_all
    by_cases h1 : ai = bi
    · subst h1
      have HC := Lib.hid (fun W => lcompareI_any ai ai W)
      rw [show Lib.compareInt ai ai = 0 by unfold Lib.compareInt; simp] at HC
      obtain ⟨t, ht⟩ : ∃ t, t = Lib.compareBytes as_.data.toList bs.data.toList := ⟨_, rfl⟩
      have HS := Lib.hid (fun W => lcompareS_any as_ bs W)
      rw [← ht] at HS
      have hk : kcmp ⟨an, ai, as_⟩ ⟨an, ai, bs⟩ = t := by
        rw [ht, compareBytes_sless]
        by_cases h3 : as_ = bs
        · subst h3; rw [kcmp_self, if_pos rfl]
        · rw [kcmp_s (a := ⟨an, ai, as_⟩) (b := ⟨an, ai, bs⟩) rfl rfl h3, if_neg h3]
      have HK := Lib.hid hk
      clear hk ht
      go_enter Tryd.func51, Tryd.ntmps51
      go_wp2_with (go_at_call 58; refine (HC.out _).mono ?_)
      rintro e w' ⟨rfl, rfl⟩
      go_wp2_with (go_at_call 59; refine (HS.out _).mono ?_)
      rintro e w' ⟨rfl, rfl⟩
      go_wp2
      go_ret
      exact ⟨by rw [HK.out]; rfl, HBE.out⟩
    · obtain ⟨t, ht, hk, htn⟩ : ∃ t, Lib.compareInt ai bi = t ∧ kcmp ⟨an, ai, as_⟩ ⟨an, bi, bs⟩ = t ∧ (t = -1 ∨ t = 1) := by
        rw [kcmp_n (a := ⟨an, ai, as_⟩) (b := ⟨an, bi, bs⟩) rfl h1]
        unfold Lib.compareInt
        by_cases h2 : ai < bi
        · exact ⟨-1, if_pos h2, if_pos h2, .inl rfl⟩
        · exact ⟨1, by rw [if_neg h2, if_pos (by omega)], if_neg h2, .inr rfl⟩
      have HC := Lib.hid (fun W => lcompareI_any ai bi W)
      rw [ht] at HC
      have HK := Lib.hid hk
      clear ht hk h1
      rcases htn with rfl | rfl
      all_goals
        go_enter Tryd.func51, Tryd.ntmps51
        go_wp2_with (go_at_call 58; refine (HC.out _).mono ?_)
        rintro e w' ⟨rfl, rfl⟩
        go_wp2
        go_ret
        exact ⟨by rw [HK.out]; rfl, HBE.out⟩
  · cases an
    · cases bn
      · simp at h0
      · have HK := Lib.hid (kcmp_of false true ai bi as_ bs)
        rw [h0] at HK
        clear h0
        go_enter Tryd.func51, Tryd.ntmps51
        go_wp2
        go_ret
        exact ⟨by rw [HK.out]; rfl, HBE.out⟩
    · cases bn
      · have HK := Lib.hid (kcmp_of true false ai bi as_ bs)
        rw [h0] at HK
        clear h0
        go_enter Tryd.func51, Tryd.ntmps51
        go_wp2
        go_ret
        exact ⟨by rw [HK.out]; rfl, HBE.out⟩
      · simp at h0
end Go.Proofs.YtocodcceimeiiaaDoor

/- Slices of values of several cells each, and what fields hold, that come in. Over any program. -/









namespace Go.Proofs.YtocodcceimeiiaaDoor

open Go.RowKit Go.ChangeShapes Go.WideShapes Go.Deep

end Go.Proofs.YtocodcceimeiiaaDoor

/- Values that are nothing (layer 13), as plain mathematics. -/





namespace Go.Proofs.YtocodcceimeiiaaDoor

end Go.Proofs.YtocodcceimeiiaaDoor

/- Contracts of layer 13's reference: Split, Join; and of layer 12's SameRow. -/









namespace Go.Proofs.YtocodcceimeiiaaDoor

open Go.RowKit

/-- Values and an error. -/
def RetRE (w : World) (p : List CV × Int) (e : Ending) (w' : World) : Prop := ∃ v, e = .returned (.tuple #[v, .int .i64 p.2]) ∧ IsR kcells p.1 v w' ∧ Below w.heap.size w w'
theorem RetRE.nil {w w' : World} (n : Int) (hb : Below w.heap.size w w') : RetRE w ([], n) (.returned (.tuple #[.slice none 0 0, .int .i64 n])) w' := ⟨_, rfl, isR_nil _ _, hb⟩
end Go.Proofs.YtocodcceimeiiaaDoor

/- What is known of values (layer 17), as plain mathematics. -/





namespace Go.Proofs.YtocodcceimeiiaaDoor

/-- What is known of values. -/
structure GS where
  count : Int
  has : Bool
  min : CV
  max : CV
  sum : Int
  over : Bool
def gcells (s : GS) : List Value := [.int .i64 s.count, .bool s.has, .bool s.min.null, .int .i64 s.min.n, .string s.min.s, .bool s.max.null, .int .i64 s.max.n, .string s.max.s, .int .i64 s.sum, .bool s.over]
def gsv (s : GS) : Value := .agg (gcells s).toArray
def GS.inInt (s : GS) : Prop := -9223372036854775808 ≤ s.count ∧ s.count ≤ 9223372036854775807 ∧ s.min.inInt ∧ s.max.inInt ∧ -9223372036854775808 ≤ s.sum ∧ s.sum ≤ 9223372036854775807
/-- What May answers. -/
def gmayE (k : Int) (s : GS) : Bool :=
  if s.count < 0 ∨ 409600 < s.count ∨ kmay k s.min = false ∨ kmay k s.max = false ∨ s.min.null ≠ decide (s.count = 0) ∨ s.max.null ≠ decide (s.count = 0) ∨ kcmp s.max s.min < 0 then false
  else (s.sum == 0 || (!s.over && knumber k)) && (!s.over || knumber k)

end Go.Proofs.YtocodcceimeiiaaDoor

/- Contracts of layer 17's reference: Sum. -/







namespace Go.Proofs.YtocodcceimeiiaaDoor

open Go.RowKit

end Go.Proofs.YtocodcceimeiiaaDoor

/- Contracts of layer 17's reference: May. -/





namespace Go.Proofs.YtocodcceimeiiaaDoor

open Go.RowKit

theorem gmayE_no {k : Int} {s : GS} (h : s.count < 0 ∨ 409600 < s.count ∨ kmay k s.min = false ∨ kmay k s.max = false ∨ s.min.null ≠ decide (s.count = 0) ∨ s.max.null ≠ decide (s.count = 0) ∨ kcmp s.max s.min < 0) : gmayE k s = false := by unfold gmayE; rw [if_pos h]
theorem gmayE_in {k : Int} {s : GS} (h1 : ¬ s.count < 0) (h2 : ¬ 409600 < s.count) (h3 : kmay k s.min = true) (h4 : kmay k s.max = true) (h5 : s.min.null = decide (s.count = 0)) (h6 : s.max.null = decide (s.count = 0)) (h7 : ¬ kcmp s.max s.min < 0) :
    gmayE k s = ((s.sum == 0 || (!s.over && knumber k)) && (!s.over || knumber k)) := by
  unfold gmayE
  rw [if_neg]
  rintro (h | h | h | h | h | h | h)
  · exact h1 h
  · exact h2 h
  · rw [h3] at h; cases h
  · rw [h4] at h; cases h
  · exact h h5
  · exact h h6
  · exact h7 h
set_option maxHeartbeats 8000000 in
set_option maxRecDepth 100000 in
theorem rmay17_any (k : Int) (s : GS) (w : World) (hU : Tryd.U8 w) (hs1 : s.min.s.size ≤ maxLen) (hs2 : s.max.s.size ≤ maxLen) :
    Calls Tryd.prog 15 #[.int .i64 k, gsv s] w fun e w' => e = .returned (.bool (gmayE k s)) ∧ Below w.heap.size w w' := by
  obtain ⟨ct, hh, ⟨mb, mn, ms⟩, ⟨xb, xn, xs⟩, sm, ov⟩ := s
  dsimp only at hs1 hs2
  obtain ⟨S, hS⟩ : ∃ S : GS, S = ⟨ct, hh, ⟨mb, mn, ms⟩, ⟨xb, xn, xs⟩, sm, ov⟩ := ⟨_, rfl⟩
  rw [← hS]
  have hsv : gsv S = .agg #[.int .i64 ct, .bool hh, .bool mb, .int .i64 mn, .string ms, .bool xb, .int .i64 xn, .string xs, .int .i64 sm, .bool ov] := by rw [hS]; rfl
  rw [hsv]
  have HF := Lib.hid (show S.count = ct ∧ S.min = ⟨mb, mn, ms⟩ ∧ S.max = ⟨xb, xn, xs⟩ ∧ S.sum = sm ∧ S.over = ov by rw [hS]; exact ⟨rfl, rfl, rfl, rfl, rfl⟩)
  clear hsv hS
  obtain ⟨w0, hw0⟩ : ∃ w0, w0 = w.alloc (.cells #[.int .i64 ct, .bool hh, .bool mb, .int .i64 mn, .string ms, .bool xb, .int .i64 xn, .string xs, .int .i64 sm, .bool ov] 36) := ⟨_, rfl⟩
  have hr0 : Row w0 w.heap.size 36 [.int .i64 ct, .bool hh, .bool mb, .int .i64 mn, .string ms, .bool xb, .int .i64 xn, .string xs, .int .i64 sm, .bool ov] := by rw [hw0]; exact heap_alloc_new w _
  have hb0 : Below w.heap.size w w0 := by rw [hw0]; exact (Below.refl _ _).alloc (Nat.le_refl _) _
  have HR0 := Lib.hid hr0
  have HB0 := Lib.hid hb0
  have HU0 := Lib.hid (Utf8Tabs_below hU hb0)
  have HM1 := Lib.hid (fun (X : World) (h : Tryd.U8 X) => rmay12_any k ⟨mb, mn, ms⟩ X h hs1)
  have HM2 := Lib.hid (fun (X : World) (h : Tryd.U8 X) => rmay12_any k ⟨xb, xn, xs⟩ X h hs2)
  have HCM := Lib.hid (fun (X : World) => rcmp12_any ⟨xb, xn, xs⟩ ⟨mb, mn, ms⟩ X)
  have HNU := Lib.hid (fun (X : World) => rnumber12_any k X)
  obtain ⟨one, h1⟩ : ∃ b, b = kmay k ⟨mb, mn, ms⟩ := ⟨_, rfl⟩
  obtain ⟨two, h2⟩ : ∃ b, b = kmay k ⟨xb, xn, xs⟩ := ⟨_, rfl⟩
  obtain ⟨cmp, h3⟩ : ∃ b, b = kcmp ⟨xb, xn, xs⟩ ⟨mb, mn, ms⟩ := ⟨_, rfl⟩
  rw [← h1] at HM1
  rw [← h2] at HM2
  rw [← h3] at HCM
  have HNO := Lib.hid (show ct < 0 ∨ 409600 < ct ∨ one = false ∨ two = false ∨ mb ≠ decide (ct = 0) ∨ xb ≠ decide (ct = 0) ∨ cmp < 0 → gmayE k S = false from fun h => gmayE_no (by obtain ⟨e1, e2, e3, _, _⟩ := HF.out; rw [e1, e2, e3, ← h1, ← h2, ← h3]; exact h))
  have HIN := Lib.hid (show ¬ ct < 0 → ¬ 409600 < ct → one = true → two = true → mb = decide (ct = 0) → xb = decide (ct = 0) → ¬ cmp < 0 → gmayE k S = ((sm == 0 || (!ov && knumber k)) && (!ov || knumber k)) from fun g1 g2 g3 g4 g5 g6 g7 => by
    obtain ⟨e1, e2, e3, e4, e5⟩ := HF.out
    have h := gmayE_in (k := k) (s := S) (by rw [e1]; exact g1) (by rw [e1]; exact g2) (by rw [e2, ← h1]; exact g3) (by rw [e3, ← h2]; exact g4) (by rw [e2, e1]; exact g5) (by rw [e3, e1]; exact g6) (by rw [e2, e3, ← h3]; exact g7)
    rw [e4, e5] at h
    exact h)
  have hset := hw0.symm
  have a2 : w0.cell? ⟨w.heap.size, 2, none⟩ = some (.bool mb) := hr0.cell 2
  have a3 : w0.cell? ⟨w.heap.size, 3, none⟩ = some (.int .i64 mn) := hr0.cell 3
  have a4 : w0.cell? ⟨w.heap.size, 4, none⟩ = some (.string ms) := hr0.cell 4
  clear hw0 hr0 hb0 hU hs1 hs2 h1 h2 h3
  unfold cv at HM1 HM2 HCM
  go_enter Tryd.func15, Tryd.ntmps15
  go_wp2_with fail
  refine (HM1.out _ HU0.out).mono ?_
  rintro e w1 ⟨rfl, hb1⟩
  have HR1 := Lib.hid (HR0.out.below hb1 HR0.out.lt)
  have HU1 := Lib.hid (Utf8Tabs_below HU0.out hb1)
  have HB1 := Lib.hid (below_then HB0.out hb1)
  have b5 : w1.cell? ⟨w.heap.size, 5, none⟩ = some (.bool xb) := HR1.out.cell 5
  have b6 : w1.cell? ⟨w.heap.size, 6, none⟩ = some (.int .i64 xn) := HR1.out.cell 6
  have b7 : w1.cell? ⟨w.heap.size, 7, none⟩ = some (.string xs) := HR1.out.cell 7
  clear hb1 hset a2 a3 a4
  go_wp2_with fail
  refine (HM2.out _ HU1.out).mono ?_
  rintro e w2 ⟨rfl, hb2⟩
  have HR2 := Lib.hid (HR1.out.below hb2 HR1.out.lt)
  have HB2 := Lib.hid (below_then HB1.out hb2)
  have c0 : w2.cell? ⟨w.heap.size, 0, none⟩ = some (.int .i64 ct) := HR2.out.cell 0
  have c2 : w2.cell? ⟨w.heap.size, 2, none⟩ = some (.bool mb) := HR2.out.cell 2
  have c3 : w2.cell? ⟨w.heap.size, 3, none⟩ = some (.int .i64 mn) := HR2.out.cell 3
  have c4 : w2.cell? ⟨w.heap.size, 4, none⟩ = some (.string ms) := HR2.out.cell 4
  have c5 : w2.cell? ⟨w.heap.size, 5, none⟩ = some (.bool xb) := HR2.out.cell 5
  have c6 : w2.cell? ⟨w.heap.size, 6, none⟩ = some (.int .i64 xn) := HR2.out.cell 6
  have c7 : w2.cell? ⟨w.heap.size, 7, none⟩ = some (.string xs) := HR2.out.cell 7
  clear hb2 b5 b6 b7
  by_cases g1 : ct < 0
  case pos =>
    have d1 : decide (ct < 0) = true := decide_eq_true g1
    have HE := Lib.hid (HNO.out (.inl g1))
    go_wp2
    go_ret
    rw [HE.out]
    exact ⟨rfl, HB2.out⟩
  have d1 : decide (ct < 0) = false := decide_eq_false g1
  by_cases g2 : 409600 < ct
  case pos =>
    have d2 : decide (409600 < ct) = true := decide_eq_true g2
    have HE := Lib.hid (HNO.out (.inr (.inl g2)))
    go_wp2
    go_ret
    rw [HE.out]
    exact ⟨rfl, HB2.out⟩
  have d2 : decide (409600 < ct) = false := decide_eq_false g2
  cases one with
  | false =>
    have HE := Lib.hid (HNO.out (.inr (.inr (.inl rfl))))
    go_wp2
    go_ret
    rw [HE.out]
    exact ⟨rfl, HB2.out⟩
  | true =>
  cases two with
  | false =>
    have HE := Lib.hid (HNO.out (.inr (.inr (.inr (.inl rfl)))))
    go_wp2
    go_ret
    rw [HE.out]
    exact ⟨rfl, HB2.out⟩
  | true =>
  obtain ⟨z, hz⟩ : ∃ z, z = decide (ct = 0) := ⟨_, rfl⟩
  have d3 : (ct == 0) = z := by rw [hz]; rfl
  rw [← hz] at HNO HIN
  clear hz g1 g2
  by_cases g3 : mb = z
  case neg =>
    have d4 : (!mb == z) = true := by simpa using g3
    have HE := Lib.hid (HNO.out (.inr (.inr (.inr (.inr (.inl g3))))))
    clear g3
    go_wp2
    go_ret
    rw [HE.out]
    exact ⟨rfl, HB2.out⟩
  by_cases g4 : xb = z
  case neg =>
    have d4 : (!mb == z) = false := by simpa using g3
    have d5 : (!xb == z) = true := by simpa using g4
    have HE := Lib.hid (HNO.out (.inr (.inr (.inr (.inr (.inr (.inl g4)))))))
    clear g3 g4
    go_wp2
    go_ret
    rw [HE.out]
    exact ⟨rfl, HB2.out⟩
  have d4 : (!mb == z) = false := by simpa using g3
  have d5 : (!xb == z) = false := by simpa using g4
  have G3 := Lib.hid g3
  have G4 := Lib.hid g4
  clear g3 g4
  go_wp2_with fail
  refine (HCM.out _).mono ?_
  rintro e w3 ⟨rfl, hb3⟩
  have HR3 := Lib.hid (HR2.out.below hb3 HR2.out.lt)
  have HB3 := Lib.hid (below_then HB2.out hb3)
  have e8 : w3.cell? ⟨w.heap.size, 8, none⟩ = some (.int .i64 sm) := HR3.out.cell 8
  have e9 : w3.cell? ⟨w.heap.size, 9, none⟩ = some (.bool ov) := HR3.out.cell 9
  clear hb3 c0 c2 c3 c4 c5 c6 c7
  by_cases g5 : cmp < 0
  case pos =>
    have d6 : decide (cmp < 0) = true := decide_eq_true g5
    have HE := Lib.hid (HNO.out (.inr (.inr (.inr (.inr (.inr (.inr g5)))))))
    go_wp2
    go_ret
    rw [HE.out]
    exact ⟨rfl, HB3.out⟩
  have d6 : decide (cmp < 0) = false := decide_eq_false g5
  have HE := Lib.hid (HIN.out (by simpa using d1) (by simpa using d2) (by trivial) (by trivial) G3.out G4.out (by omega))
  clear g5
  go_wp2_with fail
  refine (HNU.out _).mono ?_
  rintro e w4 ⟨rfl, rfl⟩
  obtain ⟨kn, hkn⟩ : ∃ b, b = knumber k := ⟨_, rfl⟩
  rw [← hkn] at HE ⊢
  obtain ⟨q, hq⟩ : ∃ b, b = (sm == 0) := ⟨_, rfl⟩
  have d7 : (sm == 0) = q := hq.symm
  rw [d7] at HE
  clear hq hkn
  cases q <;> cases ov <;> cases kn
  all_goals
    go_wp2
    go_ret
    rw [HE.out]
    exact ⟨rfl, HB3.out⟩
end Go.Proofs.YtocodcceimeiiaaDoor

/- What is known of values: '==' of two that are the same, of two values; a struct stored into the midst of a block. -/









namespace Go.Proofs.YtocodcceimeiiaaDoor

open Go.RowKit

/-- '==' of two values. -/
def cvEq (a b : CV) : Bool := a.null == b.null && (a.n == b.n && a.s.toList == b.s.toList)
theorem bytes_inj {a b : ByteArray} : a.toList = b.toList ↔ a = b := by
  rw [ByteArray.toList_eq, ByteArray.toList_eq]
  constructor
  · intro h
    obtain ⟨a⟩ := a
    obtain ⟨b⟩ := b
    exact congrArg _ (Array.toList_inj.1 h)
  · intro h; rw [h]
theorem cvEq_iff {a b : CV} : cvEq a b = true ↔ a = b := by
  obtain ⟨an, ai, as_⟩ := a
  obtain ⟨bn, bi, bs⟩ := b
  unfold cvEq
  dsimp only
  simp only [Bool.and_eq_true, beq_iff_eq, CV.mk.injEq, bytes_inj]
theorem cvEq_self (a : CV) : cvEq a a = true := cvEq_iff.2 rfl
set_option maxRecDepth 100000 in
theorem eqV (d : Nat) (a b : CV) (w : World) : (Op.equalIn (d + 2) 32 (cv a) (cv b)).run Tryd.prog w = .ok (cvEq a b) w := by
  have hS : Tryd.prog.underlying 32 = some (.struct (Tryd.prog.fieldsOf 32)) := by kernel_rfl
  have hp : Tryd.prog.stoodInHeld 32 = false := by kernel_rfl
  obtain ⟨an, ai, as_⟩ := a
  obtain ⟨bn, bi, bs⟩ := b
  unfold cv cvEq
  dsimp only
  have u1 := Tryd.underlying4
  have u2 := Tryd.underlying3
  have u3 := Tryd.underlying9
  have s1 := Tryd.sizeOf4
  have s2 := Tryd.sizeOf3
  have s3 := Tryd.sizeOf9
  have g1 := Tryd.isAgg4
  have g2 := Tryd.isAgg3
  have g3 := Tryd.isAgg9
  rw [show d + 2 = (d + 1) + 1 from rfl, run_equalIn_agg w (d + 1) 32 _ _ hS hp]
  simp only [Program.fieldsOf, Tryd.underlying32]
  go_simp
  by_cases h1 : an = bn
  · subst h1
    by_cases h2 : ai = bi
    · subst h2
      by_cases h3 : as_.toList = bs.toList
      · simp [h3]
      · simp [h3]
    · simp [h2]
  · simp [h1]
end Go.Proofs.YtocodcceimeiiaaDoor

/- What is known of values (a struct of ten cells) that comes in. -/









namespace Go.Proofs.YtocodcceimeiiaaDoor

open Go.RowKit

theorem array10 {α : Type} {cs : Array α} (h : cs.size = 10) : ∃ c0 c1 c2 c3 c4 c5 c6 c7 c8 c9, cs = #[c0, c1, c2, c3, c4, c5, c6, c7, c8, c9] := by
  obtain ⟨l⟩ := cs
  match l, h with
  | [c0, c1, c2, c3, c4, c5, c6, c7, c8, c9], _ => exact ⟨c0, c1, c2, c3, c4, c5, c6, c7, c8, c9, rfl⟩
theorem list6 {α : Type} {xs : List α} (h : xs.length = 6) : ∃ y0 y1 y2 y3 y4 y5, xs = [y0, y1, y2, y3, y4, y5] := by
  match xs, h with
  | [y0, y1, y2, y3, y4, y5], _ => exact ⟨y0, y1, y2, y3, y4, y5, rfl⟩
theorem open_val0 {H : Type} {enc : TypeId × Value → H} {W : World} {a b c : Value} {y : DataW H × List MemPlace} {n : Nat} (h : DataW.trod enc Tryd.prog W 0 (fun _ => true) true n 32 [a, b, c] = some y) :
    ∃ v : CV, a = .bool v.null ∧ b = .int .i64 v.n ∧ c = .string v.s ∧ v.inInt ∧ v.s.size ≤ maxLen := by
  obtain ⟨y0, y1, y2, m, _, _, h0, h1, h2⟩ := Deep.trod_struct3 Tryd.underlying32 h
  have c0 : Tryd.prog.cellsOf 4 = 1 := by kernel_rfl
  have c1 : Tryd.prog.cellsOf 3 = 1 := by kernel_rfl
  have c2 : Tryd.prog.cellsOf 9 = 1 := by kernel_rfl
  simp only [c0, c1, c2, List.drop_zero, List.take_succ_cons, List.take_zero, List.drop_succ_cons] at h0 h1 h2
  obtain ⟨t, e0, _⟩ := DataW.trod_bool Tryd.underlying4 h0
  obtain ⟨i, e1, _, hw⟩ := DataW.trod_int Tryd.underlying3 h1
  obtain ⟨s, e2, _, hs⟩ := DataW.trod_string Tryd.underlying9 h2
  simp at e0 e1 e2
  subst e0 e1 e2
  exact ⟨⟨t, i, s⟩, rfl, rfl, rfl, wf_i64 hw, hs⟩
set_option maxRecDepth 100000 in
set_option maxHeartbeats 2000000 in
theorem open_stats {H : Type} {enc : TypeId × Value → H} {W : World} {v : Value} {d : DataW H} {ps : List MemPlace} {base : Nat}
    (hval : Value.okWide Tryd.prog W .any base 36 v) (hd : DataW.Trod enc Tryd.prog W 0 (fun _ => true) true 36 v d ps) :
    ∃ S : GS, v = gsv S ∧ S.inInt ∧ S.min.s.size ≤ maxLen ∧ S.max.s.size ≤ maxLen := by
  obtain ⟨cs, rfl, hsz⟩ := WideShapes.okWide_struct Tryd.underlying36 hval
  obtain ⟨c0, c1, c2, c3, c4, c5, c6, c7, c8, c9, rfl⟩ := array10 (hsz.trans (by kernel_rfl))
  obtain ⟨fuel, hf⟩ := hd
  obtain ⟨xs, n, _, _, _, hlen, hget⟩ := DataW.trod_struct Tryd.underlying36 hf
  obtain ⟨y0, y1, y2, y3, y4, y5, rfl⟩ := list6 hlen
  have k0 : Tryd.prog.cellsOf 4 = 1 := by kernel_rfl
  have k1 : Tryd.prog.cellsOf 3 = 1 := by kernel_rfl
  have k2 : Tryd.prog.cellsOf 32 = 3 := by kernel_rfl
  have h0 := hget 0 _ rfl
  have h1 := hget 1 _ rfl
  have h2 := hget 2 _ rfl
  have h3 := hget 3 _ rfl
  have h4 := hget 4 _ rfl
  have h5 := hget 5 _ rfl
  simp only [List.getElem_toArray, List.getElem_cons_zero, List.getElem_cons_succ, k0, k1, k2, Value.cells, List.drop_zero, List.take_succ_cons, List.take_zero, List.drop_succ_cons, List.getElem?_cons_zero, List.getElem?_cons_succ] at h0 h1 h2 h3 h4 h5
  obtain ⟨ct, e0, _, hw0⟩ := DataW.trod_int Tryd.underlying3 h0
  obtain ⟨hs, e1, _⟩ := DataW.trod_bool Tryd.underlying4 h1
  obtain ⟨mn, e2, e3, e4, hm, hms⟩ := open_val0 h2
  obtain ⟨mx, e5, e6, e7, hx, hxs⟩ := open_val0 h3
  obtain ⟨sm, e8, _, hw8⟩ := DataW.trod_int Tryd.underlying3 h4
  obtain ⟨ov, e9, _⟩ := DataW.trod_bool Tryd.underlying4 h5
  simp at e0 e1 e8 e9
  subst e0 e1 e2 e3 e4 e5 e6 e7 e8 e9
  have w0 := wf_i64 hw0
  have w8 := wf_i64 hw8
  exact ⟨⟨ct, hs, mn, mx, sm, ov⟩, rfl, ⟨w0.1, w0.2, hm, hx, w8.1, w8.2⟩, hms, hxs⟩
end Go.Proofs.YtocodcceimeiiaaDoor

/- What is known of the first values (layer 17): Of, step by step. -/



namespace Go.Proofs.YtocodcceimeiiaaDoor

end Go.Proofs.YtocodcceimeiiaaDoor

/- The program's Of and Merge of layer 17 as plain mathematics: what is known is laid together part by part; a sum in two words. -/



namespace Go.Proofs.YtocodcceimeiiaaDoor

def gLow (t : Int) : Int := t % 18446744073709551616
def gHigh (t : Int) : Int := t / 18446744073709551616 % 18446744073709551616
end Go.Proofs.YtocodcceimeiiaaDoor

/- The program's contracts of layer 17: a sum in two words (adder and its closures). -/







namespace Go.Proofs.YtocodcceimeiiaaDoor

open Go.RowKit

/-- The words of a sum. -/
structure Summed (w : World) (lb hb : Nat) (t : Int) : Prop where
  low : Row w lb 47 [.int .u64 (gLow t)]
  high : Row w hb 47 [.int .u64 (gHigh t)]
  ne : lb ≠ hb
end Go.Proofs.YtocodcceimeiiaaDoor

/- The reference's Of of layer 17. Written by gen_gof.py. -/









namespace Go.Proofs.YtocodcceimeiiaaDoor

open Go.RowKit

end Go.Proofs.YtocodcceimeiiaaDoor

/- The reference's Merge of layer 17. Written by gen_gmerge.py. -/





namespace Go.Proofs.YtocodcceimeiiaaDoor

open Go.RowKit

end Go.Proofs.YtocodcceimeiiaaDoor

/- The head's 'few' of layer 17: at most 300 values that may be; '==' of what is known of values, with itself. -/







namespace Go.Proofs.YtocodcceimeiiaaDoor

open Go.RowKit

set_option maxRecDepth 100000 in
set_option maxHeartbeats 2000000 in
theorem eqS_self (a : GS) (w : World) : (Op.equalIn 10000 36 (gsv a) (gsv a)).run Tryd.prog w = .ok true w := by
  have hS : Tryd.prog.underlying 36 = some (.struct (Tryd.prog.fieldsOf 36)) := by kernel_rfl
  have hp : Tryd.prog.stoodInHeld 36 = false := by kernel_rfl
  obtain ⟨ct, hh, ⟨mb, mn, ms⟩, ⟨xb, xn, xs⟩, sm, ov⟩ := a
  unfold gsv gcells
  dsimp only
  have u1 := Tryd.underlying4
  have u2 := Tryd.underlying3
  have u3 := Tryd.underlying32
  have s1 := Tryd.sizeOf4
  have s2 := Tryd.sizeOf3
  have s3 := Tryd.sizeOf32
  have g1 := Tryd.isAgg4
  have g2 := Tryd.isAgg3
  have g3 := Tryd.isAgg32
  have hV : ∀ (b : Bool) (n : Int) (s : ByteArray) (w : World), (Op.equalIn 9999 32 (.agg #[.bool b, .int .i64 n, .string s]) (.agg #[.bool b, .int .i64 n, .string s])).run Tryd.prog w = .ok true w := fun b n s w => by
    have h := eqV 9997 ⟨b, n, s⟩ ⟨b, n, s⟩ w
    rw [cvEq_self] at h
    exact h
  rw [show (10000 : Nat) = 9999 + 1 from rfl, run_equalIn_agg w 9999 36 _ _ hS hp]
  simp only [Program.fieldsOf, Tryd.underlying36]
  go_simp
theorem eqS_guard (a b : GS) (x y : Operand) (W : World) : (eqGuard .eql 36 x y (gsv a) (gsv b)).run Tryd.prog W = .ok () W := run_eqGuard_agg (P := Tryd.prog) W .eql 36 x y (gcells a).toArray (gcells b).toArray (by kernel_rfl)
theorem eqS_run (a : GS) (W : World) : (binOp .eql 36 (gsv a) (gsv a)).run Tryd.prog W = .ok (.bool true) W := by
  have h := eqS_self a W
  unfold gsv at h ⊢
  rw [run_eql_struct, h]
  rfl
end Go.Proofs.YtocodcceimeiiaaDoor

/- The program's contracts of layer 17: farther, one, tally and its closures. -/









namespace Go.Proofs.YtocodcceimeiiaaDoor

open Go.RowKit

end Go.Proofs.YtocodcceimeiiaaDoor

/- The program's contracts of layer 17: tally and its closures. -/



namespace Go.Proofs.YtocodcceimeiiaaDoor

open Go.RowKit

end Go.Proofs.YtocodcceimeiiaaDoor

/- The program's contracts of layer 17: what a tally adds. Written by gen_gaddc.py. -/





namespace Go.Proofs.YtocodcceimeiiaaDoor

open Go.RowKit

end Go.Proofs.YtocodcceimeiiaaDoor

/- The program's contracts of layer 17: what a tally tells. Written by gen_gtold.py. -/



namespace Go.Proofs.YtocodcceimeiiaaDoor

open Go.RowKit

end Go.Proofs.YtocodcceimeiiaaDoor

/- The program's contracts of layer 17: Of, Merge. -/







namespace Go.Proofs.YtocodcceimeiiaaDoor

open Go.RowKit

end Go.Proofs.YtocodcceimeiiaaDoor

/- The program's contracts of layer 17: May. Written by gen_gmayo.py. -/



namespace Go.Proofs.YtocodcceimeiiaaDoor

open Go.RowKit

def gmayT (k : Int) (s : GS) : Bool := if knumber k = true then ((s.sum == 0) || !s.over) else ((s.sum == 0) && !s.over)
def gmayR (k : Int) (s : GS) : Bool := kmay k s.min && (kmay k s.max && ((s.min.null == (s.count == 0)) && ((s.max.null == (s.count == 0)) && decide (kcmp s.min s.max ≤ 0))))
theorem gmayP_eq (k : Int) (s : GS) : (decide (0 ≤ s.count) && (decide (s.count ≤ 409600) && (gmayR k s && gmayT k s))) = gmayE k s := by
  unfold gmayE
  by_cases h : s.count < 0 ∨ 409600 < s.count ∨ kmay k s.min = false ∨ kmay k s.max = false ∨ s.min.null ≠ decide (s.count = 0) ∨ s.max.null ≠ decide (s.count = 0) ∨ kcmp s.max s.min < 0
  · rw [if_pos h]
    unfold gmayR
    rcases h with h | h | h | h | h | h | h
    · rw [decide_eq_false (show ¬ 0 ≤ s.count by omega)]; rfl
    · rw [decide_eq_false (show ¬ s.count ≤ 409600 by omega)]; simp
    · rw [h]; simp
    · rw [h]; simp
    · rw [show (s.min.null == (s.count == 0)) = false by rw [show (s.count == 0) = decide (s.count = 0) from rfl]; simpa using h]; simp
    · rw [show (s.max.null == (s.count == 0)) = false by rw [show (s.count == 0) = decide (s.count = 0) from rfl]; simpa using h]; simp
    · rw [decide_eq_false (show ¬ kcmp s.min s.max ≤ 0 by have := kcmp_neg s.max s.min; omega)]; simp
  · rw [if_neg h]
    simp only [not_or] at h
    obtain ⟨h1, h2, h3, h4, h5, h6, h7⟩ := h
    unfold gmayR gmayT
    rw [decide_eq_true (show 0 ≤ s.count by omega), decide_eq_true (show s.count ≤ 409600 by omega), show kmay k s.min = true by simpa using h3, show kmay k s.max = true by simpa using h4, show (s.min.null == (s.count == 0)) = true by rw [show (s.count == 0) = decide (s.count = 0) from rfl]; simpa using h5, show (s.max.null == (s.count == 0)) = true by rw [show (s.count == 0) = decide (s.count = 0) from rfl]; simpa using h6, decide_eq_true (show kcmp s.min s.max ≤ 0 by have := kcmp_neg s.max s.min; omega)]
    cases knumber k <;> cases (s.sum == 0) <;> cases s.over <;> rfl
set_option maxHeartbeats 2000000 in
set_option maxRecDepth 100000 in
theorem gmayT_any (k : Int) (s : GS) (w : World) : Calls Tryd.prog 46 #[.int .i64 k, gsv s] w fun e w' => e = .returned (.bool (gmayT k s)) ∧ Below w.heap.size w w' := by
  obtain ⟨ct, hh, ⟨mb, mn, ms⟩, ⟨xb, xn, xs⟩, sm, ov⟩ := s
  obtain ⟨r, hr⟩ : ∃ r, r = gmayT k ⟨ct, hh, ⟨mb, mn, ms⟩, ⟨xb, xn, xs⟩, sm, ov⟩ := ⟨_, rfl⟩
  rw [← hr]
  have HN := Lib.hid (fun W => knumber_own k W)
  obtain ⟨w0, hw0⟩ : ∃ w0, w0 = w.alloc (.cells #[.int .i64 ct, .bool hh, .bool mb, .int .i64 mn, .string ms, .bool xb, .int .i64 xn, .string xs, .int .i64 sm, .bool ov] 36) := ⟨_, rfl⟩
  have hr0 : Row w0 w.heap.size 36 [.int .i64 ct, .bool hh, .bool mb, .int .i64 mn, .string ms, .bool xb, .int .i64 xn, .string xs, .int .i64 sm, .bool ov] := by rw [hw0]; exact heap_alloc_new w _
  have hb0 : Below w.heap.size w w0 := by rw [hw0]; exact (Below.refl _ _).alloc (Nat.le_refl _) _
  have HR0 := Lib.hid hr0
  have HB0 := Lib.hid hb0
  have hset := hw0.symm
  have w0c8 : w0.cell? ⟨w.heap.size, 8, none⟩ = some (.int .i64 sm) := HR0.out.cell 8
  have w0c9 : w0.cell? ⟨w.heap.size, 9, none⟩ = some (.bool ov) := HR0.out.cell 9
  have HE := Lib.hid (show r = if knumber k = true then ((sm == 0) || !ov) else ((sm == 0) && !ov) by rw [hr]; rfl)
  unfold gsv gcells
  dsimp only
  clear hw0 hr0 hb0 hr
  cases hk : knumber k <;> cases hz : (sm == 0) <;> cases ov
  all_goals
    rw [hk] at HN HE
    rw [hz] at HE
    clear hk
    go_enter Tryd.func46, Tryd.ntmps46
    go_wp2_with (go_at_call 52; refine (HN.out _).mono ?_; rintro e w' ⟨rfl, rfl⟩)
    go_ret
    exact ⟨by rw [HE.out]; rfl, HB0.out⟩
set_option maxHeartbeats 4000000 in
set_option maxRecDepth 100000 in
theorem gmayR_any (k : Int) (s : GS) (w : World) (hs1 : s.min.s.size ≤ maxLen) (hs2 : s.max.s.size ≤ maxLen) : Calls Tryd.prog 45 #[.int .i64 k, gsv s] w fun e w' => e = .returned (.bool (gmayR k s)) ∧ Below w.heap.size w w' := by
  obtain ⟨ct, hh, ⟨mb, mn, ms⟩, ⟨xb, xn, xs⟩, sm, ov⟩ := s
  dsimp only at hs1 hs2
  obtain ⟨r, hr⟩ : ∃ r, r = gmayR k ⟨ct, hh, ⟨mb, mn, ms⟩, ⟨xb, xn, xs⟩, sm, ov⟩ := ⟨_, rfl⟩
  rw [← hr]
  have HM1 := Lib.hid (fun W => kmay_free k ⟨mb, mn, ms⟩ W hs1)
  have HM2 := Lib.hid (fun W => kmay_free k ⟨xb, xn, xs⟩ W hs2)
  have HC := Lib.hid (fun W => kcmp_own ⟨mb, mn, ms⟩ ⟨xb, xn, xs⟩ W)
  obtain ⟨m1, h1⟩ : ∃ b, b = kmay k ⟨mb, mn, ms⟩ := ⟨_, rfl⟩
  obtain ⟨m2, h2⟩ : ∃ b, b = kmay k ⟨xb, xn, xs⟩ := ⟨_, rfl⟩
  obtain ⟨c, h3⟩ : ∃ c, c = kcmp ⟨mb, mn, ms⟩ ⟨xb, xn, xs⟩ := ⟨_, rfl⟩
  have HE := Lib.hid (show r = (m1 && (m2 && ((mb == (ct == 0)) && ((xb == (ct == 0)) && decide (c ≤ 0))))) by rw [hr, h1, h2, h3]; rfl)
  rw [← h1] at HM1
  rw [← h2] at HM2
  rw [← h3] at HC
  obtain ⟨w0, hw0⟩ : ∃ w0, w0 = w.alloc (.cells #[.int .i64 ct, .bool hh, .bool mb, .int .i64 mn, .string ms, .bool xb, .int .i64 xn, .string xs, .int .i64 sm, .bool ov] 36) := ⟨_, rfl⟩
  have hr0 : Row w0 w.heap.size 36 [.int .i64 ct, .bool hh, .bool mb, .int .i64 mn, .string ms, .bool xb, .int .i64 xn, .string xs, .int .i64 sm, .bool ov] := by rw [hw0]; exact heap_alloc_new w _
  have hb0 : Below w.heap.size w w0 := by rw [hw0]; exact (Below.refl _ _).alloc (Nat.le_refl _) _
  have HR0 := Lib.hid hr0
  have HB0 := Lib.hid hb0
  have hset := hw0.symm
  have w0c0 : w0.cell? ⟨w.heap.size, 0, none⟩ = some (.int .i64 ct) := HR0.out.cell 0
  have w0c2 : w0.cell? ⟨w.heap.size, 2, none⟩ = some (.bool mb) := HR0.out.cell 2
  have w0c3 : w0.cell? ⟨w.heap.size, 3, none⟩ = some (.int .i64 mn) := HR0.out.cell 3
  have w0c4 : w0.cell? ⟨w.heap.size, 4, none⟩ = some (.string ms) := HR0.out.cell 4
  unfold cv at HM1 HM2 HC
  unfold gsv gcells
  dsimp only
  clear hw0 hr0 hb0 hr h1 h2 h3 hs1 hs2
  obtain ⟨z, hz⟩ : ∃ z, z = (ct == 0) := ⟨_, rfl⟩
  rw [← hz] at HE
  have hz2 := hz.symm
  clear hz
  go_enter Tryd.func45, Tryd.ntmps45
  go_wp2_with fail
  refine (HM1.out _).mono ?_
  rintro e w1 ⟨rfl, hb1⟩
  have HR1 := Lib.hid (HR0.out.below hb1 HR0.out.lt)
  have HB1 := Lib.hid (below_then HB0.out hb1)
  clear hb1 hset w0c0 w0c2 w0c3 w0c4
  cases m1 with
  | false =>
    go_wp2
    go_ret
    exact ⟨by rw [HE.out]; rfl, HB1.out⟩
  | true =>
  have w1c5 : w1.cell? ⟨w.heap.size, 5, none⟩ = some (.bool xb) := HR1.out.cell 5
  have w1c6 : w1.cell? ⟨w.heap.size, 6, none⟩ = some (.int .i64 xn) := HR1.out.cell 6
  have w1c7 : w1.cell? ⟨w.heap.size, 7, none⟩ = some (.string xs) := HR1.out.cell 7
  go_wp2_with fail
  refine (HM2.out _).mono ?_
  rintro e w2 ⟨rfl, hb2⟩
  have HR2 := Lib.hid (HR1.out.below hb2 HR1.out.lt)
  have HB2 := Lib.hid (below_then HB1.out hb2)
  clear hb2 w1c5 w1c6 w1c7
  have w2c2 : w2.cell? ⟨w.heap.size, 2, none⟩ = some (.bool mb) := HR2.out.cell 2
  have w2c3 : w2.cell? ⟨w.heap.size, 3, none⟩ = some (.int .i64 mn) := HR2.out.cell 3
  have w2c4 : w2.cell? ⟨w.heap.size, 4, none⟩ = some (.string ms) := HR2.out.cell 4
  have w2c5 : w2.cell? ⟨w.heap.size, 5, none⟩ = some (.bool xb) := HR2.out.cell 5
  have w2c6 : w2.cell? ⟨w.heap.size, 6, none⟩ = some (.int .i64 xn) := HR2.out.cell 6
  have w2c7 : w2.cell? ⟨w.heap.size, 7, none⟩ = some (.string xs) := HR2.out.cell 7
  cases m2 with
  | false =>
    go_wp2
    go_ret
    exact ⟨by rw [HE.out]; rfl, HB2.out⟩
  | true =>
  cases g1 : (mb == z) with
  | false =>
    rw [g1] at HE
    go_wp2
    go_ret
    exact ⟨by rw [HE.out]; rfl, HB2.out⟩
  | true =>
  cases g2 : (xb == z) with
  | false =>
    rw [g1, g2] at HE
    go_wp2
    go_ret
    exact ⟨by rw [HE.out]; rfl, HB2.out⟩
  | true =>
  rw [g1, g2] at HE
  go_wp2_with fail
  refine (HC.out _).mono ?_
  rintro e w3 ⟨rfl, hb3⟩
  have HB3 := Lib.hid (below_then HB2.out hb3)
  clear hb3
  go_wp2
  go_ret
  exact ⟨by rw [HE.out]; rfl, HB3.out⟩
set_option maxHeartbeats 4000000 in
set_option maxRecDepth 100000 in
theorem gmay_own (k : Int) (s : GS) (w : World) (hs1 : s.min.s.size ≤ maxLen) (hs2 : s.max.s.size ≤ maxLen) :
    Calls Tryd.prog 28 #[.int .i64 k, gsv s] w fun e w' => e = .returned (.bool (gmayE k s)) ∧ Below w.heap.size w w' := by
  obtain ⟨ct, hh, ⟨mb, mn, ms⟩, ⟨xb, xn, xs⟩, sm, ov⟩ := s
  obtain ⟨r, hr⟩ : ∃ r, r = gmayE k ⟨ct, hh, ⟨mb, mn, ms⟩, ⟨xb, xn, xs⟩, sm, ov⟩ := ⟨_, rfl⟩
  rw [← hr]
  have HM1 := Lib.hid (fun W => gmayR_any k ⟨ct, hh, ⟨mb, mn, ms⟩, ⟨xb, xn, xs⟩, sm, ov⟩ W hs1 hs2)
  have HM2 := Lib.hid (fun W => gmayT_any k ⟨ct, hh, ⟨mb, mn, ms⟩, ⟨xb, xn, xs⟩, sm, ov⟩ W)
  obtain ⟨m1, h1⟩ : ∃ b, b = gmayR k ⟨ct, hh, ⟨mb, mn, ms⟩, ⟨xb, xn, xs⟩, sm, ov⟩ := ⟨_, rfl⟩
  obtain ⟨m2, h2⟩ : ∃ b, b = gmayT k ⟨ct, hh, ⟨mb, mn, ms⟩, ⟨xb, xn, xs⟩, sm, ov⟩ := ⟨_, rfl⟩
  have HE := Lib.hid (show r = (decide (0 ≤ ct) && (decide (ct ≤ 409600) && (m1 && m2))) by rw [hr, h1, h2]; exact (gmayP_eq k ⟨ct, hh, ⟨mb, mn, ms⟩, ⟨xb, xn, xs⟩, sm, ov⟩).symm)
  rw [← h1] at HM1
  rw [← h2] at HM2
  obtain ⟨w0, hw0⟩ : ∃ w0, w0 = w.alloc (.cells #[.int .i64 ct, .bool hh, .bool mb, .int .i64 mn, .string ms, .bool xb, .int .i64 xn, .string xs, .int .i64 sm, .bool ov] 36) := ⟨_, rfl⟩
  have hr0 : Row w0 w.heap.size 36 [.int .i64 ct, .bool hh, .bool mb, .int .i64 mn, .string ms, .bool xb, .int .i64 xn, .string xs, .int .i64 sm, .bool ov] := by rw [hw0]; exact heap_alloc_new w _
  have hb0 : Below w.heap.size w w0 := by rw [hw0]; exact (Below.refl _ _).alloc (Nat.le_refl _) _
  have HR0 := Lib.hid hr0
  have HB0 := Lib.hid hb0
  have hset := hw0.symm
  have w0c0 : w0.cell? ⟨w.heap.size, 0, none⟩ = some (.int .i64 ct) := HR0.out.cell 0
  have w0c1 : w0.cell? ⟨w.heap.size, 1, none⟩ = some (.bool hh) := HR0.out.cell 1
  have w0c2 : w0.cell? ⟨w.heap.size, 2, none⟩ = some (.bool mb) := HR0.out.cell 2
  have w0c3 : w0.cell? ⟨w.heap.size, 3, none⟩ = some (.int .i64 mn) := HR0.out.cell 3
  have w0c4 : w0.cell? ⟨w.heap.size, 4, none⟩ = some (.string ms) := HR0.out.cell 4
  have w0c5 : w0.cell? ⟨w.heap.size, 5, none⟩ = some (.bool xb) := HR0.out.cell 5
  have w0c6 : w0.cell? ⟨w.heap.size, 6, none⟩ = some (.int .i64 xn) := HR0.out.cell 6
  have w0c7 : w0.cell? ⟨w.heap.size, 7, none⟩ = some (.string xs) := HR0.out.cell 7
  have w0c8 : w0.cell? ⟨w.heap.size, 8, none⟩ = some (.int .i64 sm) := HR0.out.cell 8
  have w0c9 : w0.cell? ⟨w.heap.size, 9, none⟩ = some (.bool ov) := HR0.out.cell 9
  unfold gsv gcells at HM1 HM2
  unfold gsv gcells
  dsimp only at HM1 HM2 ⊢
  clear hw0 hr0 hb0 hr h1 h2 hs1 hs2
  cases g1 : decide (0 ≤ ct) with
  | false =>
    rw [g1] at HE
    go_enter Tryd.func28, Tryd.ntmps28
    go_wp2
    go_ret
    exact ⟨by rw [HE.out]; rfl, HB0.out⟩
  | true =>
  cases g2 : decide (ct ≤ 409600) with
  | false =>
    rw [g1, g2] at HE
    go_enter Tryd.func28, Tryd.ntmps28
    go_wp2
    go_ret
    exact ⟨by rw [HE.out]; rfl, HB0.out⟩
  | true =>
  rw [g1, g2] at HE
  go_enter Tryd.func28, Tryd.ntmps28
  go_wp2_with fail
  refine (HM1.out _).mono ?_
  rintro e w1 ⟨rfl, hb1⟩
  have HR1 := Lib.hid (HR0.out.below hb1 HR0.out.lt)
  have HB1 := Lib.hid (below_then HB0.out hb1)
  clear hb1 hset w0c0 w0c1 w0c2 w0c3 w0c4 w0c5 w0c6 w0c7 w0c8 w0c9
  cases m1 with
  | false =>
    go_wp2
    go_ret
    exact ⟨by rw [HE.out]; rfl, HB1.out⟩
  | true =>
  have w1c0 : w1.cell? ⟨w.heap.size, 0, none⟩ = some (.int .i64 ct) := HR1.out.cell 0
  have w1c1 : w1.cell? ⟨w.heap.size, 1, none⟩ = some (.bool hh) := HR1.out.cell 1
  have w1c2 : w1.cell? ⟨w.heap.size, 2, none⟩ = some (.bool mb) := HR1.out.cell 2
  have w1c3 : w1.cell? ⟨w.heap.size, 3, none⟩ = some (.int .i64 mn) := HR1.out.cell 3
  have w1c4 : w1.cell? ⟨w.heap.size, 4, none⟩ = some (.string ms) := HR1.out.cell 4
  have w1c5 : w1.cell? ⟨w.heap.size, 5, none⟩ = some (.bool xb) := HR1.out.cell 5
  have w1c6 : w1.cell? ⟨w.heap.size, 6, none⟩ = some (.int .i64 xn) := HR1.out.cell 6
  have w1c7 : w1.cell? ⟨w.heap.size, 7, none⟩ = some (.string xs) := HR1.out.cell 7
  have w1c8 : w1.cell? ⟨w.heap.size, 8, none⟩ = some (.int .i64 sm) := HR1.out.cell 8
  have w1c9 : w1.cell? ⟨w.heap.size, 9, none⟩ = some (.bool ov) := HR1.out.cell 9
  go_wp2_with fail
  refine (HM2.out _).mono ?_
  rintro e w2 ⟨rfl, hb2⟩
  have HB2 := Lib.hid (below_then HB1.out hb2)
  clear hb2 w1c0 w1c1 w1c2 w1c3 w1c4 w1c5 w1c6 w1c7 w1c8 w1c9
  go_wp2
  go_ret
  exact ⟨by rw [HE.out]; rfl, HB2.out⟩
end Go.Proofs.YtocodcceimeiiaaDoor

/- The program's contracts of layer 17, as the laws ask them. -/





namespace Go.Proofs.YtocodcceimeiiaaDoor

open Go.RowKit
end Go.Proofs.YtocodcceimeiiaaDoor

/- Fields with tags (layer 19), as plain mathematics. -/



namespace Go.Proofs.YtocodcceimeiiaaDoor

/-- A field: a number, or bytes. -/
structure WF where
  tag : Int
  bytes : Bool
  n : Nat
  b : List UInt8
def fput1 (f : WF) : List UInt8 := if f.bytes = true then vput (8 * f.tag + 2).toNat ++ (vput f.b.length ++ f.b) else vput (8 * f.tag).toNat ++ vput f.n
def ftag (f : WF) : Prop := 1 ≤ f.tag ∧ f.tag ≤ 100
instance (f : WF) : Decidable (ftag f) := by unfold ftag; infer_instance
/-- What Put answers. -/
def fputE (l : List WF) : Option (List UInt8) := if ∀ f ∈ l, ftag f then some (l.flatMap fput1) else none
/-- The first field. -/
def ftake1 (b : List UInt8) : Option (WF × List UInt8) :=
  match vtake b with
  | none => none
  | some (k, more) => if k < 8 ∨ 802 < k ∨ (k % 8 ≠ 0 ∧ k % 8 ≠ 2) then none else
    match vtake more with
    | none => none
    | some (n, behind) => if k % 8 = 2 then (if behind.length < n then none else some (⟨(k / 8 : Nat), true, 0, behind.take n⟩, behind.drop n)) else some (⟨(k / 8 : Nat), false, n, []⟩, behind)
def ftakeF : Nat → List UInt8 → Option (List WF)
  | _, [] => some []
  | 0, _ :: _ => none
  | f + 1, c :: b => match ftake1 (c :: b) with
    | none => none
    | some (x, r) => (ftakeF f r).map (x :: ·)
/-- What Take answers. -/
def ftakeE (b : List UInt8) : Option (List WF) := ftakeF b.length b
/-- A field that may be: a number has no bytes, bytes have no number. -/
structure FOk (f : WF) : Prop where
  tag : ftag f
  n : f.n < 18446744073709551616
  len : f.b.length < 18446744073709551616
  num : f.bytes = false → f.b = []
  byt : f.bytes = true → f.n = 0
theorem vtake_len {l : List UInt8} {x : Nat} {r : List UInt8} (h : vtake l = some (x, r)) : r.length < l.length := by
  obtain ⟨e, _⟩ := vtake_some h
  rw [e, List.length_append]
  have := vput_len_pos x
  omega
theorem ftake1_len {b : List UInt8} {x : WF} {r : List UInt8} (h : ftake1 b = some (x, r)) : r.length < b.length := by
  unfold ftake1 at h
  split at h
  · cases h
  · rename_i k more h1
    have l1 := vtake_len h1
    split at h
    · cases h
    · split at h
      · cases h
      · rename_i n behind h2
        have l2 := vtake_len h2
        split at h
        · split at h
          · cases h
          · injection h with h
            injection h with _ h
            rw [← h, List.length_drop]
            omega
        · injection h with h
          injection h with _ h
          rw [← h]
          omega
theorem ftakeF_any : ∀ (f g : Nat) (b : List UInt8), b.length ≤ f → b.length ≤ g → ftakeF f b = ftakeF g b
  | _, _, [], _, _ => by unfold ftakeF; rfl
  | 0, _, _ :: _, h, _ => by simp at h
  | _ + 1, 0, _ :: _, _, h => by simp at h
  | f + 1, g + 1, c :: b, h1, h2 => by
    rw [ftakeF, ftakeF]
    cases h : ftake1 (c :: b) with
    | none => rfl
    | some p =>
      obtain ⟨x, r⟩ := p
      have := ftake1_len h
      rw [List.length_cons] at h1 h2 this
      dsimp only
      rw [ftakeF_any f g r (by omega) (by omega)]
theorem ftakeE_nil : ftakeE [] = some [] := rfl
theorem ftakeE_some {b : List UInt8} {x : WF} {r : List UInt8} (h : ftake1 b = some (x, r)) : ftakeE b = (ftakeE r).map (x :: ·) := by
  have hl := ftake1_len h
  cases b with
  | nil => simp at hl
  | cons c b =>
    unfold ftakeE
    rw [List.length_cons, ftakeF, h]
    dsimp only
    rw [List.length_cons] at hl
    rw [ftakeF_any b.length r.length r (by omega) (Nat.le_refl _)]
theorem ftakeE_none {b : List UInt8} (h : ftake1 b = none) (hb : b ≠ []) : ftakeE b = none := by
  cases b with
  | nil => exact absurd rfl hb
  | cons c b => unfold ftakeE; rw [List.length_cons, ftakeF, h]
theorem fput1_num {f : WF} (h : f.bytes = false) : fput1 f = vput (8 * f.tag).toNat ++ vput f.n := by unfold fput1; rw [h]; rfl
theorem fput1_byt {f : WF} (h : f.bytes = true) : fput1 f = vput (8 * f.tag + 2).toNat ++ (vput f.b.length ++ f.b) := by unfold fput1; rw [h]; rfl
/-- What was put is taken. -/
theorem ftake1_put {f : WF} (h : FOk f) (r : List UInt8) : ftake1 (fput1 f ++ r) = some (f, r) := by
  obtain ⟨tag, bytes, n, b⟩ := f
  obtain ⟨⟨t1, t2⟩, hn, hl, h1, h2⟩ := h
  dsimp only at t1 t2 hn hl h1 h2
  unfold ftake1
  cases bytes with
  | true =>
    obtain rfl := h2 rfl
    rw [fput1_byt rfl, List.append_assoc, List.append_assoc, vtake_put (by dsimp only; omega)]
    dsimp only
    rw [if_neg (by omega), vtake_put hl]
    dsimp only
    rw [if_pos (by omega), if_neg (by rw [List.length_append]; omega), List.take_left, List.drop_left]
    rw [show (((8 * tag + 2).toNat / 8 : Nat) : Int) = tag by omega]
  | false =>
    obtain rfl := h1 rfl
    rw [fput1_num rfl, List.append_assoc, vtake_put (by dsimp only; omega)]
    dsimp only
    rw [if_neg (by omega), vtake_put hn]
    dsimp only
    rw [if_neg (by omega)]
    rw [show (((8 * tag).toNat / 8 : Nat) : Int) = tag by omega]
theorem ftakeE_put : ∀ {l : List WF}, (∀ f ∈ l, FOk f) → ftakeE (l.flatMap fput1) = some l
  | [], _ => rfl
  | f :: l, h => by
    rw [List.flatMap_cons, ftakeE_some (ftake1_put (h f List.mem_cons_self) _), ftakeE_put fun g hg => h g (List.mem_cons_of_mem _ hg)]
    rfl
/-- What is taken is as it was put, and may be. -/
theorem ftake1_back {b : List UInt8} {x : WF} {r : List UInt8} (h : ftake1 b = some (x, r)) : FOk x ∧ b = fput1 x ++ r := by
  unfold ftake1 at h
  split at h
  · cases h
  · rename_i k more h1
    have l1 := vtake_len h1
    obtain ⟨e1, b1⟩ := vtake_some h1
    split at h
    · cases h
    · rename_i hk
      split at h
      · cases h
      · rename_i n behind h2
        have l2 := vtake_len h2
        obtain ⟨e2, b2⟩ := vtake_some h2
        split at h
        · rename_i h8
          split at h
          · cases h
          · rename_i hn
            injection h with h
            injection h with hx hr
            subst hx hr
            have hbl : (behind.take n).length = n := by rw [List.length_take]; omega
            refine ⟨⟨⟨by dsimp only; omega, by dsimp only; omega⟩, by dsimp only; omega, by dsimp only; omega, fun h => by simp at h, fun _ => rfl⟩, ?_⟩
            rw [fput1_byt rfl, e1, e2]
            dsimp only
            rw [hbl, show (8 * ((k / 8 : Nat) : Int) + 2).toNat = k by omega, List.append_assoc, List.append_assoc, List.take_append_drop]
        · rename_i h8
          injection h with h
          injection h with hx hr
          subst hx hr
          refine ⟨⟨⟨by dsimp only; omega, by dsimp only; omega⟩, b2, by dsimp only; simp, fun _ => rfl, fun h => by simp at h⟩, ?_⟩
          rw [fput1_num rfl, e1, e2]
          dsimp only
          rw [show (8 * ((k / 8 : Nat) : Int)).toNat = k by omega, List.append_assoc]
theorem ftakeE_back : ∀ (n : Nat) {b : List UInt8} {l : List WF}, b.length ≤ n → ftakeE b = some l → (∀ f ∈ l, FOk f) ∧ b = l.flatMap fput1
  | n, [], l, _, h => by
    rw [ftakeE_nil] at h
    injection h with h
    subst h
    exact ⟨by simp, rfl⟩
  | 0, _ :: _, _, h, _ => by simp at h
  | n + 1, c :: b, l, hn, h => by
    cases h1 : ftake1 (c :: b) with
    | none => rw [ftakeE_none h1 (by simp)] at h; cases h
    | some p =>
      obtain ⟨x, r⟩ := p
      have hl := ftake1_len h1
      obtain ⟨h2, h3⟩ := ftake1_back h1
      rw [ftakeE_some h1] at h
      cases h4 : ftakeE r with
      | none => rw [h4] at h; cases h
      | some m =>
        rw [h4] at h
        injection h with h
        subst h
        obtain ⟨h5, h6⟩ := ftakeE_back n (by rw [List.length_cons] at hn hl; omega) h4
        refine ⟨fun f hf => ?_, ?_⟩
        · rcases List.mem_cons.1 hf with rfl | hf
          · exact h2
          · exact h5 f hf
        · rw [h3, h6, List.flatMap_cons]
end Go.Proofs.YtocodcceimeiiaaDoor

/- A value as fields with tags (layer 19: P19.2), as plain mathematics. -/







namespace Go.Proofs.YtocodcceimeiiaaDoor

def fnum (t : Int) (n : Nat) : WF := ⟨t, false, n, []⟩
def fbyt (t : Int) (b : List UInt8) : WF := ⟨t, true, 0, b⟩
def fbit (b : Bool) : Nat := if b then 1 else 0
/-- A value's fields. -/
def fvalue (v : CV) : List WF := [fnum 1 (fbit v.null), fnum 2 (vzig v.n).toNat, fbyt 3 v.s.toList]
def fputV (v : CV) : List UInt8 := (fvalue v).flatMap fput1
theorem fbit_one (b : Bool) : (fbit b == 1) = b := by cases b <;> rfl
theorem fbit_lt (b : Bool) : fbit b < 18446744073709551616 := by cases b <;> decide
theorem fnum_ok {t : Int} {n : Nat} (ht : 1 ≤ t ∧ t ≤ 100) (hn : n < 18446744073709551616) : FOk (fnum t n) := ⟨ht, hn, by simp [fnum], fun _ => rfl, fun h => by simp [fnum] at h⟩
theorem fbyt_ok {t : Int} {b : List UInt8} (ht : 1 ≤ t ∧ t ≤ 100) (hb : b.length < 18446744073709551616) : FOk (fbyt t b) := ⟨ht, by simp [fbyt], hb, fun h => by simp [fbyt] at h, fun _ => rfl⟩
theorem toList_lenF (s : ByteArray) : s.toList.length = s.size := by rw [ByteArray.toList_eq]; rfl
theorem ofList_backF (s : ByteArray) : (⟨s.toList.toArray⟩ : ByteArray) = s := by rw [ByteArray.toList_eq]
theorem fvalue_ok {v : CV} (hi : v.inInt) (hs : v.s.size < 18446744073709551616) : ∀ f ∈ fvalue v, FOk f := by
  have hz := vzig_bd hi.1 hi.2
  intro f hf
  simp only [fvalue, List.mem_cons, List.not_mem_nil, or_false] at hf
  rcases hf with rfl | rfl | rfl
  · exact fnum_ok (by omega) (fbit_lt _)
  · exact fnum_ok (by omega) (by omega)
  · exact fbyt_ok (by omega) (by rw [toList_lenF]; exact hs)
theorem fput1_len_num {t : Int} {n : Nat} (ht : 1 ≤ t ∧ t ≤ 100) (hn : n < 18446744073709551616) : (fput1 (fnum t n)).length ≤ 20 := by
  rw [fput1_num rfl, List.length_append]
  have h1 := vput_len_10 (x := (8 * t).toNat) (by omega)
  have h2 := vput_len_10 hn
  simp only [fnum] at h1 h2 ⊢
  omega
theorem fput1_len_byt {t : Int} {b : List UInt8} (ht : 1 ≤ t ∧ t ≤ 100) (hn : b.length < 18446744073709551616) : (fput1 (fbyt t b)).length ≤ 20 + b.length := by
  rw [fput1_byt rfl, List.length_append, List.length_append]
  have h1 := vput_len_10 (x := (8 * t + 2).toNat) (by omega)
  have h2 := vput_len_10 hn
  simp only [fbyt] at h1 h2 ⊢
  omega
theorem fputV_len {v : CV} (hi : v.inInt) (hs : v.s.size < 18446744073709551616) : (fputV v).length ≤ 60 + v.s.size := by
  have hz := vzig_bd hi.1 hi.2
  unfold fputV fvalue
  simp only [List.flatMap_cons, List.flatMap_nil, List.append_nil, List.length_append]
  have h1 := fput1_len_num (t := 1) (by omega) (fbit_lt v.null)
  have h2 := fput1_len_num (t := 2) (n := (vzig v.n).toNat) (by omega) (by omega)
  have h3 := fput1_len_byt (t := 3) (b := v.s.toList) (by omega) (by rw [toList_lenF]; exact hs)
  rw [toList_lenF] at h3
  omega
/-- A number stands in the first ten bytes, if anywhere. -/
theorem vtake_ten (l : List UInt8) : vtake l = (vtake (l.take 10)).map fun p => (p.1, p.2 ++ l.drop 10) := by
  cases h : vtake (l.take 10) with
  | some p =>
    obtain ⟨x, r⟩ := p
    obtain ⟨h1, h2⟩ := vtake_some h
    have h3 : l = vput x ++ (r ++ l.drop 10) := by rw [← List.append_assoc, ← h1, List.take_append_drop]
    rw [Option.map_some]
    conv => lhs; rw [h3]
    exact vtake_put h2 _
  | none =>
    cases h1 : vtake l with
    | none => rfl
    | some p =>
      obtain ⟨x, r⟩ := p
      obtain ⟨h2, h3⟩ := vtake_some h1
      have h4 := vput_len_10 h3
      have h5 : l.take 10 = vput x ++ r.take (10 - (vput x).length) := by rw [h2, List.take_append, List.take_of_length_le h4]
      rw [h5, vtake_put h3] at h
      cases h
end Go.Proofs.YtocodcceimeiiaaDoor

/- A value, and what is known of values, as fields with tags (layer 19: P19.2), as plain mathematics. -/





namespace Go.Proofs.YtocodcceimeiiaaDoor

def u64n (x : Int) : Nat := (x % 18446744073709551616).toNat
def i64n (n : Nat) : Int := if n < 9223372036854775808 then n else n - 18446744073709551616
def fshape (l : List WF) (bs : List Bool) : Bool := decide (l.map (·.tag) = (List.range bs.length).map fun i : Nat => (i : Int) + 1) && decide (l.map (·.bytes) = bs)
/-- The value that three fields tell. -/
def fvOf (l : List WF) : CV := ⟨(l.getD 0 (fnum 0 0)).n == 1, vzag (l.getD 1 (fnum 0 0)).n, ⟨(l.getD 2 (fnum 0 0)).b.toArray⟩⟩
/-- What TakeValue answers. -/
def ftakeV (b : List UInt8) : Option CV := match ftakeE b with
  | none => none
  | some l => if fshape l [false, false, true] = true ∧ fputV (fvOf l) = b then some (fvOf l) else none
/-- The fields of what is known. -/
def fstats (s : GS) : List WF := [fnum 1 (u64n s.count), fnum 2 (fbit s.has), fbyt 3 (fputV s.min), fbyt 4 (fputV s.max), fnum 5 (vzig s.sum).toNat, fnum 6 (fbit s.over)]
def fputG (s : GS) : List UInt8 := (fstats s).flatMap fput1
def fgOf (l : List WF) (a b : CV) : GS := ⟨i64n (l.getD 0 (fnum 0 0)).n, (l.getD 1 (fnum 0 0)).n == 1, a, b, vzag (l.getD 4 (fnum 0 0)).n, (l.getD 5 (fnum 0 0)).n == 1⟩
/-- What TakeStats answers. -/
def ftakeG (k : Int) (b : List UInt8) : Option GS := match ftakeE b with
  | none => none
  | some l => if fshape l [false, false, true, true, false, false] = true then
      match ftakeV (l.getD 2 (fnum 0 0)).b, ftakeV (l.getD 3 (fnum 0 0)).b with
      | some x, some y => if fputG (fgOf l x y) = b ∧ gmayE k (fgOf l x y) = true then some (fgOf l x y) else none
      | _, _ => none
    else none
theorem i64n_u64n {x : Int} (h0 : -9223372036854775808 ≤ x) (h1 : x ≤ 9223372036854775807) : i64n (u64n x) = x := by unfold i64n u64n; split <;> omega
theorem u64n_lt (x : Int) : u64n x < 18446744073709551616 := by unfold u64n; omega
theorem fvOf_value {v : CV} (hi : v.inInt) : fvOf (fvalue v) = v := by
  obtain ⟨b, n, s⟩ := v
  have hz := vzig_bd hi.1 hi.2
  show (⟨fbit b == 1, vzag ((vzig n).toNat : Int), ⟨s.toList.toArray⟩⟩ : CV) = _
  rw [fbit_one, ofList_backF]
  dsimp only at hz
  rw [show (((vzig n).toNat : Nat) : Int) = vzig n by omega, vzag_vzig]
/-- P19.3 of a value. -/
theorem ftakeV_put {v : CV} (hi : v.inInt) (hs : v.s.size < 18446744073709551616) : ftakeV (fputV v) = some v := by
  have h := ftakeE_put (fvalue_ok hi hs)
  unfold ftakeV
  rw [show ftakeE (fputV v) = some (fvalue v) from h]
  dsimp only
  rw [fvOf_value hi, if_pos ⟨rfl, rfl⟩]
theorem fstats_ok {s : GS} (hi : s.inInt) (h1 : s.min.s.size < 1000000000) (h2 : s.max.s.size < 1000000000) : ∀ f ∈ fstats s, FOk f := by
  obtain ⟨_, _, a1, a2, b1, b2⟩ := hi
  have hz := vzig_bd b1 b2
  have l1 := fputV_len a1 (by omega)
  have l2 := fputV_len a2 (by omega)
  intro f hf
  simp only [fstats, List.mem_cons, List.not_mem_nil, or_false] at hf
  rcases hf with rfl | rfl | rfl | rfl | rfl | rfl
  · exact fnum_ok (by omega) (u64n_lt _)
  · exact fnum_ok (by omega) (fbit_lt _)
  · exact fbyt_ok (by omega) (by omega)
  · exact fbyt_ok (by omega) (by omega)
  · exact fnum_ok (by omega) (by omega)
  · exact fnum_ok (by omega) (fbit_lt _)
theorem fgOf_stats {s : GS} (hi : s.inInt) : fgOf (fstats s) s.min s.max = s := by
  obtain ⟨c, h, a, b, m, o⟩ := s
  obtain ⟨c1, c2, _, _, b1, b2⟩ := hi
  have hz := vzig_bd b1 b2
  show (⟨i64n (u64n c), fbit h == 1, a, b, vzag ((vzig m).toNat : Int), fbit o == 1⟩ : GS) = _
  dsimp only at hz c1 c2
  rw [fbit_one, fbit_one, i64n_u64n c1 c2, show (((vzig m).toNat : Nat) : Int) = vzig m by omega, vzag_vzig]
/-- P19.3 of what is known. -/
theorem ftakeG_put {k : Int} {s : GS} (hi : s.inInt) (h1 : s.min.s.size < 1000000000) (h2 : s.max.s.size < 1000000000) : ftakeG k (fputG s) = if gmayE k s = true then some s else none := by
  have h := ftakeE_put (fstats_ok hi h1 h2)
  unfold ftakeG
  rw [show ftakeE (fputG s) = some (fstats s) from h]
  dsimp only
  rw [if_pos (by rfl)]
  show (match ftakeV (fputV s.min), ftakeV (fputV s.max) with
    | some x, some y => if fputG (fgOf (fstats s) x y) = fputG s ∧ gmayE k (fgOf (fstats s) x y) = true then some (fgOf (fstats s) x y) else none
    | _, _ => none) = _
  rw [ftakeV_put hi.2.2.1 (by omega), ftakeV_put hi.2.2.2.1 (by omega)]
  dsimp only
  rw [fgOf_stats hi]
  simp
end Go.Proofs.YtocodcceimeiiaaDoor

/- What the program asks of the fields of a value, and of what is known (layer 19), as plain mathematics. -/



namespace Go.Proofs.YtocodcceimeiiaaDoor

/-- What a field is asked to be: 0: a number; 1: a truth; others: bytes. -/
def fasked (k : Nat) (f : WF) : Bool := match k with
  | 0 => !f.bytes
  | 1 => !f.bytes && decide (f.n ≤ 1)
  | _ => f.bytes
/-- Fields with tags one by one, each as is asked. -/
def fturns : Int → List WF → List Nat → Bool
  | _, [], [] => true
  | t, f :: l, k :: ks => decide (f.tag = t) && (fasked k f && fturns (t + 1) l ks)
  | _, _, _ => false
def ftookV (b : List UInt8) : Option CV := match ftakeE b with
  | none => none
  | some l => if fturns 1 l [1, 0, 2] = true then some (fvOf l) else none
def ftookG (k : Int) (b : List UInt8) : Option GS := match ftakeE b with
  | none => none
  | some l => if fturns 1 l [0, 1, 2, 2, 0, 1] = true then
      match ftakeV (l.getD 2 (fnum 0 0)).b, ftakeV (l.getD 3 (fnum 0 0)).b with
      | some x, some y => if gmayE k (fgOf l x y) = true then some (fgOf l x y) else none
      | _, _ => none
    else none
theorem field_num {f : WF} {t : Int} (h : FOk f) (ht : f.tag = t) (hb : f.bytes = false) : f = fnum t f.n := by
  obtain ⟨a, b, c, d⟩ := f
  have := h.num hb
  dsimp only at ht hb this
  subst ht hb this
  rfl
theorem field_byt {f : WF} {t : Int} (h : FOk f) (ht : f.tag = t) (hb : f.bytes = true) : f = fbyt t f.b := by
  obtain ⟨a, b, c, d⟩ := f
  have := h.byt hb
  dsimp only at ht hb this
  subst ht hb this
  rfl
theorem fbit_is {n : Nat} (h : n ≤ 1) : fbit (n == 1) = n := by
  rcases (by omega : n = 0 ∨ n = 1) with rfl | rfl <;> rfl
theorem u64n_i64n {n : Nat} (h : n < 18446744073709551616) : u64n (i64n n) = n := by unfold u64n i64n; split <;> omega
theorem zigzag_n {n : Nat} : (vzig (vzag (n : Int))).toNat = n := by rw [vzig_vzag (by omega)]; omega
theorem fvOf_in {l : List WF} (h : (l.getD 1 (fnum 0 0)).n < 18446744073709551616) : (fvOf l).inInt := vzag_bd (by omega) (by omega)
theorem ftakeV_turn (b : List UInt8) : ftakeV b = ftookV b := by
  unfold ftakeV ftookV
  cases h : ftakeE b with
  | none => rfl
  | some l =>
    dsimp only
    obtain ⟨hok, hb⟩ := ftakeE_back b.length (Nat.le_refl _) h
    by_cases hl : l.length = 3
    · obtain ⟨f0, f1, f2, rfl⟩ : ∃ f0 f1 f2, l = [f0, f1, f2] := by
        match l, hl with
        | [f0, f1, f2], _ => exact ⟨f0, f1, f2, rfl⟩
      have k0 := hok f0 (by simp)
      have k1 := hok f1 (by simp)
      have k2 := hok f2 (by simp)
      by_cases hs : fshape [f0, f1, f2] [false, false, true] = true
      · have hs2 := hs
        simp only [fshape, Bool.and_eq_true, decide_eq_true_eq, List.map_cons, List.map_nil, List.length_cons, List.length_nil] at hs2
        obtain ⟨ht, hbb⟩ := hs2
        have ht2 : [f0.tag, f1.tag, f2.tag] = [(1 : Int), 2, 3] := ht
        simp only [List.cons.injEq, and_true] at ht2 hbb
        obtain ⟨t0, t1, t2⟩ := ht2
        obtain ⟨b0, b1, b2⟩ := hbb
        have e0 := field_num k0 t0 b0
        have e1 := field_num k1 t1 b1
        have e2 := field_byt k2 t2 b2
        have hv : (fvOf [f0, f1, f2]).inInt := fvOf_in k1.n
        by_cases hn : f0.n ≤ 1
        · have hval : fvalue (fvOf [f0, f1, f2]) = [f0, f1, f2] := by
            show [fnum 1 (fbit (f0.n == 1)), fnum 2 (vzig (vzag (f1.n : Int))).toNat, fbyt 3 (⟨f2.b.toArray⟩ : ByteArray).toList] = _
            rw [fbit_is hn, zigzag_n, ByteArray.toList_eq, ← e0, ← e1, ← e2]
          have hturn : fturns 1 [f0, f1, f2] [1, 0, 2] = true := by
            simp [fturns, fasked, t0, t1, t2, b0, b1, b2, hn]
          rw [if_pos ⟨hs, by unfold fputV; rw [hval]; exact hb.symm⟩, if_pos hturn]
        · have hturn : ¬ fturns 1 [f0, f1, f2] [1, 0, 2] = true := by
            simp [fturns, fasked, hn]
          rw [if_neg hturn, if_neg]
          rintro ⟨_, hp⟩
          have hz : (fvOf [f0, f1, f2]).s.size < 18446744073709551616 := by
            show (⟨f2.b.toArray⟩ : ByteArray).size < _
            have := k2.len
            simpa [ByteArray.size] using this
          have h2 := ftakeE_put (fvalue_ok hv hz)
          rw [show (fvalue (fvOf [f0, f1, f2])).flatMap fput1 = b from hp, h] at h2
          injection h2 with h2
          have h3 : f0 = fnum 1 (fbit (f0.n == 1)) := by
            have := congrArg (fun l => l.getD 0 (fnum 0 0)) h2
            exact this
          have h4 : f0.n = fbit (f0.n == 1) := congrArg WF.n h3
          unfold fbit at h4
          split at h4 <;> omega
      · rw [if_neg fun h => hs h.1, if_neg]
        intro hturn
        apply hs
        simp only [fturns, fasked, Bool.and_eq_true, decide_eq_true_eq, Bool.not_eq_true', and_true] at hturn
        obtain ⟨t0, ⟨b0, _⟩, t1, b1, t2, b2⟩ := hturn
        simp only [fshape, Bool.and_eq_true, decide_eq_true_eq, List.map_cons, List.map_nil, t0, t1, t2, b0, b1, b2]
        exact ⟨rfl, trivial⟩
    · rw [if_neg, if_neg]
      · intro hturn
        apply hl
        match l, hturn with
        | [f0, f1, f2], _ => rfl
        | [], h => simp [fturns] at h
        | [_], h => simp [fturns] at h
        | [_, _], h => simp [fturns] at h
        | _ :: _ :: _ :: _ :: _, h => simp [fturns] at h
      · rintro ⟨hs, _⟩
        apply hl
        simp only [fshape, Bool.and_eq_true, decide_eq_true_eq] at hs
        have := congrArg List.length hs.2
        simpa using this
theorem ftakeG_turn (k : Int) (b : List UInt8) : ftakeG k b = ftookG k b := by
  unfold ftakeG ftookG
  cases h : ftakeE b with
  | none => rfl
  | some l =>
    dsimp only
    obtain ⟨hok, hb⟩ := ftakeE_back b.length (Nat.le_refl _) h
    by_cases hl : l.length = 6
    · obtain ⟨f0, f1, f2, f3, f4, f5, rfl⟩ : ∃ f0 f1 f2 f3 f4 f5, l = [f0, f1, f2, f3, f4, f5] := by
        match l, hl with
        | [f0, f1, f2, f3, f4, f5], _ => exact ⟨f0, f1, f2, f3, f4, f5, rfl⟩
      have k0 := hok f0 (by simp)
      have k1 := hok f1 (by simp)
      have k2 := hok f2 (by simp)
      have k3 := hok f3 (by simp)
      have k4 := hok f4 (by simp)
      have k5 := hok f5 (by simp)
      show (if _ then match ftakeV f2.b, ftakeV f3.b with
        | some x, some y => if _ then some (fgOf [f0, f1, f2, f3, f4, f5] x y) else none
        | _, _ => none else none) = (if _ then match ftakeV f2.b, ftakeV f3.b with
        | some x, some y => if _ then some (fgOf [f0, f1, f2, f3, f4, f5] x y) else none
        | _, _ => none else none)
      by_cases hs : fshape [f0, f1, f2, f3, f4, f5] [false, false, true, true, false, false] = true
      · rw [if_pos hs]
        have hs2 := hs
        simp only [fshape, Bool.and_eq_true, decide_eq_true_eq, List.map_cons, List.map_nil, List.length_cons, List.length_nil] at hs2
        obtain ⟨ht, hbb⟩ := hs2
        have ht2 : [f0.tag, f1.tag, f2.tag, f3.tag, f4.tag, f5.tag] = [(1 : Int), 2, 3, 4, 5, 6] := ht
        simp only [List.cons.injEq, and_true] at ht2 hbb
        obtain ⟨t0, t1, t2, t3, t4, t5⟩ := ht2
        obtain ⟨b0, b1, b2, b3, b4, b5⟩ := hbb
        have e0 := field_num k0 t0 b0
        have e1 := field_num k1 t1 b1
        have e2 := field_byt k2 t2 b2
        have e3 := field_byt k3 t3 b3
        have e4 := field_num k4 t4 b4
        have e5 := field_num k5 t5 b5
        have hturn : fturns 1 [f0, f1, f2, f3, f4, f5] [0, 1, 2, 2, 0, 1] = (decide (f1.n ≤ 1) && decide (f5.n ≤ 1)) := by
          simp [fturns, fasked, t0, t1, t2, t3, t4, t5, b0, b1, b2, b3, b4, b5]
        cases hx : ftakeV f2.b with
        | none => simp
        | some x =>
          cases hy : ftakeV f3.b with
          | none => simp
          | some y =>
            dsimp only
            have px : fputV x = f2.b := by
              unfold ftakeV at hx
              split at hx
              · cases hx
              · split at hx
                · rename_i h4; injection hx with hx; rw [← hx]; exact h4.2
                · cases hx
            have py : fputV y = f3.b := by
              unfold ftakeV at hy
              split at hy
              · cases hy
              · split at hy
                · rename_i h4; injection hy with hy; rw [← hy]; exact h4.2
                · cases hy
            have hval : fstats (fgOf [f0, f1, f2, f3, f4, f5] x y) = [fnum 1 (u64n (i64n f0.n)), fnum 2 (fbit (f1.n == 1)), fbyt 3 (fputV x), fbyt 4 (fputV y), fnum 5 (vzig (vzag (f4.n : Int))).toNat, fnum 6 (fbit (f5.n == 1))] := rfl
            rw [u64n_i64n k0.n, zigzag_n, px, py, ← e0, ← e2, ← e3, ← e4] at hval
            rw [hturn]
            by_cases h1 : f1.n ≤ 1
            · by_cases h5 : f5.n ≤ 1
              · rw [fbit_is h1, fbit_is h5, ← e1, ← e5] at hval
                have hp : fputG (fgOf [f0, f1, f2, f3, f4, f5] x y) = b := by unfold fputG; rw [hval]; exact hb.symm
                simp [h1, h5, hp]
              · rw [if_neg, if_neg (by simp [h5])]
                rintro ⟨hp, _⟩
                refine h5 ?_
                have hbk : ∀ f ∈ fstats (fgOf [f0, f1, f2, f3, f4, f5] x y), FOk f := by
                  rw [hval]
                  intro f hf
                  simp only [List.mem_cons, List.not_mem_nil, or_false] at hf
                  rcases hf with rfl | rfl | rfl | rfl | rfl | rfl
                  · exact k0
                  · exact fnum_ok (by omega) (fbit_lt _)
                  · exact k2
                  · exact k3
                  · exact k4
                  · exact fnum_ok (by omega) (fbit_lt _)
                have h2 := ftakeE_put hbk
                rw [show (fstats (fgOf [f0, f1, f2, f3, f4, f5] x y)).flatMap fput1 = b from hp, h, hval] at h2
                injection h2 with h2
                have h3 := congrArg (fun l => (l.getD 5 (fnum 0 0)).n) h2
                have h4 : f5.n = fbit (f5.n == 1) := h3
                unfold fbit at h4
                split at h4 <;> omega
            · rw [if_neg, if_neg (by simp [h1])]
              rintro ⟨hp, _⟩
              refine h1 ?_
              have hbk : ∀ f ∈ fstats (fgOf [f0, f1, f2, f3, f4, f5] x y), FOk f := by
                rw [hval]
                intro f hf
                simp only [List.mem_cons, List.not_mem_nil, or_false] at hf
                rcases hf with rfl | rfl | rfl | rfl | rfl | rfl
                · exact k0
                · exact fnum_ok (by omega) (fbit_lt _)
                · exact k2
                · exact k3
                · exact k4
                · exact fnum_ok (by omega) (fbit_lt _)
              have h2 := ftakeE_put hbk
              rw [show (fstats (fgOf [f0, f1, f2, f3, f4, f5] x y)).flatMap fput1 = b from hp, h, hval] at h2
              injection h2 with h2
              have h3 := congrArg (fun l => (l.getD 1 (fnum 0 0)).n) h2
              have h4 : f1.n = fbit (f1.n == 1) := h3
              unfold fbit at h4
              split at h4 <;> omega
      · rw [if_neg hs, if_neg]
        intro hturn
        apply hs
        simp only [fturns, fasked, Bool.and_eq_true, decide_eq_true_eq, Bool.not_eq_true', and_true] at hturn
        obtain ⟨t0, b0, t1, ⟨b1, _⟩, t2, b2, t3, b3, t4, b4, t5, b5, _⟩ := hturn
        simp only [fshape, Bool.and_eq_true, decide_eq_true_eq, List.map_cons, List.map_nil, t0, t1, t2, t3, t4, t5, b0, b1, b2, b3, b4, b5]
        exact ⟨rfl, trivial⟩
    · rw [if_neg, if_neg]
      · intro hturn
        apply hl
        match l, hturn with
        | [f0, f1, f2, _, _, _], _ => rfl
        | [], h => simp [fturns] at h
        | [_], h => simp [fturns] at h
        | [_, _], h => simp [fturns] at h
        | [_, _, _], h => simp [fturns] at h
        | [_, _, _, _], h => simp [fturns] at h
        | [_, _, _, _, _], h => simp [fturns] at h
        | _ :: _ :: _ :: _ :: _ :: _ :: _ :: _, h => simp [fturns] at h
      · intro hs
        apply hl
        simp only [fshape, Bool.and_eq_true, decide_eq_true_eq] at hs
        have := congrArg List.length hs.2
        simpa using this
end Go.Proofs.YtocodcceimeiiaaDoor

/- The contracts of layer 19's reference: Put. -/









namespace Go.Proofs.YtocodcceimeiiaaDoor

open Go.RowKit Go.ChangeShapes Go.WideShapes Go.ChangeAt

/-- A field, as it lies: with the value of its bytes. -/
structure FN where
  tag : Int
  bytes : Bool
  n : Nat
  b : List UInt8
  lv : Value
def FN.wf (f : FN) : WF := ⟨f.tag, f.bytes, f.n, f.b⟩
def fcells (f : FN) : List Value := [.int .i64 f.tag, .bool f.bytes, .int .u64 (f.n : Int), f.lv]
structure FAt (f : FN) (w : World) : Prop where
  byt : IsB f.b f.lv w
  tag : inInt f.tag
  n : f.n < 18446744073709551616
  len : f.b.length ≤ 4000
theorem FAt.below {f : FN} {w w' : World} (h : FAt f w) (hb : Below w.heap.size w w') : FAt f w' := ⟨h.byt.below hb, h.tag, h.n, h.len⟩
def IsFields (l : List FN) (v : Value) (w : World) : Prop := IsR fcells l v w ∧ ∀ f ∈ l, FAt f w
theorem IsFields.below {l : List FN} {v : Value} {w w' : World} (h : IsFields l v w) (hb : Below w.heap.size w w') : IsFields l v w' := ⟨h.1.below hb, fun f hf => (h.2 f hf).below hb⟩
theorem cells4 {w : World} {ad : Addr} {k : Nat} {x : FN} (h : ∀ i, i < 4 → w.cell? (ad.add (k * 4 + i)) = (fcells x)[i]?) :
    w.cell? (ad.add (k * 4)) = some (.int .i64 x.tag) ∧ w.cell? ⟨(ad.add (k * 4)).block, (ad.add (k * 4)).off + 1, none⟩ = some (.bool x.bytes) ∧ w.cell? ⟨(ad.add (k * 4)).block, (ad.add (k * 4)).off + 2, none⟩ = some (.int .u64 (x.n : Int)) ∧ w.cell? ⟨(ad.add (k * 4)).block, (ad.add (k * 4)).off + 3, none⟩ = some x.lv := by
  refine ⟨h 0 (by omega), ?_, ?_, ?_⟩
  · have h1 := h 1 (by omega); rw [← add_add] at h1; exact h1
  · have h1 := h 2 (by omega); rw [← add_add] at h1; exact h1
  · have h1 := h 3 (by omega); rw [← add_add] at h1; exact h1
def fbs (l : List FN) : List UInt8 := l.flatMap fun f => fput1 f.wf
theorem fbs_snoc {l : List FN} {k : Nat} (h : k < l.length) : fbs (l.take (k + 1)) = fbs (l.take k) ++ fput1 l[k].wf := by
  unfold fbs
  rw [List.take_succ_eq_append_getElem h, List.flatMap_append]
  simp
theorem fput1_len4 {f : FN} {w : World} (h : FAt f w) (ht : ftag f.wf) : (fput1 f.wf).length ≤ 4020 := by
  have h1 := h.len
  have h2 := h.n
  obtain ⟨t1, t2⟩ := ht
  unfold fput1
  split
  · rw [List.length_append, List.length_append]
    have a1 := vput_len_10 (x := (8 * f.wf.tag + 2).toNat) (by omega)
    have a2 := vput_len_10 (x := f.wf.b.length) (by show f.b.length < _; omega)
    show _ + (_ + f.b.length) ≤ _
    omega
  · rw [List.length_append]
    have a1 := vput_len_10 (x := (8 * f.wf.tag).toNat) (by omega)
    have a2 := vput_len_10 (x := f.wf.n) h2
    omega
theorem fbs_len {w : World} : ∀ {l : List FN}, (∀ f ∈ l, FAt f w ∧ ftag f.wf) → (fbs l).length ≤ l.length * 4020
  | [], _ => by simp [fbs]
  | f :: l, h => by
    have h1 := fbs_len (l := l) fun g hg => h g (List.mem_cons_of_mem _ hg)
    have h2 := fput1_len4 (h f List.mem_cons_self).1 (h f List.mem_cons_self).2
    have h3 : fbs (f :: l) = fput1 f.wf ++ fbs l := by unfold fbs; rw [List.flatMap_cons]
    rw [h3, List.length_append, List.length_cons, Nat.add_mul]
    omega
theorem rput_isO {l : List UInt8} {v : Value} {w : World} (x : Int) (h : IsB l v w) (hl : l.length ≤ 1000000) (h0 : 0 ≤ x) (h1 : x < 18446744073709551616) :
    Calls Tryd.prog 44 #[v, .int .u64 x] w (RetOwn w (l ++ vput x.toNat)) := by
  obtain ⟨A, c, rfl, h2, h3, h4, h5⟩ := h
  exact rput_own A _ c x l w h2 rfl hl h5 h0 h1
/-- What Put answers, and whether it is refused. -/
def fputP (l : List FN) : List UInt8 × Int := match fputE (l.map FN.wf) with
  | some b => (b, 0)
  | none => ([], 1)
theorem fputP_ok {l : List FN} (h : ∀ f ∈ l, ftag f.wf) : fputP l = (fbs l, 0) := by
  unfold fputP fputE
  rw [if_pos (by intro g hg; obtain ⟨f, hf, rfl⟩ := List.mem_map.1 hg; exact h f hf)]
  dsimp only
  unfold fbs
  rw [List.flatMap_map]
theorem fputP_no {l : List FN} {k : Nat} (hk : k < l.length) (h : ¬ ftag l[k].wf) : fputP l = ([], 1) := by
  unfold fputP fputE
  rw [if_neg fun h2 => h (h2 _ (List.mem_map.2 ⟨_, List.getElem_mem hk, rfl⟩))]
def FPutRel (l : List FN) (w : World) (out i : Value) (wr : World) : Prop := ∃ k : Nat, k ≤ l.length ∧ i = .int .i64 (k : Int) ∧ (∀ f ∈ l.take k, ftag f.wf) ∧ wr.ownsRow w.heap.size 5 1 out (fbs (l.take k)).length ((fbs (l.take k)).map bv) ∧ Below w.heap.size w wr
set_option maxHeartbeats 4000000 in
set_option maxRecDepth 100000 in
theorem rfput_any (l : List FN) (v : Value) (w : World) (h : IsFields l v w) (hl : l.length ≤ 200) :
    Calls Tryd.prog 38 #[v] w (RetE w (fputP l)) := by
  obtain ⟨A, n, c, rfl⟩ := h.1.shape
  have HF := Lib.hid h
  have HN := Lib.hid h.1.parts.1
  have hn2 : (n : Int) ≤ 200 := by have := HN.out; omega
  have HST : Hid (FPutRel l w (.slice (some ⟨w.heap.size, 0, none⟩) 0 0) (.int .i64 0) (w.alloc (.cells #[] 5))) := Lib.hid ⟨0, Nat.zero_le _, rfl, by simp, World.ownsRow_made w #[] 0 (Nat.le_refl _) (by unfold maxLen; omega) (by simp), (Below.refl _ _).alloc (Nat.le_refl _) _⟩
  clear h
  go_enter Tryd.func38, Tryd.ntmps38
  go_wp2
  go_loopw [4, 5] (FPutRel l w) (fun _ i _ => n - (intOf i).toNat)
  case atStart => exact HST.out
  case round =>
    obtain ⟨k, hk, rfl, htk, how, hbw⟩ := hrel
    clear HST
    by_cases hlt : k < n
    · have hlti : (k : Int) < (n : Int) := by omega
      have hkl : k < l.length := by have := HN.out; omega
      obtain ⟨ad, rfl, had, hcell⟩ := ((HF.out.below hbw).1).at (m := 4) (fun _ => rfl) (by omega) hkl
      have hat := (HF.out.below hbw).2 _ (List.getElem_mem hkl)
      have hsn := fbs_snoc hkl
      have hbl : (fbs (l.take k)).length ≤ 804000 := by
        have h1 := fbs_len (w := wr) (l := l.take k) fun f hf => ⟨(HF.out.below hbw).2 f (List.mem_of_mem_take hf), htk f hf⟩
        rw [List.length_take] at h1
        have h2 : min k l.length * 4020 ≤ 200 * 4020 := Nat.mul_le_mul_right _ (by omega)
        omega
      have hno : ¬ ftag l[k].wf → fputP l = ([], 1) := fputP_no hkl
      have hta : ftag l[k].wf → ∀ f ∈ l.take (k + 1), ftag f.wf := fun ht f hf => by
        rw [List.take_succ_eq_append_getElem hkl] at hf
        rcases List.mem_append.1 hf with hf | hf
        · exact htk f hf
        · rw [List.mem_singleton.1 hf]; exact ht
      obtain ⟨x, hx⟩ : ∃ x, x = l[k] := ⟨_, rfl⟩
      rw [← hx] at hcell hat hsn hno hta
      obtain ⟨c0, c1, c2, c3⟩ := cells4 hcell
      obtain ⟨tag, bytes, nn, bs, lv⟩ := x
      obtain ⟨bA, bc, e, h5A, _, _, h5L⟩ := hat.byt
      dsimp only at c0 c1 c2 c3 e h5A h5L
      subst e
      have HBA := Lib.hid h5A
      have HBS := Lib.hid h5L
      have hbs := hat.len
      have hbn := hat.n
      dsimp only at hbs hbn
      have HAT := Lib.hid hat
      have HSN := Lib.hid hsn
      have HNO := Lib.hid hno
      have HTA := Lib.hid hta
      have HOW := Lib.hid how
      have HBW := Lib.hid hbw
      have HKL := Lib.hid hkl
      have HBL := Lib.hid hbl
      have htg := hat.tag
      clear hcell hat hsn hno hta how hbw hkl hbl hx had htk h5A h5L
      dsimp only at htg
      by_cases h1 : tag < 1
      · skip
        go_wp2
        go_ret2
        rw [HNO.out (fun ⟨a, b⟩ => by dsimp only [FN.wf] at a b; omega)]
        exact ⟨_, rfl, isB_nil _, below_then HBW.out ((Below.refl _ _).alloc (Nat.le_refl _) _)⟩
      · by_cases h2 : 100 < tag
        · skip
          go_wp2
          go_ret2
          rw [HNO.out (fun ⟨a, b⟩ => by dsimp only [FN.wf] at a b; omega)]
          exact ⟨_, rfl, isB_nil _, below_then HBW.out ((Below.refl _ _).alloc (Nat.le_refl _) _)⟩
        · cases bytes with
          | true =>
            obtain ⟨W1, hW1⟩ : ∃ x, x = wr.alloc (.cells #[.int .i64 tag, .bool true, .int .u64 (nn : Int), .slice bA bs.length bc] 54) := ⟨_, rfl⟩
            have hb0 : Below wr.heap.size wr W1 := by rw [hW1]; exact (Below.refl _ _).alloc (Nat.le_refl _) _
            have HR1 := Lib.hid (show Row W1 wr.heap.size 54 [.int .i64 tag, .bool true, .int .u64 (nn : Int), .slice bA bs.length bc] by rw [hW1]; exact heap_alloc_new wr _)
            have HO1 := Lib.hid (own_below HOW.out hb0)
            have HB1 := Lib.hid (below_then HBW.out hb0)
            have HBS1 := Lib.hid (HBS.out.below hb0)
            have hz1 : w.heap.size ≤ W1.heap.size := HB1.out.size
            have HFT := Lib.hid (HTA.out ⟨by dsimp only [FN.wf]; omega, by dsimp only [FN.wf]; omega⟩)
            have hbl := HBL.out
            have hkl := HKL.out
            clear hb0
            go_wp2_with fail
            rw [← hW1]
            clear hW1 c0 c1 c2 c3
            refine (rput_isO (8 * tag + 2) (isB_own HO1.out) (by omega) (by omega) (by omega)).mono ?_
            rintro e w1 ⟨v1, rfl, ho1, hb1⟩
            have HR2 := Lib.hid (HR1.out.below hb1 HR1.out.lt)
            have HO2 := Lib.hid ho1
            have HB2 := Lib.hid (below_then HB1.out hb1)
            have HBS2 := Lib.hid (HBS1.out.below hb1)
            have d3 := HR2.out.cell 3
            have hv1 := vput_len_10 (x := (8 * tag + 2).toNat) (by omega)
            have hv2 := vput_len_10 (x := bs.length) (by omega)
            clear ho1 hb1
            go_wp2_with fail
            refine (rput_isO (bs.length : Int) (isB_own HO2.out) (by rw [List.length_append]; omega) (by omega) (by omega)).mono ?_
            rintro e w2 ⟨v2, rfl, ho2, hb2⟩
            have HR3 := Lib.hid (HR2.out.below hb2 HR2.out.lt)
            have HB3 := Lib.hid (below_then HB2.out hb2)
            have hz2 := HB2.out.size
            have hz3 := HB3.out.size
            have hl3 := HBS2.out.below hb2
            have ho3 := ownW_base hz2 ho2
            have e3 := HR3.out.cell 3
            have hb3 := HB3.out
            have hA3 := HBA.out
            have hln : (fbs (l.take k) ++ vput (8 * tag + 2).toNat ++ vput (bs.length : Int).toNat).length + bs.length ≤ 1000000000 := by rw [List.length_append, List.length_append, Int.toNat_natCast]; omega
            clear d3 ho2 hb2
            go_wp2_with (at_builtin; refine wpList_join elemB rfl _ _ rfl w.heap.size _ _ _ bA bs.length bc (bs.map bv) w rfl rfl hA3 (by simp) hl3 (bv_one bs) ho3 hb3 hz3 hln (by omega) ?_)
            intro v4 w4 ho4 hb4 _ _
            have HREL := Lib.hid (show FPutRel l w v4 (.int .i64 ((k + 1 : Nat) : Int)) w4 from ⟨k + 1, hkl, rfl, HFT.out, by
              rw [HSN.out, fput1_byt rfl]
              dsimp only [FN.wf]
              simp only [List.map_append, List.length_append, Nat.add_assoc] at ho4 ⊢
              exact ho4, hb4⟩)
            clear ho4 hb4 hl3 ho3 hb3 hA3 hln e3
            go_wp2
            go_roundw
            case rel => exact HREL.out
            case measure => simp [intOf]; omega
          | false =>
            obtain ⟨W1, hW1⟩ : ∃ x, x = wr.alloc (.cells #[.int .i64 tag, .bool false, .int .u64 (nn : Int), .slice bA bs.length bc] 54) := ⟨_, rfl⟩
            have hb0 : Below wr.heap.size wr W1 := by rw [hW1]; exact (Below.refl _ _).alloc (Nat.le_refl _) _
            have HR1 := Lib.hid (show Row W1 wr.heap.size 54 [.int .i64 tag, .bool false, .int .u64 (nn : Int), .slice bA bs.length bc] by rw [hW1]; exact heap_alloc_new wr _)
            have HO1 := Lib.hid (own_below HOW.out hb0)
            have HB1 := Lib.hid (below_then HBW.out hb0)
            have HBS1 := Lib.hid (HBS.out.below hb0)
            have hz1 : w.heap.size ≤ W1.heap.size := HB1.out.size
            have HFT := Lib.hid (HTA.out ⟨by dsimp only [FN.wf]; omega, by dsimp only [FN.wf]; omega⟩)
            have hbl := HBL.out
            have hkl := HKL.out
            clear hb0
            go_wp2_with fail
            rw [← hW1]
            clear hW1 c0 c1 c2 c3
            refine (rput_isO (8 * tag) (isB_own HO1.out) (by omega) (by omega) (by omega)).mono ?_
            rintro e w1 ⟨v1, rfl, ho1, hb1⟩
            have HR2 := Lib.hid (HR1.out.below hb1 HR1.out.lt)
            have HO2 := Lib.hid ho1
            have HB2 := Lib.hid (below_then HB1.out hb1)
            have d2 := HR2.out.cell 2
            have hv1 := vput_len_10 (x := (8 * tag).toNat) (by omega)
            clear ho1 hb1
            go_wp2_with fail
            refine (rput_isO (nn : Int) (isB_own HO2.out) (by rw [List.length_append]; omega) (by omega) (by omega)).mono ?_
            rintro e w2 ⟨v2, rfl, ho2, hb2⟩
            have hz2 := HB2.out.size
            have HREL := Lib.hid (show FPutRel l w v2 (.int .i64 ((k + 1 : Nat) : Int)) w2 from ⟨k + 1, hkl, rfl, HFT.out, by
              rw [HSN.out, fput1_num rfl]
              dsimp only [FN.wf]
              rw [Int.toNat_natCast] at ho2
              rw [← List.append_assoc]
              exact ownW_base hz2 ho2, below_then HB2.out hb2⟩)
            clear d2 ho2 hb2
            go_wp2
            go_roundw
            case rel => exact HREL.out
            case measure => simp [intOf]; omega
    · have hlti : ¬ (k : Int) < (n : Int) := by omega
      obtain rfl : k = l.length := by have := HN.out; omega
      rw [List.take_length] at htk how
      have HR := Lib.hid (show RetE w (fputP l) (.returned (.tuple #[u4, .int .i64 0])) wr by rw [fputP_ok htk]; exact ⟨_, rfl, isB_own how, hbw⟩)
      clear htk how hbw
      go_wp2
      go_ret2
      exact HR.out
end Go.Proofs.YtocodcceimeiiaaDoor

/- What the walk of Take of layer 19's reference stands on: bytes that lie in a block of bytes, and stay where a row of fields grows. -/







namespace Go.Proofs.YtocodcceimeiiaaDoor

open Go.RowKit Go.ChangeShapes Go.WideShapes Go.ChangeAt

/-- The value v holds the bytes l, in a block of bytes. -/
def IsBT (l : List UInt8) (v : Value) (w : World) : Prop := IsB l v w ∧ ∀ ad n c, v = .slice (some ad) n c → ∃ cs, w.heap[ad.block]? = some (.cells cs 5 (0, 0))
theorem IsBT.below {l : List UInt8} {v : Value} {w w' : World} (h : IsBT l v w) (hb : Below w.heap.size w w') : IsBT l v w' := by
  refine ⟨h.1.below hb, fun ad n c e => ?_⟩
  obtain ⟨cs, hc⟩ := h.2 ad n c e
  exact ⟨cs, (hb.block _ (Array.getElem?_eq_some_iff.1 hc).1).trans hc⟩
theorem isBT_nil (w : World) : IsBT [] (.slice none 0 0) w := ⟨isB_nil w, fun ad n c e => by cases e⟩
theorem isBT_own {w : World} {base : Nat} {v : Value} {n : Nat} {l : List UInt8} (h : w.ownsRow base 5 1 v n (l.map bv)) : IsBT l v w := by
  refine ⟨isB_own h, fun ad m c e => ?_⟩
  rcases h.2 with ⟨h1, _⟩ | ⟨g, cap, cur, h1, _, hg, _⟩
  · rw [h1] at e; cases e
  · rw [h1] at e
    injection e with e _ _
    injection e with e
    subst e
    exact ⟨cur, hg⟩
/-- A row of fields grows: the bytes stay. -/
theorem IsBT.grown {l : List UInt8} {v : Value} {w w' : World} {base s k : Nat} {e : TypeId} {ov : Value} {ys : List Value} (h : IsBT l v w) (ho : w.ownsRow base e s ov k ys) (hne : e ≠ 5) (hg : w.grownBy w' ov.ownBlock) : IsBT l v w' := by
  have key : ∀ ad n c, v = .slice (some ad) n c → w'.heap[ad.block]? = w.heap[ad.block]? := fun ad n c hv => by
    obtain ⟨cs, hc⟩ := h.2 ad n c hv
    refine hg.block _ (Array.getElem?_eq_some_iff.1 hc).1 fun he => ?_
    rcases ho.2 with ⟨h1, _⟩ | ⟨g, cap, cur, h1, _, hg2, _⟩
    · rw [h1] at he; cases he
    · rw [h1] at he
      injection he with he
      dsimp only at he
      rw [← he, hc] at hg2
      injection hg2 with hg2
      injection hg2 with _ h3
      exact hne h3.symm
  obtain ⟨A, c, e1, h2, h3, h4, h5⟩ := h.1
  refine ⟨⟨A, c, e1, h2, h3, h4, ?_⟩, fun ad n c hv => ?_⟩
  · rcases h5 with h5 | ⟨ad, hA, hlt, hcell⟩
    · exact .inl h5
    · subst hA
      exact .inr ⟨ad, rfl, Nat.lt_of_lt_of_le hlt hg.size, fun j u hu => (World.cell?_of_block (by rw [add_block]; exact key ad _ _ e1)).trans (hcell j u hu)⟩
  · obtain ⟨cs, hc⟩ := h.2 ad n c hv
    exact ⟨cs, (key ad n c hv).trans hc⟩
/-- What Take answers: fields (of the type T), or 2. -/
def RetFX (T : TypeId) (w : World) (o : Option (List WF)) (e : Ending) (w' : World) : Prop :=
  match o with
  | none => e = .returned (.tuple #[.slice none 0 0, .int .i64 2]) ∧ Below w.heap.size w w'
  | some l => ∃ (fs : List FN) (v : Value), e = .returned (.tuple #[v, .int .i64 0]) ∧ fs.map FN.wf = l ∧ w'.ownsRow w.heap.size T 4 v fs.length (fs.flatMap fcells) ∧ (∀ f ∈ fs, IsBT f.b f.lv w') ∧ Below w.heap.size w w'
def FTakeRel (b : List UInt8) (w : World) (ov rv : Value) (wr : World) : Prop :=
  ∃ (fs : List FN) (rest : List UInt8), ftakeE b = (ftakeE rest).map (fs.map FN.wf ++ ·) ∧ fs.length + rest.length ≤ b.length ∧ wr.ownsRow w.heap.size 54 4 ov fs.length (fs.flatMap fcells) ∧ (∀ f ∈ fs, IsBT f.b f.lv wr) ∧ IsBT rest rv wr ∧ Below w.heap.size w wr
theorem elemFN : ∃ b, b ≤ 100 ∧ ElemW Tryd.prog 28 54 b 4 (.agg (fcells ⟨0, false, 0, [], .slice none 0 0⟩).toArray) := by
  have h : (Tryd.prog.info? 54).map (fun i => (i.zero, i.size, decide (i.bytes ≤ 100))) = some (some (.agg (fcells ⟨0, false, 0, [], .slice none 0 0⟩).toArray), 4, true) := by kernel_rfl
  cases hi : Tryd.prog.info? 54 with
  | none => rw [hi] at h; cases h
  | some i =>
    rw [hi] at h
    injection h with h
    injection h with h1 h
    injection h with h2 h3
    exact ⟨i.bytes, of_decide_eq_true h3, Tryd.underlying28, rfl, by omega, i, hi, h1, h2, rfl⟩
theorem ftake1_nk {b : List UInt8} (h : vtake b = none) : ftake1 b = none := by unfold ftake1; rw [h]
theorem ftake1_bad {b more : List UInt8} {k : Nat} (h : vtake b = some (k, more)) (hk : k < 8 ∨ 802 < k ∨ (k % 8 ≠ 0 ∧ k % 8 ≠ 2)) : ftake1 b = none := by unfold ftake1; rw [h]; dsimp only; rw [if_pos hk]
theorem ftake1_nn {b more : List UInt8} {k : Nat} (h : vtake b = some (k, more)) (h2 : vtake more = none) : ftake1 b = none := by
  unfold ftake1
  rw [h]
  dsimp only
  split
  · rfl
  · rw [h2]
theorem ftake1_short {b more behind : List UInt8} {k n : Nat} (h : vtake b = some (k, more)) (h2 : vtake more = some (n, behind)) (h8 : k % 8 = 2) (hn : behind.length < n) : ftake1 b = none := by
  unfold ftake1
  rw [h]
  dsimp only
  split
  · rfl
  · rw [h2]
    dsimp only
    first
      | rw [if_pos h8, if_pos hn]
      | rw [if_pos hn]
theorem ftake1_bytes {b more behind : List UInt8} {k n : Nat} (h : vtake b = some (k, more)) (hk : ¬ (k < 8 ∨ 802 < k ∨ (k % 8 ≠ 0 ∧ k % 8 ≠ 2))) (h2 : vtake more = some (n, behind)) (h8 : k % 8 = 2) (hn : ¬ behind.length < n) :
    ftake1 b = some (⟨(k / 8 : Nat), true, 0, behind.take n⟩, behind.drop n) := by unfold ftake1; rw [h]; dsimp only; rw [if_neg hk, h2]; dsimp only; rw [if_pos h8, if_neg hn]
theorem ftake1_number {b more behind : List UInt8} {k n : Nat} (h : vtake b = some (k, more)) (hk : ¬ (k < 8 ∨ 802 < k ∨ (k % 8 ≠ 0 ∧ k % 8 ≠ 2))) (h2 : vtake more = some (n, behind)) (h8 : ¬ k % 8 = 2) :
    ftake1 b = some (⟨(k / 8 : Nat), false, n, []⟩, behind) := by unfold ftake1; rw [h]; dsimp only; rw [if_neg hk, h2]; dsimp only; rw [if_neg h8]
end Go.Proofs.YtocodcceimeiiaaDoor

/- A region that draws and stores once, into a block of the call's own: the relation 'what holds of that block, or what will'. Over any program. -/





namespace Go.Proofs.YtocodcceimeiiaaDoor

open Go.RowKit

/-- Block g alone may change; from O to G. -/
def GetsTo (g : Nat) (O G : World → Prop) (w w' : World) : Prop := w.grownBy w' (some g) ∧ (O w ∨ G w → O w' ∨ G w') ∧ (G w → G w')
theorem getsTo_later (g : Nat) (O G : World → Prop) (hO : ∀ w, O w → O { w with drawn := w.drawn + 1 }) (hG : ∀ w, G w → G { w with drawn := w.drawn + 1 }) : Later (GetsTo g O G) where
  refl := fun _ => ⟨⟨rfl, rfl, rfl, Nat.le_refl _, fun _ _ _ => rfl⟩, id, id⟩
  trans := fun ⟨a1, a2, a3⟩ ⟨b1, b2, b3⟩ => ⟨⟨b1.os.trans a1.os, b1.tape.trans a1.tape, b1.output.trans a1.output, Nat.le_trans a1.size b1.size, fun k hk hne => (b1.block k (Nat.lt_of_lt_of_le hk a1.size) hne).trans (a1.block k hk hne)⟩, fun h => b2 (a2 h), fun h => b3 (a3 h)⟩
  draw := fun w => ⟨⟨rfl, rfl, rfl, Nat.le_refl _, fun _ _ _ => rfl⟩, fun h => h.elim (fun h => .inl (hO w h)) (fun h => .inr (hG w h)), hG w⟩
/-- An operation that makes memory alone. -/
theorem getsTo_below {g : Nat} {O G : World → Prop} (hO : ∀ w w', Below w.heap.size w w' → O w → O w') (hG : ∀ w w', Below w.heap.size w w' → G w → G w') {w w' : World} (h : Below w.heap.size w w') : GetsTo g O G w w' :=
  ⟨⟨h.os, h.tape, h.output, h.size, fun k hk _ => h.block k hk⟩, fun k => k.elim (fun k => .inl (hO w w' h k)) (fun k => .inr (hG w w' h k)), hG w w' h⟩
/-- The operation that stores. -/
theorem getsTo_set {g : Nat} {O G : World → Prop} {w : World} {cs : Array Value} (h : G (w.setRow g cs)) : GetsTo g O G w (w.setRow g cs) :=
  ⟨⟨rfl, rfl, rfl, by simp [World.setRow], fun k _ hg => setRow_other w g k _ (fun e => hg (by rw [e]))⟩, fun _ => .inr h, fun _ => h⟩
/-- append([]T(nil), x...), of bytes: they lie in a row of the call's own. -/
theorem gives_copyO {P : Program} {o : Oper} {ρ : Operand → Value} {w : World} {R : Value → World → Prop} {t e : TypeId} {z : Value} (E : Elem P t e 1 z) {s x : Operand} {l : List UInt8} {v : Value} (ho : o.op = .call { callee := .builtin .append, args := #[s, x], argTypes := #[t, t] }) (hs : ρ s = .slice none 0 0) (hx : ρ x = v) (hv : IsB l v w)
    (hl : l.length ≤ 1000000000) (hR : ∀ v' w', w'.ownsRow w.heap.size e 1 v' l.length (l.map bv) → Below w.heap.size w w' → R v' w') : Gives P o ρ w R := by
  obtain ⟨A, c, rfl, h1, h2, h3, h4⟩ := hv
  obtain ⟨i, g1, g2, g3, g4⟩ := E.info
  have g5 : z.cells.size = 1 := by rw [E.one]; rfl
  obtain ⟨v', w', hrun, h5, h6, _⟩ := run_append_lies (P := P) w w.heap.size t o.type e i z 1 E.under g1 g2 g3 g4 g5 (.slice none 0 0) 0 [] (World.ownsRow_nil _ _ _ _) A l.length c h1 (l.map bv) (by simp) h4 (bv_one _) (by unfold maxLen; omega) (by omega) (Nat.le_refl _)
  refine gives_of (v := v') (w' := w') ?_ (hR v' w' (by simpa using h5) ((Below.refl _ w).grown h6 (Nat.le_refl _) fun k hk => by simp [Value.ownBlock] at hk))
  simp [execOp, ho, resolve, invoke, builtin, hs, hx, hrun]
end Go.Proofs.YtocodcceimeiiaaDoor

/- wire's own contracts: numbers, number, truth, bulk, leading. -/















namespace Go.Proofs.YtocodcceimeiiaaDoor

open Go.RowKit Go.ChangeShapes Go.WideShapes Go.ChangeAt

theorem put_isO {l : List UInt8} {v : Value} {w : World} (x : Int) (h : IsB l v w) (hl : l.length ≤ 1000000) (h0 : 0 ≤ x) (h1 : x < 18446744073709551616) :
    Calls Tryd.prog 48 #[v, .int .u64 x] w (RetOwn w (l ++ vput x.toNat)) := by
  obtain ⟨A, c, rfl, h2, h3, h4, h5⟩ := h
  exact put_own A _ c x l w h2 rfl hl h5 h0 h1
/-- Numbers one behind the other. -/
def fnums (l : List Nat) : List UInt8 := l.flatMap vput
theorem fnums_snoc {l : List Nat} {k : Nat} (h : k < l.length) : fnums (l.take (k + 1)) = fnums (l.take k) ++ vput l[k] := by
  unfold fnums
  rw [List.take_succ_eq_append_getElem h, List.flatMap_append]
  simp
theorem fnums_len : ∀ {l : List Nat}, (∀ x ∈ l, x < 18446744073709551616) → (fnums l).length ≤ l.length * 10
  | [], _ => by simp [fnums]
  | x :: l, h => by
    have h1 := fnums_len (l := l) fun y hy => h y (List.mem_cons_of_mem _ hy)
    have h2 := vput_len_10 (h x List.mem_cons_self)
    have h3 : fnums (x :: l) = vput x ++ fnums l := by unfold fnums; rw [List.flatMap_cons]
    rw [h3, List.length_append, List.length_cons, Nat.add_mul]
    omega
def FNumRel (l : List Nat) (w : World) (out i : Value) (wr : World) : Prop := ∃ k : Nat, k ≤ l.length ∧ i = .int .i64 (k : Int) ∧ wr.ownsRow w.heap.size 5 1 out (fnums (l.take k)).length ((fnums (l.take k)).map bv) ∧ Below w.heap.size w wr
set_option maxHeartbeats 4000000 in
set_option maxRecDepth 100000 in
theorem fnumbers_any (l : List Nat) (v : Value) (w : World) (h : IsV uv l v w) (hl : l.length ≤ 1000) (hx : ∀ x ∈ l, x < 18446744073709551616) :
    Calls Tryd.prog 42 #[v] w (RetOwn w (fnums l)) := by
  obtain ⟨A, n, c, rfl⟩ := h.shape
  have HF := Lib.hid h
  have HN := Lib.hid h.parts.1
  have HX := Lib.hid hx
  have hn2 : (n : Int) ≤ 1000 := by have := HN.out; omega
  have HST : Hid (FNumRel l w (.slice none 0 0) (.int .i64 0) w) := Lib.hid ⟨0, Nat.zero_le _, rfl, World.ownsRow_nil _ _ _ _, Below.refl _ _⟩
  clear h hx
  go_enter Tryd.func42, Tryd.ntmps42
  go_wp2
  go_loopw [3, 8] (FNumRel l w) (fun _ i _ => n - (intOf i).toNat)
  case atStart => exact HST.out
  case round =>
    obtain ⟨k, hk, rfl, how, hbw⟩ := hrel
    clear HST
    by_cases hlt : k < n
    · have hlti : (k : Int) < (n : Int) := by omega
      have hkl : k < l.length := by have := HN.out; omega
      obtain ⟨ad, rfl, had, hcell⟩ := (HF.out.below hbw).at hkl
      have hxk := HX.out _ (List.getElem_mem hkl)
      have hsn := fnums_snoc hkl
      have hbl : (fnums (l.take k)).length ≤ 10000 := by
        have h1 := fnums_len (l := l.take k) fun x hx => HX.out x (List.mem_of_mem_take hx)
        rw [List.length_take] at h1
        omega
      obtain ⟨x, hx⟩ : ∃ x, x = l[k] := ⟨_, rfl⟩
      rw [← hx] at hcell hxk hsn
      have HSN := Lib.hid hsn
      have HB := Lib.hid hbw
      have HKL := Lib.hid hkl
      have HO := Lib.hid how
      have hc2 : wr.cell? (ad.add k) = some (.int .u64 (x : Int)) := hcell
      have hz := hbw.size
      have HZ := Lib.hid hz
      clear hcell hsn hbw hx hk how hz hkl had
      go_wp2_with fail
      refine (put_isO (x : Int) (isB_own HO.out) (by omega) (by omega) (by omega)).mono ?_
      rintro e w2 ⟨v2, rfl, ho2, hb2⟩
      have HREL := Lib.hid (show FNumRel l w v2 (.int .i64 ((k + 1 : Nat) : Int)) w2 from ⟨k + 1, HKL.out, rfl, by
        rw [HSN.out]
        rw [Int.toNat_natCast] at ho2
        exact ownW_base HZ.out ho2, below_then HB.out hb2⟩)
      clear ho2 hb2
      go_wp2
      go_roundw
      case rel => exact HREL.out
      case measure => simp [intOf]; omega
    · have hlti : ¬ (k : Int) < (n : Int) := by omega
      obtain rfl : k = l.length := by have := HN.out; omega
      rw [List.take_length] at how
      have HO := Lib.hid how
      clear how
      go_wp2
      go_ret
      exact ⟨_, rfl, HO.out, hbw⟩
/-- A field's value. -/
def fval (f : FN) : Value := .agg (fcells f).toArray
/-- One result: a struct that lies in a block. -/
theorem results_rowF {P : Program} {fn : Func} {p : Tmp} {ty : TypeId} (h : fn.results = #[.cell p ty]) (tmps : Array Value) (w : World) (g : Nat) (t : TypeId) (cs : Array Value) (fr : Nat × Nat) (d : TypeDesc)
    (hp : tmps.getD p undef = .pointer (some ⟨g, 0, none⟩)) (hg : w.heap[g]? = some (.cells cs t fr))
    (hu : P.underlying ty = some d) (hd : (match d with | .struct _ | .array _ _ => true | _ => false) = true) (hi : (P.info? ty).map (·.size) = some cs.size) :
    (results fn tmps).run P w = .ok (.agg cs) w := by
  have hp' : tmps[p]?.getD undef = Value.pointer (some ⟨g, 0, none⟩) := by simpa using hp
  simp only [results, h]
  simp [hp', asAddr, run_loadVar_row w g t ty cs fr d hg hu hd hi]
/-- A struct in a block, and two more results. -/
theorem results_rowF3 {P : Program} {fn : Func} {p u v : Tmp} {ty : TypeId} (h : fn.results = #[.cell p ty, .tmp u, .tmp v]) (tmps : Array Value) (w : World) (g : Nat) (t : TypeId) (cs : Array Value) (fr : Nat × Nat) (d : TypeDesc)
    (hp : tmps.getD p undef = .pointer (some ⟨g, 0, none⟩)) (hg : w.heap[g]? = some (.cells cs t fr))
    (hu : P.underlying ty = some d) (hd : (match d with | .struct _ | .array _ _ => true | _ => false) = true) (hi : (P.info? ty).map (·.size) = some cs.size) :
    (results fn tmps).run P w = .ok (.tuple #[.agg cs, tmps.getD u undef, tmps.getD v undef]) w := by
  have hp' : tmps[p]?.getD undef = Value.pointer (some ⟨g, 0, none⟩) := by simpa using hp
  simp only [results, h]
  simp [Result.andThen, hp', asAddr, run_loadVar_row w g t ty cs fr d hg hu hd hi]
theorem field_size : (Tryd.prog.info? 49).map (·.size) = some 4 := by kernel_rfl
set_option maxRecDepth 100000 in
theorem fnumber_any (x : Int) (w : World) : Calls Tryd.prog 32 #[.int .u64 x] w fun e w' => e = .returned (.agg #[.int .i64 0, .bool false, .int .u64 x, .slice none 0 0]) ∧ Below w.heap.size w w' := by
  have hr : Row (w.alloc (.cells #[.int .i64 0, .bool false, .int .u64 x, .slice none 0 0] 49)) w.heap.size 49 [.int .i64 0, .bool false, .int .u64 x, .slice none 0 0] := heap_alloc_new w _
  have HR := Lib.hid hr
  clear hr
  go_enter Tryd.func32, Tryd.ntmps32
  go_wp2
  refine bodyPost_ret (results_rowF rfl _ _ w.heap.size _ _ (0, 0) _ rfl HR.out Tryd.underlying49 rfl field_size) rfl ?_
  exact ⟨rfl, (Below.refl _ _).alloc (Nat.le_refl _) _⟩
set_option maxRecDepth 100000 in
theorem fbulk_any (A : Option Addr) (n c : Nat) (w : World) : Calls Tryd.prog 34 #[.slice A n c] w fun e w' => e = .returned (.agg #[.int .i64 0, .bool true, .int .u64 0, .slice A n c]) ∧ Below w.heap.size w w' := by
  have hr : Row (w.alloc (.cells #[.int .i64 0, .bool true, .int .u64 0, .slice A n c] 49)) w.heap.size 49 [.int .i64 0, .bool true, .int .u64 0, .slice A n c] := heap_alloc_new w _
  have HR := Lib.hid hr
  clear hr
  go_enter Tryd.func34, Tryd.ntmps34
  go_wp2
  refine bodyPost_ret (results_rowF rfl _ _ w.heap.size _ _ (0, 0) _ rfl HR.out Tryd.underlying49 rfl field_size) rfl ?_
  exact ⟨rfl, (Below.refl _ _).alloc (Nat.le_refl _) _⟩
set_option maxRecDepth 100000 in
theorem ftruth_any (b : Bool) (w : World) : Calls Tryd.prog 31 #[.bool b] w fun e w' => e = .returned (.agg #[.int .i64 0, .bool false, .int .u64 (fbit b : Int), .slice none 0 0]) ∧ Below w.heap.size w w' := by
  obtain ⟨w1, hw1⟩ : ∃ x, x = w.alloc (.cells #[.int .i64 0, .bool false, .int .u64 0, .slice none 0 0] 49) := ⟨_, rfl⟩
  have hr : Row w1 w.heap.size 49 [.int .i64 0, .bool false, .int .u64 0, .slice none 0 0] := by rw [hw1]; exact heap_alloc_new w _
  have hb : Below w.heap.size w w1 := by rw [hw1]; exact (Below.refl _ _).alloc (Nat.le_refl _) _
  have HR := Lib.hid hr
  have HB := Lib.hid hb
  clear hr hb
  cases b with
  | true =>
    go_enter Tryd.func31, Tryd.ntmps31
    go_wp2_with fail
    rw [← hw1]
    clear hw1
    refine (fnumber_any 1 w1).mono ?_
    rintro e w2 ⟨rfl, hb2⟩
    have HB2 := Lib.hid (below_then HB.out hb2)
    have HR2 := Lib.hid (HR.out.below hb2 HR.out.lt)
    clear hb2
    go_wp2_with (refine wpList_storeW rfl _ _ _ rfl w.heap.size 0 49 [.int .i64 0, .bool false, .int .u64 0, .slice none 0 0] [.int .i64 0, .bool false, .int .u64 1, .slice none 0 0] [.int .i64 0, .bool false, .int .u64 1, .slice none 0 0] rfl rfl rfl HR2.out field_size (Nat.le_refl _) (by decide) w w.heap.size HB2.out (Nat.le_refl _) ?_)
    intro w3 hr3 hb3 _
    have HR3 := Lib.hid hr3
    have HB3 := Lib.hid hb3
    clear hr3 hb3
    go_wp2
    refine bodyPost_ret (results_rowF rfl _ _ w.heap.size _ _ (0, 0) _ rfl HR3.out Tryd.underlying49 rfl field_size) rfl ?_
    exact ⟨rfl, HB3.out⟩
  | false =>
    go_enter Tryd.func31, Tryd.ntmps31
    go_wp2_with fail
    rw [← hw1]
    clear hw1
    refine (fnumber_any 0 w1).mono ?_
    rintro e w2 ⟨rfl, hb2⟩
    have HB2 := Lib.hid (below_then HB.out hb2)
    have HR2 := Lib.hid (HR.out.below hb2 HR.out.lt)
    clear hb2
    go_wp2_with (refine wpList_storeW rfl _ _ _ rfl w.heap.size 0 49 [.int .i64 0, .bool false, .int .u64 0, .slice none 0 0] [.int .i64 0, .bool false, .int .u64 0, .slice none 0 0] [.int .i64 0, .bool false, .int .u64 0, .slice none 0 0] rfl rfl rfl HR2.out field_size (Nat.le_refl _) (by decide) w w.heap.size HB2.out (Nat.le_refl _) ?_)
    intro w3 hr3 hb3 _
    have HR3 := Lib.hid hr3
    have HB3 := Lib.hid hb3
    clear hr3 hb3
    go_wp2
    refine bodyPost_ret (results_rowF rfl _ _ w.heap.size _ _ (0, 0) _ rfl HR3.out Tryd.underlying49 rfl field_size) rfl ?_
    exact ⟨rfl, HB3.out⟩
/-- x[k:], as one equation, in whatever world. -/
theorem from_all {P : Program} {t e : TypeId} {bytes : Nat} {z : Value} (kd : IntKind) (E : Elem P t e bytes z) {A : Option Addr} {n c k : Nat} {l : List UInt8} (hk : k ≤ n) (hnc : n ≤ c) :
    ∃ v, (∀ W, (Instr.sliceAt t (.slice A n c) (some (.int kd (k : Int))) none none).run P W = .ok v W) ∧ ∀ W, IsB l (.slice A n c) W → IsB (l.drop k) v W := by
  have ht := E.under
  have he : P.elem t = e := by simp [Program.elem, ht]
  refine ⟨.slice (if c = k then A else A.map (·.add k)) (n - k) (c - k), fun W => ?_, fun W hW => ?_⟩
  · rw [run_sliceAt_slice W t _ _ _ _ (by rw [he]; exact ht), run_slice_l W t A n c (by rw [he]; exact ht) kd (k : Int) (by omega) (by omega), he, E.size_]
    simp [sliced]
  · obtain ⟨hxs, hA, _, hcm, hl⟩ := IsV.parts (f := bv) hW
    refine ⟨if c = k then A else A.map (·.add k), c - k, ?_, ?_, ?_, by omega, ?_⟩
    · rw [List.length_drop, hxs]
    · intro hB
      have : A = none := by
        split at hB
        · exact hB
        · cases A with
          | none => rfl
          | some ad => simp at hB
      have := hA this
      rw [List.length_drop, hxs]
      omega
    · rw [List.length_drop, hxs]; omega
    · rw [List.map_drop]; exact hl.drop (by rw [List.length_map]; omega)
/-- x[:k], by a number of whatever kind. -/
theorem gives_uptoK {P : Program} {o : Oper} {ρ : Operand → Value} {w : World} {R : Value → World → Prop} {t e : TypeId} {bytes : Nat} {z : Value} (kd : IntKind) (E : Elem P t e bytes z) {x y : Operand} {A : Option Addr} {n c h : Nat} (ho : o.op = .slice t x none (some y) none) (hx : ρ x = .slice A n c) (hy : ρ y = .int kd (h : Int)) (hc : h ≤ c)
    (hR : R (.slice A h c) w) : Gives P o ρ w R := by
  refine gives_slice ho hx (lo' := none) rfl (hi' := some (.int kd (h : Int))) (by simp [hy]) (mx' := none) rfl (v := .slice A h c) (w' := w) ?_ hR
  have ht := E.under
  have he : P.elem t = e := by simp [Program.elem, ht]
  rw [run_sliceAt_slice w t _ _ _ _ (by rw [he]; exact ht), run_slice_h w t A n c (by rw [he]; exact ht) kd (h : Int) (by omega) (by omega), he, E.size_]
  simp [sliced]
  intro _
  cases A <;> simp [Addr.add]
/-- What leading answers: the number ahead, and the piece behind it. -/
def RetLd (l : List UInt8) (v : Value) (w : World) (o : Option (Nat × List UInt8)) (e : Ending) (w' : World) : Prop :=
  match o with
  | none => e = .returned (.tuple #[.int .u64 0, .slice none 0 0, .bool false]) ∧ Below w.heap.size w w'
  | some p => ∃ u, e = .returned (.tuple #[.int .u64 (p.1 : Int), u, .bool true]) ∧ (∀ W, IsB l v W → IsB p.2 u W) ∧ Below w.heap.size w w'
set_option maxHeartbeats 4000000 in
set_option maxRecDepth 100000 in
theorem fleading_any (l : List UInt8) (v : Value) (w : World) (h : IsB l v w) : Calls Tryd.prog 43 #[v] w (RetLd l v w (vtake l)) := by
  obtain ⟨A, n, c, rfl⟩ := IsV.shape (f := bv) h
  obtain ⟨hn, _, hnc, hcm, _⟩ := IsV.parts (f := bv) h
  obtain ⟨m, hm⟩ : ∃ m, m = min n 10 := ⟨_, rfl⟩
  have hmn : m ≤ n := by omega
  have hmc : m ≤ c := by omega
  have hm10 : m ≤ 10 := by omega
  have hci : (c : Int) ≤ 9223372036854775807 := by unfold maxLen at hcm; omega
  have hmin : ∀ (ts : Array TypeId) (t : TypeId) (W : World), (Builtin.min_ ts t #[.int .i64 (n : Int), .int .i64 10]).run Tryd.prog W = .ok (.int .i64 (m : Int)) W := fun ts t W => by
    rw [run_min_int2]
    congr 2
    split <;> omega
  have hs : IsB (l.take m) (.slice A m c) w := IsV.take (f := bv) h hmn
  have hm2 : l.take m = l.take 10 := by
    by_cases h10 : n ≤ 10
    · rw [List.take_of_length_le (by omega), List.take_of_length_le (by omega)]
    · rw [show m = 10 by omega]
  have hml : (l.take 10).length = m := by rw [List.length_take]; omega
  rw [hm2] at hs
  have htk := take_isB hs (by omega)
  have hten := vtake_ten l
  cases h1 : vtake (l.take 10) with
  | none =>
    rw [h1] at htk hten
    have HTK := Lib.hid htk
    have HTE := Lib.hid hten
    clear htk hten h1 hs hm2 hml hm h hn
    go_enter Tryd.func43, Tryd.ntmps43
    go_wp2_with fail
    refine HTK.out.mono ?_
    rintro e w1 ⟨rfl, hb1⟩
    have HB1 := Lib.hid hb1
    clear hb1
    go_wp2
    go_ret3
    rw [HTE.out]
    exact ⟨rfl, HB1.out⟩
  | some p =>
    obtain ⟨x, r⟩ := p
    rw [h1] at htk hten
    obtain ⟨e1, e2⟩ := vtake_some h1
    have hrm : r.length ≤ m := by rw [← hml, e1, List.length_append]; omega
    obtain ⟨k, hk⟩ : ∃ k, k = m - r.length := ⟨_, rfl⟩
    obtain ⟨u, hu1, hu2⟩ := from_all (P := Tryd.prog) (l := l) .i64 elemB (A := A) (n := n) (c := c) (k := k) (by omega) hnc
    have hd : l.drop k = r ++ l.drop 10 := by
      have h3 : l = vput x ++ (r ++ l.drop 10) := by rw [← List.append_assoc, ← e1, List.take_append_drop]
      have h4 : k = (vput x).length := by rw [hk, ← hml, e1, List.length_append]; omega
      conv => lhs; rw [h3, h4]
      exact List.drop_left
    rw [hd] at hu2
    have HTK := Lib.hid htk
    have HTE := Lib.hid hten
    have HU1 := Lib.hid (hu1 w)
    have HU2 := Lib.hid hu2
    have hki : (m : Int) - (r.length : Int) = (k : Int) := by omega
    have HKI := Lib.hid hki
    have hkn : k ≤ n := by omega
    obtain ⟨rn, hrn⟩ : ∃ rn, rn = r.length := ⟨_, rfl⟩
    have HUA := Lib.hid hu1
    clear htk hten hs hm2 hml hm h hn hu1 hu2 hd e1 h1 hki
    go_enter Tryd.func43, Tryd.ntmps43
    go_wp2_with fail
    refine HTK.out.mono ?_
    rintro e w1 ⟨A4, c4, rfl, g1, g2, g3, g4, hb1⟩
    dsimp only
    have HB1 := Lib.hid hb1
    have hki2 : (m : Int) - (rn : Int) = (k : Int) := by rw [hrn]; exact HKI.out
    rw [← hrn] at g1 g2 ⊢
    have hsl := HUA.out
    clear hb1 g4 hk hrn hrm g1
    go_wp2
    go_quiet (fail)
    go_wp2
    go_ret3
    rw [HTE.out]
    exact ⟨u, rfl, HU2.out, Go.below_drewN HB1.out _⟩
end Go.Proofs.YtocodcceimeiiaaDoor

/- wire's own contracts: Put. -/



namespace Go.Proofs.YtocodcceimeiiaaDoor

open Go.RowKit Go.ChangeShapes Go.WideShapes Go.ChangeAt

theorem u64_or2 {t H : Int} (h0 : 1 ≤ t) (h1 : t ≤ 100) (hH : H = 8 * t) : bits .or .u64 H 2 = 8 * t + 2 := by
  subst hH
  obtain ⟨n, rfl⟩ := Int.eq_ofNat_of_zero_le (show 0 ≤ t by omega)
  rw [u64_or _ _ (by omega) (by omega) (by omega) (by omega), show (8 * (n : Int)).toNat = 8 * n by omega, show ((2 : Int)).toNat = 2 from rfl, nat_join 3 (8 * n) 2 (by omega) (by omega)]
  omega
theorem u64_or0 {H : Int} (h0 : 0 ≤ H) (h1 : H < 18446744073709551616) : bits .or .u64 H 0 = H := by
  rw [u64_or _ _ (by omega) (by omega) (by omega) (by omega), show ((0 : Int)).toNat = 0 from rfl, Nat.or_zero]
  omega
theorem two_nums (a b : Nat) : fnums [a, b] = vput a ++ vput b := by simp [fnums]
/-- A block of another type stays where a row of the call's own grows. -/
theorem row_grownF {w w' : World} {g base s k : Nat} {t e : TypeId} {cs ys : List Value} {ov : Value} (h : Row w g t cs) (ho : w.ownsRow base e s ov k ys) (hne : t ≠ e) (hg : w.grownBy w' ov.ownBlock) : Row w' g t cs := by
  refine (hg.block g h.lt fun he => ?_).trans h
  rcases ho.2 with ⟨h1, _⟩ | ⟨g2, cap, cur, h1, _, hg2, _⟩
  · rw [h1] at he; cases he
  · rw [h1] at he
    injection he with he
    dsimp only at he
    have h2 : w.heap[g]? = some (.cells cs.toArray t (0, 0)) := h
    rw [he, hg2] at h2
    injection h2 with h2
    injection h2 with _ h3
    exact hne h3.symm
def FOPutRel (l : List FN) (w : World) (out i : Value) (wr : World) : Prop := ∃ k : Nat, k ≤ l.length ∧ i = .int .i64 (k : Int) ∧ (∀ f ∈ l.take k, ftag f.wf) ∧ wr.ownsRow w.heap.size 5 1 out (fbs (l.take k)).length ((fbs (l.take k)).map bv) ∧ Below w.heap.size w wr
set_option maxHeartbeats 4000000 in
set_option maxRecDepth 100000 in
theorem fput_own (l : List FN) (v : Value) (w : World) (h : IsFields l v w) (hl : l.length ≤ 200) :
    Calls Tryd.prog 18 #[v] w (RetEO w (fputP l)) := by
  obtain ⟨A, n, c, rfl⟩ := h.1.shape
  have HF := Lib.hid h
  have HN := Lib.hid h.1.parts.1
  have hn2 : (n : Int) ≤ 200 := by have := HN.out; omega
  have HST : Hid (FOPutRel l w (.slice none 0 0) (.int .i64 0) w) := Lib.hid ⟨0, Nat.zero_le _, rfl, by simp, World.ownsRow_nil _ _ _ _, Below.refl _ _⟩
  clear h
  go_enter Tryd.func18, Tryd.ntmps18
  go_wp2
  go_loopw [4, 10] (FOPutRel l w) (fun _ i _ => n - (intOf i).toNat)
  case atStart => exact HST.out
  case round =>
    obtain ⟨k, hk, rfl, htk, how, hbw⟩ := hrel
    clear HST
    by_cases hlt : k < n
    · have hlti : (k : Int) < (n : Int) := by omega
      have hkl : k < l.length := by have := HN.out; omega
      obtain ⟨ad, rfl, had, hcell⟩ := ((HF.out.below hbw).1).at (m := 4) (fun _ => rfl) (by omega) hkl
      have hat := HF.out.2 _ (List.getElem_mem hkl)
      have hsn := fbs_snoc hkl
      have hbl : (fbs (l.take k)).length ≤ 804000 := by
        have h1 := fbs_len (w := wr) (l := l.take k) fun f hf => ⟨(HF.out.below hbw).2 f (List.mem_of_mem_take hf), htk f hf⟩
        rw [List.length_take] at h1
        have h2 : min k l.length * 4020 ≤ 200 * 4020 := Nat.mul_le_mul_right _ (by omega)
        omega
      have hno : ¬ ftag l[k].wf → fputP l = ([], 1) := fputP_no hkl
      have hta : ftag l[k].wf → ∀ f ∈ l.take (k + 1), ftag f.wf := fun ht f hf => by
        rw [List.take_succ_eq_append_getElem hkl] at hf
        rcases List.mem_append.1 hf with hf | hf
        · exact htk f hf
        · rw [List.mem_singleton.1 hf]; exact ht
      obtain ⟨x, hx⟩ : ∃ x, x = l[k] := ⟨_, rfl⟩
      rw [← hx] at hcell hat hsn hno hta
      obtain ⟨c0, c1, c2, c3⟩ := cells4 hcell
      obtain ⟨tag, bytes, nn, bs, lv⟩ := x
      obtain ⟨bA, bc, e, h5A, _, _, h5L⟩ := hat.byt
      dsimp only at c0 c1 c2 c3 e h5A h5L
      subst e
      have HBA := Lib.hid h5A
      have HBS := Lib.hid h5L
      have hbs := hat.len
      have hbn := hat.n
      dsimp only at hbs hbn
      have HSN := Lib.hid hsn
      have HNO := Lib.hid hno
      have HTA := Lib.hid hta
      have HOW := Lib.hid how
      have HBW := Lib.hid hbw
      have HKL := Lib.hid hkl
      have HBL := Lib.hid hbl
      have htg := hat.tag
      clear hcell hat hsn hno hta how hbw hkl hbl hx had htk h5A h5L hk
      dsimp only at htg
      by_cases h1 : tag < 1
      · skip
        go_wp2
        go_ret2
        rw [HNO.out (fun ⟨a, b⟩ => by dsimp only [FN.wf] at a b; omega)]
        exact RetEO.nil _ (below_then HBW.out ((Below.refl _ _).alloc (Nat.le_refl _) _))
      · by_cases h2 : 100 < tag
        · skip
          go_wp2
          go_ret2
          rw [HNO.out (fun ⟨a, b⟩ => by dsimp only [FN.wf] at a b; omega)]
          exact RetEO.nil _ (below_then HBW.out ((Below.refl _ _).alloc (Nat.le_refl _) _))
        · have HFT := Lib.hid (HTA.out ⟨by dsimp only [FN.wf]; omega, by dsimp only [FN.wf]; omega⟩)
          obtain ⟨T, rfl⟩ := Int.eq_ofNat_of_zero_le (show 0 ≤ tag by omega)
          cases bytes with
          | true =>
            obtain ⟨W1, hW1⟩ : ∃ x, x = wr.alloc (.cells #[.int .i64 (T : Int), .bool true, .int .u64 (nn : Int), .slice bA bs.length bc] 49) := ⟨_, rfl⟩
            have hb0 : Below wr.heap.size wr W1 := by rw [hW1]; exact (Below.refl _ _).alloc (Nat.le_refl _) _
            have HR1 := Lib.hid (show Row W1 wr.heap.size 49 [.int .i64 (T : Int), .bool true, .int .u64 (nn : Int), .slice bA bs.length bc] by rw [hW1]; exact heap_alloc_new wr _)
            have hor := u64_or2 (t := (T : Int)) (H := (T : Int) * 8) (by omega) (by omega) (by omega)
            obtain ⟨K, hK⟩ : ∃ K : Nat, K = 8 * T + 2 := ⟨_, rfl⟩
            rw [show 8 * (T : Int) + 2 = (K : Int) by omega] at hor
            have HNM := Lib.hid (fun (W : World) => fnumbers_any [K, bs.length] (.slice (some ⟨W.heap.size, 0, none⟩) 2 2) (W.alloc (.cells #[.int .u64 (K : Int), .int .u64 (bs.length : Int)] 47)) (isV_new uv W 47 [K, bs.length] 2 rfl (by omega)) (by simp) (by intro x hx; simp at hx; omega))
            have HKT := Lib.hid hK
            have hK0 : 10 ≤ K := by omega
            have hK1 : K ≤ 802 := by omega
            have HO1 := Lib.hid (own_below HOW.out hb0)
            have HB1 := Lib.hid (below_then HBW.out hb0)
            have hbl := HBL.out
            have HV := Lib.hid (show (fnums [K, bs.length]).length ≤ 20 by
              rw [two_nums, List.length_append]
              have hv1 := vput_len_10 (x := K) (by omega)
              have hv2 := vput_len_10 (x := bs.length) (by omega)
              omega)
            have HSE := Lib.hid (show fbs (l.take (k + 1)) = fbs (l.take k) ++ fnums [K, bs.length] ++ bs by
              rw [HSN.out, fput1_byt rfl, two_nums]
              dsimp only [FN.wf]
              rw [show (8 * (T : Int) + 2).toNat = K by omega]
              simp only [List.append_assoc])
            clear hb0 hK
            subst hW1
            go_wp2_with fail
            clear c0 c1 c2 c3
            have hnm := HNM.out (wr.alloc (.cells #[.int .i64 (T : Int), .bool true, .int .u64 (nn : Int), .slice bA bs.length bc] 49))
            rw [show (wr.alloc (.cells #[.int .i64 (T : Int), .bool true, .int .u64 (nn : Int), .slice bA bs.length bc] 49)).heap.size = wr.heap.size + 1 by simp] at hnm
            refine hnm.mono ?_
            rintro e w2 ⟨v2, rfl, ho2, hb2⟩
            have hbX : Below wr.heap.size wr ((wr.alloc (.cells #[.int .i64 (T : Int), .bool true, .int .u64 (nn : Int), .slice bA bs.length bc] 49)).alloc (.cells #[.int .u64 (K : Int), .int .u64 (bs.length : Int)] 47)) := ((Below.refl _ _).alloc (Nat.le_refl _) _).alloc (by simp) _
            have hb2' := below_then hbX hb2
            have HB2 := Lib.hid (below_then HBW.out hb2')
            have HO2 := Lib.hid (own_below HOW.out hb2')
            have HR2 := Lib.hid (((HR1.out.alloc _).below hb2 (by simp; omega)) : Row w2 wr.heap.size 49 [.int .i64 (T : Int), .bool true, .int .u64 (nn : Int), .slice bA bs.length bc])
            obtain ⟨NB, hNB⟩ : ∃ NB, NB = fnums [K, bs.length] := ⟨_, rfl⟩
            rw [← hNB] at ho2 HSE HV
            obtain ⟨vA, vc, hve, hvA, hvc, hvm, hvl⟩ := isB_own ho2
            have hvn := HV.out
            have hz2 := HB2.out.size
            have hj1 : (fbs (l.take k)).length + NB.length ≤ 1000000000 := by omega
            clear ho2 hb2 hbX hb2' hNB
            subst hve
            have ho := HO2.out
            have hbw2 := HB2.out
            go_wp2_with (at_builtin; refine wpList_join elemB rfl _ _ rfl w.heap.size _ _ _ vA NB.length vc (NB.map bv) w rfl rfl hvA (by simp) hvl (bv_one NB) ho hbw2 hz2 hj1 (by omega) ?_)
            intro v3 w3 ho3 hb3 hg3 _
            have hr3 : Row w3 wr.heap.size 49 [.int .i64 (T : Int), .bool true, .int .u64 (nn : Int), .slice bA bs.length bc] := row_grownF HR2.out ho (by decide) hg3
            have e3 := hr3.cell 3
            have HR3 := Lib.hid hr3
            have hl3 := HBS.out.below hb3
            have hA3 := HBA.out
            have hz3 := hb3.size
            have hj2 : (fbs (l.take k)).length + NB.length + bs.length ≤ 1000000000 := by omega
            have ho3' : w3.ownsRow w.heap.size 5 1 v3 ((fbs (l.take k)).length + NB.length) ((fbs (l.take k)).map bv ++ NB.map bv) := ho3
            clear hr3 hg3 ho hbw2 hvl hvA hvc ho3 hj1
            go_wp2_with (at_builtin; refine wpList_join elemB rfl _ _ rfl w.heap.size _ _ _ bA bs.length bc (bs.map bv) w rfl rfl hA3 (by simp) hl3 (bv_one bs) ho3' hb3 hz3 hj2 (by omega) ?_)
            intro v4 w4 ho4 hb4 _ _
            have HREL := Lib.hid (show FOPutRel l w v4 (.int .i64 ((k + 1 : Nat) : Int)) w4 from ⟨k + 1, HKL.out, rfl, HFT.out, by
              rw [HSE.out, List.length_append, List.length_append, List.map_append, List.map_append, List.append_assoc]
              simpa only [List.append_assoc] using ho4, hb4⟩)
            clear ho4 hb4 hl3 hA3 ho3' hb3 e3
            go_wp2
            go_roundw
            case rel => exact HREL.out
            case measure => simp [intOf]; omega
          | false =>
            obtain ⟨W1, hW1⟩ : ∃ x, x = wr.alloc (.cells #[.int .i64 (T : Int), .bool false, .int .u64 (nn : Int), .slice bA bs.length bc] 49) := ⟨_, rfl⟩
            have hb0 : Below wr.heap.size wr W1 := by rw [hW1]; exact (Below.refl _ _).alloc (Nat.le_refl _) _
            have hor := u64_or0 (H := (T : Int) * 8) (by omega) (by omega)
            obtain ⟨K, hK⟩ : ∃ K : Nat, K = 8 * T := ⟨_, rfl⟩
            rw [show (T : Int) * 8 = (K : Int) by omega] at hor
            have HNM := Lib.hid (fun (W : World) => fnumbers_any [K, nn] (.slice (some ⟨W.heap.size, 0, none⟩) 2 2) (W.alloc (.cells #[.int .u64 (K : Int), .int .u64 (nn : Int)] 47)) (isV_new uv W 47 [K, nn] 2 rfl (by omega)) (by simp) (by intro x hx; simp at hx; omega))
            have HT8 := Lib.hid (show (T : Int) * 8 = (K : Int) by omega)
            have hK1 : K ≤ 802 := by omega
            have hbl := HBL.out
            have HV := Lib.hid (show (fnums [K, nn]).length ≤ 20 by
              rw [two_nums, List.length_append]
              have hv1 := vput_len_10 (x := K) (by omega)
              have hv2 := vput_len_10 (x := nn) (by omega)
              omega)
            have HSE := Lib.hid (show fbs (l.take (k + 1)) = fbs (l.take k) ++ fnums [K, nn] by
              rw [HSN.out, fput1_num rfl, two_nums]
              dsimp only [FN.wf]
              rw [show (8 * (T : Int)).toNat = K by omega])
            have hT8 := HT8.out
            clear hb0 hK
            subst hW1
            go_wp2_with fail
            clear c0 c1 c2 c3 hT8
            have hnm := HNM.out (wr.alloc (.cells #[.int .i64 (T : Int), .bool false, .int .u64 (nn : Int), .slice bA bs.length bc] 49))
            rw [show (wr.alloc (.cells #[.int .i64 (T : Int), .bool false, .int .u64 (nn : Int), .slice bA bs.length bc] 49)).heap.size = wr.heap.size + 1 by simp] at hnm
            refine hnm.mono ?_
            rintro e w2 ⟨v2, rfl, ho2, hb2⟩
            have hbX : Below wr.heap.size wr ((wr.alloc (.cells #[.int .i64 (T : Int), .bool false, .int .u64 (nn : Int), .slice bA bs.length bc] 49)).alloc (.cells #[.int .u64 (K : Int), .int .u64 (nn : Int)] 47)) := ((Below.refl _ _).alloc (Nat.le_refl _) _).alloc (by simp) _
            have hb2' := below_then hbX hb2
            have HB2 := Lib.hid (below_then HBW.out hb2')
            have HO2 := Lib.hid (own_below HOW.out hb2')
            obtain ⟨NB, hNB⟩ : ∃ NB, NB = fnums [K, nn] := ⟨_, rfl⟩
            rw [← hNB] at ho2 HSE HV
            obtain ⟨vA, vc, hve, hvA, hvc, hvm, hvl⟩ := isB_own ho2
            have hvn := HV.out
            have hz2 := HB2.out.size
            have hj1 : (fbs (l.take k)).length + NB.length ≤ 1000000000 := by omega
            clear ho2 hb2 hbX hb2' hNB hnm
            subst hve
            have ho := HO2.out
            have hbw2 := HB2.out
            go_wp2_with (at_builtin; refine wpList_join elemB rfl _ _ rfl w.heap.size _ _ _ vA NB.length vc (NB.map bv) w rfl rfl hvA (by simp) hvl (bv_one NB) ho hbw2 hz2 hj1 (by omega) ?_)
            intro v4 w4 ho4 hb4 _ _
            have HREL := Lib.hid (show FOPutRel l w v4 (.int .i64 ((k + 1 : Nat) : Int)) w4 from ⟨k + 1, HKL.out, rfl, HFT.out, by
              rw [HSE.out]
              simp only [List.map_append, List.length_append] at ho4 ⊢
              exact ho4, hb4⟩)
            clear ho4 hb4 ho hbw2 hvl hvA hvc hj1
            go_wp2
            go_roundw
            case rel => exact HREL.out
            case measure => simp [intOf]; omega
    · have hlti : ¬ (k : Int) < (n : Int) := by omega
      obtain rfl : k = l.length := by have := HN.out; omega
      rw [List.take_length] at htk how
      have HR := Lib.hid (show RetEO w (fputP l) (.returned (.tuple #[u4, .int .i64 0])) wr by rw [fputP_ok htk]; exact ⟨_, rfl, how, hbw⟩)
      clear htk how hbw
      go_wp2
      go_ret2
      exact HR.out
end Go.Proofs.YtocodcceimeiiaaDoor
