/- Texts that the claims of this seat share, part 10: Utf KMay1 KOpen UDoor KMayO WOpen KOpenS NPlain NRef NRTake ISign IPos IPlain IThree IRef IRTake IDoor IOwn ITimes IIs. -/
import Derived.Shelf.Unicode.ValidAny
import Derived.Lib.LaidU8T
import Derived.PinnedBridge
import Derived.Test.YtlibofmpnlfelaaGreatDoorProg
import Derived.Lib.SmallJoins
import Derived.Test.YtlibofmpnlfelaaGreatDoorTie
import Derived.Test.YtlibofmpnlfelaaGreatDoorCards
import Derived.SevenTiedAt
import Derived.Stop.Joined
import Derived.Lay
import Derived.LaidOnce
import Derived.Lib.ValidLaws
import Derived.Lib.OthersKept
import Derived.Deep.Slices
import Derived.Test.YtlibofmpnlfelaaGreatDoorAG9
/- utf8.ValidString's contract, laid at this program; its two tables out of what a seat's rows list. -/









namespace Go.Proofs

open Go.Shelf Go.Lib Go.RowKit
def Tryz.lays196_ren : Go.Shelf.Ren := ⟨fun | 196 => 41 | 259 => 65 | n => n, fun | 0 => 0 | 3 => 3 | 4 => 4 | 5 => 5 | 9 => 9 | 12 => 12 | 46 => 91 | 53 => 119 | 119 => 87 | 138 => 89 | 139 => 90 | n => n, fun | 3 => 0 | 4 => 1 | n => n⟩
theorem Tryz.lays196 : Lays.n196 Tryz.prog Tryz.lays196_ren := {
  mixed := by kernel_rfl
  f196 := Tryz.func41.trans (congrArg some (by kernel_rfl))
  f259 := Tryz.func65.trans (congrArg some (by kernel_rfl))
  t0 := Tryz.underlying0
  a0 := Tryz.isAgg0
  z0 := Tryz.sizeOf0
  v0 := Tryz.zeroValue0
  t3 := Tryz.underlying3
  a3 := Tryz.isAgg3
  z3 := Tryz.sizeOf3
  v3 := Tryz.zeroValue3
  t4 := Tryz.underlying4
  a4 := Tryz.isAgg4
  z4 := Tryz.sizeOf4
  v4 := Tryz.zeroValue4
  t5 := Tryz.underlying5
  a5 := Tryz.isAgg5
  z5 := Tryz.sizeOf5
  v5 := Tryz.zeroValue5
  t9 := Tryz.underlying9
  a9 := Tryz.isAgg9
  z9 := Tryz.sizeOf9
  v9 := Tryz.zeroValue9
  t12 := Tryz.underlying12
  a12 := Tryz.isAgg12
  z12 := Tryz.sizeOf12
  v12 := Tryz.zeroValue12
  t46 := Tryz.underlying91
  a46 := Tryz.isAgg91
  z46 := Tryz.sizeOf91
  v46 := Tryz.zeroValue91
  t53 := Tryz.underlying119
  a53 := Tryz.isAgg119
  z53 := Tryz.sizeOf119
  v53 := Tryz.zeroValue119
  t119 := Tryz.underlying87
  a119 := Tryz.isAgg87
  z119 := Tryz.sizeOf87
  t138 := Tryz.underlying89
  a138 := Tryz.isAgg89
  z138 := Tryz.sizeOf89
  v138 := Tryz.zeroValue89
  t139 := Tryz.underlying90
  a139 := Tryz.isAgg90
  z139 := Tryz.sizeOf90
  v139 := Tryz.zeroValue90
  g3 := by kernel_rfl
  g4 := by kernel_rfl }
theorem Tryz.u8extra : U8Extra Tryz.prog Tryz.lays196_ren := {
  n3 := by kernel_rfl
  n4 := by kernel_rfl
  y3 := by kernel_rfl
  y4 := by kernel_rfl
  c5 := by kernel_rfl
  c119 := by kernel_rfl
  c138 := by kernel_rfl }
/-- The two tables lie as their initialisers lay them. -/
def Tryz.U8 (w : World) : Prop := Lib.Utf8Tabs 0 1 w
theorem Tryz.validString (s : ByteArray) (w : World) (hs : s.size ≤ 9223372036854775807) (hT : Tryz.U8 w) :
    Calls Tryz.prog 41 #[.string s] w fun e w' => e = .returned (.bool (Lib.validD s.data.toList)) ∧ Below w.heap.size w w' := Any.utf8_ValidString Tryz.lays196 s w hs hT
end Go.Proofs

/- Contracts of layer 12's reference: Number and May. -/





namespace Go.Proofs.YtlibofmpnlfelaaGreatDoor

open Go.RowKit

def knumber (k : Int) : Bool := decide (1 ≤ k) && decide (k ≤ 5)
def kmay (k : Int) (v : CV) : Bool :=
  if (decide (k < 1) || decide (7 < k)) = true then false
  else if v.null = true then (v.n == 0) && (v.s.toList == [])
  else if decide (k ≤ 5) = true then (v.s.toList == []) && (((k != 1) || (v.n == 0)) || (v.n == 1))
  else ((v.n == 0) && decide ((v.s.size : Int) ≤ 300)) && ((k == 7) || Lib.validD v.s.data.toList)
/-- The same, of its tests. -/
def kmayB (c1 c2 b n0 s0 c5 k1 n1 len k7 v : Bool) : Bool :=
  bif c1 || c2 then false else bif b then n0 && s0 else bif c5 then s0 && ((k1 || n0) || n1) else (n0 && len) && (k7 || v)
theorem kmay_of (k : Int) (b : Bool) (n : Int) (s : ByteArray) : kmay k ⟨b, n, s⟩ = kmayB (decide (k < 1)) (decide (7 < k)) b (n == 0) (s.toList == []) (decide (k ≤ 5)) (k != 1) (n == 1) (decide ((s.size : Int) ≤ 300)) (k == 7) (Lib.validD s.data.toList) := by
  unfold kmay kmayB
  simp only [cond_eq_ite]
theorem rnumber12_any (k : Int) (w : World) : Calls Tryz.prog 20 #[.int .i64 k] w fun e w' => e = .returned (.bool (knumber k)) ∧ w = w' := by
  have HK : Hid (knumber k = (decide (1 ≤ k) && decide (k ≤ 5))) := Lib.hid rfl
  cases c1 : decide (1 ≤ k)
  · rw [c1] at HK
    go_enter Tryz.func20, Tryz.ntmps20
    go_wp2
    go_ret
    exact ⟨by rw [HK.out]; rfl, rfl⟩
  · cases c2 : decide (k ≤ 5)
    all_goals
      rw [c1, c2] at HK
      go_enter Tryz.func20, Tryz.ntmps20
      go_wp2
      go_ret
      exact ⟨by rw [HK.out]; rfl, rfl⟩
set_option maxHeartbeats 2000000 in
set_option maxRecDepth 100000 in
theorem rmay12_any (k : Int) (v : CV) (w : World) (hU : Tryz.U8 w) (hs : v.s.size ≤ maxLen) :
    Calls Tryz.prog 21 #[.int .i64 k, cv v] w fun e w' => e = .returned (.bool (kmay k v)) ∧ Below w.heap.size w w' := by
  obtain ⟨b, n, s⟩ := v
  dsimp only at hs
  have hsi : s.size ≤ 9223372036854775807 := by unfold maxLen at hs; omega
  have HVS := Lib.hid (fun W (h : Tryz.U8 W) => Tryz.validString s W hsi h)
  have hA : Row (w.alloc (.cells #[.bool b, .int .i64 n, .string s] 36)) w.heap.size 36 [.bool b, .int .i64 n, .string s] := heap_alloc_new w _
  have hb : Below w.heap.size w (w.alloc (.cells #[.bool b, .int .i64 n, .string s] 36)) := (Below.refl _ _).alloc (Nat.le_refl _) _
  have HU := Lib.hid (show Tryz.U8 _ from Utf8Tabs_below hU hb)
  have HBE := Lib.hid hb
  have a0 := hA.cell 0
  have a1 := hA.cell 1
  have a2 := hA.cell 2
  have HK0 := kmay_of k b n s
  clear hA hb hs hsi hU
  unfold cv
  cases c1 : decide (k < 1)
  · cases c2 : decide (7 < k)
    · cases b
      · cases c5 : decide (k ≤ 5)
        · cases n0 : (n == 0)
          · rw [c1, c2, c5, n0] at HK0
            have HK := Lib.hid HK0
            clear HK0
            go_enter Tryz.func21, Tryz.ntmps21
            go_wp2
            go_ret
            exact ⟨by rw [HK.out]; rfl, HBE.out⟩
          · cases len : decide ((s.size : Int) ≤ 300)
            · rw [c1, c2, c5, n0, len] at HK0
              have HK := Lib.hid HK0
              clear HK0
              go_enter Tryz.func21, Tryz.ntmps21
              go_wp2
              go_ret
              exact ⟨by rw [HK.out]; rfl, HBE.out⟩
            · cases k7 : (k == 7)
              · rw [c1, c2, c5, n0, len, k7] at HK0
                have HK := Lib.hid HK0
                clear HK0
                go_enter Tryz.func21, Tryz.ntmps21
                go_wp2_with (go_at_call 41; refine (HVS.out _ HU.out).mono ?_)
                rintro e w2 ⟨rfl, hb2⟩
                have HB2 := Lib.hid (below_then HBE.out hb2)
                clear hb2
                go_wp2
                go_ret
                exact ⟨by rw [HK.out]; rfl, HB2.out⟩
              · rw [c1, c2, c5, n0, len, k7] at HK0
                have HK := Lib.hid HK0
                clear HK0
                go_enter Tryz.func21, Tryz.ntmps21
                go_wp2
                go_ret
                exact ⟨by rw [HK.out]; rfl, HBE.out⟩
        · cases s0 : (s.toList == [])
          · rw [c1, c2, c5, s0] at HK0
            have HK := Lib.hid HK0
            clear HK0
            go_enter Tryz.func21, Tryz.ntmps21
            go_wp2
            go_ret
            exact ⟨by rw [HK.out]; rfl, HBE.out⟩
          · cases k1 : (k != 1)
            · cases n0 : (n == 0)
              · cases n1 : (n == 1)
                · rw [c1, c2, c5, s0, k1, n0, n1] at HK0
                  have HK := Lib.hid HK0
                  clear HK0
                  go_enter Tryz.func21, Tryz.ntmps21
                  go_wp2
                  go_ret
                  exact ⟨by rw [HK.out]; rfl, HBE.out⟩
                · rw [c1, c2, c5, s0, k1, n0, n1] at HK0
                  have HK := Lib.hid HK0
                  clear HK0
                  go_enter Tryz.func21, Tryz.ntmps21
                  go_wp2
                  go_ret
                  exact ⟨by rw [HK.out]; rfl, HBE.out⟩
              · rw [c1, c2, c5, s0, k1, n0] at HK0
                have HK := Lib.hid HK0
                clear HK0
                go_enter Tryz.func21, Tryz.ntmps21
                go_wp2
                go_ret
                exact ⟨by rw [HK.out]; rfl, HBE.out⟩
            · rw [c1, c2, c5, s0, k1] at HK0
              have HK := Lib.hid HK0
              clear HK0
              go_enter Tryz.func21, Tryz.ntmps21
              go_wp2
              go_ret
              exact ⟨by rw [HK.out]; rfl, HBE.out⟩
      · cases n0 : (n == 0)
        · rw [c1, c2, n0] at HK0
          have HK := Lib.hid HK0
          clear HK0
          go_enter Tryz.func21, Tryz.ntmps21
          go_wp2
          go_ret
          exact ⟨by rw [HK.out]; rfl, HBE.out⟩
        · cases s0 : (s.toList == [])
          · rw [c1, c2, n0, s0] at HK0
            have HK := Lib.hid HK0
            clear HK0
            go_enter Tryz.func21, Tryz.ntmps21
            go_wp2
            go_ret
            exact ⟨by rw [HK.out]; rfl, HBE.out⟩
          · rw [c1, c2, n0, s0] at HK0
            have HK := Lib.hid HK0
            clear HK0
            go_enter Tryz.func21, Tryz.ntmps21
            go_wp2
            go_ret
            exact ⟨by rw [HK.out]; rfl, HBE.out⟩
    · rw [c1, c2] at HK0
      have HK := Lib.hid HK0
      clear HK0
      go_enter Tryz.func21, Tryz.ntmps21
      go_wp2
      go_ret
      exact ⟨by rw [HK.out]; rfl, HBE.out⟩
  · rw [c1] at HK0
    have HK := Lib.hid HK0
    clear HK0
    go_enter Tryz.func21, Tryz.ntmps21
    go_wp2
    go_ret
    exact ⟨by rw [HK.out]; rfl, HBE.out⟩
end Go.Proofs.YtlibofmpnlfelaaGreatDoor

/- A value (a struct of a truth, a number, a text) that comes in. -/







namespace Go.Proofs.YtlibofmpnlfelaaGreatDoor

open Go.RowKit

end Go.Proofs.YtlibofmpnlfelaaGreatDoor

/- utf8's two tables out of what a seat's rows list. (For seats whose rows list these two alone.) -/



















namespace Go.Proofs.YtlibofmpnlfelaaGreatDoor

open Go.Lib Go.RowKit Go.ChangeShapes Go.WideShapes Go.ChangeAt

end Go.Proofs.YtlibofmpnlfelaaGreatDoor

/- The program's contracts of layer 12: Number, known, right, May. -/









namespace Go.Proofs.YtlibofmpnlfelaaGreatDoor

open Go.RowKit

theorem knumber_own (k : Int) (w : World) : Calls Tryz.prog 13 #[.int .i64 k] w fun e w' => e = .returned (.bool (knumber k)) ∧ w = w' := by
  have HK : Hid (knumber k = (decide (1 ≤ k) && decide (k ≤ 5))) := Lib.hid rfl
  cases c1 : decide (1 ≤ k)
  · rw [c1] at HK
    go_enter Tryz.func13, Tryz.ntmps13
    go_wp2
    go_ret
    exact ⟨by rw [HK.out]; rfl, rfl⟩
  · cases c2 : decide (k ≤ 5)
    all_goals
      rw [c1, c2] at HK
      go_enter Tryz.func13, Tryz.ntmps13
      go_wp2
      go_ret
      exact ⟨by rw [HK.out]; rfl, rfl⟩
/-- Whether there are columns of that kind. -/
def kknown (k : Int) : Bool := (knumber k || (k == 6)) || (k == 7)
theorem kknown_iff (k : Int) : kknown k = true ↔ 1 ≤ k ∧ k ≤ 7 := by
  unfold kknown knumber
  simp only [Bool.or_eq_true, Bool.and_eq_true, decide_eq_true_eq, beq_iff_eq]
  omega
theorem kknown_any (k : Int) (w : World) : Calls Tryz.prog 32 #[.int .i64 k] w fun e w' => e = .returned (.bool (kknown k)) ∧ w = w' := by
  have HK : Hid (kknown k = ((knumber k || (k == 6)) || (k == 7))) := Lib.hid rfl
  have HN := Lib.hid (fun W => knumber_own k W)
  cases c1 : knumber k
  · rw [c1] at HK HN
    clear c1
    cases c2 : (k == 6)
    all_goals
      rw [c2] at HK
      go_enter Tryz.func32, Tryz.ntmps32
      go_wp2_with (go_at_call 13; refine (HN.out _).mono ?_)
      rintro e w' ⟨rfl, rfl⟩
      go_wp2
      go_ret
      exact ⟨by rw [HK.out]; rfl, rfl⟩
  · rw [c1] at HK HN
    clear c1
    go_enter Tryz.func32, Tryz.ntmps32
    go_wp2_with (go_at_call 13; refine (HN.out _).mono ?_)
    rintro e w' ⟨rfl, rfl⟩
    go_wp2
    go_ret
    exact ⟨by rw [HK.out]; rfl, rfl⟩
set_option maxRecDepth 100000 in
set_option maxHeartbeats 4000000 in
/-- U+FFFD is decoded out of its three bytes, or stands for what can't be read, which takes one byte. -/
theorem decodeN_fffd (n b0 b1 b2 b3 : Nat) (h0 : b0 < 256) (_h1 : b1 < 256) (_h2 : b2 < 256) (_h3 : b3 < 256) (h : (Lib.decodeN n b0 b1 b2 b3).1 = 65533) :
    ((Lib.decodeN n b0 b1 b2 b3).2 = 1 ∧ ¬ (3 ≤ n ∧ b0 = 239 ∧ b1 = 191 ∧ b2 = 189)) ∨ ((Lib.decodeN n b0 b1 b2 b3).2 = 3 ∧ 3 ≤ n ∧ b0 = 239 ∧ b1 = 191 ∧ b2 = 189) := by
  unfold Lib.decodeN at h ⊢
  repeat' split at h
  all_goals simp only [] at h
  all_goals first
    | (exfalso; omega)
    | (rw [if_neg (by omega), if_neg (by omega), if_pos (by omega), if_pos (by omega)]; right; simp only []; omega)
    | skip
  all_goals
    repeat' split
    all_goals first | (exfalso; omega) | (left; refine ⟨rfl, ?_⟩; omega) | (right; refine ⟨rfl, ?_⟩; omega)
theorem prefix3 (l : List UInt8) : Lib.hasPrefix l [239, 191, 189] = true ↔ 3 ≤ l.length ∧ (l.getD 0 0).toNat = 239 ∧ (l.getD 1 0).toNat = 191 ∧ (l.getD 2 0).toNat = 189 := by
  unfold Lib.hasPrefix
  rcases l with _ | ⟨a, _ | ⟨b, _ | ⟨c, l⟩⟩⟩
  · simp
  · simp
  · simp
  · simp only [List.isPrefixOf, List.getD_cons_zero, List.getD_cons_succ, List.length_cons, Bool.and_eq_true, beq_iff_eq, and_true]
    constructor
    · rintro ⟨rfl, rfl, rfl⟩
      exact ⟨by omega, rfl, rfl, rfl⟩
    · rintro ⟨-, h1, h2, h3⟩
      exact ⟨UInt8.toNat_inj.1 h1.symm, UInt8.toNat_inj.1 h2.symm, UInt8.toNat_inj.1 h3.symm⟩
/-- One step of reading a text, as the program takes it. -/
theorem valid_step (l : List UInt8) (hne : l ≠ []) : Lib.validD l = if (Lib.decodeL l).1 = 65533 ∧ Lib.hasPrefix l [239, 191, 189] = false then false else Lib.validD (l.drop (Lib.decodeL l).2) := by
  rw [Lib.validD_step l hne]
  by_cases h : (Lib.decodeL l).1 = 65533
  · have hd := Lib.decodeL_N l
    have h' := h
    rw [hd] at h'
    have key := decodeN_fffd _ _ _ _ _ (UInt8.toNat_lt _) (UInt8.toNat_lt _) (UInt8.toNat_lt _) (UInt8.toNat_lt _) h'
    rw [← hd] at key
    rcases key with ⟨k1, k2⟩ | ⟨k1, k2⟩
    · have : Lib.hasPrefix l [239, 191, 189] = false := by
        rw [← Bool.not_eq_true, prefix3]
        exact k2
      rw [if_pos ⟨h, k1⟩, if_pos ⟨h, this⟩]
    · have : Lib.hasPrefix l [239, 191, 189] = true := (prefix3 l).2 k2
      rw [if_neg (by rw [k1]; omega), if_neg (by rw [this]; simp)]
  · rw [if_neg (fun h2 => h h2.1), if_neg (fun h2 => h h2.1)]
/-- What a range over a text knows of its place. -/
def TextRel (s : ByteArray) (w wr : World) : Prop := ∃ pos : Nat, wr.heap[w.heap.size]? = some (.stringIter s pos) ∧ Lib.validD (s.data.toList.drop pos) = Lib.validD s.data.toList ∧ Below w.heap.size w wr
set_option maxHeartbeats 2000000 in
set_option maxRecDepth 100000 in
theorem kright_any (s : ByteArray) (w : World) (hs : s.size ≤ maxLen) : Calls Tryz.prog 33 #[.string s] w fun e w' => e = .returned (.bool (Lib.validD s.data.toList)) ∧ Below w.heap.size w w' := by
  have hsi : (s.size : Int) ≤ 9223372036854775807 := by unfold maxLen at hs; omega
  go_enter Tryz.func33, Tryz.ntmps33
  go_wp2
  go_loopw [] (TextRel s w) (fun wr => s.size - wr.iterPos w.heap.size)
  case atStart =>
    refine ⟨0, ?_, rfl, (Below.refl _ w).alloc (Nat.le_refl _) _⟩
    exact World.iter_heap w s 0
  case round =>
    obtain ⟨pos, hit, hv, hbw⟩ := hrel
    by_cases hp : pos < s.size
    · have hnx : ∀ ty, (Instr.next (.pointer (some ⟨w.heap.size, 0, none⟩)) true ty).run Tryz.prog wr = _ := fun ty => Lib.run_next_any_at wr w.heap.size s pos ty hit hp
      have hit2 := Lib.iterAt_heap wr w.heap.size s pos (pos + (Utf8.decode s pos).2) hit
      have hbw2 := Lib.below_iterAt hbw (k := w.heap.size) (Nat.le_refl _) s (pos + (Utf8.decode s pos).2)
      have hwd := Lib.width_pos s pos
      have hne : s.data.toList.drop pos ≠ [] := by
        intro h0
        have h1 := congrArg List.length h0
        rw [List.length_drop, ← Lib.size_eq] at h1
        simp at h1
        omega
      have hst := valid_step _ hne
      rw [Lib.decodeL_drop, List.drop_drop] at hst
      have hpi : (pos : Int) ≤ (s.size : Int) := by omega
      obtain ⟨r, hr⟩ : ∃ r, r = (Utf8.decode s pos).1 := ⟨_, rfl⟩
      obtain ⟨d, hd⟩ : ∃ d, d = (Utf8.decode s pos).2 := ⟨_, rfl⟩
      rw [← hr, ← hd] at hst
      rw [← hd] at hit2 hbw2 hwd
      simp only [← hr, ← hd] at hnx
      have HIT := Lib.hid hit
      have HIT2 := Lib.hid hit2
      have HB2 := Lib.hid hbw2
      have HV := Lib.hid hv
      have HD := Lib.hid hwd
      clear hr hd hne hit hit2 hbw hbw2 hv hwd
      by_cases h1 : r = 65533
      · subst h1
        have HP := Lib.hid (fun W => lprefix_any (s.extract pos s.size) ⟨#[239, 191, 189]⟩ W)
        rw [show (s.extract pos s.size).data.toList = s.data.toList.drop pos by rw [Lib.extract_data, List.take_of_length_le (by rw [List.length_drop, ← Lib.size_eq]; exact Nat.le_refl _)]] at HP
        change Hid (∀ W, Calls Tryz.prog 54 _ W fun e w' => e = .returned (.bool (Lib.hasPrefix (s.data.toList.drop pos) [239, 191, 189])) ∧ W = w') at HP
        cases hp2 : Lib.hasPrefix (s.data.toList.drop pos) [239, 191, 189]
        · rw [hp2] at HP
          rw [if_pos ⟨rfl, hp2⟩] at hst
          have HX := Lib.hid (HV.out.symm.trans hst)
          clear hst hp2
          go_wp2_with (go_at_call 54; refine (HP.out _).mono ?_; rintro e w' ⟨rfl, rfl⟩)
          go_ret
          exact ⟨by rw [HX.out]; rfl, HB2.out⟩
        · rw [hp2] at HP
          rw [if_neg (by rw [hp2]; simp)] at hst
          have HX := Lib.hid (hst.symm.trans HV.out)
          clear hst hp2
          go_wp2_with (go_at_call 54; refine (HP.out _).mono ?_; rintro e w' ⟨rfl, rfl⟩)
          go_roundw
          case rel => exact ⟨pos + d, HIT2.out, HX.out, HB2.out⟩
          case measure =>
            have := HD.out
            simp only [World.iterPos, HIT.out, HIT2.out]
            omega
      · have hrf : ((r : Int) == 65533) = false := by simp; omega
        rw [if_neg (fun h => h1 h.1)] at hst
        have HX := Lib.hid (hst.symm.trans HV.out)
        clear hst h1
        go_wp2
        go_roundw
        case rel => exact ⟨pos + d, HIT2.out, HX.out, HB2.out⟩
        case measure =>
          have := HD.out
          simp only [World.iterPos, HIT.out, HIT2.out]
          omega
    · have hnx : ∀ ty, (Instr.next (.pointer (some ⟨w.heap.size, 0, none⟩)) true ty).run Tryz.prog wr = _ := fun ty => Lib.run_next_end_at wr w.heap.size s pos ty hit hp
      have h0 : s.data.toList.drop pos = [] := List.drop_eq_nil_of_le (by rw [← Lib.size_eq]; omega)
      rw [h0] at hv
      have HV := Lib.hid hv
      have HB := Lib.hid hbw
      clear hv hbw h0
      go_wp2
      go_ret
      exact ⟨by rw [← HV.out]; rfl, HB.out⟩
/-- What the program asks of a value, of its tests. -/
def kmayP (kn b e1 nu n0 s0 n1 len k7 v : Bool) : Bool :=
  bif !kn then false else bif b then n0 && s0 else bif e1 then s0 && (n0 || n1) else bif nu then s0 else (n0 && len) && (k7 || v)
theorem kmay_own (k : Int) (b : Bool) (n : Int) (s : ByteArray) : kmay k ⟨b, n, s⟩ = kmayP (kknown k) b (k == 1) (knumber k) (n == 0) (s.toList == []) (n == 1) (decide ((s.size : Int) ≤ 300)) (k == 7) (Lib.validD s.data.toList) := by
  rw [kmay_of]
  unfold kmayB kmayP
  have h0 := kknown_iff k
  by_cases h1 : k < 1
  · rw [decide_eq_true h1, show kknown k = false by rw [← Bool.not_eq_true, h0]; omega]; rfl
  · by_cases h7 : 7 < k
    · rw [decide_eq_true h7, show kknown k = false by rw [← Bool.not_eq_true, h0]; omega, Bool.or_true]; rfl
    · rw [decide_eq_false h1, decide_eq_false h7, show kknown k = true from h0.2 (by omega)]
      by_cases h5 : k ≤ 5
      · rw [decide_eq_true h5, show knumber k = true by unfold knumber; rw [decide_eq_true h5, decide_eq_true (by omega)]; rfl]
        by_cases e : k = 1
        · subst e; cases b <;> simp
        · rw [show (k == 1) = false by simpa using e, show (k != 1) = true by simpa using e]
          cases b <;> simp
      · rw [decide_eq_false h5, show knumber k = false by unfold knumber; rw [decide_eq_false h5, Bool.and_false], show (k == 1) = false by simp; omega]
        cases b <;> simp
set_option maxHeartbeats 4000000 in
set_option maxRecDepth 100000 in
theorem kmay_any (k : Int) (v : CV) (w : World) (_hk : -9223372036854775808 ≤ k ∧ k ≤ 9223372036854775807) (_hv : v.inInt) (hs : v.s.size ≤ maxLen) : Calls Tryz.prog 16 #[.int .i64 k, cv v] w fun e w' => e = .returned (.bool (kmay k v)) ∧ Below w.heap.size w w' := by
  obtain ⟨b, n, s⟩ := v
  dsimp only at hs
  have HVS := Lib.hid (fun W => kright_any s W hs)
  have hA : Row (w.alloc (.cells #[.bool b, .int .i64 n, .string s] 36)) w.heap.size 36 [.bool b, .int .i64 n, .string s] := heap_alloc_new w _
  have hb : Below w.heap.size w (w.alloc (.cells #[.bool b, .int .i64 n, .string s] 36)) := (Below.refl _ _).alloc (Nat.le_refl _) _
  have HBE := Lib.hid hb
  have a0 := hA.cell 0
  have a1 := hA.cell 1
  have a2 := hA.cell 2
  have HK0 := kmay_own k b n s
  have HN1 := Lib.hid (fun W => kknown_any k W)
  have HN2 := Lib.hid (fun W => knumber_own k W)
  clear hA hb hs _hk _hv
  unfold cv
  cases kn : kknown k
  · rw [kn] at HK0
    have HK := Lib.hid HK0
    clear HK0
    rw [kn] at HN1
    clear kn
    go_enter Tryz.func16, Tryz.ntmps16
    go_wp2_with (first | (go_at_call 32; refine (HN1.out _).mono ?_; rintro e w' ⟨rfl, rfl⟩))
    go_ret
    exact ⟨by rw [HK.out]; rfl, HBE.out⟩
  · cases b
    · cases e1 : (k == 1)
      · cases nu : knumber k
        · cases n0 : (n == 0)
          · rw [kn, e1, nu, n0] at HK0
            have HK := Lib.hid HK0
            clear HK0
            rw [kn] at HN1
            clear kn
            rw [nu] at HN2
            clear nu
            go_enter Tryz.func16, Tryz.ntmps16
            go_wp2_with (first | (go_at_call 32; refine (HN1.out _).mono ?_; rintro e w' ⟨rfl, rfl⟩) | (go_at_call 13; refine (HN2.out _).mono ?_; rintro e w' ⟨rfl, rfl⟩))
            go_ret
            exact ⟨by rw [HK.out]; rfl, HBE.out⟩
          · cases len : decide ((s.size : Int) ≤ 300)
            · rw [kn, e1, nu, n0, len] at HK0
              have HK := Lib.hid HK0
              clear HK0
              rw [kn] at HN1
              clear kn
              rw [nu] at HN2
              clear nu
              go_enter Tryz.func16, Tryz.ntmps16
              go_wp2_with (first | (go_at_call 32; refine (HN1.out _).mono ?_; rintro e w' ⟨rfl, rfl⟩) | (go_at_call 13; refine (HN2.out _).mono ?_; rintro e w' ⟨rfl, rfl⟩))
              go_ret
              exact ⟨by rw [HK.out]; rfl, HBE.out⟩
            · cases k7 : (k == 7)
              · rw [kn, e1, nu, n0, len, k7] at HK0
                have HK := Lib.hid HK0
                clear HK0
                rw [kn] at HN1
                clear kn
                rw [nu] at HN2
                clear nu
                go_enter Tryz.func16, Tryz.ntmps16
                go_wp2_with (first | (go_at_call 32; refine (HN1.out _).mono ?_; rintro e w' ⟨rfl, rfl⟩) | (go_at_call 13; refine (HN2.out _).mono ?_; rintro e w' ⟨rfl, rfl⟩))
                refine (HVS.out _).mono ?_
                rintro e w2 ⟨rfl, hb2⟩
                have HB2 := Lib.hid (below_then HBE.out hb2)
                clear hb2
                go_wp2
                go_ret
                exact ⟨by rw [HK.out]; rfl, HB2.out⟩
              · rw [kn, e1, nu, n0, len, k7] at HK0
                have HK := Lib.hid HK0
                clear HK0
                rw [kn] at HN1
                clear kn
                rw [nu] at HN2
                clear nu
                go_enter Tryz.func16, Tryz.ntmps16
                go_wp2_with (first | (go_at_call 32; refine (HN1.out _).mono ?_; rintro e w' ⟨rfl, rfl⟩) | (go_at_call 13; refine (HN2.out _).mono ?_; rintro e w' ⟨rfl, rfl⟩))
                go_ret
                exact ⟨by rw [HK.out]; rfl, HBE.out⟩
        · cases s0 : (s.toList == [])
          · rw [kn, e1, nu, s0] at HK0
            have HK := Lib.hid HK0
            clear HK0
            rw [kn] at HN1
            clear kn
            rw [nu] at HN2
            clear nu
            go_enter Tryz.func16, Tryz.ntmps16
            go_wp2_with (first | (go_at_call 32; refine (HN1.out _).mono ?_; rintro e w' ⟨rfl, rfl⟩) | (go_at_call 13; refine (HN2.out _).mono ?_; rintro e w' ⟨rfl, rfl⟩))
            go_ret
            exact ⟨by rw [HK.out]; rfl, HBE.out⟩
          · rw [kn, e1, nu, s0] at HK0
            have HK := Lib.hid HK0
            clear HK0
            rw [kn] at HN1
            clear kn
            rw [nu] at HN2
            clear nu
            go_enter Tryz.func16, Tryz.ntmps16
            go_wp2_with (first | (go_at_call 32; refine (HN1.out _).mono ?_; rintro e w' ⟨rfl, rfl⟩) | (go_at_call 13; refine (HN2.out _).mono ?_; rintro e w' ⟨rfl, rfl⟩))
            go_ret
            exact ⟨by rw [HK.out]; rfl, HBE.out⟩
      · cases s0 : (s.toList == [])
        · rw [kn, e1, s0] at HK0
          have HK := Lib.hid HK0
          clear HK0
          rw [kn] at HN1
          clear kn
          go_enter Tryz.func16, Tryz.ntmps16
          go_wp2_with (first | (go_at_call 32; refine (HN1.out _).mono ?_; rintro e w' ⟨rfl, rfl⟩))
          go_ret
          exact ⟨by rw [HK.out]; rfl, HBE.out⟩
        · cases n0 : (n == 0)
          · cases n1 : (n == 1)
            · rw [kn, e1, s0, n0, n1] at HK0
              have HK := Lib.hid HK0
              clear HK0
              rw [kn] at HN1
              clear kn
              go_enter Tryz.func16, Tryz.ntmps16
              go_wp2_with (first | (go_at_call 32; refine (HN1.out _).mono ?_; rintro e w' ⟨rfl, rfl⟩))
              go_ret
              exact ⟨by rw [HK.out]; rfl, HBE.out⟩
            · rw [kn, e1, s0, n0, n1] at HK0
              have HK := Lib.hid HK0
              clear HK0
              rw [kn] at HN1
              clear kn
              go_enter Tryz.func16, Tryz.ntmps16
              go_wp2_with (first | (go_at_call 32; refine (HN1.out _).mono ?_; rintro e w' ⟨rfl, rfl⟩))
              go_ret
              exact ⟨by rw [HK.out]; rfl, HBE.out⟩
          · rw [kn, e1, s0, n0] at HK0
            have HK := Lib.hid HK0
            clear HK0
            rw [kn] at HN1
            clear kn
            go_enter Tryz.func16, Tryz.ntmps16
            go_wp2_with (first | (go_at_call 32; refine (HN1.out _).mono ?_; rintro e w' ⟨rfl, rfl⟩))
            go_ret
            exact ⟨by rw [HK.out]; rfl, HBE.out⟩
    · cases n0 : (n == 0)
      · rw [kn, n0] at HK0
        have HK := Lib.hid HK0
        clear HK0
        rw [kn] at HN1
        clear kn
        go_enter Tryz.func16, Tryz.ntmps16
        go_wp2_with (first | (go_at_call 32; refine (HN1.out _).mono ?_; rintro e w' ⟨rfl, rfl⟩))
        go_ret
        exact ⟨by rw [HK.out]; rfl, HBE.out⟩
      · cases s0 : (s.toList == [])
        · rw [kn, n0, s0] at HK0
          have HK := Lib.hid HK0
          clear HK0
          rw [kn] at HN1
          clear kn
          go_enter Tryz.func16, Tryz.ntmps16
          go_wp2_with (first | (go_at_call 32; refine (HN1.out _).mono ?_; rintro e w' ⟨rfl, rfl⟩))
          go_ret
          exact ⟨by rw [HK.out]; rfl, HBE.out⟩
        · rw [kn, n0, s0] at HK0
          have HK := Lib.hid HK0
          clear HK0
          rw [kn] at HN1
          clear kn
          go_enter Tryz.func16, Tryz.ntmps16
          go_wp2_with (first | (go_at_call 32; refine (HN1.out _).mono ?_; rintro e w' ⟨rfl, rfl⟩))
          go_ret
          exact ⟨by rw [HK.out]; rfl, HBE.out⟩
end Go.Proofs.YtlibofmpnlfelaaGreatDoor

/- Slices of values of several cells each, and what fields hold, that come in. Over any program. -/









namespace Go.Proofs.YtlibofmpnlfelaaGreatDoor

open Go.RowKit Go.ChangeShapes Go.WideShapes Go.Deep

/-- A slice, in a field, of values of several cells each; what each holds may lie elsewhere. -/
theorem open_wide0 {H : Type} {enc : TypeId × Value → H} {P : Program} {α : Type} [Inhabited α] {f : α → List Value} {m : Nat} {p : α → Prop} {t e : TypeId} {W : World} {v : Value} {y : DataW H × List MemPlace} {fuel : Nat}
    (ht : P.underlying t = some (.slice e)) (hc : P.cellsOf e = m) (hm : 0 < m) (hf : ∀ x, (f x).length = m)
    (each : ∀ cs n x, cs.length = m → DataW.trod enc P W 0 (fun _ => true) true n e cs = some x → (∀ q ∈ x.2, q.block < W.heap.size) → ∃ a : α, cs = f a ∧ p a)
    (hf0 : DataW.trod enc P W 0 (fun _ => true) true fuel t [v] = some y) (hlt : ∀ x ∈ y.2, x.block < W.heap.size) :
    ∃ l : List α, IsR f l v W ∧ ∀ x ∈ l, p x := by
  obtain ⟨d, ps⟩ := y
  rcases open_slice ht hf0 with ⟨hcs, hx⟩ | ⟨a, len, cap, k, n, D, Pl, hcs, _, hl, hmx, hk, hx, hcell⟩
  · simp at hcs
    subst hcs
    exact ⟨[], ⟨none, 0, rfl, by simp, by simp, by unfold maxLen; omega, Lies.nil⟩, by simp⟩
  · simp at hcs
    subst hcs
    simp only [Prod.mk.injEq] at hx
    obtain ⟨rfl, rfl⟩ := hx
    simp only [if_true] at hk
    obtain ⟨F, hF⟩ := choose_lt (n := len) (p := fun i (a' : α) => p a' ∧ ∀ j u, (f a')[j]? = some u → W.cell? (a.add (i * m + j)) = some u) fun i hi => by
      obtain ⟨cs', h1, h2⟩ := hcell i (by omega)
      rw [hc] at h1
      obtain ⟨_, hlen, hce⟩ := World.cells?_some h1
      obtain ⟨a', rfl, ha⟩ := each cs' n _ hlen h2 fun q hq => hlt q (List.mem_append_right _ (List.mem_flatMap.2 ⟨i, List.mem_range.2 (by omega), hq⟩))
      refine ⟨a', ha, fun j u hu => ?_⟩
      have hj : j < m := by rw [← hf a']; exact (List.getElem?_eq_some_iff.1 hu).1
      have h3 := hce j hj
      rw [add_add, hu] at h3
      exact h3
    have hll : ((List.range len).map F).length = len := by simp
    refine ⟨(List.range len).map F, ⟨some a, cap, by rw [hll], by simp, by rw [hll]; exact hl, hmx, ?_⟩, fun x hx => ?_⟩
    · by_cases h0 : len = 0
      · subst h0; exact .inl (by simp)
      · refine .inr ⟨a, rfl, ?_, fun j u hu => ?_⟩
        · have h1 := (hF 0 (by omega)).2 0 _ (List.getElem?_eq_getElem (by rw [hf]; exact hm))
          have hs : a.spot = none := by
            have h2 : a.add (0 * m + 0) = a := by simp [Addr.add]
            rw [h2] at h1
            exact World.cell?_spot h1
          obtain ⟨b, off, spot⟩ := a
          exact hlt (.cell b off) (List.mem_append_left _ (MemPlace.mem_row.2 ⟨0, by rw [hc]; exact Nat.mul_pos (by omega) hm, by simp⟩))
        · have hjl : j < len * m := by
            have h1 := (List.getElem?_eq_some_iff.1 hu).1
            rwa [flat_len hf, hll] at h1
          have hk2 : j / m < len := Nat.div_lt_of_lt_mul (by rwa [Nat.mul_comm])
          have e1 : j / m * m + j % m = j := by rw [Nat.mul_comm]; exact Nat.div_add_mod j m
          have h1 := flat_at hf ((List.range len).map F) (j / m) (by rw [hll]; exact hk2) (j % m) (Nat.mod_lt _ hm)
          rw [e1, List.getElem_map, List.getElem_range] at h1
          have h2 := (hF (j / m) hk2).2 (j % m) u (by rw [← h1]; exact hu)
          rwa [e1] at h2
    · obtain ⟨i, hi, rfl⟩ := List.mem_map.1 hx
      exact (hF i (by simpa using hi)).1
/-- A slice of values of several cells each that came in: f tells a value's cells, p what is known of each. -/
theorem open_wide {H : Type} {enc : TypeId × Value → H} {P : Program} {α : Type} [Inhabited α] {f : α → List Value} {m : Nat} {p : α → Prop} {t e : TypeId} {W : World} {v : Value} {d : DataW H} {ps : List MemPlace} {base : Nat}
    (ht : P.underlying t = some (.slice e)) (hc : P.cellsOf e = m) (hm : 0 < m) (hf : ∀ x, (f x).length = m)
    (each : ∀ cs n x, cs.length = m → DataW.trod enc P W 0 (fun _ => true) true n e cs = some x → ∃ a : α, cs = f a ∧ p a)
    (hval : Value.okWide P W .any base t v) (hd : DataW.Trod enc P W 0 (fun _ => true) true t v d ps) (hlt : ∀ x ∈ ps, x.block < W.heap.size) :
    ∃ l : List α, IsR f l v W ∧ ∀ x ∈ l, p x := by
  obtain ⟨a0, len, cap, rfl⟩ := okWide_slice ht hval
  obtain ⟨fuel, hf0⟩ := hd
  exact open_wide0 ht hc hm hf (fun cs n x h1 h2 _ => each cs n x h1 h2) (y := (d, ps)) (by simpa [Value.cells] using hf0) hlt
end Go.Proofs.YtlibofmpnlfelaaGreatDoor

/- Slices of structs that come in: columns, values. -/





namespace Go.Proofs.YtlibofmpnlfelaaGreatDoor

open Go.RowKit Go.ChangeShapes Go.WideShapes Go.Deep

instance : Inhabited CC := ⟨⟨⟨#[]⟩, 0⟩⟩
instance : Inhabited CV := ⟨⟨false, 0, ⟨#[]⟩⟩⟩
section

variable {H : Type} {enc : TypeId × Value → H} {W : World} {v : Value} {d : DataW H} {ps : List MemPlace} {base : Nat}
theorem Tryz.cells_string : Tryz.prog.cellsOf 9 = 1 := by kernel_rfl
theorem Tryz.cells_int : Tryz.prog.cellsOf 3 = 1 := by kernel_rfl
theorem Tryz.cells_bool : Tryz.prog.cellsOf 4 = 1 := by kernel_rfl
set_option maxRecDepth 100000 in
theorem open_vals (hval : Value.okWide Tryz.prog W .any base 22 v) (hd : DataW.Trod enc Tryz.prog W 0 (fun _ => true) true 22 v d ps) (hlt : ∀ x ∈ ps, x.block < W.heap.size) :
    ∃ l : List CV, IsR kcells l v W ∧ (∀ x ∈ l, x.inInt) ∧ ∀ x ∈ l, x.s.size ≤ maxLen := by
  obtain ⟨l, h1, h2⟩ := open_wide (f := kcells) (m := 3) (p := fun x => x.inInt ∧ x.s.size ≤ maxLen) Tryz.underlying22 (by kernel_rfl) (by omega) (fun _ => rfl) (fun cs n x hlen h => by
    obtain ⟨xs, k, hk, hxy, _, hxl, hf⟩ := DataW.trod_struct Tryz.underlying36 h
    match xs, hxl, cs, hlen with
    | [y0, y1, y2], _, [v0, v1, v2], _ =>
      have g0 := hf 0 _ rfl
      have g1 := hf 1 _ rfl
      have g2 := hf 2 _ rfl
      simp [Tryz.cells_string, Tryz.cells_int, Tryz.cells_bool] at g0 g1 g2
      obtain ⟨b, e0, _⟩ := DataW.trod_bool Tryz.underlying4 g0
      obtain ⟨i, e1, _, hw⟩ := DataW.trod_int Tryz.underlying3 g1
      obtain ⟨s, e2, _, hs⟩ := DataW.trod_string Tryz.underlying9 g2
      simp at e0 e1 e2
      subst e0 e1 e2
      exact ⟨⟨b, i, s⟩, rfl, wf_i64 hw, hs⟩) hval hd hlt
  exact ⟨l, h1, fun x hx => (h2 x hx).1, fun x hx => (h2 x hx).2⟩
end

end Go.Proofs.YtlibofmpnlfelaaGreatDoor

/- Values that are nothing (layer 13), as plain mathematics. -/





namespace Go.Proofs.YtlibofmpnlfelaaGreatDoor

/-- A number. -/
def nv (n : Int) : CV := ⟨false, n, ⟨#[]⟩⟩
end Go.Proofs.YtlibofmpnlfelaaGreatDoor

/- Contracts of layer 13's reference: Split, Join; and of layer 12's SameRow. -/









namespace Go.Proofs.YtlibofmpnlfelaaGreatDoor

open Go.RowKit

/-- Values and an error. -/
def RetRE (w : World) (p : List CV × Int) (e : Ending) (w' : World) : Prop := ∃ v, e = .returned (.tuple #[v, .int .i64 p.2]) ∧ IsR kcells p.1 v w' ∧ Below w.heap.size w w'
theorem RetRE.nil {w w' : World} (n : Int) (hb : Below w.heap.size w w') : RetRE w ([], n) (.returned (.tuple #[.slice none 0 0, .int .i64 n])) w' := ⟨_, rfl, isR_nil _ _, hb⟩
/-- The cells of a value in a slice. -/
theorem cells3 {w : World} {ad : Addr} {k : Nat} {x : CV} (h : ∀ i, i < 3 → w.cell? (ad.add (k * 3 + i)) = (kcells x)[i]?) :
    w.cell? (ad.add (k * 3)) = some (.bool x.null) ∧ w.cell? ⟨(ad.add (k * 3)).block, (ad.add (k * 3)).off + 1, none⟩ = some (.int .i64 x.n) ∧ w.cell? ⟨(ad.add (k * 3)).block, (ad.add (k * 3)).off + 2, none⟩ = some (.string x.s) := by
  refine ⟨h 0 (by omega), ?_, ?_⟩
  · have h1 := h 1 (by omega); rw [← add_add] at h1; exact h1
  · have h1 := h 2 (by omega); rw [← add_add] at h1; exact h1
end Go.Proofs.YtlibofmpnlfelaaGreatDoor

/- Contracts of layer 13's reference: Put, Take; and of layer 12's SameRow. -/



namespace Go.Proofs.YtlibofmpnlfelaaGreatDoor

open Go.RowKit

/-- Bytes, values and an error. -/
def RetBR (w : World) (p : List UInt8 × List CV × Int) (e : Ending) (w' : World) : Prop := ∃ u v, e = .returned (.tuple #[u, v, .int .i64 p.2.2]) ∧ IsB p.1 u w' ∧ IsR kcells p.2.1 v w' ∧ Below w.heap.size w w'
theorem RetBR.nil {w w' : World} (n : Int) (hb : Below w.heap.size w w') : RetBR w ([], [], n) (.returned (.tuple #[.slice none 0 0, .slice none 0 0, .int .i64 n])) w' := ⟨_, _, rfl, isB_nil _, isR_nil _ _, hb⟩
/-- Truths and an error. -/
def RetVE (w : World) (p : List Bool × Int) (e : Ending) (w' : World) : Prop := ∃ u, e = .returned (.tuple #[u, .int .i64 p.2]) ∧ IsV Value.bool p.1 u w' ∧ Below w.heap.size w w'
theorem RetVE.nil {w w' : World} (n : Int) (hb : Below w.heap.size w w') : RetVE w ([], n) (.returned (.tuple #[.slice none 0 0, .int .i64 n])) w' := ⟨_, rfl, isV_nil _ _, hb⟩
end Go.Proofs.YtlibofmpnlfelaaGreatDoor

/- Runs (layer 11): a run that may be taken with a sign and without gives as many numbers, and leaves the same behind. -/



namespace Go.Proofs.YtlibofmpnlfelaaGreatDoor

end Go.Proofs.YtlibofmpnlfelaaGreatDoor

/- Numbers that are taken without a sign are not below 0; and there are as many as were asked for. -/



namespace Go.Proofs.YtlibofmpnlfelaaGreatDoor

theorem map_next {α β : Type} (f : α → β) {l : List α} {j : Nat} (h : j < l.length) : (l.take (j + 1)).map f = (l.take j).map f ++ [f l[j]] := by
  rw [List.take_succ_eq_append_getElem h, List.map_append]
  rfl
theorem dplain_of {l : List Int} {s : Bool} (h : ∀ x ∈ l, s = true ∨ 0 ≤ x) : dplain l s ≠ none := by
  induction l with
  | nil => intro h; cases h
  | cons x l ih =>
    intro h0
    have h3 := ih fun y hy => h y (List.mem_cons_of_mem _ hy)
    obtain ⟨u, hu⟩ : ∃ u, eplain x s = some u := by
      unfold eplain
      rcases h x List.mem_cons_self with h1 | h1
      · exact ⟨_, if_pos h1⟩
      · cases s with
        | true => exact ⟨_, if_pos rfl⟩
        | false => exact ⟨x.toNat, by rw [if_neg (by simp), if_pos h1]⟩
    unfold dplain at h0 h3
    rw [omap, hu] at h0
    cases ho : omap (eplain · s) l with
    | none => exact h3 ho
    | some us => rw [ho] at h0; cases h0
theorem uput_ok {l : List Int} {s : Bool} (h : l.length ≤ 4096) (hl : ∀ x ∈ l, inInt x) (hp : dplain l s ≠ none) : uputE l s = ((uputN s l.length l).1, 0) ∧ (uputN s l.length l).1.length ≤ 40960 := by
  obtain ⟨h0, h1, _⟩ := uputN_back (s := s) (r := []) l.length l [] (l.length + 1) (Nat.le_refl _) (Nat.le_refl _) hl hp
  unfold uputE
  rw [if_neg (by omega)]
  exact ⟨Prod.ext rfl h0, by omega⟩
end Go.Proofs.YtlibofmpnlfelaaGreatDoor

/- Columns of numbers (layer 14), as plain mathematics. -/







namespace Go.Proofs.YtlibofmpnlfelaaGreatDoor

/-- Whether all may be of a kind, and are something. -/
def imay (k : Int) (l : List CV) : Bool := l.all fun x => !x.null && kmay k x
def ifirst (l : List CV) : List Int := l.map fun x => x.n / 1000
def isecond (l : List CV) : List Int := l.map fun x => x.n % 1000
/-- What Put answers. -/
def iputE (k : Int) (l : List CV) : List UInt8 × Int :=
  if knumber k = false then ([], 1) else if 4096 < l.length then ([], 3) else if imay k l = false then ([], 21)
  else if k = 1 then qputE (l.map fun x => x.n == 1)
  else if k = 5 then ((uputE (ifirst l) true).1 ++ (uputE (isecond l) false).1, 0)
  else uputE (l.map (·.n)) true
theorem kmay_num {k n : Int} (h1 : 1 ≤ k) (h5 : k ≤ 5) (hb : k = 1 → n = 0 ∨ n = 1) : kmay k (nv n) = true := by
  unfold kmay nv
  rw [if_neg (by simp; omega), if_neg (by simp), if_pos (by simp; omega)]
  dsimp only
  have h0 : ((⟨#[]⟩ : ByteArray).toList == []) = true := by decide +kernel
  rw [h0]
  by_cases h : k = 1
  · rcases hb h with rfl | rfl <;> simp
  · simp [h]
theorem imay_num {k : Int} {ns : List Int} (h1 : 1 ≤ k) (h5 : k ≤ 5) (hb : k = 1 → ∀ n ∈ ns, n = 0 ∨ n = 1) : imay k (ns.map nv) = true := by
  unfold imay
  rw [List.all_eq_true]
  intro x hx
  obtain ⟨n, hn, rfl⟩ := List.mem_map.1 hx
  show (!false && kmay k (nv n)) = true
  rw [kmay_num h1 h5 fun h => hb h n hn]
  rfl
end Go.Proofs.YtlibofmpnlfelaaGreatDoor

/- What layer 14's reference's Put stands on: three rows of numbers that grow turn about. -/







namespace Go.Proofs.YtlibofmpnlfelaaGreatDoor

open Go.RowKit

/-- Three rows of numbers of the call's own, in blocks of their own. -/
structure Three (w : World) (B : Nat) (u v x : Value) (n m q : Nat) (xs bs cs : List Value) : Prop where
  h1 : w.ownsRow B 3 1 u n xs
  h2 : w.ownsRow B 3 1 v m bs
  h3 : w.ownsRow B 3 1 x q cs
  n1 : u.ownBlock ≠ none
  n2 : v.ownBlock ≠ none
  n3 : x.ownBlock ≠ none
  d12 : u.ownBlock ≠ v.ownBlock
  d13 : u.ownBlock ≠ x.ownBlock
  d23 : v.ownBlock ≠ x.ownBlock
theorem Three.rot {w : World} {B n m q : Nat} {u v x : Value} {xs bs cs : List Value} (h : Three w B u v x n m q xs bs cs) : Three w B v x u m q n bs cs xs :=
  ⟨h.h2, h.h3, h.h1, h.n2, h.n3, h.n1, h.d23, fun e => h.d12 e.symm, fun e => h.d13 e.symm⟩
theorem row_apart {w w' : World} {b k n : Nat} {e : TypeId} {v1 v2 v1' : Value} {ys : List Value} (h1 : w.ownsRow b e 1 v2 n ys) (h2 : v1.ownBlock ≠ none) (hne : v1.ownBlock ≠ v2.ownBlock) (hg : w.grownBy w' v1.ownBlock) (hq : v1'.ownBlock = v1.ownBlock ∨ v1'.ownBlock = some k) (hk : w.heap.size ≤ k) :
    w'.ownsRow b e 1 v2 n ys ∧ v1'.ownBlock ≠ v2.ownBlock ∧ v1'.ownBlock ≠ none := by
  refine ⟨h1.kept hg (.inr fun h => hne h.symm), ?_, ?_⟩
  · rcases hq with hq | hq
    · rw [hq]; exact hne
    · rw [hq]
      rcases h1.2 with ⟨h3, _⟩ | ⟨g, c, cur, h3, _, h4, _⟩
      · rw [h3]; intro h; cases h
      · rw [h3]
        intro h
        injection h with h
        have := (Array.getElem?_eq_some_iff.1 h4).1
        dsimp only at h
        omega
  · rcases hq with hq | hq
    · rw [hq]; exact h2
    · rw [hq]; intro h; cases h
theorem Three.push {w w' : World} {B n n' m q k : Nat} {u v x u' : Value} {xs xs' bs cs : List Value} (h : Three w B u v x n m q xs bs cs) (ho : w'.ownsRow B 3 1 u' n' xs') (hg : w.grownBy w' u.ownBlock) (hq : u'.ownBlock = u.ownBlock ∨ u'.ownBlock = some k) (hk : w.heap.size ≤ k) : Three w' B u' v x n' m q xs' bs cs := by
  obtain ⟨a1, a2, a3⟩ := row_apart h.h2 h.n1 h.d12 hg hq hk
  obtain ⟨b1, b2, _⟩ := row_apart h.h3 h.n1 h.d13 hg hq hk
  exact ⟨ho, a1, b1, a3, h.n2, h.n3, a2, b2, h.d23⟩
theorem Three.below {w w' : World} {B n m q : Nat} {u v x : Value} {xs bs cs : List Value} (h : Three w B u v x n m q xs bs cs) (hb : Below w.heap.size w w') : Three w' B u v x n m q xs bs cs :=
  ⟨own_below h.h1 hb, own_below h.h2 hb, own_below h.h3 hb, h.n1, h.n2, h.n3, h.d12, h.d13, h.d23⟩
theorem Three.other {w w' : World} {B B' n m q k s : Nat} {u v x y : Value} {e : TypeId} {xs bs cs ys : List Value} (h : Three w B u v x n m q xs bs cs) (hy : w.ownsRow B' e s y k ys) (hne : 3 ≠ e) (hg : w.grownBy w' y.ownBlock) : Three w' B u v x n m q xs bs cs :=
  ⟨own_otherW h.h1 hy hne hg, own_otherW h.h2 hy hne hg, own_otherW h.h3 hy hne hg, h.n1, h.n2, h.n3, h.d12, h.d13, h.d23⟩
theorem imay_no {k : Int} {l : List CV} {j : Nat} (h : j < l.length) (hm : (!l[j].null && kmay k l[j]) = false) : imay k l = false := by
  unfold imay
  rw [List.all_eq_false]
  exact ⟨l[j], List.getElem_mem h, by rw [hm]; simp⟩
theorem imay_next {k : Int} {l : List CV} {j : Nat} (h : j < l.length) (hi : imay k (l.take j) = true) (hm : (!l[j].null && kmay k l[j]) = true) : imay k (l.take (j + 1)) = true := by
  unfold imay at hi ⊢
  rw [List.take_succ_eq_append_getElem h, List.all_append, hi]
  simpa using hm
def IPutRel (k : Int) (l : List CV) (w : World) (ov wv fv sv i : Value) (wr : World) : Prop :=
  ∃ (j : Nat) (po : List Bool) (pw pf ps : List Int), j ≤ l.length ∧ i = .int .i64 (j : Int) ∧ imay k (l.take j) = true ∧ po = (l.take j).map (fun x => x.n == 1) ∧ pw = (l.take j).map (·.n) ∧ pf = ifirst (l.take j) ∧ ps = isecond (l.take j) ∧
    wr.ownsRow w.heap.size 4 1 ov j (po.map Value.bool) ∧ Three wr w.heap.size wv fv sv j j j (pw.map iv) (pf.map iv) (ps.map iv) ∧ Below w.heap.size w wr
theorem iput_start (k : Int) (l : List CV) (w : World) : IPutRel k l w (.slice (some ⟨w.heap.size, 0, none⟩) 0 0) (.slice (some ⟨w.heap.size + 1, 0, none⟩) 0 0) (.slice (some ⟨w.heap.size + 1 + 1, 0, none⟩) 0 0) (.slice (some ⟨w.heap.size + 1 + 1 + 1, 0, none⟩) 0 0) (.int .i64 0)
    ((((w.alloc (.cells #[] 4)).alloc (.cells #[] 3)).alloc (.cells #[] 3)).alloc (.cells #[] 3)) := by
  have h0 := ownW_made w 4 1
  obtain ⟨w1, hw1⟩ : ∃ w1, w1 = w.alloc (.cells #[] 4) := ⟨_, rfl⟩
  have z1 : w1.heap.size = w.heap.size + 1 := by rw [hw1]; simp
  rw [← hw1] at h0 ⊢
  have h1 := ownW_made w1 3 1
  obtain ⟨w2, hw2⟩ : ∃ w2, w2 = w1.alloc (.cells #[] 3) := ⟨_, rfl⟩
  have z2 : w2.heap.size = w1.heap.size + 1 := by rw [hw2]; simp
  rw [← hw2] at h1 ⊢
  have h2 := ownW_made w2 3 1
  obtain ⟨w3, hw3⟩ : ∃ w3, w3 = w2.alloc (.cells #[] 3) := ⟨_, rfl⟩
  have z3 : w3.heap.size = w2.heap.size + 1 := by rw [hw3]; simp
  rw [← hw3] at h2 ⊢
  have h3 := ownW_made w3 3 1
  have b1 : Below w.heap.size w w1 := by rw [hw1]; exact (Below.refl _ _).alloc (Nat.le_refl _) _
  have b2 : Below w.heap.size w w2 := by rw [hw2]; exact b1.alloc (by omega) _
  have b3 : Below w.heap.size w w3 := by rw [hw3]; exact b2.alloc (by omega) _
  have c12 : Below w1.heap.size w1 w2 := by rw [hw2]; exact (Below.refl _ _).alloc (Nat.le_refl _) _
  have c23 : Below w2.heap.size w2 w3 := by rw [hw3]; exact (Below.refl _ _).alloc (Nat.le_refl _) _
  have e1 := ownW_alloc (own_below (own_below h0 c12) c23) (.cells #[] 3)
  have e2 := ownW_alloc (own_below h1 c23) (.cells #[] 3)
  have e3 := ownW_alloc h2 (.cells #[] 3)
  rw [show w.heap.size + 1 + 1 + 1 = w3.heap.size by omega, show w.heap.size + 1 + 1 = w2.heap.size by omega, show w.heap.size + 1 = w1.heap.size by omega]
  refine ⟨0, [], [], [], [], Nat.zero_le _, rfl, rfl, rfl, rfl, rfl, rfl, e1, ⟨ownW_base (by omega) e2, ownW_base (by omega) e3, ownW_base (by omega) h3, ?_, ?_, ?_, ?_, ?_, ?_⟩, b3.alloc (by omega) _⟩
  all_goals simp [Value.ownBlock]
  all_goals omega
theorem ifirst_in {l : List CV} (h : ∀ x ∈ l, x.inInt) : ∀ x ∈ ifirst l, inInt x := by
  intro x hx
  obtain ⟨y, hy, rfl⟩ := List.mem_map.1 hx
  have := h y hy
  unfold CV.inInt at this
  unfold inInt
  omega
theorem isecond_in (l : List CV) : ∀ x ∈ isecond l, inInt x ∧ 0 ≤ x := by
  intro x hx
  obtain ⟨y, hy, rfl⟩ := List.mem_map.1 hx
  unfold inInt
  omega
theorem inums_in {l : List CV} (h : ∀ x ∈ l, x.inInt) : ∀ x ∈ l.map (·.n), inInt x := by
  intro x hx
  obtain ⟨y, hy, rfl⟩ := List.mem_map.1 hx
  exact h y hy
theorem iputE_arg {k : Int} {l : List CV} (h : knumber k = false) : iputE k l = ([], 1) := by unfold iputE; rw [if_pos h]
theorem iputE_big {k : Int} {l : List CV} (h : knumber k = true) (h4 : 4096 < l.length) : iputE k l = ([], 3) := by unfold iputE; rw [if_neg (by rw [h]; simp), if_pos h4]
theorem iputE_type {k : Int} {l : List CV} (h : knumber k = true) (h4 : ¬ 4096 < l.length) (hm : imay k l = false) : iputE k l = ([], 21) := by unfold iputE; rw [if_neg (by rw [h]; simp), if_neg h4, if_pos hm]
theorem iputE_in {k : Int} {l : List CV} (h : knumber k = true) (h4 : ¬ 4096 < l.length) (hm : imay k l = true) : iputE k l = if k = 1 then qputE (l.map fun x => x.n == 1) else if k = 5 then ((uputE (ifirst l) true).1 ++ (uputE (isecond l) false).1, 0) else uputE (l.map (·.n)) true := by
  unfold iputE; rw [if_neg (by rw [h]; simp), if_neg h4, if_neg (by rw [hm]; simp)]
end Go.Proofs.YtlibofmpnlfelaaGreatDoor

/- Contracts of layer 14's reference: Parts, Put. -/



namespace Go.Proofs.YtlibofmpnlfelaaGreatDoor

open Go.RowKit

theorem parts_of (n : Int) : (n.tmod 1000 < 0 → n.tdiv 1000 - 1 = n / 1000 ∧ n.tmod 1000 + 1000 = n % 1000) ∧ (¬ n.tmod 1000 < 0 → n.tdiv 1000 = n / 1000 ∧ n.tmod 1000 = n % 1000) := by
  have h1 := Int.mul_tdiv_add_tmod n 1000
  have h2 := Int.tmod_lt_of_pos n (show (0 : Int) < 1000 by decide)
  have h3 := Int.lt_tmod_of_pos n (show (0 : Int) < 1000 by decide)
  omega
set_option maxHeartbeats 1000000 in
theorem rparts_any (n : Int) (w : World) (h : inInt n) : Calls Tryz.prog 22 #[.int .i64 n] w fun e w' => e = .returned (.tuple #[.int .i64 (n / 1000), .int .i64 (n % 1000)]) ∧ w = w' := by
  unfold inInt at h
  obtain ⟨h0, h1⟩ := h
  obtain ⟨p1, p2⟩ := parts_of n
  obtain ⟨t, ht⟩ : ∃ t, n.tdiv 1000 = t := ⟨_, rfl⟩
  obtain ⟨m, hm⟩ : ∃ m, n.tmod 1000 = m := ⟨_, rfl⟩
  rw [ht, hm] at p1 p2
  have b1 : -9223372036854776 ≤ t ∧ t ≤ 9223372036854776 := by omega
  have b2 : -1000 ≤ m ∧ m ≤ 1000 := by omega
  by_cases hneg : m < 0
  · have d1 : decide (m < 0) = true := decide_eq_true hneg
    obtain ⟨e1, e2⟩ := p1 hneg
    have HE1 := Lib.hid e1
    have HE2 := Lib.hid e2
    have hw1 : IntKind.i64.wrap (t - 1) = t - 1 := by rw [IntKind.wrap_i64]; omega
    have hw2 : IntKind.i64.wrap (m + 1000) = m + 1000 := by rw [IntKind.wrap_i64]; omega
    clear p1 p2 e1 e2 h0 h1
    go_enter Tryz.func22, Tryz.ntmps22
    go_wp2
    go_ret2
    rw [← HE1.out, ← HE2.out]
    exact ⟨rfl, rfl⟩
  · have d1 : decide (m < 0) = false := decide_eq_false hneg
    obtain ⟨e1, e2⟩ := p2 hneg
    have HE1 := Lib.hid e1
    have HE2 := Lib.hid e2
    clear p1 p2 e1 e2 h0 h1
    go_enter Tryz.func22, Tryz.ntmps22
    go_wp2
    go_ret2
    rw [← HE1.out, ← HE2.out]
    exact ⟨rfl, rfl⟩
set_option maxHeartbeats 4000000 in
set_option maxRecDepth 100000 in
theorem rputI_any (k : Int) (l : List CV) (v : Value) (w : World) (hU : Tryz.U8 w) (hv : IsR kcells l v w) (hi : ∀ x ∈ l, x.inInt) (hs : ∀ x ∈ l, x.s.size ≤ maxLen) (hb : l.length ≤ 1000000) :
    Calls Tryz.prog 9 #[.int .i64 k, v] w (RetE w (iputE k l)) := by
  obtain ⟨A, n, c, rfl⟩ := hv.shape
  have HN := Lib.hid hv.parts.1
  have HV := Lib.hid hv
  have HU := Lib.hid hU
  have HI := Lib.hid hi
  have HS := Lib.hid hs
  have hn6 : n ≤ 1000000 := by have := HN.out; omega
  clear hv hU hi hs hb
  cases hkn : knumber k with
  | false =>
    have hE := Lib.hid (iputE_arg (l := l) hkn)
    have HNU := Lib.hid (rnumber12_any k w)
    rw [hkn] at HNU
    go_enter Tryz.func9, Tryz.ntmps9
    go_wp2_with (go_at_call 20; refine HNU.out.mono ?_; rintro e w' ⟨rfl, rfl⟩)
    go_ret2
    rw [hE.out]
    exact RetE.nil _ (Below.refl _ _)
  | true =>
    have HNU := Lib.hid (rnumber12_any k w)
    rw [hkn] at HNU
    have HKN := Lib.hid hkn
    clear hkn
    by_cases h4 : 4096 < n
    · have hE := Lib.hid (iputE_big (l := l) HKN.out (by have := HN.out; omega))
      have d1 : decide ((4096 : Int) < (n : Int)) = true := decide_eq_true (by omega)
      go_enter Tryz.func9, Tryz.ntmps9
      go_wp2_with (go_at_call 20; refine HNU.out.mono ?_; rintro e w' ⟨rfl, rfl⟩)
      go_ret2
      rw [hE.out]
      exact RetE.nil _ (Below.refl _ _)
    · have d1 : decide ((4096 : Int) < (n : Int)) = false := decide_eq_false (by omega)
      have H4 := Lib.hid (show ¬ 4096 < l.length by have := HN.out; omega)
      have hst := iput_start k l w
      go_enter Tryz.func9, Tryz.ntmps9
      go_wp2_with (go_at_call 20; refine HNU.out.mono ?_; rintro e w' ⟨rfl, rfl⟩)
      go_loopw [7, 8, 9, 10, 11] (IPutRel k l w) (fun _ _ _ _ i _ => n - (intOf i).toNat)
      case atStart => exact hst
      case round =>
        obtain ⟨j, po, pw, pf, ps, hj, rfl, him, hpo, hpw, hpf, hps, hown, h3, hbw⟩ := hrel
        clear hst
        have hjn : j ≤ n := by have := HN.out; omega
        have hz := hbw.size
        have HIM := Lib.hid him
        have HPO := Lib.hid hpo
        have HPW := Lib.hid hpw
        have HPF := Lib.hid hpf
        have HPS := Lib.hid hps
        clear him hpo hpw hpf hps hj
        by_cases hlt : j < n
        · have hjl : j < l.length := by have := HN.out; omega
          have hlti : (j : Int) < (n : Int) := by omega
          have HAT := Lib.hid fun (X : World) (h : Below w.heap.size w X) => (HV.out.below h).at (m := 3) (fun _ => rfl) (by omega) hjl
          obtain ⟨ad, rfl, had, hcell⟩ := HAT.out wr hbw
          obtain ⟨x, hx⟩ : ∃ x, x = l[j] := ⟨_, rfl⟩
          rw [← hx] at hcell
          obtain ⟨k0, k1, k2⟩ := cells3 hcell
          have HX := Lib.hid hx
          have hxi : x.inInt := by rw [hx]; exact HI.out _ (List.getElem_mem hjl)
          have hxs : x.s.size ≤ maxLen := by rw [hx]; exact HS.out _ (List.getElem_mem hjl)
          have HMY := Lib.hid (rmay12_any k x wr (Utf8Tabs_below HU.out hbw) hxs)
          obtain ⟨my, hmy⟩ : ∃ b, b = kmay k x := ⟨_, rfl⟩
          rw [← hmy] at HMY
          have HMB := Lib.hid hmy
          obtain ⟨xb, xn, xs⟩ := x
          have hxi0 : inInt xn := hxi
          have HPT := Lib.hid (fun X => rparts_any xn X hxi0)
          dsimp only at k0 k1 k2
          clear hcell had hx hmy hxi hxs
          go_wp2_with fail
          refine HMY.out.mono ?_
          rintro e w2 ⟨rfl, hb2⟩
          have hbw2 := below_then hbw hb2
          obtain ⟨ad2, had2, _, hcell2⟩ := HAT.out w2 hbw2
          injection had2 with had2
          subst had2
          rw [← HX.out] at hcell2
          obtain ⟨j0, j1, _⟩ := cells3 hcell2
          dsimp only at j0 j1
          have hown2 := own_below hown hb2
          have h32 := h3.below hb2
          have hz2 := hbw2.size
          clear hcell2 k0 k1 k2 hown h3 hbw hb2 hz
          cases xb with
          | true =>
            have hE := Lib.hid (iputE_type HKN.out H4.out (imay_no (k := k) hjl (by rw [← HX.out]; rfl)))
            go_wp2
            go_ret2
            rw [hE.out]
            exact RetE.nil _ hbw2
          | false =>
            cases my with
            | false =>
              have hE := Lib.hid (iputE_type HKN.out H4.out (imay_no (k := k) hjl (by rw [← HX.out, ← HMB.out]; rfl)))
              go_wp2
              go_ret2
              rw [hE.out]
              exact RetE.nil _ hbw2
            | true =>
              have HIN := Lib.hid (imay_next hjl HIM.out (by rw [← HX.out, ← HMB.out]; rfl))
              have HPO2 := Lib.hid (show po ++ [xn == 1] = (l.take (j + 1)).map (fun x => x.n == 1) by rw [map_next _ hjl, HPO.out, ← HX.out])
              have HPW2 := Lib.hid (show pw ++ [xn] = (l.take (j + 1)).map (·.n) by rw [map_next _ hjl, HPW.out, ← HX.out])
              have HPF2 := Lib.hid (show pf ++ [xn / 1000] = ifirst (l.take (j + 1)) by unfold ifirst; rw [map_next _ hjl, HPF.out, ← HX.out]; rfl)
              have HPS2 := Lib.hid (show ps ++ [xn % 1000] = isecond (l.take (j + 1)) by unfold isecond; rw [map_next _ hjl, HPS.out, ← HX.out]; rfl)
              go_wp2_with (first | (go_at_call 22; refine (HPT.out _).mono ?_; rintro e w' ⟨rfl, rfl⟩) | (at_builtin; refine wpList_push elemL rfl _ _ rfl w.heap.size _ _ _ (.bool (xn == 1)) w2 w rfl rfl rfl rfl hown2 hbw2 hz2 (by omega) (by omega) ?_))
              intro o5 w5 ho5 hb5 hg5 _
              have hz5 := hb5.size
              have h35 := h32.other hown2 (by decide) hg5
              obtain ⟨ad5, had5, _, hcell5⟩ := HAT.out w5 hb5
              injection had5 with had5
              subst had5
              rw [← HX.out] at hcell5
              obtain ⟨_, i1, _⟩ := cells3 hcell5
              dsimp only at i1
              have HO5 := Lib.hid ho5
              have H35 := Lib.hid h35
              have hw5 := h35.h1
              clear hcell5 j0 j1 hown2 h32 hbw2 hz2 hg5 ho5 h35
              go_wp2_with (at_builtin; refine wpList_push elemI rfl _ _ rfl w.heap.size _ _ _ (iv xn) w5 w rfl rfl rfl rfl hw5 hb5 hz5 (by omega) (by omega) ?_)
              intro u6 w6 ho6 hb6 hg6 hq6
              have hz6 := hb6.size
              have H36 := Lib.hid ((H35.out.push ho6 hg6 hq6 (by omega)).rot)
              have HO6 := Lib.hid (own_otherW HO5.out hw5 (by decide) hg6)
              have hf6 := H36.out.h1
              clear hw5 hb5 hz5 i1 ho6 hg6 hq6
              go_wp2_with (at_builtin; refine wpList_push elemI rfl _ _ rfl w.heap.size _ _ _ (iv (xn / 1000)) w6 w rfl rfl rfl rfl hf6 hb6 hz6 (by omega) (by omega) ?_)
              intro u7 w7 ho7 hb7 hg7 hq7
              have hz7 := hb7.size
              have H37 := Lib.hid ((H36.out.push ho7 hg7 hq7 (by omega)).rot)
              have HO7 := Lib.hid (own_otherW HO6.out hf6 (by decide) hg7)
              have hs7 := H37.out.h1
              clear hf6 hb6 hz6 ho7 hg7 hq7
              go_wp2_with (at_builtin; refine wpList_push elemI rfl _ _ rfl w.heap.size _ _ _ (iv (xn % 1000)) w7 w rfl rfl rfl rfl hs7 hb7 hz7 (by omega) (by omega) ?_)
              intro u8 w8 ho8 hb8 hg8 hq8
              have H38 := Lib.hid ((H37.out.push ho8 hg8 hq8 (by omega)).rot)
              have HO8 := Lib.hid (own_otherW HO7.out hs7 (by decide) hg8)
              have HREL := Lib.hid (show IPutRel k l w o5 u6 u7 u8 (.int .i64 ((j + 1 : Nat) : Int)) w8 from ⟨j + 1, _, _, _, _, hjl, rfl, HIN.out, HPO2.out, HPW2.out, HPF2.out, HPS2.out, by rw [List.map_append]; exact HO8.out, by rw [List.map_append, List.map_append, List.map_append]; exact H38.out, hb8⟩)
              clear hs7 hb7 hz7 ho8 hg8 hq8 hb8
              go_wp2
              go_roundw
              case rel => exact HREL.out
              case measure => simp [intOf]; omega
        · obtain rfl : j = n := by omega
          have hlti : ¬ (j : Int) < (j : Int) := by omega
          have HT := Lib.hid (show l.take j = l from List.take_of_length_le (by have := HN.out; omega))
          have hE := iputE_in HKN.out H4.out (by rw [← HT.out]; exact HIM.out)
          have HB := Lib.hid hbw
          by_cases hk1 : k = 1
          · subst hk1
            rw [if_pos rfl] at hE
            have HE := Lib.hid hE
            have HV1 := Lib.hid (isV_own (f := Value.bool) hown)
            have HPO3 := Lib.hid (show po = l.map (fun x => x.n == 1) by rw [HPO.out, HT.out])
            have HQ := Lib.hid (rqput_any po _ wr HV1.out (by rw [HPO3.out, List.length_map]; have := HN.out; omega))
            clear hE hown h3 hbw
            go_wp2_with fail
            refine HQ.out.mono ?_
            rintro e w3 ⟨b3, rfl, hb3v, hb3⟩
            go_wp2
            go_ret2
            rw [HE.out, ← HPO3.out]
            exact ⟨_, rfl, hb3v, below_then HB.out hb3⟩
          · rw [if_neg hk1] at hE
            have d2 : (k == 1) = false := by simpa using hk1
            by_cases hk5 : k = 5
            · subst hk5
              rw [if_pos rfl] at hE
              have HE := Lib.hid hE
              have HVF := Lib.hid (isV_own (f := iv) h3.h2)
              have HVS := Lib.hid (isV_own (f := iv) h3.h3)
              have HPF3 := Lib.hid (show pf = ifirst l by rw [HPF.out, HT.out])
              have HPS3 := Lib.hid (show ps = isecond l by rw [HPS.out, HT.out])
              have hfl : pf.length = j := by rw [HPF3.out]; unfold ifirst; rw [List.length_map]; exact HN.out
              have hsl : ps.length = j := by rw [HPS3.out]; unfold isecond; rw [List.length_map]; exact HN.out
              have hfi : ∀ x ∈ pf, inInt x := by rw [HPF3.out]; exact ifirst_in HI.out
              have hsi : ∀ x ∈ ps, inInt x ∧ 0 ≤ x := by rw [HPS3.out]; exact isecond_in l
              obtain ⟨a1, a2⟩ := uput_ok (l := pf) (s := true) (by omega) hfi (dplain_of fun _ _ => .inl rfl)
              obtain ⟨b1, b2⟩ := uput_ok (l := ps) (s := false) (by omega) (fun x hx => (hsi x hx).1) (dplain_of fun x hx => .inr (hsi x hx).2)
              have HRF := Lib.hid (rput11_own pf _ true wr HVF.out hfi)
              have HRS := Lib.hid (fun X (h : Below wr.heap.size wr X) => rput11_any ps _ false X (HVS.out.below h) (fun x hx => (hsi x hx).1))
              obtain ⟨fa, hfa⟩ : ∃ fa, fa = (uputN true pf.length pf).1 := ⟨_, rfl⟩
              obtain ⟨fb, hfb⟩ : ∃ fb, fb = (uputN false ps.length ps).1 := ⟨_, rfl⟩
              rw [← hfa] at a1 a2
              rw [← hfb] at b1 b2
              rw [a1] at HRF
              rw [b1] at HRS
              have HE2 := Lib.hid (show iputE 5 l = (fa ++ fb, 0) by rw [HE.out, ← HPF3.out, ← HPS3.out, a1, b1])
              clear hE hown h3 hbw hfl hsl hfi hsi a1 b1 hfa hfb
              go_wp2_with fail
              refine HRF.out.mono ?_
              rintro e w3 ⟨b3, rfl, hb3v, hb3⟩
              have HB3 := Lib.hid (below_then HB.out hb3)
              have HRS3 := Lib.hid (HRS.out w3 hb3)
              have HO3 := Lib.hid (ownW_base HB.out.size hb3v)
              clear hb3 hb3v
              go_wp2_with fail
              refine HRS3.out.mono ?_
              rintro e w4 ⟨b4, rfl, hb4v, hb4⟩
              obtain ⟨A4, n4, c4, rfl⟩ := IsV.shape (f := bv) hb4v
              obtain ⟨hn4, hA4, -, -, hl4⟩ := IsV.parts (f := bv) (show IsV bv fb _ _ from hb4v)
              have hn4b : n4 ≤ 40960 := by omega
              have HM4 := Lib.hid (show (fb.map bv).length = n4 by rw [List.length_map]; exact hn4)
              have hown4 := own_below HO3.out hb4
              have hb4w := below_then HB3.out hb4
              have hz4 := hb4w.size
              obtain ⟨fl, hfl⟩ : ∃ fl, fl = fa.length := ⟨_, rfl⟩
              have hown4' : w4.ownsRow w.heap.size 5 1 b3 fl (fa.map bv) := by rw [hfl]; exact hown4
              have hfl4 : fl ≤ 40960 := by omega
              clear hb4v hn4 hb4 hown4 hfl
              go_wp2_with (at_builtin; refine wpList_join elemB rfl _ _ rfl w.heap.size _ _ _ _ _ _ (fb.map bv) w rfl rfl hA4 HM4.out hl4 (bv_one _) hown4' hb4w hz4 (by omega) (by omega) ?_)
              intro v5 w5 hown5 hb5 _ _
              have HI5 := Lib.hid (show IsB (fa ++ fb) v5 w5 from isB_own (by rw [List.map_append]; exact hown5))
              have HB5 := Lib.hid hb5
              clear hown5 hb5 hown4' hb4w hz4 hl4 hA4
              go_wp2
              go_ret2
              rw [HE2.out]
              exact ⟨_, rfl, HI5.out, HB5.out⟩
            · rw [if_neg hk5] at hE
              have d3 : (k == 5) = false := by simpa using hk5
              have HE := Lib.hid hE
              have HVW := Lib.hid (isV_own (f := iv) h3.h1)
              have HPW3 := Lib.hid (show pw = l.map (·.n) by rw [HPW.out, HT.out])
              have HRW := Lib.hid (rput11_any pw _ true wr HVW.out (by rw [HPW3.out]; exact inums_in HI.out))
              clear hE hown h3 hbw
              go_wp2_with fail
              refine HRW.out.mono ?_
              rintro e w3 ⟨b3, rfl, hb3v, hb3⟩
              go_wp2
              go_ret2
              rw [HE.out, ← HPW3.out]
              exact ⟨_, rfl, hb3v, below_then HB.out hb3⟩
end Go.Proofs.YtlibofmpnlfelaaGreatDoor

/- The contract of layer 14's reference: Take. -/





namespace Go.Proofs.YtlibofmpnlfelaaGreatDoor

open Go.RowKit

end Go.Proofs.YtlibofmpnlfelaaGreatDoor

/- The table of widths and utf8's two tables out of what a seat's rows list. (For seats whose rows list these three, in this order.) -/





namespace Go.Proofs.YtlibofmpnlfelaaGreatDoor

open Go.Lib Go.RowKit Go.ChangeShapes Go.WideShapes Go.ChangeAt

theorem laid_head {P : Program} {W : World} {a : String × DataW Unit} {L : List (String × DataW Unit)} (h : laidMet P (a :: L) W) : laidMet P [a] W := by
  obtain ⟨ps, ⟨g0, t0, cs, fuel, p, q, h1, h2, h3, h4, _, rfl⟩, hn, hall⟩ := h
  exact ⟨_, ⟨g0, t0, cs, fuel, p, [], h1, h2, h3, h4, rfl, rfl⟩, by rw [List.append_nil]; exact (List.nodup_append.1 hn).1, fun b off hb => hall b off (List.mem_append_left _ (by rwa [List.append_nil] at hb))⟩
theorem gTab3 : Tryz.prog.globalNamed "pilaster/widths.table" = some 2 := by kernel_rfl
theorem tTab3 : (Tryz.prog.globals[2]?).map (·.type) = some 184 := by kernel_rfl
theorem iw_of {W : World} (h : laidMetH Tryz.prog [("pilaster/widths.table", Rows.laid_pilaster_widths_table), ("unicode/utf8.acceptRanges", Rows.laid_unicode_utf8_acceptRanges), ("unicode/utf8.first", Rows.laid_unicode_utf8_first)] W) : WTab W ∧ Tryz.U8 W := by
  rw [MakeChecks.laidMetH_plain _ _ _ (by kernel_rfl)] at h
  have h1 := Go.Lib.laidMet.reads h (n := "unicode/utf8.first") (d := Rows.laid_unicode_utf8_first) (by simp)
  have h2 := Go.Lib.laidMet.reads h (n := "unicode/utf8.acceptRanges") (d := Rows.laid_unicode_utf8_acceptRanges) (by simp)
  rw [show Rows.laid_unicode_utf8_first = firstData from Pinned.utf8First_eq] at h1
  rw [show (Rows.laid_unicode_utf8_acceptRanges : DataW Unit) = acceptData from by kernel_rfl] at h2
  exact ⟨row_of_laid (zs := wtab) gTab3 tTab3 Tryz.underlying184 Tryz.underlying3 (by kernel_rfl) (by kernel_rfl) (by omega) (laid_head h), utf8Tabs_of_readsT (U8Types.of196 Tryz.lays196) Tryz.u8extra h1 h2⟩
end Go.Proofs.YtlibofmpnlfelaaGreatDoor

/- ints' own contracts: split, the functions handed to each, each (a generic function, at six pairs of types), only, slices.ContainsFunc with Put's closure. Written by gen_iown.py. -/









namespace Go.Proofs.YtlibofmpnlfelaaGreatDoor

open Go.RowKit

/-- A number of Time's two parts as they lie. -/
def ipc (p : Int × Int) : List Value := [.int .i64 p.1, .int .i64 p.2]
def ipv (p : Int × Int) : Value := .agg (ipc p).toArray
def iparts (n : Int) : Int × Int := (n / 1000, n % 1000)
theorem ipc_one (p : Int × Int) : ∀ u ∈ ipc p, u.oneCell' = true := by unfold ipc; simp [Value.oneCell']
theorem infoP_size : (Tryz.prog.info? 66).map (·.size) = some 2 := by kernel_rfl
theorem boxI_row (x : CV) (w : World) : Row (w.alloc (.cells #[.bool x.null, .int .i64 x.n, .string x.s] 36)) w.heap.size 36 [.bool x.null, .int .i64 x.n, .string x.s] := heap_alloc_new w _
theorem cellsP {w : World} {ad : Addr} {k : Nat} {p : Int × Int} (h : ∀ i, i < 2 → w.cell? (ad.add (k * 2 + i)) = (ipc p)[i]?) :
    w.cell? (ad.add (k * 2)) = some (.int .i64 p.1) ∧ w.cell? ⟨(ad.add (k * 2)).block, (ad.add (k * 2)).off + 1, none⟩ = some (.int .i64 p.2) := by
  refine ⟨h 0 (by omega), ?_⟩
  have h1 := h 1 (by omega); rw [← add_add] at h1; exact h1
set_option maxHeartbeats 1000000 in
theorem isplit_any (n : Int) (w : World) (h : inInt n) : Calls Tryz.prog 39 #[.int .i64 n] w fun e w' => e = .returned (ipv (iparts n)) ∧ Below w.heap.size w w' := by
  unfold inInt at h
  obtain ⟨h0, h1⟩ := h
  obtain ⟨p1, p2⟩ := parts_of n
  obtain ⟨t, ht⟩ : ∃ t, n.tdiv 1000 = t := ⟨_, rfl⟩
  obtain ⟨m, hm⟩ : ∃ m, n.tmod 1000 = m := ⟨_, rfl⟩
  rw [ht, hm] at p1 p2
  have b1 : -9223372036854776 ≤ t ∧ t ≤ 9223372036854776 := by omega
  have b2 : -1000 ≤ m ∧ m ≤ 1000 := by omega
  obtain ⟨w1, hw1⟩ : ∃ w1, w1 = w.alloc (.cells #[.int .i64 0, .int .i64 0] 66) := ⟨_, rfl⟩
  have z1 : w1.heap.size = w.heap.size + 1 := by rw [hw1]; simp
  have hz1 : Row w1 w.heap.size 66 [.int .i64 0, .int .i64 0] := by rw [hw1]; exact heap_alloc_new w _
  have hb1 : Below w.heap.size w w1 := by rw [hw1]; exact (Below.refl _ _).alloc (Nat.le_refl _) _
  obtain ⟨w2, hw2⟩ : ∃ w2, w2 = w1.alloc (.cells #[.int .i64 t, .int .i64 m] 66) := ⟨_, rfl⟩
  have hr2 : Row w2 (w.heap.size + 1) 66 [.int .i64 t, .int .i64 m] := by rw [hw2, ← z1]; exact heap_alloc_new w1 _
  have hz2 : Row w2 w.heap.size 66 [.int .i64 0, .int .i64 0] := by rw [hw2]; exact hz1.alloc _
  have hb2 : Below w.heap.size w w2 := by rw [hw2]; exact hb1.alloc (by omega) _
  by_cases hneg : m < 0
  · have d1 : decide (m < 0) = true := decide_eq_true hneg
    obtain ⟨e1, e2⟩ := p1 hneg
    obtain ⟨w3, hw3⟩ : ∃ w3, w3 = w2.setCell ⟨w.heap.size + 1, 0, none⟩ (.int .i64 (t - 1)) := ⟨_, rfl⟩
    have hr3 : Row w3 (w.heap.size + 1) 66 [.int .i64 (t - 1), .int .i64 m] := by rw [hw3]; exact hr2.set_ 0 _
    have hz3 : Row w3 w.heap.size 66 [.int .i64 0, .int .i64 0] := by rw [hw3]; exact hz2.far (p := ⟨w.heap.size + 1, 0, none⟩) (by simp) _
    have hb3 : Below w.heap.size w w3 := by rw [hw3]; exact hb2.setCell (p := ⟨w.heap.size + 1, 0, none⟩) (by simp) _
    obtain ⟨w4, hw4⟩ : ∃ w4, w4 = w3.setCell ⟨w.heap.size + 1, 1, none⟩ (.int .i64 (m + 1000)) := ⟨_, rfl⟩
    have hr4 : Row w4 (w.heap.size + 1) 66 [.int .i64 (t - 1), .int .i64 (m + 1000)] := by rw [hw4]; exact hr3.set_ 1 _
    have HZ4 : Hid (Row w4 w.heap.size 66 [.int .i64 0, .int .i64 0]) := Lib.hid (by rw [hw4]; exact hz3.far (p := ⟨w.heap.size + 1, 1, none⟩) (by simp) _)
    have HB4 : Hid (Below w.heap.size w w4) := Lib.hid (by rw [hw4]; exact hb3.setCell (p := ⟨w.heap.size + 1, 1, none⟩) (by simp) _)
    have a20 := hr2.cell 0
    have a21 := hr2.cell 1
    have f20 := hr2.free 0
    have a31 := hr3.cell 1
    have f31 := hr3.free 1
    have a40 := hr4.cell 0
    have a41 := hr4.cell 1
    have HE : Hid (ipc (iparts n) = [.int .i64 (t - 1), .int .i64 (m + 1000)]) := Lib.hid (by unfold ipc iparts; rw [e1, e2])
    obtain ⟨res, hres⟩ : ∃ r, r = ipc (iparts n) := ⟨_, rfl⟩
    rw [← hres] at HE
    unfold ipv
    rw [← hres]
    have hw5 : IntKind.i64.wrap (t - 1) = t - 1 := by rw [IntKind.wrap_i64]; omega
    have hw6 : IntKind.i64.wrap (m + 1000) = m + 1000 := by rw [IntKind.wrap_i64]; omega
    clear p1 p2 e1 e2 h0 h1 hr2 hz2 hb2 hr3 hz3 hb3 hr4 hz1 hb1 hres z1
    subst hw4
    subst hw3
    subst hw2
    subst hw1
    go_enter Tryz.func39, Tryz.ntmps39
    have hF1 : Row (w.alloc (.cells #[.int .i64 (t - 1), .int .i64 (m + 1000)] 66)) w.heap.size 66 [.int .i64 (t - 1), .int .i64 (m + 1000)] := heap_alloc_new w _
    have HR5 := Lib.hid (hF1.alloc (.cells #[.int .i64 (t - 1), .int .i64 (m + 1000)] 66))
    have HB5 := Lib.hid (show Below w.heap.size w ((w.alloc (.cells #[.int .i64 (t - 1), .int .i64 (m + 1000)] 66)).alloc (.cells #[.int .i64 (t - 1), .int .i64 (m + 1000)] 66)) from ((Below.refl _ _).alloc (Nat.le_refl _) _).alloc (by simp) _)
    clear hF1
    go_wp2
    refine bodyPost_ret (v := .agg #[.int .i64 (t - 1), .int .i64 (m + 1000)]) (results_cell_row rfl _ _ w.heap.size _ _ (0, 0) _ rfl HR5.out Tryz.underlying66 rfl (by kernel_rfl)) rfl ?_
    rw [HE.out]
    exact ⟨rfl, HB5.out⟩
  · have d1 : decide (m < 0) = false := decide_eq_false hneg
    obtain ⟨e1, e2⟩ := p2 hneg
    have HZ2 := Lib.hid hz2
    have HB2 := Lib.hid hb2
    have a20 := hr2.cell 0
    have a21 := hr2.cell 1
    have HE : Hid (ipc (iparts n) = [.int .i64 t, .int .i64 m]) := Lib.hid (by unfold ipc iparts; rw [e1, e2])
    obtain ⟨res, hres⟩ : ∃ r, r = ipc (iparts n) := ⟨_, rfl⟩
    rw [← hres] at HE
    unfold ipv
    rw [← hres]
    clear p1 p2 e1 e2 h0 h1 hr2 hz2 hb2 hz1 hb1 hres z1
    subst hw2
    subst hw1
    go_enter Tryz.func39, Tryz.ntmps39
    go_wp2_with (refine wpList_storeW rfl _ _ _ rfl w.heap.size 0 66 [.int .i64 0, .int .i64 0] [.int .i64 t, .int .i64 m] [.int .i64 t, .int .i64 m] rfl rfl rfl HZ2.out infoP_size (Nat.le_refl _) (ipc_one (t, m)) w w.heap.size HB2.out (Nat.le_refl _) ?_)
    intro w5 hr5 hb5 _
    have HR5 := Lib.hid hr5
    have HB5 := Lib.hid hb5
    clear hr5 hb5 a20 a21
    go_wp2
    refine bodyPost_ret (v := .agg #[.int .i64 t, .int .i64 m]) (results_cell_row rfl _ _ w.heap.size _ _ (0, 0) _ rfl HR5.out Tryz.underlying66 rfl (by kernel_rfl)) rfl ?_
    rw [HE.out]
    exact ⟨rfl, HB5.out⟩
theorem inum_fn (x : CV) (w : World) : Calls Tryz.prog 19 #[cv x] w fun e w' => e = .returned (.int .i64 x.n) ∧ Below w.heap.size w w' := by
  obtain ⟨xb, xn, xs⟩ := x
  have hA := boxI_row ⟨xb, xn, xs⟩ w
  have a0 := hA.cell 1
  have HBE := Lib.hid (show Below w.heap.size w (w.alloc (.cells #[.bool xb, .int .i64 xn, .string xs] 36)) from (Below.refl _ _).alloc (Nat.le_refl _) _)
  clear hA
  unfold cv
  go_enter Tryz.func19, Tryz.ntmps19
  go_wp2
  go_ret
  exact ⟨rfl, HBE.out⟩
theorem ione_fn (n : Int) (w : World) : Calls Tryz.prog 36 #[.int .i64 n] w fun e w' => e = .returned (.bool (n == 1)) ∧ Below w.heap.size w w' := by
  go_enter Tryz.func36, Tryz.ntmps36
  go_wp2
  go_ret
  exact ⟨rfl, Below.refl _ _⟩
theorem ifirst_fn (p : Int × Int) (w : World) : Calls Tryz.prog 61 #[ipv p] w fun e w' => e = .returned (.int .i64 p.1) ∧ Below w.heap.size w w' := by
  obtain ⟨x, y⟩ := p
  have hA : Row (w.alloc (.cells #[.int .i64 x, .int .i64 y] 66)) w.heap.size 66 [.int .i64 x, .int .i64 y] := heap_alloc_new w _
  have a0 := hA.cell 0
  have HBE := Lib.hid (show Below w.heap.size w (w.alloc (.cells #[.int .i64 x, .int .i64 y] 66)) from (Below.refl _ _).alloc (Nat.le_refl _) _)
  clear hA
  unfold ipv ipc
  dsimp only
  go_enter Tryz.func61, Tryz.ntmps61
  go_wp2
  go_ret
  exact ⟨rfl, HBE.out⟩
theorem isecond_fn (p : Int × Int) (w : World) : Calls Tryz.prog 62 #[ipv p] w fun e w' => e = .returned (.int .i64 p.2) ∧ Below w.heap.size w w' := by
  obtain ⟨x, y⟩ := p
  have hA : Row (w.alloc (.cells #[.int .i64 x, .int .i64 y] 66)) w.heap.size 66 [.int .i64 x, .int .i64 y] := heap_alloc_new w _
  have a0 := hA.cell 1
  have HBE := Lib.hid (show Below w.heap.size w (w.alloc (.cells #[.int .i64 x, .int .i64 y] 66)) from (Below.refl _ _).alloc (Nat.le_refl _) _)
  clear hA
  unfold ipv ipc
  dsimp only
  go_enter Tryz.func62, Tryz.ntmps62
  go_wp2
  go_ret
  exact ⟨rfl, HBE.out⟩
/-- What each has filled of a row of values of one cell each. -/
def IEachRel {β : Type} (T : List β) (t : TypeId) (f : β → Value) (m g : Nat) (w : World) (i : Value) (wr : World) : Prop :=
  ∃ (k : Nat) (o : List β), k ≤ m ∧ i = .int .i64 (k : Int) ∧ o.length = m ∧ o.take k = T.take k ∧ Row wr g t (o.map f) ∧ Below g w wr
/-- The same of structs. -/
def IEachWRel {β : Type} (T : List β) (t : TypeId) (f : β → List Value) (s m g : Nat) (w : World) (i : Value) (wr : World) : Prop :=
  ∃ (k : Nat) (rest : List Value), k ≤ m ∧ i = .int .i64 (k : Int) ∧ rest.length = (m - k) * s ∧ Row wr g t ((T.take k).flatMap f ++ rest) ∧ Below g w wr
theorem eachW_cells {β : Type} {f : β → List Value} {s : Nat} (hf : ∀ x, (f x).length = s) {T : List β} {rest : List Value} (k : Nat) (h : k < T.length) :
    ((T.take k).flatMap f ++ rest).take (k * s) ++ f T[k] ++ ((T.take k).flatMap f ++ rest).drop (k * s + (f T[k]).length) = (T.take (k + 1)).flatMap f ++ rest.drop s := by
  have hl1 : ((T.take k).flatMap f).length = k * s := by rw [flat_len hf, List.length_take, Nat.min_eq_left (by omega)]
  rw [List.take_append_of_le_length (by omega), List.take_of_length_le (by omega), List.drop_append, hl1, List.drop_of_length_le (by rw [hl1]; exact Nat.le_add_right _ _), List.take_succ_eq_append_getElem h, flat_snoc, hf, show k * s + s - k * s = s by omega, List.nil_append]
theorem elemPI : ElemW Tryz.prog 63 66 16 2 (ipv (0, 0)) := by
  refine ⟨Tryz.underlying63, rfl, by omega, ?_⟩
  have h : (Tryz.prog.info? 66).map (fun i => (i.zero, i.size, i.bytes)) = some (some (ipv (0, 0)), 2, 16) := by kernel_rfl
  cases hi : Tryz.prog.info? 66 with
  | none => rw [hi] at h; cases h
  | some i =>
    rw [hi] at h
    injection h with h
    injection h with h1 h
    injection h with h2 h3
    exact ⟨i, rfl, h1, h2, h3⟩
set_option maxHeartbeats 2000000 in
set_option maxRecDepth 100000 in
theorem ieach_nums (l : List (CV)) (v : Value) (w : World) (hv : IsR kcells l v w) (hb : l.length ≤ 1000000) :
    Calls Tryz.prog 18 #[v, .func (.func 19) #[] #[]] w fun e w' => ∃ u, e = .returned u ∧ IsV iv (l.map (·.n)) u w' ∧ Below w.heap.size w w' := by
  obtain ⟨A, n, c, rfl⟩ := hv.shape
  have HN := Lib.hid hv.parts.1
  have HV := Lib.hid hv
  have hn6 : n ≤ 1000000 := by have := HN.out; omega
  obtain ⟨T, hT⟩ : ∃ T : List (Int), T = l.map (·.n) := ⟨_, rfl⟩
  have HT := Lib.hid hT
  have HTL := Lib.hid (show T.length = n by rw [hT, List.length_map]; exact hv.parts.1)
  clear hv hb hT
  rw [← HT.out]
  go_enter Tryz.func18, Tryz.ntmps18
  go_wp2_with (refine wpList_make elemI rfl _ _ rfl _ _ _ _ n w w.heap.size rfl rfl rfl rfl (by omega) (by omega) (Below.refl _ _) (Nat.le_refl _) ?_)
  intro w1 hr1 hb1
  have HST := Lib.hid (show IEachRel T 3 iv n w.heap.size w (.int .i64 0) w1 from ⟨0, List.replicate n 0, by omega, rfl, by simp, by simp, by simpa [iv] using hr1, hb1⟩)
  clear hr1 hb1
  go_wp2
  go_loopw [13] (IEachRel T 3 iv n w.heap.size w) (fun i _ => n - (intOf i).toNat)
  case atStart => exact HST.out
  case round =>
    obtain ⟨k, o, hk, rfl, ho, hok, hr, hbr⟩ := hrel
    have HO := Lib.hid ho
    have HOK := Lib.hid hok
    clear ho hok
    by_cases hlt : k < n
    · have hkl : k < l.length := by have := HN.out; omega
      have hlti : (k : Int) < (n : Int) := by omega
      have hkT : k < T.length := by have := HTL.out; omega
      obtain ⟨ad, rfl, had, hcell⟩ := (HV.out.below hbr).at (m := 3) (fun _ => rfl) (by omega) hkl
      obtain ⟨x, hx⟩ : ∃ x, x = l[k] := ⟨_, rfl⟩
      rw [← hx] at hcell
      have HTK : Hid (T[k] = (·.n) x) := Lib.hid (by simp only [HT.out, List.getElem_map, ← hx])
      obtain ⟨k0, k1, k2⟩ := cells3 hcell
      obtain ⟨xb, xn, xs⟩ := x
      dsimp only at k0 k1 k2
      have hbx := boxI_row ⟨xb, xn, xs⟩ wr
      have b0 := hbx.cell 0
      have b1 := hbx.cell 1
      have b2 := hbx.cell 2
      have HR := Lib.hid hr
      have HBR := Lib.hid hbr
      have HS := Lib.hid (inum_fn ⟨xb, xn, xs⟩ (wr.alloc (.cells #[.bool xb, .int .i64 xn, .string xs] 36)))
      have hko : k < o.length := by have := HO.out; omega
      clear hcell had hx hr hbr
      go_wp2_with fail
      refine HS.out.mono ?_
      rintro e w2 ⟨rfl, hb2⟩
      have hrw := (HR.out.alloc (.cells #[.bool xb, .int .i64 xn, .string xs] 36)).below hb2 (HR.out.alloc _).lt
      have hbw := (HBR.out.alloc (by have := HR.out.lt; omega) (.cells #[.bool xb, .int .i64 xn, .string xs] 36)).trans (hb2.mono (by simp; have := HR.out.lt; omega))
      have hcx : w2.cell? ⟨w.heap.size, k, none⟩ = some (iv o[k]) := by rw [hrw.cell, List.getElem?_map, List.getElem?_eq_getElem hko]; rfl
      have hfx := hrw.free k
      have hr2 := hrw.set_ k (.int .i64 xn)
      rw [show (o.map iv).set k (.int .i64 xn) = (o.set k xn).map iv from List.map_set.symm] at hr2
      have HR2 := Lib.hid hr2
      have HBW := Lib.hid hbw
      clear hr2 hb2 hbw hrw hbx b0 b1 b2 k0 k1 k2
      go_wp2
      go_roundw
      case rel =>
        refine ⟨k + 1, o.set k xn, by omega, by go_num, by rw [List.length_set]; exact HO.out, ?_, HR2.out, HBW.out.setCell (Nat.le_refl _) _⟩
        rw [set_take _ _ _ hko, HOK.out, List.take_succ_eq_append_getElem hkT, HTK.out]
      case measure => simp [intOf]; omega
    · obtain rfl : k = n := by omega
      have hlti : ¬ (k : Int) < (k : Int) := by omega
      have HTO : Hid (o = T) := Lib.hid (by
        have h1 := HOK.out
        rw [List.take_of_length_le (by rw [HO.out]; omega), List.take_of_length_le (by rw [HTL.out]; omega)] at h1
        exact h1)
      have HR := Lib.hid hr
      have HBR := Lib.hid hbr
      clear hr hbr
      go_wp2
      go_ret
      refine ⟨_, rfl, ?_, HBR.out⟩
      rw [← HTO.out]
      exact isV_row HR.out HO.out (by omega)
set_option maxHeartbeats 2000000 in
set_option maxRecDepth 100000 in
theorem ieach_ones (l : List (Int)) (v : Value) (w : World) (hv : IsV iv l v w) (hb : l.length ≤ 1000000) :
    Calls Tryz.prog 35 #[v, .func (.func 36) #[] #[]] w fun e w' => ∃ u, e = .returned u ∧ IsV Value.bool (l.map (· == 1)) u w' ∧ Below w.heap.size w w' := by
  obtain ⟨A, n, c, rfl⟩ := hv.shape
  have HN := Lib.hid hv.parts.1
  have HV := Lib.hid hv
  have hn6 : n ≤ 1000000 := by have := HN.out; omega
  obtain ⟨T, hT⟩ : ∃ T : List (Bool), T = l.map (· == 1) := ⟨_, rfl⟩
  have HT := Lib.hid hT
  have HTL := Lib.hid (show T.length = n by rw [hT, List.length_map]; exact hv.parts.1)
  clear hv hb hT
  rw [← HT.out]
  go_enter Tryz.func35, Tryz.ntmps35
  go_wp2_with (refine wpList_make elemL rfl _ _ rfl _ _ _ _ n w w.heap.size rfl rfl rfl rfl (by omega) (by omega) (Below.refl _ _) (Nat.le_refl _) ?_)
  intro w1 hr1 hb1
  have HST := Lib.hid (show IEachRel T 4 Value.bool n w.heap.size w (.int .i64 0) w1 from ⟨0, List.replicate n false, by omega, rfl, by simp, by simp, by simpa [iv] using hr1, hb1⟩)
  clear hr1 hb1
  go_wp2
  go_loopw [13] (IEachRel T 4 Value.bool n w.heap.size w) (fun i _ => n - (intOf i).toNat)
  case atStart => exact HST.out
  case round =>
    obtain ⟨k, o, hk, rfl, ho, hok, hr, hbr⟩ := hrel
    have HO := Lib.hid ho
    have HOK := Lib.hid hok
    clear ho hok
    by_cases hlt : k < n
    · have hkl : k < l.length := by have := HN.out; omega
      have hlti : (k : Int) < (n : Int) := by omega
      have hkT : k < T.length := by have := HTL.out; omega
      obtain ⟨ad, rfl, had, hcell⟩ := (HV.out.below hbr).at hkl
      obtain ⟨x, hx⟩ : ∃ x, x = l[k] := ⟨_, rfl⟩
      rw [← hx] at hcell
      have HTK : Hid (T[k] = (· == 1) x) := Lib.hid (by simp only [HT.out, List.getElem_map, ← hx])
      have hcell2 : wr.cell? (ad.add k) = some (.int .i64 x) := hcell
      have HR := Lib.hid hr
      have HBR := Lib.hid hbr
      have HS := Lib.hid (ione_fn x wr)
      have hko : k < o.length := by have := HO.out; omega
      clear hcell had hx hr hbr
      go_wp2_with fail
      refine HS.out.mono ?_
      rintro e w2 ⟨rfl, hb2⟩
      have hrw := HR.out.below hb2 HR.out.lt
      have hbw := HBR.out.trans (hb2.mono (by have := HR.out.lt; omega))
      have hcx : w2.cell? ⟨w.heap.size, k, none⟩ = some (Value.bool o[k]) := by rw [hrw.cell, List.getElem?_map, List.getElem?_eq_getElem hko]; rfl
      have hfx := hrw.free k
      have hr2 := hrw.set_ k (.bool (x == 1))
      rw [show (o.map Value.bool).set k (.bool (x == 1)) = (o.set k (x == 1)).map Value.bool from List.map_set.symm] at hr2
      have HR2 := Lib.hid hr2
      have HBW := Lib.hid hbw
      clear hr2 hb2 hbw hrw hcell2
      go_wp2
      go_roundw
      case rel =>
        refine ⟨k + 1, o.set k (x == 1), by omega, by go_num, by rw [List.length_set]; exact HO.out, ?_, HR2.out, HBW.out.setCell (Nat.le_refl _) _⟩
        rw [set_take _ _ _ hko, HOK.out, List.take_succ_eq_append_getElem hkT, HTK.out]
      case measure => simp [intOf]; omega
    · obtain rfl : k = n := by omega
      have hlti : ¬ (k : Int) < (k : Int) := by omega
      have HTO : Hid (o = T) := Lib.hid (by
        have h1 := HOK.out
        rw [List.take_of_length_le (by rw [HO.out]; omega), List.take_of_length_le (by rw [HTL.out]; omega)] at h1
        exact h1)
      have HR := Lib.hid hr
      have HBR := Lib.hid hbr
      clear hr hbr
      go_wp2
      go_ret
      refine ⟨_, rfl, ?_, HBR.out⟩
      rw [← HTO.out]
      exact isV_row HR.out HO.out (by omega)
set_option maxHeartbeats 2000000 in
set_option maxRecDepth 100000 in
theorem ieach_parts (l : List (Int)) (v : Value) (w : World) (hv : IsV iv l v w) (hb : l.length ≤ 1000000) (hx : ∀ x ∈ l, inInt x) :
    Calls Tryz.prog 38 #[v, .func (.func 39) #[] #[]] w fun e w' => ∃ u, e = .returned u ∧ IsR ipc (l.map iparts) u w' ∧ Below w.heap.size w w' := by
  obtain ⟨A, n, c, rfl⟩ := hv.shape
  have HN := Lib.hid hv.parts.1
  have HV := Lib.hid hv
  have hn6 : n ≤ 1000000 := by have := HN.out; omega
  obtain ⟨T, hT⟩ : ∃ T : List (Int × Int), T = l.map iparts := ⟨_, rfl⟩
  have HT := Lib.hid hT
  have HTL := Lib.hid (show T.length = n by rw [hT, List.length_map]; exact hv.parts.1)
  have HX0 := Lib.hid hx
  clear hv hb hT hx
  rw [← HT.out]
  go_enter Tryz.func38, Tryz.ntmps38
  go_wp2_with (refine wpList_makeW elemPI (ipc (0, 0)) rfl rfl _ _ rfl _ _ _ _ n w w.heap.size rfl rfl rfl rfl (by omega) (by omega) (Below.refl _ _) (Nat.le_refl _) ?_)
  intro w1 hr1 hb1
  have hlen : ((List.replicate n (ipc (0, 0))).flatten).length = n * 2 := by rw [← flat_replicate (f := ipc) n (0, 0), flat_len (m := 2) (fun _ => rfl), List.length_replicate]
  have HST := Lib.hid (show IEachWRel T 66 ipc 2 n w.heap.size w (.int .i64 0) w1 from ⟨0, _, Nat.zero_le _, rfl, by simpa using hlen, hr1, hb1⟩)
  clear hr1 hb1 hlen
  go_wp2
  go_loopw [13] (IEachWRel T 66 ipc 2 n w.heap.size w) (fun i _ => n - (intOf i).toNat)
  case atStart => exact HST.out
  case round =>
    obtain ⟨k, rest, hk, rfl, hrl, hr, hbr⟩ := hrel
    have HRL := Lib.hid hrl
    clear hrl
    by_cases hlt : k < n
    · have hkl : k < l.length := by have := HN.out; omega
      have hlti : (k : Int) < (n : Int) := by omega
      have hkT : k < T.length := by have := HTL.out; omega
      obtain ⟨ad, rfl, had, hcell⟩ := (HV.out.below hbr).at hkl
      obtain ⟨x, hx⟩ : ∃ x, x = l[k] := ⟨_, rfl⟩
      rw [← hx] at hcell
      have hxin := HX0.out x (by rw [hx]; exact List.getElem_mem hkl)
      have HTK : Hid (T[k] = iparts x) := Lib.hid (by simp only [HT.out, List.getElem_map, ← hx])
      have hcell2 : wr.cell? (ad.add k) = some (.int .i64 x) := hcell
      have HR := Lib.hid hr
      have HBR := Lib.hid hbr
      have HS := Lib.hid (isplit_any x wr hxin)
      clear hcell had hx hr hbr hxin
      go_wp2_with fail
      refine HS.out.mono ?_
      rintro e w2 ⟨rfl, hb2⟩
      have hrw := HR.out.below hb2 HR.out.lt
      have hbw := HBR.out.trans (hb2.mono (by have := HR.out.lt; omega))
      have HFIT : Hid (k * 2 + (ipc (iparts x)).length ≤ ((T.take k).flatMap ipc ++ rest).length) := Lib.hid (by
        rw [List.length_append, flat_len (m := 2) (fun _ => rfl), List.length_take, Nat.min_eq_left (by omega), HRL.out, show (ipc (iparts x)).length = 2 from rfl]; omega)
      have HNEW := Lib.hid (eachW_cells (f := ipc) (s := 2) (fun _ => rfl) (rest := rest) k hkT)
      rw [HTK.out] at HNEW
      have HRD := Lib.hid (show (rest.drop 2).length = (n - (k + 1)) * 2 by rw [List.length_drop, HRL.out]; omega)
      have HBW := Lib.hid hbw
      clear hb2 hbw hcell2
      go_wp2_with (refine wpList_storeW rfl 66 _ _ rfl w.heap.size (k * 2) 66 ((T.take k).flatMap ipc ++ rest) (ipc (iparts x)) _ HNEW.out rfl rfl hrw infoP_size HFIT.out (ipc_one _) w w.heap.size HBW.out (Nat.le_refl _) ?_)
      intro w3 hr3 hb3 _
      have HR3 : Hid (Row w3 w.heap.size 66 ((T.take (k + 1)).flatMap ipc ++ rest.drop 2)) := Lib.hid (by simpa using hr3)
      have HB3 := Lib.hid hb3
      clear hr3 hb3 hrw
      go_wp2
      go_roundw
      case rel => exact ⟨k + 1, rest.drop 2, hlt, by go_num, HRD.out, HR3.out, HB3.out⟩
      case measure => simp [intOf]; omega
    · obtain rfl : k = n := by omega
      have hlti : ¬ (k : Int) < (k : Int) := by omega
      obtain rfl : rest = [] := List.eq_nil_of_length_eq_zero (by rw [HRL.out]; omega)
      have HR : Hid (Row wr w.heap.size 66 (T.flatMap ipc)) := Lib.hid (by
        have h := hr
        rw [List.append_nil, List.take_of_length_le (by rw [HTL.out]; omega)] at h
        exact h)
      have HBR := Lib.hid hbr
      clear hr hbr
      go_wp2
      go_ret
      exact ⟨_, rfl, isR_row HR.out HTL.out (by omega), HBR.out⟩
set_option maxHeartbeats 2000000 in
set_option maxRecDepth 100000 in
theorem ieach_first (l : List (Int × Int)) (v : Value) (w : World) (hv : IsR ipc l v w) (hb : l.length ≤ 1000000) :
    Calls Tryz.prog 60 #[v, .func (.func 61) #[] #[]] w fun e w' => ∃ u, e = .returned u ∧ IsV iv (l.map (·.1)) u w' ∧ Below w.heap.size w w' := by
  obtain ⟨A, n, c, rfl⟩ := hv.shape
  have HN := Lib.hid hv.parts.1
  have HV := Lib.hid hv
  have hn6 : n ≤ 1000000 := by have := HN.out; omega
  obtain ⟨T, hT⟩ : ∃ T : List (Int), T = l.map (·.1) := ⟨_, rfl⟩
  have HT := Lib.hid hT
  have HTL := Lib.hid (show T.length = n by rw [hT, List.length_map]; exact hv.parts.1)
  clear hv hb hT
  rw [← HT.out]
  go_enter Tryz.func60, Tryz.ntmps60
  go_wp2_with (refine wpList_make elemI rfl _ _ rfl _ _ _ _ n w w.heap.size rfl rfl rfl rfl (by omega) (by omega) (Below.refl _ _) (Nat.le_refl _) ?_)
  intro w1 hr1 hb1
  have HST := Lib.hid (show IEachRel T 3 iv n w.heap.size w (.int .i64 0) w1 from ⟨0, List.replicate n 0, by omega, rfl, by simp, by simp, by simpa [iv] using hr1, hb1⟩)
  clear hr1 hb1
  go_wp2
  go_loopw [13] (IEachRel T 3 iv n w.heap.size w) (fun i _ => n - (intOf i).toNat)
  case atStart => exact HST.out
  case round =>
    obtain ⟨k, o, hk, rfl, ho, hok, hr, hbr⟩ := hrel
    have HO := Lib.hid ho
    have HOK := Lib.hid hok
    clear ho hok
    by_cases hlt : k < n
    · have hkl : k < l.length := by have := HN.out; omega
      have hlti : (k : Int) < (n : Int) := by omega
      have hkT : k < T.length := by have := HTL.out; omega
      obtain ⟨ad, rfl, had, hcell⟩ := (HV.out.below hbr).at (m := 2) (fun _ => rfl) (by omega) hkl
      obtain ⟨x, hx⟩ : ∃ x, x = l[k] := ⟨_, rfl⟩
      rw [← hx] at hcell
      have HTK : Hid (T[k] = (·.1) x) := Lib.hid (by simp only [HT.out, List.getElem_map, ← hx])
      obtain ⟨k0, k1⟩ := cellsP hcell
      obtain ⟨xp, xq⟩ := x
      dsimp only at k0 k1
      have hbx : Row (wr.alloc (.cells #[.int .i64 xp, .int .i64 xq] 66)) wr.heap.size 66 [.int .i64 xp, .int .i64 xq] := heap_alloc_new wr _
      have b0 := hbx.cell 0
      have b1 := hbx.cell 1
      have HR := Lib.hid hr
      have HBR := Lib.hid hbr
      have HS := Lib.hid (ifirst_fn (xp, xq) (wr.alloc (.cells #[.int .i64 xp, .int .i64 xq] 66)))
      have hko : k < o.length := by have := HO.out; omega
      clear hcell had hx hr hbr
      unfold ipv ipc at HS
      dsimp only at HS
      go_wp2_with fail
      refine HS.out.mono ?_
      rintro e w2 ⟨rfl, hb2⟩
      have hrw := (HR.out.alloc (.cells #[.int .i64 xp, .int .i64 xq] 66)).below hb2 (HR.out.alloc _).lt
      have hbw := (HBR.out.alloc (by have := HR.out.lt; omega) (.cells #[.int .i64 xp, .int .i64 xq] 66)).trans (hb2.mono (by simp; have := HR.out.lt; omega))
      have hcx : w2.cell? ⟨w.heap.size, k, none⟩ = some (iv o[k]) := by rw [hrw.cell, List.getElem?_map, List.getElem?_eq_getElem hko]; rfl
      have hfx := hrw.free k
      have hr2 := hrw.set_ k (.int .i64 xp)
      rw [show (o.map iv).set k (.int .i64 xp) = (o.set k xp).map iv from List.map_set.symm] at hr2
      have HR2 := Lib.hid hr2
      have HBW := Lib.hid hbw
      clear hr2 hb2 hbw hrw hbx b0 b1 k0 k1
      go_wp2
      go_roundw
      case rel =>
        refine ⟨k + 1, o.set k xp, by omega, by go_num, by rw [List.length_set]; exact HO.out, ?_, HR2.out, HBW.out.setCell (Nat.le_refl _) _⟩
        rw [set_take _ _ _ hko, HOK.out, List.take_succ_eq_append_getElem hkT, HTK.out]
      case measure => simp [intOf]; omega
    · obtain rfl : k = n := by omega
      have hlti : ¬ (k : Int) < (k : Int) := by omega
      have HTO : Hid (o = T) := Lib.hid (by
        have h1 := HOK.out
        rw [List.take_of_length_le (by rw [HO.out]; omega), List.take_of_length_le (by rw [HTL.out]; omega)] at h1
        exact h1)
      have HR := Lib.hid hr
      have HBR := Lib.hid hbr
      clear hr hbr
      go_wp2
      go_ret
      refine ⟨_, rfl, ?_, HBR.out⟩
      rw [← HTO.out]
      exact isV_row HR.out HO.out (by omega)
set_option maxHeartbeats 2000000 in
set_option maxRecDepth 100000 in
theorem ieach_second (l : List (Int × Int)) (v : Value) (w : World) (hv : IsR ipc l v w) (hb : l.length ≤ 1000000) :
    Calls Tryz.prog 60 #[v, .func (.func 62) #[] #[]] w fun e w' => ∃ u, e = .returned u ∧ IsV iv (l.map (·.2)) u w' ∧ Below w.heap.size w w' := by
  obtain ⟨A, n, c, rfl⟩ := hv.shape
  have HN := Lib.hid hv.parts.1
  have HV := Lib.hid hv
  have hn6 : n ≤ 1000000 := by have := HN.out; omega
  obtain ⟨T, hT⟩ : ∃ T : List (Int), T = l.map (·.2) := ⟨_, rfl⟩
  have HT := Lib.hid hT
  have HTL := Lib.hid (show T.length = n by rw [hT, List.length_map]; exact hv.parts.1)
  clear hv hb hT
  rw [← HT.out]
  go_enter Tryz.func60, Tryz.ntmps60
  go_wp2_with (refine wpList_make elemI rfl _ _ rfl _ _ _ _ n w w.heap.size rfl rfl rfl rfl (by omega) (by omega) (Below.refl _ _) (Nat.le_refl _) ?_)
  intro w1 hr1 hb1
  have HST := Lib.hid (show IEachRel T 3 iv n w.heap.size w (.int .i64 0) w1 from ⟨0, List.replicate n 0, by omega, rfl, by simp, by simp, by simpa [iv] using hr1, hb1⟩)
  clear hr1 hb1
  go_wp2
  go_loopw [13] (IEachRel T 3 iv n w.heap.size w) (fun i _ => n - (intOf i).toNat)
  case atStart => exact HST.out
  case round =>
    obtain ⟨k, o, hk, rfl, ho, hok, hr, hbr⟩ := hrel
    have HO := Lib.hid ho
    have HOK := Lib.hid hok
    clear ho hok
    by_cases hlt : k < n
    · have hkl : k < l.length := by have := HN.out; omega
      have hlti : (k : Int) < (n : Int) := by omega
      have hkT : k < T.length := by have := HTL.out; omega
      obtain ⟨ad, rfl, had, hcell⟩ := (HV.out.below hbr).at (m := 2) (fun _ => rfl) (by omega) hkl
      obtain ⟨x, hx⟩ : ∃ x, x = l[k] := ⟨_, rfl⟩
      rw [← hx] at hcell
      have HTK : Hid (T[k] = (·.2) x) := Lib.hid (by simp only [HT.out, List.getElem_map, ← hx])
      obtain ⟨k0, k1⟩ := cellsP hcell
      obtain ⟨xp, xq⟩ := x
      dsimp only at k0 k1
      have hbx : Row (wr.alloc (.cells #[.int .i64 xp, .int .i64 xq] 66)) wr.heap.size 66 [.int .i64 xp, .int .i64 xq] := heap_alloc_new wr _
      have b0 := hbx.cell 0
      have b1 := hbx.cell 1
      have HR := Lib.hid hr
      have HBR := Lib.hid hbr
      have HS := Lib.hid (isecond_fn (xp, xq) (wr.alloc (.cells #[.int .i64 xp, .int .i64 xq] 66)))
      have hko : k < o.length := by have := HO.out; omega
      clear hcell had hx hr hbr
      unfold ipv ipc at HS
      dsimp only at HS
      go_wp2_with fail
      refine HS.out.mono ?_
      rintro e w2 ⟨rfl, hb2⟩
      have hrw := (HR.out.alloc (.cells #[.int .i64 xp, .int .i64 xq] 66)).below hb2 (HR.out.alloc _).lt
      have hbw := (HBR.out.alloc (by have := HR.out.lt; omega) (.cells #[.int .i64 xp, .int .i64 xq] 66)).trans (hb2.mono (by simp; have := HR.out.lt; omega))
      have hcx : w2.cell? ⟨w.heap.size, k, none⟩ = some (iv o[k]) := by rw [hrw.cell, List.getElem?_map, List.getElem?_eq_getElem hko]; rfl
      have hfx := hrw.free k
      have hr2 := hrw.set_ k (.int .i64 xq)
      rw [show (o.map iv).set k (.int .i64 xq) = (o.set k xq).map iv from List.map_set.symm] at hr2
      have HR2 := Lib.hid hr2
      have HBW := Lib.hid hbw
      clear hr2 hb2 hbw hrw hbx b0 b1 k0 k1
      go_wp2
      go_roundw
      case rel =>
        refine ⟨k + 1, o.set k xq, by omega, by go_num, by rw [List.length_set]; exact HO.out, ?_, HR2.out, HBW.out.setCell (Nat.le_refl _) _⟩
        rw [set_take _ _ _ hko, HOK.out, List.take_succ_eq_append_getElem hkT, HTK.out]
      case measure => simp [intOf]; omega
    · obtain rfl : k = n := by omega
      have hlti : ¬ (k : Int) < (k : Int) := by omega
      have HTO : Hid (o = T) := Lib.hid (by
        have h1 := HOK.out
        rw [List.take_of_length_le (by rw [HO.out]; omega), List.take_of_length_le (by rw [HTL.out]; omega)] at h1
        exact h1)
      have HR := Lib.hid hr
      have HBR := Lib.hid hbr
      clear hr hbr
      go_wp2
      go_ret
      refine ⟨_, rfl, ?_, HBR.out⟩
      rw [← HTO.out]
      exact isV_row HR.out HO.out (by omega)
end Go.Proofs.YtlibofmpnlfelaaGreatDoor

/- ints' own contracts: times. Written by gen_itimes.py. -/





namespace Go.Proofs.YtlibofmpnlfelaaGreatDoor

open Go.RowKit

/-- What stands in a row of numbers, where it is there. -/
def RetNB (w : World) (o : Option (List Int)) (e : Ending) (w' : World) : Prop := ∃ u, e = .returned (.tuple #[u, .bool o.isSome]) ∧ (∀ l, o = some l → IsV iv l u w') ∧ Below w.heap.size w w'
theorem RetNB.none {w w' : World} (h : Below w.heap.size w w') : RetNB w .none (.returned (.tuple #[.slice .none 0 0, .bool false])) w' := ⟨_, rfl, (fun _ h => by cases h), h⟩
end Go.Proofs.YtlibofmpnlfelaaGreatDoor

/- ints' own contracts: Put's closure with slices.IndexFunc and slices.ContainsFunc, layTimes, lay, numbers; Put, Take. -/



namespace Go.Proofs.YtlibofmpnlfelaaGreatDoor

open Go.RowKit

def iwrong (k : Int) (x : CV) : Bool := x.null || !kmay k x
theorem imay_wrong (k : Int) : ∀ l : List CV, l.any (iwrong k) = !(imay k l)
  | [] => rfl
  | x :: l => by
    show (iwrong k x || l.any (iwrong k)) = !((!x.null && kmay k x) && imay k l)
    rw [imay_wrong k l]
    unfold iwrong
    cases x.null <;> cases kmay k x <;> cases imay k l <;> rfl
theorem iwrong_any (k : Int) (x : CV) (b : Nat) (w : World) (hk : inInt k) (hx : x.inInt) (hs : x.s.size ≤ maxLen) (hr : Row w b 3 [.int .i64 k]) :
    Calls Tryz.prog 15 #[cv x, .pointer (some ⟨b, 0, none⟩)] w fun e w' => e = .returned (.bool (iwrong k x)) ∧ Below w.heap.size w w' := by
  obtain ⟨xb, xn, xs⟩ := x
  have HM := Lib.hid (kmay_any k ⟨xb, xn, xs⟩ (w.alloc (.cells #[.bool xb, .int .i64 xn, .string xs] 36)) hk hx hs)
  have hA := boxI_row ⟨xb, xn, xs⟩ w
  have a0 := hA.cell 0
  have a1 := hA.cell 1
  have a2 := hA.cell 2
  have hc := (hr.alloc (.cells #[.bool xb, .int .i64 xn, .string xs] 36)).cell 0
  have hc2 : (w.alloc (.cells #[.bool xb, .int .i64 xn, .string xs] 36)).cell? ⟨b, 0, none⟩ = some (.int .i64 k) := hc
  have HB := Lib.hid (show Below w.heap.size w (w.alloc (.cells #[.bool xb, .int .i64 xn, .string xs] 36)) from (Below.refl _ _).alloc (Nat.le_refl _) _)
  obtain ⟨q, hq⟩ : ∃ q, q = kmay k ⟨xb, xn, xs⟩ := ⟨_, rfl⟩
  have HW := Lib.hid (show iwrong k ⟨xb, xn, xs⟩ = (xb || !q) by rw [hq]; rfl)
  rw [← hq] at HM
  clear hA hc hr hk hx hs hq
  rw [HW.out]
  unfold cv at HM ⊢
  dsimp only at HM ⊢
  cases xb with
  | true =>
    go_enter Tryz.func15, Tryz.ntmps15
    go_wp2
    go_ret
    exact ⟨rfl, HB.out⟩
  | false =>
    go_enter Tryz.func15, Tryz.ntmps15
    go_wp2_with fail
    refine HM.out.mono ?_
    rintro e w2 ⟨rfl, hb2⟩
    have HB2 := Lib.hid (below_then HB.out hb2)
    clear hb2 a0 a1 a2 hc2
    go_wp2
    go_ret
    exact ⟨rfl, HB2.out⟩
def IIdxRel (l : List CV) (p : CV → Bool) (w : World) (i : Value) (wr : World) : Prop := ∃ k : Nat, k ≤ l.length ∧ i = .int .i64 (k : Int) ∧ (l.take k).any p = false ∧ Below w.heap.size w wr
set_option maxHeartbeats 2000000 in
set_option maxRecDepth 100000 in
theorem iindex_any (l : List CV) (v : Value) (b : Nat) (q : Int) (w : World) (hv : IsR kcells l v w) (hr : Row w b 3 [.int .i64 q]) (hb : l.length ≤ 1000000) (hq : inInt q) (hi : ∀ x ∈ l, x.inInt) (hs : ∀ x ∈ l, x.s.size ≤ maxLen) :
    Calls Tryz.prog 31 #[v, .func (.func 15) #[] #[.pointer (some ⟨b, 0, none⟩)]] w
      fun e w' => (∃ r : Int, e = .returned (.int .i64 r) ∧ decide (0 ≤ r) = l.any (iwrong q)) ∧ Below w.heap.size w w' := by
  obtain ⟨A, n, c, rfl⟩ := hv.shape
  have HN := Lib.hid hv.parts.1
  have HV := Lib.hid hv
  have HR := Lib.hid hr
  have HQ := Lib.hid hq
  have HI := Lib.hid hi
  have HSZ := Lib.hid hs
  have hn6 : n ≤ 1000000 := by have := HN.out; omega
  have HS := Lib.hid (show IIdxRel l (iwrong q) w (.int .i64 0) w from ⟨0, Nat.zero_le _, rfl, rfl, Below.refl _ _⟩)
  clear hv hb hr hq hi hs
  go_enter Tryz.func31, Tryz.ntmps31
  go_wp2
  go_loopw [8] (IIdxRel l (iwrong q) w) (fun i _ => n - (intOf i).toNat)
  case atStart => exact HS.out
  case round =>
    obtain ⟨k, hk, rfl, hs, hbw⟩ := hrel
    have HSM := Lib.hid hs
    have HB := Lib.hid hbw
    have hkn : k ≤ n := by have := HN.out; omega
    clear hs hk
    by_cases hlt : k < n
    · have hkl : k < l.length := by have := HN.out; omega
      have hlti : (k : Int) < (n : Int) := by omega
      obtain ⟨ad, rfl, had, hcell⟩ := (HV.out.below hbw).at (m := 3) (fun _ => rfl) (by omega) hkl
      obtain ⟨x, hx⟩ : ∃ x, x = l[k] := ⟨_, rfl⟩
      rw [← hx] at hcell
      obtain ⟨k0, k1, k2⟩ := cells3 hcell
      have hxm : x ∈ l := by rw [hx]; exact List.getElem_mem hkl
      have HL := Lib.hid (iwrong_any q x b wr HQ.out (HI.out x hxm) (HSZ.out x hxm) (HR.out.below hbw HR.out.lt))
      have HSN := Lib.hid (show (l.take (k + 1)).any (iwrong q) = iwrong q x by rw [List.take_succ_eq_append_getElem hkl, List.any_append, HSM.out, hx]; simp)
      have HAL := Lib.hid (show iwrong q x = true → l.any (iwrong q) = true from fun h => List.any_eq_true.2 ⟨x, hxm, h⟩)
      obtain ⟨xb, xn, xs⟩ := x
      dsimp only at k0 k1 k2
      clear hcell hx hbw hxm
      generalize hq : iwrong q ⟨xb, xn, xs⟩ = p at HL HSN HAL
      clear hq
      unfold cv at HL
      dsimp only at HL
      cases p with
      | true =>
        have HA := Lib.hid (HAL.out rfl)
        go_wp2_with fail
        refine HL.out.mono ?_
        rintro e w1 ⟨rfl, hb1⟩
        have HB1 := Lib.hid (below_then HB.out hb1)
        clear hb1 k0 k1 k2
        go_wp2
        go_ret
        exact ⟨⟨_, rfl, by rw [HA.out]; exact decide_eq_true (by omega)⟩, HB1.out⟩
      | false =>
        go_wp2_with fail
        refine HL.out.mono ?_
        rintro e w1 ⟨rfl, hb1⟩
        have HB1 := Lib.hid (below_then HB.out hb1)
        clear hb1 k0 k1 k2
        go_wp2
        go_roundw
        case rel => exact ⟨k + 1, hkl, by go_num, HSN.out, HB1.out⟩
        case measure => simp [intOf]; omega
    · obtain rfl : k = n := by omega
      have hlti : ¬ (k : Int) < (k : Int) := by omega
      have HA := Lib.hid HSM.out
      rw [List.take_of_length_le (by have := HN.out; omega)] at HA
      go_wp2
      go_ret
      exact ⟨⟨_, rfl, by rw [HA.out]; rfl⟩, HB.out⟩
theorem icontains_any (l : List CV) (v : Value) (b : Nat) (q : Int) (w : World) (hv : IsR kcells l v w) (hr : Row w b 3 [.int .i64 q]) (hb : l.length ≤ 1000000) (hq : inInt q) (hi : ∀ x ∈ l, x.inInt) (hs : ∀ x ∈ l, x.s.size ≤ maxLen) :
    Calls Tryz.prog 14 #[v, .func (.func 15) #[] #[.pointer (some ⟨b, 0, none⟩)]] w
      fun e w' => e = .returned (.bool (!imay q l)) ∧ Below w.heap.size w w' := by
  have HI := Lib.hid (iindex_any l v b q w hv hr hb hq hi hs)
  rw [← imay_wrong]
  clear hv hr hb hq hi hs
  go_enter Tryz.func14, Tryz.ntmps14
  go_wp2_with fail
  refine HI.out.mono ?_
  rintro e w1 ⟨⟨r, rfl, hr⟩, hb1⟩
  have HB := Lib.hid hb1
  clear hb1
  go_wp2
  go_ret
  exact ⟨rfl, HB.out⟩
def ifirstN (ns : List Int) : List Int := ns.map (· / 1000)
def isecondN (ns : List Int) : List Int := ns.map (· % 1000)
theorem ifirstN_in {ns : List Int} (h : ∀ n ∈ ns, inInt n) : ∀ x ∈ ifirstN ns, inInt x := by
  intro x hx
  obtain ⟨y, hy, rfl⟩ := List.mem_map.1 hx
  have := h y hy
  unfold inInt at this ⊢
  omega
theorem isecondN_in (ns : List Int) : ∀ x ∈ isecondN ns, inInt x ∧ 0 ≤ x := by
  intro x hx
  obtain ⟨y, hy, rfl⟩ := List.mem_map.1 hx
  unfold inInt
  omega
theorem ipc_first (ns : List Int) : (ns.map iparts).map (·.1) = ifirstN ns := by rw [List.map_map]; rfl
theorem ipc_second (ns : List Int) : (ns.map iparts).map (·.2) = isecondN ns := by rw [List.map_map]; rfl
set_option maxHeartbeats 4000000 in
set_option maxRecDepth 100000 in
theorem ilayt_any (ns : List Int) (v : Value) (w : World) (ht : WTab w) (hv : IsR ipc (ns.map iparts) v w) (hi : ∀ n ∈ ns, inInt n) (hl : ns.length ≤ 4096) :
    Calls Tryz.prog 37 #[v] w (RetE w ((uputE (ifirstN ns) true).1 ++ (uputE (isecondN ns) false).1, 0)) := by
  have HV := Lib.hid hv
  have HT := Lib.hid ht
  have hpl : (ns.map iparts).length ≤ 1000000 := by rw [List.length_map]; omega
  have hE1 := ieach_first (ns.map iparts) v w hv hpl
  rw [ipc_first] at hE1
  have HE1 := Lib.hid hE1
  have HE2 := Lib.hid (fun X (h : Below w.heap.size w X) => ieach_second (ns.map iparts) v X (hv.below h) hpl)
  rw [ipc_second] at HE2
  obtain ⟨pf, hpf⟩ : ∃ pf, pf = ifirstN ns := ⟨_, rfl⟩
  obtain ⟨ps, hps⟩ : ∃ ps, ps = isecondN ns := ⟨_, rfl⟩
  have hfi := ifirstN_in hi
  have hsi := isecondN_in ns
  have hfl : pf.length ≤ 4096 := by rw [hpf]; unfold ifirstN; rw [List.length_map]; exact hl
  have hsl : ps.length ≤ 4096 := by rw [hps]; unfold isecondN; rw [List.length_map]; exact hl
  rw [← hpf] at HE1 hfi ⊢
  rw [← hps] at HE2 hsi ⊢
  obtain ⟨a1, a2⟩ := uput_ok (l := pf) (s := true) hfl hfi (dplain_of fun _ _ => .inl rfl)
  obtain ⟨b1, b2⟩ := uput_ok (l := ps) (s := false) hsl (fun x hx => (hsi x hx).1) (dplain_of fun x hx => .inr (hsi x hx).2)
  obtain ⟨fa, hfa⟩ : ∃ fa, fa = (uputN true pf.length pf).1 := ⟨_, rfl⟩
  obtain ⟨fb, hfb⟩ : ∃ fb, fb = (uputN false ps.length ps).1 := ⟨_, rfl⟩
  rw [← hfa] at a1 a2
  rw [← hfb] at b1 b2
  have HP1 := Lib.hid (fun u X (hT : WTab X) (h : IsV iv pf u X) => uput_own pf u true X hT h hfi)
  have HP2 := Lib.hid (fun u X (hT : WTab X) (h : IsV iv ps u X) => uput_any ps u false X hT h (fun x hx => (hsi x hx).1) (by omega))
  rw [a1] at HP1 ⊢
  rw [b1] at HP2 ⊢
  dsimp only
  clear hv ht hpl hE1 hpf hps hfi hsi hfl hsl a1 b1 hfa hfb hi
  go_enter Tryz.func37, Tryz.ntmps37
  go_wp2_with fail
  refine HE1.out.mono ?_
  rintro e w1 ⟨u1, rfl, hu1, hb1⟩
  have HT1 := Lib.hid (HT.out.below hb1 HT.out.lt)
  have HC1 := Lib.hid (HP1.out u1 w1 HT1.out hu1)
  have HB1 := Lib.hid hb1
  clear hu1 hb1
  go_wp2_with fail
  refine HC1.out.mono ?_
  rintro e w2 ⟨b3, rfl, hb3v, hb2⟩
  have HB2 := Lib.hid (below_then HB1.out hb2)
  have HT2 := Lib.hid (HT1.out.below hb2 HT1.out.lt)
  have HO2 := Lib.hid (ownW_base HB1.out.size hb3v)
  have HC2 := Lib.hid (HE2.out w2 HB2.out)
  clear hb2 hb3v
  go_wp2_with fail
  refine HC2.out.mono ?_
  rintro e w3 ⟨u3, rfl, hu3, hb3⟩
  have HB3 := Lib.hid (below_then HB2.out hb3)
  have HT3 := Lib.hid (HT2.out.below hb3 HT2.out.lt)
  have HO3 := Lib.hid (own_below HO2.out hb3)
  have HC3 := Lib.hid (HP2.out u3 w3 HT3.out hu3)
  clear hu3 hb3
  go_wp2_with fail
  refine HC3.out.mono ?_
  rintro e w4 ⟨b4, rfl, hb4v, hb4⟩
  obtain ⟨A4, n4, c4, rfl⟩ := IsV.shape (f := bv) hb4v
  obtain ⟨hn4, hA4, -, -, hl4⟩ := IsV.parts (f := bv) (show IsV bv fb _ _ from hb4v)
  have hn4b : n4 ≤ 40960 := by omega
  have HM4 := Lib.hid (show (fb.map bv).length = n4 by rw [List.length_map]; exact hn4)
  have hown4 := own_below HO3.out hb4
  have hb4w := below_then HB3.out hb4
  have hz4 := hb4w.size
  obtain ⟨fl, hfl⟩ : ∃ fl, fl = fa.length := ⟨_, rfl⟩
  have hown4' : w4.ownsRow w.heap.size 5 1 b3 fl (fa.map bv) := by rw [hfl]; exact hown4
  have hfl4 : fl ≤ 40960 := by omega
  clear hb4v hn4 hb4 hown4 hfl
  go_wp2_with (at_builtin; refine wpList_join elemB rfl _ _ rfl w.heap.size _ _ _ _ _ _ (fb.map bv) w rfl rfl hA4 HM4.out hl4 (bv_one _) hown4' hb4w hz4 (by omega) (by omega) ?_)
  intro v5 w5 hown5 hb5 _ _
  have HI5 := Lib.hid (show IsB (fa ++ fb) v5 w5 from isB_own (by rw [List.map_append]; exact hown5))
  have HB5 := Lib.hid hb5
  clear hown5 hb5 hown4' hb4w hz4 hl4 hA4
  go_wp2
  go_ret2
  exact ⟨_, rfl, HI5.out, HB5.out⟩
/-- What lay answers. -/
def ilayE (k : Int) (ns : List Int) : List UInt8 × Int := if k = 1 then qputE (ns.map (· == 1)) else if k = 5 then ((uputE (ifirstN ns) true).1 ++ (uputE (isecondN ns) false).1, 0) else uputE ns true
theorem iputE_lay {k : Int} {l : List CV} (h : knumber k = true) (h4 : ¬ 4096 < l.length) (hm : imay k l = true) : iputE k l = ilayE k (l.map (·.n)) := by
  rw [iputE_in h h4 hm]
  unfold ilayE ifirst isecond ifirstN isecondN
  rw [List.map_map, List.map_map, List.map_map]
  rfl
set_option maxHeartbeats 2000000 in
theorem ilay_any (k : Int) (ns : List Int) (v : Value) (w : World) (ht : WTab w) (hv : IsV iv ns v w) (hi : ∀ n ∈ ns, inInt n) (hl : ns.length ≤ 4096) :
    Calls Tryz.prog 17 #[.int .i64 k, v] w (RetE w (ilayE k ns)) := by
  unfold ilayE
  by_cases hk1 : k = 1
  · subst hk1
    rw [if_pos rfl]
    have HE := Lib.hid (ieach_ones ns v w hv (by omega))
    have HP := Lib.hid (fun u X (h : IsV Value.bool (ns.map (· == 1)) u X) => qput_any _ u X h (by rw [List.length_map]; omega))
    generalize ns.map (· == 1) = bs at HE HP ⊢
    generalize qputE bs = p at HP ⊢
    clear hv ht hi
    go_enter Tryz.func17, Tryz.ntmps17
    go_wp2_with fail
    refine HE.out.mono ?_
    rintro e w1 ⟨u1, rfl, hu1, hb1⟩
    have HC := Lib.hid (HP.out u1 w1 hu1)
    have HB1 := Lib.hid hb1
    clear hu1 hb1
    go_wp2_with fail
    refine HC.out.mono ?_
    rintro e w2 ⟨b2, rfl, hb2v, hb2⟩
    have HI2 := Lib.hid hb2v
    have HB2 := Lib.hid (below_then HB1.out hb2)
    clear hb2v hb2
    go_wp2
    go_ret2
    exact ⟨_, rfl, HI2.out, HB2.out⟩
  · rw [if_neg hk1]
    have d1 : (k == 1) = false := by simpa using hk1
    by_cases hk5 : k = 5
    · subst hk5
      rw [if_pos rfl]
      have HE := Lib.hid (ieach_parts ns v w hv (by omega) hi)
      have HP := Lib.hid (fun u X (hT : WTab X) (h : IsR ipc (ns.map iparts) u X) => ilayt_any ns u X hT h hi hl)
      have HT := Lib.hid ht
      generalize ns.map iparts = bs at HE HP
      generalize (uputE (ifirstN ns) true).1 ++ (uputE (isecondN ns) false).1 = p at HP ⊢
      clear hv ht hi d1 hk1
      go_enter Tryz.func17, Tryz.ntmps17
      go_wp2_with fail
      refine HE.out.mono ?_
      rintro e w1 ⟨u1, rfl, hu1, hb1⟩
      have HC := Lib.hid (HP.out u1 w1 (HT.out.below hb1 HT.out.lt) hu1)
      have HB1 := Lib.hid hb1
      clear hu1 hb1
      go_wp2_with fail
      refine HC.out.mono ?_
      rintro e w2 ⟨b2, rfl, hb2v, hb2⟩
      have HI2 := Lib.hid hb2v
      have HB2 := Lib.hid (below_then HB1.out hb2)
      clear hb2v hb2
      go_wp2
      go_ret2
      exact ⟨_, rfl, HI2.out, HB2.out⟩
    · rw [if_neg hk5]
      have d5 : (k == 5) = false := by simpa using hk5
      have HC := Lib.hid (uput_any ns v true w ht hv hi (by omega))
      generalize uputE ns true = p at HC ⊢
      clear hv ht hi hk1 hk5
      go_enter Tryz.func17, Tryz.ntmps17
      go_wp2_with fail
      refine HC.out.mono ?_
      rintro e w2 ⟨b2, rfl, hb2v, hb2⟩
      have HI2 := Lib.hid hb2v
      have HB2 := Lib.hid hb2
      clear hb2v hb2
      go_wp2
      go_ret2
      exact ⟨_, rfl, HI2.out, HB2.out⟩
set_option maxHeartbeats 4000000 in
set_option maxRecDepth 100000 in
theorem iput_any (k : Int) (hk : inInt k) (l : List CV) (v : Value) (w : World) (ht : WTab w) (hv : IsR kcells l v w) (hi : ∀ x ∈ l, x.inInt) (hs : ∀ x ∈ l, x.s.size ≤ maxLen) (hb : l.length ≤ 1000000) :
    Calls Tryz.prog 8 #[.int .i64 k, v] w (RetE w (iputE k l)) := by
  obtain ⟨W, hW⟩ : ∃ W, W = w.alloc (.cells #[.int .i64 k] 3) := ⟨_, rfl⟩
  have hbox : Row W w.heap.size 3 [.int .i64 k] := by rw [hW]; exact heap_alloc_new w _
  have hb0 : Below w.heap.size w W := by rw [hW]; exact (Below.refl _ _).alloc (Nat.le_refl _) _
  have hcb := hbox.cell 0
  have HN0 := Lib.hid (knumber_own k W)
  have HC := Lib.hid (fun X (h : Below w.heap.size w X) (hr : Row X w.heap.size 3 [.int .i64 k]) => icontains_any l v w.heap.size k X (hv.below h) hr hb hk hi hs)
  have HE := Lib.hid (fun X (h : Below w.heap.size w X) => ieach_nums l v X (hv.below h) hb)
  have HT := Lib.hid (fun X (h : Below w.heap.size w X) => ht.below h ht.lt)
  have HB0 := Lib.hid hb0
  have HBOX := Lib.hid hbox
  obtain ⟨A, n, c, rfl⟩ := hv.shape
  have HN := Lib.hid hv.parts.1
  have HIN := Lib.hid (inums_in hi)
  clear hbox hb0 hv ht hk hi hs hb
  cases hkn : knumber k with
  | false =>
    have hE := Lib.hid (iputE_arg (l := l) hkn)
    rw [hkn] at HN0
    clear hkn
    subst hW
    go_enter Tryz.func8, Tryz.ntmps8
    go_wp2_with (go_at_call 13; refine HN0.out.mono ?_; rintro e w' ⟨rfl, rfl⟩)
    go_ret2
    rw [hE.out]
    exact RetE.nil _ HB0.out
  | true =>
    rw [hkn] at HN0
    have HKN := Lib.hid hkn
    clear hkn
    by_cases h4 : 4096 < n
    · have hE := Lib.hid (iputE_big (l := l) HKN.out (by have := HN.out; omega))
      have d1 : decide ((4096 : Int) < (n : Int)) = true := decide_eq_true (by omega)
      subst hW
      go_enter Tryz.func8, Tryz.ntmps8
      go_wp2_with (go_at_call 13; refine HN0.out.mono ?_; rintro e w' ⟨rfl, rfl⟩)
      go_ret2
      rw [hE.out]
      exact RetE.nil _ HB0.out
    · have d1 : decide ((4096 : Int) < (n : Int)) = false := decide_eq_false (by omega)
      have H4 := Lib.hid (show ¬ 4096 < l.length by have := HN.out; omega)
      have HC0 := Lib.hid (HC.out W HB0.out HBOX.out)
      obtain ⟨my, hmy⟩ : ∃ b, b = imay k l := ⟨_, rfl⟩
      rw [← hmy] at HC0
      have HMY := Lib.hid hmy
      clear hmy
      subst hW
      cases my with
      | false =>
        have hE := Lib.hid (iputE_type HKN.out H4.out HMY.out.symm)
        go_enter Tryz.func8, Tryz.ntmps8
        go_wp2_with (first | (go_at_call 13; refine HN0.out.mono ?_; rintro e w' ⟨rfl, rfl⟩) | (go_at_call 14; refine HC0.out.mono ?_))
        rintro e w2 ⟨rfl, hb2⟩
        have HB2 := Lib.hid (below_then HB0.out hb2)
        clear hb2
        go_wp2
        go_ret2
        rw [hE.out]
        exact RetE.nil _ HB2.out
      | true =>
        have hE := Lib.hid (iputE_lay HKN.out H4.out HMY.out.symm)
        go_enter Tryz.func8, Tryz.ntmps8
        go_wp2_with (first | (go_at_call 13; refine HN0.out.mono ?_; rintro e w' ⟨rfl, rfl⟩) | (go_at_call 14; refine HC0.out.mono ?_))
        rintro e w2 ⟨rfl, hb2⟩
        have HB2 := Lib.hid (below_then HB0.out hb2)
        have HX2 := Lib.hid (HBOX.out.below hb2 HBOX.out.lt)
        have HCB := Lib.hid (HX2.out.cell 0)
        clear hb2 hcb
        go_wp2_with fail
        refine wp_region_list [.is (.int .i64 k), .is (.slice A n c), .vals iv (l.map (·.n)), .putE (ilayE k (l.map (·.n))).1 (ilayE k (l.map (·.n))).2, .bytes ((ilayE k (l.map (·.n))).1), .is (.int .i64 (ilayE k (l.map (·.n))).2), .bytes ((ilayE k (l.map (·.n))).1), .is (.int .i64 (ilayE k (l.map (·.n))).2)] [some 18, some 19, some 20, some 21, some 22, some 23, some 4, some 5] (by kernel_rfl) (by kernel_rfl) (by kernel_rfl) rfl ⟨?_, ?_, ?_, ?_, ?_, ?_, ?_, ?_, trivial⟩ ?_
        · intro ρ W1 hb1 H
          exact gives_load rfl (H.old 2 _ (by kernel_rfl) rfl) Tryz.underlying3 rfl ((hb1.cell HX2.out.lt).trans HCB.out) ⟨rfl, Below.refl _ _⟩
        · intro ρ W1 hb1 H
          exact gives_move rfl (H.old 1 _ (by kernel_rfl) rfl) ⟨rfl, Below.refl _ _⟩
        · intro ρ W1 hb1 H
          have e0 : ρ (.tmp 19) = .slice A n c := (H.new 19 1 (by kernel_rfl))
          refine gives_call rfl (fun _ _ => by kernel_rfl) (H.func _) (args := #[.slice A n c, .func (.func 19) #[] #[]]) (by simp [e0, H.func]) ?_
          exact (HE.out W1 (below_then HB2.out hb1)).mono fun _ _ ⟨x, h1, h2, h3⟩ => ⟨x, h1, h2, h3⟩
        · intro ρ W1 hb1 H
          have e0 : ρ (.tmp 18) = .int .i64 k := (H.new 18 0 (by kernel_rfl))
          have e1 : IsV iv (l.map (·.n)) (ρ (.tmp 20)) W1 := (H.new 20 2 (by kernel_rfl))
          refine gives_call rfl (fun _ _ => by kernel_rfl) (H.func _) (args := #[.int .i64 k, ρ (.tmp 20)]) (by simp [e0]) ?_
          exact (ilay_any k _ _ W1 (HT.out W1 (below_then HB2.out hb1)) e1 HIN.out (by rw [List.length_map]; have := H4.out; omega)).mono fun _ _ ⟨x, h1, h2, h3⟩ => ⟨_, h1, ⟨x, rfl, h2⟩, h3⟩
        · intro ρ W1 hb1 H
          obtain ⟨u, h1, h2⟩ := (H.new 21 3 (by kernel_rfl))
          exact gives_extract rfl h1 rfl ⟨h2, Below.refl _ _⟩
        · intro ρ W1 hb1 H
          obtain ⟨u, h1, h2⟩ := (H.new 21 3 (by kernel_rfl))
          exact gives_extract rfl h1 rfl ⟨rfl, Below.refl _ _⟩
        · intro ρ W1 hb1 H
          exact gives_assign rfl rfl ⟨H.new 22 4 (by kernel_rfl), Below.refl _ _⟩
        · intro ρ W1 hb1 H
          exact gives_assign rfl (H.new 23 5 (by kernel_rfl)) ⟨rfl, Below.refl _ _⟩
        · intro vs W1 hb1 hfs
          have f6 : IsB ((ilayE k (l.map (·.n))).1) (vs 6) W1 := hfs 6 (by decide)
          have f7 : vs 7 = .int .i64 (ilayE k (l.map (·.n))).2 := hfs 7 (by decide)
          clear hfs
          simp only [putAll, Nat.zero_add, Nat.reduceAdd]
          generalize vs 0 = z0
          generalize vs 1 = z1
          generalize vs 2 = z2
          generalize vs 3 = z3
          generalize vs 4 = z4
          generalize vs 5 = z5
          generalize vs 6 = z6 at f6 ⊢
          simp only [f7, Act.put, List.setIfInBounds_toArray, List.set_cons_succ, List.set_cons_zero]
          clear f7
          have HB3 := Lib.hid (below_then HB2.out hb1)
          have HI3 := Lib.hid f6
          clear f6 hb1
          go_wp2
          go_ret2
          rw [hE.out]
          exact ⟨_, rfl, HI3.out, HB3.out⟩
end Go.Proofs.YtlibofmpnlfelaaGreatDoor
