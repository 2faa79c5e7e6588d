/- Texts that the claims of this seat share, part 12: Utf KMay1 KOpen UDoor KMayO WOpen KOpenS NPlain NRef NRTake ISign IPos IPlain IThree IRef IRTake IDoor IOwn. -/
import Derived.Shelf.Unicode.ValidAny
import Derived.Lib.LaidU8T
import Derived.PinnedBridge
import Derived.Test.YtlibofmpnlfelaaGreatDoorProg
import Derived.Lib.SmallJoins
import Derived.Test.YtlibofmpnlfelaaGreatDoorTie
import Derived.Test.YtlibofmpnlfelaaGreatDoorCards
import Derived.SevenTiedAt
import Derived.Stop.Joined
import Derived.Lay
import Derived.LaidOnce
import Derived.Lib.ValidLaws
import Derived.Lib.OthersKept
import Derived.Deep.Slices
import Derived.Test.YtlibofmpnlfelaaGreatDoorCG11
/- utf8.ValidString's contract, laid at this program; its two tables out of what a seat's rows list. -/









namespace Go.Proofs

open Go.Shelf Go.Lib Go.RowKit
end Go.Proofs

/- Contracts of layer 12's reference: Number and May. -/





namespace Go.Proofs.YtlibofmpnlfelaaGreatDoor

open Go.RowKit

def knumber (k : Int) : Bool := decide (1 ≤ k) && decide (k ≤ 5)
def kmay (k : Int) (v : CV) : Bool :=
  if (decide (k < 1) || decide (7 < k)) = true then false
  else if v.null = true then (v.n == 0) && (v.s.toList == [])
  else if decide (k ≤ 5) = true then (v.s.toList == []) && (((k != 1) || (v.n == 0)) || (v.n == 1))
  else ((v.n == 0) && decide ((v.s.size : Int) ≤ 300)) && ((k == 7) || Lib.validD v.s.data.toList)
/-- The same, of its tests. -/
def kmayB (c1 c2 b n0 s0 c5 k1 n1 len k7 v : Bool) : Bool :=
  bif c1 || c2 then false else bif b then n0 && s0 else bif c5 then s0 && ((k1 || n0) || n1) else (n0 && len) && (k7 || v)
theorem kmay_of (k : Int) (b : Bool) (n : Int) (s : ByteArray) : kmay k ⟨b, n, s⟩ = kmayB (decide (k < 1)) (decide (7 < k)) b (n == 0) (s.toList == []) (decide (k ≤ 5)) (k != 1) (n == 1) (decide ((s.size : Int) ≤ 300)) (k == 7) (Lib.validD s.data.toList) := by
  unfold kmay kmayB
  simp only [cond_eq_ite]
end Go.Proofs.YtlibofmpnlfelaaGreatDoor

/- A value (a struct of a truth, a number, a text) that comes in. -/







namespace Go.Proofs.YtlibofmpnlfelaaGreatDoor

open Go.RowKit

end Go.Proofs.YtlibofmpnlfelaaGreatDoor

/- utf8's two tables out of what a seat's rows list. (For seats whose rows list these two alone.) -/



















namespace Go.Proofs.YtlibofmpnlfelaaGreatDoor

open Go.Lib Go.RowKit Go.ChangeShapes Go.WideShapes Go.ChangeAt

end Go.Proofs.YtlibofmpnlfelaaGreatDoor

/- The program's contracts of layer 12: Number, known, right, May. -/









namespace Go.Proofs.YtlibofmpnlfelaaGreatDoor

open Go.RowKit

theorem knumber_own (k : Int) (w : World) : Calls Tryz.prog 13 #[.int .i64 k] w fun e w' => e = .returned (.bool (knumber k)) ∧ w = w' := by
  have HK : Hid (knumber k = (decide (1 ≤ k) && decide (k ≤ 5))) := Lib.hid rfl
  cases c1 : decide (1 ≤ k)
  · rw [c1] at HK
    go_enter Tryz.func13, Tryz.ntmps13
    go_wp2
    go_ret
    exact ⟨by rw [HK.out]; rfl, rfl⟩
  · cases c2 : decide (k ≤ 5)
    all_goals
      rw [c1, c2] at HK
      go_enter Tryz.func13, Tryz.ntmps13
      go_wp2
      go_ret
      exact ⟨by rw [HK.out]; rfl, rfl⟩
/-- Whether there are columns of that kind. -/
def kknown (k : Int) : Bool := (knumber k || (k == 6)) || (k == 7)
theorem kknown_iff (k : Int) : kknown k = true ↔ 1 ≤ k ∧ k ≤ 7 := by
  unfold kknown knumber
  simp only [Bool.or_eq_true, Bool.and_eq_true, decide_eq_true_eq, beq_iff_eq]
  omega
theorem kknown_any (k : Int) (w : World) : Calls Tryz.prog 32 #[.int .i64 k] w fun e w' => e = .returned (.bool (kknown k)) ∧ w = w' := by
  have HK : Hid (kknown k = ((knumber k || (k == 6)) || (k == 7))) := Lib.hid rfl
  have HN := Lib.hid (fun W => knumber_own k W)
  cases c1 : knumber k
  · rw [c1] at HK HN
    clear c1
    cases c2 : (k == 6)
    all_goals
      rw [c2] at HK
      go_enter Tryz.func32, Tryz.ntmps32
      go_wp2_with (go_at_call 13; refine (HN.out _).mono ?_)
      rintro e w' ⟨rfl, rfl⟩
      go_wp2
      go_ret
      exact ⟨by rw [HK.out]; rfl, rfl⟩
  · rw [c1] at HK HN
    clear c1
    go_enter Tryz.func32, Tryz.ntmps32
    go_wp2_with (go_at_call 13; refine (HN.out _).mono ?_)
    rintro e w' ⟨rfl, rfl⟩
    go_wp2
    go_ret
    exact ⟨by rw [HK.out]; rfl, rfl⟩
set_option maxRecDepth 100000 in
set_option maxHeartbeats 4000000 in
/-- U+FFFD is decoded out of its three bytes, or stands for what can't be read, which takes one byte. -/
theorem decodeN_fffd (n b0 b1 b2 b3 : Nat) (h0 : b0 < 256) (_h1 : b1 < 256) (_h2 : b2 < 256) (_h3 : b3 < 256) (h : (Lib.decodeN n b0 b1 b2 b3).1 = 65533) :
    ((Lib.decodeN n b0 b1 b2 b3).2 = 1 ∧ ¬ (3 ≤ n ∧ b0 = 239 ∧ b1 = 191 ∧ b2 = 189)) ∨ ((Lib.decodeN n b0 b1 b2 b3).2 = 3 ∧ 3 ≤ n ∧ b0 = 239 ∧ b1 = 191 ∧ b2 = 189) := by
  unfold Lib.decodeN at h ⊢
  repeat' split at h
  all_goals simp only [] at h
  all_goals first
    | (exfalso; omega)
    | (rw [if_neg (by omega), if_neg (by omega), if_pos (by omega), if_pos (by omega)]; right; simp only []; omega)
    | skip
  all_goals
    repeat' split
    all_goals first | (exfalso; omega) | (left; refine ⟨rfl, ?_⟩; omega) | (right; refine ⟨rfl, ?_⟩; omega)
theorem prefix3 (l : List UInt8) : Lib.hasPrefix l [239, 191, 189] = true ↔ 3 ≤ l.length ∧ (l.getD 0 0).toNat = 239 ∧ (l.getD 1 0).toNat = 191 ∧ (l.getD 2 0).toNat = 189 := by
  unfold Lib.hasPrefix
  rcases l with _ | ⟨a, _ | ⟨b, _ | ⟨c, l⟩⟩⟩
  · simp
  · simp
  · simp
  · simp only [List.isPrefixOf, List.getD_cons_zero, List.getD_cons_succ, List.length_cons, Bool.and_eq_true, beq_iff_eq, and_true]
    constructor
    · rintro ⟨rfl, rfl, rfl⟩
      exact ⟨by omega, rfl, rfl, rfl⟩
    · rintro ⟨-, h1, h2, h3⟩
      exact ⟨UInt8.toNat_inj.1 h1.symm, UInt8.toNat_inj.1 h2.symm, UInt8.toNat_inj.1 h3.symm⟩
/-- One step of reading a text, as the program takes it. -/
theorem valid_step (l : List UInt8) (hne : l ≠ []) : Lib.validD l = if (Lib.decodeL l).1 = 65533 ∧ Lib.hasPrefix l [239, 191, 189] = false then false else Lib.validD (l.drop (Lib.decodeL l).2) := by
  rw [Lib.validD_step l hne]
  by_cases h : (Lib.decodeL l).1 = 65533
  · have hd := Lib.decodeL_N l
    have h' := h
    rw [hd] at h'
    have key := decodeN_fffd _ _ _ _ _ (UInt8.toNat_lt _) (UInt8.toNat_lt _) (UInt8.toNat_lt _) (UInt8.toNat_lt _) h'
    rw [← hd] at key
    rcases key with ⟨k1, k2⟩ | ⟨k1, k2⟩
    · have : Lib.hasPrefix l [239, 191, 189] = false := by
        rw [← Bool.not_eq_true, prefix3]
        exact k2
      rw [if_pos ⟨h, k1⟩, if_pos ⟨h, this⟩]
    · have : Lib.hasPrefix l [239, 191, 189] = true := (prefix3 l).2 k2
      rw [if_neg (by rw [k1]; omega), if_neg (by rw [this]; simp)]
  · rw [if_neg (fun h2 => h h2.1), if_neg (fun h2 => h h2.1)]
/-- What a range over a text knows of its place. -/
def TextRel (s : ByteArray) (w wr : World) : Prop := ∃ pos : Nat, wr.heap[w.heap.size]? = some (.stringIter s pos) ∧ Lib.validD (s.data.toList.drop pos) = Lib.validD s.data.toList ∧ Below w.heap.size w wr
set_option maxHeartbeats 2000000 in
set_option maxRecDepth 100000 in
theorem kright_any (s : ByteArray) (w : World) (hs : s.size ≤ maxLen) : Calls Tryz.prog 33 #[.string s] w fun e w' => e = .returned (.bool (Lib.validD s.data.toList)) ∧ Below w.heap.size w w' := by
  have hsi : (s.size : Int) ≤ 9223372036854775807 := by unfold maxLen at hs; omega
  go_enter Tryz.func33, Tryz.ntmps33
  go_wp2
  go_loopw [] (TextRel s w) (fun wr => s.size - wr.iterPos w.heap.size)
  case atStart =>
    refine ⟨0, ?_, rfl, (Below.refl _ w).alloc (Nat.le_refl _) _⟩
    exact World.iter_heap w s 0
  case round =>
    obtain ⟨pos, hit, hv, hbw⟩ := hrel
    by_cases hp : pos < s.size
    · have hnx : ∀ ty, (Instr.next (.pointer (some ⟨w.heap.size, 0, none⟩)) true ty).run Tryz.prog wr = _ := fun ty => Lib.run_next_any_at wr w.heap.size s pos ty hit hp
      have hit2 := Lib.iterAt_heap wr w.heap.size s pos (pos + (Utf8.decode s pos).2) hit
      have hbw2 := Lib.below_iterAt hbw (k := w.heap.size) (Nat.le_refl _) s (pos + (Utf8.decode s pos).2)
      have hwd := Lib.width_pos s pos
      have hne : s.data.toList.drop pos ≠ [] := by
        intro h0
        have h1 := congrArg List.length h0
        rw [List.length_drop, ← Lib.size_eq] at h1
        simp at h1
        omega
      have hst := valid_step _ hne
      rw [Lib.decodeL_drop, List.drop_drop] at hst
      have hpi : (pos : Int) ≤ (s.size : Int) := by omega
      obtain ⟨r, hr⟩ : ∃ r, r = (Utf8.decode s pos).1 := ⟨_, rfl⟩
      obtain ⟨d, hd⟩ : ∃ d, d = (Utf8.decode s pos).2 := ⟨_, rfl⟩
      rw [← hr, ← hd] at hst
      rw [← hd] at hit2 hbw2 hwd
      simp only [← hr, ← hd] at hnx
      have HIT := Lib.hid hit
      have HIT2 := Lib.hid hit2
      have HB2 := Lib.hid hbw2
      have HV := Lib.hid hv
      have HD := Lib.hid hwd
      clear hr hd hne hit hit2 hbw hbw2 hv hwd
      by_cases h1 : r = 65533
      · subst h1
        have HP := Lib.hid (fun W => lprefix_any (s.extract pos s.size) ⟨#[239, 191, 189]⟩ W)
        rw [show (s.extract pos s.size).data.toList = s.data.toList.drop pos by rw [Lib.extract_data, List.take_of_length_le (by rw [List.length_drop, ← Lib.size_eq]; exact Nat.le_refl _)]] at HP
        change Hid (∀ W, Calls Tryz.prog 54 _ W fun e w' => e = .returned (.bool (Lib.hasPrefix (s.data.toList.drop pos) [239, 191, 189])) ∧ W = w') at HP
        cases hp2 : Lib.hasPrefix (s.data.toList.drop pos) [239, 191, 189]
        · rw [hp2] at HP
          rw [if_pos ⟨rfl, hp2⟩] at hst
          have HX := Lib.hid (HV.out.symm.trans hst)
          clear hst hp2
          go_wp2_with (go_at_call 54; refine (HP.out _).mono ?_; rintro e w' ⟨rfl, rfl⟩)
          go_ret
          exact ⟨by rw [HX.out]; rfl, HB2.out⟩
        · rw [hp2] at HP
          rw [if_neg (by rw [hp2]; simp)] at hst
          have HX := Lib.hid (hst.symm.trans HV.out)
          clear hst hp2
          go_wp2_with (go_at_call 54; refine (HP.out _).mono ?_; rintro e w' ⟨rfl, rfl⟩)
          go_roundw
          case rel => exact ⟨pos + d, HIT2.out, HX.out, HB2.out⟩
          case measure =>
            have := HD.out
            simp only [World.iterPos, HIT.out, HIT2.out]
            omega
      · have hrf : ((r : Int) == 65533) = false := by simp; omega
        rw [if_neg (fun h => h1 h.1)] at hst
        have HX := Lib.hid (hst.symm.trans HV.out)
        clear hst h1
        go_wp2
        go_roundw
        case rel => exact ⟨pos + d, HIT2.out, HX.out, HB2.out⟩
        case measure =>
          have := HD.out
          simp only [World.iterPos, HIT.out, HIT2.out]
          omega
    · have hnx : ∀ ty, (Instr.next (.pointer (some ⟨w.heap.size, 0, none⟩)) true ty).run Tryz.prog wr = _ := fun ty => Lib.run_next_end_at wr w.heap.size s pos ty hit hp
      have h0 : s.data.toList.drop pos = [] := List.drop_eq_nil_of_le (by rw [← Lib.size_eq]; omega)
      rw [h0] at hv
      have HV := Lib.hid hv
      have HB := Lib.hid hbw
      clear hv hbw h0
      go_wp2
      go_ret
      exact ⟨by rw [← HV.out]; rfl, HB.out⟩
/-- What the program asks of a value, of its tests. -/
def kmayP (kn b e1 nu n0 s0 n1 len k7 v : Bool) : Bool :=
  bif !kn then false else bif b then n0 && s0 else bif e1 then s0 && (n0 || n1) else bif nu then s0 else (n0 && len) && (k7 || v)
theorem kmay_own (k : Int) (b : Bool) (n : Int) (s : ByteArray) : kmay k ⟨b, n, s⟩ = kmayP (kknown k) b (k == 1) (knumber k) (n == 0) (s.toList == []) (n == 1) (decide ((s.size : Int) ≤ 300)) (k == 7) (Lib.validD s.data.toList) := by
  rw [kmay_of]
  unfold kmayB kmayP
  have h0 := kknown_iff k
  by_cases h1 : k < 1
  · rw [decide_eq_true h1, show kknown k = false by rw [← Bool.not_eq_true, h0]; omega]; rfl
  · by_cases h7 : 7 < k
    · rw [decide_eq_true h7, show kknown k = false by rw [← Bool.not_eq_true, h0]; omega, Bool.or_true]; rfl
    · rw [decide_eq_false h1, decide_eq_false h7, show kknown k = true from h0.2 (by omega)]
      by_cases h5 : k ≤ 5
      · rw [decide_eq_true h5, show knumber k = true by unfold knumber; rw [decide_eq_true h5, decide_eq_true (by omega)]; rfl]
        by_cases e : k = 1
        · subst e; cases b <;> simp
        · rw [show (k == 1) = false by simpa using e, show (k != 1) = true by simpa using e]
          cases b <;> simp
      · rw [decide_eq_false h5, show knumber k = false by unfold knumber; rw [decide_eq_false h5, Bool.and_false], show (k == 1) = false by simp; omega]
        cases b <;> simp
set_option maxHeartbeats 4000000 in
set_option maxRecDepth 100000 in
theorem kmay_any (k : Int) (v : CV) (w : World) (_hk : -9223372036854775808 ≤ k ∧ k ≤ 9223372036854775807) (_hv : v.inInt) (hs : v.s.size ≤ maxLen) : Calls Tryz.prog 16 #[.int .i64 k, cv v] w fun e w' => e = .returned (.bool (kmay k v)) ∧ Below w.heap.size w w' := by
  obtain ⟨b, n, s⟩ := v
  dsimp only at hs
  have HVS := Lib.hid (fun W => kright_any s W hs)
  have hA : Row (w.alloc (.cells #[.bool b, .int .i64 n, .string s] 36)) w.heap.size 36 [.bool b, .int .i64 n, .string s] := heap_alloc_new w _
  have hb : Below w.heap.size w (w.alloc (.cells #[.bool b, .int .i64 n, .string s] 36)) := (Below.refl _ _).alloc (Nat.le_refl _) _
  have HBE := Lib.hid hb
  have a0 := hA.cell 0
  have a1 := hA.cell 1
  have a2 := hA.cell 2
  have HK0 := kmay_own k b n s
  have HN1 := Lib.hid (fun W => kknown_any k W)
  have HN2 := Lib.hid (fun W => knumber_own k W)
  clear hA hb hs _hk _hv
  unfold cv
  cases kn : kknown k
  · rw [kn] at HK0
    have HK := Lib.hid HK0
    clear HK0
    rw [kn] at HN1
    clear kn
    go_enter Tryz.func16, Tryz.ntmps16
    go_wp2_with (first | (go_at_call 32; refine (HN1.out _).mono ?_; rintro e w' ⟨rfl, rfl⟩))
    go_ret
    exact ⟨by rw [HK.out]; rfl, HBE.out⟩
  · cases b
    · cases e1 : (k == 1)
      · cases nu : knumber k
        · cases n0 : (n == 0)
          · rw [kn, e1, nu, n0] at HK0
            have HK := Lib.hid HK0
            clear HK0
            rw [kn] at HN1
            clear kn
            rw [nu] at HN2
            clear nu
            go_enter Tryz.func16, Tryz.ntmps16
            go_wp2_with (first | (go_at_call 32; refine (HN1.out _).mono ?_; rintro e w' ⟨rfl, rfl⟩) | (go_at_call 13; refine (HN2.out _).mono ?_; rintro e w' ⟨rfl, rfl⟩))
            go_ret
            exact ⟨by rw [HK.out]; rfl, HBE.out⟩
          · cases len : decide ((s.size : Int) ≤ 300)
            · rw [kn, e1, nu, n0, len] at HK0
              have HK := Lib.hid HK0
              clear HK0
              rw [kn] at HN1
              clear kn
              rw [nu] at HN2
              clear nu
              go_enter Tryz.func16, Tryz.ntmps16
              go_wp2_with (first | (go_at_call 32; refine (HN1.out _).mono ?_; rintro e w' ⟨rfl, rfl⟩) | (go_at_call 13; refine (HN2.out _).mono ?_; rintro e w' ⟨rfl, rfl⟩))
              go_ret
              exact ⟨by rw [HK.out]; rfl, HBE.out⟩
            · cases k7 : (k == 7)
              · rw [kn, e1, nu, n0, len, k7] at HK0
                have HK := Lib.hid HK0
                clear HK0
                rw [kn] at HN1
                clear kn
                rw [nu] at HN2
                clear nu
                go_enter Tryz.func16, Tryz.ntmps16
                go_wp2_with (first | (go_at_call 32; refine (HN1.out _).mono ?_; rintro e w' ⟨rfl, rfl⟩) | (go_at_call 13; refine (HN2.out _).mono ?_; rintro e w' ⟨rfl, rfl⟩))
                refine (HVS.out _).mono ?_
                rintro e w2 ⟨rfl, hb2⟩
                have HB2 := Lib.hid (below_then HBE.out hb2)
                clear hb2
                go_wp2
                go_ret
                exact ⟨by rw [HK.out]; rfl, HB2.out⟩
              · rw [kn, e1, nu, n0, len, k7] at HK0
                have HK := Lib.hid HK0
                clear HK0
                rw [kn] at HN1
                clear kn
                rw [nu] at HN2
                clear nu
                go_enter Tryz.func16, Tryz.ntmps16
                go_wp2_with (first | (go_at_call 32; refine (HN1.out _).mono ?_; rintro e w' ⟨rfl, rfl⟩) | (go_at_call 13; refine (HN2.out _).mono ?_; rintro e w' ⟨rfl, rfl⟩))
                go_ret
                exact ⟨by rw [HK.out]; rfl, HBE.out⟩
        · cases s0 : (s.toList == [])
          · rw [kn, e1, nu, s0] at HK0
            have HK := Lib.hid HK0
            clear HK0
            rw [kn] at HN1
            clear kn
            rw [nu] at HN2
            clear nu
            go_enter Tryz.func16, Tryz.ntmps16
            go_wp2_with (first | (go_at_call 32; refine (HN1.out _).mono ?_; rintro e w' ⟨rfl, rfl⟩) | (go_at_call 13; refine (HN2.out _).mono ?_; rintro e w' ⟨rfl, rfl⟩))
            go_ret
            exact ⟨by rw [HK.out]; rfl, HBE.out⟩
          · rw [kn, e1, nu, s0] at HK0
            have HK := Lib.hid HK0
            clear HK0
            rw [kn] at HN1
            clear kn
            rw [nu] at HN2
            clear nu
            go_enter Tryz.func16, Tryz.ntmps16
            go_wp2_with (first | (go_at_call 32; refine (HN1.out _).mono ?_; rintro e w' ⟨rfl, rfl⟩) | (go_at_call 13; refine (HN2.out _).mono ?_; rintro e w' ⟨rfl, rfl⟩))
            go_ret
            exact ⟨by rw [HK.out]; rfl, HBE.out⟩
      · cases s0 : (s.toList == [])
        · rw [kn, e1, s0] at HK0
          have HK := Lib.hid HK0
          clear HK0
          rw [kn] at HN1
          clear kn
          go_enter Tryz.func16, Tryz.ntmps16
          go_wp2_with (first | (go_at_call 32; refine (HN1.out _).mono ?_; rintro e w' ⟨rfl, rfl⟩))
          go_ret
          exact ⟨by rw [HK.out]; rfl, HBE.out⟩
        · cases n0 : (n == 0)
          · cases n1 : (n == 1)
            · rw [kn, e1, s0, n0, n1] at HK0
              have HK := Lib.hid HK0
              clear HK0
              rw [kn] at HN1
              clear kn
              go_enter Tryz.func16, Tryz.ntmps16
              go_wp2_with (first | (go_at_call 32; refine (HN1.out _).mono ?_; rintro e w' ⟨rfl, rfl⟩))
              go_ret
              exact ⟨by rw [HK.out]; rfl, HBE.out⟩
            · rw [kn, e1, s0, n0, n1] at HK0
              have HK := Lib.hid HK0
              clear HK0
              rw [kn] at HN1
              clear kn
              go_enter Tryz.func16, Tryz.ntmps16
              go_wp2_with (first | (go_at_call 32; refine (HN1.out _).mono ?_; rintro e w' ⟨rfl, rfl⟩))
              go_ret
              exact ⟨by rw [HK.out]; rfl, HBE.out⟩
          · rw [kn, e1, s0, n0] at HK0
            have HK := Lib.hid HK0
            clear HK0
            rw [kn] at HN1
            clear kn
            go_enter Tryz.func16, Tryz.ntmps16
            go_wp2_with (first | (go_at_call 32; refine (HN1.out _).mono ?_; rintro e w' ⟨rfl, rfl⟩))
            go_ret
            exact ⟨by rw [HK.out]; rfl, HBE.out⟩
    · cases n0 : (n == 0)
      · rw [kn, n0] at HK0
        have HK := Lib.hid HK0
        clear HK0
        rw [kn] at HN1
        clear kn
        go_enter Tryz.func16, Tryz.ntmps16
        go_wp2_with (first | (go_at_call 32; refine (HN1.out _).mono ?_; rintro e w' ⟨rfl, rfl⟩))
        go_ret
        exact ⟨by rw [HK.out]; rfl, HBE.out⟩
      · cases s0 : (s.toList == [])
        · rw [kn, n0, s0] at HK0
          have HK := Lib.hid HK0
          clear HK0
          rw [kn] at HN1
          clear kn
          go_enter Tryz.func16, Tryz.ntmps16
          go_wp2_with (first | (go_at_call 32; refine (HN1.out _).mono ?_; rintro e w' ⟨rfl, rfl⟩))
          go_ret
          exact ⟨by rw [HK.out]; rfl, HBE.out⟩
        · rw [kn, n0, s0] at HK0
          have HK := Lib.hid HK0
          clear HK0
          rw [kn] at HN1
          clear kn
          go_enter Tryz.func16, Tryz.ntmps16
          go_wp2_with (first | (go_at_call 32; refine (HN1.out _).mono ?_; rintro e w' ⟨rfl, rfl⟩))
          go_ret
          exact ⟨by rw [HK.out]; rfl, HBE.out⟩
end Go.Proofs.YtlibofmpnlfelaaGreatDoor

/- Slices of values of several cells each, and what fields hold, that come in. Over any program. -/









namespace Go.Proofs.YtlibofmpnlfelaaGreatDoor

open Go.RowKit Go.ChangeShapes Go.WideShapes Go.Deep

end Go.Proofs.YtlibofmpnlfelaaGreatDoor

/- Slices of structs that come in: columns, values. -/





namespace Go.Proofs.YtlibofmpnlfelaaGreatDoor

open Go.RowKit Go.ChangeShapes Go.WideShapes Go.Deep

instance : Inhabited CC := ⟨⟨⟨#[]⟩, 0⟩⟩
instance : Inhabited CV := ⟨⟨false, 0, ⟨#[]⟩⟩⟩
section

variable {H : Type} {enc : TypeId × Value → H} {W : World} {v : Value} {d : DataW H} {ps : List MemPlace} {base : Nat}
end

end Go.Proofs.YtlibofmpnlfelaaGreatDoor

/- Values that are nothing (layer 13), as plain mathematics. -/





namespace Go.Proofs.YtlibofmpnlfelaaGreatDoor

/-- A number. -/
def nv (n : Int) : CV := ⟨false, n, ⟨#[]⟩⟩
end Go.Proofs.YtlibofmpnlfelaaGreatDoor

/- Contracts of layer 13's reference: Split, Join; and of layer 12's SameRow. -/









namespace Go.Proofs.YtlibofmpnlfelaaGreatDoor

open Go.RowKit

theorem Tryz.infoV : (Tryz.prog.info? 36).map (fun i => (i.zero, i.size, i.bytes)) = some (some (cv ⟨false, 0, ⟨#[]⟩⟩), 3, 32) := by kernel_rfl
theorem elemW : ElemW Tryz.prog 22 36 32 3 (cv ⟨false, 0, ⟨#[]⟩⟩) := by
  obtain ⟨i0, hi, hz0, hz1, hz2⟩ := info_parts Tryz.infoV
  exact ⟨Tryz.underlying22, rfl, by omega, i0, hi, hz0, hz1, hz2⟩
theorem kcells_one (x : CV) : ∀ u ∈ kcells x, u.oneCell' = true := by
  intro u hu
  unfold kcells at hu
  simp at hu
  rcases hu with rfl | rfl | rfl <;> rfl
/-- Values and an error. -/
def RetRE (w : World) (p : List CV × Int) (e : Ending) (w' : World) : Prop := ∃ v, e = .returned (.tuple #[v, .int .i64 p.2]) ∧ IsR kcells p.1 v w' ∧ Below w.heap.size w w'
theorem RetRE.nil {w w' : World} (n : Int) (hb : Below w.heap.size w w') : RetRE w ([], n) (.returned (.tuple #[.slice none 0 0, .int .i64 n])) w' := ⟨_, rfl, isR_nil _ _, hb⟩
/-- The cells of a value in a slice. -/
theorem cells3 {w : World} {ad : Addr} {k : Nat} {x : CV} (h : ∀ i, i < 3 → w.cell? (ad.add (k * 3 + i)) = (kcells x)[i]?) :
    w.cell? (ad.add (k * 3)) = some (.bool x.null) ∧ w.cell? ⟨(ad.add (k * 3)).block, (ad.add (k * 3)).off + 1, none⟩ = some (.int .i64 x.n) ∧ w.cell? ⟨(ad.add (k * 3)).block, (ad.add (k * 3)).off + 2, none⟩ = some (.string x.s) := by
  refine ⟨h 0 (by omega), ?_, ?_⟩
  · have h1 := h 1 (by omega); rw [← add_add] at h1; exact h1
  · have h1 := h 2 (by omega); rw [← add_add] at h1; exact h1
end Go.Proofs.YtlibofmpnlfelaaGreatDoor

/- Contracts of layer 13's reference: Put, Take; and of layer 12's SameRow. -/



namespace Go.Proofs.YtlibofmpnlfelaaGreatDoor

open Go.RowKit

def SameRelW (w : World) (i : Value) (n : Nat) (wr : World) : Prop := ∃ k : Nat, k ≤ n ∧ i = .int .i64 (k : Int) ∧ Below w.heap.size w wr
set_option maxHeartbeats 2000000 in
set_option maxRecDepth 100000 in
theorem samerow12_any (l : List CV) (u v : Value) (w : World) (hu : IsR kcells l u w) (hv : IsR kcells l v w) (hb : l.length ≤ 1000000) :
    Calls Tryz.prog 12 #[u, v] w fun e w' => e = .returned (.bool true) ∧ Below w.heap.size w w' := by
  obtain ⟨A, n, c, rfl⟩ := hu.shape
  obtain ⟨B, m, d, rfl⟩ := hv.shape
  have hnm : n = m := by rw [← hu.parts.1, hv.parts.1]
  subst hnm
  have HN := Lib.hid hu.parts.1
  have HU := Lib.hid hu
  have HV := Lib.hid hv
  have hn6 : n ≤ 1000000 := by have := HN.out; omega
  have d0 : ((n : Int) != (n : Int)) = false := by simp
  clear hu hv hb
  go_enter Tryz.func12, Tryz.ntmps12
  go_wp2
  go_loopw [5] (fun i wr => SameRelW w i n wr) (fun i _ => n - (intOf i).toNat)
  case atStart => exact ⟨0, Nat.zero_le _, rfl, Below.refl _ _⟩
  case round =>
    obtain ⟨k, hkn, rfl, hbw⟩ := hrel
    by_cases hlt : k < n
    · have hkl : k < l.length := by have := HN.out; omega
      have hlti : (k : Int) < (n : Int) := by omega
      obtain ⟨ad, rfl, had, hcell⟩ := (HU.out.below hbw).at (m := 3) (fun _ => rfl) (by omega) hkl
      obtain ⟨bd, rfl, hbd, hcell2⟩ := (HV.out.below hbw).at (m := 3) (fun _ => rfl) (by omega) hkl
      obtain ⟨x, hx⟩ : ∃ x, x = l[k] := ⟨_, rfl⟩
      rw [← hx] at hcell hcell2
      obtain ⟨k0, k1, k2⟩ := cells3 hcell
      obtain ⟨j0, j1, j2⟩ := cells3 hcell2
      clear hx hcell hcell2 had hbd
      obtain ⟨xb, xn, xs⟩ := x
      dsimp only at k0 k1 k2 j0 j1 j2
      go_wp2
      go_quiet (fail)
      go_wp2
      go_roundw
      case rel => exact ⟨k + 1, by omega, by go_num, Go.below_drewN hbw _⟩
      case measure => simp [intOf]; omega
    · obtain rfl : k = n := by omega
      have hlti : ¬ (k : Int) < (k : Int) := by omega
      go_wp2
      go_ret
      exact ⟨rfl, hbw⟩
/-- Bytes, values and an error. -/
def RetBR (w : World) (p : List UInt8 × List CV × Int) (e : Ending) (w' : World) : Prop := ∃ u v, e = .returned (.tuple #[u, v, .int .i64 p.2.2]) ∧ IsB p.1 u w' ∧ IsR kcells p.2.1 v w' ∧ Below w.heap.size w w'
theorem RetBR.nil {w w' : World} (n : Int) (hb : Below w.heap.size w w') : RetBR w ([], [], n) (.returned (.tuple #[.slice none 0 0, .slice none 0 0, .int .i64 n])) w' := ⟨_, _, rfl, isB_nil _, isR_nil _ _, hb⟩
/-- Truths and an error. -/
def RetVE (w : World) (p : List Bool × Int) (e : Ending) (w' : World) : Prop := ∃ u, e = .returned (.tuple #[u, .int .i64 p.2]) ∧ IsV Value.bool p.1 u w' ∧ Below w.heap.size w w'
theorem RetVE.nil {w w' : World} (n : Int) (hb : Below w.heap.size w w') : RetVE w ([], n) (.returned (.tuple #[.slice none 0 0, .int .i64 n])) w' := ⟨_, rfl, isV_nil _ _, hb⟩
theorem qtakeE_bd (b : List UInt8) (many : Int) : (qtakeE b many).1.length ≤ 1000000 := by
  unfold qtakeE
  split
  · simp
  · rename_i h
    unfold qtakeM
    split
    · simp
    · split
      · rw [qbits_len]; omega
      · simp
end Go.Proofs.YtlibofmpnlfelaaGreatDoor

/- Runs (layer 11): a run that may be taken with a sign and without gives as many numbers, and leaves the same behind. -/



namespace Go.Proofs.YtlibofmpnlfelaaGreatDoor

/-- Two answers that are none, or give as many, and leave the same. -/
def Alike (a b : List Int × List UInt8 × Int) : Prop := a.2.2 = 0 → b.2.2 = 0 → a.1.length = b.1.length ∧ a.2.1 = b.2.1
theorem Alike.bad (b : List Int × List UInt8 × Int) : Alike gbad b := fun h => by cases h
theorem Alike.bad2 (a : List Int × List UInt8 × Int) : Alike a gbad := fun _ h => by cases h
theorem dtake_alike (b : List UInt8) : Alike (dtakeE b true) (dtakeE b false) := by
  unfold dtakeE
  split
  · exact Alike.bad _
  · generalize unpacksAny (dlook b).2.2.2.1 (dlook b).2.2.1 (wof (dlook b).2.1) = p
    obtain ⟨u, r, e⟩ := p
    dsimp only
    split
    · exact Alike.bad _
    · cases h1 : dmade u true with
      | none => exact Alike.bad _
      | some x => cases h2 : dmade u false with
        | none => exact Alike.bad2 _
        | some y => exact fun _ _ => ⟨by rw [dmade_len h1, dmade_len h2], rfl⟩
theorem vtint_rest {l r1 r2 : List UInt8} {x y : Int} (h1 : vtint l true = some (x, r1)) (h2 : vtint l false = some (y, r2)) : r1 = r2 := by
  unfold vtint at h1 h2
  cases h : vtake l with
  | none => rw [h] at h1; cases h1
  | some p =>
    rw [h] at h1 h2
    dsimp only at h1 h2
    injection h1 with h1
    injection h1 with _ h1
    split at h2
    · cases h2
    · injection h2 with h2
      injection h2 with _ h2
      rw [← h1, ← h2]
theorem gend_alike (f : Bool) (x y : Int) (us : List Nat) (q : List UInt8) : Alike (gend true f x us q) (gend false f y us q) := fun h1 h2 => by
  obtain ⟨a1, a2⟩ := gend_bd h1
  obtain ⟨b1, b2⟩ := gend_bd h2
  exact ⟨by rw [a1, b1], by rw [a2, b2]⟩
theorem gmore_alike (f : Bool) (x y : Int) (u : Nat) (c m : Int) (r : List UInt8) : Alike (gmore true f x u c m r) (gmore false f y u c m r) := by
  unfold gmore
  split
  · generalize unpacksAny r (m - 2) (wof c) = p
    obtain ⟨us, q, e⟩ := p
    dsimp only
    split
    · exact Alike.bad _
    · exact gend_alike _ _ _ _ _
  · exact gend_alike _ _ _ _ _
theorem gtake_alike (b : List UInt8) : Alike (gtakeE b true) (gtakeE b false) := by
  unfold gtakeE
  split
  · exact Alike.bad _
  · unfold gbody
    cases h1 : vtint (dlook b).2.2.2.1 true with
    | none => exact Alike.bad _
    | some p => cases h2 : vtint (dlook b).2.2.2.1 false with
      | none => exact Alike.bad2 _
      | some p2 =>
        obtain ⟨x, r1⟩ := p
        obtain ⟨y, r2⟩ := p2
        have e := vtint_rest h1 h2
        subst e
        dsimp only
        cases vtint r1 true with
        | none => exact Alike.bad _
        | some d =>
          obtain ⟨d, r2⟩ := d
          dsimp only
          split
          · exact gmore_alike _ _ _ _ _ _ _
          · exact Alike.bad _
theorem pend_alike (base : Int) (w g p m : Nat) (low both : List Nat) (q : List UInt8) : Alike (pend true base w g p m low both q) (pend false base w g p m low both q) := by
  unfold pend
  cases pall w g p m (0, low) both with
  | none => exact Alike.bad _
  | some st =>
    dsimp only
    cases h1 : omap (gnext true false base) st.2 with
    | none => exact Alike.bad _
    | some xs => cases h2 : omap (gnext false false base) st.2 with
      | none => exact Alike.bad2 _
      | some ys => exact fun _ _ => ⟨by rw [omap_len h1, omap_len h2], rfl⟩
theorem ptake_alike (b : List UInt8) : Alike (ptakeE b true) (ptakeE b false) := by
  unfold ptakeE
  split
  · exact Alike.bad _
  · unfold pbody
    split
    · exact Alike.bad _
    · split
      · exact Alike.bad _
      · unfold pbits
        generalize unpacksAny _ (dlook b).2.2.1 (wof (dlook b).2.1) = p
        obtain ⟨low, r3, e⟩ := p
        dsimp only
        split
        · exact Alike.bad _
        · generalize unpacksAny r3 _ _ = p2
          obtain ⟨both, r4, e⟩ := p2
          dsimp only
          split
          · exact Alike.bad _
          · exact pend_alike _ _ _ _ _ _ _ _
theorem etake_alike (b : List UInt8) : (etake b true).2.2.2 = 0 → (etake b false).2.2.2 = 0 → (etake b true).2.1 = (etake b false).2.1 ∧ (etake b true).2.2.1 = (etake b false).2.2.1 := by
  cases b with
  | nil => intro h; cases h
  | cons x r =>
    unfold etake
    dsimp only
    split
    · intro h; cases h
    · split
      · intro h; cases h
      · split
        · intro h; cases h
        · cases emade (bval (r.take (x.toNat / 8 + 1))) true with
          | none => intro h; cases h
          | some y => cases emade (bval (r.take (x.toNat / 8 + 1))) false with
            | none => intro _ h; cases h
            | some z => exact fun _ _ => ⟨rfl, rfl⟩
theorem uone_alike (b : List UInt8) : Alike (uone b true) (uone b false) := by
  unfold uone
  cases b with
  | nil => exact Alike.bad _
  | cons x r =>
    dsimp only
    split
    · exact dtake_alike _
    · split
      · exact ptake_alike _
      · split
        · exact gtake_alike _
        · intro h1 h2
          obtain ⟨e1, e2⟩ := etake_alike (x :: r) h1 h2
          dsimp only
          rw [List.length_replicate, List.length_replicate, e1, e2]
          exact ⟨rfl, rfl⟩
theorem uputN_zero (s : Bool) (f : Nat) : uputN s f [] = ([], 0) := by cases f <;> simp [uputN]
theorem uputN_fuel {s : Bool} : ∀ (f g : Nat) (l : List Int), l.length ≤ f → l.length ≤ g → uputN s f l = uputN s g l
  | 0, g, l, hf, _ => by
    obtain rfl : l = [] := List.eq_nil_of_length_eq_zero (by omega)
    rw [uputN_zero, uputN_zero]
  | f + 1, 0, l, _, hg => by
    obtain rfl : l = [] := List.eq_nil_of_length_eq_zero (by omega)
    rw [uputN_zero, uputN_zero]
  | f + 1, g + 1, l, hf, hg => by
    by_cases h0 : l.length = 0
    · obtain rfl : l = [] := List.eq_nil_of_length_eq_zero h0
      rw [uputN_zero, uputN_zero]
    · obtain ⟨c1, c2, c3⟩ := ucut_bd (l := l) (by omega)
      have hdl : (l.drop (ucut l)).length = l.length - ucut l := List.length_drop
      rw [uputN, uputN, uputN_fuel f g (l.drop (ucut l)) (by omega) (by omega)]
/-- Behind numbers that were laid down, where more are asked for. -/
theorem uputN_step {s : Bool} {r : List UInt8} {M : Nat} : ∀ (k : Nat) (l out : List Int) (fuel : Nat), l.length ≤ k → l.length + 1 ≤ fuel → (∀ x ∈ l, inInt x) → dplain l s ≠ none → out.length + l.length ≤ M →
    ∃ f, fuel ≤ f + l.length ∧ utakeN s M fuel out ((uputN s k l).1 ++ r) = utakeN s M f (out ++ l) r
  | 0, l, out, fuel, hk, hf, _, _, _ => by
    obtain rfl : l = [] := List.eq_nil_of_length_eq_zero (by omega)
    exact ⟨fuel, by simp, by simp [uputN]⟩
  | k + 1, l, out, fuel, hk, hf, hl, hp, hM => by
    obtain ⟨f, rfl⟩ : ∃ f, fuel = f + 1 := ⟨fuel - 1, by omega⟩
    by_cases h0 : l.length = 0
    · obtain rfl : l = [] := List.eq_nil_of_length_eq_zero h0
      exact ⟨f + 1, by simp, by simp [uputN]⟩
    · obtain ⟨c1, c2, c3⟩ := ucut_bd (l := l) (by omega)
      obtain ⟨n, hn⟩ : ∃ n, n = ucut l := ⟨_, rfl⟩
      rw [← hn] at c1 c2 c3
      have htl : (l.take n).length = n := by rw [List.length_take]; omega
      have hdl : (l.drop n).length = l.length - n := List.length_drop
      have hpd := dplain_sub (m := l.drop n) hp fun x hx => List.mem_of_mem_drop hx
      have hid : ∀ x ∈ l.drop n, inInt x := fun x hx => hl x (List.mem_of_mem_drop hx)
      obtain ⟨r0, r1, _, _⟩ := urun_back (l := l.take n) (s := s) (fun x hx => hl x (List.mem_of_mem_take hx)) (dplain_sub hp fun x hx => List.mem_of_mem_take hx) (by omega) (by omega) ((uputN s k (l.drop n)).1 ++ r)
      obtain ⟨i0, _, _⟩ := uputN_back (s := s) (r := r) k (l.drop n) (out ++ l.take n) (f + 1) (by omega) (by omega) hid hpd
      obtain ⟨f', hf', he⟩ := uputN_step (s := s) (r := r) (M := M) k (l.drop n) (out ++ l.take n) f (by omega) (by omega) hid hpd (by rw [List.length_append]; omega)
      refine ⟨f', by omega, ?_⟩
      rw [uputN, ← hn, if_neg h0, if_neg (by rw [r0]; simp), if_neg (by rw [i0]; simp)]
      dsimp only
      rw [List.append_assoc, utakeN, if_neg (by omega), r1]
      dsimp only
      rw [if_neg (by simp), he, List.append_assoc, List.take_append_drop]
theorem utakeN_nil {s : Bool} {M : Nat} : ∀ (f : Nat) (out : List Int), out.length < M → utakeN s M f out [] = gbad
  | 0, _, _ => rfl
  | f + 1, out, h => by
    rw [utakeN, if_neg (by omega), if_pos (by show (2 : Int) ≠ 0; decide)]
/-- One number more is not there. -/
theorem utake_more {s : Bool} {l : List Int} {M : Nat} (hl : ∀ x ∈ l, inInt x) (hp : dplain l s ≠ none) (h : l.length < M) : utakeN s M (M + 1) [] (uputN s l.length l).1 = gbad := by
  obtain ⟨f, _, he⟩ := uputN_step (s := s) (r := []) (M := M) l.length l [] (M + 1) (Nat.le_refl _) (by omega) hl hp (by simp; omega)
  rw [List.append_nil, List.nil_append] at he
  rw [he]
  exact utakeN_nil _ _ h
/-- Of two rows one behind the other: taken as numbers with a sign, one more than the first row has, what is left has one less than the second has, or it is none. -/
theorem utake_over {l m : List Int} (hl : ∀ x ∈ l, inInt x) (hm : ∀ x ∈ m, inInt x) (hp : dplain l true ≠ none) (hq : dplain m false ≠ none) (hlm : l.length = m.length) :
    utakeN true (l.length + 1) (l.length + 1 + 1) [] ((uputN true l.length l).1 ++ (uputN false m.length m).1) = gbad ∨
    ∃ (x : List Int) (d : List Int), utakeN true (l.length + 1) (l.length + 1 + 1) [] ((uputN true l.length l).1 ++ (uputN false m.length m).1) = (x, (uputN false d.length d).1, 0) ∧ d.length < m.length ∧ (∀ x ∈ d, inInt x) ∧ dplain d false ≠ none := by
  obtain ⟨f, hf, he⟩ := uputN_step (s := true) (r := (uputN false m.length m).1) (M := l.length + 1) l.length l [] (l.length + 1 + 1) (Nat.le_refl _) (by omega) hl hp (by simp)
  rw [List.nil_append] at he
  rw [he]
  obtain ⟨f, rfl⟩ : ∃ g, f = g + 1 := ⟨f - 1, by omega⟩
  by_cases h0 : m.length = 0
  · obtain rfl : m = [] := List.eq_nil_of_length_eq_zero h0
    exact .inl (utakeN_nil _ _ (by omega))
  · obtain ⟨k, hk⟩ : ∃ k, m.length = k + 1 := ⟨m.length - 1, by omega⟩
    obtain ⟨c1, c2, c3⟩ := ucut_bd (l := m) (by omega)
    obtain ⟨n, hn⟩ : ∃ n, n = ucut m := ⟨_, rfl⟩
    rw [← hn] at c1 c2 c3
    have htl : (m.take n).length = n := by rw [List.length_take]; omega
    have hdl : (m.drop n).length = m.length - n := List.length_drop
    have hpd := dplain_sub (m := m.drop n) hq fun x hx => List.mem_of_mem_drop hx
    have hid : ∀ x ∈ m.drop n, inInt x := fun x hx => hm x (List.mem_of_mem_drop hx)
    obtain ⟨r0, r1, _, _⟩ := urun_back (l := m.take n) (s := false) (fun x hx => hm x (List.mem_of_mem_take hx)) (dplain_sub hq fun x hx => List.mem_of_mem_take hx) (by omega) (by omega) (uputN false k (m.drop n)).1
    obtain ⟨i0, _, _⟩ := uputN_back (s := false) (r := []) k (m.drop n) [] (m.length + 1) (by omega) (by omega) hid hpd
    have e1 : (uputN false m.length m).1 = (urunE (m.take n) false).1 ++ (uputN false k (m.drop n)).1 := by
      rw [hk, uputN, ← hn, if_neg h0, if_neg (by rw [r0]; simp), if_neg (by rw [i0]; simp)]
    have e2 : (uputN false k (m.drop n)).1 = (uputN false (m.drop n).length (m.drop n)).1 := by rw [uputN_fuel k _ (m.drop n) (by omega) (Nat.le_refl _)]
    rw [utakeN, if_neg (by omega), e1]
    have ha := uone_alike ((urunE (m.take n) false).1 ++ (uputN false k (m.drop n)).1)
    by_cases hx : (uone ((urunE (m.take n) false).1 ++ (uputN false k (m.drop n)).1) true).2.2 = 0
    · have ha := ha hx (by rw [r1])
      rw [r1] at ha
      dsimp only at ha
      rw [if_neg (by omega), ha.2]
      obtain ⟨f, rfl⟩ : ∃ g, f = g + 1 := ⟨f - 1, by omega⟩
      rw [utakeN, if_pos (by rw [List.length_append]; omega)]
      split
      · exact .inl rfl
      · exact .inr ⟨_, m.drop n, by rw [e2], by omega, hid, hpd⟩
    · exact .inl (by rw [if_pos hx])
end Go.Proofs.YtlibofmpnlfelaaGreatDoor

/- Numbers that are taken without a sign are not below 0; and there are as many as were asked for. -/



namespace Go.Proofs.YtlibofmpnlfelaaGreatDoor

theorem map_next {α β : Type} (f : α → β) {l : List α} {j : Nat} (h : j < l.length) : (l.take (j + 1)).map f = (l.take j).map f ++ [f l[j]] := by
  rw [List.take_succ_eq_append_getElem h, List.map_append]
  rfl
def Pos (p : List Int × List UInt8 × Int) : Prop := p.2.2 = 0 → ∀ x ∈ p.1, 0 ≤ x
theorem Pos.bad : Pos gbad := fun h => by cases h
theorem emade_pos {u : Nat} {x : Int} (h : emade u false = some x) : 0 ≤ x := by
  unfold emade at h
  rw [if_neg (by simp)] at h
  split at h
  · injection h with h; omega
  · cases h
theorem dtake_pos (b : List UInt8) : Pos (dtakeE b false) := by
  unfold dtakeE
  split
  · exact Pos.bad
  · generalize unpacksAny (dlook b).2.2.2.1 (dlook b).2.2.1 (wof (dlook b).2.1) = p
    obtain ⟨u, r, e⟩ := p
    dsimp only
    split
    · exact Pos.bad
    · cases h1 : dmade u false with
      | none => exact Pos.bad
      | some m =>
        intro _ x hx
        obtain ⟨y, _, hy⟩ := omap_mem h1 hx
        exact emade_pos hy
theorem gnext_pos {f : Bool} {a : Int} {u : Nat} {y : Int} (h : gnext false f a u = some y) : 0 ≤ y := by
  unfold gnext at h
  split at h
  · rename_i h2
    injection h with h
    rw [← h]
    exact h2.2.elim (fun h => nomatch h) id
  · cases h
theorem gwalk_pos {f : Bool} : ∀ {us : List Nat} {x : Int} {ys : List Int}, gwalk false f x us = some ys → ∀ y ∈ ys, 0 ≤ y
  | [], _, _, h => by
    injection h with h
    subst h
    intro y hy
    cases hy
  | u :: us, x, ys, h => by
    rw [gwalk] at h
    cases hg : gnext false f x u with
    | none => rw [hg] at h; cases h
    | some z =>
      rw [hg] at h
      obtain ⟨zs, hz, rfl⟩ := Option.map_eq_some_iff.1 h
      intro y hy
      rcases List.mem_cons.1 hy with rfl | hy
      · exact gnext_pos hg
      · exact gwalk_pos hz y hy
theorem gend_pos {f : Bool} {x : Int} {us : List Nat} {q : List UInt8} (hx : 0 ≤ x) : Pos (gend false f x us q) := by
  unfold gend
  cases h : gwalk false f x us with
  | none => exact Pos.bad
  | some ys =>
    intro _ y hy
    rcases List.mem_cons.1 hy with rfl | hy
    · exact hx
    · exact gwalk_pos h y hy
theorem vtint_pos {l r : List UInt8} {x : Int} (h : vtint l false = some (x, r)) : 0 ≤ x := by
  unfold vtint at h
  cases hv : vtake l with
  | none => rw [hv] at h; cases h
  | some p =>
    rw [hv] at h
    dsimp only at h
    split at h
    · cases h
    · injection h with h
      injection h with h _
      omega
theorem gtake_pos (b : List UInt8) : Pos (gtakeE b false) := by
  unfold gtakeE
  split
  · exact Pos.bad
  · unfold gbody
    cases h1 : vtint (dlook b).2.2.2.1 false with
    | none => exact Pos.bad
    | some p =>
      obtain ⟨x, r1⟩ := p
      have hx := vtint_pos h1
      dsimp only
      cases vtint r1 true with
      | none => exact Pos.bad
      | some d =>
        obtain ⟨d, r2⟩ := d
        dsimp only
        split
        · unfold gmore
          split
          · generalize unpacksAny r2 ((dlook b).2.2.1 - 2) (wof (dlook b).2.1) = p
            obtain ⟨us, q, e⟩ := p
            dsimp only
            split
            · exact Pos.bad
            · exact gend_pos hx
          · exact gend_pos hx
        · exact Pos.bad
theorem ptake_pos (b : List UInt8) : Pos (ptakeE b false) := by
  unfold ptakeE
  split
  · exact Pos.bad
  · unfold pbody
    split
    · exact Pos.bad
    · split
      · exact Pos.bad
      · unfold pbits
        generalize unpacksAny _ (dlook b).2.2.1 (wof (dlook b).2.1) = p
        obtain ⟨low, r3, e⟩ := p
        dsimp only
        split
        · exact Pos.bad
        · generalize unpacksAny r3 _ _ = p2
          obtain ⟨both, r4, e⟩ := p2
          dsimp only
          split
          · exact Pos.bad
          · unfold pend
            split
            · exact Pos.bad
            · cases h1 : omap (gnext false false _) _ with
              | none => exact Pos.bad
              | some xs =>
                intro _ x hx
                obtain ⟨y, _, hy⟩ := omap_mem h1 hx
                exact gnext_pos hy
theorem etake_pos {b : List UInt8} (h : (etake b false).2.2.2 = 0) : 0 ≤ (etake b false).1 := by
  cases b with
  | nil => cases h
  | cons x r =>
    unfold etake at h ⊢
    dsimp only at h ⊢
    split
    · exact Int.le_refl _
    · split
      · exact Int.le_refl _
      · split
        · exact Int.le_refl _
        · cases h1 : emade (bval (r.take (x.toNat / 8 + 1))) false with
          | none => exact Int.le_refl _
          | some y => exact emade_pos h1
theorem uone_pos (b : List UInt8) : Pos (uone b false) := by
  unfold uone
  cases b with
  | nil => exact Pos.bad
  | cons x r =>
    dsimp only
    split
    · exact dtake_pos _
    · split
      · exact ptake_pos _
      · split
        · exact gtake_pos _
        · intro h y hy
          rw [(List.mem_replicate.1 hy).2]
          exact etake_pos h
theorem utakeN_pos {M : Nat} : ∀ (k : Nat) (out : List Int) (rest : List UInt8), (∀ x ∈ out, 0 ≤ x) → Pos (utakeN false M k out rest)
  | 0, _, _, _ => Pos.bad
  | k + 1, out, rest, h => by
    rw [utakeN]
    split
    · split
      · exact Pos.bad
      · exact fun _ => h
    · split
      · exact Pos.bad
      · rename_i h2
        refine utakeN_pos k _ _ fun x hx => ?_
        rcases List.mem_append.1 hx with hx | hx
        · exact h x hx
        · exact uone_pos rest (Decidable.not_not.1 h2) x hx
theorem utakeN_many {s : Bool} {M : Nat} : ∀ (k : Nat) (out : List Int) (rest : List UInt8), (utakeN s M k out rest).2.2 = 0 → (utakeN s M k out rest).1.length = M
  | 0, _, _, h => by cases h
  | k + 1, out, rest, h => by
    rw [utakeN] at h ⊢
    split at h
    · rename_i h1
      rw [if_pos h1]
      split at h
      · cases h
      · rename_i h2
        rw [if_neg h2]
        dsimp only
        omega
    · rename_i h1
      rw [if_neg h1]
      split at h
      · cases h
      · rename_i h2
        rw [if_neg h2]
        exact utakeN_many k _ _ h
theorem utakeE_ok {b r : List UInt8} {M : Nat} {s : Bool} {l : List Int} (h : utakeE b (M : Int) s = (l, r, 0)) : l.length = M ∧ (s = false → ∀ x ∈ l, 0 ≤ x) := by
  unfold utakeE at h
  split at h
  · cases h
  · rw [Int.toNat_natCast] at h
    have h1 := utakeN_many (s := s) (M := M) (M + 1) [] b (by rw [h])
    rw [h] at h1
    refine ⟨h1, fun hs => ?_⟩
    subst hs
    have h2 := utakeN_pos (M := M) (M + 1) [] b (by simp) (by rw [h])
    rw [h] at h2
    exact h2
theorem dplain_of {l : List Int} {s : Bool} (h : ∀ x ∈ l, s = true ∨ 0 ≤ x) : dplain l s ≠ none := by
  induction l with
  | nil => intro h; cases h
  | cons x l ih =>
    intro h0
    have h3 := ih fun y hy => h y (List.mem_cons_of_mem _ hy)
    obtain ⟨u, hu⟩ : ∃ u, eplain x s = some u := by
      unfold eplain
      rcases h x List.mem_cons_self with h1 | h1
      · exact ⟨_, if_pos h1⟩
      · cases s with
        | true => exact ⟨_, if_pos rfl⟩
        | false => exact ⟨x.toNat, by rw [if_neg (by simp), if_pos h1]⟩
    unfold dplain at h0 h3
    rw [omap, hu] at h0
    cases ho : omap (eplain · s) l with
    | none => exact h3 ho
    | some us => rw [ho] at h0; cases h0
theorem uput_ok {l : List Int} {s : Bool} (h : l.length ≤ 4096) (hl : ∀ x ∈ l, inInt x) (hp : dplain l s ≠ none) : uputE l s = ((uputN s l.length l).1, 0) ∧ (uputN s l.length l).1.length ≤ 40960 := by
  obtain ⟨h0, h1, _⟩ := uputN_back (s := s) (r := []) l.length l [] (l.length + 1) (Nat.le_refl _) (Nat.le_refl _) hl hp
  unfold uputE
  rw [if_neg (by omega)]
  exact ⟨Prod.ext rfl h0, by omega⟩
theorem utake_put {l : List Int} {s : Bool} (h : l.length ≤ 4096) (hl : ∀ x ∈ l, inInt x) (hp : dplain l s ≠ none) (r : List UInt8) : utakeE ((uputN s l.length l).1 ++ r) l.length s = (l, r, 0) := by
  obtain ⟨_, _, h2⟩ := uputN_back (s := s) (r := r) l.length l [] (l.length + 1) (Nat.le_refl _) (Nat.le_refl _) hl hp
  unfold utakeE
  rw [if_neg (by omega), Int.toNat_natCast]
  simpa using h2
end Go.Proofs.YtlibofmpnlfelaaGreatDoor

/- Columns of numbers (layer 14), as plain mathematics. -/







namespace Go.Proofs.YtlibofmpnlfelaaGreatDoor

/-- Whether all may be of a kind, and are something. -/
def imay (k : Int) (l : List CV) : Bool := l.all fun x => !x.null && kmay k x
def ifirst (l : List CV) : List Int := l.map fun x => x.n / 1000
def isecond (l : List CV) : List Int := l.map fun x => x.n % 1000
/-- What Put answers. -/
def iputE (k : Int) (l : List CV) : List UInt8 × Int :=
  if knumber k = false then ([], 1) else if 4096 < l.length then ([], 3) else if imay k l = false then ([], 21)
  else if k = 1 then qputE (l.map fun x => x.n == 1)
  else if k = 5 then ((uputE (ifirst l) true).1 ++ (uputE (isecond l) false).1, 0)
  else uputE (l.map (·.n)) true
/-- Two parts that are none of a number's. -/
def ibad (n s : Int) : Bool := decide (999 < s) || (decide (n < -9223372036854776) || (n == -9223372036854776 && decide (s < 192))) || (decide (9223372036854775 < n) || (n == 9223372036854775 && decide (807 < s)))
def itime : List Int → List Int → Option (List CV)
  | n :: l, s :: m => if ibad n s then none else (itime l m).map (nv (1000 * n + s) :: ·)
  | _, _ => some []
/-- What Take answers. -/
def itakeB (p : List Bool × List UInt8 × Int) : List CV × Int := if p.2.2 ≠ 0 ∨ 0 < p.2.1.length then ([], 2) else (p.1.map fun t => nv (if t then 1 else 0), 0)
def itakeT (l : List Int) (p : List Int × List UInt8 × Int) : List CV × Int := if p.2.2 ≠ 0 ∨ 0 < p.2.1.length then ([], 2) else match itime l p.1 with | none => ([], 2) | some o => (o, 0)
def itakeI (k : Int) (many : Int) (p : List Int × List UInt8 × Int) : List CV × Int :=
  if p.2.2 ≠ 0 then ([], 2) else if k = 5 then itakeT p.1 (utakeE p.2.1 many false) else if 0 < p.2.1.length then ([], 2) else (p.1.map nv, 0)
def itakeE (k : Int) (b : List UInt8) (many : Int) : List CV × Int :=
  if knumber k = false ∨ many < 0 ∨ 4096 < many then ([], 1) else if k = 1 then itakeB (qtakeE b many) else itakeI k many (utakeE b many true)

theorem ibad_no {n : Int} (h : inInt n) : ibad (n / 1000) (n % 1000) = false := by
  unfold inInt at h
  unfold ibad
  simp
  omega
theorem itime_parts : ∀ {ns : List Int}, (∀ n ∈ ns, inInt n) → itime (ns.map (· / 1000)) (ns.map (· % 1000)) = some (ns.map nv)
  | [], _ => rfl
  | n :: ns, h => by
    show (if ibad (n / 1000) (n % 1000) then none else (itime (ns.map (· / 1000)) (ns.map (· % 1000))).map (nv (1000 * (n / 1000) + n % 1000) :: ·)) = _
    rw [ibad_no (h n List.mem_cons_self), itime_parts fun m hm => h m (List.mem_cons_of_mem _ hm), show 1000 * (n / 1000) + n % 1000 = n by omega]
    rfl
theorem kmay_num {k n : Int} (h1 : 1 ≤ k) (h5 : k ≤ 5) (hb : k = 1 → n = 0 ∨ n = 1) : kmay k (nv n) = true := by
  unfold kmay nv
  rw [if_neg (by simp; omega), if_neg (by simp), if_pos (by simp; omega)]
  dsimp only
  have h0 : ((⟨#[]⟩ : ByteArray).toList == []) = true := by decide +kernel
  rw [h0]
  by_cases h : k = 1
  · rcases hb h with rfl | rfl <;> simp
  · simp [h]
theorem imay_num {k : Int} {ns : List Int} (h1 : 1 ≤ k) (h5 : k ≤ 5) (hb : k = 1 → ∀ n ∈ ns, n = 0 ∨ n = 1) : imay k (ns.map nv) = true := by
  unfold imay
  rw [List.all_eq_true]
  intro x hx
  obtain ⟨n, hn, rfl⟩ := List.mem_map.1 hx
  show (!false && kmay k (nv n)) = true
  rw [kmay_num h1 h5 fun h => hb h n hn]
  rfl
theorem knumber_in {k : Int} (h1 : 1 ≤ k) (h5 : k ≤ 5) : knumber k = true := by unfold knumber; simp; omega
/-- P14.3: Take of Put; and one number more is not there. -/
theorem iback {k : Int} {ns : List Int} (h1 : 1 ≤ k) (h5 : k ≤ 5) (hl : ns.length ≤ 4096) (hn : ∀ n ∈ ns, inInt n) (hb : k = 1 → ∀ n ∈ ns, n = 0 ∨ n = 1) :
    ∃ b, iputE k (ns.map nv) = (b, 0) ∧ b.length ≤ 100000 ∧ itakeE k b ns.length = (ns.map nv, 0) ∧ (k ≠ 1 → ns.length < 4096 → (itakeE k b ((ns.length + 1 : Nat) : Int)).2 = 2) := by
  have hk := knumber_in h1 h5
  have hm := imay_num h1 h5 hb
  have hlen : (ns.map nv).length = ns.length := List.length_map _
  unfold iputE
  rw [if_neg (by rw [hk]; simp), if_neg (by omega), if_neg (by rw [hm]; simp)]
  have htk : ∀ (b : List UInt8) (m : Nat), m ≤ 4096 → itakeE k b (m : Int) = if k = 1 then itakeB (qtakeE b m) else itakeI k m (utakeE b m true) := fun b m hm => by
    unfold itakeE
    rw [if_neg (by rw [hk]; simp; omega)]
  by_cases hk1 : k = 1
  · subst hk1
    rw [if_pos rfl]
    have e1 : (ns.map nv).map (fun x => x.n == 1) = ns.map (· == 1) := by rw [List.map_map]; rfl
    have hq : qputE (ns.map (· == 1)) = (yput (qpack (ns.map (· == 1))), 0) := by unfold qputE; rw [if_pos (by rw [List.length_map]; exact hl)]
    have ht := qtake_back (ns.map (· == 1)) []
    rw [List.append_nil, List.length_map, ← qtakeE_in hl] at ht
    refine ⟨_, by rw [e1, hq], ?_, ?_, fun h => absurd rfl h⟩
    · have h2 := yput_len _ (qpack (ns.map (· == 1))) (Nat.le_refl _)
      have h3 := qpack_len (ns.map (· == 1))
      rw [List.length_map] at h3
      omega
    · rw [htk _ _ hl, if_pos rfl, ht]
      unfold itakeB
      rw [if_neg (by simp), List.map_map]
      refine Prod.ext (List.map_congr_left fun n hn => ?_) rfl
      rcases hb rfl n hn with rfl | rfl <;> rfl
  · rw [if_neg hk1]
    have hpt : dplain ns true ≠ none := dplain_of fun _ _ => .inl rfl
    by_cases hk5 : k = 5
    · subst hk5
      rw [if_pos rfl]
      have e1 : ifirst (ns.map nv) = ns.map (· / 1000) := by unfold ifirst; rw [List.map_map]; rfl
      have e2 : isecond (ns.map nv) = ns.map (· % 1000) := by unfold isecond; rw [List.map_map]; rfl
      obtain ⟨f, hf⟩ : ∃ f, f = ns.map (· / 1000) := ⟨_, rfl⟩
      obtain ⟨g, hg⟩ : ∃ g, g = ns.map (· % 1000) := ⟨_, rfl⟩
      have hfl : f.length = ns.length := by rw [hf, List.length_map]
      have hgl : g.length = ns.length := by rw [hg, List.length_map]
      have hfi : ∀ x ∈ f, inInt x := by
        intro x hx
        rw [hf] at hx
        obtain ⟨n, hnm, rfl⟩ := List.mem_map.1 hx
        have := hn n hnm
        unfold inInt at this ⊢
        omega
      have hgi : ∀ x ∈ g, inInt x ∧ 0 ≤ x := by
        intro x hx
        rw [hg] at hx
        obtain ⟨n, hnm, rfl⟩ := List.mem_map.1 hx
        unfold inInt
        omega
      have hfp : dplain f true ≠ none := dplain_of fun _ _ => .inl rfl
      have hgp : dplain g false ≠ none := dplain_of fun x hx => .inr (hgi x hx).2
      obtain ⟨a1, a2⟩ := uput_ok (by omega) hfi hfp
      obtain ⟨b1, b2⟩ := uput_ok (by omega) (fun x hx => (hgi x hx).1) hgp
      have t1 := utake_put (by omega) hfi hfp (uputN false g.length g).1
      have t2 := utake_put (by omega) (fun x hx => (hgi x hx).1) hgp []
      rw [List.append_nil] at t2
      rw [hfl] at t1
      rw [hgl] at t2
      have hti := itime_parts hn
      rw [← hf, ← hg] at hti
      refine ⟨_, by rw [e1, e2, ← hf, ← hg, a1, b1], ?_, ?_, fun _ h4 => ?_⟩
      · rw [List.length_append]; dsimp only; omega
      · rw [htk _ _ hl, if_neg hk1, ← hfl, hfl, t1]
        unfold itakeI
        rw [if_neg (by simp), if_pos rfl]
        dsimp only
        rw [← hgl, hgl, t2]
        unfold itakeT
        rw [if_neg (by simp)]
        dsimp only
        rw [hti]
      · rw [htk _ _ (by omega), if_neg hk1]
        have e3 : utakeE ((uputN true f.length f).1 ++ (uputN false g.length g).1) ((ns.length + 1 : Nat) : Int) true = utakeN true (f.length + 1) (f.length + 1 + 1) [] ((uputN true f.length f).1 ++ (uputN false g.length g).1) := by
          unfold utakeE
          rw [if_neg (by omega), Int.toNat_natCast, hfl]
        rw [e3]
        rcases utake_over hfi (fun x hx => (hgi x hx).1) hfp hgp (by omega) with h | ⟨x, d, h, hd, hdi, hdp⟩
        · rw [h]; rfl
        · rw [h]
          unfold itakeI
          rw [if_neg (by simp), if_pos rfl]
          dsimp only
          have e4 : utakeE (uputN false d.length d).1 ((ns.length + 1 : Nat) : Int) false = gbad := by
            unfold utakeE
            rw [if_neg (by omega), Int.toNat_natCast]
            exact utake_more hdi hdp (by omega)
          rw [e4]
          rfl
    · rw [if_neg hk5]
      have e1 : (ns.map nv).map (·.n) = ns := by rw [List.map_map]; exact List.map_id' ns
      obtain ⟨a1, a2⟩ := uput_ok hl hn hpt
      have t1 := utake_put hl hn hpt []
      rw [List.append_nil] at t1
      refine ⟨_, by rw [e1, a1], by omega, ?_, fun _ h4 => ?_⟩
      · rw [htk _ _ hl, if_neg hk1, t1]
        unfold itakeI
        rw [if_neg (by simp), if_neg hk5, if_neg (by simp)]
      · rw [htk _ _ (by omega), if_neg hk1]
        have e4 : utakeE (uputN true ns.length ns).1 ((ns.length + 1 : Nat) : Int) true = gbad := by
          unfold utakeE
          rw [if_neg (by omega), Int.toNat_natCast]
          exact utake_more hn hpt (by omega)
        rw [e4]
        rfl
end Go.Proofs.YtlibofmpnlfelaaGreatDoor

/- What layer 14's reference's Put stands on: three rows of numbers that grow turn about. -/







namespace Go.Proofs.YtlibofmpnlfelaaGreatDoor

open Go.RowKit

/-- Three rows of numbers of the call's own, in blocks of their own. -/
structure Three (w : World) (B : Nat) (u v x : Value) (n m q : Nat) (xs bs cs : List Value) : Prop where
  h1 : w.ownsRow B 3 1 u n xs
  h2 : w.ownsRow B 3 1 v m bs
  h3 : w.ownsRow B 3 1 x q cs
  n1 : u.ownBlock ≠ none
  n2 : v.ownBlock ≠ none
  n3 : x.ownBlock ≠ none
  d12 : u.ownBlock ≠ v.ownBlock
  d13 : u.ownBlock ≠ x.ownBlock
  d23 : v.ownBlock ≠ x.ownBlock
theorem Three.below {w w' : World} {B n m q : Nat} {u v x : Value} {xs bs cs : List Value} (h : Three w B u v x n m q xs bs cs) (hb : Below w.heap.size w w') : Three w' B u v x n m q xs bs cs :=
  ⟨own_below h.h1 hb, own_below h.h2 hb, own_below h.h3 hb, h.n1, h.n2, h.n3, h.d12, h.d13, h.d23⟩
theorem inums_in {l : List CV} (h : ∀ x ∈ l, x.inInt) : ∀ x ∈ l.map (·.n), inInt x := by
  intro x hx
  obtain ⟨y, hy, rfl⟩ := List.mem_map.1 hx
  exact h y hy
theorem iputE_arg {k : Int} {l : List CV} (h : knumber k = false) : iputE k l = ([], 1) := by unfold iputE; rw [if_pos h]
theorem iputE_big {k : Int} {l : List CV} (h : knumber k = true) (h4 : 4096 < l.length) : iputE k l = ([], 3) := by unfold iputE; rw [if_neg (by rw [h]; simp), if_pos h4]
theorem iputE_type {k : Int} {l : List CV} (h : knumber k = true) (h4 : ¬ 4096 < l.length) (hm : imay k l = false) : iputE k l = ([], 21) := by unfold iputE; rw [if_neg (by rw [h]; simp), if_neg h4, if_pos hm]
theorem iputE_in {k : Int} {l : List CV} (h : knumber k = true) (h4 : ¬ 4096 < l.length) (hm : imay k l = true) : iputE k l = if k = 1 then qputE (l.map fun x => x.n == 1) else if k = 5 then ((uputE (ifirst l) true).1 ++ (uputE (isecond l) false).1, 0) else uputE (l.map (·.n)) true := by
  unfold iputE; rw [if_neg (by rw [h]; simp), if_neg h4, if_neg (by rw [hm]; simp)]
end Go.Proofs.YtlibofmpnlfelaaGreatDoor

/- Contracts of layer 14's reference: Parts, Put. -/



namespace Go.Proofs.YtlibofmpnlfelaaGreatDoor

open Go.RowKit

theorem parts_of (n : Int) : (n.tmod 1000 < 0 → n.tdiv 1000 - 1 = n / 1000 ∧ n.tmod 1000 + 1000 = n % 1000) ∧ (¬ n.tmod 1000 < 0 → n.tdiv 1000 = n / 1000 ∧ n.tmod 1000 = n % 1000) := by
  have h1 := Int.mul_tdiv_add_tmod n 1000
  have h2 := Int.tmod_lt_of_pos n (show (0 : Int) < 1000 by decide)
  have h3 := Int.lt_tmod_of_pos n (show (0 : Int) < 1000 by decide)
  omega
end Go.Proofs.YtlibofmpnlfelaaGreatDoor

/- The contract of layer 14's reference: Take. -/





namespace Go.Proofs.YtlibofmpnlfelaaGreatDoor

open Go.RowKit

theorem ibad_range {n s : Int} (h : ibad n s = false) (h0 : 0 ≤ s) : s ≤ 999 ∧ -9223372036854775808 ≤ 1000 * n + s ∧ 1000 * n + s ≤ 9223372036854775807 ∧ -9223372036854776 ≤ n ∧ n ≤ 9223372036854775 := by
  unfold ibad at h
  simp at h
  omega
theorem itime_take : ∀ {l m : List Int} {j : Nat} {acc : List CV} (hl : j < l.length) (hm : j < m.length), itime (l.take j) (m.take j) = some acc →
    (ibad l[j] m[j] = true → itime l m = none) ∧ (ibad l[j] m[j] = false → itime (l.take (j + 1)) (m.take (j + 1)) = some (acc ++ [nv (1000 * l[j] + m[j])]))
  | n :: l, s :: m, 0, acc, _, _, h => by
    injection h with h
    subst h
    refine ⟨fun hb => ?_, fun hb => ?_⟩
    · have hb : ibad n s = true := hb
      show (if ibad n s then none else _) = none
      rw [hb, if_pos rfl]
    · have hb : ibad n s = false := hb
      show (if ibad n s then none else (itime [] []).map (nv (1000 * n + s) :: ·)) = _
      rw [hb, if_neg (by simp)]
      rfl
  | n :: l, s :: m, j + 1, acc, hl, hm, h => by
    have h' : (if ibad n s then none else (itime (l.take j) (m.take j)).map (nv (1000 * n + s) :: ·)) = some acc := h
    cases hb : ibad n s with
    | true => rw [hb, if_pos rfl] at h'; cases h'
    | false =>
      rw [hb, if_neg (by simp)] at h'
      obtain ⟨a, ha, rfl⟩ := Option.map_eq_some_iff.1 h'
      obtain ⟨i1, i2⟩ := itime_take (l := l) (m := m) (by simpa using hl) (by simpa using hm) ha
      refine ⟨fun hb2 => ?_, fun hb2 => ?_⟩
      · show (if ibad n s then none else (itime l m).map (nv (1000 * n + s) :: ·)) = none
        rw [hb, if_neg (by simp), i1 hb2]
        rfl
      · show (if ibad n s then none else (itime (l.take (j + 1)) (m.take (j + 1))).map (nv (1000 * n + s) :: ·)) = _
        rw [hb, if_neg (by simp), i2 hb2]
        rfl
theorem utakeN_rest {s : Bool} {M : Nat} : ∀ (k : Nat) (out : List Int) (rest : List UInt8), (utakeN s M k out rest).2.1.length ≤ rest.length
  | 0, _, _ => by simp [utakeN, gbad]
  | k + 1, out, rest => by
    rw [utakeN]
    split
    · split
      · simp [gbad]
      · exact Nat.le_refl _
    · split
      · simp [gbad]
      · rename_i h
        exact Nat.le_trans (utakeN_rest k _ _) (uone_bd (Decidable.not_not.1 h)).2.2
theorem utakeE_rest {b r : List UInt8} {M : Int} {s : Bool} {l : List Int} {x : Int} (h : utakeE b M s = (l, r, x)) : r.length ≤ b.length := by
  have h1 : r = (utakeE b M s).2.1 := by rw [h]
  rw [h1]
  unfold utakeE
  split
  · simp
  · exact utakeN_rest _ _ _
theorem itakeE_arg {k : Int} {b : List UInt8} {many : Int} (h : knumber k = false ∨ many < 0 ∨ 4096 < many) : itakeE k b many = ([], 1) := by unfold itakeE; rw [if_pos h]
theorem itakeE_bool {b : List UInt8} {M : Nat} (h : M ≤ 4096) : itakeE 1 b (M : Int) = itakeB (qtakeE b M) := by
  unfold itakeE
  rw [if_neg (by rw [show knumber 1 = true from rfl]; simp; omega), if_pos rfl]
theorem itakeE_num {k : Int} {b : List UInt8} {M : Nat} (h : M ≤ 4096) (hk : knumber k = true) (h1 : k ≠ 1) : itakeE k b (M : Int) = itakeI k M (utakeE b M true) := by
  unfold itakeE
  rw [if_neg (by rw [hk]; simp; omega), if_neg h1]
theorem itime_len : ∀ {l m : List Int} {o : List CV}, itime l m = some o → o.length = min l.length m.length
  | [], m, o, h => by cases m <;> (injection h with h; subst h; simp)
  | _ :: _, [], o, h => by injection h with h; subst h; simp
  | n :: l, s :: m, o, h => by
    have h' : (if ibad n s then none else (itime l m).map (nv (1000 * n + s) :: ·)) = some o := h
    split at h'
    · cases h'
    · obtain ⟨a, ha, rfl⟩ := Option.map_eq_some_iff.1 h'
      have := itime_len ha
      simp only [List.length_cons]
      omega
end Go.Proofs.YtlibofmpnlfelaaGreatDoor

/- The table of widths and utf8's two tables out of what a seat's rows list. (For seats whose rows list these three, in this order.) -/





namespace Go.Proofs.YtlibofmpnlfelaaGreatDoor

open Go.Lib Go.RowKit Go.ChangeShapes Go.WideShapes Go.ChangeAt

end Go.Proofs.YtlibofmpnlfelaaGreatDoor

/- ints' own contracts: split, the functions handed to each, each (a generic function, at six pairs of types), only, slices.ContainsFunc with Put's closure. Written by gen_iown.py. -/









namespace Go.Proofs.YtlibofmpnlfelaaGreatDoor

open Go.RowKit

/-- A number of Time's two parts as they lie. -/
def ipc (p : Int × Int) : List Value := [.int .i64 p.1, .int .i64 p.2]
def ipv (p : Int × Int) : Value := .agg (ipc p).toArray
def iparts (n : Int) : Int × Int := (n / 1000, n % 1000)
theorem ipc_one (p : Int × Int) : ∀ u ∈ ipc p, u.oneCell' = true := by unfold ipc; simp [Value.oneCell']
theorem infoP_size : (Tryz.prog.info? 66).map (·.size) = some 2 := by kernel_rfl
theorem infoVI_size : (Tryz.prog.info? 36).map (·.size) = some 3 := by kernel_rfl
theorem boxI_row (x : CV) (w : World) : Row (w.alloc (.cells #[.bool x.null, .int .i64 x.n, .string x.s] 36)) w.heap.size 36 [.bool x.null, .int .i64 x.n, .string x.s] := heap_alloc_new w _
theorem cellsP {w : World} {ad : Addr} {k : Nat} {p : Int × Int} (h : ∀ i, i < 2 → w.cell? (ad.add (k * 2 + i)) = (ipc p)[i]?) :
    w.cell? (ad.add (k * 2)) = some (.int .i64 p.1) ∧ w.cell? ⟨(ad.add (k * 2)).block, (ad.add (k * 2)).off + 1, none⟩ = some (.int .i64 p.2) := by
  refine ⟨h 0 (by omega), ?_⟩
  have h1 := h 1 (by omega); rw [← add_add] at h1; exact h1
set_option maxHeartbeats 1000000 in
theorem isplit_any (n : Int) (w : World) (h : inInt n) : Calls Tryz.prog 39 #[.int .i64 n] w fun e w' => e = .returned (ipv (iparts n)) ∧ Below w.heap.size w w' := by
  unfold inInt at h
  obtain ⟨h0, h1⟩ := h
  obtain ⟨p1, p2⟩ := parts_of n
  obtain ⟨t, ht⟩ : ∃ t, n.tdiv 1000 = t := ⟨_, rfl⟩
  obtain ⟨m, hm⟩ : ∃ m, n.tmod 1000 = m := ⟨_, rfl⟩
  rw [ht, hm] at p1 p2
  have b1 : -9223372036854776 ≤ t ∧ t ≤ 9223372036854776 := by omega
  have b2 : -1000 ≤ m ∧ m ≤ 1000 := by omega
  obtain ⟨w1, hw1⟩ : ∃ w1, w1 = w.alloc (.cells #[.int .i64 0, .int .i64 0] 66) := ⟨_, rfl⟩
  have z1 : w1.heap.size = w.heap.size + 1 := by rw [hw1]; simp
  have hz1 : Row w1 w.heap.size 66 [.int .i64 0, .int .i64 0] := by rw [hw1]; exact heap_alloc_new w _
  have hb1 : Below w.heap.size w w1 := by rw [hw1]; exact (Below.refl _ _).alloc (Nat.le_refl _) _
  obtain ⟨w2, hw2⟩ : ∃ w2, w2 = w1.alloc (.cells #[.int .i64 t, .int .i64 m] 66) := ⟨_, rfl⟩
  have hr2 : Row w2 (w.heap.size + 1) 66 [.int .i64 t, .int .i64 m] := by rw [hw2, ← z1]; exact heap_alloc_new w1 _
  have hz2 : Row w2 w.heap.size 66 [.int .i64 0, .int .i64 0] := by rw [hw2]; exact hz1.alloc _
  have hb2 : Below w.heap.size w w2 := by rw [hw2]; exact hb1.alloc (by omega) _
  by_cases hneg : m < 0
  · have d1 : decide (m < 0) = true := decide_eq_true hneg
    obtain ⟨e1, e2⟩ := p1 hneg
    obtain ⟨w3, hw3⟩ : ∃ w3, w3 = w2.setCell ⟨w.heap.size + 1, 0, none⟩ (.int .i64 (t - 1)) := ⟨_, rfl⟩
    have hr3 : Row w3 (w.heap.size + 1) 66 [.int .i64 (t - 1), .int .i64 m] := by rw [hw3]; exact hr2.set_ 0 _
    have hz3 : Row w3 w.heap.size 66 [.int .i64 0, .int .i64 0] := by rw [hw3]; exact hz2.far (p := ⟨w.heap.size + 1, 0, none⟩) (by simp) _
    have hb3 : Below w.heap.size w w3 := by rw [hw3]; exact hb2.setCell (p := ⟨w.heap.size + 1, 0, none⟩) (by simp) _
    obtain ⟨w4, hw4⟩ : ∃ w4, w4 = w3.setCell ⟨w.heap.size + 1, 1, none⟩ (.int .i64 (m + 1000)) := ⟨_, rfl⟩
    have hr4 : Row w4 (w.heap.size + 1) 66 [.int .i64 (t - 1), .int .i64 (m + 1000)] := by rw [hw4]; exact hr3.set_ 1 _
    have HZ4 : Hid (Row w4 w.heap.size 66 [.int .i64 0, .int .i64 0]) := Lib.hid (by rw [hw4]; exact hz3.far (p := ⟨w.heap.size + 1, 1, none⟩) (by simp) _)
    have HB4 : Hid (Below w.heap.size w w4) := Lib.hid (by rw [hw4]; exact hb3.setCell (p := ⟨w.heap.size + 1, 1, none⟩) (by simp) _)
    have a20 := hr2.cell 0
    have a21 := hr2.cell 1
    have f20 := hr2.free 0
    have a31 := hr3.cell 1
    have f31 := hr3.free 1
    have a40 := hr4.cell 0
    have a41 := hr4.cell 1
    have HE : Hid (ipc (iparts n) = [.int .i64 (t - 1), .int .i64 (m + 1000)]) := Lib.hid (by unfold ipc iparts; rw [e1, e2])
    obtain ⟨res, hres⟩ : ∃ r, r = ipc (iparts n) := ⟨_, rfl⟩
    rw [← hres] at HE
    unfold ipv
    rw [← hres]
    have hw5 : IntKind.i64.wrap (t - 1) = t - 1 := by rw [IntKind.wrap_i64]; omega
    have hw6 : IntKind.i64.wrap (m + 1000) = m + 1000 := by rw [IntKind.wrap_i64]; omega
    clear p1 p2 e1 e2 h0 h1 hr2 hz2 hb2 hr3 hz3 hb3 hr4 hz1 hb1 hres z1
    subst hw4
    subst hw3
    subst hw2
    subst hw1
    go_enter Tryz.func39, Tryz.ntmps39
    have hF1 : Row (w.alloc (.cells #[.int .i64 (t - 1), .int .i64 (m + 1000)] 66)) w.heap.size 66 [.int .i64 (t - 1), .int .i64 (m + 1000)] := heap_alloc_new w _
    have HR5 := Lib.hid (hF1.alloc (.cells #[.int .i64 (t - 1), .int .i64 (m + 1000)] 66))
    have HB5 := Lib.hid (show Below w.heap.size w ((w.alloc (.cells #[.int .i64 (t - 1), .int .i64 (m + 1000)] 66)).alloc (.cells #[.int .i64 (t - 1), .int .i64 (m + 1000)] 66)) from ((Below.refl _ _).alloc (Nat.le_refl _) _).alloc (by simp) _)
    clear hF1
    go_wp2
    refine bodyPost_ret (v := .agg #[.int .i64 (t - 1), .int .i64 (m + 1000)]) (results_cell_row rfl _ _ w.heap.size _ _ (0, 0) _ rfl HR5.out Tryz.underlying66 rfl (by kernel_rfl)) rfl ?_
    rw [HE.out]
    exact ⟨rfl, HB5.out⟩
  · have d1 : decide (m < 0) = false := decide_eq_false hneg
    obtain ⟨e1, e2⟩ := p2 hneg
    have HZ2 := Lib.hid hz2
    have HB2 := Lib.hid hb2
    have a20 := hr2.cell 0
    have a21 := hr2.cell 1
    have HE : Hid (ipc (iparts n) = [.int .i64 t, .int .i64 m]) := Lib.hid (by unfold ipc iparts; rw [e1, e2])
    obtain ⟨res, hres⟩ : ∃ r, r = ipc (iparts n) := ⟨_, rfl⟩
    rw [← hres] at HE
    unfold ipv
    rw [← hres]
    clear p1 p2 e1 e2 h0 h1 hr2 hz2 hb2 hz1 hb1 hres z1
    subst hw2
    subst hw1
    go_enter Tryz.func39, Tryz.ntmps39
    go_wp2_with (refine wpList_storeW rfl _ _ _ rfl w.heap.size 0 66 [.int .i64 0, .int .i64 0] [.int .i64 t, .int .i64 m] [.int .i64 t, .int .i64 m] rfl rfl rfl HZ2.out infoP_size (Nat.le_refl _) (ipc_one (t, m)) w w.heap.size HB2.out (Nat.le_refl _) ?_)
    intro w5 hr5 hb5 _
    have HR5 := Lib.hid hr5
    have HB5 := Lib.hid hb5
    clear hr5 hb5 a20 a21
    go_wp2
    refine bodyPost_ret (v := .agg #[.int .i64 t, .int .i64 m]) (results_cell_row rfl _ _ w.heap.size _ _ (0, 0) _ rfl HR5.out Tryz.underlying66 rfl (by kernel_rfl)) rfl ?_
    rw [HE.out]
    exact ⟨rfl, HB5.out⟩
theorem inum_fn (x : CV) (w : World) : Calls Tryz.prog 19 #[cv x] w fun e w' => e = .returned (.int .i64 x.n) ∧ Below w.heap.size w w' := by
  obtain ⟨xb, xn, xs⟩ := x
  have hA := boxI_row ⟨xb, xn, xs⟩ w
  have a0 := hA.cell 1
  have HBE := Lib.hid (show Below w.heap.size w (w.alloc (.cells #[.bool xb, .int .i64 xn, .string xs] 36)) from (Below.refl _ _).alloc (Nat.le_refl _) _)
  clear hA
  unfold cv
  go_enter Tryz.func19, Tryz.ntmps19
  go_wp2
  go_ret
  exact ⟨rfl, HBE.out⟩
theorem ione_fn (n : Int) (w : World) : Calls Tryz.prog 36 #[.int .i64 n] w fun e w' => e = .returned (.bool (n == 1)) ∧ Below w.heap.size w w' := by
  go_enter Tryz.func36, Tryz.ntmps36
  go_wp2
  go_ret
  exact ⟨rfl, Below.refl _ _⟩
theorem ioneif_fn (b : Bool) (w : World) : Calls Tryz.prog 48 #[.bool b] w fun e w' => e = .returned (.int .i64 (if b then 1 else 0)) ∧ Below w.heap.size w w' := by
  cases b with
  | true =>
    go_enter Tryz.func48, Tryz.ntmps48
    go_wp2
    go_ret
    exact ⟨rfl, Below.refl _ _⟩
  | false =>
    go_enter Tryz.func48, Tryz.ntmps48
    go_wp2
    go_ret
    exact ⟨rfl, Below.refl _ _⟩
theorem ival_fn (n : Int) (w : World) : Calls Tryz.prog 27 #[.int .i64 n] w fun e w' => e = .returned (cv (nv n)) ∧ Below w.heap.size w w' := by
  have hA := boxI_row ⟨false, n, ⟨#[]⟩⟩ w
  have a0 := hA.cell 0
  have a1 := hA.cell 1
  have a2 := hA.cell 2
  have HB := Lib.hid (show Below w.heap.size w (w.alloc (.cells #[.bool false, .int .i64 n, .string ⟨#[]⟩] 36)) from (Below.refl _ _).alloc (Nat.le_refl _) _)
  have HA := Lib.hid hA
  clear hA
  go_enter Tryz.func27, Tryz.ntmps27
  go_wp2
  refine bodyPost_ret (v := cv (nv n)) (results_cell_row rfl _ _ w.heap.size _ _ (0, 0) _ rfl HA.out Tryz.underlying36 rfl (by kernel_rfl)) rfl ?_
  exact ⟨rfl, HB.out⟩
theorem ifirst_fn (p : Int × Int) (w : World) : Calls Tryz.prog 61 #[ipv p] w fun e w' => e = .returned (.int .i64 p.1) ∧ Below w.heap.size w w' := by
  obtain ⟨x, y⟩ := p
  have hA : Row (w.alloc (.cells #[.int .i64 x, .int .i64 y] 66)) w.heap.size 66 [.int .i64 x, .int .i64 y] := heap_alloc_new w _
  have a0 := hA.cell 0
  have HBE := Lib.hid (show Below w.heap.size w (w.alloc (.cells #[.int .i64 x, .int .i64 y] 66)) from (Below.refl _ _).alloc (Nat.le_refl _) _)
  clear hA
  unfold ipv ipc
  dsimp only
  go_enter Tryz.func61, Tryz.ntmps61
  go_wp2
  go_ret
  exact ⟨rfl, HBE.out⟩
theorem isecond_fn (p : Int × Int) (w : World) : Calls Tryz.prog 62 #[ipv p] w fun e w' => e = .returned (.int .i64 p.2) ∧ Below w.heap.size w w' := by
  obtain ⟨x, y⟩ := p
  have hA : Row (w.alloc (.cells #[.int .i64 x, .int .i64 y] 66)) w.heap.size 66 [.int .i64 x, .int .i64 y] := heap_alloc_new w _
  have a0 := hA.cell 1
  have HBE := Lib.hid (show Below w.heap.size w (w.alloc (.cells #[.int .i64 x, .int .i64 y] 66)) from (Below.refl _ _).alloc (Nat.le_refl _) _)
  clear hA
  unfold ipv ipc
  dsimp only
  go_enter Tryz.func62, Tryz.ntmps62
  go_wp2
  go_ret
  exact ⟨rfl, HBE.out⟩
/-- What each has filled of a row of values of one cell each. -/
def IEachRel {β : Type} (T : List β) (t : TypeId) (f : β → Value) (m g : Nat) (w : World) (i : Value) (wr : World) : Prop :=
  ∃ (k : Nat) (o : List β), k ≤ m ∧ i = .int .i64 (k : Int) ∧ o.length = m ∧ o.take k = T.take k ∧ Row wr g t (o.map f) ∧ Below g w wr
/-- The same of structs. -/
def IEachWRel {β : Type} (T : List β) (t : TypeId) (f : β → List Value) (s m g : Nat) (w : World) (i : Value) (wr : World) : Prop :=
  ∃ (k : Nat) (rest : List Value), k ≤ m ∧ i = .int .i64 (k : Int) ∧ rest.length = (m - k) * s ∧ Row wr g t ((T.take k).flatMap f ++ rest) ∧ Below g w wr
theorem eachW_cells {β : Type} {f : β → List Value} {s : Nat} (hf : ∀ x, (f x).length = s) {T : List β} {rest : List Value} (k : Nat) (h : k < T.length) :
    ((T.take k).flatMap f ++ rest).take (k * s) ++ f T[k] ++ ((T.take k).flatMap f ++ rest).drop (k * s + (f T[k]).length) = (T.take (k + 1)).flatMap f ++ rest.drop s := by
  have hl1 : ((T.take k).flatMap f).length = k * s := by rw [flat_len hf, List.length_take, Nat.min_eq_left (by omega)]
  rw [List.take_append_of_le_length (by omega), List.take_of_length_le (by omega), List.drop_append, hl1, List.drop_of_length_le (by rw [hl1]; exact Nat.le_add_right _ _), List.take_succ_eq_append_getElem h, flat_snoc, hf, show k * s + s - k * s = s by omega, List.nil_append]
theorem elemPI : ElemW Tryz.prog 63 66 16 2 (ipv (0, 0)) := by
  refine ⟨Tryz.underlying63, rfl, by omega, ?_⟩
  have h : (Tryz.prog.info? 66).map (fun i => (i.zero, i.size, i.bytes)) = some (some (ipv (0, 0)), 2, 16) := by kernel_rfl
  cases hi : Tryz.prog.info? 66 with
  | none => rw [hi] at h; cases h
  | some i =>
    rw [hi] at h
    injection h with h
    injection h with h1 h
    injection h with h2 h3
    exact ⟨i, rfl, h1, h2, h3⟩
set_option maxHeartbeats 2000000 in
set_option maxRecDepth 100000 in
theorem ieach_nums (l : List (CV)) (v : Value) (w : World) (hv : IsR kcells l v w) (hb : l.length ≤ 1000000) :
    Calls Tryz.prog 18 #[v, .func (.func 19) #[] #[]] w fun e w' => ∃ u, e = .returned u ∧ IsV iv (l.map (·.n)) u w' ∧ Below w.heap.size w w' := by
  obtain ⟨A, n, c, rfl⟩ := hv.shape
  have HN := Lib.hid hv.parts.1
  have HV := Lib.hid hv
  have hn6 : n ≤ 1000000 := by have := HN.out; omega
  obtain ⟨T, hT⟩ : ∃ T : List (Int), T = l.map (·.n) := ⟨_, rfl⟩
  have HT := Lib.hid hT
  have HTL := Lib.hid (show T.length = n by rw [hT, List.length_map]; exact hv.parts.1)
  clear hv hb hT
  rw [← HT.out]
  go_enter Tryz.func18, Tryz.ntmps18
  go_wp2_with (refine wpList_make elemI rfl _ _ rfl _ _ _ _ n w w.heap.size rfl rfl rfl rfl (by omega) (by omega) (Below.refl _ _) (Nat.le_refl _) ?_)
  intro w1 hr1 hb1
  have HST := Lib.hid (show IEachRel T 3 iv n w.heap.size w (.int .i64 0) w1 from ⟨0, List.replicate n 0, by omega, rfl, by simp, by simp, by simpa [iv] using hr1, hb1⟩)
  clear hr1 hb1
  go_wp2
  go_loopw [13] (IEachRel T 3 iv n w.heap.size w) (fun i _ => n - (intOf i).toNat)
  case atStart => exact HST.out
  case round =>
    obtain ⟨k, o, hk, rfl, ho, hok, hr, hbr⟩ := hrel
    have HO := Lib.hid ho
    have HOK := Lib.hid hok
    clear ho hok
    by_cases hlt : k < n
    · have hkl : k < l.length := by have := HN.out; omega
      have hlti : (k : Int) < (n : Int) := by omega
      have hkT : k < T.length := by have := HTL.out; omega
      obtain ⟨ad, rfl, had, hcell⟩ := (HV.out.below hbr).at (m := 3) (fun _ => rfl) (by omega) hkl
      obtain ⟨x, hx⟩ : ∃ x, x = l[k] := ⟨_, rfl⟩
      rw [← hx] at hcell
      have HTK : Hid (T[k] = (·.n) x) := Lib.hid (by simp only [HT.out, List.getElem_map, ← hx])
      obtain ⟨k0, k1, k2⟩ := cells3 hcell
      obtain ⟨xb, xn, xs⟩ := x
      dsimp only at k0 k1 k2
      have hbx := boxI_row ⟨xb, xn, xs⟩ wr
      have b0 := hbx.cell 0
      have b1 := hbx.cell 1
      have b2 := hbx.cell 2
      have HR := Lib.hid hr
      have HBR := Lib.hid hbr
      have HS := Lib.hid (inum_fn ⟨xb, xn, xs⟩ (wr.alloc (.cells #[.bool xb, .int .i64 xn, .string xs] 36)))
      have hko : k < o.length := by have := HO.out; omega
      clear hcell had hx hr hbr
      go_wp2_with fail
      refine HS.out.mono ?_
      rintro e w2 ⟨rfl, hb2⟩
      have hrw := (HR.out.alloc (.cells #[.bool xb, .int .i64 xn, .string xs] 36)).below hb2 (HR.out.alloc _).lt
      have hbw := (HBR.out.alloc (by have := HR.out.lt; omega) (.cells #[.bool xb, .int .i64 xn, .string xs] 36)).trans (hb2.mono (by simp; have := HR.out.lt; omega))
      have hcx : w2.cell? ⟨w.heap.size, k, none⟩ = some (iv o[k]) := by rw [hrw.cell, List.getElem?_map, List.getElem?_eq_getElem hko]; rfl
      have hfx := hrw.free k
      have hr2 := hrw.set_ k (.int .i64 xn)
      rw [show (o.map iv).set k (.int .i64 xn) = (o.set k xn).map iv from List.map_set.symm] at hr2
      have HR2 := Lib.hid hr2
      have HBW := Lib.hid hbw
      clear hr2 hb2 hbw hrw hbx b0 b1 b2 k0 k1 k2
      go_wp2
      go_roundw
      case rel =>
        refine ⟨k + 1, o.set k xn, by omega, by go_num, by rw [List.length_set]; exact HO.out, ?_, HR2.out, HBW.out.setCell (Nat.le_refl _) _⟩
        rw [set_take _ _ _ hko, HOK.out, List.take_succ_eq_append_getElem hkT, HTK.out]
      case measure => simp [intOf]; omega
    · obtain rfl : k = n := by omega
      have hlti : ¬ (k : Int) < (k : Int) := by omega
      have HTO : Hid (o = T) := Lib.hid (by
        have h1 := HOK.out
        rw [List.take_of_length_le (by rw [HO.out]; omega), List.take_of_length_le (by rw [HTL.out]; omega)] at h1
        exact h1)
      have HR := Lib.hid hr
      have HBR := Lib.hid hbr
      clear hr hbr
      go_wp2
      go_ret
      refine ⟨_, rfl, ?_, HBR.out⟩
      rw [← HTO.out]
      exact isV_row HR.out HO.out (by omega)
set_option maxHeartbeats 2000000 in
set_option maxRecDepth 100000 in
theorem ieach_ones (l : List (Int)) (v : Value) (w : World) (hv : IsV iv l v w) (hb : l.length ≤ 1000000) :
    Calls Tryz.prog 35 #[v, .func (.func 36) #[] #[]] w fun e w' => ∃ u, e = .returned u ∧ IsV Value.bool (l.map (· == 1)) u w' ∧ Below w.heap.size w w' := by
  obtain ⟨A, n, c, rfl⟩ := hv.shape
  have HN := Lib.hid hv.parts.1
  have HV := Lib.hid hv
  have hn6 : n ≤ 1000000 := by have := HN.out; omega
  obtain ⟨T, hT⟩ : ∃ T : List (Bool), T = l.map (· == 1) := ⟨_, rfl⟩
  have HT := Lib.hid hT
  have HTL := Lib.hid (show T.length = n by rw [hT, List.length_map]; exact hv.parts.1)
  clear hv hb hT
  rw [← HT.out]
  go_enter Tryz.func35, Tryz.ntmps35
  go_wp2_with (refine wpList_make elemL rfl _ _ rfl _ _ _ _ n w w.heap.size rfl rfl rfl rfl (by omega) (by omega) (Below.refl _ _) (Nat.le_refl _) ?_)
  intro w1 hr1 hb1
  have HST := Lib.hid (show IEachRel T 4 Value.bool n w.heap.size w (.int .i64 0) w1 from ⟨0, List.replicate n false, by omega, rfl, by simp, by simp, by simpa [iv] using hr1, hb1⟩)
  clear hr1 hb1
  go_wp2
  go_loopw [13] (IEachRel T 4 Value.bool n w.heap.size w) (fun i _ => n - (intOf i).toNat)
  case atStart => exact HST.out
  case round =>
    obtain ⟨k, o, hk, rfl, ho, hok, hr, hbr⟩ := hrel
    have HO := Lib.hid ho
    have HOK := Lib.hid hok
    clear ho hok
    by_cases hlt : k < n
    · have hkl : k < l.length := by have := HN.out; omega
      have hlti : (k : Int) < (n : Int) := by omega
      have hkT : k < T.length := by have := HTL.out; omega
      obtain ⟨ad, rfl, had, hcell⟩ := (HV.out.below hbr).at hkl
      obtain ⟨x, hx⟩ : ∃ x, x = l[k] := ⟨_, rfl⟩
      rw [← hx] at hcell
      have HTK : Hid (T[k] = (· == 1) x) := Lib.hid (by simp only [HT.out, List.getElem_map, ← hx])
      have hcell2 : wr.cell? (ad.add k) = some (.int .i64 x) := hcell
      have HR := Lib.hid hr
      have HBR := Lib.hid hbr
      have HS := Lib.hid (ione_fn x wr)
      have hko : k < o.length := by have := HO.out; omega
      clear hcell had hx hr hbr
      go_wp2_with fail
      refine HS.out.mono ?_
      rintro e w2 ⟨rfl, hb2⟩
      have hrw := HR.out.below hb2 HR.out.lt
      have hbw := HBR.out.trans (hb2.mono (by have := HR.out.lt; omega))
      have hcx : w2.cell? ⟨w.heap.size, k, none⟩ = some (Value.bool o[k]) := by rw [hrw.cell, List.getElem?_map, List.getElem?_eq_getElem hko]; rfl
      have hfx := hrw.free k
      have hr2 := hrw.set_ k (.bool (x == 1))
      rw [show (o.map Value.bool).set k (.bool (x == 1)) = (o.set k (x == 1)).map Value.bool from List.map_set.symm] at hr2
      have HR2 := Lib.hid hr2
      have HBW := Lib.hid hbw
      clear hr2 hb2 hbw hrw hcell2
      go_wp2
      go_roundw
      case rel =>
        refine ⟨k + 1, o.set k (x == 1), by omega, by go_num, by rw [List.length_set]; exact HO.out, ?_, HR2.out, HBW.out.setCell (Nat.le_refl _) _⟩
        rw [set_take _ _ _ hko, HOK.out, List.take_succ_eq_append_getElem hkT, HTK.out]
      case measure => simp [intOf]; omega
    · obtain rfl : k = n := by omega
      have hlti : ¬ (k : Int) < (k : Int) := by omega
      have HTO : Hid (o = T) := Lib.hid (by
        have h1 := HOK.out
        rw [List.take_of_length_le (by rw [HO.out]; omega), List.take_of_length_le (by rw [HTL.out]; omega)] at h1
        exact h1)
      have HR := Lib.hid hr
      have HBR := Lib.hid hbr
      clear hr hbr
      go_wp2
      go_ret
      refine ⟨_, rfl, ?_, HBR.out⟩
      rw [← HTO.out]
      exact isV_row HR.out HO.out (by omega)
set_option maxHeartbeats 2000000 in
set_option maxRecDepth 100000 in
theorem ieach_parts (l : List (Int)) (v : Value) (w : World) (hv : IsV iv l v w) (hb : l.length ≤ 1000000) (hx : ∀ x ∈ l, inInt x) :
    Calls Tryz.prog 38 #[v, .func (.func 39) #[] #[]] w fun e w' => ∃ u, e = .returned u ∧ IsR ipc (l.map iparts) u w' ∧ Below w.heap.size w w' := by
  obtain ⟨A, n, c, rfl⟩ := hv.shape
  have HN := Lib.hid hv.parts.1
  have HV := Lib.hid hv
  have hn6 : n ≤ 1000000 := by have := HN.out; omega
  obtain ⟨T, hT⟩ : ∃ T : List (Int × Int), T = l.map iparts := ⟨_, rfl⟩
  have HT := Lib.hid hT
  have HTL := Lib.hid (show T.length = n by rw [hT, List.length_map]; exact hv.parts.1)
  have HX0 := Lib.hid hx
  clear hv hb hT hx
  rw [← HT.out]
  go_enter Tryz.func38, Tryz.ntmps38
  go_wp2_with (refine wpList_makeW elemPI (ipc (0, 0)) rfl rfl _ _ rfl _ _ _ _ n w w.heap.size rfl rfl rfl rfl (by omega) (by omega) (Below.refl _ _) (Nat.le_refl _) ?_)
  intro w1 hr1 hb1
  have hlen : ((List.replicate n (ipc (0, 0))).flatten).length = n * 2 := by rw [← flat_replicate (f := ipc) n (0, 0), flat_len (m := 2) (fun _ => rfl), List.length_replicate]
  have HST := Lib.hid (show IEachWRel T 66 ipc 2 n w.heap.size w (.int .i64 0) w1 from ⟨0, _, Nat.zero_le _, rfl, by simpa using hlen, hr1, hb1⟩)
  clear hr1 hb1 hlen
  go_wp2
  go_loopw [13] (IEachWRel T 66 ipc 2 n w.heap.size w) (fun i _ => n - (intOf i).toNat)
  case atStart => exact HST.out
  case round =>
    obtain ⟨k, rest, hk, rfl, hrl, hr, hbr⟩ := hrel
    have HRL := Lib.hid hrl
    clear hrl
    by_cases hlt : k < n
    · have hkl : k < l.length := by have := HN.out; omega
      have hlti : (k : Int) < (n : Int) := by omega
      have hkT : k < T.length := by have := HTL.out; omega
      obtain ⟨ad, rfl, had, hcell⟩ := (HV.out.below hbr).at hkl
      obtain ⟨x, hx⟩ : ∃ x, x = l[k] := ⟨_, rfl⟩
      rw [← hx] at hcell
      have hxin := HX0.out x (by rw [hx]; exact List.getElem_mem hkl)
      have HTK : Hid (T[k] = iparts x) := Lib.hid (by simp only [HT.out, List.getElem_map, ← hx])
      have hcell2 : wr.cell? (ad.add k) = some (.int .i64 x) := hcell
      have HR := Lib.hid hr
      have HBR := Lib.hid hbr
      have HS := Lib.hid (isplit_any x wr hxin)
      clear hcell had hx hr hbr hxin
      go_wp2_with fail
      refine HS.out.mono ?_
      rintro e w2 ⟨rfl, hb2⟩
      have hrw := HR.out.below hb2 HR.out.lt
      have hbw := HBR.out.trans (hb2.mono (by have := HR.out.lt; omega))
      have HFIT : Hid (k * 2 + (ipc (iparts x)).length ≤ ((T.take k).flatMap ipc ++ rest).length) := Lib.hid (by
        rw [List.length_append, flat_len (m := 2) (fun _ => rfl), List.length_take, Nat.min_eq_left (by omega), HRL.out, show (ipc (iparts x)).length = 2 from rfl]; omega)
      have HNEW := Lib.hid (eachW_cells (f := ipc) (s := 2) (fun _ => rfl) (rest := rest) k hkT)
      rw [HTK.out] at HNEW
      have HRD := Lib.hid (show (rest.drop 2).length = (n - (k + 1)) * 2 by rw [List.length_drop, HRL.out]; omega)
      have HBW := Lib.hid hbw
      clear hb2 hbw hcell2
      go_wp2_with (refine wpList_storeW rfl 66 _ _ rfl w.heap.size (k * 2) 66 ((T.take k).flatMap ipc ++ rest) (ipc (iparts x)) _ HNEW.out rfl rfl hrw infoP_size HFIT.out (ipc_one _) w w.heap.size HBW.out (Nat.le_refl _) ?_)
      intro w3 hr3 hb3 _
      have HR3 : Hid (Row w3 w.heap.size 66 ((T.take (k + 1)).flatMap ipc ++ rest.drop 2)) := Lib.hid (by simpa using hr3)
      have HB3 := Lib.hid hb3
      clear hr3 hb3 hrw
      go_wp2
      go_roundw
      case rel => exact ⟨k + 1, rest.drop 2, hlt, by go_num, HRD.out, HR3.out, HB3.out⟩
      case measure => simp [intOf]; omega
    · obtain rfl : k = n := by omega
      have hlti : ¬ (k : Int) < (k : Int) := by omega
      obtain rfl : rest = [] := List.eq_nil_of_length_eq_zero (by rw [HRL.out]; omega)
      have HR : Hid (Row wr w.heap.size 66 (T.flatMap ipc)) := Lib.hid (by
        have h := hr
        rw [List.append_nil, List.take_of_length_le (by rw [HTL.out]; omega)] at h
        exact h)
      have HBR := Lib.hid hbr
      clear hr hbr
      go_wp2
      go_ret
      exact ⟨_, rfl, isR_row HR.out HTL.out (by omega), HBR.out⟩
set_option maxHeartbeats 2000000 in
set_option maxRecDepth 100000 in
theorem ieach_first (l : List (Int × Int)) (v : Value) (w : World) (hv : IsR ipc l v w) (hb : l.length ≤ 1000000) :
    Calls Tryz.prog 60 #[v, .func (.func 61) #[] #[]] w fun e w' => ∃ u, e = .returned u ∧ IsV iv (l.map (·.1)) u w' ∧ Below w.heap.size w w' := by
  obtain ⟨A, n, c, rfl⟩ := hv.shape
  have HN := Lib.hid hv.parts.1
  have HV := Lib.hid hv
  have hn6 : n ≤ 1000000 := by have := HN.out; omega
  obtain ⟨T, hT⟩ : ∃ T : List (Int), T = l.map (·.1) := ⟨_, rfl⟩
  have HT := Lib.hid hT
  have HTL := Lib.hid (show T.length = n by rw [hT, List.length_map]; exact hv.parts.1)
  clear hv hb hT
  rw [← HT.out]
  go_enter Tryz.func60, Tryz.ntmps60
  go_wp2_with (refine wpList_make elemI rfl _ _ rfl _ _ _ _ n w w.heap.size rfl rfl rfl rfl (by omega) (by omega) (Below.refl _ _) (Nat.le_refl _) ?_)
  intro w1 hr1 hb1
  have HST := Lib.hid (show IEachRel T 3 iv n w.heap.size w (.int .i64 0) w1 from ⟨0, List.replicate n 0, by omega, rfl, by simp, by simp, by simpa [iv] using hr1, hb1⟩)
  clear hr1 hb1
  go_wp2
  go_loopw [13] (IEachRel T 3 iv n w.heap.size w) (fun i _ => n - (intOf i).toNat)
  case atStart => exact HST.out
  case round =>
    obtain ⟨k, o, hk, rfl, ho, hok, hr, hbr⟩ := hrel
    have HO := Lib.hid ho
    have HOK := Lib.hid hok
    clear ho hok
    by_cases hlt : k < n
    · have hkl : k < l.length := by have := HN.out; omega
      have hlti : (k : Int) < (n : Int) := by omega
      have hkT : k < T.length := by have := HTL.out; omega
      obtain ⟨ad, rfl, had, hcell⟩ := (HV.out.below hbr).at (m := 2) (fun _ => rfl) (by omega) hkl
      obtain ⟨x, hx⟩ : ∃ x, x = l[k] := ⟨_, rfl⟩
      rw [← hx] at hcell
      have HTK : Hid (T[k] = (·.1) x) := Lib.hid (by simp only [HT.out, List.getElem_map, ← hx])
      obtain ⟨k0, k1⟩ := cellsP hcell
      obtain ⟨xp, xq⟩ := x
      dsimp only at k0 k1
      have hbx : Row (wr.alloc (.cells #[.int .i64 xp, .int .i64 xq] 66)) wr.heap.size 66 [.int .i64 xp, .int .i64 xq] := heap_alloc_new wr _
      have b0 := hbx.cell 0
      have b1 := hbx.cell 1
      have HR := Lib.hid hr
      have HBR := Lib.hid hbr
      have HS := Lib.hid (ifirst_fn (xp, xq) (wr.alloc (.cells #[.int .i64 xp, .int .i64 xq] 66)))
      have hko : k < o.length := by have := HO.out; omega
      clear hcell had hx hr hbr
      unfold ipv ipc at HS
      dsimp only at HS
      go_wp2_with fail
      refine HS.out.mono ?_
      rintro e w2 ⟨rfl, hb2⟩
      have hrw := (HR.out.alloc (.cells #[.int .i64 xp, .int .i64 xq] 66)).below hb2 (HR.out.alloc _).lt
      have hbw := (HBR.out.alloc (by have := HR.out.lt; omega) (.cells #[.int .i64 xp, .int .i64 xq] 66)).trans (hb2.mono (by simp; have := HR.out.lt; omega))
      have hcx : w2.cell? ⟨w.heap.size, k, none⟩ = some (iv o[k]) := by rw [hrw.cell, List.getElem?_map, List.getElem?_eq_getElem hko]; rfl
      have hfx := hrw.free k
      have hr2 := hrw.set_ k (.int .i64 xp)
      rw [show (o.map iv).set k (.int .i64 xp) = (o.set k xp).map iv from List.map_set.symm] at hr2
      have HR2 := Lib.hid hr2
      have HBW := Lib.hid hbw
      clear hr2 hb2 hbw hrw hbx b0 b1 k0 k1
      go_wp2
      go_roundw
      case rel =>
        refine ⟨k + 1, o.set k xp, by omega, by go_num, by rw [List.length_set]; exact HO.out, ?_, HR2.out, HBW.out.setCell (Nat.le_refl _) _⟩
        rw [set_take _ _ _ hko, HOK.out, List.take_succ_eq_append_getElem hkT, HTK.out]
      case measure => simp [intOf]; omega
    · obtain rfl : k = n := by omega
      have hlti : ¬ (k : Int) < (k : Int) := by omega
      have HTO : Hid (o = T) := Lib.hid (by
        have h1 := HOK.out
        rw [List.take_of_length_le (by rw [HO.out]; omega), List.take_of_length_le (by rw [HTL.out]; omega)] at h1
        exact h1)
      have HR := Lib.hid hr
      have HBR := Lib.hid hbr
      clear hr hbr
      go_wp2
      go_ret
      refine ⟨_, rfl, ?_, HBR.out⟩
      rw [← HTO.out]
      exact isV_row HR.out HO.out (by omega)
set_option maxHeartbeats 2000000 in
set_option maxRecDepth 100000 in
theorem ieach_second (l : List (Int × Int)) (v : Value) (w : World) (hv : IsR ipc l v w) (hb : l.length ≤ 1000000) :
    Calls Tryz.prog 60 #[v, .func (.func 62) #[] #[]] w fun e w' => ∃ u, e = .returned u ∧ IsV iv (l.map (·.2)) u w' ∧ Below w.heap.size w w' := by
  obtain ⟨A, n, c, rfl⟩ := hv.shape
  have HN := Lib.hid hv.parts.1
  have HV := Lib.hid hv
  have hn6 : n ≤ 1000000 := by have := HN.out; omega
  obtain ⟨T, hT⟩ : ∃ T : List (Int), T = l.map (·.2) := ⟨_, rfl⟩
  have HT := Lib.hid hT
  have HTL := Lib.hid (show T.length = n by rw [hT, List.length_map]; exact hv.parts.1)
  clear hv hb hT
  rw [← HT.out]
  go_enter Tryz.func60, Tryz.ntmps60
  go_wp2_with (refine wpList_make elemI rfl _ _ rfl _ _ _ _ n w w.heap.size rfl rfl rfl rfl (by omega) (by omega) (Below.refl _ _) (Nat.le_refl _) ?_)
  intro w1 hr1 hb1
  have HST := Lib.hid (show IEachRel T 3 iv n w.heap.size w (.int .i64 0) w1 from ⟨0, List.replicate n 0, by omega, rfl, by simp, by simp, by simpa [iv] using hr1, hb1⟩)
  clear hr1 hb1
  go_wp2
  go_loopw [13] (IEachRel T 3 iv n w.heap.size w) (fun i _ => n - (intOf i).toNat)
  case atStart => exact HST.out
  case round =>
    obtain ⟨k, o, hk, rfl, ho, hok, hr, hbr⟩ := hrel
    have HO := Lib.hid ho
    have HOK := Lib.hid hok
    clear ho hok
    by_cases hlt : k < n
    · have hkl : k < l.length := by have := HN.out; omega
      have hlti : (k : Int) < (n : Int) := by omega
      have hkT : k < T.length := by have := HTL.out; omega
      obtain ⟨ad, rfl, had, hcell⟩ := (HV.out.below hbr).at (m := 2) (fun _ => rfl) (by omega) hkl
      obtain ⟨x, hx⟩ : ∃ x, x = l[k] := ⟨_, rfl⟩
      rw [← hx] at hcell
      have HTK : Hid (T[k] = (·.2) x) := Lib.hid (by simp only [HT.out, List.getElem_map, ← hx])
      obtain ⟨k0, k1⟩ := cellsP hcell
      obtain ⟨xp, xq⟩ := x
      dsimp only at k0 k1
      have hbx : Row (wr.alloc (.cells #[.int .i64 xp, .int .i64 xq] 66)) wr.heap.size 66 [.int .i64 xp, .int .i64 xq] := heap_alloc_new wr _
      have b0 := hbx.cell 0
      have b1 := hbx.cell 1
      have HR := Lib.hid hr
      have HBR := Lib.hid hbr
      have HS := Lib.hid (isecond_fn (xp, xq) (wr.alloc (.cells #[.int .i64 xp, .int .i64 xq] 66)))
      have hko : k < o.length := by have := HO.out; omega
      clear hcell had hx hr hbr
      unfold ipv ipc at HS
      dsimp only at HS
      go_wp2_with fail
      refine HS.out.mono ?_
      rintro e w2 ⟨rfl, hb2⟩
      have hrw := (HR.out.alloc (.cells #[.int .i64 xp, .int .i64 xq] 66)).below hb2 (HR.out.alloc _).lt
      have hbw := (HBR.out.alloc (by have := HR.out.lt; omega) (.cells #[.int .i64 xp, .int .i64 xq] 66)).trans (hb2.mono (by simp; have := HR.out.lt; omega))
      have hcx : w2.cell? ⟨w.heap.size, k, none⟩ = some (iv o[k]) := by rw [hrw.cell, List.getElem?_map, List.getElem?_eq_getElem hko]; rfl
      have hfx := hrw.free k
      have hr2 := hrw.set_ k (.int .i64 xq)
      rw [show (o.map iv).set k (.int .i64 xq) = (o.set k xq).map iv from List.map_set.symm] at hr2
      have HR2 := Lib.hid hr2
      have HBW := Lib.hid hbw
      clear hr2 hb2 hbw hrw hbx b0 b1 k0 k1
      go_wp2
      go_roundw
      case rel =>
        refine ⟨k + 1, o.set k xq, by omega, by go_num, by rw [List.length_set]; exact HO.out, ?_, HR2.out, HBW.out.setCell (Nat.le_refl _) _⟩
        rw [set_take _ _ _ hko, HOK.out, List.take_succ_eq_append_getElem hkT, HTK.out]
      case measure => simp [intOf]; omega
    · obtain rfl : k = n := by omega
      have hlti : ¬ (k : Int) < (k : Int) := by omega
      have HTO : Hid (o = T) := Lib.hid (by
        have h1 := HOK.out
        rw [List.take_of_length_le (by rw [HO.out]; omega), List.take_of_length_le (by rw [HTL.out]; omega)] at h1
        exact h1)
      have HR := Lib.hid hr
      have HBR := Lib.hid hbr
      clear hr hbr
      go_wp2
      go_ret
      refine ⟨_, rfl, ?_, HBR.out⟩
      rw [← HTO.out]
      exact isV_row HR.out HO.out (by omega)
set_option maxHeartbeats 2000000 in
set_option maxRecDepth 100000 in
theorem ieach_truths (l : List (Bool)) (v : Value) (w : World) (hv : IsV Value.bool l v w) (hb : l.length ≤ 1000000) :
    Calls Tryz.prog 47 #[v, .func (.func 48) #[] #[]] w fun e w' => ∃ u, e = .returned u ∧ IsV iv (l.map (fun t => if t then 1 else 0)) u w' ∧ Below w.heap.size w w' := by
  obtain ⟨A, n, c, rfl⟩ := hv.shape
  have HN := Lib.hid hv.parts.1
  have HV := Lib.hid hv
  have hn6 : n ≤ 1000000 := by have := HN.out; omega
  obtain ⟨T, hT⟩ : ∃ T : List (Int), T = l.map (fun t => if t then 1 else 0) := ⟨_, rfl⟩
  have HT := Lib.hid hT
  have HTL := Lib.hid (show T.length = n by rw [hT, List.length_map]; exact hv.parts.1)
  clear hv hb hT
  rw [← HT.out]
  go_enter Tryz.func47, Tryz.ntmps47
  go_wp2_with (refine wpList_make elemI rfl _ _ rfl _ _ _ _ n w w.heap.size rfl rfl rfl rfl (by omega) (by omega) (Below.refl _ _) (Nat.le_refl _) ?_)
  intro w1 hr1 hb1
  have HST := Lib.hid (show IEachRel T 3 iv n w.heap.size w (.int .i64 0) w1 from ⟨0, List.replicate n 0, by omega, rfl, by simp, by simp, by simpa [iv] using hr1, hb1⟩)
  clear hr1 hb1
  go_wp2
  go_loopw [13] (IEachRel T 3 iv n w.heap.size w) (fun i _ => n - (intOf i).toNat)
  case atStart => exact HST.out
  case round =>
    obtain ⟨k, o, hk, rfl, ho, hok, hr, hbr⟩ := hrel
    have HO := Lib.hid ho
    have HOK := Lib.hid hok
    clear ho hok
    by_cases hlt : k < n
    · have hkl : k < l.length := by have := HN.out; omega
      have hlti : (k : Int) < (n : Int) := by omega
      have hkT : k < T.length := by have := HTL.out; omega
      obtain ⟨ad, rfl, had, hcell⟩ := (HV.out.below hbr).at hkl
      obtain ⟨x, hx⟩ : ∃ x, x = l[k] := ⟨_, rfl⟩
      rw [← hx] at hcell
      have HTK : Hid (T[k] = (fun t => if t then 1 else 0) x) := Lib.hid (by simp only [HT.out, List.getElem_map, ← hx])
      have hcell2 : wr.cell? (ad.add k) = some (.bool x) := hcell
      have HR := Lib.hid hr
      have HBR := Lib.hid hbr
      have HS := Lib.hid (ioneif_fn x wr)
      have hko : k < o.length := by have := HO.out; omega
      clear hcell had hx hr hbr
      go_wp2_with fail
      refine HS.out.mono ?_
      rintro e w2 ⟨rfl, hb2⟩
      have hrw := HR.out.below hb2 HR.out.lt
      have hbw := HBR.out.trans (hb2.mono (by have := HR.out.lt; omega))
      have hcx : w2.cell? ⟨w.heap.size, k, none⟩ = some (iv o[k]) := by rw [hrw.cell, List.getElem?_map, List.getElem?_eq_getElem hko]; rfl
      have hfx := hrw.free k
      have hr2 := hrw.set_ k (.int .i64 (if x then 1 else 0))
      rw [show (o.map iv).set k (.int .i64 (if x then 1 else 0)) = (o.set k (if x then 1 else 0)).map iv from List.map_set.symm] at hr2
      have HR2 := Lib.hid hr2
      have HBW := Lib.hid hbw
      clear hr2 hb2 hbw hrw hcell2
      go_wp2
      go_roundw
      case rel =>
        refine ⟨k + 1, o.set k (if x then 1 else 0), by omega, by go_num, by rw [List.length_set]; exact HO.out, ?_, HR2.out, HBW.out.setCell (Nat.le_refl _) _⟩
        rw [set_take _ _ _ hko, HOK.out, List.take_succ_eq_append_getElem hkT, HTK.out]
      case measure => simp [intOf]; omega
    · obtain rfl : k = n := by omega
      have hlti : ¬ (k : Int) < (k : Int) := by omega
      have HTO : Hid (o = T) := Lib.hid (by
        have h1 := HOK.out
        rw [List.take_of_length_le (by rw [HO.out]; omega), List.take_of_length_le (by rw [HTL.out]; omega)] at h1
        exact h1)
      have HR := Lib.hid hr
      have HBR := Lib.hid hbr
      clear hr hbr
      go_wp2
      go_ret
      refine ⟨_, rfl, ?_, HBR.out⟩
      rw [← HTO.out]
      exact isV_row HR.out HO.out (by omega)
set_option maxHeartbeats 2000000 in
set_option maxRecDepth 100000 in
theorem ieach_vals (l : List (Int)) (v : Value) (w : World) (hv : IsV iv l v w) (hb : l.length ≤ 1000000) :
    Calls Tryz.prog 26 #[v, .func (.func 27) #[] #[]] w fun e w' => ∃ u, e = .returned u ∧ IsR kcells (l.map nv) u w' ∧ Below w.heap.size w w' := by
  obtain ⟨A, n, c, rfl⟩ := hv.shape
  have HN := Lib.hid hv.parts.1
  have HV := Lib.hid hv
  have hn6 : n ≤ 1000000 := by have := HN.out; omega
  obtain ⟨T, hT⟩ : ∃ T : List (CV), T = l.map nv := ⟨_, rfl⟩
  have HT := Lib.hid hT
  have HTL := Lib.hid (show T.length = n by rw [hT, List.length_map]; exact hv.parts.1)
  clear hv hb hT
  rw [← HT.out]
  go_enter Tryz.func26, Tryz.ntmps26
  go_wp2_with (refine wpList_makeW elemW (kcells ⟨false, 0, ⟨#[]⟩⟩) rfl rfl _ _ rfl _ _ _ _ n w w.heap.size rfl rfl rfl rfl (by omega) (by omega) (Below.refl _ _) (Nat.le_refl _) ?_)
  intro w1 hr1 hb1
  have hlen : ((List.replicate n (kcells ⟨false, 0, ⟨#[]⟩⟩)).flatten).length = n * 3 := by rw [← flat_replicate (f := kcells) n ⟨false, 0, ⟨#[]⟩⟩, flat_len (m := 3) (fun _ => rfl), List.length_replicate]
  have HST := Lib.hid (show IEachWRel T 36 kcells 3 n w.heap.size w (.int .i64 0) w1 from ⟨0, _, Nat.zero_le _, rfl, by simpa using hlen, hr1, hb1⟩)
  clear hr1 hb1 hlen
  go_wp2
  go_loopw [13] (IEachWRel T 36 kcells 3 n w.heap.size w) (fun i _ => n - (intOf i).toNat)
  case atStart => exact HST.out
  case round =>
    obtain ⟨k, rest, hk, rfl, hrl, hr, hbr⟩ := hrel
    have HRL := Lib.hid hrl
    clear hrl
    by_cases hlt : k < n
    · have hkl : k < l.length := by have := HN.out; omega
      have hlti : (k : Int) < (n : Int) := by omega
      have hkT : k < T.length := by have := HTL.out; omega
      obtain ⟨ad, rfl, had, hcell⟩ := (HV.out.below hbr).at hkl
      obtain ⟨x, hx⟩ : ∃ x, x = l[k] := ⟨_, rfl⟩
      rw [← hx] at hcell
      have HTK : Hid (T[k] = nv x) := Lib.hid (by simp only [HT.out, List.getElem_map, ← hx])
      have hcell2 : wr.cell? (ad.add k) = some (.int .i64 x) := hcell
      have HR := Lib.hid hr
      have HBR := Lib.hid hbr
      have HS := Lib.hid (ival_fn x wr)
      clear hcell had hx hr hbr
      go_wp2_with fail
      refine HS.out.mono ?_
      rintro e w2 ⟨rfl, hb2⟩
      have hrw := HR.out.below hb2 HR.out.lt
      have hbw := HBR.out.trans (hb2.mono (by have := HR.out.lt; omega))
      have HFIT : Hid (k * 3 + (kcells (nv x)).length ≤ ((T.take k).flatMap kcells ++ rest).length) := Lib.hid (by
        rw [List.length_append, flat_len (m := 3) (fun _ => rfl), List.length_take, Nat.min_eq_left (by omega), HRL.out, show (kcells (nv x)).length = 3 from rfl]; omega)
      have HNEW := Lib.hid (eachW_cells (f := kcells) (s := 3) (fun _ => rfl) (rest := rest) k hkT)
      rw [HTK.out] at HNEW
      have HRD := Lib.hid (show (rest.drop 3).length = (n - (k + 1)) * 3 by rw [List.length_drop, HRL.out]; omega)
      have HBW := Lib.hid hbw
      clear hb2 hbw hcell2
      go_wp2_with (refine wpList_storeW rfl 36 _ _ rfl w.heap.size (k * 3) 36 ((T.take k).flatMap kcells ++ rest) (kcells (nv x)) _ HNEW.out rfl rfl hrw infoVI_size HFIT.out (kcells_one _) w w.heap.size HBW.out (Nat.le_refl _) ?_)
      intro w3 hr3 hb3 _
      have HR3 : Hid (Row w3 w.heap.size 36 ((T.take (k + 1)).flatMap kcells ++ rest.drop 3)) := Lib.hid (by simpa using hr3)
      have HB3 := Lib.hid hb3
      clear hr3 hb3 hrw
      go_wp2
      go_roundw
      case rel => exact ⟨k + 1, rest.drop 3, hlt, by go_num, HRD.out, HR3.out, HB3.out⟩
      case measure => simp [intOf]; omega
    · obtain rfl : k = n := by omega
      have hlti : ¬ (k : Int) < (k : Int) := by omega
      obtain rfl : rest = [] := List.eq_nil_of_length_eq_zero (by rw [HRL.out]; omega)
      have HR : Hid (Row wr w.heap.size 36 (T.flatMap kcells)) := Lib.hid (by
        have h := hr
        rw [List.append_nil, List.take_of_length_le (by rw [HTL.out]; omega)] at h
        exact h)
      have HBR := Lib.hid hbr
      clear hr hbr
      go_wp2
      go_ret
      exact ⟨_, rfl, isR_row HR.out HTL.out (by omega), HBR.out⟩
end Go.Proofs.YtlibofmpnlfelaaGreatDoor
