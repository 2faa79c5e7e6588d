
/- The program's contracts of layer 12: Number, known, right, May. -/

import Derived.Test.YtljepanilfbjgaaDoorKMay1

import Derived.Test.YtljepanilfbjgaaDoorKLib

import Derived.Lib.ValidLaws

import Derived.Lib.OthersKept

namespace Go.Proofs.YtljepanilfbjgaaDoor

open Go.RowKit

theorem knumber_own (k : Int) (w : World) : Calls Tryd.prog 6 #[.int .i64 k] w fun e w' => e = .returned (.bool (knumber k)) ∧ w = w' := by
  have HK : Hid (knumber k = (decide (1 ≤ k) && decide (k ≤ 5))) := Lib.hid rfl
  cases c1 : decide (1 ≤ k)
  · rw [c1] at HK
    go_enter Tryd.func6, Tryd.ntmps6
    go_wp2
    go_ret
    exact ⟨by rw [HK.out]; rfl, rfl⟩
  · cases c2 : decide (k ≤ 5)
    all_goals
      rw [c1, c2] at HK
      go_enter Tryd.func6, Tryd.ntmps6
      go_wp2
      go_ret
      exact ⟨by rw [HK.out]; rfl, rfl⟩
theorem knumber_any (k : Int) (w : World) (_hk : -9223372036854775808 ≤ k ∧ k ≤ 9223372036854775807) : Calls Tryd.prog 6 #[.int .i64 k] w fun e w' => e = .returned (.bool (knumber k)) ∧ Below w.heap.size w w' :=
  (knumber_own k w).mono fun _ _ h => ⟨h.1, h.2 ▸ Below.refl _ _⟩
/-- Whether there are columns of that kind. -/
def kknown (k : Int) : Bool := (knumber k || (k == 6)) || (k == 7)
theorem kknown_iff (k : Int) : kknown k = true ↔ 1 ≤ k ∧ k ≤ 7 := by
  unfold kknown knumber
  simp only [Bool.or_eq_true, Bool.and_eq_true, decide_eq_true_eq, beq_iff_eq]
  omega
theorem kknown_any (k : Int) (w : World) : Calls Tryd.prog 15 #[.int .i64 k] w fun e w' => e = .returned (.bool (kknown k)) ∧ w = w' := by
  have HK : Hid (kknown k = ((knumber k || (k == 6)) || (k == 7))) := Lib.hid rfl
  have HN := Lib.hid (fun W => knumber_own k W)
  cases c1 : knumber k
  · rw [c1] at HK HN
    clear c1
    cases c2 : (k == 6)
    all_goals
      rw [c2] at HK
      go_enter Tryd.func15, Tryd.ntmps15
      go_wp2_with (go_at_call 6; refine (HN.out _).mono ?_)
      rintro e w' ⟨rfl, rfl⟩
      go_wp2
      go_ret
      exact ⟨by rw [HK.out]; rfl, rfl⟩
  · rw [c1] at HK HN
    clear c1
    go_enter Tryd.func15, Tryd.ntmps15
    go_wp2_with (go_at_call 6; refine (HN.out _).mono ?_)
    rintro e w' ⟨rfl, rfl⟩
    go_wp2
    go_ret
    exact ⟨by rw [HK.out]; rfl, rfl⟩
set_option maxRecDepth 100000 in
set_option maxHeartbeats 4000000 in
/-- U+FFFD is decoded out of its three bytes, or stands for what can't be read, which takes one byte. -/
theorem decodeN_fffd (n b0 b1 b2 b3 : Nat) (h0 : b0 < 256) (_h1 : b1 < 256) (_h2 : b2 < 256) (_h3 : b3 < 256) (h : (Lib.decodeN n b0 b1 b2 b3).1 = 65533) :
    ((Lib.decodeN n b0 b1 b2 b3).2 = 1 ∧ ¬ (3 ≤ n ∧ b0 = 239 ∧ b1 = 191 ∧ b2 = 189)) ∨ ((Lib.decodeN n b0 b1 b2 b3).2 = 3 ∧ 3 ≤ n ∧ b0 = 239 ∧ b1 = 191 ∧ b2 = 189) := by
  unfold Lib.decodeN at h ⊢
  repeat' split at h
  all_goals simp only [] at h
  all_goals first
    | (exfalso; omega)
    | (rw [if_neg (by omega), if_neg (by omega), if_pos (by omega), if_pos (by omega)]; right; simp only []; omega)
    | skip
  all_goals
    repeat' split
    all_goals first | (exfalso; omega) | (left; refine ⟨rfl, ?_⟩; omega) | (right; refine ⟨rfl, ?_⟩; omega)
theorem prefix3 (l : List UInt8) : Lib.hasPrefix l [239, 191, 189] = true ↔ 3 ≤ l.length ∧ (l.getD 0 0).toNat = 239 ∧ (l.getD 1 0).toNat = 191 ∧ (l.getD 2 0).toNat = 189 := by
  unfold Lib.hasPrefix
  rcases l with _ | ⟨a, _ | ⟨b, _ | ⟨c, l⟩⟩⟩
  · simp
  · simp
  · simp
  · simp only [List.isPrefixOf, List.getD_cons_zero, List.getD_cons_succ, List.length_cons, Bool.and_eq_true, beq_iff_eq, and_true]
    constructor
    · rintro ⟨rfl, rfl, rfl⟩
      exact ⟨by omega, rfl, rfl, rfl⟩
    · rintro ⟨-, h1, h2, h3⟩
      exact ⟨UInt8.toNat_inj.1 h1.symm, UInt8.toNat_inj.1 h2.symm, UInt8.toNat_inj.1 h3.symm⟩
/-- One step of reading a text, as the program takes it. -/
theorem valid_step (l : List UInt8) (hne : l ≠ []) : Lib.validD l = if (Lib.decodeL l).1 = 65533 ∧ Lib.hasPrefix l [239, 191, 189] = false then false else Lib.validD (l.drop (Lib.decodeL l).2) := by
  rw [Lib.validD_step l hne]
  by_cases h : (Lib.decodeL l).1 = 65533
  · have hd := Lib.decodeL_N l
    have h' := h
    rw [hd] at h'
    have key := decodeN_fffd _ _ _ _ _ (UInt8.toNat_lt _) (UInt8.toNat_lt _) (UInt8.toNat_lt _) (UInt8.toNat_lt _) h'
    rw [← hd] at key
    rcases key with ⟨k1, k2⟩ | ⟨k1, k2⟩
    · have : Lib.hasPrefix l [239, 191, 189] = false := by
        rw [← Bool.not_eq_true, prefix3]
        exact k2
      rw [if_pos ⟨h, k1⟩, if_pos ⟨h, this⟩]
    · have : Lib.hasPrefix l [239, 191, 189] = true := (prefix3 l).2 k2
      rw [if_neg (by rw [k1]; omega), if_neg (by rw [this]; simp)]
  · rw [if_neg (fun h2 => h h2.1), if_neg (fun h2 => h h2.1)]
/-- What a range over a text knows of its place. -/
def TextRel (s : ByteArray) (w wr : World) : Prop := ∃ pos : Nat, wr.heap[w.heap.size]? = some (.stringIter s pos) ∧ Lib.validD (s.data.toList.drop pos) = Lib.validD s.data.toList ∧ Below w.heap.size w wr
set_option maxHeartbeats 2000000 in
set_option maxRecDepth 100000 in
theorem kright_any (s : ByteArray) (w : World) (hs : s.size ≤ maxLen) : Calls Tryd.prog 16 #[.string s] w fun e w' => e = .returned (.bool (Lib.validD s.data.toList)) ∧ Below w.heap.size w w' := by
  have hsi : (s.size : Int) ≤ 9223372036854775807 := by unfold maxLen at hs; omega
  go_enter Tryd.func16, Tryd.ntmps16
  go_wp2
  go_loopw [] (TextRel s w) (fun wr => s.size - wr.iterPos w.heap.size)
  case atStart =>
    refine ⟨0, ?_, rfl, (Below.refl _ w).alloc (Nat.le_refl _) _⟩
    exact World.iter_heap w s 0
  case round =>
    obtain ⟨pos, hit, hv, hbw⟩ := hrel
    by_cases hp : pos < s.size
    · have hnx : ∀ ty, (Instr.next (.pointer (some ⟨w.heap.size, 0, none⟩)) true ty).run Tryd.prog wr = _ := fun ty => Lib.run_next_any_at wr w.heap.size s pos ty hit hp
      have hit2 := Lib.iterAt_heap wr w.heap.size s pos (pos + (Utf8.decode s pos).2) hit
      have hbw2 := Lib.below_iterAt hbw (k := w.heap.size) (Nat.le_refl _) s (pos + (Utf8.decode s pos).2)
      have hwd := Lib.width_pos s pos
      have hne : s.data.toList.drop pos ≠ [] := by
        intro h0
        have h1 := congrArg List.length h0
        rw [List.length_drop, ← Lib.size_eq] at h1
        simp at h1
        omega
      have hst := valid_step _ hne
      rw [Lib.decodeL_drop, List.drop_drop] at hst
      have hpi : (pos : Int) ≤ (s.size : Int) := by omega
      obtain ⟨r, hr⟩ : ∃ r, r = (Utf8.decode s pos).1 := ⟨_, rfl⟩
      obtain ⟨d, hd⟩ : ∃ d, d = (Utf8.decode s pos).2 := ⟨_, rfl⟩
      rw [← hr, ← hd] at hst
      rw [← hd] at hit2 hbw2 hwd
      simp only [← hr, ← hd] at hnx
      have HIT := Lib.hid hit
      have HIT2 := Lib.hid hit2
      have HB2 := Lib.hid hbw2
      have HV := Lib.hid hv
      have HD := Lib.hid hwd
      clear hr hd hne hit hit2 hbw hbw2 hv hwd
      by_cases h1 : r = 65533
      · subst h1
        have HP := Lib.hid (fun W => lprefix_any (s.extract pos s.size) ⟨#[239, 191, 189]⟩ W)
        rw [show (s.extract pos s.size).data.toList = s.data.toList.drop pos by rw [Lib.extract_data, List.take_of_length_le (by rw [List.length_drop, ← Lib.size_eq]; exact Nat.le_refl _)]] at HP
        change Hid (∀ W, Calls Tryd.prog 23 _ W fun e w' => e = .returned (.bool (Lib.hasPrefix (s.data.toList.drop pos) [239, 191, 189])) ∧ W = w') at HP
        cases hp2 : Lib.hasPrefix (s.data.toList.drop pos) [239, 191, 189]
        · rw [hp2] at HP
          rw [if_pos ⟨rfl, hp2⟩] at hst
          have HX := Lib.hid (HV.out.symm.trans hst)
          clear hst hp2
          go_wp2_with (go_at_call 23; refine (HP.out _).mono ?_; rintro e w' ⟨rfl, rfl⟩)
          go_ret
          exact ⟨by rw [HX.out]; rfl, HB2.out⟩
        · rw [hp2] at HP
          rw [if_neg (by rw [hp2]; simp)] at hst
          have HX := Lib.hid (hst.symm.trans HV.out)
          clear hst hp2
          go_wp2_with (go_at_call 23; refine (HP.out _).mono ?_; rintro e w' ⟨rfl, rfl⟩)
          go_roundw
          case rel => exact ⟨pos + d, HIT2.out, HX.out, HB2.out⟩
          case measure =>
            have := HD.out
            simp only [World.iterPos, HIT.out, HIT2.out]
            omega
      · have hrf : ((r : Int) == 65533) = false := by simp; omega
        rw [if_neg (fun h => h1 h.1)] at hst
        have HX := Lib.hid (hst.symm.trans HV.out)
        clear hst h1
        go_wp2
        go_roundw
        case rel => exact ⟨pos + d, HIT2.out, HX.out, HB2.out⟩
        case measure =>
          have := HD.out
          simp only [World.iterPos, HIT.out, HIT2.out]
          omega
    · have hnx : ∀ ty, (Instr.next (.pointer (some ⟨w.heap.size, 0, none⟩)) true ty).run Tryd.prog wr = _ := fun ty => Lib.run_next_end_at wr w.heap.size s pos ty hit hp
      have h0 : s.data.toList.drop pos = [] := List.drop_eq_nil_of_le (by rw [← Lib.size_eq]; omega)
      rw [h0] at hv
      have HV := Lib.hid hv
      have HB := Lib.hid hbw
      clear hv hbw h0
      go_wp2
      go_ret
      exact ⟨by rw [← HV.out]; rfl, HB.out⟩
/-- What the program asks of a value, of its tests. -/
def kmayP (kn b e1 nu n0 s0 n1 len k7 v : Bool) : Bool :=
  bif !kn then false else bif b then n0 && s0 else bif e1 then s0 && (n0 || n1) else bif nu then s0 else (n0 && len) && (k7 || v)
theorem kmay_own (k : Int) (b : Bool) (n : Int) (s : ByteArray) : kmay k ⟨b, n, s⟩ = kmayP (kknown k) b (k == 1) (knumber k) (n == 0) (s.toList == []) (n == 1) (decide ((s.size : Int) ≤ 300)) (k == 7) (Lib.validD s.data.toList) := by
  rw [kmay_of]
  unfold kmayB kmayP
  have h0 := kknown_iff k
  by_cases h1 : k < 1
  · rw [decide_eq_true h1, show kknown k = false by rw [← Bool.not_eq_true, h0]; omega]; rfl
  · by_cases h7 : 7 < k
    · rw [decide_eq_true h7, show kknown k = false by rw [← Bool.not_eq_true, h0]; omega, Bool.or_true]; rfl
    · rw [decide_eq_false h1, decide_eq_false h7, show kknown k = true from h0.2 (by omega)]
      by_cases h5 : k ≤ 5
      · rw [decide_eq_true h5, show knumber k = true by unfold knumber; rw [decide_eq_true h5, decide_eq_true (by omega)]; rfl]
        by_cases e : k = 1
        · subst e; cases b <;> simp
        · rw [show (k == 1) = false by simpa using e, show (k != 1) = true by simpa using e]
          cases b <;> simp
      · rw [decide_eq_false h5, show knumber k = false by unfold knumber; rw [decide_eq_false h5, Bool.and_false], show (k == 1) = false by simp; omega]
        cases b <;> simp
set_option maxHeartbeats 4000000 in
set_option maxRecDepth 100000 in
theorem kmay_any (k : Int) (v : CV) (w : World) (_hk : -9223372036854775808 ≤ k ∧ k ≤ 9223372036854775807) (_hv : v.inInt) (hs : v.s.size ≤ maxLen) : Calls Tryd.prog 8 #[.int .i64 k, cv v] w fun e w' => e = .returned (.bool (kmay k v)) ∧ Below w.heap.size w w' := by
  obtain ⟨b, n, s⟩ := v
  dsimp only at hs
  have HVS := Lib.hid (fun W => kright_any s W hs)
  have hA : Row (w.alloc (.cells #[.bool b, .int .i64 n, .string s] 23)) w.heap.size 23 [.bool b, .int .i64 n, .string s] := heap_alloc_new w _
  have hb : Below w.heap.size w (w.alloc (.cells #[.bool b, .int .i64 n, .string s] 23)) := (Below.refl _ _).alloc (Nat.le_refl _) _
  have HBE := Lib.hid hb
  have a0 := hA.cell 0
  have a1 := hA.cell 1
  have a2 := hA.cell 2
  have HK0 := kmay_own k b n s
  have HN1 := Lib.hid (fun W => kknown_any k W)
  have HN2 := Lib.hid (fun W => knumber_own k W)
  clear hA hb hs _hk _hv
  unfold cv
  cases kn : kknown k
  · rw [kn] at HK0
    have HK := Lib.hid HK0
    clear HK0
    rw [kn] at HN1
    clear kn
    go_enter Tryd.func8, Tryd.ntmps8
    go_wp2_with (first | (go_at_call 15; refine (HN1.out _).mono ?_; rintro e w' ⟨rfl, rfl⟩))
    go_ret
    exact ⟨by rw [HK.out]; rfl, HBE.out⟩
  · cases b
    · cases e1 : (k == 1)
      · cases nu : knumber k
        · cases n0 : (n == 0)
          · rw [kn, e1, nu, n0] at HK0
            have HK := Lib.hid HK0
            clear HK0
            rw [kn] at HN1
            clear kn
            rw [nu] at HN2
            clear nu
            go_enter Tryd.func8, Tryd.ntmps8
            go_wp2_with (first | (go_at_call 15; refine (HN1.out _).mono ?_; rintro e w' ⟨rfl, rfl⟩) | (go_at_call 6; refine (HN2.out _).mono ?_; rintro e w' ⟨rfl, rfl⟩))
            go_ret
            exact ⟨by rw [HK.out]; rfl, HBE.out⟩
          · cases len : decide ((s.size : Int) ≤ 300)
            · rw [kn, e1, nu, n0, len] at HK0
              have HK := Lib.hid HK0
              clear HK0
              rw [kn] at HN1
              clear kn
              rw [nu] at HN2
              clear nu
              go_enter Tryd.func8, Tryd.ntmps8
              go_wp2_with (first | (go_at_call 15; refine (HN1.out _).mono ?_; rintro e w' ⟨rfl, rfl⟩) | (go_at_call 6; refine (HN2.out _).mono ?_; rintro e w' ⟨rfl, rfl⟩))
              go_ret
              exact ⟨by rw [HK.out]; rfl, HBE.out⟩
            · cases k7 : (k == 7)
              · rw [kn, e1, nu, n0, len, k7] at HK0
                have HK := Lib.hid HK0
                clear HK0
                rw [kn] at HN1
                clear kn
                rw [nu] at HN2
                clear nu
                go_enter Tryd.func8, Tryd.ntmps8
                go_wp2_with (first | (go_at_call 15; refine (HN1.out _).mono ?_; rintro e w' ⟨rfl, rfl⟩) | (go_at_call 6; refine (HN2.out _).mono ?_; rintro e w' ⟨rfl, rfl⟩))
                refine (HVS.out _).mono ?_
                rintro e w2 ⟨rfl, hb2⟩
                have HB2 := Lib.hid (below_then HBE.out hb2)
                clear hb2
                go_wp2
                go_ret
                exact ⟨by rw [HK.out]; rfl, HB2.out⟩
              · rw [kn, e1, nu, n0, len, k7] at HK0
                have HK := Lib.hid HK0
                clear HK0
                rw [kn] at HN1
                clear kn
                rw [nu] at HN2
                clear nu
                go_enter Tryd.func8, Tryd.ntmps8
                go_wp2_with (first | (go_at_call 15; refine (HN1.out _).mono ?_; rintro e w' ⟨rfl, rfl⟩) | (go_at_call 6; refine (HN2.out _).mono ?_; rintro e w' ⟨rfl, rfl⟩))
                go_ret
                exact ⟨by rw [HK.out]; rfl, HBE.out⟩
        · cases s0 : (s.toList == [])
          · rw [kn, e1, nu, s0] at HK0
            have HK := Lib.hid HK0
            clear HK0
            rw [kn] at HN1
            clear kn
            rw [nu] at HN2
            clear nu
            go_enter Tryd.func8, Tryd.ntmps8
            go_wp2_with (first | (go_at_call 15; refine (HN1.out _).mono ?_; rintro e w' ⟨rfl, rfl⟩) | (go_at_call 6; refine (HN2.out _).mono ?_; rintro e w' ⟨rfl, rfl⟩))
            go_ret
            exact ⟨by rw [HK.out]; rfl, HBE.out⟩
          · rw [kn, e1, nu, s0] at HK0
            have HK := Lib.hid HK0
            clear HK0
            rw [kn] at HN1
            clear kn
            rw [nu] at HN2
            clear nu
            go_enter Tryd.func8, Tryd.ntmps8
            go_wp2_with (first | (go_at_call 15; refine (HN1.out _).mono ?_; rintro e w' ⟨rfl, rfl⟩) | (go_at_call 6; refine (HN2.out _).mono ?_; rintro e w' ⟨rfl, rfl⟩))
            go_ret
            exact ⟨by rw [HK.out]; rfl, HBE.out⟩
      · cases s0 : (s.toList == [])
        · rw [kn, e1, s0] at HK0
          have HK := Lib.hid HK0
          clear HK0
          rw [kn] at HN1
          clear kn
          go_enter Tryd.func8, Tryd.ntmps8
          go_wp2_with (first | (go_at_call 15; refine (HN1.out _).mono ?_; rintro e w' ⟨rfl, rfl⟩))
          go_ret
          exact ⟨by rw [HK.out]; rfl, HBE.out⟩
        · cases n0 : (n == 0)
          · cases n1 : (n == 1)
            · rw [kn, e1, s0, n0, n1] at HK0
              have HK := Lib.hid HK0
              clear HK0
              rw [kn] at HN1
              clear kn
              go_enter Tryd.func8, Tryd.ntmps8
              go_wp2_with (first | (go_at_call 15; refine (HN1.out _).mono ?_; rintro e w' ⟨rfl, rfl⟩))
              go_ret
              exact ⟨by rw [HK.out]; rfl, HBE.out⟩
            · rw [kn, e1, s0, n0, n1] at HK0
              have HK := Lib.hid HK0
              clear HK0
              rw [kn] at HN1
              clear kn
              go_enter Tryd.func8, Tryd.ntmps8
              go_wp2_with (first | (go_at_call 15; refine (HN1.out _).mono ?_; rintro e w' ⟨rfl, rfl⟩))
              go_ret
              exact ⟨by rw [HK.out]; rfl, HBE.out⟩
          · rw [kn, e1, s0, n0] at HK0
            have HK := Lib.hid HK0
            clear HK0
            rw [kn] at HN1
            clear kn
            go_enter Tryd.func8, Tryd.ntmps8
            go_wp2_with (first | (go_at_call 15; refine (HN1.out _).mono ?_; rintro e w' ⟨rfl, rfl⟩))
            go_ret
            exact ⟨by rw [HK.out]; rfl, HBE.out⟩
    · cases n0 : (n == 0)
      · rw [kn, n0] at HK0
        have HK := Lib.hid HK0
        clear HK0
        rw [kn] at HN1
        clear kn
        go_enter Tryd.func8, Tryd.ntmps8
        go_wp2_with (first | (go_at_call 15; refine (HN1.out _).mono ?_; rintro e w' ⟨rfl, rfl⟩))
        go_ret
        exact ⟨by rw [HK.out]; rfl, HBE.out⟩
      · cases s0 : (s.toList == [])
        · rw [kn, n0, s0] at HK0
          have HK := Lib.hid HK0
          clear HK0
          rw [kn] at HN1
          clear kn
          go_enter Tryd.func8, Tryd.ntmps8
          go_wp2_with (first | (go_at_call 15; refine (HN1.out _).mono ?_; rintro e w' ⟨rfl, rfl⟩))
          go_ret
          exact ⟨by rw [HK.out]; rfl, HBE.out⟩
        · rw [kn, n0, s0] at HK0
          have HK := Lib.hid HK0
          clear HK0
          rw [kn] at HN1
          clear kn
          go_enter Tryd.func8, Tryd.ntmps8
          go_wp2_with (first | (go_at_call 15; refine (HN1.out _).mono ?_; rintro e w' ⟨rfl, rfl⟩))
          go_ret
          exact ⟨by rw [HK.out]; rfl, HBE.out⟩
end Go.Proofs.YtljepanilfbjgaaDoor
