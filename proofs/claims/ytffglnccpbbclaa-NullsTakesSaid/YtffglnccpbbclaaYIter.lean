
/- What byterle's two iterators give: the parts that bytes are laid down as; the parts that stand in bytes. -/

import Derived.Test.YtffglnccpbbclaaYLeaf

import Derived.Test.YtffglnccpbbclaaSeq

namespace Go.Proofs.Ytffglnccpbbclaa

open Go.RowKit Go.Shelf

attribute [local go_sem] Oper.semAt_some

theorem plen_pos {l : List UInt8} (h : l ≠ []) : 1 ≤ plen l := by
  unfold plen
  split
  · omega
  · exact ylist_pos h (by omega)
theorem ptimes_pos (l : List UInt8) : 1 ≤ ptimes l := by unfold ptimes; split <;> omega
theorem plen_128 (l : List UInt8) : plen l ≤ 128 := by
  unfold plen
  split
  · omega
  · exact ylist_128 l 0 (by omega)
theorem ptimes_130 (l : List UInt8) : ptimes l ≤ 130 := by
  have := ysame_130 l
  unfold ptimes
  split <;> omega
theorem plen_ptimes (l : List UInt8) : plen l * ptimes l ≤ 130 ∧ plen l * ptimes l ≤ l.length ∧ plen l ≤ l.length := by
  have h1 := ysame_130 l
  have h2 := ysame_le l
  have h3 := ylist_128 l 0 (by omega)
  have h4 := ylist_le l 0
  unfold plen ptimes
  split <;> omega
/-- By how much the place goes on behind the part at a. -/
def padv (l : List UInt8) (a : Nat) : Nat := plen (l.drop a) * ptimes (l.drop a)
theorem padv_pos {l : List UInt8} {a : Nat} (h : a < l.length) : 1 ≤ padv l a :=
  Nat.mul_pos (plen_pos (by intro e; have := congrArg List.length e; rw [List.length_drop, List.length_nil] at this; omega)) (ptimes_pos _)
theorem padv_le {l : List UInt8} {a : Nat} (h : a < l.length) : a + padv l a ≤ l.length := by
  have := (plen_ptimes (l.drop a)).2.1
  rw [List.length_drop] at this
  unfold padv
  omega
/-- A part as the program has it. -/
def partV (A : Option Addr) (c : Nat) (l : List UInt8) (a : Nat) : Value := .agg #[.slice (A.map (·.add a)) (plen (l.drop a)) (c - a), .int .i64 (ptimes (l.drop a) : Int)]

def SplitRel (l : List UInt8) (A : Option Addr) (n c Bs : Nat) (w00 : World) (J : List {a : Nat // a < n} → World → Prop) (v : Value) (wr : World) : Prop :=
  ∃ (pre : List {a : Nat // a < n}) (a : Nat), v = .int .i64 (a : Int) ∧ a ≤ n ∧ Chain (·.1) (fun x => padv l x.1) pre a ∧ J pre wr ∧ Row wr Bs 34 [.slice A n c] ∧ Below w00.heap.size w00 wr
set_option maxHeartbeats 4000000 in
set_option maxRecDepth 100000 in
theorem split_stops (l : List UInt8) (A : Option Addr) (n c Bs : Nat) (w00 w : World) (hn : l.length = n) (hb : n ≤ 1000000) (hnc : n ≤ c) (hcm : c ≤ maxLen) (hl : Lies w00 A (l.map bv))
    (hbw : Below w00.heap.size w00 w) (hBs : Row w Bs 34 [.slice A n c]) (m : Nat) (hm : 1 ≤ m) :
    SeqStopsK Fence.wide m Try.prog 50 #[.pointer (some ⟨Bs, 0, none⟩)] (fun x : {a : Nat // a < n} => #[partV A c l x.1]) (Kps Bs 70 w00.heap.size)
      (fun xs => Chain (·.1) (fun x => padv l x.1) xs n) (fun _ => True) n w := fun q J Jx W hW hJ hJx hY h0 => by
  have hci : (c : Int) ≤ 9223372036854775807 := by unfold maxLen at hcm; omega
  have hst : SplitRel l A n c Bs w00 J (.int .i64 0) W := ⟨[], 0, rfl, by omega, .nil, h0, hBs.below hW hBs.lt, hbw.trans (hW.mono hbw.size)⟩
  have HF := Lib.hid fun (k : Nat) (X : World) (hk : k < n) (h : Below w00.heap.size w00 X) => (show Calls Try.prog 51 #[.slice (A.map (·.add k)) (n - k) (c - k)] X (FirstPost (A.map (·.add k)) (l.drop k) (c - k) X) by
    refine first_any (A.map (·.add k)) (n - k) (c - k) (l.drop k) X (by rw [List.length_drop]; omega) (by omega) (by omega) (by omega) (by omega) ?_
    have := (hl.below h).drop (k := k) (cap := c) (by rw [List.length_map]; omega)
    rw [if_neg (by omega)] at this
    rw [List.map_drop]; exact this)
  have HY := Lib.hid hY
  have HJ := Lib.hid hJ
  have HN := Lib.hid hn
  have hzz : W.heap.size ≤ W.heap.size := Nat.le_refl _
  clear hbw hBs hW hJx hY h0 hl hn hJ
  refine callsIn_of_wp Try.func50 rfl trivial ?_ rfl
  simp only [Try.ntmps50, List.size_toArray, List.length_cons, List.length_nil, Nat.reduceAdd, Nat.reduceSub, Array.replicate_succ, Array.replicate_zero, List.push_toArray, List.append_toArray, List.nil_append, List.cons_append]
  gi_wp2
  gi_loopw [3] (SplitRel l A n c Bs w00 J) (fun v _ => n - (intOf v).toNat)
  case atStart => exact hst
  case round =>
    obtain ⟨pre, a, rfl, han, hch, hj, hbs, hbw⟩ := hrel
    have hcb := hbs.cell 0
    simp only [List.getElem?_cons_zero] at hcb
    have HCH := Lib.hid hch
    have HBS := Lib.hid hbs
    have HBW := Lib.hid hbw
    have HJP := Lib.hid hj
    clear hch hbs hbw hj hst
    by_cases hlt : a < n
    · have hlti : (a : Int) < (n : Int) := by omega
      have hac : (a : Int) ≤ (c : Int) := by omega
      have hkc : ¬ c = a := by omega
      have hcall := HF.out a wr hlt HBW.out
      have HC := Lib.hid hcall
      clear hcall
      gi_wp2_with fail
      refine ⟨trivial, (callsIn_wide.2 HC.out).mono ?_⟩
      rintro e w1 ⟨rfl, hb1⟩
      obtain ⟨k, hk⟩ : ∃ k, k = plen (l.drop a) := ⟨_, rfl⟩
      obtain ⟨t, ht⟩ : ∃ t, t = ptimes (l.drop a) := ⟨_, rfl⟩
      rw [← hk, ← ht]
      have hz1 : wr.heap.size ≤ w1.heap.size := hb1.size
      obtain ⟨g, hg⟩ : ∃ g, g = w1.heap.size := ⟨_, rfl⟩
      have hr2 : Row (w1.alloc (.cells #[.slice (A.map (·.add a)) k (c - a), .int .i64 (t : Int)] 70)) g 70 [.slice (A.map (·.add a)) k (c - a), .int .i64 (t : Int)] := by rw [hg]; exact heap_alloc_new w1 _
      have hb2 : Below wr.heap.size wr (w1.alloc (.cells #[.slice (A.map (·.add a)) k (c - a), .int .i64 (t : Int)] 70)) := hb1.alloc hz1 _
      have hj2 := HJ.out pre wr _ none HJP.out (below_grown hb2) (fun r e => by cases e)
      have hlen := HCH.out.length (fun x : {a : Nat // a < n} => padv_pos (l := l) (a := x.1) (by have := x.2; have := HN.out; omega))
      obtain ⟨fn, tmps, assign, body, hy, hR⟩ := HY.out pre ⟨a, hlt⟩ _ hj2 (by omega)
      unfold partV at hy
      dsimp only at hy
      rw [← hk, ← ht] at hy
      have hc0 := hr2.cell 0
      have hc1 := hr2.cell 1
      simp only [List.getElem?_cons_zero, List.getElem?_cons_succ] at hc0 hc1
      rw [hg] at hc0 hc1
      have HR := Lib.hid hR
      have HR2 := Lib.hid hr2
      have HB2 := Lib.hid hb2
      have HK := Lib.hid hk
      have HT := Lib.hid ht
      have HG := Lib.hid hg
      clear hk ht hr2 hb2 hj2 hlen hR hb1 hg
      gi_wp2
      refine HR.out.mono ?_
      clear hc0 hc1 hy
      rintro e W3 (⟨rfl, hJ3, hk3⟩ | ⟨rfl, hJx3⟩)
      · have hr3 := hk3.row HR2.out
        rw [HG.out] at hr3
        have hc0 := hr3.cell 0
        have hc1 := hr3.cell 1
        simp only [List.getElem?_cons_zero, List.getElem?_cons_succ] at hc0 hc1
        obtain ⟨d, hd⟩ : ∃ d, d = k * t := ⟨_, rfl⟩
        have hmul : (k : Int) * (t : Int) = (d : Int) := by rw [hd, Int.natCast_mul]
        have hpa : padv l a = d := by rw [hd, HK.out, HT.out]; rfl
        have hle := padv_le (l := l) (a := a) (by have := HN.out; omega)
        have hpos := padv_pos (l := l) (a := a) (by have := HN.out; omega)
        rw [hpa] at hle hpos
        have hdw : IntKind.i64.wrap (d : Int) = (d : Int) := by rw [IntKind.wrap_i64]; have := HN.out; omega
        have hrel : SplitRel l A n c Bs w00 J (.int .i64 ((a + d : Nat) : Int)) W3 :=
          ⟨pre ++ [⟨a, hlt⟩], a + d, rfl, by have := HN.out; omega, by have := HCH.out.snoc ⟨a, hlt⟩ rfl; rw [hpa] at this; exact this, hJ3, hk3.box (HBS.out.below HB2.out HBS.out.lt), (HBW.out.trans (HB2.out.mono HBW.out.size)).trans hk3.1⟩
        have HREL := Lib.hid hrel
        have HWR := Lib.hid (show wrap64 ((a : Int) + (d : Int)) = ((a + d : Nat) : Int) by have := HN.out; unfold wrap64; omega)
        clear hr3 hd hpa hrel hk3 hJ3
        gi_wp2
        go_roundw
        case rel => rw [HWR.out]; exact HREL.out
        case measure => rw [HWR.out]; simp [intOf]; have := HN.out; omega
      · gi_wp2
        refine bodyPost_ret (results_none rfl _ _ _) rfl ?_
        exact ⟨⟨_, rfl⟩, .inr ⟨_, trivial, hJx3⟩⟩
    · have hlti : ¬ (a : Int) < (n : Int) := by omega
      have hend : Chain (·.1) (fun x : {a : Nat // a < n} => padv l x.1) pre n := by have := HCH.out; rwa [show a = n by omega] at this
      have HEND := Lib.hid hend
      clear hend
      gi_wp2
      go_end0
      exact ⟨⟨_, rfl⟩, .inl ⟨pre, HEND.out, HJP.out⟩⟩

/-! ### whole$1 -/
/-- A part that stands whole at a: how many bytes, how often. -/
def Stands (l : List UInt8) (a : Nat) : Prop := ∃ h : a < l.length, a + 1 + slen l[a] ≤ l.length
def sAt (l : List UInt8) (a : Nat) : UInt8 := l[a]?.getD 0
theorem sAt_eq {l : List UInt8} {a : Nat} (h : a < l.length) : sAt l a = l[a] := by unfold sAt; rw [List.getElem?_eq_getElem h]; rfl
def addrAt (A : Option Addr) (k : Nat) : Option Addr := A.map (·.add k)
def wholeV (A : Option Addr) (c : Nat) (l : List UInt8) (a : Nat) : Value := .agg #[.slice (addrAt A (a + 1)) (slen (sAt l a)) (c - a - 1), .int .i64 (stimes (sAt l a) : Int)]
def WholeRel (l : List UInt8) (A : Option Addr) (n c Bs : Nat) (w00 : World) (J : List {a : Nat // Stands l a} → World → Prop) (v : Value) (wr : World) : Prop :=
  ∃ (pre : List {a : Nat // Stands l a}) (a : Nat), v = .int .i64 (a : Int) ∧ a ≤ n ∧ Chain (·.1) (fun x => 1 + slen (sAt l x.1)) pre a ∧ J pre wr ∧ Row wr Bs 34 [.slice A n c] ∧ Below w00.heap.size w00 wr
/-- No part stands whole at the end of the rounds. -/
def WholeEnd (l : List UInt8) (xs : List {a : Nat // Stands l a}) : Prop := ∃ a, Chain (·.1) (fun x => 1 + slen (sAt l x.1)) xs a ∧ a ≤ l.length ∧ ¬ Stands l a
/-- A round has said 'no more': its part stands where the others ended. -/
def WholeStop (l : List UInt8) (s : List {a : Nat // Stands l a}) : Prop := ∃ pre x, s = pre ++ [x] ∧ Chain (·.1) (fun x => 1 + slen (sAt l x.1)) pre x.1
theorem map_add_add (A : Option Addr) (a : Nat) : (A.map (·.add a)).map (·.add 1) = addrAt A (a + 1) := by
  cases A with
  | none => rfl
  | some ad => simp [addrAt, add_add]
set_option maxHeartbeats 4000000 in
set_option maxRecDepth 100000 in
theorem whole_stops (l : List UInt8) (A : Option Addr) (n c Bs : Nat) (w00 w : World) (hn : l.length = n) (hb : n ≤ 1000000) (hnc : n ≤ c) (hcm : c ≤ maxLen) (hl : Lies w00 A (l.map bv))
    (hbw : Below w00.heap.size w00 w) (hBs : Row w Bs 34 [.slice A n c]) (m : Nat) (hm : 1 ≤ m) :
    SeqStopsK Fence.wide m Try.prog 52 #[.pointer (some ⟨Bs, 0, none⟩)] (fun x : {a : Nat // Stands l a} => #[wholeV A c l x.1]) (Kps Bs 70 w00.heap.size)
      (WholeEnd l) (WholeStop l) n w := fun q J Jx W hW hJ hJx hY h0 => by
  have hci : (c : Int) ≤ 9223372036854775807 := by unfold maxLen at hcm; omega
  have hst : WholeRel l A n c Bs w00 J (.int .i64 0) W := ⟨[], 0, rfl, by omega, .nil, h0, hBs.below hW hBs.lt, hbw.trans (hW.mono hbw.size)⟩
  have HF := Lib.hid fun (k : Nat) (X : World) (hk : k < n) (h : Below w00.heap.size w00 X) => (show Calls Try.prog 53 #[.slice (A.map (·.add k)) (n - k) (c - k)] X (StandPost (A.map (·.add k)) (l.drop k) (c - k) X) by
    refine standing_any (A.map (·.add k)) (n - k) (c - k) (l.drop k) X (by rw [List.length_drop]; omega) (by omega) (by omega) (by omega) (by omega) ?_
    have := (hl.below h).drop (k := k) (cap := c) (by rw [List.length_map]; omega)
    rw [if_neg (by omega)] at this
    rw [List.map_drop]; exact this)
  have HY := Lib.hid hY
  have HJ := Lib.hid hJ
  have HN := Lib.hid hn
  clear hbw hBs hW hJx hY h0 hl hn hJ
  refine callsIn_of_wp Try.func52 rfl trivial ?_ rfl
  simp only [Try.ntmps52, List.size_toArray, List.length_cons, List.length_nil, Nat.reduceAdd, Nat.reduceSub, Array.replicate_succ, Array.replicate_zero, List.push_toArray, List.append_toArray, List.nil_append, List.cons_append]
  gi_wp2
  gi_loopw [3] (WholeRel l A n c Bs w00 J) (fun v _ => n - (intOf v).toNat)
  case atStart => exact hst
  case round =>
    obtain ⟨pre, a, rfl, han, hch, hj, hbs, hbw⟩ := hrel
    have hcb := hbs.cell 0
    simp only [List.getElem?_cons_zero] at hcb
    have HCH := Lib.hid hch
    have HBS := Lib.hid hbs
    have HBW := Lib.hid hbw
    have HJP := Lib.hid hj
    clear hch hbs hbw hj hst
    by_cases hlt : a < n
    · have hlti : (a : Int) < (n : Int) := by omega
      have hac : (a : Int) ≤ (c : Int) := by omega
      have hkc : ¬ c = a := by omega
      have hall : a < l.length := by have := HN.out; omega
      have hcall := HF.out a wr hlt HBW.out
      have HC := Lib.hid hcall
      clear hcall
      gi_wp2_with fail
      refine ⟨trivial, (callsIn_wide.2 HC.out).mono ?_⟩
      rintro e w1 ⟨⟨hdl, hor⟩, hb1⟩
      have hg0 : (l.drop a)[0] = l[a] := by simp
      rw [hg0, List.length_drop] at hor
      have hz1 : wr.heap.size ≤ w1.heap.size := hb1.size
      obtain ⟨g, hg⟩ : ∃ g, g = w1.heap.size := ⟨_, rfl⟩
      rcases hor with ⟨hk1, rfl⟩ | ⟨hk1, rfl⟩
      · rw [map_add_add]
        obtain ⟨B, hBB⟩ : ∃ B, B = addrAt A (a + 1) := ⟨_, rfl⟩
        rw [← hBB]
        obtain ⟨k, hk⟩ : ∃ k, k = slen l[a] := ⟨_, rfl⟩
        obtain ⟨t, ht⟩ : ∃ t, t = stimes l[a] := ⟨_, rfl⟩
        rw [← hk] at hk1
        rw [← hk, ← ht]
        have hS : Stands l a := ⟨hall, by rw [← hk]; omega⟩
        have hr2 : Row (w1.alloc (.cells #[.slice B k (c - a - 1), .int .i64 (t : Int)] 70)) g 70 [.slice B k (c - a - 1), .int .i64 (t : Int)] := by rw [hg]; exact heap_alloc_new w1 _
        have hb2 : Below wr.heap.size wr (w1.alloc (.cells #[.slice B k (c - a - 1), .int .i64 (t : Int)] 70)) := hb1.alloc hz1 _
        have hj2 := HJ.out pre wr _ none HJP.out (below_grown hb2) (fun r e => by cases e)
        have hlen := HCH.out.length (fun x : {a : Nat // Stands l a} => by have := slen_le (sAt l x.1); omega)
        obtain ⟨fn, tmps, assign, body, hy, hR⟩ := HY.out pre ⟨a, hS⟩ _ hj2 (by omega)
        unfold wholeV at hy
        dsimp only at hy
        rw [sAt_eq hall, ← hk, ← ht, ← hBB] at hy
        have hc0 := hr2.cell 0
        have hc1 := hr2.cell 1
        simp only [List.getElem?_cons_zero, List.getElem?_cons_succ] at hc0 hc1
        rw [hg] at hc0 hc1
        have HR := Lib.hid hR
        have HR2 := Lib.hid hr2
        have HB2 := Lib.hid hb2
        have HK := Lib.hid hk
        have HT := Lib.hid ht
        have HG := Lib.hid hg
        have hk128 : 1 ≤ k ∧ k ≤ 128 := by rw [hk]; exact slen_le _
        clear hk ht hBB hr2 hb2 hj2 hlen hR hb1 hg hg0 hdl
        gi_wp2
        refine HR.out.mono ?_
        clear hc0 hc1 hy
        rintro e W3 (⟨rfl, hJ3, hk3⟩ | ⟨rfl, hJx3⟩)
        · have hr3 := hk3.row HR2.out
          rw [HG.out] at hr3
          have hc0 := hr3.cell 0
          have hc1 := hr3.cell 1
          simp only [List.getElem?_cons_zero, List.getElem?_cons_succ] at hc0 hc1
          have hpa : 1 + slen (sAt l a) = 1 + k := by rw [sAt_eq hall, HK.out]
          have hrel : ∀ w4, Below W3.heap.size W3 w4 → WholeRel l A n c Bs w00 J (.int .i64 ((a + (1 + k) : Nat) : Int)) w4 := fun w4 hb4 =>
            ⟨pre ++ [⟨a, hS⟩], a + (1 + k), rfl, by have := HN.out; omega, by have := HCH.out.snoc ⟨a, hS⟩ rfl; rw [hpa] at this; exact this, HJ.out _ W3 w4 none hJ3 (below_grown hb4) (fun r e => by cases e),
              (hk3.box (HBS.out.below HB2.out HBS.out.lt)).below hb4 (hk3.box (HBS.out.below HB2.out HBS.out.lt)).lt,
              ((HBW.out.trans (HB2.out.mono HBW.out.size)).trans hk3.1).trans (hb4.mono ((HBW.out.trans (HB2.out.mono HBW.out.size)).trans hk3.1).size)⟩
          have HREL := Lib.hid hrel
          obtain ⟨z, hz⟩ : ∃ z, z = 1 + k := ⟨_, rfl⟩
          have hz129 : z ≤ 129 := by omega
          have hz1' : 1 ≤ z := by omega
          rw [← hz] at hrel
          have HREL := Lib.hid hrel
          have hzn : a + z ≤ n := by have := HN.out; omega
          have HZ := Lib.hid hz
          clear hr3 hpa hrel hk3 hJ3 hk1 hz
          gi_wp2_with fail
          refine ⟨trivial, (callsIn_wide.2 (ysize_any B k (c - a - 1) (.int .i64 (t : Int)) W3 (by omega))).mono ?_⟩
          rintro e w4 ⟨rfl, hb4⟩
          have HB4 := Lib.hid hb4
          rw [← HZ.out]
          clear hb4 hc0 hc1
          gi_wp2
          go_roundw
          case rel => exact HREL.out _ HB4.out
          case measure => simp [intOf]; omega
        · gi_wp2
          refine bodyPost_ret (results_none rfl _ _ _) rfl ?_
          exact ⟨⟨_, rfl⟩, .inr ⟨_, ⟨pre, ⟨a, hS⟩, rfl, HCH.out⟩, hJx3⟩⟩
      · have hend : WholeEnd l pre := ⟨a, HCH.out, by omega, fun ⟨_, h⟩ => by omega⟩
        have HEND := Lib.hid hend
        have hj2 := HJ.out pre wr (w1.alloc (.cells #[.slice none 0 0, .int .i64 0] 70)) none HJP.out (below_grown (hb1.alloc hz1 _)) (fun r e => by cases e)
        have HJ2 := Lib.hid hj2
        clear hend hj2 hg0 hdl hb1
        gi_wp2
        refine ⟨fun _ h => (by cases h), ?_⟩
        gi_wp2
        refine bodyPost_ret (results_none rfl _ _ _) rfl ?_
        exact ⟨⟨_, rfl⟩, .inl ⟨pre, HEND.out, HJ2.out⟩⟩
    · have hlti : ¬ (a : Int) < (n : Int) := by omega
      have hend : WholeEnd l pre := ⟨a, HCH.out, by have := HN.out; omega, fun ⟨h, _⟩ => by have := HN.out; omega⟩
      have HEND := Lib.hid hend
      clear hend
      gi_wp2
      go_end0
      exact ⟨⟨_, rfl⟩, .inl ⟨pre, HEND.out, HJP.out⟩⟩
end Go.Proofs.Ytffglnccpbbclaa
