
/- wire's own contracts: numbers, number, truth, bulk, leading. -/

import Derived.Test.YtocodcceimeiiaaFTk

import Derived.Test.YtocodcceimeiiaaFVal0

import Derived.Test.YtocodcceimeiiaaPut

import Derived.Test.YtocodcceimeiiaaTake

import Derived.Test.YtocodcceimeiiaaWMake

import Derived.BigQuiet

import Derived.Deep.QuietTactic

namespace Go.Proofs.Ytocodcceimeiiaa

open Go.RowKit Go.ChangeShapes Go.WideShapes Go.ChangeAt

theorem put_isO {l : List UInt8} {v : Value} {w : World} (x : Int) (h : IsB l v w) (hl : l.length ≤ 1000000) (h0 : 0 ≤ x) (h1 : x < 18446744073709551616) :
    Calls Try.prog 23 #[v, .int .u64 x] w (RetOwn w (l ++ vput x.toNat)) := by
  obtain ⟨A, c, rfl, h2, h3, h4, h5⟩ := h
  exact put_own A _ c x l w h2 rfl hl h5 h0 h1
/-- Numbers one behind the other. -/
def fnums (l : List Nat) : List UInt8 := l.flatMap vput
theorem fnums_snoc {l : List Nat} {k : Nat} (h : k < l.length) : fnums (l.take (k + 1)) = fnums (l.take k) ++ vput l[k] := by
  unfold fnums
  rw [List.take_succ_eq_append_getElem h, List.flatMap_append]
  simp
theorem fnums_len : ∀ {l : List Nat}, (∀ x ∈ l, x < 18446744073709551616) → (fnums l).length ≤ l.length * 10
  | [], _ => by simp [fnums]
  | x :: l, h => by
    have h1 := fnums_len (l := l) fun y hy => h y (List.mem_cons_of_mem _ hy)
    have h2 := vput_len_10 (h x List.mem_cons_self)
    have h3 : fnums (x :: l) = vput x ++ fnums l := by unfold fnums; rw [List.flatMap_cons]
    rw [h3, List.length_append, List.length_cons, Nat.add_mul]
    omega
def FNumRel (l : List Nat) (w : World) (out i : Value) (wr : World) : Prop := ∃ k : Nat, k ≤ l.length ∧ i = .int .i64 (k : Int) ∧ wr.ownsRow w.heap.size 5 1 out (fnums (l.take k)).length ((fnums (l.take k)).map bv) ∧ Below w.heap.size w wr
set_option maxHeartbeats 4000000 in
set_option maxRecDepth 100000 in
theorem fnumbers_any (l : List Nat) (v : Value) (w : World) (h : IsV uv l v w) (hl : l.length ≤ 1000) (hx : ∀ x ∈ l, x < 18446744073709551616) :
    Calls Try.prog 14 #[v] w (RetOwn w (fnums l)) := by
  obtain ⟨A, n, c, rfl⟩ := h.shape
  have HF := Lib.hid h
  have HN := Lib.hid h.parts.1
  have HX := Lib.hid hx
  have hn2 : (n : Int) ≤ 1000 := by have := HN.out; omega
  have HST : Hid (FNumRel l w (.slice none 0 0) (.int .i64 0) w) := Lib.hid ⟨0, Nat.zero_le _, rfl, World.ownsRow_nil _ _ _ _, Below.refl _ _⟩
  clear h hx
  go_enter Try.func14, Try.ntmps14
  go_wp2
  go_loopw [3, 8] (FNumRel l w) (fun _ i _ => n - (intOf i).toNat)
  case atStart => exact HST.out
  case round =>
    obtain ⟨k, hk, rfl, how, hbw⟩ := hrel
    clear HST
    by_cases hlt : k < n
    · have hlti : (k : Int) < (n : Int) := by omega
      have hkl : k < l.length := by have := HN.out; omega
      obtain ⟨ad, rfl, had, hcell⟩ := (HF.out.below hbw).at hkl
      have hxk := HX.out _ (List.getElem_mem hkl)
      have hsn := fnums_snoc hkl
      have hbl : (fnums (l.take k)).length ≤ 10000 := by
        have h1 := fnums_len (l := l.take k) fun x hx => HX.out x (List.mem_of_mem_take hx)
        rw [List.length_take] at h1
        omega
      obtain ⟨x, hx⟩ : ∃ x, x = l[k] := ⟨_, rfl⟩
      rw [← hx] at hcell hxk hsn
      have HSN := Lib.hid hsn
      have HB := Lib.hid hbw
      have HKL := Lib.hid hkl
      have HO := Lib.hid how
      have hc2 : wr.cell? (ad.add k) = some (.int .u64 (x : Int)) := hcell
      have hz := hbw.size
      have HZ := Lib.hid hz
      clear hcell hsn hbw hx hk how hz hkl had
      go_wp2_with fail
      refine (put_isO (x : Int) (isB_own HO.out) (by omega) (by omega) (by omega)).mono ?_
      rintro e w2 ⟨v2, rfl, ho2, hb2⟩
      have HREL := Lib.hid (show FNumRel l w v2 (.int .i64 ((k + 1 : Nat) : Int)) w2 from ⟨k + 1, HKL.out, rfl, by
        rw [HSN.out]
        rw [Int.toNat_natCast] at ho2
        exact ownW_base HZ.out ho2, below_then HB.out hb2⟩)
      clear ho2 hb2
      go_wp2
      go_roundw
      case rel => exact HREL.out
      case measure => simp [intOf]; omega
    · have hlti : ¬ (k : Int) < (n : Int) := by omega
      obtain rfl : k = l.length := by have := HN.out; omega
      rw [List.take_length] at how
      have HO := Lib.hid how
      clear how
      go_wp2
      go_ret
      exact ⟨_, rfl, HO.out, hbw⟩
/-- A field's value. -/
def fval (f : FN) : Value := .agg (fcells f).toArray
/-- One result: a struct that lies in a block. -/
theorem results_rowF {P : Program} {fn : Func} {p : Tmp} {ty : TypeId} (h : fn.results = #[.cell p ty]) (tmps : Array Value) (w : World) (g : Nat) (t : TypeId) (cs : Array Value) (fr : Nat × Nat) (d : TypeDesc)
    (hp : tmps.getD p undef = .pointer (some ⟨g, 0, none⟩)) (hg : w.heap[g]? = some (.cells cs t fr))
    (hu : P.underlying ty = some d) (hd : (match d with | .struct _ | .array _ _ => true | _ => false) = true) (hi : (P.info? ty).map (·.size) = some cs.size) :
    (results fn tmps).run P w = .ok (.agg cs) w := by
  have hp' : tmps[p]?.getD undef = Value.pointer (some ⟨g, 0, none⟩) := by simpa using hp
  simp only [results, h]
  simp [hp', asAddr, run_loadVar_row w g t ty cs fr d hg hu hd hi]
/-- A struct in a block, and two more results. -/
theorem results_rowF3 {P : Program} {fn : Func} {p u v : Tmp} {ty : TypeId} (h : fn.results = #[.cell p ty, .tmp u, .tmp v]) (tmps : Array Value) (w : World) (g : Nat) (t : TypeId) (cs : Array Value) (fr : Nat × Nat) (d : TypeDesc)
    (hp : tmps.getD p undef = .pointer (some ⟨g, 0, none⟩)) (hg : w.heap[g]? = some (.cells cs t fr))
    (hu : P.underlying ty = some d) (hd : (match d with | .struct _ | .array _ _ => true | _ => false) = true) (hi : (P.info? ty).map (·.size) = some cs.size) :
    (results fn tmps).run P w = .ok (.tuple #[.agg cs, tmps.getD u undef, tmps.getD v undef]) w := by
  have hp' : tmps[p]?.getD undef = Value.pointer (some ⟨g, 0, none⟩) := by simpa using hp
  simp only [results, h]
  simp [Result.andThen, hp', asAddr, run_loadVar_row w g t ty cs fr d hg hu hd hi]
theorem field_size : (Try.prog.info? 41).map (·.size) = some 4 := by kernel_rfl
set_option maxRecDepth 100000 in
theorem fnumber_any (x : Int) (w : World) : Calls Try.prog 20 #[.int .u64 x] w fun e w' => e = .returned (.agg #[.int .i64 0, .bool false, .int .u64 x, .slice none 0 0]) ∧ Below w.heap.size w w' := by
  have hr : Row (w.alloc (.cells #[.int .i64 0, .bool false, .int .u64 x, .slice none 0 0] 41)) w.heap.size 41 [.int .i64 0, .bool false, .int .u64 x, .slice none 0 0] := heap_alloc_new w _
  have HR := Lib.hid hr
  clear hr
  go_enter Try.func20, Try.ntmps20
  go_wp2
  refine bodyPost_ret (results_rowF rfl _ _ w.heap.size _ _ (0, 0) _ rfl HR.out Try.underlying41 rfl field_size) rfl ?_
  exact ⟨rfl, (Below.refl _ _).alloc (Nat.le_refl _) _⟩
set_option maxRecDepth 100000 in
theorem fbulk_any (A : Option Addr) (n c : Nat) (w : World) : Calls Try.prog 22 #[.slice A n c] w fun e w' => e = .returned (.agg #[.int .i64 0, .bool true, .int .u64 0, .slice A n c]) ∧ Below w.heap.size w w' := by
  have hr : Row (w.alloc (.cells #[.int .i64 0, .bool true, .int .u64 0, .slice A n c] 41)) w.heap.size 41 [.int .i64 0, .bool true, .int .u64 0, .slice A n c] := heap_alloc_new w _
  have HR := Lib.hid hr
  clear hr
  go_enter Try.func22, Try.ntmps22
  go_wp2
  refine bodyPost_ret (results_rowF rfl _ _ w.heap.size _ _ (0, 0) _ rfl HR.out Try.underlying41 rfl field_size) rfl ?_
  exact ⟨rfl, (Below.refl _ _).alloc (Nat.le_refl _) _⟩
set_option maxRecDepth 100000 in
theorem ftruth_any (b : Bool) (w : World) : Calls Try.prog 19 #[.bool b] w fun e w' => e = .returned (.agg #[.int .i64 0, .bool false, .int .u64 (fbit b : Int), .slice none 0 0]) ∧ Below w.heap.size w w' := by
  obtain ⟨w1, hw1⟩ : ∃ x, x = w.alloc (.cells #[.int .i64 0, .bool false, .int .u64 0, .slice none 0 0] 41) := ⟨_, rfl⟩
  have hr : Row w1 w.heap.size 41 [.int .i64 0, .bool false, .int .u64 0, .slice none 0 0] := by rw [hw1]; exact heap_alloc_new w _
  have hb : Below w.heap.size w w1 := by rw [hw1]; exact (Below.refl _ _).alloc (Nat.le_refl _) _
  have HR := Lib.hid hr
  have HB := Lib.hid hb
  clear hr hb
  cases b with
  | true =>
    go_enter Try.func19, Try.ntmps19
    go_wp2_with fail
    rw [← hw1]
    clear hw1
    refine (fnumber_any 1 w1).mono ?_
    rintro e w2 ⟨rfl, hb2⟩
    have HB2 := Lib.hid (below_then HB.out hb2)
    have HR2 := Lib.hid (HR.out.below hb2 HR.out.lt)
    clear hb2
    go_wp2_with (refine wpList_storeW rfl _ _ _ rfl w.heap.size 0 41 [.int .i64 0, .bool false, .int .u64 0, .slice none 0 0] [.int .i64 0, .bool false, .int .u64 1, .slice none 0 0] [.int .i64 0, .bool false, .int .u64 1, .slice none 0 0] rfl rfl rfl HR2.out field_size (Nat.le_refl _) (by decide) w w.heap.size HB2.out (Nat.le_refl _) ?_)
    intro w3 hr3 hb3 _
    have HR3 := Lib.hid hr3
    have HB3 := Lib.hid hb3
    clear hr3 hb3
    go_wp2
    refine bodyPost_ret (results_rowF rfl _ _ w.heap.size _ _ (0, 0) _ rfl HR3.out Try.underlying41 rfl field_size) rfl ?_
    exact ⟨rfl, HB3.out⟩
  | false =>
    go_enter Try.func19, Try.ntmps19
    go_wp2_with fail
    rw [← hw1]
    clear hw1
    refine (fnumber_any 0 w1).mono ?_
    rintro e w2 ⟨rfl, hb2⟩
    have HB2 := Lib.hid (below_then HB.out hb2)
    have HR2 := Lib.hid (HR.out.below hb2 HR.out.lt)
    clear hb2
    go_wp2_with (refine wpList_storeW rfl _ _ _ rfl w.heap.size 0 41 [.int .i64 0, .bool false, .int .u64 0, .slice none 0 0] [.int .i64 0, .bool false, .int .u64 0, .slice none 0 0] [.int .i64 0, .bool false, .int .u64 0, .slice none 0 0] rfl rfl rfl HR2.out field_size (Nat.le_refl _) (by decide) w w.heap.size HB2.out (Nat.le_refl _) ?_)
    intro w3 hr3 hb3 _
    have HR3 := Lib.hid hr3
    have HB3 := Lib.hid hb3
    clear hr3 hb3
    go_wp2
    refine bodyPost_ret (results_rowF rfl _ _ w.heap.size _ _ (0, 0) _ rfl HR3.out Try.underlying41 rfl field_size) rfl ?_
    exact ⟨rfl, HB3.out⟩
/-- x[k:], as one equation, in whatever world. -/
theorem from_all {P : Program} {t e : TypeId} {bytes : Nat} {z : Value} (kd : IntKind) (E : Elem P t e bytes z) {A : Option Addr} {n c k : Nat} {l : List UInt8} (hk : k ≤ n) (hnc : n ≤ c) :
    ∃ v, (∀ W, (Instr.sliceAt t (.slice A n c) (some (.int kd (k : Int))) none none).run P W = .ok v W) ∧ ∀ W, IsB l (.slice A n c) W → IsB (l.drop k) v W := by
  have ht := E.under
  have he : P.elem t = e := by simp [Program.elem, ht]
  refine ⟨.slice (if c = k then A else A.map (·.add k)) (n - k) (c - k), fun W => ?_, fun W hW => ?_⟩
  · rw [run_sliceAt_slice W t _ _ _ _ (by rw [he]; exact ht), run_slice_l W t A n c (by rw [he]; exact ht) kd (k : Int) (by omega) (by omega), he, E.size_]
    simp [sliced]
  · obtain ⟨hxs, hA, _, hcm, hl⟩ := IsV.parts (f := bv) hW
    refine ⟨if c = k then A else A.map (·.add k), c - k, ?_, ?_, ?_, by omega, ?_⟩
    · rw [List.length_drop, hxs]
    · intro hB
      have : A = none := by
        split at hB
        · exact hB
        · cases A with
          | none => rfl
          | some ad => simp at hB
      have := hA this
      rw [List.length_drop, hxs]
      omega
    · rw [List.length_drop, hxs]; omega
    · rw [List.map_drop]; exact hl.drop (by rw [List.length_map]; omega)
/-- x[:k], by a number of whatever kind. -/
theorem gives_uptoK {P : Program} {o : Oper} {ρ : Operand → Value} {w : World} {R : Value → World → Prop} {t e : TypeId} {bytes : Nat} {z : Value} (kd : IntKind) (E : Elem P t e bytes z) {x y : Operand} {A : Option Addr} {n c h : Nat} (ho : o.op = .slice t x none (some y) none) (hx : ρ x = .slice A n c) (hy : ρ y = .int kd (h : Int)) (hc : h ≤ c)
    (hR : R (.slice A h c) w) : Gives P o ρ w R := by
  refine gives_slice ho hx (lo' := none) rfl (hi' := some (.int kd (h : Int))) (by simp [hy]) (mx' := none) rfl (v := .slice A h c) (w' := w) ?_ hR
  have ht := E.under
  have he : P.elem t = e := by simp [Program.elem, ht]
  rw [run_sliceAt_slice w t _ _ _ _ (by rw [he]; exact ht), run_slice_h w t A n c (by rw [he]; exact ht) kd (h : Int) (by omega) (by omega), he, E.size_]
  simp [sliced]
  intro _
  cases A <;> simp [Addr.add]
/-- What leading answers: the number ahead, and the piece behind it. -/
def RetLd (l : List UInt8) (v : Value) (w : World) (o : Option (Nat × List UInt8)) (e : Ending) (w' : World) : Prop :=
  match o with
  | none => e = .returned (.tuple #[.int .u64 0, .slice none 0 0, .bool false]) ∧ Below w.heap.size w w'
  | some p => ∃ u, e = .returned (.tuple #[.int .u64 (p.1 : Int), u, .bool true]) ∧ (∀ W, IsB l v W → IsB p.2 u W) ∧ Below w.heap.size w w'
set_option maxHeartbeats 4000000 in
set_option maxRecDepth 100000 in
theorem fleading_any (l : List UInt8) (v : Value) (w : World) (h : IsB l v w) : Calls Try.prog 24 #[v] w (RetLd l v w (vtake l)) := by
  obtain ⟨A, n, c, rfl⟩ := IsV.shape (f := bv) h
  obtain ⟨hn, _, hnc, hcm, _⟩ := IsV.parts (f := bv) h
  obtain ⟨m, hm⟩ : ∃ m, m = min n 10 := ⟨_, rfl⟩
  have hmn : m ≤ n := by omega
  have hmc : m ≤ c := by omega
  have hm10 : m ≤ 10 := by omega
  have hci : (c : Int) ≤ 9223372036854775807 := by unfold maxLen at hcm; omega
  have hmin : ∀ (ts : Array TypeId) (t : TypeId) (W : World), (Builtin.min_ ts t #[.int .i64 (n : Int), .int .i64 10]).run Try.prog W = .ok (.int .i64 (m : Int)) W := fun ts t W => by
    rw [run_min_int2]
    congr 2
    split <;> omega
  have hs : IsB (l.take m) (.slice A m c) w := IsV.take (f := bv) h hmn
  have hm2 : l.take m = l.take 10 := by
    by_cases h10 : n ≤ 10
    · rw [List.take_of_length_le (by omega), List.take_of_length_le (by omega)]
    · rw [show m = 10 by omega]
  have hml : (l.take 10).length = m := by rw [List.length_take]; omega
  rw [hm2] at hs
  have htk := take_isB hs (by omega)
  have hten := vtake_ten l
  cases h1 : vtake (l.take 10) with
  | none =>
    rw [h1] at htk hten
    have HTK := Lib.hid htk
    have HTE := Lib.hid hten
    clear htk hten h1 hs hm2 hml hm h hn
    go_enter Try.func24, Try.ntmps24
    go_wp2_with fail
    refine HTK.out.mono ?_
    rintro e w1 ⟨rfl, hb1⟩
    have HB1 := Lib.hid hb1
    clear hb1
    go_wp2
    go_ret3
    rw [HTE.out]
    exact ⟨rfl, HB1.out⟩
  | some p =>
    obtain ⟨x, r⟩ := p
    rw [h1] at htk hten
    obtain ⟨e1, e2⟩ := vtake_some h1
    have hrm : r.length ≤ m := by rw [← hml, e1, List.length_append]; omega
    obtain ⟨k, hk⟩ : ∃ k, k = m - r.length := ⟨_, rfl⟩
    obtain ⟨u, hu1, hu2⟩ := from_all (P := Try.prog) (l := l) .i64 elemB (A := A) (n := n) (c := c) (k := k) (by omega) hnc
    have hd : l.drop k = r ++ l.drop 10 := by
      have h3 : l = vput x ++ (r ++ l.drop 10) := by rw [← List.append_assoc, ← e1, List.take_append_drop]
      have h4 : k = (vput x).length := by rw [hk, ← hml, e1, List.length_append]; omega
      conv => lhs; rw [h3, h4]
      exact List.drop_left
    rw [hd] at hu2
    have HTK := Lib.hid htk
    have HTE := Lib.hid hten
    have HU1 := Lib.hid (hu1 w)
    have HU2 := Lib.hid hu2
    have hki : (m : Int) - (r.length : Int) = (k : Int) := by omega
    have HKI := Lib.hid hki
    have hkn : k ≤ n := by omega
    obtain ⟨rn, hrn⟩ : ∃ rn, rn = r.length := ⟨_, rfl⟩
    have HUA := Lib.hid hu1
    clear htk hten hs hm2 hml hm h hn hu1 hu2 hd e1 h1 hki
    go_enter Try.func24, Try.ntmps24
    go_wp2_with fail
    refine HTK.out.mono ?_
    rintro e w1 ⟨A4, c4, rfl, g1, g2, g3, g4, hb1⟩
    dsimp only
    have HB1 := Lib.hid hb1
    have hki2 : (m : Int) - (rn : Int) = (k : Int) := by rw [hrn]; exact HKI.out
    rw [← hrn] at g1 g2 ⊢
    have hsl := HUA.out
    clear hb1 g4 hk hrn hrm g1
    go_wp2
    go_quiet (fail)
    go_wp2
    go_ret3
    rw [HTE.out]
    exact ⟨u, rfl, HU2.out, below_drewN HB1.out _⟩
end Go.Proofs.Ytocodcceimeiiaa
