/- The statement VarintPuts: for any bytes and any numbers the law answers true. No condition. -/
import Derived.Test.YtljnklmmldeokaaTakes
namespace Go.Proofs.Ytljnklmmldeokaa
open Go.RowKit Go.ChangeShapes Go.WideShapes Go.ChangeAt

theorem put_isB {l : List UInt8} {v : Value} {w : World} (x : Int) (h : IsB l v w) (hl : l.length ≤ 1000000) (h0 : 0 ≤ x) (h1 : x < 18446744073709551616) :
    Calls Try.prog 10 #[v, .int .u64 x] w fun e w' => ∃ v, e = .returned v ∧ IsB (l ++ vput x.toNat) v w' ∧ Below w.heap.size w w' := by
  obtain ⟨A, c, rfl, h2, h3, h4, h5⟩ := h
  exact (put_any A _ c x l w h2 rfl hl h5 h0 h1).mono fun _ _ h => h.isB
theorem rput_isB {l : List UInt8} {v : Value} {w : World} (x : Int) (h : IsB l v w) (hl : l.length ≤ 1000000) (h0 : 0 ≤ x) (h1 : x < 18446744073709551616) :
    Calls Try.prog 11 #[v, .int .u64 x] w fun e w' => ∃ v, e = .returned v ∧ IsB (l ++ vput x.toNat) v w' ∧ Below w.heap.size w w' := by
  obtain ⟨A, c, rfl, h2, h3, h4, h5⟩ := h
  exact (rput_any A _ c x l w h2 rfl hl h5 h0 h1).mono fun _ _ h => h.isB
theorem putInt_isB {l : List UInt8} {v : Value} {w : World} (x : Int) (s : Bool) (h : IsB l v w) (hl : l.length ≤ 1000000) (h0 : -9223372036854775808 ≤ x) (h1 : x ≤ 9223372036854775807) :
    Calls Try.prog 12 #[v, .int .i64 x, .bool s] w fun e w' => ∃ v, e = .returned v ∧ IsB (l ++ vput (vint x s)) v w' ∧ Below w.heap.size w w' := by
  obtain ⟨A, c, rfl, h2, h3, h4, h5⟩ := h
  exact (putInt_any A _ c x s l w h2 rfl hl h5 h0 h1).mono fun _ _ h => h.isB
theorem rputInt_isB {l : List UInt8} {v : Value} {w : World} (x : Int) (s : Bool) (h : IsB l v w) (hl : l.length ≤ 1000000) (h0 : -9223372036854775808 ≤ x) (h1 : x ≤ 9223372036854775807) :
    Calls Try.prog 13 #[v, .int .i64 x, .bool s] w fun e w' => ∃ v, e = .returned v ∧ IsB (l ++ vput (vint x s)) v w' ∧ Below w.heap.size w w' := by
  obtain ⟨A, c, rfl, h2, h3, h4, h5⟩ := h
  exact (rputInt_any A _ c x s l w h2 rfl hl h5 h0 h1).mono fun _ _ h => h.isB
theorem ent_put (args : Array Value) (w : World) : (callFunc 10 args).run Try.prog w = .ok (.enter 10 args) w := by kernel_rfl
theorem ent_putInt (args : Array Value) (w : World) : (callFunc 12 args).run Try.prog w = .ok (.enter 12 args) w := by kernel_rfl
theorem ent_rputInt (args : Array Value) (w : World) : (callFunc 13 args).run Try.prog w = .ok (.enter 13 args) w := by kernel_rfl

set_option maxHeartbeats 1000000 in
set_option maxRecDepth 100000 in
theorem VarintPuts_walk (w : World) (A : Option Addr) (n0 c : Nat) (l0 : List UInt8) (hA0 : A = none → n0 = 0) (hn0 : l0.length = n0) (hc0 : n0 ≤ c) (hm0 : c ≤ maxLen) (hl0 : Lies w A (l0.map bv))
    (x : Int) (x0 : 0 ≤ x) (x1 : x < 18446744073709551616) (y : Int) (y0 : -9223372036854775808 ≤ y) (y1 : y ≤ 9223372036854775807) :
    Calls Try.prog 3 #[.slice A n0 c, .int .u64 x, .int .i64 y] w fun e w' => e = .returned (.bool true) ∧ Below w.heap.size w w' := by
  have hci : (c : Int) ≤ 9223372036854775807 := by unfold maxLen at hm0; omega
  have HM := Lib.hid hm0
  clear hm0
  obtain ⟨n, hmin⟩ : ∃ n, n = min n0 300 := ⟨_, rfl⟩
  obtain ⟨l, hl⟩ : ∃ l, l = l0.take n := ⟨_, rfl⟩
  have hn : l.length = n := by rw [hl, List.length_take]; omega
  have hA : A = none → n = 0 := fun h => by have := hA0 h; omega
  have hnc : n ≤ c := by omega
  have hnb : n ≤ 300 := by omega
  have hlies : Lies w A (l.map bv) := by rw [hl, List.map_take]; exact hl0.take n
  have HMIN := Lib.hid hmin
  clear hl hmin hA0 hn0 hl0
  have hml : (l.map bv).length = n := by simpa using hn
  have HN := Lib.hid hn
  have HML := Lib.hid hml
  clear hn hml
  go_enter Try.func3, Try.ntmps3
  go_wp2_with fail
  refine (shown_any _).mono ?_
  rintro e w1 ⟨rfl, hb1⟩
  have HB1 := Lib.hid hb1
  clear hb1
  go_wp2_with fail
  refine (few_is _ _ _ _ hc0 hci HMIN.out _).mono ?_
  rintro e w2 ⟨rfl, rfl⟩
  have hz1 := HB1.out.size
  have hbA : Below w.heap.size w (w1.alloc (.cells #[] 5)) := HB1.out.alloc hz1 _
  have hlA := hlies.below hbA
  have hown0 : (w1.alloc (.cells #[] 5)).ownsRow w.heap.size 5 1 (.slice (some ⟨w1.heap.size, 0, none⟩) 0 0) 0 [] := World.ownsRow_made w1 #[] 0 hz1 (by unfold maxLen; omega) (by simp)
  have hzz : w.heap.size ≤ (w1.alloc (.cells #[] 5)).heap.size := by simp; omega
  go_wp2_with (at_builtin; refine wpList_join elemB rfl _ _ rfl w.heap.size _ _ _ _ _ _ (l.map bv) w rfl rfl hA HML.out hlA (bv_one l) hown0 hbA hzz (by omega) (by omega) ?_)
  intro v3 w3 hown3 hb3 _ _
  have hB3 : IsB l v3 w3 := by
    obtain ⟨v, hv, h3, _⟩ := (ret_own (w0 := w) (l := l) (by simpa using hown3) hb3).isB
    injection hv with hv
    subst hv
    exact h3
  have hbB : IsB l (.slice A n c) w3 := ⟨A, c, by rw [HN.out], fun h => by rw [HN.out]; exact hA h, by rw [HN.out]; exact hnc, HM.out, hlies.below hb3⟩
  have hl300 : l.length ≤ 1000000 := by rw [HN.out]; omega
  have KB3 := Lib.hid hB3
  have KbB := Lib.hid hbB
  have HB3 := Lib.hid hb3
  have HL := Lib.hid hl300
  clear hown3 hown0 hlA hbA hzz hB3 hbB hb3 hl300
  go_wp2
  refine wp_region_list [.is v3, .is (.int .u64 x), .bytes (l ++ vput x.toNat), .is (.string ⟨(l ++ vput x.toNat).toArray⟩), .is (.slice A n c), .is (.int .u64 x), .bytes (l ++ vput x.toNat), .is (.string ⟨(l ++ vput x.toNat).toArray⟩), .is (.bool true), .is (.bool true)] [some 18, some 19, some 20, some 21, some 22, some 23, some 24, some 25, some 26, some 9] (by kernel_rfl) (by kernel_rfl) (by kernel_rfl) rfl ⟨?_, ?_, ?_, ?_, ?_, ?_, ?_, ?_, ?_, ?_, trivial⟩ ?_
  · intro ρ W1 hb1 H
    exact gives_move rfl (H.old 8 _ (by kernel_rfl) rfl) ⟨rfl, Below.refl _ _⟩
  · intro ρ W1 hb1 H
    exact gives_move rfl (H.old 1 _ (by kernel_rfl) rfl) ⟨rfl, Below.refl _ _⟩
  · intro ρ W1 hb1 H
    have e0 : ρ (.tmp 18) = v3 := H.new 18 0 (by kernel_rfl)
    have e1 : ρ (.tmp 19) = (.int .u64 x) := H.new 19 1 (by kernel_rfl)
    refine gives_call rfl ent_put (H.func _) (args := #[v3, (.int .u64 x)]) (by simp [e0, e1]) ?_
    exact put_isB x (KB3.out.below hb1) HL.out x0 x1
  · intro ρ W1 hb1 H
    have hB : IsB (l ++ vput x.toNat) (ρ (.tmp 20)) W1 := H.new 20 2 (by kernel_rfl)
    exact gives_convert rfl rfl (hB.text _ _ _ Try.underlying22 Try.underlying5 Try.underlying9) ⟨rfl, Below.refl _ _⟩
  · intro ρ W1 hb1 H
    exact gives_move rfl (H.old 0 _ (by kernel_rfl) rfl) ⟨rfl, Below.refl _ _⟩
  · intro ρ W1 hb1 H
    exact gives_move rfl (H.old 1 _ (by kernel_rfl) rfl) ⟨rfl, Below.refl _ _⟩
  · intro ρ W1 hb1 H
    have e0 : ρ (.tmp 22) = .slice A n c := H.new 22 4 (by kernel_rfl)
    have e1 : ρ (.tmp 23) = (.int .u64 x) := H.new 23 5 (by kernel_rfl)
    refine gives_call rfl ent11 (H.func _) (args := #[.slice A n c, (.int .u64 x)]) (by simp [e0, e1]) ?_
    exact rput_isB x (KbB.out.below hb1) HL.out x0 x1
  · intro ρ W1 hb1 H
    have hB : IsB (l ++ vput x.toNat) (ρ (.tmp 24)) W1 := H.new 24 6 (by kernel_rfl)
    exact gives_convert rfl rfl (hB.text _ _ _ Try.underlying22 Try.underlying5 Try.underlying9) ⟨rfl, Below.refl _ _⟩
  · intro ρ W1 hb1 H
    exact gives_texteq (a := l ++ vput x.toNat) (b := l ++ vput x.toNat) rfl (H.new 21 3 (by kernel_rfl)) (H.new 25 7 (by kernel_rfl)) ⟨by simp [facts, Fact.is], Below.refl _ _⟩
  · intro ρ W1 hb1 H
    exact gives_assign rfl (H.new 26 8 (by kernel_rfl)) ⟨rfl, Below.refl _ _⟩
  · intro vs W1 hb1 hfs
    have f9 : vs 9 = .bool true := hfs 9 (by decide)
    clear hfs
    simp only [putAll, Nat.zero_add, Nat.reduceAdd]
    generalize vs 0 = z0
    generalize vs 1 = z1
    generalize vs 2 = z2
    generalize vs 3 = z3
    generalize vs 4 = z4
    generalize vs 5 = z5
    generalize vs 6 = z6
    generalize vs 7 = z7
    generalize vs 8 = z8
    simp only [f9, Act.put, List.setIfInBounds_toArray, List.set_cons_succ, List.set_cons_zero]
    clear f9
    have HBa := Lib.hid hb1
    clear hb1
    go_wp2
    refine wp_region_list [.is v3, .is (.int .i64 y), .bytes (l ++ vput (vint y true)), .is (.string ⟨(l ++ vput (vint y true)).toArray⟩), .is (.slice A n c), .is (.int .i64 y), .bytes (l ++ vput (vint y true)), .is (.string ⟨(l ++ vput (vint y true)).toArray⟩), .is (.bool true), .is (.bool true)] [some 27, some 28, some 29, some 30, some 31, some 32, some 33, some 34, some 35, some 10] (by kernel_rfl) (by kernel_rfl) (by kernel_rfl) rfl ⟨?_, ?_, ?_, ?_, ?_, ?_, ?_, ?_, ?_, ?_, trivial⟩ ?_
    · intro ρ W1 hb1 H
      exact gives_move rfl (H.old 8 _ (by kernel_rfl) rfl) ⟨rfl, Below.refl _ _⟩
    · intro ρ W1 hb1 H
      exact gives_move rfl (H.old 2 _ (by kernel_rfl) rfl) ⟨rfl, Below.refl _ _⟩
    · intro ρ W1 hb1 H
      have e0 : ρ (.tmp 27) = v3 := H.new 27 0 (by kernel_rfl)
      have e1 : ρ (.tmp 28) = (.int .i64 y) := H.new 28 1 (by kernel_rfl)
      refine gives_call rfl ent_putInt (H.func _) (args := #[v3, (.int .i64 y), .bool true]) (by simp [e0, e1, H.const]) ?_
      exact putInt_isB y true (KB3.out.below (below_then HBa.out hb1)) HL.out y0 y1
    · intro ρ W1 hb1 H
      have hB : IsB (l ++ vput (vint y true)) (ρ (.tmp 29)) W1 := H.new 29 2 (by kernel_rfl)
      exact gives_convert rfl rfl (hB.text _ _ _ Try.underlying22 Try.underlying5 Try.underlying9) ⟨rfl, Below.refl _ _⟩
    · intro ρ W1 hb1 H
      exact gives_move rfl (H.old 0 _ (by kernel_rfl) rfl) ⟨rfl, Below.refl _ _⟩
    · intro ρ W1 hb1 H
      exact gives_move rfl (H.old 2 _ (by kernel_rfl) rfl) ⟨rfl, Below.refl _ _⟩
    · intro ρ W1 hb1 H
      have e0 : ρ (.tmp 31) = .slice A n c := H.new 31 4 (by kernel_rfl)
      have e1 : ρ (.tmp 32) = (.int .i64 y) := H.new 32 5 (by kernel_rfl)
      refine gives_call rfl ent_rputInt (H.func _) (args := #[.slice A n c, (.int .i64 y), .bool true]) (by simp [e0, e1, H.const]) ?_
      exact rputInt_isB y true (KbB.out.below (below_then HBa.out hb1)) HL.out y0 y1
    · intro ρ W1 hb1 H
      have hB : IsB (l ++ vput (vint y true)) (ρ (.tmp 33)) W1 := H.new 33 6 (by kernel_rfl)
      exact gives_convert rfl rfl (hB.text _ _ _ Try.underlying22 Try.underlying5 Try.underlying9) ⟨rfl, Below.refl _ _⟩
    · intro ρ W1 hb1 H
      exact gives_texteq (a := l ++ vput (vint y true)) (b := l ++ vput (vint y true)) rfl (H.new 30 3 (by kernel_rfl)) (H.new 34 7 (by kernel_rfl)) ⟨by simp [facts, Fact.is], Below.refl _ _⟩
    · intro ρ W1 hb1 H
      exact gives_assign rfl (H.new 35 8 (by kernel_rfl)) ⟨rfl, Below.refl _ _⟩
    · intro vs W1 hb1 hfs
      have f9 : vs 9 = .bool true := hfs 9 (by decide)
      clear hfs
      simp only [putAll, Nat.zero_add, Nat.reduceAdd]
      generalize vs 0 = z0
      generalize vs 1 = z1
      generalize vs 2 = z2
      generalize vs 3 = z3
      generalize vs 4 = z4
      generalize vs 5 = z5
      generalize vs 6 = z6
      generalize vs 7 = z7
      generalize vs 8 = z8
      simp only [f9, Act.put, List.setIfInBounds_toArray, List.set_cons_succ, List.set_cons_zero]
      clear f9
      have HBb := Lib.hid hb1
      clear hb1
      go_wp2
      refine wp_region_list [.is v3, .is (.int .i64 y), .bytes (l ++ vput (vint y false)), .is (.string ⟨(l ++ vput (vint y false)).toArray⟩), .is (.slice A n c), .is (.int .i64 y), .bytes (l ++ vput (vint y false)), .is (.string ⟨(l ++ vput (vint y false)).toArray⟩), .is (.bool true), .is (.bool true)] [some 36, some 37, some 38, some 39, some 40, some 41, some 42, some 43, some 44, some 11] (by kernel_rfl) (by kernel_rfl) (by kernel_rfl) rfl ⟨?_, ?_, ?_, ?_, ?_, ?_, ?_, ?_, ?_, ?_, trivial⟩ ?_
      · intro ρ W1 hb1 H
        exact gives_move rfl (H.old 8 _ (by kernel_rfl) rfl) ⟨rfl, Below.refl _ _⟩
      · intro ρ W1 hb1 H
        exact gives_move rfl (H.old 2 _ (by kernel_rfl) rfl) ⟨rfl, Below.refl _ _⟩
      · intro ρ W1 hb1 H
        have e0 : ρ (.tmp 36) = v3 := H.new 36 0 (by kernel_rfl)
        have e1 : ρ (.tmp 37) = (.int .i64 y) := H.new 37 1 (by kernel_rfl)
        refine gives_call rfl ent_putInt (H.func _) (args := #[v3, (.int .i64 y), .bool false]) (by simp [e0, e1, H.const]) ?_
        exact putInt_isB y false (KB3.out.below (below_then HBa.out (below_then HBb.out hb1))) HL.out y0 y1
      · intro ρ W1 hb1 H
        have hB : IsB (l ++ vput (vint y false)) (ρ (.tmp 38)) W1 := H.new 38 2 (by kernel_rfl)
        exact gives_convert rfl rfl (hB.text _ _ _ Try.underlying22 Try.underlying5 Try.underlying9) ⟨rfl, Below.refl _ _⟩
      · intro ρ W1 hb1 H
        exact gives_move rfl (H.old 0 _ (by kernel_rfl) rfl) ⟨rfl, Below.refl _ _⟩
      · intro ρ W1 hb1 H
        exact gives_move rfl (H.old 2 _ (by kernel_rfl) rfl) ⟨rfl, Below.refl _ _⟩
      · intro ρ W1 hb1 H
        have e0 : ρ (.tmp 40) = .slice A n c := H.new 40 4 (by kernel_rfl)
        have e1 : ρ (.tmp 41) = (.int .i64 y) := H.new 41 5 (by kernel_rfl)
        refine gives_call rfl ent_rputInt (H.func _) (args := #[.slice A n c, (.int .i64 y), .bool false]) (by simp [e0, e1, H.const]) ?_
        exact rputInt_isB y false (KbB.out.below (below_then HBa.out (below_then HBb.out hb1))) HL.out y0 y1
      · intro ρ W1 hb1 H
        have hB : IsB (l ++ vput (vint y false)) (ρ (.tmp 42)) W1 := H.new 42 6 (by kernel_rfl)
        exact gives_convert rfl rfl (hB.text _ _ _ Try.underlying22 Try.underlying5 Try.underlying9) ⟨rfl, Below.refl _ _⟩
      · intro ρ W1 hb1 H
        exact gives_texteq (a := l ++ vput (vint y false)) (b := l ++ vput (vint y false)) rfl (H.new 39 3 (by kernel_rfl)) (H.new 43 7 (by kernel_rfl)) ⟨by simp [facts, Fact.is], Below.refl _ _⟩
      · intro ρ W1 hb1 H
        exact gives_assign rfl (H.new 44 8 (by kernel_rfl)) ⟨rfl, Below.refl _ _⟩
      · intro vs W1 hb1 hfs
        have f9 : vs 9 = .bool true := hfs 9 (by decide)
        clear hfs
        simp only [putAll, Nat.zero_add, Nat.reduceAdd]
        generalize vs 0 = z0
        generalize vs 1 = z1
        generalize vs 2 = z2
        generalize vs 3 = z3
        generalize vs 4 = z4
        generalize vs 5 = z5
        generalize vs 6 = z6
        generalize vs 7 = z7
        generalize vs 8 = z8
        simp only [f9, Act.put, List.setIfInBounds_toArray, List.set_cons_succ, List.set_cons_zero]
        clear f9
        have KB6 := Lib.hid (KB3.out.below (below_then HBa.out (below_then HBb.out hb1)))
        have KbB6 := Lib.hid (KbB.out.below (below_then HBa.out (below_then HBb.out hb1)))
        have tO := textB KB6.out
        have tB := textB KbB6.out
        have HF := Lib.hid (below_then HB3.out (below_then HBa.out (below_then HBb.out hb1)))
        clear hb1
        go_wp2
        go_ret
        exact ⟨rfl, HF.out⟩

set_option maxRecDepth 100000 in
theorem VarintPuts_lifted (os : Os) (started : os.Started) (H : Type) (enc : TypeId × Value → H) :
    ReturnsInHanded {} Try.checked os 3 .any (Rows.varintPutsSpec.pre6 enc Try.prog Try.f3 Rows.varintPutsRow.domain false) (Rows.varintPutsSpec.post enc Try.prog Try.f3 false true false false) := by
  refine returnsInHanded_of_change (C := Try.checked) own started (by kernel_rfl) Try.func3
    (ChangeSpec.witness6 (enc := enc) (C := Try.checked) false ⟨#[], #[.slice none 0 0, .int .u64 0, .int .i64 0], []⟩ 8 (by kernel_rfl) (by kernel_rfl) (by kernel_rfl) (by kernel_rfl)) ?_
  intro W base args ds gs before hval0 hW hcnd _
  have hval : ∀ (j : Nat) t v, Try.f3.params[j]? = some t → args[j]? = some v → Value.okWide Try.prog W .any base t v := hval0
  have hW' := hW
  obtain ⟨p, q, hT0, hV, rfl, hfz, hnd⟩ := hW
  have hA : DataW.TrodAll enc Try.prog W 0 (fun _ => true) true Try.f3.params.toList args.toList ds p := hT0
  rw [Try.params3] at hA hval
  obtain ⟨v0, vs0, d0, ds0, p0, q0, hargs, rfl, rfl, h0, r0⟩ := trodAll_cons hA
  obtain ⟨v1, vs1, d1, ds1, p1, q1, rfl, rfl, rfl, h1, r1⟩ := trodAll_cons r0
  obtain ⟨v2, vs2, d2, ds2, p2, q2, rfl, rfl, rfl, h2, r2⟩ := trodAll_cons r1
  obtain ⟨rfl, rfl, rfl⟩ := trodAll_nil r2
  obtain rfl : args = #[v0, v1, v2] := by cases args; simp_all
  obtain ⟨rfl, rfl⟩ := trodVars_none hV
  have hlt0 : ∀ x ∈ p0, x.block < W.heap.size := fun x hx => hW'.lt x (by simp [hx])
  obtain ⟨A0, n0, c0, l0, rfl, hA0, hn0, hc0, hm0, hl0⟩ := open_bytes Try.underlying22 Try.underlying5 (by kernel_rfl) (hval 0 22 v0 rfl rfl) h0 hlt0
  obtain ⟨a1, rfl, rfl, rfl, w1⟩ := open_int Try.underlying23 (hval 1 23 v1 rfl rfl) h1
  obtain ⟨a2, rfl, rfl, rfl, w2⟩ := open_int Try.underlying3 (hval 2 3 v2 rfl rfl) h2
  clear hT0 hval0
  refine (VarintPuts_walk W A0 n0 c0 l0 hA0 hn0 hc0 hm0 hl0 a1 (wf_u64 w1).1 (wf_u64 w1).2 a2 (wf_i64 w2).1 (wf_i64 w2).2).mono fun e W' ⟨he, hb⟩ => ?_
  subst he
  exact ⟨_, rfl, law_post laidOut Try.underlying4 (by kernel_rfl) (by kernel_rfl) rfl hW' rfl hb⟩

theorem VarintPuts_over : Rows.varintPutsRow.holds Try.pinned (OpenSpec.ofChange Rows.varintPutsSpec) :=
  OpenClaim.holds_of_wide 3 Try.f3 rfl rfl rfl rfl rfl rfl rfl ⟨rfl, rfl, rfl, rfl, rfl⟩ rfl rfl rfl rfl rfl (by kernel_rfl) Try.func3 (by kernel_rfl)
    (of_decide_eq_true (by kernel_rfl)) (by unfold Func.isWrapper; first | (rw [if_pos (by decide +kernel)]; kernel_rfl) | (rw [if_neg (by decide +kernel)]; exact ⟨rfl, rfl⟩))
    (fun os started H enc _ => VarintPuts_lifted os started H enc)

theorem VarintPuts_holds : Rows.VarintPutsSaid := VarintPuts_over
#print axioms VarintPuts_holds
end Go.Proofs.Ytljnklmmldeokaa
