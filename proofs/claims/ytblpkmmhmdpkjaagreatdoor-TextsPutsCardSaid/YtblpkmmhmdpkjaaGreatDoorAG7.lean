/- Texts that the claims of this seat share, part 7: PCat POps PShape PHead Apart PLook PPutO PIs EOwn EIs UPlain UMore UBd URef. -/
import Derived.Lib.AppendZeros
import Derived.Laws.Tables
import Derived.Test.YtblpkmmhmdpkjaaGreatDoorAG6
/- slices.Concat and slices.Grow at bytes. -/







namespace Go.Proofs.YtblpkmmhmdpkjaaGreatDoor

open Go.RowKit

theorem own_zero {w : World} {base g G : Nat} {e : TypeId} {cur : Array Value} (hg : w.heap[g]? = some (.cells cur e (0, 0))) (hb : base ≤ g) (hG : G ≤ maxLen) (hs : cur.size = G) : w.ownsRow base e 1 (.slice (some ⟨g, 0, none⟩) 0 G) 0 [] :=
  ⟨rfl, .inr ⟨g, G, cur, rfl, hb, hg, Nat.zero_le _, hG, by rw [hs, Nat.mul_one], by simp⟩⟩
theorem zeroCells_size (z : Value) (n : Nat) : (Builtin.zeroCells #[z] n).size = n := by simp [Builtin.zeroCells]
set_option maxHeartbeats 2000000 in
set_option maxRecDepth 100000 in
theorem grow_own (n : Nat) (w : World) (hn : n ≤ 1000000) : Calls Tryz.prog 209 #[.slice none 0 0, .int .i64 (n : Int)] w fun e w' => ∃ v, e = .returned v ∧ w'.ownsRow w.heap.size 5 1 v 0 [] ∧ Below w.heap.size w w' := by
  have hnw : IntKind.i64.wrap (n : Int) = (n : Int) := by rw [IntKind.wrap_i64]; omega
  by_cases h0 : n = 0
  · subst h0
    go_enter Tryz.func209, Tryz.ntmps209
    go_wp2
    go_ret
    exact ⟨_, rfl, World.ownsRow_nil _ _ _ _, Below.refl _ _⟩
  · obtain ⟨i, hi, hz, hs, hby⟩ := elemB.info
    have hrz : ∀ ty, (Builtin.append_ #[38, 3] ty #[.slice none 0 0, .int .i64 (n : Int)]).run Tryz.prog w = .ok (.slice (some ⟨w.heap.size, 0, none⟩) n (grownCap w n 0 5)) (w.drew.alloc (.cells (Builtin.zeroCells (bv 0).cells n ++ Builtin.zeroCells (bv 0).cells (grownCap w n 0 5 - n)) 5)) := fun ty =>
      Lib.run_append_nil_zeros w 38 3 ty 5 i (bv 0) .i64 .i64 Tryz.underlying38 Tryz.underlying3 hi hz n (by omega) (by omega) (by omega) (by rw [hby]; omega)
    have hGn : n ≤ grownCap w n 0 5 := grownCap_ge w _ _ _
    have hGm := grownCap_le_maxLen w n 0 5 (by unfold maxLen; omega)
    obtain ⟨G, hG⟩ : ∃ G, G = grownCap w n 0 5 := ⟨_, rfl⟩
    rw [← hG] at hrz hGn hGm
    have hG63 : G ≤ 9223372036854775807 := by unfold maxLen at hGm; omega
    obtain ⟨cur, hcur⟩ : ∃ cur, cur = Builtin.zeroCells (bv 0).cells n ++ Builtin.zeroCells (bv 0).cells (G - n) := ⟨_, rfl⟩
    rw [← hcur] at hrz
    have HCS := Lib.hid (show cur.size = G by
      rw [hcur, Array.size_append]
      have h1 := zeroCells_size (.int .u8 0) n
      have h2 := zeroCells_size (.int .u8 0) (G - n)
      show (Builtin.zeroCells #[.int .u8 0] n).size + (Builtin.zeroCells #[.int .u8 0] (G - n)).size = G
      omega)
    have HGM := Lib.hid hGm
    have hn1 : 0 < (n : Int) := by omega
    clear hcur hGm hi hz hs hby hG h0
    go_enter Tryz.func209, Tryz.ntmps209
    go_wp2_with (at_builtin; refine Lib.wpList_append_run _ rfl _ _ _ _ rfl _ _ rfl rfl _ _ (hrz _) ?_)
    all_goals
      go_ret
      have h1 : w.drew.heap.size = w.heap.size := rfl
      refine ⟨_, rfl, own_zero (by rw [← h1]; exact heap_alloc_new w.drew _) (Nat.le_refl _) HGM.out HCS.out, ((Below.refl _ _).alloc (Nat.le_refl _) _).trans ⟨rfl, rfl, rfl, Nat.le_refl _, fun _ _ => rfl⟩⟩
def CatRel1 (xs : List (Value × List UInt8)) (w : World) (s i : Value) (wr : World) : Prop := ∃ k S : Nat, k ≤ xs.length ∧ i = .int .i64 (k : Int) ∧ s = .int .i64 (S : Int) ∧ S = ((xs.take k).flatMap (·.2)).length ∧ w = wr
def CatRel2 (xs : List (Value × List UInt8)) (w : World) (v i : Value) (wr : World) : Prop := ∃ (k : Nat) (l : List UInt8), k ≤ xs.length ∧ i = .int .i64 (k : Int) ∧ l = (xs.take k).flatMap (·.2) ∧ wr.ownsRow w.heap.size 5 1 v l.length (l.map bv) ∧ Below w.heap.size w wr
theorem flat_le {xs : List (Value × List UInt8)} (k : Nat) : ((xs.take k).flatMap (·.2)).length ≤ (xs.flatMap (·.2)).length := by
  have h : xs.flatMap (·.2) = (xs.take k).flatMap (·.2) ++ (xs.drop k).flatMap (·.2) := by rw [← List.flatMap_append, List.take_append_drop]
  rw [h, List.length_append]
  omega
set_option maxHeartbeats 2000000 in
set_option maxRecDepth 100000 in
theorem concat_own (xs : List (Value × List UInt8)) (v : Value) (w : World) (hv : IsV (·.1) xs v w) (hx : ∀ x ∈ xs, IsB x.2 x.1 w) (hm : xs.length ≤ 1000) (hb : (xs.flatMap (·.2)).length ≤ 1000000) :
    Calls Tryz.prog 193 #[v] w (RetOwn w (xs.flatMap (·.2))) := by
  obtain ⟨A, n, c, rfl⟩ := hv.shape
  have HN := Lib.hid hv.parts.1
  have HV := Lib.hid hv
  have HX := Lib.hid hx
  have HB := Lib.hid hb
  have hn6 : n ≤ 1000 := by have := HN.out; omega
  have HS := Lib.hid (show CatRel1 xs w (.int .i64 0) (.int .i64 0) w from ⟨0, 0, Nat.zero_le _, rfl, rfl, rfl, rfl⟩)
  clear hv hx hm hb
  go_enter Tryz.func193, Tryz.ntmps193
  go_wp2
  go_loopw [3, 11] (CatRel1 xs w) (fun _ i _ => n - (intOf i).toNat)
  case atStart => exact HS.out
  case round =>
    obtain ⟨k, S, hk, rfl, rfl, hS, rfl⟩ := hrel
    have hkn : k ≤ n := by have := HN.out; omega
    have HSE := Lib.hid hS
    have hS6 : S ≤ 1000000 := by rw [hS]; exact Nat.le_trans (flat_le k) HB.out
    clear hS hk
    by_cases hlt : k < n
    · have hkl : k < xs.length := by have := HN.out; omega
      have hlti : (k : Int) < (n : Int) := by omega
      obtain ⟨ad, rfl, had, hcell⟩ := HV.out.at hkl
      obtain ⟨x, hxe⟩ : ∃ x, x = xs[k] := ⟨_, rfl⟩
      rw [← hxe] at hcell
      have hxb := HX.out x (by rw [hxe]; exact List.getElem_mem hkl)
      have HNX := Lib.hid (show S + x.2.length = ((xs.take (k + 1)).flatMap (·.2)).length by rw [List.take_succ_eq_append_getElem hkl, List.flatMap_append, List.length_append, ← HSE.out, ← hxe]; simp)
      have hS2 : S + x.2.length ≤ 1000000 := by rw [HNX.out]; exact Nat.le_trans (flat_le (k + 1)) HB.out
      obtain ⟨A1, c1, hx1, _⟩ := hxb
      rw [hx1] at hcell
      obtain ⟨q, hq⟩ : ∃ q, q = x.2.length := ⟨_, rfl⟩
      rw [← hq] at hcell HNX hS2
      have hsw : IntKind.i64.wrap ((S : Int) + (q : Int)) = (S : Int) + (q : Int) := by rw [IntKind.wrap_i64]; omega
      have hneg : ¬ ((S : Int) + (q : Int) < 0) := by omega
      clear hxe hx1 hq
      go_wp2
      go_roundw
      case rel => exact ⟨k + 1, S + q, hkl, by go_num, by go_num, HNX.out, rfl⟩
      case measure => simp [intOf]; omega
    · obtain rfl : k = n := by omega
      have HGR := Lib.hid (grow_own S w hS6)
      clear HSE
      go_wp2_with (go_at_call 209; refine HGR.out.mono ?_; rintro e w1 ⟨v1, rfl, ho1, hb1⟩)
      have HS2 := Lib.hid (show CatRel2 xs w v1 (.int .i64 0) w1 from ⟨0, [], Nat.zero_le _, rfl, rfl, ho1, hb1⟩)
      clear ho1 hb1
      go_loopw [6, 27] (CatRel2 xs w) (fun _ i _ => k - (intOf i).toNat)
      case atStart => exact HS2.out
      case round =>
        obtain ⟨j, l, hj, rfl, hl, hown, hbw⟩ := hrel
        have hjn : j ≤ k := by have := HN.out; omega
        have HL := Lib.hid hl
        have hl6 : l.length ≤ 1000000 := by rw [hl]; exact Nat.le_trans (flat_le j) HB.out
        have hz := hbw.size
        clear hl hj
        by_cases hlt2 : j < k
        · have hkl : j < xs.length := by have := HN.out; omega
          have hlti : (j : Int) < (k : Int) := by omega
          obtain ⟨ad, rfl, had, hcell⟩ := (HV.out.below hbw).at hkl
          obtain ⟨x, hxe⟩ : ∃ x, x = xs[j] := ⟨_, rfl⟩
          rw [← hxe] at hcell
          have hxb := HX.out x (by rw [hxe]; exact List.getElem_mem hkl)
          have HNX := Lib.hid (show l ++ x.2 = (xs.take (j + 1)).flatMap (·.2) by rw [List.take_succ_eq_append_getElem hkl, List.flatMap_append, ← HL.out, ← hxe]; simp)
          have hS2 : (l ++ x.2).length ≤ 1000000 := by rw [HNX.out]; exact Nat.le_trans (flat_le (j + 1)) HB.out
          rw [List.length_append] at hS2
          obtain ⟨A1, c1, hx1, hA1, hnc1, hcm1, hl1⟩ := hxb
          rw [hx1] at hcell
          obtain ⟨q, hq⟩ : ∃ q, q = x.2.length := ⟨_, rfl⟩
          rw [← hq] at hcell hA1 hnc1 hS2
          have HL1 := Lib.hid (hl1.below hbw)
          have HQ := Lib.hid hq
          obtain ⟨m, hm⟩ : ∃ m, m = l.length := ⟨_, rfl⟩
          rw [← hm] at hown hS2 hl6
          have HM := Lib.hid hm
          clear hxe hx1 hq hm hl1
          go_wp2_with (at_builtin; refine wpList_join elemB rfl _ _ rfl w.heap.size _ m (l.map bv) A1 q c1 (x.2.map bv) w rfl rfl hA1 (by rw [List.length_map, HQ.out]) HL1.out (bv_one _) hown hbw hz (by omega) (by omega) ?_)
          intro v5 w5 ho5 hb5 _ _
          have HO5 := Lib.hid (show w5.ownsRow w.heap.size 5 1 v5 (l ++ x.2).length ((l ++ x.2).map bv) by rw [List.length_append, ← HM.out, ← HQ.out, List.map_append]; exact ho5)
          have HB5 := Lib.hid hb5
          clear ho5 hb5 hown hbw
          go_wp2
          go_roundw
          case rel => exact ⟨j + 1, _, hkl, by go_num, HNX.out, HO5.out, HB5.out⟩
          case measure => simp [intOf]; omega
        · obtain rfl : j = k := by omega
          have HE := Lib.hid (show l = xs.flatMap (·.2) by rw [HL.out, List.take_of_length_le (by have := HN.out; omega)])
          have HO := Lib.hid hown
          clear hown
          go_wp2
          go_ret
          rw [← HE.out]
          exact ⟨_, rfl, HO.out, hbw⟩
end Go.Proofs.YtblpkmmhmdpkjaaGreatDoor

/- Operations of a region that draws: max, a struct's literal, a slice literal of two bytes, shifts by a constant; a struct's result beside two others. -/









namespace Go.Proofs.YtblpkmmhmdpkjaaGreatDoor

open Go.RowKit

section

variable {P : Program} {o : Oper} {ρ : Operand → Value} {w : World} {R : Value → World → Prop}
theorem gives_max {ts : Array TypeId} {x y : Operand} {a b r : Int} (ho : o.op = .call { callee := .builtin .max, args := #[x, y], argTypes := ts }) (hx : ρ x = .int .i64 a) (hy : ρ y = .int .i64 b) (h : max a b = r) (hR : R (.int .i64 r) w) : Gives P o ρ w R := by
  refine gives_of (v := .int .i64 r) (w' := w) ?_ hR
  have hm : ∀ (ts : Array TypeId) (t : TypeId) (W : World), (Builtin.max_ ts t #[.int .i64 a, .int .i64 b]).run P W = .ok (.int .i64 r) W := fun ts t W => by
    rw [run_max_int2]
    congr 2
    rw [← h]
    split <;> omega
  unfold execOp
  simp only [ho, resolve, invoke, builtin, Sem.run_bind, Sem.run_pure, Result.andThen_ok, List.map_toArray, List.map_cons, List.map_nil, hx, hy, hm]
theorem gives_shl5 {t t' : TypeId} {x y : Operand} {a r : Int} (ho : o.op = .binOp .shl t x y t') (hx : ρ x = .int .i64 a) (hy : ρ y = .int .u64 5) (h : IntKind.i64.wrap (a * 32) = r) (hR : R (.int .i64 r) w) : Gives P o ρ w R := by
  refine gives_of (v := .int .i64 r) (w' := w) ?_ hR
  simp [execOp, ho, hx, hy, go_sem, h]
theorem gives_orI {t t' : TypeId} {x y : Operand} {a b r : Int} (ho : o.op = .binOp .or t x y t') (hx : ρ x = .int .i64 a) (hy : ρ y = .int .i64 b) (h : bits .or .i64 a b = r) (hR : R (.int .i64 r) w) : Gives P o ρ w R := by
  refine gives_of (v := .int .i64 r) (w' := w) ?_ hR
  simp [execOp, ho, hx, hy, go_sem, h]
theorem gives_or64 {t t' : TypeId} {x y : Operand} {a b r : Int} (ho : o.op = .binOp .or t x y t') (hx : ρ x = .int .u64 a) (hy : ρ y = .int .u64 b) (h : bits .or .u64 a b = r) (hR : R (.int .u64 r) w) : Gives P o ρ w R := by
  refine gives_of (v := .int .u64 r) (w' := w) ?_ hR
  simp [execOp, ho, hx, hy, go_sem, h]
/-- A slice literal of two bytes. -/
theorem gives_two {t e : TypeId} {bytes : Nat} {z u u' : Value} (E : Elem P t e bytes z) {x y : Operand} (ho : o.op = .buildSlice t 2 #[(0, x), (1, y)]) (hx : ρ x = u) (hy : ρ y = u') (hu : u.cells = #[u]) (hu' : u'.cells = #[u']) (hR : R (.slice (some ⟨w.heap.size, 0, none⟩) 2 2) (w.alloc (.cells #[u, u'] e))) : Gives P o ρ w R := by
  obtain ⟨i, h1, h2, h3, h4⟩ := E.info
  refine gives_of (v := .slice (some ⟨w.heap.size, 0, none⟩) 2 2) (w' := w.alloc (.cells #[u, u'] e)) ?_ hR
  have h5 : z.cells = #[z] := E.one
  have hf : Instr.fill (fun k => some (k * i.size, i.size)) ((Array.range (2 * i.size)).map (z.cells[· % z.cells.size]!)) [(0, u), (1, u')] = some #[u, u'] := by
    rw [h3, h5]
    have hr1 : Array.range 2 = #[0, 1] := by rw [Array.range_succ, Array.range_succ]; rfl
    rw [Nat.mul_one, hr1]
    simp [Instr.fill, hu, hu']
  have := run_buildSlice w t e 2 #[(0, u), (1, u')] #[u, u'] i z E.under h1 h2 (by rw [h3]; decide) (by rw [h3]; decide) hf
  simp [execOp, ho, hx, hy, this]
end
theorem gives_shape {o : Oper} {ρ : Operand → Value} {w : World} {R : Value → World → Prop} {x0 x1 x2 x3 x4 x5 : Operand} {m W n p g t : Int} (ho : o.op = .build 181 #[(0, x0), (1, x1), (2, x2), (3, x3), (4, x4), (5, x5)])
    (h0 : ρ x0 = .int .i64 m) (h1 : ρ x1 = .int .i64 W) (h2 : ρ x2 = .int .i64 n) (h3 : ρ x3 = .int .i64 p) (h4 : ρ x4 = .int .i64 g) (h5 : ρ x5 = .int .i64 t) (hR : R (shv m W n p g t) w) : Gives Tryz.prog o ρ w R := by
  refine gives_of (v := shv m W n p g t) (w' := w) ?_ hR
  simp [execOp, ho, h0, h1, h2, h3, h4, h5, go_sem]
  rfl
theorem pairs_at0 (W : World) (g : Nat) : (Instr.fieldAt 209 (.pointer (some ⟨g, 0, none⟩)) 0).run Tryz.prog W = .ok (.pointer (some ⟨g, 0, none⟩)) W := by
  simp [Instr.fieldAt, run_underlying Tryz.underlying209, Instr.sureAddr, fieldPlace, Addr.add]
theorem pairs_at1 (W : World) (g : Nat) : (Instr.fieldAt 209 (.pointer (some ⟨g, 0, none⟩)) 1).run Tryz.prog W = .ok (.pointer (some ⟨g, 1, none⟩)) W := by
  simp [Instr.fieldAt, run_underlying Tryz.underlying209, Instr.sureAddr, fieldPlace, Addr.add]
theorem shape_size : (Tryz.prog.info? 181).map (·.size) = some 6 := by kernel_rfl
end Go.Proofs.YtblpkmmhmdpkjaaGreatDoor

/- patched's own contracts: shapeOf, joined, head, look. Written by gen_pshape.py. -/



namespace Go.Proofs.YtblpkmmhmdpkjaaGreatDoor

open Go.RowKit

set_option maxHeartbeats 4000000 in
set_option maxRecDepth 100000 in
theorem shapeof_any (m W n : Int) (vg vp : Value) (ps : List (Nat × Nat)) (w : World) (ht : WTab w) (hvg : IsV uv (ps.map (·.1)) vg w) (hvp : IsV uv (ps.map (·.2)) vp w) (h1 : ∀ q ∈ ps, q.1 < 2 ^ 64) (h2 : ∀ q ∈ ps, q.2 < 2 ^ 64) (hb : ps.length ≤ 1000000) :
    Calls Tryz.prog 190 #[.int .i64 m, .int .i64 W, .int .i64 n, pairsV vg vp] w fun e w' => e = .returned (shv m W n (wclosest (wmost (ps.map (·.2)) : Int)) (pgw ps : Int) (ps.length : Int)) ∧ Below w.heap.size w w' := by
  obtain ⟨Ag, ng, cg, rfl⟩ := hvg.shape
  obtain ⟨Ap, np, cp, rfl⟩ := hvp.shape
  have hng : ps.length = ng := by rw [← hvg.parts.1, List.length_map]
  obtain ⟨w1, hw1⟩ : ∃ w1, w1 = w.alloc (.cells #[.slice Ag ng cg, .slice Ap np cp] 209) := ⟨_, rfl⟩
  have q1 : Row w1 w.heap.size 209 [.slice Ag ng cg, .slice Ap np cp] := by rw [hw1]; exact heap_alloc_new w _
  have z1 : w1.heap.size = w.heap.size + 1 := by rw [hw1]; simp
  obtain ⟨w2, hw2⟩ : ∃ w2, w2 = w1.alloc (.cells (shc 0 0 0 0 0 0).toArray 181) := ⟨_, rfl⟩
  have hb1 : Below w.heap.size w w1 := by rw [hw1]; exact (Below.refl _ _).alloc (Nat.le_refl _) _
  have hb2 : Below w.heap.size w w2 := by rw [hw2]; exact hb1.alloc hb1.size _
  have q2 : Row w2 w.heap.size 209 [.slice Ag ng cg, .slice Ap np cp] := by rw [hw2]; exact q1.alloc _
  have HRZ := Lib.hid (show Row w2 (w.heap.size + 1) 181 (shc 0 0 0 0 0 0) by rw [hw2, ← z1]; exact heap_alloc_new w1 _)
  have HB0 := Lib.hid hb2
  have HLB := Lib.hid q2.lt
  have HCG := Lib.hid (show w2.cell? ⟨w.heap.size, 0, none⟩ = some (.slice Ag ng cg) from q2.cell 0)
  have HCP := Lib.hid (show w2.cell? ⟨w.heap.size, 1, none⟩ = some (.slice Ap np cp) from q2.cell 1)
  have HVG := Lib.hid (hvg.below hb2)
  have HVP := Lib.hid (hvp.below hb2)
  have HT := Lib.hid (ht.below hb2 ht.lt)
  have HMG := Lib.hid (fun X (h : IsV uv (ps.map (·.1)) (.slice Ag ng cg) X) => most_is h (by rw [List.length_map]; exact hb) (fun x hx => by obtain ⟨q, hq, rfl⟩ := List.mem_map.1 hx; exact h1 q hq))
  have HMP := Lib.hid (fun X (h : IsV uv (ps.map (·.2)) (.slice Ap np cp) X) => most_is h (by rw [List.length_map]; exact hb) (fun x hx => by obtain ⟨q, hq, rfl⟩ := List.mem_map.1 hx; exact h2 q hq))
  obtain ⟨mp, hmp⟩ : ∃ mp, mp = wmost (ps.map (·.2)) := ⟨_, rfl⟩
  obtain ⟨mg, hmg⟩ : ∃ mg, mg = wmost (ps.map (·.1)) := ⟨_, rfl⟩
  obtain ⟨P, hP⟩ : ∃ P, P = wclosest (mp : Int) := ⟨_, rfl⟩
  obtain ⟨G, hG⟩ : ∃ G, G = (pgw ps : Int) := ⟨_, rfl⟩
  have HMX := Lib.hid (show max 1 (mg : Int) = G by rw [hG, hmg]; unfold pgw; omega)
  have HCL := Lib.hid (fun X (h : WTab X) => closest_any (mp : Int) X h)
  rw [← hmp] at HMP ⊢
  rw [← hmg] at HMG
  rw [← hP] at HCL ⊢
  rw [← hG, hng]
  unfold pairsV
  clear ht hvg hvp h1 h2 hb hng q1 q2 z1 hb1 hb2 hmp hmg hP hG
  unfold shc at hw2
  go_enter Tryz.func190, Tryz.ntmps190
  go_wp2
  rw [← hw1, ← hw2]
  clear hw1 hw2
  refine wp_region_list_tail 15 [.is (.int .i64 m), .is (.int .i64 W), .is (.int .i64 n), .is (.pointer (some ⟨w.heap.size, 1, none⟩)), .is (.slice Ap np cp), .is (.int .i64 (mp : Int)), .is (.int .i64 P), .is (.pointer (some ⟨w.heap.size, 0, none⟩)), .is (.slice Ag ng cg), .is (.int .i64 (mg : Int)), .is (.int .i64 G), .is (.pointer (some ⟨w.heap.size, 0, none⟩)), .is (.slice Ag ng cg), .is (.int .i64 (ng : Int)), .is (shv m W n P G (ng : Int))] [some 9, some 10, some 11, some 12, some 13, some 14, some 15, some 16, some 17, some 18, some 19, some 20, some 21, some 22, some 23] (by kernel_rfl) (by kernel_rfl) (by kernel_rfl) (by kernel_rfl) rfl ⟨?_, ?_, ?_, ?_, ?_, ?_, ?_, ?_, ?_, ?_, ?_, ?_, ?_, ?_, ?_, trivial⟩ ?_
  · intro ρ W1 hb1 H
    exact gives_move rfl (H.old 0 _ (by kernel_rfl) rfl) ⟨rfl, Below.refl _ _⟩
  · intro ρ W1 hb1 H
    exact gives_move rfl (H.old 1 _ (by kernel_rfl) rfl) ⟨rfl, Below.refl _ _⟩
  · intro ρ W1 hb1 H
    exact gives_move rfl (H.old 2 _ (by kernel_rfl) rfl) ⟨rfl, Below.refl _ _⟩
  · intro ρ W1 hb1 H
    exact gives_field rfl (H.old 7 _ (by kernel_rfl) rfl) (fun W => pairs_at1 W _) ⟨rfl, Below.refl _ _⟩
  · intro ρ W1 hb1 H
    exact gives_load rfl (H.new 12 3 (by kernel_rfl)) Tryz.underlying75 rfl ((hb1.cell HLB.out).trans HCP.out) ⟨rfl, Below.refl _ _⟩
  · intro ρ W1 hb1 H
    have e0 : ρ (.tmp 13) = .slice Ap np cp := H.new 13 4 (by kernel_rfl)
    refine gives_call rfl (fun _ _ => by kernel_rfl) (H.func _) (args := #[.slice Ap np cp]) (by simp [e0]) ?_
    exact (HMP.out W1 (HVP.out.below hb1)).mono fun e w' ⟨h1, h2⟩ => ⟨_, h1, rfl, h2 ▸ Below.refl _ _⟩
  · intro ρ W1 hb1 H
    have e0 : ρ (.tmp 14) = .int .i64 (mp : Int) := H.new 14 5 (by kernel_rfl)
    refine gives_call rfl (fun _ _ => by kernel_rfl) (H.func _) (args := #[.int .i64 (mp : Int)]) (by simp [e0]) ?_
    exact (HCL.out W1 (HT.out.below hb1 HT.out.lt)).mono fun e w' ⟨h1, h2⟩ => ⟨_, h1, rfl, h2 ▸ Below.refl _ _⟩
  · intro ρ W1 hb1 H
    exact gives_field rfl (H.old 7 _ (by kernel_rfl) rfl) (fun W => pairs_at0 W _) ⟨rfl, Below.refl _ _⟩
  · intro ρ W1 hb1 H
    exact gives_load rfl (H.new 16 7 (by kernel_rfl)) Tryz.underlying75 rfl ((hb1.cell HLB.out).trans HCG.out) ⟨rfl, Below.refl _ _⟩
  · intro ρ W1 hb1 H
    have e0 : ρ (.tmp 17) = .slice Ag ng cg := H.new 17 8 (by kernel_rfl)
    refine gives_call rfl (fun _ _ => by kernel_rfl) (H.func _) (args := #[.slice Ag ng cg]) (by simp [e0]) ?_
    exact (HMG.out W1 (HVG.out.below hb1)).mono fun e w' ⟨h1, h2⟩ => ⟨_, h1, rfl, h2 ▸ Below.refl _ _⟩
  · intro ρ W1 hb1 H
    exact gives_max rfl (H.const _) (H.new 18 9 (by kernel_rfl)) HMX.out ⟨rfl, Below.refl _ _⟩
  · intro ρ W1 hb1 H
    exact gives_field rfl (H.old 7 _ (by kernel_rfl) rfl) (fun W => pairs_at0 W _) ⟨rfl, Below.refl _ _⟩
  · intro ρ W1 hb1 H
    exact gives_load rfl (H.new 20 11 (by kernel_rfl)) Tryz.underlying75 rfl ((hb1.cell HLB.out).trans HCG.out) ⟨rfl, Below.refl _ _⟩
  · intro ρ W1 hb1 H
    exact gives_len elemU.under rfl (H.new 21 12 (by kernel_rfl)) ⟨rfl, Below.refl _ _⟩
  · intro ρ W1 hb1 H
    exact gives_shape rfl (H.new 9 0 (by kernel_rfl)) (H.new 10 1 (by kernel_rfl)) (H.new 11 2 (by kernel_rfl)) (H.new 15 6 (by kernel_rfl)) (H.new 19 10 (by kernel_rfl)) (H.new 22 13 (by kernel_rfl)) ⟨rfl, Below.refl _ _⟩
  · intro vs W1 hb1 hfs
    have f0 : vs 0 = .int .i64 m := hfs 0 (by decide)
    have f1 : vs 1 = .int .i64 W := hfs 1 (by decide)
    have f2 : vs 2 = .int .i64 n := hfs 2 (by decide)
    have f3 : vs 3 = .pointer (some ⟨w.heap.size, 1, none⟩) := hfs 3 (by decide)
    have f4 : vs 4 = .slice Ap np cp := hfs 4 (by decide)
    have f5 : vs 5 = .int .i64 (mp : Int) := hfs 5 (by decide)
    have f6 : vs 6 = .int .i64 P := hfs 6 (by decide)
    have f7 : vs 7 = .pointer (some ⟨w.heap.size, 0, none⟩) := hfs 7 (by decide)
    have f8 : vs 8 = .slice Ag ng cg := hfs 8 (by decide)
    have f9 : vs 9 = .int .i64 (mg : Int) := hfs 9 (by decide)
    have f10 : vs 10 = .int .i64 G := hfs 10 (by decide)
    have f11 : vs 11 = .pointer (some ⟨w.heap.size, 0, none⟩) := hfs 11 (by decide)
    have f12 : vs 12 = .slice Ag ng cg := hfs 12 (by decide)
    have f13 : vs 13 = .int .i64 (ng : Int) := hfs 13 (by decide)
    have f14 : vs 14 = shv m W n P G (ng : Int) := hfs 14 (by decide)
    clear hfs
    simp only [putAll, Nat.zero_add, Nat.reduceAdd, List.drop_succ_cons, List.drop_zero]
    simp only [f0, f1, f2, f3, f4, f5, f6, f7, f8, f9, f10, f11, f12, f13, f14, Act.put, List.setIfInBounds_toArray, List.set_cons_succ, List.set_cons_zero]
    clear f0 f1 f2 f3 f4 f5 f6 f7 f8 f9 f10 f11 f12 f13 f14
    have HR1 := Lib.hid (HRZ.out.below hb1 HRZ.out.lt)
    have HB1 := Lib.hid hb1
    clear hb1
    refine wpList_storeW rfl _ _ _ rfl (w.heap.size + 1) 0 181 (shc 0 0 0 0 0 0) (shc m W n P G (ng : Int)) (shc m W n P G (ng : Int)) rfl rfl rfl HR1.out shape_size (Nat.le_refl _) (shc_one _ _ _ _ _ _) w w.heap.size (HB0.out.trans (HB1.out.mono HB0.out.size)) (Nat.le_succ _) ?_
    intro w2 hr2 hb2 _
    go_wp2
    refine ret_struct rfl rfl hr2 Tryz.underlying181 rfl shape_size rfl ?_
    exact ⟨rfl, hb2⟩
def JnRel (T : List Nat) (g b n : Nat) (vg vp : Value) (w : World) (i : Value) (wr : World) : Prop := ∃ (k : Nat) (acc : List Nat), k ≤ n ∧ i = .int .i64 (k : Int) ∧ acc = T.take k ∧ Row wr g 101 (acc.map uv ++ List.replicate (n - k) (uv 0)) ∧ Row wr b 209 [vg, vp] ∧ Below w.heap.size w wr
set_option maxHeartbeats 4000000 in
set_option maxRecDepth 100000 in
theorem joined_any (vg vp : Value) (ps : List (Nat × Nat)) (p : Nat) (w : World) (hvg : IsV uv (ps.map (·.1)) vg w) (hvp : IsV uv (ps.map (·.2)) vp w) (h1 : ∀ q ∈ ps, q.1 * 2 ^ p < 2 ^ 64) (h2 : ∀ q ∈ ps, q.2 < 2 ^ p) (hp64 : p ≤ 64) (hb : ps.length ≤ 1000000) :
    Calls Tryz.prog 192 #[pairsV vg vp, .int .i64 (p : Int)] w fun e w' => ∃ v, e = .returned v ∧ IsV uv (pboth ps p) v w' ∧ Below w.heap.size w w' := by
  obtain ⟨Ag, n, cg, rfl⟩ := hvg.shape
  obtain ⟨Ap, np, cp, rfl⟩ := hvp.shape
  have hng : ps.length = n := by rw [← hvg.parts.1, List.length_map]
  obtain rfl : np = n := by rw [← hng, ← hvp.parts.1, List.length_map]
  obtain ⟨b, hbz⟩ : ∃ b, b = w.heap.size := ⟨_, rfl⟩
  obtain ⟨w1, hw1⟩ : ∃ w1, w1 = w.alloc (.cells #[.slice Ag np cg, .slice Ap np cp] 209) := ⟨_, rfl⟩
  have q1 : Row w1 b 209 [.slice Ag np cg, .slice Ap np cp] := by rw [hw1, hbz]; exact heap_alloc_new w _
  have z1 : w1.heap.size = b + 1 := by rw [hw1, hbz]; simp
  have hb1 : Below w.heap.size w w1 := by rw [hw1]; exact (Below.refl _ _).alloc (Nat.le_refl _) _
  have hc0 : w1.cell? ⟨b, 0, none⟩ = some (.slice Ag np cg) := q1.cell 0
  have HQ1 := Lib.hid q1
  have HB1 := Lib.hid hb1
  have HN := Lib.hid hng
  have HVG := Lib.hid hvg
  have HVP := Lib.hid hvp
  have H1 := Lib.hid h1
  have H2 := Lib.hid h2
  have hn6 : np ≤ 1000000 := by omega
  rw [hw1, hbz] at hc0
  have HBZ := Lib.hid hbz
  have HW1 := Lib.hid hw1
  unfold pairsV
  clear hvg hvp h1 h2 hb hng q1 hb1 hbz hw1
  go_enter Tryz.func192, Tryz.ntmps192
  go_wp2_with (refine wpList_make elemU rfl _ _ rfl _ _ _ _ np _ (w.heap.size + 1) rfl rfl rfl rfl (by omega) (by omega) (Below.refl _ _) (by simp) ?_)
  intro w2 hr2 hb2
  rw [← HW1.out, ← HBZ.out] at hb2
  rw [← HBZ.out] at hr2
  have hz2 := hr2.lt
  have HB2 := Lib.hid (HB1.out.trans (hb2.mono (by have := HBZ.out; omega)))
  have hq2 := HQ1.out.below hb2 (Nat.lt_succ_self b)
  have hc2 : w2.cell? ⟨b, 0, none⟩ = some (.slice Ag np cg) := hq2.cell 0
  rw [← HBZ.out]
  have HS := Lib.hid (show JnRel (pboth ps p) (b + 1) b np (.slice Ag np cg) (.slice Ap np cp) w (.int .i64 0) w2 from ⟨0, [], Nat.zero_le _, rfl, rfl, by rw [Nat.sub_zero]; simpa [uv] using hr2, hq2, HB2.out⟩)
  have hbg : b ≠ b + 1 := by omega
  have hg : w.heap.size ≤ b + 1 := by have := HBZ.out; omega
  clear hr2 hb2 hq2 hc0 hz2 z1
  generalize b + 1 = g at *
  go_wp2
  clear hc2
  go_loopw [15] (JnRel (pboth ps p) g b np (.slice Ag np cg) (.slice Ap np cp) w) (fun i _ => np - (intOf i).toNat)
  case atStart => exact HS.out
  case round =>
    obtain ⟨k, acc, hk, rfl, hacc, hr, hrb, hbw⟩ := hrel
    have hpl : (pboth ps p).length = np := by unfold pboth; rw [List.length_map, HN.out]
    have HAL := Lib.hid (show acc.length = k by rw [hacc, List.length_take]; omega)
    have HB := Lib.hid hbw
    have HR := Lib.hid hr
    have HRB := Lib.hid hrb
    have HACC := Lib.hid hacc
    have HPL := Lib.hid hpl
    clear hacc hr hrb hpl
    by_cases hlt : k < np
    · have hkl : k < ps.length := by have := HN.out; omega
      have hlti : (k : Int) < (np : Int) := by omega
      have hltn : k < np := hlt
      obtain ⟨adg, hAg, _, hcg⟩ := (HVG.out.below hbw).at (k := k) (by rw [List.length_map]; exact hkl)
      obtain ⟨ad, hAp, hadlt, hcp⟩ := (HVP.out.below hbw).at (k := k) (by rw [List.length_map]; exact hkl)
      subst hAg hAp
      obtain ⟨q, hq⟩ : ∃ q, q = ps[k] := ⟨_, rfl⟩
      have hqm : q ∈ ps := by rw [hq]; exact List.getElem_mem hkl
      obtain ⟨x, hx⟩ : ∃ x, x = q.1 := ⟨_, rfl⟩
      obtain ⟨y, hy⟩ : ∃ y, y = q.2 := ⟨_, rfl⟩
      have hcx : wr.cell? (adg.add k) = some (.int .u64 (x : Int)) := by rw [hcg, List.getElem_map, ← hq, ← hx]; rfl
      have HCY := Lib.hid (show wr.cell? (ad.add k) = some (.int .u64 (y : Int)) by rw [hcp, List.getElem_map, ← hq, ← hy]; rfl)
      have HLA := Lib.hid (show (ad.add k).block < wr.heap.size by rw [add_block]; exact hadlt)
      obtain ⟨Z, hZ⟩ : ∃ Z, Z = x * 2 ^ p := ⟨_, rfl⟩
      obtain ⟨V, hV⟩ : ∃ V, V = Z + y := ⟨_, rfl⟩
      have hZ64 : Z < 18446744073709551616 := by rw [hZ, hx]; exact H1.out q hqm
      have hy2 : y < 2 ^ p := by rw [hy]; exact H2.out q hqm
      have hpp : 2 ^ p ≤ 18446744073709551616 := Nat.pow_le_pow_right (n := 2) (i := p) (j := 64) (by omega) hp64
      have HZW : Hid (IntKind.u64.wrap ((x : Int) * 2 ^ p) = (Z : Int)) := Lib.hid (by rw [show (x : Int) * 2 ^ p = (Z : Int) by rw [hZ]; simp, IntKind.wrap_u64]; omega)
      have HOR : Hid (bits .or .u64 (Z : Int) (y : Int) = (V : Int)) := Lib.hid (by
        have hj := nat_join p Z y (by rw [hZ]; exact Nat.mul_mod_left _ _) hy2
        rw [u64_or _ _ (by omega) (by omega) (by omega) (by omega), Int.toNat_natCast, Int.toNat_natCast, hj, hV])
      have HNX := Lib.hid (show acc ++ [V] = (pboth ps p).take (k + 1) by
        rw [HACC.out, List.take_succ_eq_append_getElem (by rw [HPL.out]; exact hlt)]
        congr 1
        unfold pboth
        rw [List.getElem_map, ← hq, ← hx, ← hy, ← hZ, hV])
      have HCP := Lib.hid (show wr.cell? ⟨b, 1, none⟩ = some (.slice (some ad) np cp) from HRB.out.cell 1)
      have HLB := Lib.hid HRB.out.lt
      have HADD : Hid ((⟨g, 0, none⟩ : Addr).add k = ⟨g, k, none⟩) := Lib.hid (by unfold Addr.add; split <;> simp_all)
      clear hcg hcp hq hqm hx hy hZ hV hZ64 hy2 hpp hadlt hbw
      go_wp2
      refine wp_region_list_tail 12 [.is (.slice (some ⟨g, 0, none⟩) np np), .is (.int .i64 (k : Int)), .is (.int .u64 (x : Int)), .is (.int .i64 (p : Int)), .is (.int .u64 (Z : Int)), .is (.pointer (some ⟨b, 1, none⟩)), .is (.slice (some ad) np cp), .is (.int .i64 (k : Int)), .is (.pointer (some (ad.add k))), .is (.int .u64 (y : Int)), .is (.int .u64 (V : Int)), .is (.pointer (some ⟨g, k, none⟩))] [some 20, some 21, some 22, some 23, some 24, some 25, some 26, some 27, some 28, some 29, some 30, some 31] (by kernel_rfl) (by kernel_rfl) (by kernel_rfl) (by kernel_rfl) rfl ⟨?_, ?_, ?_, ?_, ?_, ?_, ?_, ?_, ?_, ?_, ?_, ?_, trivial⟩ ?_
      · intro ρ W1 hb1 H
        exact gives_move rfl (H.old 5 _ (by kernel_rfl) rfl) ⟨rfl, Below.refl _ _⟩
      · intro ρ W1 hb1 H
        exact gives_move rfl (H.old 6 _ (by kernel_rfl) rfl) ⟨rfl, Below.refl _ _⟩
      · intro ρ W1 hb1 H
        exact gives_move rfl (H.old 7 _ (by kernel_rfl) rfl) ⟨rfl, Below.refl _ _⟩
      · intro ρ W1 hb1 H
        exact gives_move rfl (H.old 1 _ (by kernel_rfl) rfl) ⟨rfl, Below.refl _ _⟩
      · intro ρ W1 hb1 H
        exact gives_shl64 (k := p) rfl (H.new 22 2 (by kernel_rfl)) (H.new 23 3 (by kernel_rfl)) hp64 HZW.out ⟨rfl, Below.refl _ _⟩
      · intro ρ W1 hb1 H
        exact gives_field rfl (H.old 2 _ (by kernel_rfl) rfl) (fun W => pairs_at1 W _) ⟨rfl, Below.refl _ _⟩
      · intro ρ W1 hb1 H
        exact gives_load rfl (H.new 25 5 (by kernel_rfl)) Tryz.underlying75 rfl ((hb1.cell HLB.out).trans HCP.out) ⟨rfl, Below.refl _ _⟩
      · intro ρ W1 hb1 H
        exact gives_move rfl (H.old 6 _ (by kernel_rfl) rfl) ⟨rfl, Below.refl _ _⟩
      · intro ρ W1 hb1 H
        exact gives_index (k := k) elemU rfl (H.new 26 6 (by kernel_rfl)) (H.new 27 7 (by kernel_rfl)) (hltn) ⟨rfl, Below.refl _ _⟩
      · intro ρ W1 hb1 H
        exact gives_load rfl (H.new 28 8 (by kernel_rfl)) Tryz.underlying101 rfl ((hb1.cell HLA.out).trans HCY.out) ⟨rfl, Below.refl _ _⟩
      · intro ρ W1 hb1 H
        exact gives_or64 rfl (H.new 24 4 (by kernel_rfl)) (H.new 29 9 (by kernel_rfl)) HOR.out ⟨rfl, Below.refl _ _⟩
      · intro ρ W1 hb1 H
        exact gives_index (k := k) elemU rfl (H.new 20 0 (by kernel_rfl)) (H.new 21 1 (by kernel_rfl)) (hltn) ⟨congrArg (fun q => Value.pointer (some q)) (HADD.out), Below.refl _ _⟩
      · intro vs W1 hb1 hfs
        have f0 : vs 0 = .slice (some ⟨g, 0, none⟩) np np := hfs 0 (by decide)
        have f1 : vs 1 = .int .i64 (k : Int) := hfs 1 (by decide)
        have f2 : vs 2 = .int .u64 (x : Int) := hfs 2 (by decide)
        have f3 : vs 3 = .int .i64 (p : Int) := hfs 3 (by decide)
        have f4 : vs 4 = .int .u64 (Z : Int) := hfs 4 (by decide)
        have f5 : vs 5 = .pointer (some ⟨b, 1, none⟩) := hfs 5 (by decide)
        have f6 : vs 6 = .slice (some ad) np cp := hfs 6 (by decide)
        have f7 : vs 7 = .int .i64 (k : Int) := hfs 7 (by decide)
        have f8 : vs 8 = .pointer (some (ad.add k)) := hfs 8 (by decide)
        have f9 : vs 9 = .int .u64 (y : Int) := hfs 9 (by decide)
        have f10 : vs 10 = .int .u64 (V : Int) := hfs 10 (by decide)
        have f11 : vs 11 = .pointer (some ⟨g, k, none⟩) := hfs 11 (by decide)
        clear hfs
        simp only [putAll, Nat.zero_add, Nat.reduceAdd, List.drop_succ_cons, List.drop_zero]
        simp only [f0, f1, f2, f3, f4, f5, f6, f7, f8, f9, f10, f11, Act.put, List.setIfInBounds_toArray, List.set_cons_succ, List.set_cons_zero]
        clear f0 f1 f2 f3 f4 f5 f6 f7 f8 f9 f10 f11
        have hr2 := HR.out.below hb1 HR.out.lt
        have hf2 := hr2.free k
        have hcu : ∃ z, W1.cell? ⟨g, k, none⟩ = some z := by
          rw [hr2.cell]
          exact ⟨_, List.getElem?_eq_getElem (by rw [List.length_append, List.length_map, List.length_replicate]; have := HAL.out; omega)⟩
        obtain ⟨u0, hcu⟩ := hcu
        have hset := hr2.set_ k (uv V)
        rw [fill_step hltn HAL.out] at hset
        have HSET := Lib.hid hset
        have HRB1 := Lib.hid ((HRB.out.below hb1 HRB.out.lt).far (p := ⟨g, k, none⟩) hbg (uv V))
        have HB3 := Lib.hid ((HB.out.trans (hb1.mono HB.out.size)).setCell (p := ⟨g, k, none⟩) hg (uv V))
        clear hset hr2 hb1
        go_wp2
        go_roundw
        case rel => exact ⟨k + 1, _, by omega, by go_num, HNX.out, HSET.out, HRB1.out, HB3.out⟩
        case measure => simp [intOf]; omega

    · obtain rfl : k = np := by omega
      have hlti : ¬ (k : Int) < (k : Int) := by omega
      have HE := Lib.hid (show acc = pboth ps p by rw [HACC.out, List.take_of_length_le (by rw [HPL.out]; exact Nat.le_refl _)])
      have hr := HR.out
      rw [Nat.sub_self, List.replicate_zero, List.append_nil] at hr
      have HO := Lib.hid (isV_row hr HAL.out (by omega))
      rw [HE.out] at HO
      clear hr
      go_wp2
      go_ret
      exact ⟨_, rfl, HO.out, HB.out⟩
end Go.Proofs.YtblpkmmhmdpkjaaGreatDoor

/- patched's own contracts: head. Written by gen_phead.py. -/



namespace Go.Proofs.YtblpkmmhmdpkjaaGreatDoor

open Go.RowKit

def Fact.ownRow (B : Nat) (l : List UInt8) : Fact := ⟨fun v w => w.ownsRow B 5 1 v l.length (l.map bv), fun _ _ _ h hb => own_below h hb⟩
theorem two_bytes {B0 B1 : Nat} (h0 : B0 < 256) (h1 : B1 < 256) (W : World) : IsB [UInt8.ofNat B0, UInt8.ofNat B1] (.slice (some ⟨W.heap.size, 0, none⟩) 2 2) (W.alloc (.cells #[.int .u8 (B0 : Int), .int .u8 (B1 : Int)] 5)) := by
  have h := isB_new W 5 [UInt8.ofNat B0, UInt8.ofNat B1] 2 rfl (by omega)
  simp only [List.map_cons, List.map_nil] at h
  rwa [← bv_low7 h0, ← bv_low7 h1] at h
set_option maxHeartbeats 4000000 in
set_option maxRecDepth 100000 in
theorem head_own (M W n p g t : Nat) (w : World) (ht : WTab w) (hM1 : 1 ≤ M) (hM : M ≤ 512) (hW : wcode (W : Int) = (pcode W : Int)) (hW31 : pcode W ≤ 31) (hn1 : 1 ≤ n) (hn8 : n ≤ 8) (hp : wcode (p : Int) = (pcode p : Int)) (hp31 : pcode p ≤ 31) (hg1 : 1 ≤ g) (hg8 : g ≤ 8) (ht31 : t ≤ 31) :
    Calls Tryz.prog 194 #[shv M W n p g t] w (RetOwn w (dheadN 2 (pcode W) M ++ [UInt8.ofNat (32 * (n - 1) + pcode p), UInt8.ofNat (32 * (g - 1) + t)])) := by
  obtain ⟨w1, hw1⟩ : ∃ w1, w1 = w.alloc (.cells (shc M W n p g t).toArray 181) := ⟨_, rfl⟩
  have q1 : Row w1 w.heap.size 181 (shc M W n p g t) := by rw [hw1]; exact heap_alloc_new w _
  have hb1 : Below w.heap.size w w1 := by rw [hw1]; exact (Below.refl _ _).alloc (Nat.le_refl _) _
  have HB0 := Lib.hid hb1
  have HLB := Lib.hid q1.lt
  have HC0 := Lib.hid (show w1.cell? ⟨w.heap.size, 0, none⟩ = some (.int .i64 (M : Int)) from q1.cell 0)
  have HC1 := Lib.hid (show w1.cell? ⟨w.heap.size, 1, none⟩ = some (.int .i64 (W : Int)) from q1.cell 1)
  have HC2 := Lib.hid (show w1.cell? ⟨w.heap.size, 2, none⟩ = some (.int .i64 (n : Int)) from q1.cell 2)
  have HC3 := Lib.hid (show w1.cell? ⟨w.heap.size, 3, none⟩ = some (.int .i64 (p : Int)) from q1.cell 3)
  have HC4 := Lib.hid (show w1.cell? ⟨w.heap.size, 4, none⟩ = some (.int .i64 (g : Int)) from q1.cell 4)
  have HC5 := Lib.hid (show w1.cell? ⟨w.heap.size, 5, none⟩ = some (.int .i64 (t : Int)) from q1.cell 5)
  have HT := Lib.hid (ht.below hb1 ht.lt)
  obtain ⟨cW, hcW⟩ : ∃ cW, cW = pcode W := ⟨_, rfl⟩
  obtain ⟨cp, hcp⟩ : ∃ cp, cp = pcode p := ⟨_, rfl⟩
  have HCW := Lib.hid (fun X (h : WTab X) => code_any (W : Int) X h)
  have HCD := Lib.hid (fun X (h : WTab X) => code_any (p : Int) X h)
  rw [hW, ← hcW] at HCW
  rw [hp, ← hcp] at HCD
  rw [← hcW] at hW31 ⊢
  rw [← hcp] at hp31 ⊢
  obtain ⟨hd, hhd⟩ : ∃ hd, hd = dheadN 2 cW M := ⟨_, rfl⟩
  have HHD := Lib.hid (fun X (h : WTab X) => dhead_own 2 (cW : Int) (M : Int) X h (by unfold inInt; omega) (by unfold inInt; omega) (by unfold inInt; omega))
  rw [show (2 : Int) = ((2 : Nat) : Int) from rfl, dhead_in (by omega) hW31 hM1 hM, ← hhd] at HHD
  rw [show ((2 : Nat) : Int) = (2 : Int) from rfl] at HHD
  have HHL := Lib.hid (show hd.length = 2 by rw [hhd, dheadN_len])
  obtain ⟨n1, hn1e⟩ : ∃ n1, n1 = n - 1 := ⟨_, rfl⟩
  obtain ⟨g1, hg1e⟩ : ∃ g1, g1 = g - 1 := ⟨_, rfl⟩
  obtain ⟨n32, hn32⟩ : ∃ n32, n32 = n1 * 32 := ⟨_, rfl⟩
  obtain ⟨g32, hg32⟩ : ∃ g32, g32 = g1 * 32 := ⟨_, rfl⟩
  obtain ⟨B0, hB0⟩ : ∃ B0, B0 = n32 + cp := ⟨_, rfl⟩
  obtain ⟨B1, hB1⟩ : ∃ B1, B1 = g32 + t := ⟨_, rfl⟩
  rw [show 32 * (n - 1) + cp = B0 by omega, show 32 * (g - 1) + t = B1 by omega, ← hhd]
  have HN1 := Lib.hid (show (n : Int) - 1 = (n1 : Int) by omega)
  have HG1 := Lib.hid (show (g : Int) - 1 = (g1 : Int) by omega)
  have HN32 := Lib.hid (show IntKind.i64.wrap ((n1 : Int) * 32) = (n32 : Int) by rw [IntKind.wrap_i64]; omega)
  have HG32 := Lib.hid (show IntKind.i64.wrap ((g1 : Int) * 32) = (g32 : Int) by rw [IntKind.wrap_i64]; omega)
  have HOR0 := Lib.hid (show bits .or .i64 (n32 : Int) (cp : Int) = (B0 : Int) by rw [hB0]; exact or_i64 5 n32 cp (by omega) (by omega) (by omega))
  have HOR1 := Lib.hid (show bits .or .i64 (g32 : Int) (t : Int) = (B1 : Int) by rw [hB1]; exact or_i64 5 g32 t (by omega) (by omega) (by omega))
  have HU0 := Lib.hid (show IntKind.u8.wrap (B0 : Int) = (B0 : Int) by rw [IntKind.wrap_u8]; omega)
  have HU1 := Lib.hid (show IntKind.u8.wrap (B1 : Int) = (B1 : Int) by rw [IntKind.wrap_u8]; omega)
  have HB0l := Lib.hid (show B0 < 256 by omega)
  have HB1l := Lib.hid (show B1 < 256 by omega)
  unfold shc at hw1
  unfold shv shc
  clear ht q1 hb1 hcW hcp hhd hn1e hg1e hn32 hg32 hB0 hB1 hW hp
  go_enter Tryz.func194, Tryz.ntmps194
  go_wp2
  rw [← hw1]
  clear hw1
  refine wp_region_list_tail 24 [.is (.pointer (some ⟨w.heap.size, 1, none⟩)), .is (.int .i64 (W : Int)), .is (.int .i64 (cW : Int)), .is (.pointer (some ⟨w.heap.size, 0, none⟩)), .is (.int .i64 (M : Int)), .ownRow w.heap.size hd, .is (.pointer (some ⟨w.heap.size, 2, none⟩)), .is (.int .i64 (n : Int)), .is (.int .i64 (n1 : Int)), .is (.int .i64 (n32 : Int)), .is (.pointer (some ⟨w.heap.size, 3, none⟩)), .is (.int .i64 (p : Int)), .is (.int .i64 (cp : Int)), .is (.int .i64 (B0 : Int)), .is (.int .u8 (B0 : Int)), .is (.pointer (some ⟨w.heap.size, 4, none⟩)), .is (.int .i64 (g : Int)), .is (.int .i64 (g1 : Int)), .is (.int .i64 (g32 : Int)), .is (.pointer (some ⟨w.heap.size, 5, none⟩)), .is (.int .i64 (t : Int)), .is (.int .i64 (B1 : Int)), .is (.int .u8 (B1 : Int)), .bytes ([UInt8.ofNat B0, UInt8.ofNat B1])] [some 3, some 4, some 5, some 6, some 7, some 8, some 9, some 10, some 11, some 12, some 13, some 14, some 15, some 16, some 17, some 18, some 19, some 20, some 21, some 22, some 23, some 24, some 25, some 26] (by kernel_rfl) (by kernel_rfl) (by kernel_rfl) (by kernel_rfl) rfl ⟨?_, ?_, ?_, ?_, ?_, ?_, ?_, ?_, ?_, ?_, ?_, ?_, ?_, ?_, ?_, ?_, ?_, ?_, ?_, ?_, ?_, ?_, ?_, ?_, trivial⟩ ?_
  · intro ρ W1 hb1 H
    exact gives_field rfl (H.old 1 _ (by kernel_rfl) rfl) (fun W => shape_at1 W _) ⟨rfl, Below.refl _ _⟩
  · intro ρ W1 hb1 H
    exact gives_load rfl (H.new 3 0 (by kernel_rfl)) Tryz.underlying3 rfl ((hb1.cell HLB.out).trans HC1.out) ⟨rfl, Below.refl _ _⟩
  · intro ρ W1 hb1 H
    have e0 : ρ (.tmp 4) = .int .i64 (W : Int) := H.new 4 1 (by kernel_rfl)
    refine gives_call rfl (fun _ _ => by kernel_rfl) (H.func _) (args := #[.int .i64 (W : Int)]) (by simp [e0]) ?_
    exact (HCW.out W1 (HT.out.below hb1 HT.out.lt)).mono fun e w' ⟨h1, h2⟩ => ⟨_, h1, rfl, h2 ▸ Below.refl _ _⟩
  · intro ρ W1 hb1 H
    exact gives_field rfl (H.old 1 _ (by kernel_rfl) rfl) (fun W => shape_at0 W _) ⟨rfl, Below.refl _ _⟩
  · intro ρ W1 hb1 H
    exact gives_load rfl (H.new 6 3 (by kernel_rfl)) Tryz.underlying3 rfl ((hb1.cell HLB.out).trans HC0.out) ⟨rfl, Below.refl _ _⟩
  · intro ρ W1 hb1 H
    have e1 : ρ (.tmp 5) = .int .i64 (cW : Int) := H.new 5 2 (by kernel_rfl)
    have e2 : ρ (.tmp 7) = .int .i64 (M : Int) := H.new 7 4 (by kernel_rfl)
    refine gives_call rfl (fun _ _ => by kernel_rfl) (H.func _) (args := #[.int .i64 2, .int .i64 (cW : Int), .int .i64 (M : Int)]) (by simp [H.const, e1, e2]) ?_
    exact (HHD.out W1 (HT.out.below hb1 HT.out.lt)).mono fun e w' ⟨v, h1, h2, h3⟩ => ⟨v, h1, own_base (Nat.le_trans HB0.out.size hb1.size) h2, h3⟩
  · intro ρ W1 hb1 H
    exact gives_field rfl (H.old 1 _ (by kernel_rfl) rfl) (fun W => shape_at2 W _) ⟨rfl, Below.refl _ _⟩
  · intro ρ W1 hb1 H
    exact gives_load rfl (H.new 9 6 (by kernel_rfl)) Tryz.underlying3 rfl ((hb1.cell HLB.out).trans HC2.out) ⟨rfl, Below.refl _ _⟩
  · intro ρ W1 hb1 H
    exact gives_sub rfl (H.new 10 7 (by kernel_rfl)) (H.const _) (by omega) (by omega) ⟨congrArg (Value.int .i64) HN1.out, Below.refl _ _⟩
  · intro ρ W1 hb1 H
    exact gives_shl5 rfl (H.new 11 8 (by kernel_rfl)) (H.const _) HN32.out ⟨rfl, Below.refl _ _⟩
  · intro ρ W1 hb1 H
    exact gives_field rfl (H.old 1 _ (by kernel_rfl) rfl) (fun W => shape_at3 W _) ⟨rfl, Below.refl _ _⟩
  · intro ρ W1 hb1 H
    exact gives_load rfl (H.new 13 10 (by kernel_rfl)) Tryz.underlying3 rfl ((hb1.cell HLB.out).trans HC3.out) ⟨rfl, Below.refl _ _⟩
  · intro ρ W1 hb1 H
    have e0 : ρ (.tmp 14) = .int .i64 (p : Int) := H.new 14 11 (by kernel_rfl)
    refine gives_call rfl (fun _ _ => by kernel_rfl) (H.func _) (args := #[.int .i64 (p : Int)]) (by simp [e0]) ?_
    exact (HCD.out W1 (HT.out.below hb1 HT.out.lt)).mono fun e w' ⟨h1, h2⟩ => ⟨_, h1, rfl, h2 ▸ Below.refl _ _⟩
  · intro ρ W1 hb1 H
    exact gives_orI rfl (H.new 12 9 (by kernel_rfl)) (H.new 15 12 (by kernel_rfl)) HOR0.out ⟨rfl, Below.refl _ _⟩
  · intro ρ W1 hb1 H
    exact gives_conv rfl (H.new 16 13 (by kernel_rfl)) (by kernel_rfl) Tryz.underlying5 HU0.out ⟨rfl, Below.refl _ _⟩
  · intro ρ W1 hb1 H
    exact gives_field rfl (H.old 1 _ (by kernel_rfl) rfl) (fun W => shape_at4 W _) ⟨rfl, Below.refl _ _⟩
  · intro ρ W1 hb1 H
    exact gives_load rfl (H.new 18 15 (by kernel_rfl)) Tryz.underlying3 rfl ((hb1.cell HLB.out).trans HC4.out) ⟨rfl, Below.refl _ _⟩
  · intro ρ W1 hb1 H
    exact gives_sub rfl (H.new 19 16 (by kernel_rfl)) (H.const _) (by omega) (by omega) ⟨congrArg (Value.int .i64) HG1.out, Below.refl _ _⟩
  · intro ρ W1 hb1 H
    exact gives_shl5 rfl (H.new 20 17 (by kernel_rfl)) (H.const _) HG32.out ⟨rfl, Below.refl _ _⟩
  · intro ρ W1 hb1 H
    exact gives_field rfl (H.old 1 _ (by kernel_rfl) rfl) (fun W => shape_at5 W _) ⟨rfl, Below.refl _ _⟩
  · intro ρ W1 hb1 H
    exact gives_load rfl (H.new 22 19 (by kernel_rfl)) Tryz.underlying3 rfl ((hb1.cell HLB.out).trans HC5.out) ⟨rfl, Below.refl _ _⟩
  · intro ρ W1 hb1 H
    exact gives_orI rfl (H.new 21 18 (by kernel_rfl)) (H.new 23 20 (by kernel_rfl)) HOR1.out ⟨rfl, Below.refl _ _⟩
  · intro ρ W1 hb1 H
    exact gives_conv rfl (H.new 24 21 (by kernel_rfl)) (by kernel_rfl) Tryz.underlying5 HU1.out ⟨rfl, Below.refl _ _⟩
  · intro ρ W1 hb1 H
    exact gives_two elemB rfl (H.new 17 14 (by kernel_rfl)) (H.new 25 22 (by kernel_rfl)) rfl rfl ⟨two_bytes HB0l.out HB1l.out W1, (Below.refl _ _).alloc (Nat.le_refl _) _⟩
  · intro vs W1 hb1 hfs
    have f5 : W1.ownsRow w.heap.size 5 1 (vs 5) hd.length (hd.map bv) := hfs 5 (by decide)
    have f23 : IsB ([UInt8.ofNat B0, UInt8.ofNat B1]) (vs 23) W1 := hfs 23 (by decide)
    clear hfs
    simp only [putAll, Nat.zero_add, Nat.reduceAdd, List.drop_succ_cons, List.drop_zero]
    generalize vs 0 = z0
    generalize vs 1 = z1
    generalize vs 2 = z2
    generalize vs 3 = z3
    generalize vs 4 = z4
    generalize vs 5 = z5 at f5 ⊢
    generalize vs 6 = z6
    generalize vs 7 = z7
    generalize vs 8 = z8
    generalize vs 9 = z9
    generalize vs 10 = z10
    generalize vs 11 = z11
    generalize vs 12 = z12
    generalize vs 13 = z13
    generalize vs 14 = z14
    generalize vs 15 = z15
    generalize vs 16 = z16
    generalize vs 17 = z17
    generalize vs 18 = z18
    generalize vs 19 = z19
    generalize vs 20 = z20
    generalize vs 21 = z21
    generalize vs 22 = z22
    generalize vs 23 = z23 at f23 ⊢
    simp only [Act.put, List.setIfInBounds_toArray, List.set_cons_succ, List.set_cons_zero]
    obtain ⟨A5, c5, rfl, hA5, hnc5, hcm5, hl5⟩ := f23
    have HL5 := Lib.hid hl5
    have HO5 := Lib.hid f5
    have HBB := Lib.hid (HB0.out.trans (hb1.mono HB0.out.size))
    have hz5 := HBB.out.size
    clear hl5 f5 hb1 hcm5
    go_wp2_with (at_builtin; refine wpList_join elemB rfl _ _ rfl w.heap.size z5 hd.length (hd.map bv) A5 2 c5 ([UInt8.ofNat B0, UInt8.ofNat B1].map bv) w rfl rfl hA5 (by simp) HL5.out (bv_one _) HO5.out HBB.out hz5 (by have := HHL.out; omega) (by omega) ?_)
    intro v6 w6 ho6 hb6 _ _
    have HO6 := Lib.hid ho6
    clear ho6
    go_wp2
    go_ret
    refine ⟨_, rfl, ?_, hb6⟩
    rw [List.length_append, List.map_append]
    exact HO6.out
end Go.Proofs.YtblpkmmhmdpkjaaGreatDoor

/- Bytes and rows outlast what is written elsewhere. Over any program. -/





namespace Go.Proofs.YtblpkmmhmdpkjaaGreatDoor

open Go.RowKit

end Go.Proofs.YtblpkmmhmdpkjaaGreatDoor

/- patched's own contracts: look. Written by gen_plook.py. -/





namespace Go.Proofs.YtblpkmmhmdpkjaaGreatDoor

open Go.RowKit

end Go.Proofs.YtblpkmmhmdpkjaaGreatDoor

/- patched's own contract of Put. Written by gen_pput.py. -/









namespace Go.Proofs.YtblpkmmhmdpkjaaGreatDoor

open Go.RowKit

theorem lmin_pbase {l : List Int} (h : 1 ≤ l.length) : lmin l = pbase l := by
  cases l with
  | nil => simp at h
  | cons x l =>
    show l.foldl min x = (x :: l).foldl min x
    rw [List.foldl_cons, Int.min_self]
theorem pplain_neg {l : List Int} (h1 : 1 ≤ l.length) (h : pbase l < 0) : dplain l false = none := omap_none (pbase_mem h1) (by unfold eplain; rw [if_neg (by decide), if_neg (by omega)])
theorem pplain_some {l : List Int} {s : Bool} (h : s = true ∨ ∀ x ∈ l, 0 ≤ x) : dplain l s ≠ none := by
  unfold dplain
  induction l with
  | nil => simp [omap]
  | cons x l ih =>
    have h1 : ∃ u, eplain x s = some u := by
      unfold eplain
      rcases h with h | h
      · rw [if_pos h]; exact ⟨_, rfl⟩
      · have := h x List.mem_cons_self
        split
        · exact ⟨_, rfl⟩
        · first | exact ⟨_, rfl⟩ | (rw [if_pos this]; exact ⟨_, rfl⟩)
    obtain ⟨u, hu⟩ := h1
    have h2 := ih (h.imp id fun h y hy => h y (List.mem_cons_of_mem _ hy))
    rw [omap, hu]
    dsimp only
    cases hr : omap (eplain · s) l with
    | none => exact absurd hr h2
    | some r => simp
theorem wclose_one (n : Nat) : wclosest (n : Int) = wclosest ((max 1 n : Nat) : Int) := by
  by_cases h : n = 0
  · subst h; decide
  · rw [show max 1 n = n by omega]
def Fact.packed (l : List UInt8) : Fact := ⟨fun v w => ∃ b, v = .tuple #[b, .int .i64 0] ∧ IsB l b w, fun _ _ _ ⟨b, h1, h2⟩ hb => ⟨b, h1, h2.below hb⟩⟩
set_option maxHeartbeats 16000000 in
set_option maxRecDepth 100000 in
theorem pput_own (l : List Int) (v : Value) (Wi : Int) (s : Bool) (w : World) (ht : WTab w) (hv : IsV iv l v w) (hl : ∀ x ∈ l, inInt x) (hb : l.length ≤ 1000000) :
    Calls Tryz.prog 159 #[v, .int .i64 Wi, .bool s] w (RetEO w (pputE l Wi s)) := by
  obtain ⟨A, n, c, rfl⟩ := hv.shape
  have hn := hv.parts.1
  have HN := Lib.hid hn
  have HV := Lib.hid hv
  have HL := Lib.hid hl
  have HT := Lib.hid ht
  by_cases hc : 1 ≤ n ∧ n ≤ 512
  case neg =>
    have hE := Lib.hid (pputE_no (l := l) (W := Wi) (s := s) (by omega))
    have HC := Lib.hid (pcount_no (n : Int) w (by omega))
    clear hv hn hl hb ht hc
    go_enter Tryz.func159, Tryz.ntmps159
    go_wp2_with (go_at_call 185; refine HC.out.mono ?_; rintro e w' ⟨rfl, rfl⟩)
    go_ret2
    rw [hE.out]
    exact RetEO.nil _ (Below.refl _ _)
  case pos =>
  obtain ⟨hn1, hn5⟩ := hc
  have HC := Lib.hid (pcount_yes (n : Int) w (by omega) (by omega))
  have HI := Lib.hid (pisw_any Wi w ht)
  by_cases hwd : Wi < 64 ∧ 0 ≤ wcode Wi
  case neg =>
    have hE := Lib.hid (pputE_no (l := l) (W := Wi) (s := s) (by omega))
    rw [show (decide (Wi < 64) && decide (0 ≤ wcode Wi)) = false by simpa using hwd] at HI
    clear hv hn hl hb ht hwd
    go_enter Tryz.func159, Tryz.ntmps159
    go_wp2_with (first | (go_at_call 185; refine HC.out.mono ?_; rintro e w' ⟨rfl, rfl⟩) | (go_at_call 186; refine HI.out.mono ?_; rintro e w' ⟨rfl, rfl⟩))
    go_ret2
    rw [hE.out]
    exact RetEO.nil _ (Below.refl _ _)
  case pos =>
  rw [show (decide (Wi < 64) && decide (0 ≤ wcode Wi)) = true by simpa using hwd] at HI
  obtain ⟨W, rfl⟩ : ∃ W : Nat, Wi = (W : Int) := ⟨Wi.toNat, by have := wcode_range hwd.2; omega⟩
  have HMI := Lib.hid (min_any l _ w hv (by omega) hb)
  rw [lmin_pbase (by omega)] at HMI
  have hbi : inInt (pbase l) := hl _ (pbase_mem (by omega))
  have hW64 : W < 64 := by omega
  have HWC := Lib.hid (pcode_back hwd.2)
  have HW0 := Lib.hid hwd.2
  obtain ⟨base, hba⟩ : ∃ base, base = pbase l := ⟨_, rfl⟩
  by_cases hne : base = -9223372036854775808
  case pos =>
    have hE : Hid (pputE l (W : Int) s = ([], 1)) := Lib.hid (by
      unfold pputE
      split
      · rfl
      · split
        · rfl
        · rw [if_pos (.inl (by rw [← hba]; exact hne))])
    rw [← hba, hne] at HMI
    have HD := Lib.hid (fun X => digits_no X)
    clear hv hn hl hb ht hwd hbi hba hne
    go_enter Tryz.func159, Tryz.ntmps159
    go_wp2_with (first | (go_at_call 185; refine HC.out.mono ?_; rintro e w' ⟨rfl, rfl⟩) | (go_at_call 186; refine HI.out.mono ?_; rintro e w' ⟨rfl, rfl⟩) | (go_at_call 148; refine HMI.out.mono ?_; rintro e w' ⟨rfl, rfl⟩))
    refine (HD.out _).mono ?_
    rintro e w1 ⟨rfl, hb1⟩
    go_wp2
    go_ret2
    rw [hE.out]
    exact RetEO.nil _ hb1
  case neg =>
  have HD := Lib.hid (fun X => digits_yes base X (by rw [hba]; exact hbi) hne)
  have HBI := Lib.hid (show inInt base by rw [hba]; exact hbi)
  obtain ⟨hm1, hm8, _⟩ := pn_bd (psize_base HBI.out hne).2
  rw [← hba] at HMI
  by_cases hng : base < 0 ∧ s = false
  case pos =>
    obtain ⟨hng, rfl⟩ := hng
    have hE := Lib.hid (pputE_no (l := l) (W := (W : Int)) (s := false) (.inl (pplain_neg (by omega) (by rw [← hba]; exact hng))))
    have d1 : decide (base < 0) = true := decide_eq_true hng
    clear hv hn hl hb ht hwd hbi hba hne hng
    go_enter Tryz.func159, Tryz.ntmps159
    go_wp2_with (first | (go_at_call 185; refine HC.out.mono ?_; rintro e w' ⟨rfl, rfl⟩) | (go_at_call 186; refine HI.out.mono ?_; rintro e w' ⟨rfl, rfl⟩) | (go_at_call 148; refine HMI.out.mono ?_; rintro e w' ⟨rfl, rfl⟩))
    refine (HD.out _).mono ?_
    rintro e w1 ⟨g1, rfl, hg1, hr1, hb1⟩
    go_wp2
    go_ret2
    rw [hE.out]
    exact RetEO.nil _ hb1
  case neg =>
  have HNE := Lib.hid hne
  have hcase : decide (base < 0) = false ∨ (decide (base < 0) = true ∧ s = true) := by
    by_cases h : base < 0
    · exact .inr ⟨decide_eq_true h, by cases s with | true => rfl | false => exact absurd ⟨h, rfl⟩ hng⟩
    · exact .inl (decide_eq_false h)
  have HPL := Lib.hid (show dplain l s ≠ none from pplain_some (by
    rcases hcase with h | ⟨_, h⟩
    · exact .inr fun x hx => by have h1 := pbase_le hx; rw [← hba] at h1; have h2 := of_decide_eq_false h; omega
    · exact .inl h))
  have HSZ := Lib.hid (fun X (h : IsV iv l (.slice A n c) X) => sizes_any base l _ X h HBI.out hl hb)
  rw [show omap (pone base) l = pups l by rw [hba]; rfl] at HSZ
  cases hu : pups l with
  | none =>
    have hE := Lib.hid (pputE_ups (W := (W : Int)) (s := s) hu)
    rw [hu] at HSZ
    clear hv hn hl hb ht hwd hbi hba hne hng hu
    rcases hcase with d1 | ⟨d1, rfl⟩
    all_goals
      go_enter Tryz.func159, Tryz.ntmps159
      go_wp2_with (first | (go_at_call 185; refine HC.out.mono ?_; rintro e w' ⟨rfl, rfl⟩) | (go_at_call 186; refine HI.out.mono ?_; rintro e w' ⟨rfl, rfl⟩) | (go_at_call 148; refine HMI.out.mono ?_; rintro e w' ⟨rfl, rfl⟩))
      refine (HD.out _).mono ?_
      rintro e w1 ⟨g1, rfl, hg1, hr1, hb1⟩
      have HB1 := Lib.hid hb1
      clear hr1
      go_wp2_with fail
      refine (HSZ.out _ (HV.out.below hb1)).mono ?_
      rintro e w2 ⟨rfl, hb2⟩
      go_wp2
      go_ret2
      rw [hE.out]
      exact RetEO.nil _ (below_then HB1.out hb2)
  | some us =>
  have HES := Lib.hid (pputE_some (s := s) HPL.out (by omega) (by omega) hwd.2 hW64 hu)
  have HUL := Lib.hid (show us.length = n by rw [pups_len hu]; exact hn)
  have H64 : Hid (∀ u ∈ us, u < 2 ^ 64) := Lib.hid fun u h => by have := pups_lt hl hu u h; show u < 18446744073709551616; omega
  rw [← hba] at HES
  rw [hu] at HSZ
  obtain ⟨g1', g8', p1', p64', pc, pcc, p31', _, hq⟩ := ppairs_ok (w := W) H64.out
  have hq2 := (ppw_ok (w := W) H64.out).2.2
  have hpl := pst_len W us us.length
  have hpl2 := pst_last W us us.length
  obtain ⟨ps, hps⟩ : ∃ ps, ps = ppairs W us := ⟨_, rfl⟩
  rw [show (pst W us us.length).1 = ps from hps.symm] at hpl
  rw [← hps] at g1' g8' p1' p64' pc pcc p31' hq hq2 HES
  have HCUT := Lib.hid (fun X g (h : Row X g 101 (us.map uv)) => cut_any us W g n X h HUL.out H64.out (by omega) (by omega))
  unfold CutPost at HCUT
  rw [← hps] at HCUT
  obtain ⟨t, htl⟩ : ∃ t, t = ps.length := ⟨_, rfl⟩
  have ht1030 : t ≤ 1030 := by have := HUL.out; omega
  obtain ⟨m, hm⟩ : ∃ m, m = pn base := ⟨_, rfl⟩
  have HSO := Lib.hid (fun X vg vp (h : WTab X) (h1 : IsV uv (ps.map (·.1)) vg X) (h2 : IsV uv (ps.map (·.2)) vp X) => shapeof_any (n : Int) (W : Int) (m : Int) vg vp ps X h h1 h2 (fun q h => Nat.lt_of_le_of_lt (hq2 q h).1 (by decide)) (fun q h => (hq2 q h).2) (by omega))
  rw [wclose_one, pc] at HSO
  obtain ⟨G, hG⟩ : ∃ G, G = pgw ps := ⟨_, rfl⟩
  obtain ⟨P, hP⟩ : ∃ P, P = ppw ps := ⟨_, rfl⟩
  rw [← hG] at g1' g8' HES HSO hq
  rw [← hP] at p1' p64' pcc p31' HES HSO hq
  rw [← htl] at HES HSO
  have HPC := Lib.hid pcc
  have HQ := Lib.hid hq
  have HTL := Lib.hid htl
  have HPS := Lib.hid hps
  have HGE := Lib.hid hG
  have HPE := Lib.hid hP
  have HME := Lib.hid hm
  unfold RetDg at HD
  rw [← hm] at hm1 hm8 HD
  unfold pairsV at HSO
  clear hv hn hl hb ht hwd hbi hba hne hng hu hpl hpl2 hq hq2 htl hps hG hP hm pc pcc
  rcases hcase with d1 | ⟨d1, rfl⟩
  all_goals
    go_enter Tryz.func159, Tryz.ntmps159
    go_wp2_with (first | (go_at_call 185; refine HC.out.mono ?_; rintro e w' ⟨rfl, rfl⟩) | (go_at_call 186; refine HI.out.mono ?_; rintro e w' ⟨rfl, rfl⟩) | (go_at_call 148; refine HMI.out.mono ?_; rintro e w' ⟨rfl, rfl⟩))
    refine (HD.out _).mono ?_
    rintro e w1 ⟨gd, rfl, hgd, hr1, hb1⟩
    have HB1 := Lib.hid hb1
    have HR1 := Lib.hid hr1
    have HV1 := Lib.hid (HV.out.below hb1)
    clear hr1 hb1
    go_wp2_with fail
    refine (HSZ.out _ HV1.out).mono ?_
    rintro e w2 ⟨g2, rfl, hg2, hr2, hb2⟩
    rw [HUL.out]
    have HB2 := Lib.hid (HB1.out.trans (hb2.mono HB1.out.size))
    have HR2 := Lib.hid hr2
    have HDL := Lib.hid (show gd < g2 from Nat.lt_of_lt_of_le HR1.out.lt hg2)
    have HD2 := Lib.hid (HR1.out.below hb2 HR1.out.lt)
    have HG2 := Lib.hid (show w.heap.size ≤ g2 from Nat.le_trans HB1.out.size hg2)
    clear hr2 hb2
    go_wp2_with fail
    refine (HCUT.out _ _ HR2.out).mono ?_
    rintro e w3 ⟨u3, v3, rfl, hu3, hv3, hr3, hb3⟩
    obtain ⟨Ag, t1, cg, rfl⟩ := hu3.shape
    obtain ⟨Ap, t2, cp, rfl⟩ := hv3.shape
    obtain rfl : t = t1 := by have := hu3.parts.1; rw [List.length_map] at this; have := HTL.out; omega
    obtain rfl : t = t2 := by have := hv3.parts.1; rw [List.length_map] at this; have := HTL.out; omega
    have HB3 := Lib.hid (HB2.out.trans (hb3.mono HG2.out))
    have HD3 := Lib.hid (HD2.out.below hb3 HDL.out)
    have HS3 := Lib.hid hr3
    have HT3 := Lib.hid (HT.out.below HB3.out HT.out.lt)
    have HU3 := Lib.hid hu3
    have HV3 := Lib.hid hv3
    clear hr3 hu3 hv3 hb3
    obtain ⟨pb, hpb⟩ : ∃ pb, pb = w3.heap.size := ⟨_, rfl⟩
    obtain ⟨w4, hw4⟩ : ∃ w4, w4 = w3.alloc (.cells #[.slice Ag t cg, .slice Ap t cp] 209) := ⟨_, rfl⟩
    have hb4 : Below w3.heap.size w3 w4 := by rw [hw4]; exact (Below.refl _ _).alloc (Nat.le_refl _) _
    have hrp4 : Row w4 pb 209 [.slice Ag t cg, .slice Ap t cp] := by rw [hw4, hpb]; exact heap_alloc_new w3 _
    unfold pairsV
    have hset4 := hw4.symm
    have HB4 := Lib.hid (HB3.out.trans (hb4.mono HB3.out.size))
    have HD4 := Lib.hid (HD3.out.below hb4 HD3.out.lt)
    have HS4 := Lib.hid (HS3.out.below hb4 HS3.out.lt)
    have HU4 := Lib.hid (HU3.out.below hb4)
    have HV4 := Lib.hid (HV3.out.below hb4)
    have HRP4 := Lib.hid hrp4
    have hp0 : w4.cell? ⟨w3.heap.size, 0, none⟩ = some (.slice Ag t cg) := by rw [← hpb]; exact hrp4.cell 0
    have hp1 : w4.cell? ⟨w3.heap.size, 1, none⟩ = some (.slice Ap t cp) := by rw [← hpb]; exact hrp4.cell 1
    have HPB := Lib.hid hpb
    clear hb4 hrp4 hw4 hpb
    go_wp2_with fail
    refine (HSO.out w4 _ _ (HT.out.below HB4.out HT.out.lt) HU4.out HV4.out).mono ?_
    rintro e w5 ⟨rfl, hb5⟩
    rw [← HPB.out]
    clear hp0 hp1 hset4
    have HB5 := Lib.hid (HB4.out.trans (hb5.mono HB4.out.size))
    obtain ⟨sb, hsb⟩ : ∃ sb, sb = w5.heap.size := ⟨_, rfl⟩
    obtain ⟨w6, hw6⟩ : ∃ w6, w6 = w5.alloc (.cells (shc (n : Int) (W : Int) (m : Int) (P : Int) (G : Int) (t : Int)).toArray 181) := ⟨_, rfl⟩
    have hb6 : Below w4.heap.size w4 w6 := by rw [hw6]; exact hb5.alloc hb5.size _
    have hrs6 : Row w6 sb 181 (shc (n : Int) (W : Int) (m : Int) (P : Int) (G : Int) (t : Int)) := by rw [hw6, hsb]; exact heap_alloc_new w5 _
    have hset6 := hw6.symm
    unfold shc at hset6
    have HB6 := Lib.hid (HB4.out.trans (hb6.mono HB4.out.size))
    have HD6 := Lib.hid (HD4.out.below hb6 HD4.out.lt)
    have HS6 := Lib.hid (HS4.out.below hb6 HS4.out.lt)
    have HU6 := Lib.hid (HU4.out.below hb6)
    have HV6 := Lib.hid (HV4.out.below hb6)
    have HRP6 := Lib.hid (HRP4.out.below hb6 HRP4.out.lt)
    have HRS6 := Lib.hid hrs6
    have hc0 : w6.cell? ⟨sb, 0, none⟩ = some (.int .i64 (n : Int)) := hrs6.cell 0
    have hc1 : w6.cell? ⟨sb, 1, none⟩ = some (.int .i64 (W : Int)) := hrs6.cell 1
    have hc2 : w6.cell? ⟨sb, 2, none⟩ = some (.int .i64 (m : Int)) := hrs6.cell 2
    have hc3 : w6.cell? ⟨sb, 3, none⟩ = some (.int .i64 (P : Int)) := hrs6.cell 3
    have hc4 : w6.cell? ⟨sb, 4, none⟩ = some (.int .i64 (G : Int)) := hrs6.cell 4
    have hc5 : w6.cell? ⟨sb, 5, none⟩ = some (.int .i64 (t : Int)) := hrs6.cell 5
    rw [hsb] at hc0 hc1 hc2 hc3 hc4 hc5
    have HSB := Lib.hid hsb
    unfold shv shc
    clear hb5 hb6 hrs6 hw6 hsb
    by_cases h31 : 31 < t
    case pos =>
      have hE : Hid (pputE l (W : Int) _ = ([], 1)) := Lib.hid (by rw [HES.out, if_pos (.inr (.inl h31))])
      have d5 : decide ((31 : Int) < (t : Int)) = true := decide_eq_true (by omega)
      go_wp2
      go_ret2
      rw [hE.out]
      exact RetEO.nil _ HB6.out
    case neg =>
    have d5 : decide ((31 : Int) < (t : Int)) = false := decide_eq_false (by omega)
    have HRM := Lib.hid (proom_any (n : Int) (W : Int) (m : Int) (P : Int) (G : Int) (t : Int) w6 ⟨by omega, by omega⟩ ⟨by omega, by omega⟩)
    unfold shv shc at HRM
    by_cases hgp : 64 < G + P
    case pos =>
      have hE : Hid (pputE l (W : Int) _ = ([], 1)) := Lib.hid (by rw [HES.out, if_pos (.inr (.inr (.inl hgp)))])
      rw [decide_eq_false (by omega : ¬ ((G : Int) + (P : Int) ≤ 64))] at HRM
      go_wp2_with fail
      refine HRM.out.mono ?_
      rintro e w7 ⟨rfl, hb7⟩
      go_wp2
      go_ret2
      rw [hE.out]
      exact RetEO.nil _ (below_then HB6.out hb7)
    case neg =>
    rw [decide_eq_true (by omega : (G : Int) + (P : Int) ≤ 64)] at HRM
    go_wp2_with fail
    refine HRM.out.mono ?_
    rintro e w7 ⟨rfl, hb7⟩
    rw [← HSB.out]
    have hrs7 := HRS6.out.below hb7 HRS6.out.lt
    clear hc0 hc1 hc2 hc3 hc4 hc5
    have hc1 : w7.cell? ⟨sb, 1, none⟩ = some (.int .i64 (W : Int)) := hrs7.cell 1
    have hc3 : w7.cell? ⟨sb, 3, none⟩ = some (.int .i64 (P : Int)) := hrs7.cell 3
    have HB7 := Lib.hid (HB6.out.trans (hb7.mono HB6.out.size))
    have HD7 := Lib.hid (HD6.out.below hb7 HD6.out.lt)
    have HS7 := Lib.hid (HS6.out.below hb7 HS6.out.lt)
    have HU7 := Lib.hid (HU6.out.below hb7)
    have HV7 := Lib.hid (HV6.out.below hb7)
    have HRP7 := Lib.hid (HRP6.out.below hb7 HRP6.out.lt)
    have HRS7 := Lib.hid hrs7
    clear hb7 hrs7
    have hWPi : IntKind.i64.wrap ((W : Int) + (P : Int)) = (W : Int) + (P : Int) := by rw [IntKind.wrap_i64]; omega
    by_cases hwp : 64 < W + P
    case pos =>
      have hE : Hid (pputE l (W : Int) _ = ([], 1)) := Lib.hid (by rw [HES.out, if_pos (.inr (.inr (.inr hwp)))])
      have d6 : decide ((64 : Int) < (W : Int) + (P : Int)) = true := decide_eq_true (by omega)
      go_wp2
      go_ret2
      rw [hE.out]
      exact RetEO.nil _ HB7.out
    case neg =>
    have d6 : decide ((64 : Int) < (W : Int) + (P : Int)) = false := decide_eq_false (by omega)
    have hE : Hid (pputE l (W : Int) _ = (play base us W, 0)) := Lib.hid (by rw [HES.out, if_neg (by rintro (h | h | h | h) <;> first | exact HNE.out h | omega)])
    obtain ⟨pk, hpk⟩ : ∃ pk, pk = bpack (plow us W) W := ⟨_, rfl⟩
    have hplen : (plow us W).length = n := by unfold plow; rw [List.length_map, HUL.out]
    have hplt : ∀ x ∈ plow us W, x < 2 ^ W := fun x hx => by
      obtain ⟨u, _, rfl⟩ := List.mem_map.1 hx
      exact Nat.mod_lt _ (Nat.two_pow_pos W)
    have HPK := Lib.hid (pack_isO (W : Int) (show IsU (plow us W) (.slice (some ⟨g2, 0, none⟩) n n) w7 from isV_row HS7.out hplen (by omega)) (by omega) (fun x hx => Nat.lt_of_lt_of_le (hplt x hx) (Nat.pow_le_pow_right (by omega) (by omega))))
    rw [packsAny_in _ _ (by omega), packs_ok hplt, ← hpk] at HPK
    have HPKE := Lib.hid hpk
    have HPLN := Lib.hid hplen
    clear hpk hplen hplt
    go_wp2_with fail
    refine HPK.out.mono ?_
    rintro e w8 ⟨v8, rfl, ho8, hb8⟩
    have HB8 := Lib.hid (HB7.out.trans (hb8.mono HB7.out.size))
    have HK8 := Lib.hid (isB_own ho8)
    have HD8 := Lib.hid (HD7.out.below hb8 HD7.out.lt)
    have HGA := Lib.hid (HU7.out.below hb8)
    have HPA := Lib.hid (HV7.out.below hb8)
    have HRP := Lib.hid (HRP7.out.below hb8 HRP7.out.lt)
    have HRS := Lib.hid (HRS7.out.below hb8 HRS7.out.lt)
    have HT8 := Lib.hid (HT.out.below HB8.out HT.out.lt)
    have HLS := Lib.hid HRS.out.lt
    have HC3 := Lib.hid (show w8.cell? ⟨sb, 3, none⟩ = some (.int .i64 (P : Int)) from HRS.out.cell 3)
    clear ho8 hb8 hc1 hc3
    obtain ⟨V, hV⟩ : ∃ V, V = (wclosest ((G + P : Nat) : Int)).toNat := ⟨_, rfl⟩
    obtain ⟨_, V64, VGP, _, _, VE, _⟩ := pclose (n := G + P) (by omega)
    rw [← hV] at V64 VGP VE
    obtain ⟨jn, hjn⟩ : ∃ jn, jn = pboth ps P := ⟨_, rfl⟩
    obtain ⟨pj, hpj⟩ : ∃ pj, pj = bpack jn V := ⟨_, rfl⟩
    have hjl : jn.length = t := by rw [hjn]; unfold pboth; rw [List.length_map, HTL.out]
    have hjlt : ∀ x ∈ jn, x < 2 ^ V := fun x hx => Nat.lt_of_lt_of_le (pboth_lt HQ.out x (by rw [← hjn]; exact hx)) (Nat.pow_le_pow_right (by omega) VGP)
    have HJN := Lib.hid (fun X (h1 : IsV uv (ps.map (·.1)) (.slice Ag t cg) X) (h2 : IsV uv (ps.map (·.2)) (.slice Ap t cp) X) => joined_any (.slice Ag t cg) (.slice Ap t cp) ps P X h1 h2 (fun q h => by
      have h3 : q.1 * 2 ^ P < 2 ^ G * 2 ^ P := Nat.mul_lt_mul_of_pos_right (HQ.out q h).1 (Nat.two_pow_pos P)
      rw [← Nat.pow_add] at h3
      exact Nat.lt_of_lt_of_le h3 (Nat.pow_le_pow_right (by omega) (by omega))) (fun q h => (HQ.out q h).2) (by omega) (by have := HTL.out; omega))
    rw [← hjn] at HJN
    have HPW := Lib.hid (fun X (h : WTab X) => ppair_any (n : Int) (W : Int) (m : Int) (P : Int) (G : Int) (t : Int) X h ⟨by omega, by omega⟩ ⟨by omega, by omega⟩)
    rw [show wclosest ((G : Int) + (P : Int)) = (V : Int) by rw [← VE]; congr 1] at HPW
    have HPJ := Lib.hid (fun u X (h : IsV uv jn u X) => pack_is (V : Int) (show IsU jn u X from h) (by omega) (fun x hx => Nat.lt_of_lt_of_le (hjlt x hx) (Nat.pow_le_pow_right (by omega) V64)))
    rw [packsAny_in _ _ V64, packs_ok hjlt, ← hpj] at HPJ
    have HPJE := Lib.hid hpj
    have HJNE := Lib.hid hjn
    have HVE := Lib.hid hV
    have HJL := Lib.hid hjl
    clear hV hjn hpj hjl hjlt VE
    go_wp2
    refine wp_region_list [.is (pairsV (.slice Ag t cg) (.slice Ap t cp)), .is (.pointer (some ⟨sb, 3, none⟩)), .is (.int .i64 (P : Int)), .vals uv jn, .is (shv (n : Int) (W : Int) (m : Int) (P : Int) (G : Int) (t : Int)), .is (.int .i64 (V : Int)), .packed pj, .packed pj, .bytes (pj), .is (.int .i64 0), .bytes (pj), .is (.int .i64 0)] [some 87, some 88, some 89, some 90, some 91, some 92, some 93, some 86, some 94, some 95, some 16, some 15] (by kernel_rfl) (by kernel_rfl) (by kernel_rfl) rfl ⟨?_, ?_, ?_, ?_, ?_, ?_, ?_, ?_, ?_, ?_, ?_, ?_, trivial⟩ ?_
    · intro ρ W1 hb1 H
      exact gives_load_row (cs := [.slice Ag t cg, .slice Ap t cp]) rfl (H.old 12 _ (by kernel_rfl) rfl) Tryz.underlying209 rfl pairs_size (HRP.out.below hb1 HRP.out.lt) ⟨rfl, Below.refl _ _⟩
    · intro ρ W1 hb1 H
      exact gives_field rfl (H.old 13 _ (by kernel_rfl) rfl) (fun W => shape_at3 W _) ⟨rfl, Below.refl _ _⟩
    · intro ρ W1 hb1 H
      exact gives_load rfl (H.new 88 1 (by kernel_rfl)) Tryz.underlying3 rfl ((hb1.cell HLS.out).trans HC3.out) ⟨rfl, Below.refl _ _⟩
    · intro ρ W1 hb1 H
      have e0 : ρ (.tmp 87) = pairsV (.slice Ag t cg) (.slice Ap t cp) := H.new 87 0 (by kernel_rfl)
      have e1 : ρ (.tmp 89) = .int .i64 (P : Int) := H.new 89 2 (by kernel_rfl)
      refine gives_call rfl (fun _ _ => by kernel_rfl) (H.func _) (args := #[pairsV (.slice Ag t cg) (.slice Ap t cp), .int .i64 (P : Int)]) (by simp [e0, e1]) ?_
      exact (HJN.out W1 (HGA.out.below hb1) (HPA.out.below hb1)).mono fun e w' ⟨v, h1, h2, h3⟩ => ⟨v, h1, h2, h3⟩
    · intro ρ W1 hb1 H
      exact gives_load_row (cs := shc (n : Int) (W : Int) (m : Int) (P : Int) (G : Int) (t : Int)) rfl (H.old 13 _ (by kernel_rfl) rfl) Tryz.underlying181 rfl shape_size (HRS.out.below hb1 HRS.out.lt) ⟨rfl, Below.refl _ _⟩
    · intro ρ W1 hb1 H
      have e0 : ρ (.tmp 91) = shv (n : Int) (W : Int) (m : Int) (P : Int) (G : Int) (t : Int) := H.new 91 4 (by kernel_rfl)
      refine gives_call rfl (fun _ _ => by kernel_rfl) (H.func _) (args := #[shv (n : Int) (W : Int) (m : Int) (P : Int) (G : Int) (t : Int)]) (by simp [e0]) ?_
      exact (HPW.out W1 (HT8.out.below hb1 HT8.out.lt)).mono fun e w' ⟨h1, h2⟩ => ⟨_, h1, rfl, h2⟩
    · intro ρ W1 hb1 H
      have e0 : IsV uv jn (ρ (.tmp 90)) W1 := H.new 90 3 (by kernel_rfl)
      have e1 : ρ (.tmp 92) = .int .i64 (V : Int) := H.new 92 5 (by kernel_rfl)
      refine gives_call rfl (fun _ _ => by kernel_rfl) (H.func _) (args := #[ρ (.tmp 90), .int .i64 (V : Int)]) (by simp [e1]) ?_
      exact (HPJ.out _ W1 e0).mono fun e w' ⟨v, h1, h2, h3⟩ => ⟨_, h1, ⟨v, rfl, h2⟩, h3⟩
    · intro ρ W1 hb1 H
      exact gives_move rfl rfl ⟨H.new 93 6 (by kernel_rfl), Below.refl _ _⟩
    · intro ρ W1 hb1 H
      have h86 : ∃ b, ρ (.tmp 86) = .tuple #[b, .int .i64 0] ∧ IsB pj b W1 := H.new 86 7 (by kernel_rfl)
      obtain ⟨b, h1, h2⟩ := h86
      exact gives_extract rfl h1 rfl ⟨h2, Below.refl _ _⟩
    · intro ρ W1 hb1 H
      have h86 : ∃ b, ρ (.tmp 86) = .tuple #[b, .int .i64 0] ∧ IsB pj b W1 := H.new 86 7 (by kernel_rfl)
      obtain ⟨b, h1, h2⟩ := h86
      exact gives_extract rfl h1 rfl ⟨rfl, Below.refl _ _⟩
    · intro ρ W1 hb1 H
      exact gives_assign rfl rfl ⟨H.new 94 8 (by kernel_rfl), Below.refl _ _⟩
    · intro ρ W1 hb1 H
      exact gives_assign rfl (H.new 95 9 (by kernel_rfl)) ⟨rfl, Below.refl _ _⟩
    · intro vs W1 hb1 hfs
      have f10 : IsB (pj) (vs 10) W1 := hfs 10 (by decide)
      have f11 : vs 11 = .int .i64 0 := hfs 11 (by decide)
      clear hfs
      simp only [putAll, Nat.zero_add, Nat.reduceAdd]
      generalize vs 0 = z0
      generalize vs 1 = z1
      generalize vs 2 = z2
      generalize vs 3 = z3
      generalize vs 4 = z4
      generalize vs 5 = z5
      generalize vs 6 = z6
      generalize vs 7 = z7
      generalize vs 8 = z8
      generalize vs 9 = z9
      generalize vs 10 = z10 at f10 ⊢
      simp only [f11, Act.put, List.setIfInBounds_toArray, List.set_cons_succ, List.set_cons_zero]
      clear f11
      have HBJ := Lib.hid f10
      have hrow9 := HRS.out.below hb1 HRS.out.lt
      have hc0 : W1.cell? ⟨sb, 0, none⟩ = some (.int .i64 (n : Int)) := hrow9.cell 0
      have hc1 : W1.cell? ⟨sb, 1, none⟩ = some (.int .i64 (W : Int)) := hrow9.cell 1
      have hc2 : W1.cell? ⟨sb, 2, none⟩ = some (.int .i64 (m : Int)) := hrow9.cell 2
      have hc3 : W1.cell? ⟨sb, 3, none⟩ = some (.int .i64 (P : Int)) := hrow9.cell 3
      have hc4 : W1.cell? ⟨sb, 4, none⟩ = some (.int .i64 (G : Int)) := hrow9.cell 4
      have hc5 : W1.cell? ⟨sb, 5, none⟩ = some (.int .i64 (t : Int)) := hrow9.cell 5
      have HB9 := Lib.hid (HB8.out.trans (hb1.mono HB8.out.size))
      have HD9 := Lib.hid (HD8.out.below hb1 HD8.out.lt)
      have HK9 := Lib.hid (HK8.out.below hb1)
      have HT9 := Lib.hid (HT8.out.below hb1 HT8.out.lt)
      clear hrow9 f10 hb1
      have HHE := Lib.hid (head_own n W m P G t W1 HT9.out hn1 hn5 HWC.out.2.2 HWC.out.2.1 hm1 hm8 HPC.out p31' g1' g8' (by omega))
      unfold shv shc at HHE
      go_wp2_with fail
      refine HHE.out.mono ?_
      rintro e w10 ⟨v10, rfl, ho10, hb10⟩
      have HB10 := Lib.hid (HB9.out.trans (hb10.mono HB9.out.size))
      have HH10 := Lib.hid (isB_own ho10)
      have HD10 := Lib.hid (HD9.out.below hb10 HD9.out.lt)
      have HK10 := Lib.hid (HK9.out.below hb10)
      have HJ10 := Lib.hid (HBJ.out.below hb10)
      clear ho10 hb10 hc0 hc1 hc2 hc3 hc4 hc5
      obtain ⟨hd, hhd⟩ : ∃ hd, hd = dheadN 2 (pcode W) n ++ [UInt8.ofNat (32 * (m - 1) + pcode P), UInt8.ofNat (32 * (G - 1) + t)] := ⟨_, rfl⟩
      rw [← hhd] at HH10
      have HHL := Lib.hid (show hd.length = 4 by rw [hhd, List.length_append, dheadN_len]; rfl)
      have HHD := Lib.hid hhd
      clear hhd
      obtain ⟨A10, n10, c10, h10⟩ := (isB_iff.1 HH10.out).shape
      obtain ⟨A8, n8, c8, h8⟩ := (isB_iff.1 HK10.out).shape
      obtain ⟨Az, nz, cz, hz⟩ := (isB_iff.1 HJ10.out).shape
      subst h10 h8 hz
      obtain ⟨xs, hxs⟩ : ∃ xs : List (Value × List UInt8), xs = [(.slice A10 n10 c10, hd), (.slice (some ⟨gd, 0, none⟩) m m, pbased base), (.slice A8 n8 c8, pk), (.slice Az nz cz, pj)] := ⟨_, rfl⟩
      obtain ⟨w11, hw11⟩ : ∃ w11, w11 = w10.alloc (.cells #[.slice A10 n10 c10, .slice (some ⟨gd, 0, none⟩) m m, .slice A8 n8 c8, .slice Az nz cz] 38) := ⟨_, rfl⟩
      have hb11 : Below w10.heap.size w10 w11 := by rw [hw11]; exact (Below.refl _ _).alloc (Nat.le_refl _) _
      have hpkl : pk.length ≤ 5000 := by
        rw [HPKE.out, bpack_len]
        unfold bsize
        rw [HPLN.out]
        have : n * W ≤ 512 * 64 := Nat.mul_le_mul hn5 (by omega)
        omega
      have hpjl : pj.length ≤ 5000 := by
        rw [HPJE.out, bpack_len]
        unfold bsize
        rw [HJL.out]
        have : t * V ≤ 31 * 64 := Nat.mul_le_mul (by omega) V64
        omega
      have hdl : (pbased base).length = m := by rw [pbased_len, HME.out]
      have HCC := Lib.hid (concat_own xs (.slice (some ⟨w10.heap.size, 0, none⟩) 4 4) w11 (by rw [hw11, hxs]; exact isV_new (fun x : Value × List UInt8 => x.1) w10 38 _ 4 rfl (by omega)) (by
        intro x hx
        rw [hxs] at hx
        simp only [List.mem_cons, List.not_mem_nil, or_false] at hx
        rcases hx with h | h | h | h <;> subst h
        · exact HH10.out.below hb11
        · exact (isB_row HD10.out hdl (by omega)).below hb11
        · exact HK10.out.below hb11
        · exact HJ10.out.below hb11) (by rw [hxs]; simp) (by rw [hxs]; simp only [List.flatMap_cons, List.flatMap_nil, List.length_append, List.length_nil]; have := HHL.out; omega))
      have HPLAY := Lib.hid (show xs.flatMap (·.2) = play base us W by
        rw [hxs]
        simp only [List.flatMap_cons, List.flatMap_nil, List.append_nil]
        unfold play pheadb
        rw [← HPS.out, ← HPE.out, ← HGE.out, ← HME.out, ← HTL.out, HUL.out, ← HVE.out, ← HJNE.out, ← HPJE.out, ← HPKE.out, HHD.out]
        simp only [List.append_assoc])
      rw [HPLAY.out] at HCC
      have HB11 := Lib.hid (HB10.out.trans (hb11.mono HB10.out.size))
      have HW11 := Lib.hid hw11
      clear hxs hpkl hpjl hdl hb11 hw11
      go_wp2_with fail
      rw [← HW11.out]
      refine HCC.out.mono ?_
      rintro e w12 ⟨v12, rfl, ho12, hb12⟩
      have HO12 := Lib.hid ho12
      have HB12 := Lib.hid (below_then HB11.out hb12)
      clear ho12 hb12
      go_wp2
      go_ret2
      rw [hE.out]
      exact ⟨_, rfl, own_base HB11.out.size HO12.out, HB12.out⟩
      
end Go.Proofs.YtblpkmmhmdpkjaaGreatDoor

/- patched's own contracts: Take; Put. Written by gen_pis.py. -/



namespace Go.Proofs.YtblpkmmhmdpkjaaGreatDoor

open Go.RowKit

theorem pput_any (l : List Int) (v : Value) (W : Int) (s : Bool) (w : World) (ht : WTab w) (hv : IsV iv l v w) (hl : ∀ x ∈ l, inInt x) (hb : l.length ≤ 1000000) (_hW : inInt W) : Calls Tryz.prog 159 #[v, .int .i64 W, .bool s] w (RetE w (pputE l W s)) :=
  (pput_own l v W s w ht hv hl hb).mono fun _ _ h => h.e
end Go.Proofs.YtblpkmmhmdpkjaaGreatDoor

/- repeat's own contracts, but Take's. -/







namespace Go.Proofs.YtblpkmmhmdpkjaaGreatDoor

open Go.RowKit

theorem ebytes_or1 {u : Nat} (h : u < 2 ^ 64) : (wbits (u ||| 1) + 7) / 8 = ebytes u := by
  rw [wbits_or h (by decide), show wbits 1 = 1 from rfl]
  unfold ebytes
  omega
theorem esize_any (u : Nat) (w : World) (h : u < 2 ^ 64) :
    Calls Tryz.prog 198 #[.int .u64 (u : Int)] w fun e w' => e = .returned (.int .i64 (ebytes u : Int)) ∧ w = w' := by
  have hor := u64_or1 (u : Int) (by omega) (by omega)
  rw [Int.toNat_natCast] at hor
  obtain ⟨y, hy⟩ : ∃ y, y = u ||| 1 := ⟨_, rfl⟩
  have hy64 : y < 2 ^ 64 := by rw [hy]; exact Nat.or_lt_two_pow h (by decide)
  obtain ⟨b, hb⟩ : ∃ b, b = wbits y := ⟨_, rfl⟩
  have hb64 : b ≤ 64 := by rw [hb]; exact wbits_64 hy64
  have HE : Hid ((b + 7) / 8 = ebytes u) := Lib.hid (by rw [hb, hy]; exact ebytes_or1 h)
  have HB := Lib.hid (fun W => bits_any y W hy64)
  rw [← hb] at HB
  rw [← hy] at hor
  clear hy hb h hy64
  go_enter Tryz.func198, Tryz.ntmps198
  go_wp2_with (go_at_call 171; refine (HB.out _).mono ?_; rintro e w' ⟨rfl, rfl⟩)
  go_ret
  exact ⟨ret_int (by have := HE.out; omega), rfl⟩

/-- A number's bytes from the last to the first, in a loop. -/
def EDigRel (u n : Nat) (w : World) (i : Value) (wr : World) : Prop :=
  ∃ (k : Nat) (o : List UInt8), k ≤ n ∧ i = .int .i64 (k : Int) ∧ o.length = n ∧ o.drop (n - k) = be k u ∧ Row wr w.heap.size 5 (o.map bv) ∧ Below w.heap.size w wr
theorem edig_step {o : List UInt8} {n k j u z : Nat} (ho : o.length = n) (hj : n = j + k + 1) (hz : z = u / 256 ^ k % 256) (hd : o.drop (n - k) = be k u) : (o.set j (UInt8.ofNat z)).drop (n - (k + 1)) = be (k + 1) u := by
  rw [show n - (k + 1) = j by omega, List.drop_eq_getElem_cons (by rw [List.length_set]; omega), List.getElem_set_self, List.drop_set_of_lt (by omega), be, ← hz, ← hd, show n - k = j + 1 by omega]
set_option maxHeartbeats 1000000 in
theorem edigits_any (u : Nat) (w : World) (h : u < 2 ^ 64) :
    Calls Tryz.prog 167 #[.int .u64 (u : Int)] w fun e w' => ∃ v, e = .returned v ∧ IsB (be (ebytes u) u) v w' ∧ Below w.heap.size w w' := by
  obtain ⟨n, hn⟩ : ∃ n, n = ebytes u := ⟨_, rfl⟩
  have hn8 : n ≤ 8 := by rw [hn]; exact ebytes_8 h
  have HS := Lib.hid (fun W => esize_any u W h)
  rw [← hn] at HS ⊢
  have HU := Lib.hid h
  clear hn h
  go_enter Tryz.func167, Tryz.ntmps167
  go_wp2_with (first | (go_at_call 198; refine (HS.out _).mono ?_; rintro e w' ⟨rfl, rfl⟩) | (refine wpList_make elemB rfl _ _ rfl _ _ _ _ n w w.heap.size rfl rfl rfl rfl (by omega) (by omega) (Below.refl _ _) (Nat.le_refl _) ?_))
  intro w1 hr1 hb1
  have hst : EDigRel u n w (.int .i64 0) w1 := ⟨0, List.replicate n 0, by omega, rfl, by simp, by simp [be], by simpa using hr1, hb1⟩
  clear hr1 hb1
  go_wp2
  go_loopw [10] (EDigRel u n w) (fun i _ => n - (intOf i).toNat)
  case atStart => exact hst
  case round =>
    obtain ⟨k, o, hk, rfl, ho, hok, hr, hbr⟩ := hrel
    have HO := Lib.hid ho
    have HOK := Lib.hid hok
    clear ho hok hst
    by_cases hlt : k < n
    · have hlt2 : (k : Int) < (n : Int) := by omega
      obtain ⟨j, hj⟩ : ∃ j, n = j + k + 1 := ⟨n - 1 - k, by omega⟩
      have hji : (n : Int) - 1 - (k : Int) = (j : Int) := by omega
      have hjn : (j : Int) < (n : Int) := by omega
      have hjo : j < o.length := by have := HO.out; omega
      obtain ⟨d, hd⟩ : ∃ d, d = 8 * k := ⟨_, rfl⟩
      have hdi : 8 * (k : Int) = (d : Int) := by omega
      have hd64 : d ≤ 64 := by omega
      obtain ⟨y, hy⟩ : ∃ y, y = u / 256 ^ k := ⟨_, rfl⟩
      have hyi : (u : Int) / 2 ^ d = (y : Int) := by
        rw [hy, p256, ← hd]; simp
      obtain ⟨z, hz⟩ : ∃ z, z = y % 256 := ⟨_, rfl⟩
      have hz256 : z < 256 := by omega
      have hzw : IntKind.u8.wrap (y : Int) = (z : Int) := by rw [IntKind.wrap_u8]; omega
      have hzu : z = u / 256 ^ k % 256 := by rw [hz, hy]
      have HN := Lib.hid (edig_step HO.out hj hzu HOK.out)
      have hgr := hr.lt
      have hcx : wr.cell? ⟨w.heap.size, j, none⟩ = some (bv o[j]) := by rw [hr.cell, List.getElem?_map, List.getElem?_eq_getElem hjo]; rfl
      have hfx := hr.free j
      have hr2 := hr.set_ j (bv (UInt8.ofNat z))
      rw [← List.map_set, ← bv_low7 hz256] at hr2
      have HR2 := Lib.hid hr2
      have HBW := Lib.hid hbr
      clear hr2 hr hbr hj hd hy hz hzu
      go_wp2
      go_roundw
      case rel =>
        exact ⟨k + 1, o.set j (UInt8.ofNat z), by omega, by go_num, by rw [List.length_set]; exact HO.out, HN.out, HR2.out, HBW.out.setCell (Nat.le_refl _) _⟩
      case measure => simp [intOf]; omega
    · obtain rfl : k = n := by omega
      have hlt2 : ¬ (k : Int) < (k : Int) := by omega
      have hT : o = be k u := by
        have h1 := HOK.out
        rw [Nat.sub_self, List.drop_zero] at h1
        exact h1
      have HT := Lib.hid hT
      have HR := Lib.hid hr
      have HBR := Lib.hid hbr
      clear hT hr hbr
      go_wp2
      go_ret
      refine ⟨_, rfl, ?_, HBR.out⟩
      rw [← HT.out]
      exact isV_row HR.out HO.out (by omega)

/-- A repeat out of a number's bytes. -/
theorem elaid_any (T : Nat) (l : List UInt8) (v : Value) (w : World) (hv : IsB l v w) (h3 : 3 ≤ T) (h10 : T ≤ 10) (h1 : 1 ≤ l.length) (h8 : l.length ≤ 8) :
    Calls Tryz.prog 166 #[.int .i64 (T : Int), v] w (RetOwn w (UInt8.ofNat (8 * (l.length - 1) + (T - 3)) :: l)) := by
  obtain ⟨A, c, rfl, hA, hnc, hcm, hl⟩ := hv
  obtain ⟨n, hn⟩ : ∃ n, n = l.length := ⟨_, rfl⟩
  rw [← hn] at hA hnc h1 h8 ⊢
  obtain ⟨c0, hc0⟩ : ∃ c0, c0 = 8 * (n - 1) + (T - 3) := ⟨_, rfl⟩
  have hc64 : c0 < 64 := by omega
  rw [← hc0]
  have hci : 8 * ((n : Int) - 1) + (T : Int) - 3 = (c0 : Int) := by omega
  have hci2 : 8 * ((n : Int) - 1) + (T : Int) = (c0 : Int) + 3 := by omega
  have hc256 : c0 < 256 := by omega
  have hown := own_one w 5 (.int .u8 (c0 : Int)) (Nat.le_refl _)
  rw [bv_low7 hc256] at hown
  have hb1 : Below w.heap.size w (w.alloc (.cells #[bv (UInt8.ofNat c0)] 5)) := (Below.refl _ _).alloc (Nat.le_refl _) _
  have hz1 := hb1.size
  have hl1 := hl.below hb1
  have HN := Lib.hid hn
  clear hn hc0 hl hcm
  go_enter Tryz.func166, Tryz.ntmps166
  go_wp2_with (at_builtin; rw [bv_low7 hc256]; refine wpList_join elemB rfl _ _ rfl w.heap.size _ _ _ _ _ _ (l.map bv) w rfl rfl hA (by rw [List.length_map]; exact HN.out.symm) hl1 (bv_one l) hown hb1 hz1 (by omega) (by omega) ?_)
  intro v2 w2 hown2 hb2 _ _
  go_wp2
  go_ret
  refine ⟨v2, rfl, ?_, hb2⟩
  rw [List.length_cons, ← HN.out, Nat.add_comm n 1]
  exact hown2
theorem elay_any (u T : Nat) (v : Value) (w : World) (hu : u < 2 ^ 64) (hv : IsB (be (ebytes u) u) v w) (h3 : 3 ≤ T) (h10 : T ≤ 10) :
    Calls Tryz.prog 166 #[.int .i64 (T : Int), v] w (RetOwn w (elay u T)) := by
  have h := elaid_any T _ v w hv h3 h10 (by rw [be_len]; exact ebytes_pos u) (by rw [be_len]; exact ebytes_8 hu)
  rw [be_len] at h
  exact h
theorem RetOwn.e {w w' : World} {l : List UInt8} {v : Value} (h : w'.ownsRow w.heap.size 5 1 v l.length (l.map bv)) (hb : Below w.heap.size w w') : RetE w (l, 0) (.returned (.tuple #[v, .int .i64 0])) w' :=
  ⟨v, rfl, isB_own h, hb⟩
set_option maxHeartbeats 1000000 in
theorem eput_any (x t : Int) (s : Bool) (w : World) (h0 : -9223372036854775808 ≤ x) (h1 : x ≤ 9223372036854775807) :
    Calls Tryz.prog 133 #[.int .i64 x, .int .i64 t, .bool s] w (RetE w (eput x t s)) := by
  by_cases ht : t < 3
  · have hE := Lib.hid (eput_times (x := x) (s := s) (.inl ht))
    have d1 : decide (t < 3) = true := decide_eq_true ht
    go_enter Tryz.func133, Tryz.ntmps133
    go_wp2
    go_ret2
    rw [hE.out]
    exact RetE.nil _ (Below.refl _ _)
  · have d1 : decide (t < 3) = false := decide_eq_false ht
    by_cases ht2 : 10 < t
    · have hE := Lib.hid (eput_times (x := x) (s := s) (.inr ht2))
      have d2 : decide (10 < t) = true := decide_eq_true ht2
      go_enter Tryz.func133, Tryz.ntmps133
      go_wp2
      go_ret2
      rw [hE.out]
      exact RetE.nil _ (Below.refl _ _)
    · have d2 : decide (10 < t) = false := decide_eq_false ht2
      obtain ⟨T, rfl⟩ := Int.eq_ofNat_of_zero_le (show 0 ≤ t by omega)
      have h3 : 3 ≤ T := by omega
      have h10 : T ≤ 10 := by omega
      cases s with
      | false =>
        by_cases hx : x < 0
        · have hE := Lib.hid (eput_not (x := x) (s := false) (t := (T : Int)) (by unfold eplain; rw [if_neg (by simp), if_neg (by omega)]))
          have d3 : decide (x < 0) = true := decide_eq_true hx
          go_enter Tryz.func133, Tryz.ntmps133
          go_wp2
          go_ret2
          rw [hE.out]
          exact RetE.nil _ (Below.refl _ _)
        · have d3 : decide (x < 0) = false := decide_eq_false hx
          obtain ⟨u, rfl⟩ := Int.eq_ofNat_of_zero_le (show 0 ≤ x by omega)
          have hw : IntKind.u64.wrap (u : Int) = (u : Int) := by rw [IntKind.wrap_u64]; omega
          have hu64 : u < 2 ^ 64 := by omega
          have hE := Lib.hid (eput_ok (x := (u : Int)) (s := false) h3 h10 (by unfold eplain; rw [if_neg (by simp), if_pos (by omega), Int.toNat_natCast]))
          have HD := Lib.hid (edigits_any u w hu64)
          have HL := Lib.hid (fun v W hv => elay_any u T v W hu64 hv h3 h10)
          clear h0 h1 hx hu64
          go_enter Tryz.func133, Tryz.ntmps133
          go_wp2_with fail
          refine HD.out.mono ?_
          rintro e w2 ⟨v2, rfl, hv2, hb2⟩
          have HV2 := Lib.hid hv2
          have HB2 := Lib.hid hb2
          clear hv2 hb2
          go_wp2_with (go_at_call 166; refine (HL.out _ _ HV2.out).mono ?_)
          rintro e w3 ⟨v3, rfl, hv3, hb3⟩
          have HV3 := Lib.hid (isB_own hv3)
          have HB3 := Lib.hid (below_then HB2.out hb3)
          clear hv3 hb3
          go_wp2
          go_ret2
          rw [hE.out]
          exact ⟨_, rfl, HV3.out, HB3.out⟩
      | true =>
        have hz := vzig_bd h0 h1
        obtain ⟨u, hu⟩ : ∃ u, u = (vzig x).toNat := ⟨_, rfl⟩
        have hui : vzig x = (u : Int) := by omega
        have hu64 : u < 2 ^ 64 := by omega
        have hE := Lib.hid (eput_ok (x := x) (s := true) h3 h10 (by unfold eplain; rw [if_pos rfl, ← hu]))
        have HZ := Lib.hid (zig_any x w h0 h1)
        rw [hui] at HZ
        have HD := Lib.hid (edigits_any u w hu64)
        have HL := Lib.hid (fun v W hv => elay_any u T v W hu64 hv h3 h10)
        clear h0 h1 hz hu hui hu64
        rcases Bool.eq_false_or_eq_true (decide (x < 0)) with d3 | d3
        all_goals
          go_enter Tryz.func133, Tryz.ntmps133
          go_wp2_with (first | (go_at_call 165; refine HZ.out.mono ?_; rintro e w' ⟨rfl, rfl⟩) | (go_at_call 167; refine HD.out.mono ?_))
          rintro e w2 ⟨v2, rfl, hv2, hb2⟩
          have HV2 := Lib.hid hv2
          have HB2 := Lib.hid hb2
          clear hv2 hb2
          go_wp2_with (go_at_call 166; refine (HL.out _ _ HV2.out).mono ?_)
          rintro e w3 ⟨v3, rfl, hv3, hb3⟩
          have HV3 := Lib.hid (isB_own hv3)
          have HB3 := Lib.hid (below_then HB2.out hb3)
          clear hv3 hb3
          go_wp2
          go_ret2
          rw [hE.out]
          exact ⟨_, rfl, HV3.out, HB3.out⟩

end Go.Proofs.YtblpkmmhmdpkjaaGreatDoor

/- repeat's Take. -/





namespace Go.Proofs.YtblpkmmhmdpkjaaGreatDoor

open Go.RowKit

end Go.Proofs.YtblpkmmhmdpkjaaGreatDoor

/- Numbers in the runs that are shortest (layer 11), as plain mathematics. -/





namespace Go.Proofs.YtblpkmmhmdpkjaaGreatDoor

/-- How many numbers from the first one on are the same. -/
def usame (l : List Int) : Nat := match l with | [] => 0 | x :: r => 1 + (r.takeWhile (· == x)).length
theorem usame_cons (x : Int) (r : List Int) : usame (x :: r) = 1 + (r.takeWhile (· == x)).length := rfl
theorem usame_le (l : List Int) : usame l ≤ l.length := by
  cases l with
  | nil => exact Nat.le_refl _
  | cons x r =>
    have := (List.takeWhile_prefix (l := r) (· == x)).length_le
    rw [usame_cons, List.length_cons]
    omega
theorem usame_pos {l : List Int} (h : 1 ≤ l.length) : 1 ≤ usame l := by
  cases l with
  | nil => simp at h
  | cons x r => rw [usame_cons]; omega
theorem takeWhile_all {α : Type} {p : α → Bool} {l : List α} {k : Nat} (h : k ≤ (l.takeWhile p).length) : ∀ x ∈ l.take k, p x = true := by
  induction l generalizing k with
  | nil => simp
  | cons y l ih =>
    cases k with
    | zero => simp
    | succ k =>
      rw [List.takeWhile_cons] at h
      by_cases hy : p y = true
      · rw [if_pos hy, List.length_cons] at h
        intro x hx
        rw [List.take_succ_cons] at hx
        rcases List.mem_cons.1 hx with rfl | hx
        · exact hy
        · exact ih (by omega) x hx
      · rw [if_neg hy] at h; simp at h
/-- The first so many are the first one. -/
theorem usame_take {x : Int} {r : List Int} {k : Nat} (h : k ≤ usame (x :: r)) : (x :: r).take k = List.replicate k x := by
  cases k with
  | zero => rfl
  | succ k =>
    rw [List.take_succ_cons, List.replicate_succ]
    congr 1
    have h1 : k ≤ (r.takeWhile (· == x)).length := by rw [usame_cons] at h; omega
    refine List.eq_replicate_iff.2 ⟨?_, fun y hy => by simpa using takeWhile_all h1 y hy⟩
    have := (List.takeWhile_prefix (l := r) (· == x)).length_le
    rw [List.length_take]
    omega
/-- So many are the same just if each of them is the first one. -/
theorem usame_iff {l : List Int} {k : Nat} (hk : k < l.length) (h : k ≤ usame l) : k < usame l ↔ l[k] = l[0] := by
  cases l with
  | nil => simp at hk
  | cons x r =>
    cases k with
    | zero => simp; exact usame_pos (by simp)
    | succ k =>
      have h1 : k ≤ (r.takeWhile (· == x)).length := by rw [usame_cons] at h; omega
      rw [List.getElem_cons_succ, List.getElem_cons_zero]
      rw [List.length_cons] at hk
      have key : ∀ (r : List Int) (k : Nat) (hk : k < r.length), k ≤ (r.takeWhile (· == x)).length → (k < (r.takeWhile (· == x)).length ↔ r[k] = x) := by
        intro r
        induction r with
        | nil => intro k hk; simp at hk
        | cons y r ih =>
          intro k hk h
          rw [List.takeWhile_cons] at h ⊢
          by_cases hy : (y == x) = true
          · rw [if_pos hy, List.length_cons] at h ⊢
            cases k with
            | zero => simp; simpa using hy
            | succ k =>
              rw [List.getElem_cons_succ, ← ih k (by rw [List.length_cons] at hk; omega) (by omega)]
              omega
          · rw [if_neg hy] at h ⊢
            simp at h
            subst h
            simp
            simpa using hy
      rw [← key r k (by omega) h1, usame_cons]
      omega
/-- The shorter one of two runs, of which the second may be none. -/
def ushorter (a : List UInt8) (p : List UInt8 × Int) : List UInt8 := if p.2 = 0 ∧ (a.length = 0 ∨ p.1.length < a.length) then p.1 else a
def ucands0 (l : List Int) (s : Bool) : List (List UInt8 × Int) := (if usame l = l.length then [eput (l.headD 0) l.length s] else []) ++ [dputE l s, gputE l s]
def ucands (l : List Int) (s : Bool) : List (List UInt8 × Int) := ucands0 l s ++ (List.range 31).map fun c : Nat => pputE l (wof (c : Int)) s
/-- What Run answers. -/
def urunE (l : List Int) (s : Bool) : List UInt8 × Int := if dplain l s = none ∨ l.length < 1 ∨ 512 < l.length then ([], 1) else ((ucands l s).foldl ushorter [], 0)
/-- What Cut answers. -/
def ufind (l : List Int) (n : Nat) : Bool := decide (5 ≤ usame (l.drop n))
def ucut (l : List Int) : Nat := if 3 ≤ usame l then min (usame l) 512 else ((List.range' 1 (min l.length 512 - 1)).find? (ufind l)).getD (min l.length 512)
theorem ucut_bd {l : List Int} (h : 1 ≤ l.length) : 1 ≤ ucut l ∧ ucut l ≤ l.length ∧ ucut l ≤ 512 := by
  have h1 := usame_le l
  unfold ucut
  split
  · omega
  · cases hf : (List.range' 1 (min l.length 512 - 1)).find? (ufind l) with
    | none => rw [Option.getD_none]; omega
    | some n =>
      have := List.mem_range'_1.1 (List.mem_of_find?_eq_some hf)
      rw [Option.getD_some]
      omega
/-- What Put answers. -/
def uputN (s : Bool) : Nat → List Int → List UInt8 × Int
  | 0, _ => ([], 0)
  | k + 1, l =>
    if l.length = 0 then ([], 0)
    else if (urunE (l.take (ucut l)) s).2 ≠ 0 then ([], (urunE (l.take (ucut l)) s).2)
    else if (uputN s k (l.drop (ucut l))).2 ≠ 0 then ([], (uputN s k (l.drop (ucut l))).2)
    else ((urunE (l.take (ucut l)) s).1 ++ (uputN s k (l.drop (ucut l))).1, 0)
def uputE (l : List Int) (s : Bool) : List UInt8 × Int := if 4096 < l.length then ([], 3) else uputN s l.length l
/-- The run that bytes begin with. -/
def uone (b : List UInt8) (s : Bool) : List Int × List UInt8 × Int :=
  match b with
  | [] => ([], [], 2)
  | x :: _ => if x.toNat / 64 = 1 then dtakeE b s else if x.toNat / 64 = 2 then ptakeE b s else if x.toNat / 64 = 3 then gtakeE b s
    else (List.replicate (etake b s).2.1.toNat (etake b s).1, (etake b s).2.2.1, (etake b s).2.2.2)
/-- A run is one of those that may be. -/
theorem ushort_mem {cs : List (List UInt8 × Int)} : ∀ {a : List UInt8}, cs.foldl ushorter a = a ∨ (cs.foldl ushorter a, 0) ∈ cs := by
  induction cs with
  | nil => intro a; exact .inl rfl
  | cons c cs ih =>
    intro a
    rw [List.foldl_cons]
    rcases ih (a := ushorter a c) with h | h
    · rw [h]
      unfold ushorter
      split
      · rename_i hc
        right
        rw [show (c.1, (0 : Int)) = c from by rw [← hc.1]]
        exact List.mem_cons_self
      · exact .inl rfl
    · exact .inr (List.mem_cons_of_mem _ h)
/-- No longer than each that may be, and than what was there (if that is something). -/
theorem ushort_le {cs : List (List UInt8 × Int)} : ∀ {a : List UInt8}, (∀ p ∈ cs, p.2 = 0 → p.1.length ≠ 0) → ((1 ≤ a.length → 1 ≤ (cs.foldl ushorter a).length ∧ (cs.foldl ushorter a).length ≤ a.length) ∧ ∀ p ∈ cs, p.2 = 0 → 1 ≤ (cs.foldl ushorter a).length ∧ (cs.foldl ushorter a).length ≤ p.1.length) := by
  induction cs with
  | nil => intro a _; exact ⟨fun h => ⟨h, Nat.le_refl _⟩, fun _ h => by cases h⟩
  | cons c cs ih =>
    intro a hne
    rw [List.foldl_cons]
    obtain ⟨h1, h2⟩ := ih (a := ushorter a c) fun p hp => hne p (List.mem_cons_of_mem _ hp)
    have hc := hne c List.mem_cons_self
    refine ⟨fun ha => ?_, fun p hp h0 => ?_⟩
    · have h3 : 1 ≤ (ushorter a c).length ∧ (ushorter a c).length ≤ a.length := by
        unfold ushorter
        split
        · rename_i h; have := hc h.1; omega
        · exact ⟨ha, Nat.le_refl _⟩
      have := h1 h3.1
      omega
    · rcases List.mem_cons.1 hp with rfl | hp
      · have h4 := hc h0
        have h3 : 1 ≤ (ushorter a p).length ∧ (ushorter a p).length ≤ p.1.length := by
          unfold ushorter
          by_cases h : a.length = 0 ∨ p.1.length < a.length
          · rw [if_pos ⟨h0, h⟩]; omega
          · rw [if_neg fun h5 => h h5.2]; omega
        have := h1 h3.1
        omega
      · exact h2 p hp h0
end Go.Proofs.YtblpkmmhmdpkjaaGreatDoor

/- Runs (layer 11): what each kind gives back, how long it is. -/







namespace Go.Proofs.YtblpkmmhmdpkjaaGreatDoor

theorem dplain_ok {l : List Int} {s : Bool} (h : dplain l s ≠ none) : ∀ x ∈ l, s = true ∨ 0 ≤ x := by
  intro x hx
  cases s with
  | true => exact .inl rfl
  | false =>
    refine .inr (Int.not_lt.1 fun h0 => h (omap_none (x := x) hx ?_))
    unfold eplain
    rw [if_neg (by simp), if_neg (by omega)]
theorem dheadN_first {k c m : Nat} (hk : k ≤ 3) (hc : c ≤ 31) (h1 : 1 ≤ m) (hm : m ≤ 512) : ∃ x y, dheadN k c m = [x, y] ∧ x.toNat / 64 = k := by
  obtain ⟨X, hX⟩ : ∃ X, X = 16384 * k + 512 * c + (m - 1) := ⟨_, rfl⟩
  refine ⟨UInt8.ofNat (X / 256 ^ 1 % 256), UInt8.ofNat (X / 256 ^ 0 % 256), by unfold dheadN; rw [← hX]; rfl, ?_⟩
  simp only [UInt8.toNat_ofNat', Nat.reducePow]
  omega
theorem uone_direct {c m : Nat} {r : List UInt8} {s : Bool} (hc : c ≤ 31) (h1 : 1 ≤ m) (hm : m ≤ 512) : uone (dheadN 1 c m ++ r) s = dtakeE (dheadN 1 c m ++ r) s := by
  obtain ⟨x, y, h, hx⟩ := dheadN_first (k := 1) (by omega) hc h1 hm
  rw [h, List.cons_append]
  unfold uone
  dsimp only
  rw [if_pos hx]
theorem uone_patched {c m : Nat} {r : List UInt8} {s : Bool} (hc : c ≤ 31) (h1 : 1 ≤ m) (hm : m ≤ 512) : uone (dheadN 2 c m ++ r) s = ptakeE (dheadN 2 c m ++ r) s := by
  obtain ⟨x, y, h, hx⟩ := dheadN_first (k := 2) (by omega) hc h1 hm
  rw [h, List.cons_append]
  unfold uone
  dsimp only
  rw [if_neg (by omega), if_pos hx]
theorem uone_delta {c m : Nat} {r : List UInt8} {s : Bool} (hc : c ≤ 31) (h1 : 1 ≤ m) (hm : m ≤ 512) : uone (dheadN 3 c m ++ r) s = gtakeE (dheadN 3 c m ++ r) s := by
  obtain ⟨x, y, h, hx⟩ := dheadN_first (k := 3) (by omega) hc h1 hm
  rw [h, List.cons_append]
  unfold uone
  dsimp only
  rw [if_neg (by omega), if_neg (by omega), if_pos hx]
theorem uone_repeat {u t : Nat} {r : List UInt8} {s : Bool} (hu : u < 2 ^ 64) (h3 : 3 ≤ t) (h10 : t ≤ 10) : uone (elay u t ++ r) s = (List.replicate (etake (elay u t ++ r) s).2.1.toNat (etake (elay u t ++ r) s).1, (etake (elay u t ++ r) s).2.2.1, (etake (elay u t ++ r) s).2.2.2) := by
  have h8 := ebytes_8 hu
  have h1 := ebytes_pos u
  obtain ⟨x, hx⟩ : ∃ x, x = UInt8.ofNat (8 * (ebytes u - 1) + (t - 3)) := ⟨_, rfl⟩
  have hx0 : x.toNat / 64 = 0 := by rw [hx]; simp only [UInt8.toNat_ofNat', Nat.reducePow]; omega
  have he : elay u t ++ r = x :: (be (ebytes u) u ++ r) := by unfold elay; rw [← hx]; rfl
  rw [he]
  unfold uone
  dsimp only
  rw [if_neg (by omega), if_neg (by omega), if_neg (by omega)]
theorem eputE_cases {x t : Int} {s : Bool} {b : List UInt8} (h : eput x t s = (b, 0)) : 3 ≤ t ∧ t ≤ 10 ∧ ∃ u, eplain x s = some u ∧ b = elay u t.toNat := by
  unfold eput at h
  split at h
  · injection h with _ h; cases h
  · rename_i ht
    split at h
    · injection h with _ h; cases h
    · rename_i u hu
      injection h with h _
      exact ⟨by omega, by omega, u, hu, h.symm⟩
theorem dputE_cases {l : List Int} {s : Bool} {b : List UInt8} (h : dputE l s = (b, 0)) : 1 ≤ l.length ∧ l.length ≤ 512 ∧ ∃ u, dplain l s = some u ∧ b = dlay u := by
  unfold dputE at h
  split at h
  · injection h with _ h; cases h
  · rename_i u hu
    split at h
    · injection h with _ h; cases h
    · injection h with h _
      exact ⟨by omega, by omega, u, hu, h.symm⟩
theorem gputE_cases {l : List Int} {s : Bool} {b : List UInt8} (h : gputE l s = (b, 0)) : dplain l s ≠ none ∧ 2 ≤ l.length ∧ l.length ≤ 512 ∧ ∃ us, gsizes l (gfalls l) (l.length - 1) = some us ∧ b = glay l s us := by
  unfold gputE at h
  split at h
  · injection h with _ h; cases h
  · rename_i hn
    split at h
    · injection h with _ h; cases h
    · rename_i us hu
      injection h with h _
      exact ⟨fun h2 => hn (.inl h2), Nat.not_lt.1 fun h2 => hn (.inr (.inl h2)), Nat.not_lt.1 fun h2 => hn (.inr (.inr h2)), us, hu, h.symm⟩
theorem pputE_ok {l : List Int} {W : Int} {s : Bool} {b : List UInt8} (h : pputE l W s = (b, 0)) : ∃ us, pups l = some us ∧ 1 ≤ l.length ∧ l.length ≤ 512 ∧ 0 ≤ wcode W ∧ W < 64 ∧ pbase l ≠ -9223372036854775808 ∧ (ppairs W.toNat us).length ≤ 31 ∧ pgw (ppairs W.toNat us) + ppw (ppairs W.toNat us) ≤ 64 ∧ b = play (pbase l) us W.toNat := by
  unfold pputE at h
  split at h
  · injection h with _ h; cases h
  · rename_i h1
    split at h
    · injection h with _ h; cases h
    · rename_i us hu
      split at h
      · injection h with _ h; cases h
      · rename_i h2
        injection h with h _
        refine ⟨us, hu, ?_, ?_, ?_, ?_, ?_, ?_, ?_, h.symm⟩
        · exact Nat.not_lt.1 fun h => h1 (.inr (.inl h))
        · exact Nat.not_lt.1 fun h => h1 (.inr (.inr (.inl h)))
        · exact Int.not_lt.1 fun h => h1 (.inr (.inr (.inr (.inl h))))
        · exact Int.not_le.1 fun h => h1 (.inr (.inr (.inr (.inr h))))
        · exact fun h => h2 (.inl h)
        · exact Nat.not_lt.1 fun h => h2 (.inr (.inl h))
        · exact Nat.not_lt.1 fun h => h2 (.inr (.inr (.inl h)))
theorem wof_nat (c : Nat) : ∃ W : Nat, wof (c : Int) = (W : Int) := ⟨(wof (c : Int)).toNat, by have := (wof_bd (c : Int)).1; omega⟩
/-- A run that may be gives the numbers back. -/
theorem ucand_back {l : List Int} {s : Bool} {b : List UInt8} (hl : ∀ x ∈ l, inInt x) (hp : dplain l s ≠ none) (h1 : 1 ≤ l.length) (h : (b, (0 : Int)) ∈ ucands l s) (r : List UInt8) : uone (b ++ r) s = (l, r, 0) ∧ 2 ≤ b.length := by
  have hok := dplain_ok hp
  unfold ucands ucands0 at h
  simp only [List.mem_append, List.mem_cons, List.mem_map, List.mem_range, List.not_mem_nil, or_false] at h
  rcases h with (h | h | h) | ⟨c, hc, h⟩
  · split at h
    · rename_i hs
      rw [List.mem_singleton] at h
      obtain ⟨h3, h10, u, hu, hb⟩ := eputE_cases h.symm
      obtain ⟨x, l', rfl⟩ : ∃ x l', l = x :: l' := by cases l with | nil => simp at h1 | cons x l' => exact ⟨x, l', rfl⟩
      rw [List.headD_cons] at hu
      have hx := hl x List.mem_cons_self
      have hu64 := eplain_lt hx.1 hx.2 hu
      have hrep := usame_take (x := x) (r := l') (k := (x :: l').length) (by omega)
      rw [List.take_of_length_le (Nat.le_refl _)] at hrep
      rw [Int.toNat_natCast] at hb
      have h3' : 3 ≤ (x :: l').length := by omega
      have h10' : (x :: l').length ≤ 10 := by omega
      subst hb
      refine ⟨?_, by rw [elay_len]; have := ebytes_pos u; omega⟩
      rw [uone_repeat hu64 h3' h10', etake_back hu64 h3' h10' (emade_eplain hx.1 hx.2 hu)]
      dsimp only
      rw [Int.toNat_natCast, ← hrep]
    · cases h
  · obtain ⟨_, h5, u, hu, hb⟩ := dputE_cases h.symm
    have hu64 := dplain_lt hl hu
    have hul := dplain_len hu
    subst hb
    refine ⟨?_, by unfold dlay; rw [List.length_append, dheadN_len]; omega⟩
    have h2 := dtake_back hl h1 h5 hu r
    unfold dlay at h2 ⊢
    rw [List.append_assoc] at h2 ⊢
    rw [uone_direct (dcode_int hu64).2.1 (by omega) (by omega)]
    exact h2
  · obtain ⟨_, h2', h5, us, hu, hb⟩ := gputE_cases h.symm
    have h64t : ∀ u ∈ us.tail, u < 2 ^ 64 := fun u h => gsizes_64 hu u (List.mem_of_mem_tail h)
    have hcode : gnum us ≤ 31 := by
      unfold gnum
      split
      · omega
      · exact (gwide_int h64t).2.2.2.2.2.2.1
    subst hb
    refine ⟨?_, by unfold glay; simp only [List.length_append, dheadN_len]; omega⟩
    have h2 := gtake_back (fun x hx => ⟨hl x hx, hok x hx⟩) h2' h5 hu r
    unfold glay at h2 ⊢
    simp only [List.append_assoc] at h2 ⊢
    rw [uone_delta hcode h1 h5]
    exact h2
  · obtain ⟨W, hW⟩ := wof_nat c
    rw [hW] at h
    obtain ⟨us, hu, _, h5, hc0, h64, hne, h31, hgp, hb⟩ := pputE_ok h
    rw [Int.toNat_natCast] at h31 hgp hb
    have hul := pups_len hu
    subst hb
    refine ⟨?_, by unfold play; simp only [List.length_append, dheadN_len]; omega⟩
    have h2 := ptake_back (fun x hx => ⟨hl x hx, hok x hx⟩) h1 h5 hc0 (by omega) hu hne h31 hgp r
    unfold play at h2 ⊢
    simp only [List.append_assoc] at h2 ⊢
    rw [uone_patched (pcode_back hc0).2.1 (by omega) (by omega)]
    exact h2
theorem bsize_eight {n W : Nat} (hW : W ≤ 64) : bsize n W ≤ 8 * n := by
  have : n * W ≤ n * 64 := Nat.mul_le_mul_left _ hW
  unfold bsize
  omega
/-- Run: what it answers. -/
theorem urunE_no {l : List Int} {s : Bool} (h : dplain l s = none ∨ l.length < 1 ∨ 512 < l.length) : urunE l s = ([], 1) := by unfold urunE; rw [if_pos h]
theorem urunE_in {l : List Int} {s : Bool} (h : dplain l s ≠ none) (h1 : 1 ≤ l.length) (h5 : l.length ≤ 512) : urunE l s = ((ucands l s).foldl ushorter [], 0) := by
  unfold urunE
  rw [if_neg]
  rintro (h2 | h2 | h2)
  · exact h h2
  · omega
  · omega
theorem urunE_le {l : List Int} {s : Bool} (hl : ∀ x ∈ l, inInt x) (h : dplain l s ≠ none) (h1 : 1 ≤ l.length) (h5 : l.length ≤ 512) {p : List UInt8 × Int} (hp : p ∈ ucands l s) (h0 : p.2 = 0) : (urunE l s).1.length ≤ p.1.length := by
  rw [urunE_in h h1 h5]
  refine ((ushort_le (cs := ucands l s) (a := []) fun q hq h2 => ?_).2 p hp h0).2
  have h3 := ucand_back (b := q.1) hl h h1 (by rw [← h2]; exact hq) []
  omega
theorem dput_mem (l : List Int) (s : Bool) : dputE l s ∈ ucands l s := by unfold ucands ucands0; simp
theorem dputE_in {l : List Int} {s : Bool} (h : dplain l s ≠ none) (h1 : 1 ≤ l.length) (h5 : l.length ≤ 512) : ∃ u, dplain l s = some u ∧ dputE l s = (dlay u, 0) := by
  cases hu : dplain l s with
  | none => exact absurd hu h
  | some u => exact ⟨u, rfl, dputE_ok hu h1 h5⟩
theorem urun_back {l : List Int} {s : Bool} (hl : ∀ x ∈ l, inInt x) (h : dplain l s ≠ none) (h1 : 1 ≤ l.length) (h5 : l.length ≤ 512) (r : List UInt8) :
    (urunE l s).2 = 0 ∧ uone ((urunE l s).1 ++ r) s = (l, r, 0) ∧ 2 ≤ (urunE l s).1.length ∧ (urunE l s).1.length ≤ 2 + 8 * l.length := by
  obtain ⟨u, hu, hd⟩ := dputE_in h h1 h5
  have hle := urunE_le hl h h1 h5 (dput_mem l s) (by rw [hd])
  have hu64 := dplain_lt hl hu
  rw [hd] at hle
  have hbd : (dlay u).length ≤ 2 + 8 * l.length := by
    have := bsize_eight (n := u.length) (dwide_room hu64).2.1
    have := dplain_len hu
    unfold dlay
    rw [List.length_append, dheadN_len, bpack_len]
    omega
  dsimp only at hle
  have hin := urunE_in h h1 h5
  have hmem : ((urunE l s).1, (0 : Int)) ∈ ucands l s := by
    rw [hin]
    rcases ushort_mem (cs := ucands l s) (a := []) with h2 | h2
    · exfalso
      have h3 := (ushort_le (cs := ucands l s) (a := []) fun q hq h2 => by
        have h3 := ucand_back (b := q.1) hl h h1 (by rw [← h2]; exact hq) []
        omega).2 _ (dput_mem l s) (by rw [hd])
      rw [h2] at h3
      simp at h3
    · exact h2
  obtain ⟨h2, h3⟩ := ucand_back hl h h1 hmem r
  exact ⟨by rw [hin], h2, h3, by omega⟩
end Go.Proofs.YtblpkmmhmdpkjaaGreatDoor

/- Runs (layer 11): how much a run gives. -/





namespace Go.Proofs.YtblpkmmhmdpkjaaGreatDoor

end Go.Proofs.YtblpkmmhmdpkjaaGreatDoor

/- Contracts of layer 11's reference: same, shorter, Cut. -/







namespace Go.Proofs.YtblpkmmhmdpkjaaGreatDoor

open Go.RowKit

def USameRel (l : List Int) (w : World) (i : Value) (wr : World) : Prop := ∃ k : Nat, k ≤ usame l ∧ i = .int .i64 (k : Int) ∧ Below w.heap.size w wr
set_option maxHeartbeats 1000000 in
set_option maxRecDepth 100000 in
theorem rsame11_any (l : List Int) (v : Value) (w : World) (hv : IsV iv l v w) (hb : l.length ≤ 1000000) :
    Calls Tryz.prog 49 #[v] w fun e w' => e = .returned (.int .i64 (usame l : Int)) ∧ Below w.heap.size w w' := by
  obtain ⟨A, n, c, rfl⟩ := hv.shape
  have HN := Lib.hid hv.parts.1
  have HV := Lib.hid hv
  have hn6 : n ≤ 1000000 := by have := HN.out; omega
  clear hv hb
  go_enter Tryz.func49, Tryz.ntmps49
  go_wp2
  go_loopw [3] (USameRel l w) (fun i _ => n - (intOf i).toNat)
  case atStart => exact ⟨0, Nat.zero_le _, rfl, Below.refl _ _⟩
  case round =>
    obtain ⟨k, hk, rfl, hbw⟩ := hrel
    have hle := usame_le l
    have hkn : k ≤ n := by have := HN.out; omega
    have HK := Lib.hid hk
    have HB := Lib.hid hbw
    by_cases hlt : k < n
    · have hkl : k < l.length := by have := HN.out; omega
      have hn0 : 0 < n := by omega
      have hn0i : (0 : Int) < (n : Int) := by omega
      have hlti : (k : Int) < (n : Int) := by omega
      have hiff := usame_iff hkl hk
      obtain ⟨ad, rfl, had, hcell⟩ := (HV.out.below hbw).at hkl
      obtain ⟨_, hAd, _, hcell0⟩ := (HV.out.below hbw).at (k := 0) (by omega)
      injection hAd with hAd
      subst hAd
      obtain ⟨x, hx⟩ : ∃ x, x = l[k] := ⟨_, rfl⟩
      obtain ⟨x0, hx0⟩ : ∃ x, x = l[0] := ⟨_, rfl⟩
      rw [← hx, ← hx0] at hiff
      have hcx : wr.cell? (ad.add k) = some (.int .i64 x) := by rw [hcell, hx]; rfl
      have hc0 : wr.cell? ad = some (.int .i64 x0) := by
        have h1 : ad.add 0 = ad := by unfold Addr.add; split <;> simp_all
        rw [← h1, hcell0, hx0]; rfl
      have HI := Lib.hid hiff
      clear hcell hcell0 hx hx0 hiff hk hbw hle
      by_cases he : x = x0
      · have d2 : (x == x0) = true := by simpa using he
        have HE := Lib.hid he
        clear he
        go_wp2
        go_quiet (fail)
        go_wp2
        go_roundw
        case rel => exact ⟨k + 1, HI.out.2 HE.out, by go_num, below_drewN HB.out nq⟩
        case measure => simp [intOf]; omega
      · have d2 : (x == x0) = false := by simpa using he
        have HE := Lib.hid he
        clear he
        go_wp2
        go_quiet (fail)
        go_wp2
        go_ret
        refine ⟨?_, below_drewN HB.out nq⟩
        have h1 : k = usame l := Nat.le_antisymm HK.out (Nat.not_lt.1 fun h => HE.out (HI.out.1 h))
        rw [← h1]
        rfl
    · obtain rfl : k = n := by omega
      have hlti : ¬ (k : Int) < (k : Int) := by omega
      have h1 : k = usame l := by have := HN.out; omega
      have HE := Lib.hid h1
      clear h1 hk hbw hle
      go_wp2
      go_quiet (fail)
      go_wp2
      go_ret
      refine ⟨?_, below_drewN HB.out nq⟩
      rw [← HE.out]
      rfl
theorem rshorter_any (la lb : List UInt8) (va vb : Value) (x : Int) (w : World) (ha : IsB la va w) (hb : IsB lb vb w) :
    Calls Tryz.prog 52 #[va, vb, .int .i64 x] w fun e w' => (∃ v, e = .returned v ∧ IsB (ushorter la (lb, x)) v w') ∧ w = w' := by
  have HA := Lib.hid ha
  have HB := Lib.hid hb
  obtain ⟨A, n, c, rfl⟩ := IsV.shape (f := bv) ha
  obtain ⟨B, m, d, rfl⟩ := IsV.shape (f := bv) hb
  have hn := (IsV.parts (f := bv) (show IsV bv la _ _ from ha)).1
  have hm := (IsV.parts (f := bv) (show IsV bv lb _ _ from hb)).1
  by_cases h : x = 0 ∧ (n = 0 ∨ m < n)
  · have HE : Hid (ushorter la (lb, x) = lb) := Lib.hid (by unfold ushorter; rw [if_pos (by rw [hn, hm]; exact h)])
    obtain ⟨rfl, h2⟩ := h
    have hd : ((n : Int) == 0) = true ∨ (((n : Int) == 0) = false ∧ decide (m < n) = true) := by
      by_cases h3 : n = 0
      · exact .inl (by simpa using h3)
      · exact .inr ⟨by simpa using h3, decide_eq_true (by omega)⟩
    clear ha hb hn hm h2
    rcases hd with d1 | ⟨d1, d2⟩
    all_goals
      go_enter Tryz.func52, Tryz.ntmps52
      go_wp2
      go_ret
      refine ⟨⟨_, rfl, ?_⟩, rfl⟩
      rw [HE.out]
      exact HB.out
  · have HE : Hid (ushorter la (lb, x) = la) := Lib.hid (by unfold ushorter; rw [if_neg (by rw [hn, hm]; exact h)])
    have hd : (x == 0) = false ∨ (x = 0 ∧ ((n : Int) == 0) = false ∧ decide (m < n) = false) := by
      by_cases h3 : x = 0
      · exact .inr ⟨h3, by simp; omega, decide_eq_false (by omega)⟩
      · exact .inl (by simpa using h3)
    clear ha hb hn hm h
    rcases hd with d1 | ⟨rfl, d1, d2⟩
    all_goals
      go_enter Tryz.func52, Tryz.ntmps52
      go_wp2
      go_ret
      refine ⟨⟨_, rfl, ?_⟩, rfl⟩
      rw [HE.out]
      exact HA.out
theorem ucut_same {l : List Int} (h : 3 ≤ usame l) : ucut l = min (usame l) 512 := by unfold ucut; rw [if_pos h]
theorem ucut_at {l : List Int} {n : Nat} (h : ¬ 3 ≤ usame l) (h1 : 1 ≤ n) (h2 : n < l.length) (h5 : n < 512) (hb : ∀ j, 1 ≤ j → j < n → ufind l j = false) (hn : ufind l n = true) : ucut l = n := by
  unfold ucut
  rw [if_neg h, List.find?_range'_eq_some.2 ⟨hn, List.mem_range'_1.2 (by omega), fun j hj hjn => by rw [hb j hj hjn]; rfl⟩]
  rfl
theorem ucut_all {l : List Int} (h : ¬ 3 ≤ usame l) (hb : ∀ j, 1 ≤ j → j < min l.length 512 → ufind l j = false) : ucut l = min l.length 512 := by
  unfold ucut
  rw [if_neg h, List.find?_range'_eq_none.2 fun j hj hjn => by rw [hb j hj (by omega)]; rfl]
  rfl
def UCutRel (l : List Int) (w : World) (i : Value) (wr : World) : Prop := ∃ k : Nat, 1 ≤ k ∧ k ≤ 512 ∧ k ≤ max 1 l.length ∧ i = .int .i64 (k : Int) ∧ (∀ j, 1 ≤ j → j < k → ufind l j = false) ∧ Below w.heap.size w wr
set_option maxHeartbeats 1000000 in
set_option maxRecDepth 100000 in
theorem rcut11_any (l : List Int) (v : Value) (w : World) (hv : IsV iv l v w) (hb : l.length ≤ 1000000) :
    Calls Tryz.prog 37 #[v] w fun e w' => e = .returned (.int .i64 (ucut l : Int)) ∧ Below w.heap.size w w' := by
  have HV := Lib.hid hv
  obtain ⟨A, n, c, rfl⟩ := hv.shape
  have HN := Lib.hid hv.parts.1
  have hnc : n ≤ c := hv.parts.2.2.1
  have hci : (c : Int) ≤ 9223372036854775807 := by have := hv.parts.2.2.2.1; unfold maxLen at this; omega
  have hn6 : n ≤ 1000000 := by have := HN.out; omega
  have HL := Lib.hid hb
  have HS := Lib.hid (fun W (h : Below w.heap.size w W) => rsame11_any l _ W (HV.out.below h) HL.out)
  obtain ⟨u, hu⟩ : ∃ u, u = usame l := ⟨_, rfl⟩
  rw [← hu] at HS
  have hun : u ≤ n := by have := usame_le l; have := HN.out; omega
  have HU := Lib.hid hu
  have hmu : ∀ (ts : Array TypeId) (t : TypeId) (W : World), (Builtin.min_ ts t #[.int .i64 (u : Int), .int .i64 512]).run Tryz.prog W = .ok (.int .i64 ((min u 512 : Nat) : Int)) W := fun ts t W => by
    rw [run_min_int2]
    congr 2
    split <;> omega
  have hmn : ∀ (ts : Array TypeId) (t : TypeId) (W : World), (Builtin.min_ ts t #[.int .i64 (n : Int), .int .i64 512]).run Tryz.prog W = .ok (.int .i64 ((min n 512 : Nat) : Int)) W := fun ts t W => by
    rw [run_min_int2]
    congr 2
    split <;> omega
  clear hv hb hu
  by_cases hu3 : 3 ≤ u
  · have d0 : decide (0 < n) = true := decide_eq_true (by omega)
    have hu3i : (3 : Int) ≤ (u : Int) := by omega
    have hE : Hid (ucut l = min u 512) := Lib.hid (by rw [HU.out]; exact ucut_same (by rw [← HU.out]; exact hu3))
    go_enter Tryz.func37, Tryz.ntmps37
    go_wp2_with fail
    refine (HS.out _ (Below.refl _ _)).mono ?_
    rintro e w1 ⟨rfl, hb1⟩
    have HB1 := Lib.hid hb1
    clear hb1
    go_wp2_with fail
    refine (HS.out _ HB1.out).mono ?_
    rintro e w2 ⟨rfl, hb2⟩
    have HB2 := Lib.hid (below_then HB1.out hb2)
    clear hb2
    go_wp2
    go_ret
    exact ⟨by rw [hE.out]; rfl, HB2.out⟩
  · have hu3i : ¬ (3 : Int) ≤ (u : Int) := by omega
    have HU3 : Hid (¬ 3 ≤ usame l) := Lib.hid (by rw [← HU.out]; exact hu3)
    by_cases h0 : n = 0
    · subst h0
      have hE : Hid (ucut l = min 0 512) := Lib.hid (by
        rw [ucut_all HU3.out (fun j h1 h2 => by have := HN.out; omega), HN.out])
      go_enter Tryz.func37, Tryz.ntmps37
      go_wp2
      go_loopw [3] (UCutRel l w) (fun i _ => 513 - (intOf i).toNat)
      case atStart => exact ⟨1, by omega, by omega, by omega, rfl, fun j h1 h2 => by omega, Below.refl _ _⟩
      case round =>
        obtain ⟨k, hk1, hk5, hkn, rfl, hno, hbw⟩ := hrel
        have d1 : decide ((k : Int) < 0) = false := decide_eq_false (by omega)
        clear hno
        go_wp2
        go_ret
        exact ⟨by rw [hE.out]; rfl, hbw⟩
    · have d0 : decide (0 < n) = true := decide_eq_true (by omega)
      go_enter Tryz.func37, Tryz.ntmps37
      go_wp2_with fail
      refine (HS.out _ (Below.refl _ _)).mono ?_
      rintro e w1 ⟨rfl, hb1⟩
      have HB1 := Lib.hid hb1
      clear hb1
      go_wp2
      go_loopw [3] (UCutRel l w) (fun i _ => 513 - (intOf i).toNat)
      case atStart => exact ⟨1, by omega, by omega, by omega, rfl, fun j h1 h2 => by omega, HB1.out⟩
      case round =>
        obtain ⟨k, hk1, hk5, hkn, rfl, hno, hbw⟩ := hrel
        have HNO := Lib.hid hno
        have HBW := Lib.hid hbw
        have hkn' : k ≤ n := by have := HN.out; omega
        clear hno hbw
        by_cases hgo : k < n ∧ k < 512
        · obtain ⟨hlt, hlt5⟩ := hgo
          have d1 : decide (k < n) = true := decide_eq_true hlt
          have d2 : decide ((k : Int) < 512) = true := decide_eq_true (by omega)
          obtain ⟨v4, hv4, hI4⟩ := fromV_named (P := Tryz.prog) elemI (k := k) hkn' (HV.out.below HBW.out)
          obtain ⟨g, hg⟩ : ∃ g, g = usame (l.drop k) := ⟨_, rfl⟩
          have HS4 := Lib.hid (rsame11_any (l.drop k) v4 wr hI4 (by rw [List.length_drop]; have := HL.out; omega))
          rw [← hg] at HS4
          have hgb : g ≤ 1000000 := by have := usame_le (l.drop k); rw [List.length_drop] at this; have := HL.out; omega
          have HG := Lib.hid hg
          clear hg hI4
          by_cases h5 : 5 ≤ g
          · have hE : Hid (ucut l = k) := Lib.hid (ucut_at HU3.out hk1 (by have := HN.out; omega) hlt5 HNO.out (by unfold ufind; rw [← HG.out]; exact decide_eq_true h5))
            have h5i : (5 : Int) ≤ (g : Int) := by omega
            go_wp2_with (refine wpList_slicedL rfl _ _ _ rfl _ (hv4 _) ?_)
            refine HS4.out.mono ?_
            rintro e w2 ⟨rfl, hb2⟩
            have HB2 := Lib.hid (below_then HBW.out hb2)
            clear hb2
            go_wp2
            go_ret
            exact ⟨by rw [hE.out]; rfl, HB2.out⟩
          · have h5i : ¬ (5 : Int) ≤ (g : Int) := by omega
            go_wp2_with (refine wpList_slicedL rfl _ _ _ rfl _ (hv4 _) ?_)
            refine HS4.out.mono ?_
            rintro e w2 ⟨rfl, hb2⟩
            have HB2 := Lib.hid (below_then HBW.out hb2)
            clear hb2
            go_wp2
            go_roundw
            case rel =>
              refine ⟨k + 1, by omega, by omega, by have := HN.out; omega, by go_num, fun j h1 h2 => ?_, HB2.out⟩
              by_cases hj : j < k
              · exact HNO.out j h1 hj
              · obtain rfl : j = k := by omega
                unfold ufind
                rw [← HG.out]
                exact decide_eq_false h5
            case measure => simp [intOf]; omega
        · have hE : Hid (ucut l = min n 512) := Lib.hid (by
            rw [ucut_all HU3.out (fun j h1 h2 => HNO.out j h1 (by have := HN.out; omega)), HN.out])
          have hd : decide (k < n) = false ∨ (decide (k < n) = true ∧ decide ((k : Int) < 512) = false) := by
            by_cases h : k < n
            · exact .inr ⟨decide_eq_true h, decide_eq_false (by omega)⟩
            · exact .inl (decide_eq_false h)
          clear hgo
          rcases hd with d1 | ⟨d1, d2⟩
          all_goals
            go_wp2
            go_ret
            exact ⟨by rw [hE.out]; rfl, HBW.out⟩
end Go.Proofs.YtblpkmmhmdpkjaaGreatDoor
