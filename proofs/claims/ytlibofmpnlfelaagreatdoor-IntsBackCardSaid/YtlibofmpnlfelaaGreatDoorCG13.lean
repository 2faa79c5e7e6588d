/- Texts that the claims of this seat share, part 13: ITimes IIs IShown. -/
import Derived.Test.YtlibofmpnlfelaaGreatDoorCG12
/- ints' own contracts: times. Written by gen_itimes.py. -/





namespace Go.Proofs.YtlibofmpnlfelaaGreatDoor

open Go.RowKit

theorem ipair_info : ∃ i, Tryz.prog.info? 66 = some i ∧ i.zero = some (ipv (0, 0)) := by
  have h : (Tryz.prog.info? 66).map (fun i => i.zero) = some (some (ipv (0, 0))) := by kernel_rfl
  cases hi : Tryz.prog.info? 66 with
  | none => rw [hi] at h; cases h
  | some i => rw [hi] at h; injection h with h; exact ⟨i, rfl, h⟩
def Fact.imade (B : Nat) : Fact := ⟨fun v W => ∃ h, v = .pointer (some ⟨h, 0, none⟩) ∧ B ≤ h ∧ Row W h 66 (ipc (0, 0)), fun _ _ _ ⟨h, h1, h2, h3⟩ hb => ⟨h, h1, h2, h3.below hb h3.lt⟩⟩
theorem gives_ipair {o : Oper} {ρ : Operand → Value} {w : World} {R : Value → World → Prop} {x0 x1 : Operand} {a b : Int} (ho : o.op = .build 66 #[(0, x0), (1, x1)])
    (h0 : ρ x0 = .int .i64 a) (h1 : ρ x1 = .int .i64 b) (hR : R (ipv (a, b)) w) : Gives Tryz.prog o ρ w R := by
  refine gives_of (v := ipv (a, b)) (w' := w) ?_ hR
  simp [execOp, ho, h0, h1, go_sem]
  rfl
theorem eqP (a b : Int × Int) (w : World) : (Op.equalIn 10000 66 (ipv a) (ipv b)).run Tryz.prog w = .ok (a == b) w := by
  have hS : Tryz.prog.underlying 66 = some (.struct (Tryz.prog.fieldsOf 66)) := by kernel_rfl
  have hp : Tryz.prog.stoodInHeld 66 = false := by kernel_rfl
  obtain ⟨a1, a2⟩ := a
  obtain ⟨b1, b2⟩ := b
  unfold ipv ipc
  have u1 := Tryz.underlying3
  have s1 := Tryz.sizeOf3
  have g1 := Tryz.isAgg3
  rw [show (10000 : Nat) = 9999 + 1 from rfl, run_equalIn_agg w 9999 66 _ _ hS hp]
  simp only [Program.fieldsOf, Tryz.underlying66]
  go_simp
  have hq : ((a1, a2) == (b1, b2)) = (a1 == b1 && a2 == b2) := rfl
  rw [hq]
  by_cases h1 : a1 = b1
  · subst h1
    by_cases h2 : a2 = b2
    · subst h2; simp
    · simp [h2]
  · simp [h1]
theorem gives_neqP {o : Oper} {ρ : Operand → Value} {w : World} {R : Value → World → Prop} {x y : Operand} {a b : Int × Int} (ho : o.op = .binOp .neq 66 x y 66) (hx : ρ x = ipv a) (hy : ρ y = ipv b)
    (hR : R (.bool (!(a == b))) w) : Gives Tryz.prog o ρ w R := by
  refine gives_of (v := .bool (!(a == b))) (w' := w) ?_ hR
  have hg := run_eqGuard_agg (P := Tryz.prog) w .neq 66 x y (ipc a).toArray (ipc b).toArray (by kernel_rfl)
  have hq := run_neq_struct (P := Tryz.prog) w 66 (ipc a).toArray (ipc b).toArray
  have he := eqP a b w
  unfold ipv at he
  rw [he] at hq
  unfold ipv at hx hy
  simp [execOp, ho, hx, hy, hg, hq]
/-- Two parts put together, and taken apart again: the same, where they are a number's. -/
theorem ibad_wrap {n s y x : Int} (h0 : 0 ≤ s) (hy : IntKind.i64.wrap (n * 1000) = y) (hx : IntKind.i64.wrap (y + s) = x) : ((iparts x = (n, s) → ibad n s = false) ∧ (ibad n s = false → iparts x = (n, s))) ∧ (ibad n s = false → x = 1000 * n + s) := by
  have hi : inInt x := by rw [← hx, IntKind.wrap_i64]; unfold inInt; omega
  have hgo : ibad n s = false → x = 1000 * n + s := by
    intro h
    obtain ⟨h1, h2, h3, h4, h5⟩ := ibad_range h h0
    rw [IntKind.wrap_i64] at hy hx
    omega
  refine ⟨⟨fun h => ?_, fun h => ?_⟩, hgo⟩
  · unfold iparts at h
    injection h with h1 h2
    unfold inInt at hi
    rw [← h1, ← h2]
    exact ibad_no hi
  · have h1 := hgo h
    obtain ⟨h2, _⟩ := ibad_range h h0
    unfold iparts
    exact Prod.ext (by dsimp only; omega) (by dsimp only; omega)
/-- What stands in a row of numbers, where it is there. -/
def RetNB (w : World) (o : Option (List Int)) (e : Ending) (w' : World) : Prop := ∃ u, e = .returned (.tuple #[u, .bool o.isSome]) ∧ (∀ l, o = some l → IsV iv l u w') ∧ Below w.heap.size w w'
theorem RetNB.none {w w' : World} (h : Below w.heap.size w w') : RetNB w .none (.returned (.tuple #[.slice .none 0 0, .bool false])) w' := ⟨_, rfl, (fun _ h => by cases h), h⟩
/-- The numbers of Time of two rows. -/
def itimeN (l m : List Int) : Option (List Int) := (itime l m).map fun o => o.map (·.n)
def itimesE (b : List UInt8) (many : Int) : Option (List Int) :=
  if (utakeE b many true).2.2 ≠ 0 then none else if (utakeE (utakeE b many true).2.1 many false).2.2 ≠ 0 ∨ 0 < (utakeE (utakeE b many true).2.1 many false).2.1.length then none else itimeN (utakeE b many true).1 (utakeE (utakeE b many true).2.1 many false).1
theorem ionly_nums (l : List Int) (r : List UInt8) (u v : Value) (x : Int) (w : World) (ok : Bool) (hok : ok = decide (x = 0 ∧ r.length = 0)) (hu : IsV iv l u w) (hr : IsB r v w) :
    Calls Tryz.prog 50 #[u, v, .int .i64 x] w fun e w' => (∃ u', e = .returned (.tuple #[u', .bool ok]) ∧ ∃ l', IsV iv l' u' w ∧ l'.length ≤ l.length ∧ (ok = true → l' = l)) ∧ w = w' := by
  obtain ⟨A, n, c, rfl⟩ := IsV.shape (f := bv) hr
  have hn := (IsV.parts (f := bv) (show IsV bv r _ _ from hr)).1
  have HU := Lib.hid hu
  by_cases h : x = 0 ∧ n = 0
  · obtain ⟨rfl, rfl⟩ := h
    have d1 : (((0 : Nat) : Int) != 0) = false := rfl
    have d2 : ((0 : Int) != 0) = false := rfl
    rw [decide_eq_true ⟨rfl, hn⟩] at hok
    subst hok
    clear hr hu hn
    go_enter Tryz.func50, Tryz.ntmps50
    go_wp2
    go_ret2
    exact ⟨⟨_, rfl, l, HU.out, Nat.le_refl _, fun _ => rfl⟩, rfl⟩
  · rw [decide_eq_false (by rw [hn]; exact h)] at hok
    subst hok
    by_cases hx : x = 0
    · subst hx
      have d1 : ((n : Int) != 0) = true := by simpa using h
      have d2 : ((0 : Int) != 0) = false := rfl
      clear hr hu hn h
      go_enter Tryz.func50, Tryz.ntmps50
      go_wp2
      go_ret2
      exact ⟨⟨_, rfl, [], isV_nil _ _, Nat.zero_le _, fun h => absurd h (by simp)⟩, rfl⟩
    · have d2 : (x != 0) = true := by simpa using hx
      clear hr hu hn h hx
      go_enter Tryz.func50, Tryz.ntmps50
      go_wp2
      go_ret2
      exact ⟨⟨_, rfl, [], isV_nil _ _, Nat.zero_le _, fun h => absurd h (by simp)⟩, rfl⟩
theorem ionly_truths (l : List Bool) (r : List UInt8) (u v : Value) (x : Int) (w : World) (ok : Bool) (hok : ok = decide (x = 0 ∧ r.length = 0)) (hu : IsV Value.bool l u w) (hr : IsB r v w) :
    Calls Tryz.prog 45 #[u, v, .int .i64 x] w fun e w' => (∃ u', e = .returned (.tuple #[u', .bool ok]) ∧ ∃ l', IsV Value.bool l' u' w ∧ l'.length ≤ l.length ∧ (ok = true → l' = l)) ∧ w = w' := by
  obtain ⟨A, n, c, rfl⟩ := IsV.shape (f := bv) hr
  have hn := (IsV.parts (f := bv) (show IsV bv r _ _ from hr)).1
  have HU := Lib.hid hu
  by_cases h : x = 0 ∧ n = 0
  · obtain ⟨rfl, rfl⟩ := h
    have d1 : (((0 : Nat) : Int) != 0) = false := rfl
    have d2 : ((0 : Int) != 0) = false := rfl
    rw [decide_eq_true ⟨rfl, hn⟩] at hok
    subst hok
    clear hr hu hn
    go_enter Tryz.func45, Tryz.ntmps45
    go_wp2
    go_ret2
    exact ⟨⟨_, rfl, l, HU.out, Nat.le_refl _, fun _ => rfl⟩, rfl⟩
  · rw [decide_eq_false (by rw [hn]; exact h)] at hok
    subst hok
    by_cases hx : x = 0
    · subst hx
      have d1 : ((n : Int) != 0) = true := by simpa using h
      have d2 : ((0 : Int) != 0) = false := rfl
      clear hr hu hn h
      go_enter Tryz.func45, Tryz.ntmps45
      go_wp2
      go_ret2
      exact ⟨⟨_, rfl, [], isV_nil _ _, Nat.zero_le _, fun h => absurd h (by simp)⟩, rfl⟩
    · have d2 : (x != 0) = true := by simpa using hx
      clear hr hu hn h hx
      go_enter Tryz.func45, Tryz.ntmps45
      go_wp2
      go_ret2
      exact ⟨⟨_, rfl, [], isV_nil _ _, Nat.zero_le _, fun h => absurd h (by simp)⟩, rfl⟩
def ITimesRel (l m : List Int) (M : Nat) (w2 : World) (i : Value) (wr : World) : Prop :=
  ∃ (j : Nat) (o : List Int), j ≤ M ∧ i = .int .i64 (j : Int) ∧ o.length = M ∧ itime (l.take j) (m.take j) = some ((o.take j).map nv) ∧ Row wr w2.heap.size 3 (o.map iv) ∧ Below w2.heap.size w2 wr
set_option maxHeartbeats 8000000 in
set_option maxRecDepth 100000 in
theorem itimes_any (b : List UInt8) (v : Value) (M : Nat) (w : World) (ht : WTab w) (hv : IsB b v w) (hb : b.length ≤ 1000000) (hM : M ≤ 4096) :
    Calls Tryz.prog 49 #[v, .int .i64 (M : Int)] w (RetNB w (itimesE b M)) := by
  have hin : inInt (M : Int) := by unfold inInt; omega
  have HQ := Lib.hid (utake_any b v (M : Int) true w ht hv hb hin)
  have HT := Lib.hid ht
  have HBL := Lib.hid hb
  have HIN := Lib.hid hin
  obtain ⟨l, r, x, hq⟩ : ∃ l r x, utakeE b (M : Int) true = (l, r, x) := ⟨_, _, _, rfl⟩
  obtain ⟨m, q, y, hq2⟩ : ∃ m q y, utakeE r (M : Int) false = (m, q, y) := ⟨_, _, _, rfl⟩
  obtain ⟨ans, hans⟩ : ∃ o, o = itimesE b M := ⟨_, rfl⟩
  rw [← hans]
  have HANS : Hid (ans = if x ≠ 0 then none else if y ≠ 0 ∨ 0 < q.length then none else itimeN l m) := Lib.hid (by
    rw [hans]
    unfold itimesE
    rw [hq]
    dsimp only
    rw [hq2])
  rw [hq] at HQ
  have HQQ := Lib.hid hq
  have HQQ2 := Lib.hid hq2
  clear hans hv hq hq2 ht hb hin
  go_enter Tryz.func49, Tryz.ntmps49
  go_wp2_with fail
  refine HQ.out.mono ?_
  rintro e w1 ⟨lv, rv, rfl, hlv, hrv, hb1⟩
  have HB1 := Lib.hid hb1
  have HLV := Lib.hid hlv
  have HRV := Lib.hid hrv
  have HT1 := Lib.hid (HT.out.below hb1 HT.out.lt)
  clear hlv hrv hb1
  by_cases hx : x = 0
  case neg =>
    have d4 : (x != 0) = true := by simpa using hx
    obtain rfl : ans = none := by rw [HANS.out, if_pos hx]
    clear hx
    go_wp2
    go_ret2
    exact RetNB.none HB1.out
  subst hx
  have HLL := Lib.hid (utakeE_ok HQQ.out).1
  have HQ2 := Lib.hid (utake_any r rv (M : Int) false w1 HT1.out HRV.out (by have := utakeE_rest HQQ.out; have := HBL.out; omega) HIN.out)
  rw [HQQ2.out] at HQ2
  go_wp2_with fail
  refine HQ2.out.mono ?_
  rintro e w2 ⟨mv, qv, rfl, hmv, hqv, hb2⟩
  have HB2 := Lib.hid (below_then HB1.out hb2)
  have HL2 := Lib.hid (HLV.out.below hb2)
  obtain ⟨ok, hok⟩ : ∃ ok, ok = decide (y = 0 ∧ q.length = 0) := ⟨_, rfl⟩
  have HO := Lib.hid (ionly_nums m q mv qv y w2 ok hok hmv hqv)
  have HOK := Lib.hid hok
  clear hmv hqv hb2 hok
  go_wp2_with fail
  refine HO.out.mono ?_
  rintro e w3 ⟨⟨mv2, rfl, m2, hm2, _, hmm⟩, rfl⟩
  have HMM := Lib.hid hmm
  have HM0 := Lib.hid hm2
  clear hmm hm2
  cases ok with
  | false =>
    obtain rfl : ans = none := by
      have h := of_decide_eq_false HOK.out.symm
      rw [HANS.out, if_neg (by simp), if_pos (by omega)]
    go_wp2
    go_ret2
    exact RetNB.none HB2.out
  | true =>
  have hok := of_decide_eq_true HOK.out.symm
  have hans : ans = itimeN l m := by rw [HANS.out, if_neg (by simp), if_neg (by omega)]
  subst hans
  have hy0 := hok.1
  subst hy0
  have HM2 : Hid (IsV iv m mv2 w2) := Lib.hid (by have h := HM0.out; rw [HMM.out rfl] at h; exact h)
  clear hok
  have HML := Lib.hid (utakeE_ok HQQ2.out).1
  have HMP := Lib.hid ((utakeE_ok HQQ2.out).2 rfl)
  obtain ⟨Bl, ln, lc, rfl⟩ := HL2.out.shape
  obtain ⟨Bm, mn, mc, rfl⟩ := HM2.out.shape
  have HLN := Lib.hid (show ln = M by rw [← HL2.out.parts.1]; exact HLL.out)
  have HMN := Lib.hid (show mn = M by rw [← HM2.out.parts.1]; exact HML.out)
  go_wp2_with (refine wpList_make elemI rfl _ _ rfl _ _ _ _ M w2 w2.heap.size rfl rfl rfl rfl (by omega) (by omega) (Below.refl _ _) (Nat.le_refl _) ?_)
  intro w4 hr4 hb4
  have HST := Lib.hid (show ITimesRel l m M w2 (.int .i64 0) w4 from ⟨0, List.replicate M 0, Nat.zero_le _, rfl, by simp, by simp [itime], by simpa [iv] using hr4, hb4⟩)
  clear hr4 hb4
  go_wp2
  go_loopw [38] (ITimesRel l m M w2) (fun i _ => M - (intOf i).toNat)
  case atStart => exact HST.out
  case round =>
    obtain ⟨j, o, hj, rfl, ho, hacc, hr, hbw⟩ := hrel
    have HO := Lib.hid ho
    have HACC := Lib.hid hacc
    have HR := Lib.hid hr
    have HBW := Lib.hid hbw
    have HZ := Lib.hid hbw.size
    clear ho hacc hr hbw
    by_cases hlt : j < M
    · have hlti : (j : Int) < (M : Int) := by omega
      have hjl : j < l.length := by rw [HLL.out]; exact hlt
      have hjm : j < m.length := by rw [HML.out]; exact hlt
      have hjo : j < o.length := by rw [HO.out]; exact hlt
      have hjn : j < ln := by rw [HLN.out]; exact hlt
      have hjn2 : j < mn := by rw [HMN.out]; exact hlt
      obtain ⟨ad, hAd, had, hcell⟩ := (HL2.out.below HBW.out).at hjl
      obtain ⟨bd, hBd, hbd, hcell2⟩ := (HM2.out.below HBW.out).at hjm
      subst hAd hBd
      obtain ⟨y, hy⟩ : ∃ y, y = l[j] := ⟨_, rfl⟩
      obtain ⟨z, hzz⟩ : ∃ z, z = m[j] := ⟨_, rfl⟩
      have HCY : Hid (wr.cell? (ad.add j) = some (.int .i64 y)) := Lib.hid (by rw [hcell, ← hy]; rfl)
      have HCZ : Hid (wr.cell? (bd.add j) = some (.int .i64 z)) := Lib.hid (by rw [hcell2, ← hzz]; rfl)
      have HLA : Hid ((ad.add j).block < wr.heap.size) := Lib.hid (by unfold Addr.add; split <;> exact had)
      have HLB : Hid ((bd.add j).block < wr.heap.size) := Lib.hid (by unfold Addr.add; split <;> exact hbd)
      have hzp : 0 ≤ z := by rw [hzz]; exact HMP.out _ (List.getElem_mem hjm)
      obtain ⟨i1, i2⟩ := itime_take hjl hjm HACC.out
      rw [← hy, ← hzz] at i1 i2
      have HI1 : Hid (ibad y z = true → itimeN l m = none) := Lib.hid (fun h => by unfold itimeN; rw [i1 h]; rfl)
      have HI2 := Lib.hid i2
      obtain ⟨y2, hy2⟩ : ∃ y2, IntKind.i64.wrap (y * 1000) = y2 := ⟨_, rfl⟩
      obtain ⟨x, hx2⟩ : ∃ x, IntKind.i64.wrap (y2 + z) = x := ⟨_, rfl⟩
      have IW := Lib.hid (ibad_wrap hzp hy2 hx2)
      have HXI : Hid (inInt x) := Lib.hid (by rw [← hx2, IntKind.wrap_i64]; unfold inInt; omega)
      clear hy hzz hcell hcell2 i1 i2 had hbd hzp
      go_wp2_with fail
      refine wp_region_list_tail 10 [.is (.slice (some ad) ln lc), .is (.int .i64 (j : Int)), .is (.pointer (some (ad.add j))), .is (.int .i64 y), .is (.slice (some bd) mn mc), .is (.int .i64 (j : Int)), .is (.pointer (some (bd.add j))), .is (.int .i64 z), .is (ipv (y, z)), .imade wr.heap.size] [some 41, some 42, some 43, some 44, some 45, some 46, some 47, some 48, some 49, some 12] (by kernel_rfl) (by kernel_rfl) (by kernel_rfl) (by kernel_rfl) rfl ⟨?_, ?_, ?_, ?_, ?_, ?_, ?_, ?_, ?_, ?_, trivial⟩ ?_
      · intro ρ W1 hb1 H
        exact gives_move rfl (H.old 6 _ (by kernel_rfl) rfl) ⟨rfl, Below.refl _ _⟩
      · intro ρ W1 hb1 H
        exact gives_move rfl (H.old 11 _ (by kernel_rfl) rfl) ⟨rfl, Below.refl _ _⟩
      · intro ρ W1 hb1 H
        exact gives_index (k := j) elemI rfl (H.new 41 0 (by kernel_rfl)) (H.new 42 1 (by kernel_rfl)) (hjn) ⟨rfl, Below.refl _ _⟩
      · intro ρ W1 hb1 H
        exact gives_load rfl (H.new 43 2 (by kernel_rfl)) Tryz.underlying3 rfl ((hb1.cell HLA.out).trans HCY.out) ⟨rfl, Below.refl _ _⟩
      · intro ρ W1 hb1 H
        exact gives_move rfl (H.old 8 _ (by kernel_rfl) rfl) ⟨rfl, Below.refl _ _⟩
      · intro ρ W1 hb1 H
        exact gives_move rfl (H.old 11 _ (by kernel_rfl) rfl) ⟨rfl, Below.refl _ _⟩
      · intro ρ W1 hb1 H
        exact gives_index (k := j) elemI rfl (H.new 45 4 (by kernel_rfl)) (H.new 46 5 (by kernel_rfl)) (hjn2) ⟨rfl, Below.refl _ _⟩
      · intro ρ W1 hb1 H
        exact gives_load rfl (H.new 47 6 (by kernel_rfl)) Tryz.underlying3 rfl ((hb1.cell HLB.out).trans HCZ.out) ⟨rfl, Below.refl _ _⟩
      · intro ρ W1 hb1 H
        exact gives_ipair rfl (H.new 44 3 (by kernel_rfl)) (H.new 48 7 (by kernel_rfl)) ⟨rfl, Below.refl _ _⟩
      · intro ρ W1 hb1 H
        exact gives_alloc ipair_info.choose_spec.1 ipair_info.choose_spec.2 rfl ⟨⟨_, rfl, hb1.size, heap_alloc_new W1 _⟩, (Below.refl _ _).alloc (Nat.le_refl _) _⟩
      · intro vs W1 hb1 hfs
        have f0 : vs 0 = .slice (some ad) ln lc := hfs 0 (by decide)
        have f1 : vs 1 = .int .i64 (j : Int) := hfs 1 (by decide)
        have f2 : vs 2 = .pointer (some (ad.add j)) := hfs 2 (by decide)
        have f3 : vs 3 = .int .i64 y := hfs 3 (by decide)
        have f4 : vs 4 = .slice (some bd) mn mc := hfs 4 (by decide)
        have f5 : vs 5 = .int .i64 (j : Int) := hfs 5 (by decide)
        have f6 : vs 6 = .pointer (some (bd.add j)) := hfs 6 (by decide)
        have f7 : vs 7 = .int .i64 z := hfs 7 (by decide)
        have f8 : vs 8 = ipv (y, z) := hfs 8 (by decide)
        have f9 : ∃ h, vs 9 = .pointer (some ⟨h, 0, none⟩) ∧ wr.heap.size ≤ h ∧ Row W1 h 66 (ipc (0, 0)) := hfs 9 (by decide)
        clear hfs
        simp only [putAll, Nat.zero_add, Nat.reduceAdd, List.drop_succ_cons, List.drop_zero]
        generalize vs 9 = z9 at f9 ⊢
        simp only [f0, f1, f2, f3, f4, f5, f6, f7, f8, Act.put, List.setIfInBounds_toArray, List.set_cons_succ, List.set_cons_zero]
        clear f0 f1 f2 f3 f4 f5 f6 f7 f8
        obtain ⟨h, f9, hBh, hrow⟩ := f9
        subst f9
        refine wpList_storeWhole rfl _ _ _ rfl h 66 (ipc (0, 0)) (ipc (y, z)) rfl rfl hrow infoP_size rfl (ipc_one _) ?_
        intro w4 hw4
        have HRH : Hid (Row w4 h 66 [.int .i64 y, .int .i64 z]) := Lib.hid (by rw [hw4]; exact rowAll_set (cs := ipc (y, z)) hrow)
        have HB4r := Lib.hid (show Below wr.heap.size wr w4 by rw [hw4]; exact below_setRow hb1 hBh _)
        have HRO := Lib.hid (HR.out.below HB4r.out HR.out.lt)
        have HB4 := Lib.hid (HBW.out.trans (HB4r.out.mono HZ.out))
        have HNE : Hid (h ≠ w2.heap.size) := Lib.hid (by have := HR.out.lt; omega)
        have HHB : Hid (w2.heap.size ≤ h) := Lib.hid (by have := HR.out.lt; omega)
        clear hrow hw4 hb1
        have k0 := HRH.out.cell 0
        have k1 := HRH.out.cell 1
        have hcx : w4.cell? ⟨w2.heap.size, j, none⟩ = some (.int .i64 o[j]) := by rw [HRO.out.cell, List.getElem?_map, List.getElem?_eq_getElem hjo]; rfl
        have hfx := HRO.out.free j
        have hr5 := HRO.out.set_ j (.int .i64 x)
        rw [show (o.map iv).set j (.int .i64 x) = (o.set j x).map iv from List.map_set.symm] at hr5
        have HR5 := Lib.hid hr5
        have HH5 := Lib.hid (HRH.out.far (p := ⟨w2.heap.size, j, none⟩) HNE.out (.int .i64 x))
        have HB5 := Lib.hid (HB4.out.setCell (p := ⟨w2.heap.size, j, none⟩) (Nat.le_refl _) (.int .i64 x))
        clear hr5 hBh
        go_wp2
        obtain ⟨w5, hw5⟩ : ∃ w5, w5 = w4.setCell ⟨w2.heap.size, j, none⟩ (.int .i64 x) := ⟨_, rfl⟩
        rw [← hw5] at HR5 HH5 HB5 ⊢
        have HLR := Lib.hid HR5.out.lt
        have HCX : Hid (w5.cell? ⟨w2.heap.size, j, none⟩ = some (.int .i64 x)) := Lib.hid (by rw [HR5.out.cell, List.getElem?_map, List.getElem?_set_self hjo]; rfl)
        clear hw5 k0 k1 hcx hfx
        have hjM : j < M := hlt
        by_cases hbad : ibad y z = true
        · have HNQ : Hid ((iparts x == (y, z)) = false) := Lib.hid (by
            rw [beq_eq_false_iff_ne]
            intro h
            have h1 := IW.out.1.1 h
            rw [h1] at hbad
            cases hbad)
          have HBT := Lib.hid (HI1.out hbad)
          clear hbad
          refine wp_region_list [.is (.slice (some ⟨w2.heap.size, 0, none⟩) M M), .is (.int .i64 (j : Int)), .is (.pointer (some ⟨w2.heap.size, j, none⟩)), .is (.int .i64 x), .is (ipv (iparts x)), .is (ipv (y, z)), .is (.bool true)] [some 59, some 60, some 61, some 62, some 63, some 64, some 65] (by kernel_rfl) (by kernel_rfl) (by kernel_rfl) rfl ⟨?_, ?_, ?_, ?_, ?_, ?_, ?_, trivial⟩ ?_
          · intro ρ W1 hb1 H
            exact gives_move rfl (H.old 10 _ (by kernel_rfl) rfl) ⟨rfl, Below.refl _ _⟩
          · intro ρ W1 hb1 H
            exact gives_move rfl (H.old 11 _ (by kernel_rfl) rfl) ⟨rfl, Below.refl _ _⟩
          · intro ρ W1 hb1 H
            exact gives_index (k := j) elemI rfl (H.new 59 0 (by kernel_rfl)) (H.new 60 1 (by kernel_rfl)) (hjM) ⟨congrArg (fun q => Value.pointer (some q)) (by simp [Addr.add]; intro h; exact h.symm), Below.refl _ _⟩
          · intro ρ W1 hb1 H
            exact gives_load rfl (H.new 61 2 (by kernel_rfl)) Tryz.underlying3 rfl ((hb1.cell HLR.out).trans HCX.out) ⟨rfl, Below.refl _ _⟩
          · intro ρ W1 hb1 H
            have e0 : ρ (.tmp 62) = .int .i64 x := H.new 62 3 (by kernel_rfl)
            refine gives_call rfl (fun _ _ => by kernel_rfl) (H.func _) (args := #[.int .i64 x]) (by simp [e0]) ?_
            exact (isplit_any x W1 HXI.out).mono fun e w' ⟨h1, h2⟩ => ⟨_, h1, rfl, h2⟩
          · intro ρ W1 hb1 H
            exact gives_load_row (cs := ipc (y, z)) rfl (H.old 12 _ (by kernel_rfl) rfl) Tryz.underlying66 rfl infoP_size (HH5.out.below hb1 HH5.out.lt) ⟨rfl, Below.refl _ _⟩
          · intro ρ W1 hb1 H
            exact gives_neqP rfl (H.new 63 4 (by kernel_rfl)) (H.new 64 5 (by kernel_rfl)) ⟨by rw [HNQ.out]; rfl, Below.refl _ _⟩
          · intro vs W1 hb1 hfs
            have f6 : vs 6 = .bool true := hfs 6 (by decide)
            clear hfs
            simp only [putAll, Nat.zero_add, Nat.reduceAdd]
            generalize vs 0 = z0
            generalize vs 1 = z1
            generalize vs 2 = z2
            generalize vs 3 = z3
            generalize vs 4 = z4
            generalize vs 5 = z5
            simp only [f6, Act.put, List.setIfInBounds_toArray, List.set_cons_succ, List.set_cons_zero]
            clear f6
            have HBE := Lib.hid (HB5.out.trans (hb1.mono (by have := HB5.out.size; omega)))
            clear hb1
            go_wp2
            go_ret2
            rw [HBT.out]
            exact RetNB.none (below_then HB2.out HBE.out)
        · have hgo : ibad y z = false := by simpa using hbad
          have HNQ : Hid ((iparts x == (y, z)) = true) := Lib.hid (by rw [beq_iff_eq]; exact IW.out.1.2 hgo)
          have HX := Lib.hid (IW.out.2 hgo)
          have HACC2 := Lib.hid (HI2.out hgo)
          clear hbad hgo
          refine wp_region_list [.is (.slice (some ⟨w2.heap.size, 0, none⟩) M M), .is (.int .i64 (j : Int)), .is (.pointer (some ⟨w2.heap.size, j, none⟩)), .is (.int .i64 x), .is (ipv (iparts x)), .is (ipv (y, z)), .is (.bool false)] [some 59, some 60, some 61, some 62, some 63, some 64, some 65] (by kernel_rfl) (by kernel_rfl) (by kernel_rfl) rfl ⟨?_, ?_, ?_, ?_, ?_, ?_, ?_, trivial⟩ ?_
          · intro ρ W1 hb1 H
            exact gives_move rfl (H.old 10 _ (by kernel_rfl) rfl) ⟨rfl, Below.refl _ _⟩
          · intro ρ W1 hb1 H
            exact gives_move rfl (H.old 11 _ (by kernel_rfl) rfl) ⟨rfl, Below.refl _ _⟩
          · intro ρ W1 hb1 H
            exact gives_index (k := j) elemI rfl (H.new 59 0 (by kernel_rfl)) (H.new 60 1 (by kernel_rfl)) (hjM) ⟨congrArg (fun q => Value.pointer (some q)) (by simp [Addr.add]; intro h; exact h.symm), Below.refl _ _⟩
          · intro ρ W1 hb1 H
            exact gives_load rfl (H.new 61 2 (by kernel_rfl)) Tryz.underlying3 rfl ((hb1.cell HLR.out).trans HCX.out) ⟨rfl, Below.refl _ _⟩
          · intro ρ W1 hb1 H
            have e0 : ρ (.tmp 62) = .int .i64 x := H.new 62 3 (by kernel_rfl)
            refine gives_call rfl (fun _ _ => by kernel_rfl) (H.func _) (args := #[.int .i64 x]) (by simp [e0]) ?_
            exact (isplit_any x W1 HXI.out).mono fun e w' ⟨h1, h2⟩ => ⟨_, h1, rfl, h2⟩
          · intro ρ W1 hb1 H
            exact gives_load_row (cs := ipc (y, z)) rfl (H.old 12 _ (by kernel_rfl) rfl) Tryz.underlying66 rfl infoP_size (HH5.out.below hb1 HH5.out.lt) ⟨rfl, Below.refl _ _⟩
          · intro ρ W1 hb1 H
            exact gives_neqP rfl (H.new 63 4 (by kernel_rfl)) (H.new 64 5 (by kernel_rfl)) ⟨by rw [HNQ.out]; rfl, Below.refl _ _⟩
          · intro vs W1 hb1 hfs
            have f6 : vs 6 = .bool false := hfs 6 (by decide)
            clear hfs
            simp only [putAll, Nat.zero_add, Nat.reduceAdd]
            generalize vs 0 = z0
            generalize vs 1 = z1
            generalize vs 2 = z2
            generalize vs 3 = z3
            generalize vs 4 = z4
            generalize vs 5 = z5
            simp only [f6, Act.put, List.setIfInBounds_toArray, List.set_cons_succ, List.set_cons_zero]
            clear f6
            have HBE := Lib.hid (HB5.out.trans (hb1.mono (by have := HB5.out.size; omega)))
            have HRE := Lib.hid (HR5.out.below hb1 HR5.out.lt)
            clear hb1
            go_wp2
            go_roundw
            case rel =>
              refine ⟨j + 1, o.set j x, hlt, by go_num, by rw [List.length_set]; exact HO.out, ?_, HRE.out, HBE.out⟩
              rw [HACC2.out, set_take _ _ _ hjo, List.map_append, List.map_singleton, HX.out]
            case measure => simp [intOf]; omega
    · obtain rfl : j = M := by omega
      have hlti : ¬ (j : Int) < (j : Int) := by omega
      have HF : Hid (itimeN l m = some o) := Lib.hid (by
        have h := HACC.out
        rw [List.take_of_length_le (Nat.le_of_eq HLL.out), List.take_of_length_le (Nat.le_of_eq HML.out), List.take_of_length_le (Nat.le_of_eq HO.out)] at h
        unfold itimeN
        rw [h]
        show some ((o.map nv).map (·.n)) = some o
        rw [List.map_map]
        exact congrArg some (List.map_id' o))
      have HIO := Lib.hid (isV_row (f := iv) HR.out HO.out (by omega))
      have HBE := Lib.hid (HB2.out.trans (HBW.out.mono HB2.out.size))
      go_wp2
      go_ret2
      rw [HF.out]
      exact ⟨_, rfl, fun l' h' => by injection h' with h'; rw [← h']; exact HIO.out, HBE.out⟩
end Go.Proofs.YtlibofmpnlfelaaGreatDoor

/- ints' own contracts: Put's closure with slices.IndexFunc and slices.ContainsFunc, layTimes, lay, numbers; Put, Take. -/



namespace Go.Proofs.YtlibofmpnlfelaaGreatDoor

open Go.RowKit

def iwrong (k : Int) (x : CV) : Bool := x.null || !kmay k x
theorem imay_wrong (k : Int) : ∀ l : List CV, l.any (iwrong k) = !(imay k l)
  | [] => rfl
  | x :: l => by
    show (iwrong k x || l.any (iwrong k)) = !((!x.null && kmay k x) && imay k l)
    rw [imay_wrong k l]
    unfold iwrong
    cases x.null <;> cases kmay k x <;> cases imay k l <;> rfl
theorem iwrong_any (k : Int) (x : CV) (b : Nat) (w : World) (hk : inInt k) (hx : x.inInt) (hs : x.s.size ≤ maxLen) (hr : Row w b 3 [.int .i64 k]) :
    Calls Tryz.prog 15 #[cv x, .pointer (some ⟨b, 0, none⟩)] w fun e w' => e = .returned (.bool (iwrong k x)) ∧ Below w.heap.size w w' := by
  obtain ⟨xb, xn, xs⟩ := x
  have HM := Lib.hid (kmay_any k ⟨xb, xn, xs⟩ (w.alloc (.cells #[.bool xb, .int .i64 xn, .string xs] 36)) hk hx hs)
  have hA := boxI_row ⟨xb, xn, xs⟩ w
  have a0 := hA.cell 0
  have a1 := hA.cell 1
  have a2 := hA.cell 2
  have hc := (hr.alloc (.cells #[.bool xb, .int .i64 xn, .string xs] 36)).cell 0
  have hc2 : (w.alloc (.cells #[.bool xb, .int .i64 xn, .string xs] 36)).cell? ⟨b, 0, none⟩ = some (.int .i64 k) := hc
  have HB := Lib.hid (show Below w.heap.size w (w.alloc (.cells #[.bool xb, .int .i64 xn, .string xs] 36)) from (Below.refl _ _).alloc (Nat.le_refl _) _)
  obtain ⟨q, hq⟩ : ∃ q, q = kmay k ⟨xb, xn, xs⟩ := ⟨_, rfl⟩
  have HW := Lib.hid (show iwrong k ⟨xb, xn, xs⟩ = (xb || !q) by rw [hq]; rfl)
  rw [← hq] at HM
  clear hA hc hr hk hx hs hq
  rw [HW.out]
  unfold cv at HM ⊢
  dsimp only at HM ⊢
  cases xb with
  | true =>
    go_enter Tryz.func15, Tryz.ntmps15
    go_wp2
    go_ret
    exact ⟨rfl, HB.out⟩
  | false =>
    go_enter Tryz.func15, Tryz.ntmps15
    go_wp2_with fail
    refine HM.out.mono ?_
    rintro e w2 ⟨rfl, hb2⟩
    have HB2 := Lib.hid (below_then HB.out hb2)
    clear hb2 a0 a1 a2 hc2
    go_wp2
    go_ret
    exact ⟨rfl, HB2.out⟩
def IIdxRel (l : List CV) (p : CV → Bool) (w : World) (i : Value) (wr : World) : Prop := ∃ k : Nat, k ≤ l.length ∧ i = .int .i64 (k : Int) ∧ (l.take k).any p = false ∧ Below w.heap.size w wr
set_option maxHeartbeats 2000000 in
set_option maxRecDepth 100000 in
theorem iindex_any (l : List CV) (v : Value) (b : Nat) (q : Int) (w : World) (hv : IsR kcells l v w) (hr : Row w b 3 [.int .i64 q]) (hb : l.length ≤ 1000000) (hq : inInt q) (hi : ∀ x ∈ l, x.inInt) (hs : ∀ x ∈ l, x.s.size ≤ maxLen) :
    Calls Tryz.prog 31 #[v, .func (.func 15) #[] #[.pointer (some ⟨b, 0, none⟩)]] w
      fun e w' => (∃ r : Int, e = .returned (.int .i64 r) ∧ decide (0 ≤ r) = l.any (iwrong q)) ∧ Below w.heap.size w w' := by
  obtain ⟨A, n, c, rfl⟩ := hv.shape
  have HN := Lib.hid hv.parts.1
  have HV := Lib.hid hv
  have HR := Lib.hid hr
  have HQ := Lib.hid hq
  have HI := Lib.hid hi
  have HSZ := Lib.hid hs
  have hn6 : n ≤ 1000000 := by have := HN.out; omega
  have HS := Lib.hid (show IIdxRel l (iwrong q) w (.int .i64 0) w from ⟨0, Nat.zero_le _, rfl, rfl, Below.refl _ _⟩)
  clear hv hb hr hq hi hs
  go_enter Tryz.func31, Tryz.ntmps31
  go_wp2
  go_loopw [8] (IIdxRel l (iwrong q) w) (fun i _ => n - (intOf i).toNat)
  case atStart => exact HS.out
  case round =>
    obtain ⟨k, hk, rfl, hs, hbw⟩ := hrel
    have HSM := Lib.hid hs
    have HB := Lib.hid hbw
    have hkn : k ≤ n := by have := HN.out; omega
    clear hs hk
    by_cases hlt : k < n
    · have hkl : k < l.length := by have := HN.out; omega
      have hlti : (k : Int) < (n : Int) := by omega
      obtain ⟨ad, rfl, had, hcell⟩ := (HV.out.below hbw).at (m := 3) (fun _ => rfl) (by omega) hkl
      obtain ⟨x, hx⟩ : ∃ x, x = l[k] := ⟨_, rfl⟩
      rw [← hx] at hcell
      obtain ⟨k0, k1, k2⟩ := cells3 hcell
      have hxm : x ∈ l := by rw [hx]; exact List.getElem_mem hkl
      have HL := Lib.hid (iwrong_any q x b wr HQ.out (HI.out x hxm) (HSZ.out x hxm) (HR.out.below hbw HR.out.lt))
      have HSN := Lib.hid (show (l.take (k + 1)).any (iwrong q) = iwrong q x by rw [List.take_succ_eq_append_getElem hkl, List.any_append, HSM.out, hx]; simp)
      have HAL := Lib.hid (show iwrong q x = true → l.any (iwrong q) = true from fun h => List.any_eq_true.2 ⟨x, hxm, h⟩)
      obtain ⟨xb, xn, xs⟩ := x
      dsimp only at k0 k1 k2
      clear hcell hx hbw hxm
      generalize hq : iwrong q ⟨xb, xn, xs⟩ = p at HL HSN HAL
      clear hq
      unfold cv at HL
      dsimp only at HL
      cases p with
      | true =>
        have HA := Lib.hid (HAL.out rfl)
        go_wp2_with fail
        refine HL.out.mono ?_
        rintro e w1 ⟨rfl, hb1⟩
        have HB1 := Lib.hid (below_then HB.out hb1)
        clear hb1 k0 k1 k2
        go_wp2
        go_ret
        exact ⟨⟨_, rfl, by rw [HA.out]; exact decide_eq_true (by omega)⟩, HB1.out⟩
      | false =>
        go_wp2_with fail
        refine HL.out.mono ?_
        rintro e w1 ⟨rfl, hb1⟩
        have HB1 := Lib.hid (below_then HB.out hb1)
        clear hb1 k0 k1 k2
        go_wp2
        go_roundw
        case rel => exact ⟨k + 1, hkl, by go_num, HSN.out, HB1.out⟩
        case measure => simp [intOf]; omega
    · obtain rfl : k = n := by omega
      have hlti : ¬ (k : Int) < (k : Int) := by omega
      have HA := Lib.hid HSM.out
      rw [List.take_of_length_le (by have := HN.out; omega)] at HA
      go_wp2
      go_ret
      exact ⟨⟨_, rfl, by rw [HA.out]; rfl⟩, HB.out⟩
theorem icontains_any (l : List CV) (v : Value) (b : Nat) (q : Int) (w : World) (hv : IsR kcells l v w) (hr : Row w b 3 [.int .i64 q]) (hb : l.length ≤ 1000000) (hq : inInt q) (hi : ∀ x ∈ l, x.inInt) (hs : ∀ x ∈ l, x.s.size ≤ maxLen) :
    Calls Tryz.prog 14 #[v, .func (.func 15) #[] #[.pointer (some ⟨b, 0, none⟩)]] w
      fun e w' => e = .returned (.bool (!imay q l)) ∧ Below w.heap.size w w' := by
  have HI := Lib.hid (iindex_any l v b q w hv hr hb hq hi hs)
  rw [← imay_wrong]
  clear hv hr hb hq hi hs
  go_enter Tryz.func14, Tryz.ntmps14
  go_wp2_with fail
  refine HI.out.mono ?_
  rintro e w1 ⟨⟨r, rfl, hr⟩, hb1⟩
  have HB := Lib.hid hb1
  clear hb1
  go_wp2
  go_ret
  exact ⟨rfl, HB.out⟩
def ifirstN (ns : List Int) : List Int := ns.map (· / 1000)
def isecondN (ns : List Int) : List Int := ns.map (· % 1000)
theorem ifirstN_in {ns : List Int} (h : ∀ n ∈ ns, inInt n) : ∀ x ∈ ifirstN ns, inInt x := by
  intro x hx
  obtain ⟨y, hy, rfl⟩ := List.mem_map.1 hx
  have := h y hy
  unfold inInt at this ⊢
  omega
theorem isecondN_in (ns : List Int) : ∀ x ∈ isecondN ns, inInt x ∧ 0 ≤ x := by
  intro x hx
  obtain ⟨y, hy, rfl⟩ := List.mem_map.1 hx
  unfold inInt
  omega
theorem ipc_first (ns : List Int) : (ns.map iparts).map (·.1) = ifirstN ns := by rw [List.map_map]; rfl
theorem ipc_second (ns : List Int) : (ns.map iparts).map (·.2) = isecondN ns := by rw [List.map_map]; rfl
set_option maxHeartbeats 4000000 in
set_option maxRecDepth 100000 in
theorem ilayt_any (ns : List Int) (v : Value) (w : World) (ht : WTab w) (hv : IsR ipc (ns.map iparts) v w) (hi : ∀ n ∈ ns, inInt n) (hl : ns.length ≤ 4096) :
    Calls Tryz.prog 37 #[v] w (RetE w ((uputE (ifirstN ns) true).1 ++ (uputE (isecondN ns) false).1, 0)) := by
  have HV := Lib.hid hv
  have HT := Lib.hid ht
  have hpl : (ns.map iparts).length ≤ 1000000 := by rw [List.length_map]; omega
  have hE1 := ieach_first (ns.map iparts) v w hv hpl
  rw [ipc_first] at hE1
  have HE1 := Lib.hid hE1
  have HE2 := Lib.hid (fun X (h : Below w.heap.size w X) => ieach_second (ns.map iparts) v X (hv.below h) hpl)
  rw [ipc_second] at HE2
  obtain ⟨pf, hpf⟩ : ∃ pf, pf = ifirstN ns := ⟨_, rfl⟩
  obtain ⟨ps, hps⟩ : ∃ ps, ps = isecondN ns := ⟨_, rfl⟩
  have hfi := ifirstN_in hi
  have hsi := isecondN_in ns
  have hfl : pf.length ≤ 4096 := by rw [hpf]; unfold ifirstN; rw [List.length_map]; exact hl
  have hsl : ps.length ≤ 4096 := by rw [hps]; unfold isecondN; rw [List.length_map]; exact hl
  rw [← hpf] at HE1 hfi ⊢
  rw [← hps] at HE2 hsi ⊢
  obtain ⟨a1, a2⟩ := uput_ok (l := pf) (s := true) hfl hfi (dplain_of fun _ _ => .inl rfl)
  obtain ⟨b1, b2⟩ := uput_ok (l := ps) (s := false) hsl (fun x hx => (hsi x hx).1) (dplain_of fun x hx => .inr (hsi x hx).2)
  obtain ⟨fa, hfa⟩ : ∃ fa, fa = (uputN true pf.length pf).1 := ⟨_, rfl⟩
  obtain ⟨fb, hfb⟩ : ∃ fb, fb = (uputN false ps.length ps).1 := ⟨_, rfl⟩
  rw [← hfa] at a1 a2
  rw [← hfb] at b1 b2
  have HP1 := Lib.hid (fun u X (hT : WTab X) (h : IsV iv pf u X) => uput_own pf u true X hT h hfi)
  have HP2 := Lib.hid (fun u X (hT : WTab X) (h : IsV iv ps u X) => uput_any ps u false X hT h (fun x hx => (hsi x hx).1) (by omega))
  rw [a1] at HP1 ⊢
  rw [b1] at HP2 ⊢
  dsimp only
  clear hv ht hpl hE1 hpf hps hfi hsi hfl hsl a1 b1 hfa hfb hi
  go_enter Tryz.func37, Tryz.ntmps37
  go_wp2_with fail
  refine HE1.out.mono ?_
  rintro e w1 ⟨u1, rfl, hu1, hb1⟩
  have HT1 := Lib.hid (HT.out.below hb1 HT.out.lt)
  have HC1 := Lib.hid (HP1.out u1 w1 HT1.out hu1)
  have HB1 := Lib.hid hb1
  clear hu1 hb1
  go_wp2_with fail
  refine HC1.out.mono ?_
  rintro e w2 ⟨b3, rfl, hb3v, hb2⟩
  have HB2 := Lib.hid (below_then HB1.out hb2)
  have HT2 := Lib.hid (HT1.out.below hb2 HT1.out.lt)
  have HO2 := Lib.hid (ownW_base HB1.out.size hb3v)
  have HC2 := Lib.hid (HE2.out w2 HB2.out)
  clear hb2 hb3v
  go_wp2_with fail
  refine HC2.out.mono ?_
  rintro e w3 ⟨u3, rfl, hu3, hb3⟩
  have HB3 := Lib.hid (below_then HB2.out hb3)
  have HT3 := Lib.hid (HT2.out.below hb3 HT2.out.lt)
  have HO3 := Lib.hid (own_below HO2.out hb3)
  have HC3 := Lib.hid (HP2.out u3 w3 HT3.out hu3)
  clear hu3 hb3
  go_wp2_with fail
  refine HC3.out.mono ?_
  rintro e w4 ⟨b4, rfl, hb4v, hb4⟩
  obtain ⟨A4, n4, c4, rfl⟩ := IsV.shape (f := bv) hb4v
  obtain ⟨hn4, hA4, -, -, hl4⟩ := IsV.parts (f := bv) (show IsV bv fb _ _ from hb4v)
  have hn4b : n4 ≤ 40960 := by omega
  have HM4 := Lib.hid (show (fb.map bv).length = n4 by rw [List.length_map]; exact hn4)
  have hown4 := own_below HO3.out hb4
  have hb4w := below_then HB3.out hb4
  have hz4 := hb4w.size
  obtain ⟨fl, hfl⟩ : ∃ fl, fl = fa.length := ⟨_, rfl⟩
  have hown4' : w4.ownsRow w.heap.size 5 1 b3 fl (fa.map bv) := by rw [hfl]; exact hown4
  have hfl4 : fl ≤ 40960 := by omega
  clear hb4v hn4 hb4 hown4 hfl
  go_wp2_with (at_builtin; refine wpList_join elemB rfl _ _ rfl w.heap.size _ _ _ _ _ _ (fb.map bv) w rfl rfl hA4 HM4.out hl4 (bv_one _) hown4' hb4w hz4 (by omega) (by omega) ?_)
  intro v5 w5 hown5 hb5 _ _
  have HI5 := Lib.hid (show IsB (fa ++ fb) v5 w5 from isB_own (by rw [List.map_append]; exact hown5))
  have HB5 := Lib.hid hb5
  clear hown5 hb5 hown4' hb4w hz4 hl4 hA4
  go_wp2
  go_ret2
  exact ⟨_, rfl, HI5.out, HB5.out⟩
/-- What lay answers. -/
def ilayE (k : Int) (ns : List Int) : List UInt8 × Int := if k = 1 then qputE (ns.map (· == 1)) else if k = 5 then ((uputE (ifirstN ns) true).1 ++ (uputE (isecondN ns) false).1, 0) else uputE ns true
theorem iputE_lay {k : Int} {l : List CV} (h : knumber k = true) (h4 : ¬ 4096 < l.length) (hm : imay k l = true) : iputE k l = ilayE k (l.map (·.n)) := by
  rw [iputE_in h h4 hm]
  unfold ilayE ifirst isecond ifirstN isecondN
  rw [List.map_map, List.map_map, List.map_map]
  rfl
set_option maxHeartbeats 2000000 in
theorem ilay_any (k : Int) (ns : List Int) (v : Value) (w : World) (ht : WTab w) (hv : IsV iv ns v w) (hi : ∀ n ∈ ns, inInt n) (hl : ns.length ≤ 4096) :
    Calls Tryz.prog 17 #[.int .i64 k, v] w (RetE w (ilayE k ns)) := by
  unfold ilayE
  by_cases hk1 : k = 1
  · subst hk1
    rw [if_pos rfl]
    have HE := Lib.hid (ieach_ones ns v w hv (by omega))
    have HP := Lib.hid (fun u X (h : IsV Value.bool (ns.map (· == 1)) u X) => qput_any _ u X h (by rw [List.length_map]; omega))
    generalize ns.map (· == 1) = bs at HE HP ⊢
    generalize qputE bs = p at HP ⊢
    clear hv ht hi
    go_enter Tryz.func17, Tryz.ntmps17
    go_wp2_with fail
    refine HE.out.mono ?_
    rintro e w1 ⟨u1, rfl, hu1, hb1⟩
    have HC := Lib.hid (HP.out u1 w1 hu1)
    have HB1 := Lib.hid hb1
    clear hu1 hb1
    go_wp2_with fail
    refine HC.out.mono ?_
    rintro e w2 ⟨b2, rfl, hb2v, hb2⟩
    have HI2 := Lib.hid hb2v
    have HB2 := Lib.hid (below_then HB1.out hb2)
    clear hb2v hb2
    go_wp2
    go_ret2
    exact ⟨_, rfl, HI2.out, HB2.out⟩
  · rw [if_neg hk1]
    have d1 : (k == 1) = false := by simpa using hk1
    by_cases hk5 : k = 5
    · subst hk5
      rw [if_pos rfl]
      have HE := Lib.hid (ieach_parts ns v w hv (by omega) hi)
      have HP := Lib.hid (fun u X (hT : WTab X) (h : IsR ipc (ns.map iparts) u X) => ilayt_any ns u X hT h hi hl)
      have HT := Lib.hid ht
      generalize ns.map iparts = bs at HE HP
      generalize (uputE (ifirstN ns) true).1 ++ (uputE (isecondN ns) false).1 = p at HP ⊢
      clear hv ht hi d1 hk1
      go_enter Tryz.func17, Tryz.ntmps17
      go_wp2_with fail
      refine HE.out.mono ?_
      rintro e w1 ⟨u1, rfl, hu1, hb1⟩
      have HC := Lib.hid (HP.out u1 w1 (HT.out.below hb1 HT.out.lt) hu1)
      have HB1 := Lib.hid hb1
      clear hu1 hb1
      go_wp2_with fail
      refine HC.out.mono ?_
      rintro e w2 ⟨b2, rfl, hb2v, hb2⟩
      have HI2 := Lib.hid hb2v
      have HB2 := Lib.hid (below_then HB1.out hb2)
      clear hb2v hb2
      go_wp2
      go_ret2
      exact ⟨_, rfl, HI2.out, HB2.out⟩
    · rw [if_neg hk5]
      have d5 : (k == 5) = false := by simpa using hk5
      have HC := Lib.hid (uput_any ns v true w ht hv hi (by omega))
      generalize uputE ns true = p at HC ⊢
      clear hv ht hi hk1 hk5
      go_enter Tryz.func17, Tryz.ntmps17
      go_wp2_with fail
      refine HC.out.mono ?_
      rintro e w2 ⟨b2, rfl, hb2v, hb2⟩
      have HI2 := Lib.hid hb2v
      have HB2 := Lib.hid hb2
      clear hb2v hb2
      go_wp2
      go_ret2
      exact ⟨_, rfl, HI2.out, HB2.out⟩
set_option maxHeartbeats 4000000 in
set_option maxRecDepth 100000 in
theorem iput_any (k : Int) (hk : inInt k) (l : List CV) (v : Value) (w : World) (ht : WTab w) (hv : IsR kcells l v w) (hi : ∀ x ∈ l, x.inInt) (hs : ∀ x ∈ l, x.s.size ≤ maxLen) (hb : l.length ≤ 1000000) :
    Calls Tryz.prog 8 #[.int .i64 k, v] w (RetE w (iputE k l)) := by
  obtain ⟨W, hW⟩ : ∃ W, W = w.alloc (.cells #[.int .i64 k] 3) := ⟨_, rfl⟩
  have hbox : Row W w.heap.size 3 [.int .i64 k] := by rw [hW]; exact heap_alloc_new w _
  have hb0 : Below w.heap.size w W := by rw [hW]; exact (Below.refl _ _).alloc (Nat.le_refl _) _
  have hcb := hbox.cell 0
  have HN0 := Lib.hid (knumber_own k W)
  have HC := Lib.hid (fun X (h : Below w.heap.size w X) (hr : Row X w.heap.size 3 [.int .i64 k]) => icontains_any l v w.heap.size k X (hv.below h) hr hb hk hi hs)
  have HE := Lib.hid (fun X (h : Below w.heap.size w X) => ieach_nums l v X (hv.below h) hb)
  have HT := Lib.hid (fun X (h : Below w.heap.size w X) => ht.below h ht.lt)
  have HB0 := Lib.hid hb0
  have HBOX := Lib.hid hbox
  obtain ⟨A, n, c, rfl⟩ := hv.shape
  have HN := Lib.hid hv.parts.1
  have HIN := Lib.hid (inums_in hi)
  clear hbox hb0 hv ht hk hi hs hb
  cases hkn : knumber k with
  | false =>
    have hE := Lib.hid (iputE_arg (l := l) hkn)
    rw [hkn] at HN0
    clear hkn
    subst hW
    go_enter Tryz.func8, Tryz.ntmps8
    go_wp2_with (go_at_call 13; refine HN0.out.mono ?_; rintro e w' ⟨rfl, rfl⟩)
    go_ret2
    rw [hE.out]
    exact RetE.nil _ HB0.out
  | true =>
    rw [hkn] at HN0
    have HKN := Lib.hid hkn
    clear hkn
    by_cases h4 : 4096 < n
    · have hE := Lib.hid (iputE_big (l := l) HKN.out (by have := HN.out; omega))
      have d1 : decide ((4096 : Int) < (n : Int)) = true := decide_eq_true (by omega)
      subst hW
      go_enter Tryz.func8, Tryz.ntmps8
      go_wp2_with (go_at_call 13; refine HN0.out.mono ?_; rintro e w' ⟨rfl, rfl⟩)
      go_ret2
      rw [hE.out]
      exact RetE.nil _ HB0.out
    · have d1 : decide ((4096 : Int) < (n : Int)) = false := decide_eq_false (by omega)
      have H4 := Lib.hid (show ¬ 4096 < l.length by have := HN.out; omega)
      have HC0 := Lib.hid (HC.out W HB0.out HBOX.out)
      obtain ⟨my, hmy⟩ : ∃ b, b = imay k l := ⟨_, rfl⟩
      rw [← hmy] at HC0
      have HMY := Lib.hid hmy
      clear hmy
      subst hW
      cases my with
      | false =>
        have hE := Lib.hid (iputE_type HKN.out H4.out HMY.out.symm)
        go_enter Tryz.func8, Tryz.ntmps8
        go_wp2_with (first | (go_at_call 13; refine HN0.out.mono ?_; rintro e w' ⟨rfl, rfl⟩) | (go_at_call 14; refine HC0.out.mono ?_))
        rintro e w2 ⟨rfl, hb2⟩
        have HB2 := Lib.hid (below_then HB0.out hb2)
        clear hb2
        go_wp2
        go_ret2
        rw [hE.out]
        exact RetE.nil _ HB2.out
      | true =>
        have hE := Lib.hid (iputE_lay HKN.out H4.out HMY.out.symm)
        go_enter Tryz.func8, Tryz.ntmps8
        go_wp2_with (first | (go_at_call 13; refine HN0.out.mono ?_; rintro e w' ⟨rfl, rfl⟩) | (go_at_call 14; refine HC0.out.mono ?_))
        rintro e w2 ⟨rfl, hb2⟩
        have HB2 := Lib.hid (below_then HB0.out hb2)
        have HX2 := Lib.hid (HBOX.out.below hb2 HBOX.out.lt)
        have HCB := Lib.hid (HX2.out.cell 0)
        clear hb2 hcb
        go_wp2_with fail
        refine wp_region_list [.is (.int .i64 k), .is (.slice A n c), .vals iv (l.map (·.n)), .putE (ilayE k (l.map (·.n))).1 (ilayE k (l.map (·.n))).2, .bytes ((ilayE k (l.map (·.n))).1), .is (.int .i64 (ilayE k (l.map (·.n))).2), .bytes ((ilayE k (l.map (·.n))).1), .is (.int .i64 (ilayE k (l.map (·.n))).2)] [some 18, some 19, some 20, some 21, some 22, some 23, some 4, some 5] (by kernel_rfl) (by kernel_rfl) (by kernel_rfl) rfl ⟨?_, ?_, ?_, ?_, ?_, ?_, ?_, ?_, trivial⟩ ?_
        · intro ρ W1 hb1 H
          exact gives_load rfl (H.old 2 _ (by kernel_rfl) rfl) Tryz.underlying3 rfl ((hb1.cell HX2.out.lt).trans HCB.out) ⟨rfl, Below.refl _ _⟩
        · intro ρ W1 hb1 H
          exact gives_move rfl (H.old 1 _ (by kernel_rfl) rfl) ⟨rfl, Below.refl _ _⟩
        · intro ρ W1 hb1 H
          have e0 : ρ (.tmp 19) = .slice A n c := (H.new 19 1 (by kernel_rfl))
          refine gives_call rfl (fun _ _ => by kernel_rfl) (H.func _) (args := #[.slice A n c, .func (.func 19) #[] #[]]) (by simp [e0, H.func]) ?_
          exact (HE.out W1 (below_then HB2.out hb1)).mono fun _ _ ⟨x, h1, h2, h3⟩ => ⟨x, h1, h2, h3⟩
        · intro ρ W1 hb1 H
          have e0 : ρ (.tmp 18) = .int .i64 k := (H.new 18 0 (by kernel_rfl))
          have e1 : IsV iv (l.map (·.n)) (ρ (.tmp 20)) W1 := (H.new 20 2 (by kernel_rfl))
          refine gives_call rfl (fun _ _ => by kernel_rfl) (H.func _) (args := #[.int .i64 k, ρ (.tmp 20)]) (by simp [e0]) ?_
          exact (ilay_any k _ _ W1 (HT.out W1 (below_then HB2.out hb1)) e1 HIN.out (by rw [List.length_map]; have := H4.out; omega)).mono fun _ _ ⟨x, h1, h2, h3⟩ => ⟨_, h1, ⟨x, rfl, h2⟩, h3⟩
        · intro ρ W1 hb1 H
          obtain ⟨u, h1, h2⟩ := (H.new 21 3 (by kernel_rfl))
          exact gives_extract rfl h1 rfl ⟨h2, Below.refl _ _⟩
        · intro ρ W1 hb1 H
          obtain ⟨u, h1, h2⟩ := (H.new 21 3 (by kernel_rfl))
          exact gives_extract rfl h1 rfl ⟨rfl, Below.refl _ _⟩
        · intro ρ W1 hb1 H
          exact gives_assign rfl rfl ⟨H.new 22 4 (by kernel_rfl), Below.refl _ _⟩
        · intro ρ W1 hb1 H
          exact gives_assign rfl (H.new 23 5 (by kernel_rfl)) ⟨rfl, Below.refl _ _⟩
        · intro vs W1 hb1 hfs
          have f6 : IsB ((ilayE k (l.map (·.n))).1) (vs 6) W1 := hfs 6 (by decide)
          have f7 : vs 7 = .int .i64 (ilayE k (l.map (·.n))).2 := hfs 7 (by decide)
          clear hfs
          simp only [putAll, Nat.zero_add, Nat.reduceAdd]
          generalize vs 0 = z0
          generalize vs 1 = z1
          generalize vs 2 = z2
          generalize vs 3 = z3
          generalize vs 4 = z4
          generalize vs 5 = z5
          generalize vs 6 = z6 at f6 ⊢
          simp only [f7, Act.put, List.setIfInBounds_toArray, List.set_cons_succ, List.set_cons_zero]
          clear f7
          have HB3 := Lib.hid (below_then HB2.out hb1)
          have HI3 := Lib.hid f6
          clear f6 hb1
          go_wp2
          go_ret2
          rw [hE.out]
          exact ⟨_, rfl, HI3.out, HB3.out⟩
/-- What numbers answers. -/
def inumE (k : Int) (b : List UInt8) (many : Int) : Option (List Int) :=
  if k = 1 then (if (qtakeE b many).2.2 ≠ 0 ∨ 0 < (qtakeE b many).2.1.length then none else some ((qtakeE b many).1.map fun t => if t then 1 else 0))
  else if k = 5 then itimesE b many else if (utakeE b many true).2.2 ≠ 0 ∨ 0 < (utakeE b many true).2.1.length then none else some (utakeE b many true).1
theorem itime_nv : ∀ {l m : List Int} {o : List CV}, itime l m = some o → (o.map (·.n)).map nv = o
  | [], m, o, h => by cases m <;> (injection h with h; subst h; rfl)
  | _ :: _, [], o, h => by injection h with h; subst h; rfl
  | n :: l, s :: m, o, h => by
    have h' : (if ibad n s then none else (itime l m).map (nv (1000 * n + s) :: ·)) = some o := h
    split at h'
    · cases h'
    · obtain ⟨a, ha, rfl⟩ := Option.map_eq_some_iff.1 h'
      rw [List.map_cons, List.map_cons, itime_nv ha]
      rfl
def iofN (o : Option (List Int)) : List CV × Int := match o with | none => ([], 2) | some l => (l.map nv, 0)
theorem itakeE_of {k : Int} {b : List UInt8} {M : Nat} (h : M ≤ 4096) (hk : knumber k = true) : itakeE k b (M : Int) = iofN (inumE k b M) := by
  unfold inumE
  by_cases h1 : k = 1
  · subst h1
    rw [itakeE_bool h, if_pos rfl]
    unfold itakeB
    split
    · rfl
    · show _ = (List.map nv (List.map _ _), (0 : Int))
      rw [List.map_map]
      rfl
  · rw [itakeE_num h hk h1, if_neg h1]
    unfold itakeI
    by_cases h5 : k = 5
    · subst h5
      rw [if_pos rfl, if_pos rfl]
      unfold itimesE itakeT itimeN
      split
      · rfl
      · split
        · rfl
        · cases hi : itime (utakeE b (M : Int) true).1 (utakeE (utakeE b (M : Int) true).2.1 (M : Int) false).1 with
          | none => rfl
          | some o =>
            show (o, (0 : Int)) = ((o.map (·.n)).map nv, 0)
            rw [itime_nv hi]
    · rw [if_neg h5, if_neg h5]
      by_cases hx : (utakeE b (M : Int) true).2.2 ≠ 0
      · rw [if_pos hx, if_pos (.inl hx)]
        rfl
      · rw [if_neg hx]
        by_cases hr : 0 < (utakeE b (M : Int) true).2.1.length
        · rw [if_pos hr, if_pos (.inr hr)]
          rfl
        · rw [if_neg hr, if_neg (by omega)]
          rfl
set_option maxHeartbeats 4000000 in
set_option maxRecDepth 100000 in
theorem inumbers_any (k : Int) (b : List UInt8) (v : Value) (M : Nat) (w : World) (ht : WTab w) (hv : IsB b v w) (hb : b.length ≤ 1000000) (hM : M ≤ 4096) :
    Calls Tryz.prog 25 #[.int .i64 k, v, .int .i64 (M : Int)] w (RetNB w (inumE k b M)) := by
  unfold inumE
  by_cases hk1 : k = 1
  · subst hk1
    rw [if_pos rfl]
    have HQ := Lib.hid (qtake_any b v (M : Int) w hv hb)
    have HBD := Lib.hid (qtakeE_bd b (M : Int))
    obtain ⟨l, r, x, hq⟩ : ∃ l r x, qtakeE b (M : Int) = (l, r, x) := ⟨_, _, _, rfl⟩
    rw [hq] at HQ HBD ⊢
    dsimp only at HBD ⊢
    obtain ⟨ans, hans⟩ : ∃ o : Option (List Int), o = if x ≠ 0 ∨ 0 < r.length then none else some (l.map fun t => if t then 1 else 0) := ⟨_, rfl⟩
    rw [← hans]
    have HANS := Lib.hid hans
    clear hq ht hv hb hans
    go_enter Tryz.func25, Tryz.ntmps25
    go_wp2_with fail
    refine HQ.out.mono ?_
    rintro e w1 ⟨lv, rv, rfl, hlv, hrv, hb1⟩
    have HB1 := Lib.hid hb1
    obtain ⟨ok, hok⟩ : ∃ ok, ok = decide (x = 0 ∧ r.length = 0) := ⟨_, rfl⟩
    have HOK := Lib.hid hok
    have HO := Lib.hid (ionly_truths l r lv rv x w1 ok hok hlv hrv)
    clear hlv hrv hb1 hok
    go_wp2_with fail
    refine HO.out.mono ?_
    rintro e w2 ⟨⟨u2, rfl, l2, hl2, hle, hmm⟩, rfl⟩
    have HE := Lib.hid (ieach_truths l2 u2 w1 hl2 (by have := HBD.out; omega))
    have HMM := Lib.hid hmm
    clear hl2 hle hmm
    go_wp2_with fail
    refine HE.out.mono ?_
    rintro e w3 ⟨u3, rfl, hu3, hb3⟩
    have HU3 := Lib.hid hu3
    have HB3 := Lib.hid (below_then HB1.out hb3)
    clear hu3 hb3
    go_wp2
    go_ret2
    cases ok with
    | true =>
      have h := of_decide_eq_true HOK.out.symm
      have h2 := HMM.out rfl
      subst h2
      obtain rfl : ans = some (l2.map fun t => if t then 1 else 0) := by rw [HANS.out, if_neg (by omega)]
      exact ⟨_, rfl, (fun l' h' => by injection h' with h'; rw [← h']; exact HU3.out), HB3.out⟩
    | false =>
      have h := of_decide_eq_false HOK.out.symm
      obtain rfl : ans = none := by rw [HANS.out, if_pos (by omega)]
      exact ⟨_, rfl, (fun l' h' => by cases h'), HB3.out⟩
  · rw [if_neg hk1]
    have d1 : (k == 1) = false := by simpa using hk1
    by_cases hk5 : k = 5
    · subst hk5
      rw [if_pos rfl]
      have HC := Lib.hid (itimes_any b v M w ht hv hb hM)
      generalize itimesE b (M : Int) = o at HC ⊢
      clear ht hv hb d1 hk1
      go_enter Tryz.func25, Tryz.ntmps25
      go_wp2_with fail
      refine HC.out.mono ?_
      rintro e w1 ⟨u1, rfl, hu1, hb1⟩
      have HU1 := Lib.hid hu1
      have HB1 := Lib.hid hb1
      obtain ⟨ok, hok⟩ : ∃ ok, ok = o.isSome := ⟨_, rfl⟩
      have HOK := Lib.hid hok
      rw [← hok]
      clear hu1 hb1 hok
      go_wp2
      go_ret2
      exact ⟨_, congrArg (fun q => Ending.returned (.tuple #[u1, .bool q])) HOK.out, HU1.out, HB1.out⟩
    · rw [if_neg hk5]
      have d5 : (k == 5) = false := by simpa using hk5
      have HC := Lib.hid (utake_any b v (M : Int) true w ht hv hb (by unfold inInt; omega))
      obtain ⟨l, r, x, hq⟩ : ∃ l r x, utakeE b (M : Int) true = (l, r, x) := ⟨_, _, _, rfl⟩
      rw [hq] at HC ⊢
      dsimp only
      obtain ⟨ans, hans⟩ : ∃ o : Option (List Int), o = if x ≠ 0 ∨ 0 < r.length then none else some l := ⟨_, rfl⟩
      rw [← hans]
      have HANS := Lib.hid hans
      clear ht hv hb hq hk1 hk5 hans
      go_enter Tryz.func25, Tryz.ntmps25
      go_wp2_with fail
      refine HC.out.mono ?_
      rintro e w1 ⟨lv, rv, rfl, hlv, hrv, hb1⟩
      have HB1 := Lib.hid hb1
      obtain ⟨ok, hok⟩ : ∃ ok, ok = decide (x = 0 ∧ r.length = 0) := ⟨_, rfl⟩
      have HOK := Lib.hid hok
      have HO := Lib.hid (ionly_nums l r lv rv x w1 ok hok hlv hrv)
      clear hlv hrv hb1 hok
      go_wp2_with fail
      refine HO.out.mono ?_
      rintro e w2 ⟨⟨u2, rfl, l2, hl2, hle, hmm⟩, rfl⟩
      have HL2 := Lib.hid hl2
      have HMM := Lib.hid hmm
      clear hl2 hle hmm
      go_wp2
      go_ret2
      cases ok with
      | true =>
        have h := of_decide_eq_true HOK.out.symm
        have h2 := HMM.out rfl
        subst h2
        obtain rfl : ans = some l2 := by rw [HANS.out, if_neg (by omega)]
        exact ⟨_, rfl, (fun l' h' => by injection h' with h'; rw [← h']; exact HL2.out), HB1.out⟩
      | false =>
        have h := of_decide_eq_false HOK.out.symm
        obtain rfl : ans = none := by rw [HANS.out, if_pos (by omega)]
        exact ⟨_, rfl, (fun l' h' => by cases h'), HB1.out⟩
theorem itakeE_bdI (k : Int) (b : List UInt8) (M : Int) : (itakeE k b M).1.length ≤ 1000000 := by
  unfold itakeE
  split
  · exact Nat.zero_le _
  · split
    · unfold itakeB
      split
      · exact Nat.zero_le _
      · dsimp only
        rw [List.length_map]
        exact qtakeE_bd b M
    · unfold itakeI
      split
      · exact Nat.zero_le _
      · have h1 := utakeE_len b M true
        split
        · unfold itakeT
          split
          · exact Nat.zero_le _
          · split
            · exact Nat.zero_le _
            · rename_i o ho
              have h2 := itime_len ho
              dsimp only
              omega
        · split
          · exact Nat.zero_le _
          · dsimp only
            rw [List.length_map]
            omega
set_option maxHeartbeats 4000000 in
set_option maxRecDepth 100000 in
theorem itake_any (k : Int) (b : List UInt8) (v : Value) (many : Int) (w : World) (ht : WTab w) (hv : IsB b v w) (hb : b.length ≤ 1000000) :
    Calls Tryz.prog 10 #[.int .i64 k, v, .int .i64 many] w (RetRE w (itakeE k b many)) := by
  cases hkn : knumber k with
  | false =>
    have HNU := Lib.hid (knumber_own k w)
    rw [hkn] at HNU
    have hE := Lib.hid (itakeE_arg (b := b) (many := many) (.inl hkn))
    clear hkn
    go_enter Tryz.func10, Tryz.ntmps10
    go_wp2_with (go_at_call 13; refine HNU.out.mono ?_; rintro e w' ⟨rfl, rfl⟩)
    go_ret2
    rw [hE.out]
    exact RetRE.nil _ (Below.refl _ _)
  | true =>
    have HNU := Lib.hid (knumber_own k w)
    rw [hkn] at HNU
    by_cases hm : many < 0 ∨ 4096 < many
    · have hE := Lib.hid (itakeE_arg (k := k) (b := b) (many := many) (.inr hm))
      have hd : decide (many < 0) = true ∨ (decide (many < 0) = false ∧ decide (4096 < many) = true) := by
        by_cases h : many < 0
        · exact .inl (decide_eq_true h)
        · exact .inr ⟨decide_eq_false h, decide_eq_true (by omega)⟩
      clear hm hkn
      rcases hd with d1 | ⟨d1, d2⟩
      all_goals
        go_enter Tryz.func10, Tryz.ntmps10
        go_wp2_with (go_at_call 13; refine HNU.out.mono ?_; rintro e w' ⟨rfl, rfl⟩)
        go_ret2
        rw [hE.out]
        exact RetRE.nil _ (Below.refl _ _)
    · obtain ⟨M, rfl⟩ := Int.eq_ofNat_of_zero_le (show 0 ≤ many by omega)
      have hM : M ≤ 4096 := by omega
      have d1 : decide ((M : Int) < 0) = false := decide_eq_false (by omega)
      have d2 : decide ((4096 : Int) < (M : Int)) = false := decide_eq_false (by omega)
      have HE := Lib.hid (itakeE_of (b := b) hM hkn)
      have HC := Lib.hid (inumbers_any k b v M w ht hv hb hM)
      have HLEN : Hid (∀ l, inumE k b M = some l → l.length ≤ 1000000) := Lib.hid (fun l h => by
        have h1 : itakeE k b (M : Int) = (l.map nv, 0) := by rw [itakeE_of (b := b) hM hkn, h]; rfl
        have h2 := congrArg (fun p => p.1.length) h1
        dsimp only at h2
        rw [List.length_map] at h2
        rw [← h2]
        exact itakeE_bdI k b M)
      obtain ⟨o, ho⟩ : ∃ o, o = inumE k b (M : Int) := ⟨_, rfl⟩
      rw [← ho] at HE HC HLEN
      rw [HE.out]
      clear ho ht hv hb hm hkn HE
      go_enter Tryz.func10, Tryz.ntmps10
      go_wp2_with (first | (go_at_call 13; refine HNU.out.mono ?_; rintro e w' ⟨rfl, rfl⟩) | (go_at_call 25; refine HC.out.mono ?_))
      rintro e w1 ⟨u1, rfl, hu1, hb1⟩
      have HB1 := Lib.hid hb1
      have HU1 := Lib.hid hu1
      clear hu1 hb1
      cases o with
      | none =>
        go_wp2
        go_ret2
        exact RetRE.nil _ HB1.out
      | some l =>
        have HV := Lib.hid (ieach_vals l u1 w1 (HU1.out l rfl) (HLEN.out l rfl))
        go_wp2_with fail
        refine HV.out.mono ?_
        rintro e w2 ⟨u2, rfl, hu2, hb2⟩
        have HU2 := Lib.hid hu2
        have HB2 := Lib.hid (below_then HB1.out hb2)
        clear hu2 hb2
        go_wp2
        go_ret2
        exact ⟨_, rfl, HU2.out, HB2.out⟩
end Go.Proofs.YtlibofmpnlfelaaGreatDoor

/- The contract of what stands at the head of the statements of layer 14. -/



namespace Go.Proofs.YtlibofmpnlfelaaGreatDoor

open Go.RowKit

theorem isR_new (w : World) (l : List CV) (m : Nat) (hl : l.length = m) (hm : m ≤ 1000000) : IsR kcells l (.slice (some ⟨w.heap.size, 0, none⟩) m m) (w.alloc (.cells (l.flatMap kcells).toArray 36)) := by
  subst hl
  exact ⟨_, _, rfl, by simp, Nat.le_refl _, by unfold maxLen; omega, cells_new w _ _⟩
theorem in_small {n : Int} (h : -2000 ≤ n ∧ n ≤ 2000) : inInt n := by unfold inInt; omega
theorem is1 : iputE 1 [nv 1, nv 0, nv 1] = ([255, 160], 0) := by
  show iputE 1 ([1, 0, 1].map nv) = _
  rw [iputE_in (by decide) (by decide) (imay_num (ns := [1, 0, 1]) (by decide) (by decide) (by decide)), if_pos rfl]
  decide +kernel
theorem is2 : iputE 5 [nv 1001, nv 1001, nv 1001] = ([0, 2, 0, 1], 0) := by
  show iputE 5 ([1001, 1001, 1001].map nv) = _
  rw [iputE_in (by decide) (by decide) (imay_num (ns := [1001, 1001, 1001]) (by decide) (by decide) (by decide)), if_neg (by decide), if_pos rfl]
  decide +kernel
theorem is3 : iputE 6 [] = ([], 1) := iputE_arg (by decide)
theorem put_three (a b c : Int) (k : Int) (hk : inInt k) (W : World) (ht : WTab W) (ha : inInt a) (hb : inInt b) (hc : inInt c) : Calls Tryz.prog 8 #[.int .i64 k, .slice (some ⟨W.heap.size, 0, none⟩) 3 3] (W.alloc (.cells #[.bool false, .int .i64 a, .string ⟨#[]⟩, .bool false, .int .i64 b, .string ⟨#[]⟩, .bool false, .int .i64 c, .string ⟨#[]⟩] 36))
    fun e w' => ∃ v, e = .returned (.tuple #[v, .int .i64 (iputE k [nv a, nv b, nv c]).2]) ∧ IsB (iputE k [nv a, nv b, nv c]).1 v w' ∧ Below W.heap.size W w' := by
  have hb0 : Below W.heap.size W (W.alloc (.cells #[.bool false, .int .i64 a, .string ⟨#[]⟩, .bool false, .int .i64 b, .string ⟨#[]⟩, .bool false, .int .i64 c, .string ⟨#[]⟩] 36)) := (Below.refl _ _).alloc (Nat.le_refl _) _
  have h := iput_any k hk _ _ _ (ht.below hb0 ht.lt) (isR_new W [nv a, nv b, nv c] 3 rfl (by omega)) (by intro x hx; simp at hx; rcases hx with rfl | rfl | rfl <;> assumption) (by intro x hx; simp at hx; rcases hx with rfl | rfl | rfl <;> exact Nat.zero_le _) (by simp)
  refine h.mono ?_
  rintro e w' ⟨v, h1, h2, h3⟩
  exact ⟨v, h1, h2, below_then hb0 h3⟩
set_option maxHeartbeats 1000000 in
set_option maxRecDepth 100000 in
theorem shown_any (w : World) (ht : WTab w) : Calls Tryz.prog 6 #[] w fun e w' => e = .returned (.bool true) ∧ Below w.heap.size w w' := by
  have HT := Lib.hid ht
  have H1 := Lib.hid (put_three 1 0 1 1 (in_small (by decide)) w ht (in_small (by decide)) (in_small (by decide)) (in_small (by decide)))
  rw [is1] at H1
  have H2 := Lib.hid (fun W h1 => put_three 1001 1001 1001 5 (in_small (by decide)) W h1 (in_small (by decide)) (in_small (by decide)) (in_small (by decide)))
  rw [is2] at H2
  have H3 := Lib.hid (fun W h1 => iput_any 6 (in_small (by decide)) [] (.slice none 0 0) W h1 (isR_nil _ _) (by simp) (by simp) (by simp))
  rw [is3] at H3
  clear ht
  go_enter Tryz.func6, Tryz.ntmps6
  go_wp2_with fail
  refine H1.out.mono ?_
  rintro e w1 ⟨v1, rfl, hv1, hb1⟩
  have HV1 := Lib.hid hv1
  have HB1 := Lib.hid hb1
  have HT1 := Lib.hid (HT.out.below hb1 HT.out.lt)
  clear hv1 hb1
  go_wp2_with fail
  refine (H2.out w1 HT1.out).mono ?_
  rintro e w2 ⟨v2, rfl, hv2, hb2⟩
  have HV2 := Lib.hid hv2
  have HV12 := Lib.hid (HV1.out.below hb2)
  have HB2 := Lib.hid (below_then HB1.out hb2)
  have HT2 := Lib.hid (HT1.out.below hb2 HT1.out.lt)
  clear hv2 hb2
  go_wp2_with fail
  refine (H3.out w2 HT2.out).mono ?_
  rintro e w3 ⟨v3, rfl, _, hb3⟩
  have hc1 := textB (HV12.out.below hb3)
  have hc2 := textB (HV2.out.below hb3)
  have HB3 := Lib.hid (below_then HB2.out hb3)
  clear hb3
  go_wp2
  go_ret
  exact ⟨rfl, HB3.out⟩
end Go.Proofs.YtlibofmpnlfelaaGreatDoor
