/- Texts that the claims of this seat share, part 6: UBest UTk UIs UShown USPlain. -/
import Derived.Deep.RegionLaw
import Derived.Test.YtnbiopihcbnkpaaDoorG5
/- rle's own contracts: kinds, putRepeat, shortest with its two closures, putPatched, Run. Written by gen_ubest.py. -/













namespace Go.Proofs.YtnbiopihcbnkpaaDoor

open Go.RowKit

section

variable {P : Program} {o : Oper} {ρ : Operand → Value} {w : World} {R : Value → World → Prop}
/-- A call of a Go function that a slot holds, by its contract. -/
theorem gives_callV {f : FuncId} {x : Operand} {xs : Array Operand} {ts : Array TypeId} {args : Array Value} (ho : o.op = .call { callee := .value x, args := xs, argTypes := ts })
    (hent : ∀ (args : Array Value) (w : World), (callFunc f args).run P w = .ok (.enter f args) w) (hf : ρ x = .func (.func f) #[] #[]) (ha : xs.map ρ = args)
    (h : Calls P f args w fun e w' => ∃ v, e = .returned v ∧ R v w') : Gives P o ρ w R := by
  have hr : (execOp ρ o).run P w = .ok (.enter f args) w := by
    simp [execOp, ho, resolve, hf, ha, Deferred.ofValue, invoke, hent]
  unfold Gives
  rw [hr]
  exact h
theorem gives_indexW {t e : TypeId} {bytes m : Nat} {zv : Value} (E : ElemW P t e bytes m zv) {x y : Operand} {ad : Addr} {n c k : Nat} (ho : o.op = .indexAddr t x y) (hx : ρ x = .slice (some ad) n c) (hy : ρ y = .int .i64 (k : Int)) (hk : k < n)
    (hR : R (.pointer (some (ad.add (k * m)))) w) : Gives P o ρ w R := by
  refine gives_of (v := .pointer (some (ad.add (k * m)))) (w' := w) ?_ hR
  have ht := E.under
  have hs := E.size_ w
  have h0 : (0 : Int) ≤ (k : Int) := by omega
  have h1 : (k : Int) < (n : Int) := by omega
  simp [execOp, ho, hx, hy, go_sem, ht, hs, h0, h1]
end
def Fact.putE (l : List UInt8) (x : Int) : Fact := ⟨fun v w => ∃ b, v = .tuple #[b, .int .i64 x] ∧ IsB l b w, fun _ _ _ ⟨b, h1, h2⟩ hb => ⟨b, h1, IsB.below h2 hb⟩⟩
/-- The kinds of runs: their bits, their Put, their Take. -/
def kcs : Nat → List Value
  | 0 => [.int .u8 0, .func (.func 30) #[] #[], .func (.func 31) #[] #[]]
  | 1 => [.int .u8 1, .func (.func 8) #[] #[], .func (.func 32) #[] #[]]
  | 2 => [.int .u8 3, .func (.func 9) #[] #[], .func (.func 33) #[] #[]]
  | _ => [.int .u8 2, .func (.func 34) #[] #[], .func (.func 35) #[] #[]]
def kcells : List Value := kcs 0 ++ (kcs 1 ++ (kcs 2 ++ kcs 3))
def kz : Value := .agg #[.int .u8 0, .nilFunc, .nilFunc]
theorem Tryd.infoK : (Tryd.prog.info? 38).map (fun i => (i.zero, i.size, i.bytes)) = some (some kz, 3, 24) := by kernel_rfl
theorem elemK : ElemW Tryd.prog 33 38 24 3 kz := by
  obtain ⟨i0, hi, hz0, hz1, hz2⟩ := info_parts Tryd.infoK
  exact ⟨Tryd.underlying33, rfl, by omega, i0, hi, hz0, hz1, hz2⟩
theorem kind_at1 (j : Nat) (W : World) (g : Nat) : (Instr.fieldAt 38 (.pointer (some ⟨g, j, none⟩)) 1).run Tryd.prog W = .ok (.pointer (some ⟨g, j + 1, none⟩)) W := by kernel_rfl
theorem uadd_zero (ad : Addr) : ad.add 0 = ad := by unfold Addr.add; split <;> simp_all
set_option maxRecDepth 100000 in
theorem kinds_any (w : World) : Calls Tryd.prog 12 #[] w fun e w' => e = .returned (.slice (some ⟨w.heap.size, 0, none⟩) 4 4) ∧ w' = w.alloc (.cells kcells.toArray 38) := by
  go_enter Tryd.func12, Tryd.ntmps12
  go_wp2
  go_ret
  exact ⟨rfl, rfl⟩
set_option maxHeartbeats 1000000 in
set_option maxRecDepth 100000 in
theorem uputrep_any (l : List Int) (v : Value) (s : Bool) (w : World) (hv : IsV iv l v w) (hl : ∀ x ∈ l, inInt x) (hb : l.length ≤ 1000000) :
    Calls Tryd.prog 30 #[v, .bool s] w (RetE w (urep l s)) := by
  obtain ⟨A, n, c, rfl⟩ := hv.shape
  have HN := Lib.hid hv.parts.1
  by_cases h0 : n = 0
  · subst h0
    have HE : Hid (urep l s = ([], 1)) := Lib.hid (by unfold urep; rw [if_pos (.inl HN.out)])
    clear hv hl hb
    go_enter Tryd.func30, Tryd.ntmps30
    go_wp2
    go_ret2
    rw [HE.out]
    exact RetE.nil _ (Below.refl _ _)
  · have hn6 : n ≤ 1000000 := by have := HN.out; omega
    have h0i : ((n : Int) == 0) = false := by simp; omega
    have hn0 : (0 : Int) < (n : Int) := by omega
    obtain ⟨u, hu⟩ : ∃ u, u = min (usame l) n := ⟨_, rfl⟩
    have HA := Lib.hid (ualike_any l _ n w hv hb hn6)
    rw [← hu] at HA
    have hun : u = usame l := by have := usame_le l; have := HN.out; omega
    by_cases hlt : u < n
    · have hlti : (u : Int) < (n : Int) := by omega
      have HE : Hid (urep l s = ([], 1)) := Lib.hid (by unfold urep; rw [if_pos (.inr (by rw [← hun, HN.out]; exact hlt))])
      clear hv hl hb hu hun h0
      go_enter Tryd.func30, Tryd.ntmps30
      go_wp2_with fail
      refine HA.out.mono ?_
      rintro e w1 ⟨rfl, hb1⟩
      have HB := Lib.hid hb1
      clear hb1
      go_wp2
      go_ret2
      rw [HE.out]
      exact RetE.nil _ HB.out
    · have hlti : ¬ (u : Int) < (n : Int) := by omega
      have hkl : 0 < l.length := by have := HN.out; omega
      obtain ⟨x0, hx0⟩ : ∃ x, x = l[0] := ⟨_, rfl⟩
      have HE : Hid (urep l s = eput x0 (n : Int) s) := Lib.hid (by
        unfold urep
        rw [if_neg (by rw [← hun, HN.out]; omega), HN.out, hx0]
        congr 1
        cases l with
        | nil => simp at hkl
        | cons y t => rfl)
      have HX := Lib.hid (hl x0 (by rw [hx0]; exact List.getElem_mem hkl))
      obtain ⟨ad, rfl, had, hcell⟩ := hv.at hkl
      have hc0 : w.cell? ad = some (.int .i64 x0) := by
        rw [← uadd_zero ad, hcell, hx0]; rfl
      have HC := Lib.hid hc0
      have HAD := Lib.hid had
      clear hv hl hb hu hun h0 hcell hc0 hx0 had hkl
      go_enter Tryd.func30, Tryd.ntmps30
      go_wp2_with fail
      refine HA.out.mono ?_
      rintro e w1 ⟨rfl, hb1⟩
      have HB := Lib.hid hb1
      have hc1 : w1.cell? ad = some (.int .i64 x0) := (hb1.cell HAD.out).trans HC.out
      clear hb1
      go_wp2_with fail
      refine (eput_any x0 (n : Int) s w1 HX.out.1 HX.out.2).mono ?_
      rintro e w2 ⟨v2, rfl, hv2, hb2⟩
      have HV2 := Lib.hid hv2
      have HB2 := Lib.hid (below_then HB.out hb2)
      clear hv2 hb2
      go_wp2
      go_ret2
      rw [HE.out]
      exact ⟨_, rfl, HV2.out, HB2.out⟩
set_option maxHeartbeats 2000000 in
set_option maxRecDepth 100000 in
theorem uppat1_any (k : Nat) (hk : k < 31) (b1 b2 : Nat) (l : List Int) (v : Value) (s : Bool) (w : World) (ht : WTab w) (hv : IsV iv l v w) (hl : ∀ x ∈ l, inInt x) (hb : l.length ≤ 1000000) (h1 : Row w b1 22 [v]) (h2 : Row w b2 4 [.bool s]) :
    Calls Tryd.prog 58 #[.int .i64 (k : Int), .pointer (some ⟨b1, 0, none⟩), .pointer (some ⟨b2, 0, none⟩)] w (RetE w (pputE l (wof (k : Int)) s)) := by
  have HT := Lib.hid ht
  have HV := Lib.hid hv
  obtain ⟨K, hK⟩ := wof_nat k
  have hK64 := wof_bd (k : Int)
  rw [hK] at hK64 ⊢
  have HOF := Lib.hid (fun W (h : WTab W) => of_any (k : Int) W h (by omega) (by omega))
  rw [hK] at HOF
  have HP := Lib.hid (fun W (h : IsV iv l v W) (ht : WTab W) => pput_any l v (K : Int) s W ht h hl hb (by unfold inInt; omega))
  have HC1 := Lib.hid (show w.cell? ⟨b1, 0, none⟩ = some v from h1.cell 0)
  have HC2 := Lib.hid (show w.cell? ⟨b2, 0, none⟩ = some (.bool s) from h2.cell 0)
  have HL1 := Lib.hid h1.lt
  have HL2 := Lib.hid h2.lt
  obtain ⟨pl, px, hE⟩ : ∃ pl px, pputE l (K : Int) s = (pl, px) := ⟨_, _, rfl⟩
  rw [hE] at HP
  have HE := Lib.hid hE
  clear ht hv hl hb h1 h2 hE hK hK64
  go_enter Tryd.func58, Tryd.ntmps58
  go_wp2_with fail
  refine wp_region_list [.is (v), .is (.int .i64 (k : Int)), .is (.int .i64 (K : Int)), .is (.bool s), .putE (pl) (px), .bytes (pl), .is (.int .i64 px), .bytes (pl), .is (.int .i64 px)] [some 6, some 7, some 8, some 9, some 10, some 11, some 12, some 4, some 5] (by kernel_rfl) (by kernel_rfl) (by kernel_rfl) rfl ⟨?_, ?_, ?_, ?_, ?_, ?_, ?_, ?_, ?_, trivial⟩ ?_
  · intro ρ W1 hb1 H
    exact gives_load rfl (H.old 1 _ (by kernel_rfl) rfl) Tryd.underlying22 rfl ((hb1.cell HL1.out).trans HC1.out) ⟨rfl, Below.refl _ _⟩
  · intro ρ W1 hb1 H
    exact gives_move rfl (H.old 0 _ (by kernel_rfl) rfl) ⟨rfl, Below.refl _ _⟩
  · intro ρ W1 hb1 H
    have e0 : ρ (.tmp 7) = .int .i64 (k : Int) := H.new 7 1 (by kernel_rfl)
    refine gives_call rfl (fun _ _ => by kernel_rfl) (H.func _) (args := #[.int .i64 (k : Int)]) (by simp [e0]) ?_
    exact (HOF.out W1 (HT.out.below hb1 HT.out.lt)).mono fun e w' ⟨h1, h2⟩ => ⟨_, h1, rfl, h2 ▸ Below.refl _ _⟩
  · intro ρ W1 hb1 H
    exact gives_load rfl (H.old 2 _ (by kernel_rfl) rfl) Tryd.underlying4 rfl ((hb1.cell HL2.out).trans HC2.out) ⟨rfl, Below.refl _ _⟩
  · intro ρ W1 hb1 H
    have e0 : ρ (.tmp 6) = v := H.new 6 0 (by kernel_rfl)
    have e1 : ρ (.tmp 8) = .int .i64 (K : Int) := H.new 8 2 (by kernel_rfl)
    have e2 : ρ (.tmp 9) = .bool s := H.new 9 3 (by kernel_rfl)
    refine gives_call rfl (fun _ _ => by kernel_rfl) (H.func _) (args := #[v, .int .i64 (K : Int), .bool s]) (by simp [e0, e1, e2]) ?_
    exact (HP.out W1 (HV.out.below hb1) (HT.out.below hb1 HT.out.lt)).mono fun e w' ⟨b, h1, h2, h3⟩ => ⟨_, h1, ⟨b, rfl, h2⟩, h3⟩
  · intro ρ W1 hb1 H
    obtain ⟨b, h1, h2⟩ := (show ∃ b, ρ (.tmp 10) = .tuple #[b, .int .i64 px] ∧ IsB pl b W1 from H.new 10 4 (by kernel_rfl))
    exact gives_extract rfl h1 rfl ⟨h2, Below.refl _ _⟩
  · intro ρ W1 hb1 H
    obtain ⟨b, h1, h2⟩ := (show ∃ b, ρ (.tmp 10) = .tuple #[b, .int .i64 px] ∧ IsB pl b W1 from H.new 10 4 (by kernel_rfl))
    exact gives_extract rfl h1 rfl ⟨rfl, Below.refl _ _⟩
  · intro ρ W1 hb1 H
    exact gives_assign rfl rfl ⟨H.new 11 5 (by kernel_rfl), Below.refl _ _⟩
  · intro ρ W1 hb1 H
    exact gives_assign rfl (H.new 12 6 (by kernel_rfl)) ⟨rfl, Below.refl _ _⟩
  · intro vs W1 hb1 hfs
    have f7 : IsB (pl) (vs 7) W1 := hfs 7 (by decide)
    have f8 : vs 8 = .int .i64 px := hfs 8 (by decide)
    clear hfs
    simp only [putAll, Nat.zero_add, Nat.reduceAdd]
    generalize vs 0 = z0
    generalize vs 1 = z1
    generalize vs 2 = z2
    generalize vs 3 = z3
    generalize vs 4 = z4
    generalize vs 5 = z5
    generalize vs 6 = z6
    generalize vs 7 = z7 at f7 ⊢
    simp only [f8, Act.put, List.setIfInBounds_toArray, List.set_cons_succ, List.set_cons_zero]
    clear f8
    have HB := Lib.hid f7
    have HW := Lib.hid hb1
    clear f7 hb1
    go_wp2
    go_ret2
    rw [HE.out]
    exact ⟨_, rfl, HB.out, HW.out⟩
theorem unil_eq (W : World) : (binOp .eql 25 (.slice none 0 0) (.slice none 0 0)).run Tryd.prog W = .ok (.bool true) W := Lib.run_eql_slice_nil W _ _ none 0 0 0 0 Tryd.underlying25
theorem unil_ne (ad : Addr) (n c : Nat) (W : World) : (binOp .eql 25 (.slice (some ad) n c) (.slice none 0 0)).run Tryd.prog W = .ok (.bool false) W := Lib.run_eql_slice_nil W _ _ (some ad) n c 0 0 Tryd.underlying25
/-- What best holds. -/
def UBest (o : Option (List UInt8)) (v : Value) (w : World) : Prop := match o with | none => v = .slice none 0 0 | some a => IsB a v w ∧ 1 ≤ a.length
def UBRel (F : Nat → List UInt8 × Int) (N : Nat) (w : World) (b i : Value) (wr : World) : Prop := ∃ k : Nat, k ≤ N ∧ i = .int .i64 (k : Int) ∧ UBest (((List.range k).map F).foldl ubest none) b wr ∧ Below w.heap.size w wr
set_option maxHeartbeats 4000000 in
set_option maxRecDepth 100000 in
theorem ushortest_pat (N : Nat) (F : Nat → List UInt8 × Int) (p1 p2 : Nat) (w : World) (hN : N ≤ 1000) (hf : ∀ (k : Nat) (W : World), k < N → Below w.heap.size w W → Calls Tryd.prog 58 #[.int .i64 (k : Int), .pointer (some ⟨p1, 0, none⟩), .pointer (some ⟨p2, 0, none⟩)] W (RetE W (F k)))
    (hlen : ∀ k, k < N → (F k).2 = 0 → 1 ≤ (F k).1.length) :
    Calls Tryd.prog 13 #[.int .i64 (N : Int), .func (.func 58) #[] #[.pointer (some ⟨p1, 0, none⟩), .pointer (some ⟨p2, 0, none⟩)]] w (RetE w (uans (((List.range N).map F).foldl ubest none))) := by
  have HF := Lib.hid hf
  have HLEN := Lib.hid hlen
  have HS : Hid (UBRel F N w (.slice none 0 0) (.int .i64 0) w) := Lib.hid ⟨0, Nat.zero_le _, rfl, rfl, Below.refl _ _⟩
  clear hf hlen
  go_enter Tryd.func13, Tryd.ntmps13
  go_wp2
  go_loopw [6, 11] (UBRel F N w) (fun _ i _ => N - (intOf i).toNat)
  case atStart => exact HS.out
  case round =>
    obtain ⟨k, hk, rfl, hbest, hbw⟩ := hrel
    clear HS
    have HBW := Lib.hid hbw
    have HFS := Lib.hid (show ((List.range (k + 1)).map F).foldl ubest none = ubest (((List.range k).map F).foldl ubest none) (F k) by
      rw [List.range_succ, List.map_append, List.foldl_append]; rfl)
    obtain ⟨o, ho⟩ : ∃ o, o = ((List.range k).map F).foldl ubest none := ⟨_, rfl⟩
    rw [← ho] at hbest HFS
    have HO := Lib.hid ho
    clear hbw ho
    by_cases hlt : k < N
    · have hlti : (k : Int) < (N : Int) := by omega
      have HFK := Lib.hid (HF.out k wr hlt HBW.out)
      have HLK := Lib.hid (HLEN.out k hlt)
      obtain ⟨fl, fx, hfk⟩ : ∃ fl fx, F k = (fl, fx) := ⟨_, _, rfl⟩
      rw [hfk] at HFK HFS HLK
      clear hfk
      rcases o with _ | a
      · obtain rfl : _ = Value.slice none 0 0 := hbest
        have hnil := unil_eq
        by_cases hx : fx = 0
        · subst hx
          go_wp2_with (go_at_call 58; refine HFK.out.mono ?_; rintro e w2 ⟨v2, rfl, hv2, hb2⟩; have HV2 := Lib.hid hv2; have HB2 := Lib.hid (below_then HBW.out hb2); clear hv2 hb2)
          go_roundw
          case rel => exact ⟨k + 1, hlt, by go_num, by rw [HFS.out, ubest_none rfl]; exact ⟨HV2.out, HLK.out (by trivial)⟩, HB2.out⟩
          case measure => simp [intOf]; omega
        · have d1 : (fx == 0) = false := by simpa using hx
          have HX := Lib.hid hx
          clear hx
          go_wp2_with (go_at_call 58; refine HFK.out.mono ?_; rintro e w2 ⟨v2, rfl, hv2, hb2⟩; have HV2 := Lib.hid hv2; have HB2 := Lib.hid (below_then HBW.out hb2); clear hv2 hb2)
          go_roundw
          case rel => exact ⟨k + 1, hlt, by go_num, by rw [HFS.out, ubest_bad HX.out]; rfl, HB2.out⟩
          case measure => simp [intOf]; omega
      · obtain ⟨ha, ha1⟩ := hbest
        obtain ⟨A6, n6, c6, rfl⟩ := IsV.shape (f := bv) ha
        have hp6 := IsV.parts (f := bv) (show IsV bv a _ _ from ha)
        have HN6 := Lib.hid hp6.1
        have hn61 : 1 ≤ n6 := by rw [← hp6.1]; exact ha1
        have hci6 : (n6 : Int) ≤ 9223372036854775807 := by have h1 := hp6.2.2.1; have h2 := hp6.2.2.2.1; unfold maxLen at h2; omega
        have hAs : ∃ ad, A6 = some ad := by
          cases A6 with
          | none => have := hp6.2.1 rfl; omega
          | some ad => exact ⟨ad, rfl⟩
        obtain ⟨ad6, rfl⟩ := hAs
        have hnil := fun W => unil_ne ad6 n6 c6 W
        have HA := Lib.hid ha
        have HA1 := Lib.hid ha1
        clear ha ha1 hp6
        by_cases hx : fx = 0
        · subst hx
          go_wp2_with fail
          refine HFK.out.mono ?_
          rintro e w2 ⟨v2, rfl, hv2, hb2⟩
          obtain ⟨A8, n8, c8, rfl⟩ := IsV.shape (f := bv) hv2
          have hn8 := (IsV.parts (f := bv) (show IsV bv fl _ _ from hv2)).1
          have HN8 := Lib.hid hn8
          have HV2 := Lib.hid hv2
          have HB2 := Lib.hid (below_then HBW.out hb2)
          have HA2 := Lib.hid (IsB.below HA.out hb2)
          clear hv2 hb2 hn8
          by_cases hlt8 : n8 < n6
          · have hlt8i : (n8 : Int) < (n6 : Int) := by omega
            have d2 : decide ((n8 : Int) < (n6 : Int)) = true := decide_eq_true hlt8i
            go_wp2
            go_roundw
            case rel => exact ⟨k + 1, hlt, by go_num, by rw [HFS.out, ubest_less rfl (by have := HN8.out; have := HN6.out; dsimp only; omega)]; exact ⟨HV2.out, HLK.out (by trivial)⟩, HB2.out⟩
            case measure => simp [intOf]; omega
          · have hlt8i : ¬ (n8 : Int) < (n6 : Int) := by omega
            have d2 : decide ((n8 : Int) < (n6 : Int)) = false := decide_eq_false hlt8i
            go_wp2
            go_roundw
            case rel => exact ⟨k + 1, hlt, by go_num, by rw [HFS.out, ubest_more (by have := HN8.out; have := HN6.out; dsimp only; omega)]; exact ⟨HA2.out, HA1.out⟩, HB2.out⟩
            case measure => simp [intOf]; omega
        · have d1 : (fx == 0) = false := by simpa using hx
          have HX := Lib.hid hx
          clear hx
          go_wp2_with (go_at_call 58; refine HFK.out.mono ?_; rintro e w2 ⟨v2, rfl, hv2, hb2⟩; have HB2 := Lib.hid (below_then HBW.out hb2); have HA2 := Lib.hid (IsB.below HA.out hb2); clear hv2 hb2)
          go_roundw
          case rel => exact ⟨k + 1, hlt, by go_num, by rw [HFS.out, ubest_bad HX.out]; exact ⟨HA2.out, HA1.out⟩, HB2.out⟩
          case measure => simp [intOf]; omega
    · obtain rfl : k = N := by omega
      have hlti : ¬ (k : Int) < (k : Int) := by omega
      rcases o with _ | a
      · obtain rfl : _ = Value.slice none 0 0 := hbest
        have hnil := unil_eq
        go_wp2
        go_ret2
        rw [← HO.out]
        exact RetE.nil _ HBW.out
      · obtain ⟨ha, ha1⟩ := hbest
        obtain ⟨A6, n6, c6, rfl⟩ := IsV.shape (f := bv) ha
        have hp6 := IsV.parts (f := bv) (show IsV bv a _ _ from ha)
        have hn61 : 1 ≤ n6 := by rw [← hp6.1]; exact ha1
        have hAs : ∃ ad, A6 = some ad := by
          cases A6 with
          | none => have := hp6.2.1 rfl; omega
          | some ad => exact ⟨ad, rfl⟩
        obtain ⟨ad6, rfl⟩ := hAs
        have hnil := fun W => unil_ne ad6 n6 c6 W
        have HA := Lib.hid ha
        clear ha ha1 hp6
        go_wp2
        go_ret2
        rw [← HO.out]
        exact ⟨_, rfl, HA.out, HBW.out⟩
set_option maxHeartbeats 4000000 in
set_option maxRecDepth 100000 in
theorem ushortest_run (N : Nat) (F : Nat → List UInt8 × Int) (p6 p2 p3 : Nat) (w : World) (hN : N ≤ 1000) (hf : ∀ (k : Nat) (W : World), k < N → Below w.heap.size w W → Calls Tryd.prog 14 #[.int .i64 (k : Int), .pointer (some ⟨p6, 0, none⟩), .pointer (some ⟨p2, 0, none⟩), .pointer (some ⟨p3, 0, none⟩)] W (RetE W (F k)))
    (hlen : ∀ k, k < N → (F k).2 = 0 → 1 ≤ (F k).1.length) :
    Calls Tryd.prog 13 #[.int .i64 (N : Int), .func (.func 14) #[] #[.pointer (some ⟨p6, 0, none⟩), .pointer (some ⟨p2, 0, none⟩), .pointer (some ⟨p3, 0, none⟩)]] w (RetE w (uans (((List.range N).map F).foldl ubest none))) := by
  have HF := Lib.hid hf
  have HLEN := Lib.hid hlen
  have HS : Hid (UBRel F N w (.slice none 0 0) (.int .i64 0) w) := Lib.hid ⟨0, Nat.zero_le _, rfl, rfl, Below.refl _ _⟩
  clear hf hlen
  go_enter Tryd.func13, Tryd.ntmps13
  go_wp2
  go_loopw [6, 11] (UBRel F N w) (fun _ i _ => N - (intOf i).toNat)
  case atStart => exact HS.out
  case round =>
    obtain ⟨k, hk, rfl, hbest, hbw⟩ := hrel
    clear HS
    have HBW := Lib.hid hbw
    have HFS := Lib.hid (show ((List.range (k + 1)).map F).foldl ubest none = ubest (((List.range k).map F).foldl ubest none) (F k) by
      rw [List.range_succ, List.map_append, List.foldl_append]; rfl)
    obtain ⟨o, ho⟩ : ∃ o, o = ((List.range k).map F).foldl ubest none := ⟨_, rfl⟩
    rw [← ho] at hbest HFS
    have HO := Lib.hid ho
    clear hbw ho
    by_cases hlt : k < N
    · have hlti : (k : Int) < (N : Int) := by omega
      have HFK := Lib.hid (HF.out k wr hlt HBW.out)
      have HLK := Lib.hid (HLEN.out k hlt)
      obtain ⟨fl, fx, hfk⟩ : ∃ fl fx, F k = (fl, fx) := ⟨_, _, rfl⟩
      rw [hfk] at HFK HFS HLK
      clear hfk
      rcases o with _ | a
      · obtain rfl : _ = Value.slice none 0 0 := hbest
        have hnil := unil_eq
        by_cases hx : fx = 0
        · subst hx
          go_wp2_with (go_at_call 14; refine HFK.out.mono ?_; rintro e w2 ⟨v2, rfl, hv2, hb2⟩; have HV2 := Lib.hid hv2; have HB2 := Lib.hid (below_then HBW.out hb2); clear hv2 hb2)
          go_roundw
          case rel => exact ⟨k + 1, hlt, by go_num, by rw [HFS.out, ubest_none rfl]; exact ⟨HV2.out, HLK.out (by trivial)⟩, HB2.out⟩
          case measure => simp [intOf]; omega
        · have d1 : (fx == 0) = false := by simpa using hx
          have HX := Lib.hid hx
          clear hx
          go_wp2_with (go_at_call 14; refine HFK.out.mono ?_; rintro e w2 ⟨v2, rfl, hv2, hb2⟩; have HV2 := Lib.hid hv2; have HB2 := Lib.hid (below_then HBW.out hb2); clear hv2 hb2)
          go_roundw
          case rel => exact ⟨k + 1, hlt, by go_num, by rw [HFS.out, ubest_bad HX.out]; rfl, HB2.out⟩
          case measure => simp [intOf]; omega
      · obtain ⟨ha, ha1⟩ := hbest
        obtain ⟨A6, n6, c6, rfl⟩ := IsV.shape (f := bv) ha
        have hp6 := IsV.parts (f := bv) (show IsV bv a _ _ from ha)
        have HN6 := Lib.hid hp6.1
        have hn61 : 1 ≤ n6 := by rw [← hp6.1]; exact ha1
        have hci6 : (n6 : Int) ≤ 9223372036854775807 := by have h1 := hp6.2.2.1; have h2 := hp6.2.2.2.1; unfold maxLen at h2; omega
        have hAs : ∃ ad, A6 = some ad := by
          cases A6 with
          | none => have := hp6.2.1 rfl; omega
          | some ad => exact ⟨ad, rfl⟩
        obtain ⟨ad6, rfl⟩ := hAs
        have hnil := fun W => unil_ne ad6 n6 c6 W
        have HA := Lib.hid ha
        have HA1 := Lib.hid ha1
        clear ha ha1 hp6
        by_cases hx : fx = 0
        · subst hx
          go_wp2_with fail
          refine HFK.out.mono ?_
          rintro e w2 ⟨v2, rfl, hv2, hb2⟩
          obtain ⟨A8, n8, c8, rfl⟩ := IsV.shape (f := bv) hv2
          have hn8 := (IsV.parts (f := bv) (show IsV bv fl _ _ from hv2)).1
          have HN8 := Lib.hid hn8
          have HV2 := Lib.hid hv2
          have HB2 := Lib.hid (below_then HBW.out hb2)
          have HA2 := Lib.hid (IsB.below HA.out hb2)
          clear hv2 hb2 hn8
          by_cases hlt8 : n8 < n6
          · have hlt8i : (n8 : Int) < (n6 : Int) := by omega
            have d2 : decide ((n8 : Int) < (n6 : Int)) = true := decide_eq_true hlt8i
            go_wp2
            go_roundw
            case rel => exact ⟨k + 1, hlt, by go_num, by rw [HFS.out, ubest_less rfl (by have := HN8.out; have := HN6.out; dsimp only; omega)]; exact ⟨HV2.out, HLK.out (by trivial)⟩, HB2.out⟩
            case measure => simp [intOf]; omega
          · have hlt8i : ¬ (n8 : Int) < (n6 : Int) := by omega
            have d2 : decide ((n8 : Int) < (n6 : Int)) = false := decide_eq_false hlt8i
            go_wp2
            go_roundw
            case rel => exact ⟨k + 1, hlt, by go_num, by rw [HFS.out, ubest_more (by have := HN8.out; have := HN6.out; dsimp only; omega)]; exact ⟨HA2.out, HA1.out⟩, HB2.out⟩
            case measure => simp [intOf]; omega
        · have d1 : (fx == 0) = false := by simpa using hx
          have HX := Lib.hid hx
          clear hx
          go_wp2_with (go_at_call 14; refine HFK.out.mono ?_; rintro e w2 ⟨v2, rfl, hv2, hb2⟩; have HB2 := Lib.hid (below_then HBW.out hb2); have HA2 := Lib.hid (IsB.below HA.out hb2); clear hv2 hb2)
          go_roundw
          case rel => exact ⟨k + 1, hlt, by go_num, by rw [HFS.out, ubest_bad HX.out]; exact ⟨HA2.out, HA1.out⟩, HB2.out⟩
          case measure => simp [intOf]; omega
    · obtain rfl : k = N := by omega
      have hlti : ¬ (k : Int) < (k : Int) := by omega
      rcases o with _ | a
      · obtain rfl : _ = Value.slice none 0 0 := hbest
        have hnil := unil_eq
        go_wp2
        go_ret2
        rw [← HO.out]
        exact RetE.nil _ HBW.out
      · obtain ⟨ha, ha1⟩ := hbest
        obtain ⟨A6, n6, c6, rfl⟩ := IsV.shape (f := bv) ha
        have hp6 := IsV.parts (f := bv) (show IsV bv a _ _ from ha)
        have hn61 : 1 ≤ n6 := by rw [← hp6.1]; exact ha1
        have hAs : ∃ ad, A6 = some ad := by
          cases A6 with
          | none => have := hp6.2.1 rfl; omega
          | some ad => exact ⟨ad, rfl⟩
        obtain ⟨ad6, rfl⟩ := hAs
        have hnil := fun W => unil_ne ad6 n6 c6 W
        have HA := Lib.hid ha
        clear ha ha1 hp6
        go_wp2
        go_ret2
        rw [← HO.out]
        exact ⟨_, rfl, HA.out, HBW.out⟩
set_option maxHeartbeats 1000000 in
set_option maxRecDepth 100000 in
theorem uputpat_any (l : List Int) (v : Value) (s : Bool) (w : World) (ht : WTab w) (hv : IsV iv l v w) (hl : ∀ x ∈ l, inInt x) (hb : l.length ≤ 1000000) :
    Calls Tryd.prog 34 #[v, .bool s] w (RetE w (upat l s)) := by
  obtain ⟨A, n, c, rfl⟩ := hv.shape
  obtain ⟨v, hv0⟩ : ∃ v, v = Value.slice A n c := ⟨_, rfl⟩
  rw [← hv0] at hv
  obtain ⟨w1, hw1⟩ : ∃ w1, w1 = (w.alloc (.cells #[v] 22)).alloc (.cells #[.bool s] 4) := ⟨_, rfl⟩
  have hb1 : Below w.heap.size w w1 := by rw [hw1]; exact ((Below.refl _ _).alloc (Nat.le_refl _) _).alloc (by simp) _
  have r1 : Row w1 w.heap.size 22 [v] := by
    have h0 : Row (w.alloc (.cells #[v] 22)) w.heap.size 22 [v] := heap_alloc_new w _
    rw [hw1]; exact h0.alloc _
  have r2 : Row w1 (w.heap.size + 1) 4 [.bool s] := by
    rw [hw1]
    have h0 := heap_alloc_new (w.alloc (.cells #[v] 22)) (.cells #[.bool s] 4)
    rw [show (w.alloc (.cells #[v] 22)).heap.size = w.heap.size + 1 by simp] at h0
    exact h0
  have HS := Lib.hid (ushortest_pat 31 (fun c : Nat => pputE l (wof (c : Int)) s) w.heap.size (w.heap.size + 1) w1 (by omega)
    (fun k W hk hW => uppat1_any k hk _ _ l v s W (ht.below (below_then hb1 hW) ht.lt) (hv.below (below_then hb1 hW)) hl hb (r1.below hW r1.lt) (r2.below hW r2.lt))
    (fun k hk h0 => Nat.pos_of_ne_zero (ulen_pput h0)))
  have HE := Lib.hid (show uans (((List.range 31).map fun c : Nat => pputE l (wof (c : Int)) s).foldl ubest none) = upat l s from rfl)
  rw [HE.out, show ((31 : Nat) : Int) = 31 from rfl] at HS
  have HB := Lib.hid hb1
  rw [hw1, hv0] at HS HB
  clear ht hv hl hb r1 r2 hw1 hb1
  go_enter Tryd.func34, Tryd.ntmps34
  go_wp2_with (go_at_call 13; refine HS.out.mono ?_; rintro e w2 ⟨v2, rfl, hv2, hb2⟩; have HV2 := Lib.hid hv2; have HB2 := Lib.hid (below_then HB.out hb2); clear hv2 hb2)
  go_ret2
  exact ⟨_, rfl, HV2.out, HB2.out⟩
set_option maxHeartbeats 4000000 in
set_option maxRecDepth 100000 in
theorem urun1_0 (p6 p2 p3 g : Nat) (l : List Int) (v : Value) (s : Bool) (w : World) (ht : WTab w) (hv : IsV iv l v w) (hl : ∀ x ∈ l, inInt x) (hb : l.length ≤ 1000000)
    (h6 : Row w p6 33 [.slice (some ⟨g, 0, none⟩) 4 4]) (h2 : Row w p2 22 [v]) (h3 : Row w p3 4 [.bool s]) (hg : Row w g 38 kcells) :
    Calls Tryd.prog 14 #[.int .i64 0, .pointer (some ⟨p6, 0, none⟩), .pointer (some ⟨p2, 0, none⟩), .pointer (some ⟨p3, 0, none⟩)] w (RetE w (urep l s)) := by
  have HT := Lib.hid ht
  have HV := Lib.hid hv
  have HPR := Lib.hid (fun W (h : IsV iv l v W) (ht : WTab W) => uputrep_any l v s W h hl hb)
  have HC6 := Lib.hid (show w.cell? ⟨p6, 0, none⟩ = some (.slice (some ⟨g, 0, none⟩) 4 4) from h6.cell 0)
  have HC2 := Lib.hid (show w.cell? ⟨p2, 0, none⟩ = some v from h2.cell 0)
  have HC3 := Lib.hid (show w.cell? ⟨p3, 0, none⟩ = some (.bool s) from h3.cell 0)
  have HF := Lib.hid (show w.cell? ⟨g, 1, none⟩ = some (.func (.func 30) #[] #[]) from hg.cell 1)
  have HL6 := Lib.hid h6.lt
  have HL2 := Lib.hid h2.lt
  have HL3 := Lib.hid h3.lt
  have HLG := Lib.hid hg.lt
  obtain ⟨pl, px, hE⟩ : ∃ pl px, urep l s = (pl, px) := ⟨_, _, rfl⟩
  rw [hE] at HPR
  have HE := Lib.hid hE
  clear ht hv hl hb h6 h2 h3 hg hE
  go_enter Tryd.func14, Tryd.ntmps14
  go_wp2_with fail
  refine wp_region_list [.is (.slice (some ⟨g, 0, none⟩) 4 4), .is (.int .i64 0), .is (.pointer (some ⟨g, 0, none⟩)), .is (.pointer (some ⟨g, 1, none⟩)), .is (.func (.func 30) #[] #[]), .is (v), .is (.bool s), .putE (pl) (px), .bytes (pl), .is (.int .i64 px), .bytes (pl), .is (.int .i64 px)] [some 7, some 8, some 9, some 10, some 11, some 12, some 13, some 14, some 15, some 16, some 5, some 6] (by kernel_rfl) (by kernel_rfl) (by kernel_rfl) rfl ⟨?_, ?_, ?_, ?_, ?_, ?_, ?_, ?_, ?_, ?_, ?_, ?_, trivial⟩ ?_
  · intro ρ W1 hb1 H
    exact gives_load rfl (H.old 1 _ (by kernel_rfl) rfl) Tryd.underlying33 rfl ((hb1.cell HL6.out).trans HC6.out) ⟨rfl, Below.refl _ _⟩
  · intro ρ W1 hb1 H
    exact gives_move rfl (H.old 0 _ (by kernel_rfl) rfl) ⟨rfl, Below.refl _ _⟩
  · intro ρ W1 hb1 H
    exact gives_indexW (k := 0) elemK rfl (H.new 7 0 (by kernel_rfl)) (H.new 8 1 (by kernel_rfl)) (by omega) ⟨congrArg (fun q => Value.pointer (some q)) (by simp [Addr.add]), Below.refl _ _⟩
  · intro ρ W1 hb1 H
    exact gives_field rfl (H.new 9 2 (by kernel_rfl)) (fun W => kind_at1 0 W _) ⟨rfl, Below.refl _ _⟩
  · intro ρ W1 hb1 H
    exact gives_load rfl (H.new 10 3 (by kernel_rfl)) Tryd.underlying28 rfl ((hb1.cell HLG.out).trans HF.out) ⟨rfl, Below.refl _ _⟩
  · intro ρ W1 hb1 H
    exact gives_load rfl (H.old 2 _ (by kernel_rfl) rfl) Tryd.underlying22 rfl ((hb1.cell HL2.out).trans HC2.out) ⟨rfl, Below.refl _ _⟩
  · intro ρ W1 hb1 H
    exact gives_load rfl (H.old 3 _ (by kernel_rfl) rfl) Tryd.underlying4 rfl ((hb1.cell HL3.out).trans HC3.out) ⟨rfl, Below.refl _ _⟩
  · intro ρ W1 hb1 H
    have e0 : ρ (.tmp 12) = v := H.new 12 5 (by kernel_rfl)
    have e1 : ρ (.tmp 13) = .bool s := H.new 13 6 (by kernel_rfl)
    refine gives_callV rfl (fun _ _ => by kernel_rfl) (H.new 11 4 (by kernel_rfl)) (args := #[v, .bool s]) (by simp [e0, e1]) ?_
    exact (HPR.out W1 (HV.out.below hb1) (HT.out.below hb1 HT.out.lt)).mono fun e w' ⟨b, h1, h2, h3⟩ => ⟨_, h1, ⟨b, rfl, h2⟩, h3⟩
  · intro ρ W1 hb1 H
    obtain ⟨b, h1, h2⟩ := (show ∃ b, ρ (.tmp 14) = .tuple #[b, .int .i64 px] ∧ IsB pl b W1 from H.new 14 7 (by kernel_rfl))
    exact gives_extract rfl h1 rfl ⟨h2, Below.refl _ _⟩
  · intro ρ W1 hb1 H
    obtain ⟨b, h1, h2⟩ := (show ∃ b, ρ (.tmp 14) = .tuple #[b, .int .i64 px] ∧ IsB pl b W1 from H.new 14 7 (by kernel_rfl))
    exact gives_extract rfl h1 rfl ⟨rfl, Below.refl _ _⟩
  · intro ρ W1 hb1 H
    exact gives_assign rfl rfl ⟨H.new 15 8 (by kernel_rfl), Below.refl _ _⟩
  · intro ρ W1 hb1 H
    exact gives_assign rfl (H.new 16 9 (by kernel_rfl)) ⟨rfl, Below.refl _ _⟩
  · intro vs W1 hb1 hfs
    have f10 : IsB (pl) (vs 10) W1 := hfs 10 (by decide)
    have f11 : vs 11 = .int .i64 px := hfs 11 (by decide)
    clear hfs
    simp only [putAll, Nat.zero_add, Nat.reduceAdd]
    generalize vs 0 = z0
    generalize vs 1 = z1
    generalize vs 2 = z2
    generalize vs 3 = z3
    generalize vs 4 = z4
    generalize vs 5 = z5
    generalize vs 6 = z6
    generalize vs 7 = z7
    generalize vs 8 = z8
    generalize vs 9 = z9
    generalize vs 10 = z10 at f10 ⊢
    simp only [f11, Act.put, List.setIfInBounds_toArray, List.set_cons_succ, List.set_cons_zero]
    clear f11
    have HB := Lib.hid f10
    have HW := Lib.hid hb1
    clear f10 hb1
    go_wp2
    go_ret2
    rw [HE.out]
    exact ⟨_, rfl, HB.out, HW.out⟩
set_option maxHeartbeats 4000000 in
set_option maxRecDepth 100000 in
theorem urun1_1 (p6 p2 p3 g : Nat) (l : List Int) (v : Value) (s : Bool) (w : World) (ht : WTab w) (hv : IsV iv l v w) (hl : ∀ x ∈ l, inInt x) (hb : l.length ≤ 1000000)
    (h6 : Row w p6 33 [.slice (some ⟨g, 0, none⟩) 4 4]) (h2 : Row w p2 22 [v]) (h3 : Row w p3 4 [.bool s]) (hg : Row w g 38 kcells) :
    Calls Tryd.prog 14 #[.int .i64 1, .pointer (some ⟨p6, 0, none⟩), .pointer (some ⟨p2, 0, none⟩), .pointer (some ⟨p3, 0, none⟩)] w (RetE w (dputE l s)) := by
  have HT := Lib.hid ht
  have HV := Lib.hid hv
  have HPD := Lib.hid (fun W (h : IsV iv l v W) (ht : WTab W) => dput_any l v s W ht h hl hb)
  have HC6 := Lib.hid (show w.cell? ⟨p6, 0, none⟩ = some (.slice (some ⟨g, 0, none⟩) 4 4) from h6.cell 0)
  have HC2 := Lib.hid (show w.cell? ⟨p2, 0, none⟩ = some v from h2.cell 0)
  have HC3 := Lib.hid (show w.cell? ⟨p3, 0, none⟩ = some (.bool s) from h3.cell 0)
  have HF := Lib.hid (show w.cell? ⟨g, 4, none⟩ = some (.func (.func 8) #[] #[]) from hg.cell 4)
  have HL6 := Lib.hid h6.lt
  have HL2 := Lib.hid h2.lt
  have HL3 := Lib.hid h3.lt
  have HLG := Lib.hid hg.lt
  obtain ⟨pl, px, hE⟩ : ∃ pl px, dputE l s = (pl, px) := ⟨_, _, rfl⟩
  rw [hE] at HPD
  have HE := Lib.hid hE
  clear ht hv hl hb h6 h2 h3 hg hE
  go_enter Tryd.func14, Tryd.ntmps14
  go_wp2_with fail
  refine wp_region_list [.is (.slice (some ⟨g, 0, none⟩) 4 4), .is (.int .i64 1), .is (.pointer (some ⟨g, 3, none⟩)), .is (.pointer (some ⟨g, 4, none⟩)), .is (.func (.func 8) #[] #[]), .is (v), .is (.bool s), .putE (pl) (px), .bytes (pl), .is (.int .i64 px), .bytes (pl), .is (.int .i64 px)] [some 7, some 8, some 9, some 10, some 11, some 12, some 13, some 14, some 15, some 16, some 5, some 6] (by kernel_rfl) (by kernel_rfl) (by kernel_rfl) rfl ⟨?_, ?_, ?_, ?_, ?_, ?_, ?_, ?_, ?_, ?_, ?_, ?_, trivial⟩ ?_
  · intro ρ W1 hb1 H
    exact gives_load rfl (H.old 1 _ (by kernel_rfl) rfl) Tryd.underlying33 rfl ((hb1.cell HL6.out).trans HC6.out) ⟨rfl, Below.refl _ _⟩
  · intro ρ W1 hb1 H
    exact gives_move rfl (H.old 0 _ (by kernel_rfl) rfl) ⟨rfl, Below.refl _ _⟩
  · intro ρ W1 hb1 H
    exact gives_indexW (k := 1) elemK rfl (H.new 7 0 (by kernel_rfl)) (H.new 8 1 (by kernel_rfl)) (by omega) ⟨congrArg (fun q => Value.pointer (some q)) (by simp [Addr.add]), Below.refl _ _⟩
  · intro ρ W1 hb1 H
    exact gives_field rfl (H.new 9 2 (by kernel_rfl)) (fun W => kind_at1 3 W _) ⟨rfl, Below.refl _ _⟩
  · intro ρ W1 hb1 H
    exact gives_load rfl (H.new 10 3 (by kernel_rfl)) Tryd.underlying28 rfl ((hb1.cell HLG.out).trans HF.out) ⟨rfl, Below.refl _ _⟩
  · intro ρ W1 hb1 H
    exact gives_load rfl (H.old 2 _ (by kernel_rfl) rfl) Tryd.underlying22 rfl ((hb1.cell HL2.out).trans HC2.out) ⟨rfl, Below.refl _ _⟩
  · intro ρ W1 hb1 H
    exact gives_load rfl (H.old 3 _ (by kernel_rfl) rfl) Tryd.underlying4 rfl ((hb1.cell HL3.out).trans HC3.out) ⟨rfl, Below.refl _ _⟩
  · intro ρ W1 hb1 H
    have e0 : ρ (.tmp 12) = v := H.new 12 5 (by kernel_rfl)
    have e1 : ρ (.tmp 13) = .bool s := H.new 13 6 (by kernel_rfl)
    refine gives_callV rfl (fun _ _ => by kernel_rfl) (H.new 11 4 (by kernel_rfl)) (args := #[v, .bool s]) (by simp [e0, e1]) ?_
    exact (HPD.out W1 (HV.out.below hb1) (HT.out.below hb1 HT.out.lt)).mono fun e w' ⟨b, h1, h2, h3⟩ => ⟨_, h1, ⟨b, rfl, h2⟩, h3⟩
  · intro ρ W1 hb1 H
    obtain ⟨b, h1, h2⟩ := (show ∃ b, ρ (.tmp 14) = .tuple #[b, .int .i64 px] ∧ IsB pl b W1 from H.new 14 7 (by kernel_rfl))
    exact gives_extract rfl h1 rfl ⟨h2, Below.refl _ _⟩
  · intro ρ W1 hb1 H
    obtain ⟨b, h1, h2⟩ := (show ∃ b, ρ (.tmp 14) = .tuple #[b, .int .i64 px] ∧ IsB pl b W1 from H.new 14 7 (by kernel_rfl))
    exact gives_extract rfl h1 rfl ⟨rfl, Below.refl _ _⟩
  · intro ρ W1 hb1 H
    exact gives_assign rfl rfl ⟨H.new 15 8 (by kernel_rfl), Below.refl _ _⟩
  · intro ρ W1 hb1 H
    exact gives_assign rfl (H.new 16 9 (by kernel_rfl)) ⟨rfl, Below.refl _ _⟩
  · intro vs W1 hb1 hfs
    have f10 : IsB (pl) (vs 10) W1 := hfs 10 (by decide)
    have f11 : vs 11 = .int .i64 px := hfs 11 (by decide)
    clear hfs
    simp only [putAll, Nat.zero_add, Nat.reduceAdd]
    generalize vs 0 = z0
    generalize vs 1 = z1
    generalize vs 2 = z2
    generalize vs 3 = z3
    generalize vs 4 = z4
    generalize vs 5 = z5
    generalize vs 6 = z6
    generalize vs 7 = z7
    generalize vs 8 = z8
    generalize vs 9 = z9
    generalize vs 10 = z10 at f10 ⊢
    simp only [f11, Act.put, List.setIfInBounds_toArray, List.set_cons_succ, List.set_cons_zero]
    clear f11
    have HB := Lib.hid f10
    have HW := Lib.hid hb1
    clear f10 hb1
    go_wp2
    go_ret2
    rw [HE.out]
    exact ⟨_, rfl, HB.out, HW.out⟩
set_option maxHeartbeats 4000000 in
set_option maxRecDepth 100000 in
theorem urun1_2 (p6 p2 p3 g : Nat) (l : List Int) (v : Value) (s : Bool) (w : World) (ht : WTab w) (hv : IsV iv l v w) (hl : ∀ x ∈ l, inInt x) (hb : l.length ≤ 1000000)
    (h6 : Row w p6 33 [.slice (some ⟨g, 0, none⟩) 4 4]) (h2 : Row w p2 22 [v]) (h3 : Row w p3 4 [.bool s]) (hg : Row w g 38 kcells) :
    Calls Tryd.prog 14 #[.int .i64 2, .pointer (some ⟨p6, 0, none⟩), .pointer (some ⟨p2, 0, none⟩), .pointer (some ⟨p3, 0, none⟩)] w (RetE w (gputE l s)) := by
  have HT := Lib.hid ht
  have HV := Lib.hid hv
  have HPG := Lib.hid (fun W (h : IsV iv l v W) (ht : WTab W) => tput_any l v s W ht h hl hb)
  have HC6 := Lib.hid (show w.cell? ⟨p6, 0, none⟩ = some (.slice (some ⟨g, 0, none⟩) 4 4) from h6.cell 0)
  have HC2 := Lib.hid (show w.cell? ⟨p2, 0, none⟩ = some v from h2.cell 0)
  have HC3 := Lib.hid (show w.cell? ⟨p3, 0, none⟩ = some (.bool s) from h3.cell 0)
  have HF := Lib.hid (show w.cell? ⟨g, 7, none⟩ = some (.func (.func 9) #[] #[]) from hg.cell 7)
  have HL6 := Lib.hid h6.lt
  have HL2 := Lib.hid h2.lt
  have HL3 := Lib.hid h3.lt
  have HLG := Lib.hid hg.lt
  obtain ⟨pl, px, hE⟩ : ∃ pl px, gputE l s = (pl, px) := ⟨_, _, rfl⟩
  rw [hE] at HPG
  have HE := Lib.hid hE
  clear ht hv hl hb h6 h2 h3 hg hE
  go_enter Tryd.func14, Tryd.ntmps14
  go_wp2_with fail
  refine wp_region_list [.is (.slice (some ⟨g, 0, none⟩) 4 4), .is (.int .i64 2), .is (.pointer (some ⟨g, 6, none⟩)), .is (.pointer (some ⟨g, 7, none⟩)), .is (.func (.func 9) #[] #[]), .is (v), .is (.bool s), .putE (pl) (px), .bytes (pl), .is (.int .i64 px), .bytes (pl), .is (.int .i64 px)] [some 7, some 8, some 9, some 10, some 11, some 12, some 13, some 14, some 15, some 16, some 5, some 6] (by kernel_rfl) (by kernel_rfl) (by kernel_rfl) rfl ⟨?_, ?_, ?_, ?_, ?_, ?_, ?_, ?_, ?_, ?_, ?_, ?_, trivial⟩ ?_
  · intro ρ W1 hb1 H
    exact gives_load rfl (H.old 1 _ (by kernel_rfl) rfl) Tryd.underlying33 rfl ((hb1.cell HL6.out).trans HC6.out) ⟨rfl, Below.refl _ _⟩
  · intro ρ W1 hb1 H
    exact gives_move rfl (H.old 0 _ (by kernel_rfl) rfl) ⟨rfl, Below.refl _ _⟩
  · intro ρ W1 hb1 H
    exact gives_indexW (k := 2) elemK rfl (H.new 7 0 (by kernel_rfl)) (H.new 8 1 (by kernel_rfl)) (by omega) ⟨congrArg (fun q => Value.pointer (some q)) (by simp [Addr.add]), Below.refl _ _⟩
  · intro ρ W1 hb1 H
    exact gives_field rfl (H.new 9 2 (by kernel_rfl)) (fun W => kind_at1 6 W _) ⟨rfl, Below.refl _ _⟩
  · intro ρ W1 hb1 H
    exact gives_load rfl (H.new 10 3 (by kernel_rfl)) Tryd.underlying28 rfl ((hb1.cell HLG.out).trans HF.out) ⟨rfl, Below.refl _ _⟩
  · intro ρ W1 hb1 H
    exact gives_load rfl (H.old 2 _ (by kernel_rfl) rfl) Tryd.underlying22 rfl ((hb1.cell HL2.out).trans HC2.out) ⟨rfl, Below.refl _ _⟩
  · intro ρ W1 hb1 H
    exact gives_load rfl (H.old 3 _ (by kernel_rfl) rfl) Tryd.underlying4 rfl ((hb1.cell HL3.out).trans HC3.out) ⟨rfl, Below.refl _ _⟩
  · intro ρ W1 hb1 H
    have e0 : ρ (.tmp 12) = v := H.new 12 5 (by kernel_rfl)
    have e1 : ρ (.tmp 13) = .bool s := H.new 13 6 (by kernel_rfl)
    refine gives_callV rfl (fun _ _ => by kernel_rfl) (H.new 11 4 (by kernel_rfl)) (args := #[v, .bool s]) (by simp [e0, e1]) ?_
    exact (HPG.out W1 (HV.out.below hb1) (HT.out.below hb1 HT.out.lt)).mono fun e w' ⟨b, h1, h2, h3⟩ => ⟨_, h1, ⟨b, rfl, h2⟩, h3⟩
  · intro ρ W1 hb1 H
    obtain ⟨b, h1, h2⟩ := (show ∃ b, ρ (.tmp 14) = .tuple #[b, .int .i64 px] ∧ IsB pl b W1 from H.new 14 7 (by kernel_rfl))
    exact gives_extract rfl h1 rfl ⟨h2, Below.refl _ _⟩
  · intro ρ W1 hb1 H
    obtain ⟨b, h1, h2⟩ := (show ∃ b, ρ (.tmp 14) = .tuple #[b, .int .i64 px] ∧ IsB pl b W1 from H.new 14 7 (by kernel_rfl))
    exact gives_extract rfl h1 rfl ⟨rfl, Below.refl _ _⟩
  · intro ρ W1 hb1 H
    exact gives_assign rfl rfl ⟨H.new 15 8 (by kernel_rfl), Below.refl _ _⟩
  · intro ρ W1 hb1 H
    exact gives_assign rfl (H.new 16 9 (by kernel_rfl)) ⟨rfl, Below.refl _ _⟩
  · intro vs W1 hb1 hfs
    have f10 : IsB (pl) (vs 10) W1 := hfs 10 (by decide)
    have f11 : vs 11 = .int .i64 px := hfs 11 (by decide)
    clear hfs
    simp only [putAll, Nat.zero_add, Nat.reduceAdd]
    generalize vs 0 = z0
    generalize vs 1 = z1
    generalize vs 2 = z2
    generalize vs 3 = z3
    generalize vs 4 = z4
    generalize vs 5 = z5
    generalize vs 6 = z6
    generalize vs 7 = z7
    generalize vs 8 = z8
    generalize vs 9 = z9
    generalize vs 10 = z10 at f10 ⊢
    simp only [f11, Act.put, List.setIfInBounds_toArray, List.set_cons_succ, List.set_cons_zero]
    clear f11
    have HB := Lib.hid f10
    have HW := Lib.hid hb1
    clear f10 hb1
    go_wp2
    go_ret2
    rw [HE.out]
    exact ⟨_, rfl, HB.out, HW.out⟩
set_option maxHeartbeats 4000000 in
set_option maxRecDepth 100000 in
theorem urun1_3 (p6 p2 p3 g : Nat) (l : List Int) (v : Value) (s : Bool) (w : World) (ht : WTab w) (hv : IsV iv l v w) (hl : ∀ x ∈ l, inInt x) (hb : l.length ≤ 1000000)
    (h6 : Row w p6 33 [.slice (some ⟨g, 0, none⟩) 4 4]) (h2 : Row w p2 22 [v]) (h3 : Row w p3 4 [.bool s]) (hg : Row w g 38 kcells) :
    Calls Tryd.prog 14 #[.int .i64 3, .pointer (some ⟨p6, 0, none⟩), .pointer (some ⟨p2, 0, none⟩), .pointer (some ⟨p3, 0, none⟩)] w (RetE w (upat l s)) := by
  have HT := Lib.hid ht
  have HV := Lib.hid hv
  have HPP := Lib.hid (fun W (h : IsV iv l v W) (ht : WTab W) => uputpat_any l v s W ht h hl hb)
  have HC6 := Lib.hid (show w.cell? ⟨p6, 0, none⟩ = some (.slice (some ⟨g, 0, none⟩) 4 4) from h6.cell 0)
  have HC2 := Lib.hid (show w.cell? ⟨p2, 0, none⟩ = some v from h2.cell 0)
  have HC3 := Lib.hid (show w.cell? ⟨p3, 0, none⟩ = some (.bool s) from h3.cell 0)
  have HF := Lib.hid (show w.cell? ⟨g, 10, none⟩ = some (.func (.func 34) #[] #[]) from hg.cell 10)
  have HL6 := Lib.hid h6.lt
  have HL2 := Lib.hid h2.lt
  have HL3 := Lib.hid h3.lt
  have HLG := Lib.hid hg.lt
  obtain ⟨pl, px, hE⟩ : ∃ pl px, upat l s = (pl, px) := ⟨_, _, rfl⟩
  rw [hE] at HPP
  have HE := Lib.hid hE
  clear ht hv hl hb h6 h2 h3 hg hE
  go_enter Tryd.func14, Tryd.ntmps14
  go_wp2_with fail
  refine wp_region_list [.is (.slice (some ⟨g, 0, none⟩) 4 4), .is (.int .i64 3), .is (.pointer (some ⟨g, 9, none⟩)), .is (.pointer (some ⟨g, 10, none⟩)), .is (.func (.func 34) #[] #[]), .is (v), .is (.bool s), .putE (pl) (px), .bytes (pl), .is (.int .i64 px), .bytes (pl), .is (.int .i64 px)] [some 7, some 8, some 9, some 10, some 11, some 12, some 13, some 14, some 15, some 16, some 5, some 6] (by kernel_rfl) (by kernel_rfl) (by kernel_rfl) rfl ⟨?_, ?_, ?_, ?_, ?_, ?_, ?_, ?_, ?_, ?_, ?_, ?_, trivial⟩ ?_
  · intro ρ W1 hb1 H
    exact gives_load rfl (H.old 1 _ (by kernel_rfl) rfl) Tryd.underlying33 rfl ((hb1.cell HL6.out).trans HC6.out) ⟨rfl, Below.refl _ _⟩
  · intro ρ W1 hb1 H
    exact gives_move rfl (H.old 0 _ (by kernel_rfl) rfl) ⟨rfl, Below.refl _ _⟩
  · intro ρ W1 hb1 H
    exact gives_indexW (k := 3) elemK rfl (H.new 7 0 (by kernel_rfl)) (H.new 8 1 (by kernel_rfl)) (by omega) ⟨congrArg (fun q => Value.pointer (some q)) (by simp [Addr.add]), Below.refl _ _⟩
  · intro ρ W1 hb1 H
    exact gives_field rfl (H.new 9 2 (by kernel_rfl)) (fun W => kind_at1 9 W _) ⟨rfl, Below.refl _ _⟩
  · intro ρ W1 hb1 H
    exact gives_load rfl (H.new 10 3 (by kernel_rfl)) Tryd.underlying28 rfl ((hb1.cell HLG.out).trans HF.out) ⟨rfl, Below.refl _ _⟩
  · intro ρ W1 hb1 H
    exact gives_load rfl (H.old 2 _ (by kernel_rfl) rfl) Tryd.underlying22 rfl ((hb1.cell HL2.out).trans HC2.out) ⟨rfl, Below.refl _ _⟩
  · intro ρ W1 hb1 H
    exact gives_load rfl (H.old 3 _ (by kernel_rfl) rfl) Tryd.underlying4 rfl ((hb1.cell HL3.out).trans HC3.out) ⟨rfl, Below.refl _ _⟩
  · intro ρ W1 hb1 H
    have e0 : ρ (.tmp 12) = v := H.new 12 5 (by kernel_rfl)
    have e1 : ρ (.tmp 13) = .bool s := H.new 13 6 (by kernel_rfl)
    refine gives_callV rfl (fun _ _ => by kernel_rfl) (H.new 11 4 (by kernel_rfl)) (args := #[v, .bool s]) (by simp [e0, e1]) ?_
    exact (HPP.out W1 (HV.out.below hb1) (HT.out.below hb1 HT.out.lt)).mono fun e w' ⟨b, h1, h2, h3⟩ => ⟨_, h1, ⟨b, rfl, h2⟩, h3⟩
  · intro ρ W1 hb1 H
    obtain ⟨b, h1, h2⟩ := (show ∃ b, ρ (.tmp 14) = .tuple #[b, .int .i64 px] ∧ IsB pl b W1 from H.new 14 7 (by kernel_rfl))
    exact gives_extract rfl h1 rfl ⟨h2, Below.refl _ _⟩
  · intro ρ W1 hb1 H
    obtain ⟨b, h1, h2⟩ := (show ∃ b, ρ (.tmp 14) = .tuple #[b, .int .i64 px] ∧ IsB pl b W1 from H.new 14 7 (by kernel_rfl))
    exact gives_extract rfl h1 rfl ⟨rfl, Below.refl _ _⟩
  · intro ρ W1 hb1 H
    exact gives_assign rfl rfl ⟨H.new 15 8 (by kernel_rfl), Below.refl _ _⟩
  · intro ρ W1 hb1 H
    exact gives_assign rfl (H.new 16 9 (by kernel_rfl)) ⟨rfl, Below.refl _ _⟩
  · intro vs W1 hb1 hfs
    have f10 : IsB (pl) (vs 10) W1 := hfs 10 (by decide)
    have f11 : vs 11 = .int .i64 px := hfs 11 (by decide)
    clear hfs
    simp only [putAll, Nat.zero_add, Nat.reduceAdd]
    generalize vs 0 = z0
    generalize vs 1 = z1
    generalize vs 2 = z2
    generalize vs 3 = z3
    generalize vs 4 = z4
    generalize vs 5 = z5
    generalize vs 6 = z6
    generalize vs 7 = z7
    generalize vs 8 = z8
    generalize vs 9 = z9
    generalize vs 10 = z10 at f10 ⊢
    simp only [f11, Act.put, List.setIfInBounds_toArray, List.set_cons_succ, List.set_cons_zero]
    clear f11
    have HB := Lib.hid f10
    have HW := Lib.hid hb1
    clear f10 hb1
    go_wp2
    go_ret2
    rw [HE.out]
    exact ⟨_, rfl, HB.out, HW.out⟩
set_option maxHeartbeats 1000000 in
set_option maxRecDepth 100000 in
theorem urun_any (l : List Int) (v : Value) (s : Bool) (w : World) (ht : WTab w) (hv : IsV iv l v w) (hl : ∀ x ∈ l, inInt x) (hb : l.length ≤ 1000000) : Calls Tryd.prog 7 #[v, .bool s] w (RetE w (urunE l s)) := by
  obtain ⟨A, n, c, rfl⟩ := hv.shape
  obtain ⟨v, hv0⟩ : ∃ v, v = Value.slice A n c := ⟨_, rfl⟩
  rw [← hv0] at hv
  obtain ⟨w1, hw1⟩ : ∃ w1, w1 = (w.alloc (.cells #[v] 22)).alloc (.cells #[.bool s] 4) := ⟨_, rfl⟩
  have hb1 : Below w.heap.size w w1 := by rw [hw1]; exact ((Below.refl _ _).alloc (Nat.le_refl _) _).alloc (by simp) _
  have r2 : Row w1 w.heap.size 22 [v] := by
    have h0 : Row (w.alloc (.cells #[v] 22)) w.heap.size 22 [v] := heap_alloc_new w _
    rw [hw1]; exact h0.alloc _
  have r3 : Row w1 (w.heap.size + 1) 4 [.bool s] := by
    rw [hw1]
    have h0 := heap_alloc_new (w.alloc (.cells #[v] 22)) (.cells #[.bool s] 4)
    rw [show (w.alloc (.cells #[v] 22)).heap.size = w.heap.size + 1 by simp] at h0
    exact h0
  have hz1 : w1.heap.size = w.heap.size + 2 := by rw [hw1]; simp
  obtain ⟨w2, hw2⟩ : ∃ w2, w2 = w1.alloc (.cells kcells.toArray 38) := ⟨_, rfl⟩
  have rg : Row w2 w1.heap.size 38 kcells := by rw [hw2]; exact heap_alloc_new w1 _
  have hz2 : w2.heap.size = w.heap.size + 3 := by rw [hw2]; simp [hz1]
  have HKI := Lib.hid (show Calls Tryd.prog 12 #[] w1 fun e w' => e = .returned (.slice (some ⟨w1.heap.size, 0, none⟩) 4 4) ∧ w' = w2 from (kinds_any w1).mono fun e w' ⟨h1, h2⟩ => ⟨h1, by rw [h2, hw2]⟩)
  obtain ⟨w3, hw3⟩ : ∃ w3, w3 = w2.alloc (.cells #[.slice (some ⟨w1.heap.size, 0, none⟩) 4 4] 33) := ⟨_, rfl⟩
  have r6 : Row w3 w2.heap.size 33 [.slice (some ⟨w1.heap.size, 0, none⟩) 4 4] := by rw [hw3]; exact heap_alloc_new w2 _
  have hb2 : Below w1.heap.size w1 w2 := by rw [hw2]; exact (Below.refl _ _).alloc (Nat.le_refl _) _
  have hb3 : Below w2.heap.size w2 w3 := by rw [hw3]; exact (Below.refl _ _).alloc (Nat.le_refl _) _
  have hb13 := below_then hb2 hb3
  have hbA := below_then hb1 hb13
  have q2 := r2.below hb13 r2.lt
  have q3 := r3.below hb13 r3.lt
  have qg := rg.below hb3 rg.lt
  have HS := Lib.hid (ushortest_run 4 (fun k => (ukinds l s).getD k ([], 1)) w2.heap.size w.heap.size (w.heap.size + 1) w3 (by omega)
    (fun k W hk hW => by
      have t1 := ht.below (below_then hbA hW) ht.lt
      have t2 := hv.below (below_then hbA hW)
      have t6 := r6.below hW r6.lt
      have t3 := q2.below hW q2.lt
      have t4 := q3.below hW q3.lt
      have t5 := qg.below hW qg.lt
      rcases (by omega : k = 0 ∨ k = 1 ∨ k = 2 ∨ k = 3) with rfl | rfl | rfl | rfl
      · exact urun1_0 _ _ _ _ l v s W t1 t2 hl hb t6 t3 t4 t5
      · exact urun1_1 _ _ _ _ l v s W t1 t2 hl hb t6 t3 t4 t5
      · exact urun1_2 _ _ _ _ l v s W t1 t2 hl hb t6 t3 t4 t5
      · exact urun1_3 _ _ _ _ l v s W t1 t2 hl hb t6 t3 t4 t5)
    (fun k hk h0 => by
      have hmem : (ukinds l s).getD k ([], 1) ∈ ukinds l s := by
        unfold ukinds
        rcases (by omega : k = 0 ∨ k = 1 ∨ k = 2 ∨ k = 3) with rfl | rfl | rfl | rfl <;> simp
      exact Nat.pos_of_ne_zero (ukinds_len _ hmem h0)))
  have HE := Lib.hid (show uans (((List.range 4).map fun k => (ukinds l s).getD k ([], 1)).foldl ubest none) = urunE l s by rw [urun_kinds]; rfl)
  rw [HE.out, show ((4 : Nat) : Int) = 4 from rfl, hz2] at HS
  have HB := Lib.hid hbA
  rw [hw3, hz1] at HS HB
  rw [hz1, hw1, hv0] at HKI
  clear ht hv hl hb r2 r3 rg r6 hb1 hb2 hb3 hb13 hbA q2 q3 qg hw2 hw3
  go_enter Tryd.func7, Tryd.ntmps7
  go_wp2_with (first | (go_at_call 12; refine HKI.out.mono ?_; rintro e w' ⟨rfl, rfl⟩) | (go_at_call 13; refine HS.out.mono ?_; rintro e w4 ⟨v4, rfl, hv4, hb4⟩; have HV4 := Lib.hid hv4; have HB4 := Lib.hid (below_then HB.out hb4); clear hv4 hb4))
  go_ret2
  exact ⟨_, rfl, HV4.out, HB4.out⟩
end Go.Proofs.YtnbiopihcbnkpaaDoor

/- rle's own contracts: takeRepeat, takeRun (slices.IndexFunc with its closure). Written by gen_utk.py. -/











namespace Go.Proofs.YtnbiopihcbnkpaaDoor

open Go.RowKit

end Go.Proofs.YtnbiopihcbnkpaaDoor

/- rle's own contracts: Put, Take. Written by gen_uis.py. -/







namespace Go.Proofs.YtnbiopihcbnkpaaDoor

open Go.RowKit

/-- An append to a row of the call's own, as one step of a region that draws. -/
theorem step_join {P : Program} {ops : Array Oper} {o : Oper} {a : Act} {w : World} {K : Act → World → Prop} {Q : Exit → Act → World → Prop} {F : Prop} {t e : TypeId} {bytes : Nat} {z : Value} (E : Elem P t e bytes z)
    (hgd : o.guard = none) (s x : Operand) (ho : o.op = .call { callee := .builtin .append, args := #[s, x], argTypes := #[t, t] })
    (base : Nat) (v : Value) (n : Nat) (xs : List Value) (ad : Addr) (m c : Nat) (news : List Value) (w0 : World) (hs : a.eval s = v) (hx : a.eval x = .slice (some ad) m c)
    (hm : news.length = m) (hr : Lies w (some ad) news) (h1 : ∀ u ∈ news, u.oneCell' = true)
    (hown : w.ownsRow base e 1 v n xs) (hb : Below base w0 w) (hbase : base ≤ w.heap.size) (hn : n + m ≤ 1000000000) (hby : bytes ≤ 100)
    (h : ∀ v' w', w'.ownsRow base e 1 v' (n + m) (xs ++ news) → Below base w0 w' → w.grownBy w' v.ownBlock → K (a.put o.dst v') w') :
    if Region.wanted o (yielded ops a.tmps) = true then Oper.wp P o a w K Q else F := by
  obtain ⟨i, h2, h3, h4, h5⟩ := E.info
  have h6 : z.cells.size = 1 := by rw [E.one]; rfl
  have hle : (n + m) * bytes ≤ (n + m) * 100 := Nat.mul_le_mul_left _ hby
  have hw : Region.wanted o (yielded ops a.tmps) = true := by simp [Region.wanted, hgd]
  have hcell : ∀ j u, news[j]? = some u → w.cell? (ad.add j) = some u := by
    rcases hr with hr | ⟨ad', hA, _, hc⟩
    · subst hr; intro j u hj; simp at hj
    · injection hA with hA; subst hA; exact hc
  obtain ⟨v', w', hrun, r1, r2, _, _⟩ := run_append_own_at (P := P) w base t o.type e i z 1 bytes E.under h2 h3 h4 h5 h6 (by omega) v n xs hown ad m c news (by omega) hcell h1 (by unfold maxLen; omega) (by omega) hbase
  rw [if_pos hw]
  unfold Oper.wp
  simp [execOp, ho, resolve, invoke, builtin, hs, hx, hrun, Result.andThen]
  exact h v' w' r1 (below_append hb hown hbase r2) r2
set_option maxHeartbeats 4000000 in
set_option maxRecDepth 100000 in
theorem uput_own (l : List Int) (v : Value) (s : Bool) (w : World) (ht : WTab w) (hv : IsV iv l v w) (hl : ∀ x ∈ l, inInt x) :
    Calls Tryd.prog 10 #[v, .bool s] w (RetEO w (uputE l s)) := by
  have HT := Lib.hid ht
  have HV := Lib.hid hv
  have HI := Lib.hid hl
  obtain ⟨A, n, c, rfl⟩ := hv.shape
  have HN := Lib.hid hv.parts.1
  clear hv hl ht
  by_cases hbig : 4096 < n
  · have d1 : (4096 : Int) < (n : Int) := by omega
    have hE : Hid (uputE l s = ([], 3)) := Lib.hid (by unfold uputE; rw [if_pos (by rw [HN.out]; exact hbig)])
    go_enter Tryd.func10, Tryd.ntmps10
    go_wp2
    go_ret2
    rw [hE.out]
    exact RetEO.nil _ (Below.refl _ _)
  · have d1 : ¬ (4096 : Int) < (n : Int) := by omega
    have hE : Hid (uputE l s = ucomb [] (uputN s l.length l)) := Lib.hid (by
      unfold uputE ucomb
      rw [if_neg (by rw [HN.out]; exact hbig)]
      by_cases h : (uputN s l.length l).2 ≠ 0
      · rw [if_pos h]
        have h2 : ∀ (k : Nat) (l : List Int), (uputN s k l).2 ≠ 0 → (uputN s k l).1 = [] := by
          intro k
          induction k with
          | zero => intro l h; exact absurd rfl h
          | succ k ih =>
            intro l h
            rw [uputN] at h ⊢
            split
            · rfl
            · split
              · rfl
              · split
                · rfl
                · rename_i h3 h4 h5
                  rw [if_neg h3, if_neg h4, if_neg h5] at h
                  exact absurd rfl h
        exact Prod.ext (h2 _ _ h) rfl
      · rw [if_neg h]
        exact Prod.ext rfl (Decidable.not_not.1 h))
    have hst : UPutRel (uputE l s) s w (.slice A n c) (.slice none 0 0) w := ⟨l.length, l, [], Nat.le_refl _, by have := HN.out; omega, by have := HN.out; simp; omega, HI.out, HV.out, hE.out.symm, World.ownsRow_nil _ _ _ _, Below.refl _ _⟩
    have HST := Lib.hid hst
    clear hst
    go_enter Tryd.func10, Tryd.ntmps10
    go_wp2
    go_loopw [0, 6] (UPutRel (uputE l s) s w) (fun x _ _ => lenOf x)
    case atStart => exact HST.out
    case round =>
      obtain ⟨k, rest, out, hk, h4, hol, hin, hrv, hres, hown, hbw⟩ := hrel
      have HSTT := HST
      clear HST
      have HIN := Lib.hid hin
      have HRV := Lib.hid hrv
      have HRES := Lib.hid hres
      have HOWN := Lib.hid hown
      have HBW := Lib.hid hbw
      obtain ⟨A2, n2, c2, rfl⟩ := hrv.shape
      have HN2 := Lib.hid hrv.parts.1
      have hnc2 : n2 ≤ c2 := hrv.parts.2.2.1
      have hci2 : (c2 : Int) ≤ 9223372036854775807 := by have := hrv.parts.2.2.2.1; unfold maxLen at this; omega
      have hn2k : n2 ≤ k := by have := HN2.out; omega
      have hn24 : n2 ≤ 4096 := by have := HN2.out; omega
      have hol2 : out.length + 10 * n2 ≤ 50000 := by have := HN2.out; omega
      obtain ⟨ol, hol3⟩ : ∃ ol, ol = out.length := ⟨_, rfl⟩
      have HOL := Lib.hid hol3
      clear hin hrv hres hown hbw hk h4 hol
      by_cases h0 : n2 = 0
      · subst h0
        have hR : Hid (uputE l s = (out, 0)) := Lib.hid (by rw [← HRES.out]; exact ucomb_done out s HN2.out)
        clear hol3
        go_wp2
        go_ret2
        rw [hR.out]
        exact ⟨_, rfl, HOWN.out, HBW.out⟩
      · have d2 : decide (0 < n2) = true := decide_eq_true (by omega)
        have hn0i : (0 : Int) < (n2 : Int) := by omega
        obtain ⟨m, hm⟩ : ∃ m, m = ucut rest := ⟨_, rfl⟩
        obtain ⟨m1, m2, m3⟩ := ucut_bd (l := rest) (by have := HN2.out; omega)
        rw [← hm] at m1 m2 m3
        have hmn : m ≤ n2 := by have := HN2.out; omega
        have hmc : (m : Int) ≤ (c2 : Int) := by omega
        obtain ⟨k', rfl⟩ : ∃ k', k = k' + 1 := ⟨k - 1, by omega⟩
        have HCU := Lib.hid (ucut_any rest _ wr (HRV.out.below HBW.out) (by have := HN2.out; omega))
        rw [← hm] at HCU
        have HM := Lib.hid hm
        have htl : (rest.take m).length = m := by rw [List.length_take]; have := HN2.out; omega
        have HTL := Lib.hid htl
        have HTI : Hid (∀ x ∈ rest.take m, inInt x) := Lib.hid (fun x hx => HIN.out x (List.mem_of_mem_take hx))
        obtain ⟨rb, re, hr⟩ : ∃ rb re, urunE (rest.take m) s = (rb, re) := ⟨_, _, rfl⟩
        have HR := Lib.hid hr
        obtain ⟨v4, hv4, hI4⟩ := fromV_named (P := Tryd.prog) elemI (k := m) hmn HRV.out
        have HI4 := Lib.hid hI4
        clear hm htl hr hI4 m2
        go_wp2_with fail
        refine HCU.out.mono ?_
        rintro e w2 ⟨rfl, hb2⟩
        have HV2 := Lib.hid ((HRV.out.take hmn).below (HBW.out.trans (hb2.mono HBW.out.size)))
        have HO2 := Lib.hid (own_below HOWN.out hb2)
        have HB2 := Lib.hid (below_then HBW.out hb2)
        clear hb2
        have HRN := Lib.hid (urun_any (rest.take m) _ s w2 (HT.out.below HB2.out HT.out.lt) HV2.out HTI.out (by have := HTL.out; omega))
        rw [HR.out] at HRN
        go_wp2_with fail
        refine HRN.out.mono ?_
        rintro e w3 ⟨b3, rfl, hb3v, hb3⟩
        have HO3 := Lib.hid (own_below HO2.out hb3)
        have HB3 := Lib.hid (below_then HB2.out hb3)
        have HBV := Lib.hid hb3v
        clear hb3
        by_cases he : re = 0
        · subst he
          have hlen := urun_len (s := s) HTI.out (by rw [HTL.out]; exact m3)
          have hstep := ucomb_step (k := k') out s (l := rest) (by have := HN2.out; omega) (by rw [← HM.out, HR.out])
          rw [HRES.out, ← HM.out, HR.out] at hstep
          rw [HR.out] at hlen
          have hlen2 := (urun_back (r := []) (s := s) HTI.out (by
            intro h
            have h2 := HR.out
            rw [urunE_no (.inl h)] at h2
            injection h2 with _ h2
            cases h2) (by rw [HTL.out]; exact m1) (by rw [HTL.out]; exact m3)).2.2.2
          have HRB2 : Hid (2 ≤ rb.length) := Lib.hid (by have h := (urun_back (r := []) (s := s) HTI.out (by
            intro h
            have h2 := HR.out
            rw [urunE_no (.inl h)] at h2
            injection h2 with _ h2
            cases h2) (by rw [HTL.out]; exact m1) (by rw [HTL.out]; exact m3)).2.2.1; rw [HR.out] at h; exact h)
          rw [HR.out, HTL.out] at hlen2
          dsimp only at hlen hstep hlen2
          obtain ⟨A5, n5, c5, rfl⟩ := IsV.shape (f := bv) hb3v
          obtain ⟨hn5, hA5, -, -, hl5⟩ := IsV.parts (f := bv) (show IsV bv rb _ _ from hb3v)
          have HM5 := Lib.hid (show (rb.map bv).length = n5 by rw [List.length_map]; exact hn5)
          have hn5b : n5 ≤ 5000 := by omega
          have hn510 : n5 ≤ 10 * m := by omega
          have hown3 := HO3.out
          rw [← hol3] at hown3
          have hbw3 := HB3.out
          have hz3 := hbw3.size
          have HSTEP := Lib.hid hstep
          have HN5 := Lib.hid hn5
          have hol4 : ol + 10 * n2 ≤ 50000 := by omega
          clear hb3v hlen hstep hlen2 hn5 hol3 hol2
          have hA5s : ∃ ad5, A5 = some ad5 := by
            cases A5 with
            | none => exfalso; have h5 := hA5 rfl; have := HN5.out; have := HRB2.out; omega
            | some ad5 => exact ⟨ad5, rfl⟩
          obtain ⟨ad5, rfl⟩ := hA5s
          have hbd := (Below.refl w3.heap.size w3).drew
          have hownD := own_below hown3 hbd
          have hbwD := below_then hbw3 hbd
          have hlD := hl5.below hbd
          have hzD := hbwD.size
          have hv4' := hv4
          clear hown3 hbw3 hz3 hl5 hA5 hbd
          go_wp2
          go_region_law (refine step_join elemB rfl _ _ rfl w.heap.size _ _ _ _ _ _ (rb.map bv) w rfl rfl HM5.out hlD (bv_one _) hownD hbwD hzD (by omega) (by omega) ?_; intro v6 w6 hown6 hb6 _)
          have HREL : Hid (UPutRel (uputE l s) s w v4 v6 w6) := Lib.hid ⟨k', rest.drop m, out ++ rb, by rw [List.length_drop]; have := HN2.out; omega, by rw [List.length_drop]; have := HN2.out; omega,
            by rw [List.length_drop, List.length_append, HN5.out, ← HOL.out]; have := HN2.out; omega, fun x hx => HIN.out x (List.mem_of_mem_drop hx), HI4.out, HSTEP.out.symm,
            by rw [List.length_append, ← HOL.out, HN5.out, List.map_append]; exact hown6, hb6⟩
          clear hown6 hb6 hownD hbwD hzD hlD
          simp only [List.getElem_toArray, List.getElem_cons_succ, List.getElem_cons_zero, Act.put, List.setIfInBounds_toArray, List.set_cons_succ, List.set_cons_zero]
          go_wp2
          go_roundw
          case rel => exact HREL.out
          case measure =>
            obtain ⟨A7, c7, e7, _⟩ := HI4.out
            rw [e7]
            have := HN2.out
            simp [lenOf]
            omega
        · have hbad := ucomb_bad (k := k') out s (l := rest) (by have := HN2.out; omega) (by rw [← HM.out, HR.out]; exact he)
          rw [HRES.out, ← HM.out, HR.out] at hbad
          have HBD := Lib.hid hbad
          have d3 : (re != 0) = true := by simpa using he
          clear hb3v hbad
          obtain ⟨A5, n5, c5, rfl⟩ := IsV.shape (f := bv) HBV.out
          go_wp2
          go_ret2
          rw [HBD.out]
          exact RetEO.nil _ HB3.out
theorem uput_any (l : List Int) (v : Value) (s : Bool) (w : World) (ht : WTab w) (hv : IsV iv l v w) (hl : ∀ x ∈ l, inInt x) (_hb : l.length ≤ 1000000) :
    Calls Tryd.prog 10 #[v, .bool s] w (RetE w (uputE l s)) := (uput_own l v s w ht hv hl).mono fun _ _ h => h.e
theorem uddput_any (l : List Int) (v : Value) (s : Bool) (w : World) (ht : WTab w) (hv : IsV iv l v w) (hl : ∀ x ∈ l, inInt x) (hb : l.length ≤ 1000000) : Calls Tryd.prog 8 #[v, .bool s] w (RetE w (dputE l s)) := dput_any l v s w ht hv hl hb
theorem udtput_any (l : List Int) (v : Value) (s : Bool) (w : World) (ht : WTab w) (hv : IsV iv l v w) (hl : ∀ x ∈ l, inInt x) (hb : l.length ≤ 1000000) : Calls Tryd.prog 9 #[v, .bool s] w (RetE w (gputE l s)) := tput_any l v s w ht hv hl hb
end Go.Proofs.YtnbiopihcbnkpaaDoor

/- The contract of what stands at the head of the statements of layer 11. -/



namespace Go.Proofs.YtnbiopihcbnkpaaDoor

open Go.RowKit

theorem us_one : uputE [7, 7, 7, 7, 7] true = ([2, 14], 0) := by decide +kernel
theorem put_one (w : World) (ht : WTab w) : Calls Tryd.prog 10 #[.slice (some ⟨w.heap.size, 0, none⟩) 5 5, .bool true] (w.alloc (.cells #[.int .i64 7, .int .i64 7, .int .i64 7, .int .i64 7, .int .i64 7] 3)) fun e w' => ∃ v, e = .returned (.tuple #[v, .int .i64 0]) ∧ IsB [2, 14] v w' ∧ Below w.heap.size w w' := by
  have hb0 : Below w.heap.size w (w.alloc (.cells #[.int .i64 7, .int .i64 7, .int .i64 7, .int .i64 7, .int .i64 7] 3)) := (Below.refl _ _).alloc (Nat.le_refl _) _
  have h := uput_any [7, 7, 7, 7, 7] _ true _ (ht.below hb0 ht.lt) (isV_new iv w 3 [7, 7, 7, 7, 7] 5 rfl (by omega)) (by intro x hx; simp at hx; unfold inInt; omega) (by simp)
  rw [us_one] at h
  exact h.mono fun e w' ⟨v, h1, h2, h3⟩ => ⟨v, h1, h2, below_then hb0 h3⟩
theorem us_two : uputE [1] false = ([64, 0, 128], 0) := by decide +kernel
theorem put_two (w : World) (ht : WTab w) : Calls Tryd.prog 10 #[.slice (some ⟨w.heap.size, 0, none⟩) 1 1, .bool false] (w.alloc (.cells #[.int .i64 1] 3)) fun e w' => ∃ v, e = .returned (.tuple #[v, .int .i64 0]) ∧ IsB [64, 0, 128] v w' ∧ Below w.heap.size w w' := by
  have hb0 : Below w.heap.size w (w.alloc (.cells #[.int .i64 1] 3)) := (Below.refl _ _).alloc (Nat.le_refl _) _
  have h := uput_any [1] _ false _ (ht.below hb0 ht.lt) (isV_new iv w 3 [1] 1 rfl (by omega)) (by intro x hx; simp at hx; unfold inInt; omega) (by simp)
  rw [us_two] at h
  exact h.mono fun e w' ⟨v, h1, h2, h3⟩ => ⟨v, h1, h2, below_then hb0 h3⟩

set_option maxHeartbeats 1000000 in
set_option maxRecDepth 100000 in
theorem shown_any (w : World) (ht : WTab w) : Calls Tryd.prog 5 #[] w fun e w' => e = .returned (.bool true) ∧ Below w.heap.size w w' := by
  have HT := Lib.hid ht
  clear ht
  go_enter Tryd.func5, Tryd.ntmps5
  go_wp2_with fail
  refine (put_one w HT.out).mono ?_
  rintro e w1 ⟨v1, rfl, hv1, hb1⟩
  have HV1 := Lib.hid hv1
  have HB1 := Lib.hid hb1
  have HT1 := Lib.hid (HT.out.below hb1 HT.out.lt)
  clear hv1 hb1
  go_wp2_with fail
  refine (put_two w1 HT1.out).mono ?_
  rintro e w2 ⟨v2, rfl, hv2, hb2⟩
  have hc1 := textB (HV1.out.below hb2)
  have hc2 := textB hv2
  have HB2 := Lib.hid (below_then HB1.out hb2)
  clear hv2 hb2
  go_wp2
  go_ret
  exact ⟨rfl, HB2.out⟩
theorem few_any (A : Option Addr) (n c N : Nat) (w : World) (hnc : n ≤ c) (_hc : (c : Int) ≤ 9223372036854775807) (hN : N ≤ 1000000) :
    Calls Tryd.prog 6 #[.slice A n c, .int .i64 (N : Int)] w fun e w' => e = .returned (.slice A (min n N) c) ∧ w = w' := by
  by_cases h : n ≤ N
  · have h1 : ¬ (N : Int) < (n : Int) := by omega
    rw [Nat.min_eq_left h]
    go_enter Tryd.func6, Tryd.ntmps6
    go_wp2
    go_ret
    exact ⟨rfl, rfl⟩
  · have h1 : (N : Int) < (n : Int) := by omega
    rw [Nat.min_eq_right (by omega : N ≤ n)]
    go_enter Tryd.func6, Tryd.ntmps6
    go_wp2
    go_ret
    exact ⟨rfl, rfl⟩
theorem few_is {l : List Int} {v : Value} {w : World} (N : Nat) (hN : N ≤ 1000000) (h : IsV iv l v w) : Calls Tryd.prog 6 #[v, .int .i64 (N : Int)] w fun e w' => (∃ u, e = .returned u ∧ IsV iv (l.take N) u w') ∧ w = w' := by
  obtain ⟨A, n, c, rfl⟩ := h.shape
  obtain ⟨h1, h2, h3, h4, h5⟩ := h.parts
  refine (few_any A n c N w h3 (by unfold maxLen at h4; omega) hN).mono ?_
  rintro e w' ⟨rfl, rfl⟩
  refine ⟨⟨_, rfl, ?_⟩, rfl⟩
  have h6 := h.take (k := min n N) (by omega)
  rwa [show l.take (min n N) = l.take N by
    by_cases h7 : n ≤ N
    · rw [Nat.min_eq_left h7, List.take_of_length_le (by omega), List.take_of_length_le (by omega)]
    · rw [Nat.min_eq_right (by omega)]] at h6
theorem few_512 {l : List Int} {v : Value} {w : World} (h : IsV iv l v w) : Calls Tryd.prog 6 #[v, .int .i64 512] w fun e w' => (∃ u, e = .returned u ∧ IsV iv (l.take 512) u w') ∧ w = w' := few_is 512 (by omega) h
theorem mem_take {α : Type} {p : α → Prop} {l : List α} (h : ∀ x ∈ l, p x) (n : Nat) : ∀ x ∈ l.take n, p x := fun x hx => h x (List.mem_of_mem_take hx)
end Go.Proofs.YtnbiopihcbnkpaaDoor

/- What the statement RleSame asks, as plain mathematics. -/



namespace Go.Proofs.YtnbiopihcbnkpaaDoor

/-- Numbers that rise by the same. -/
def uprog (x d : Int) (n : Nat) : List Int := (List.range n).map fun (i : Nat) => x + (i : Int) * d
theorem uprog_len (x d : Int) (n : Nat) : (uprog x d n).length = n := by simp [uprog]
theorem uprog_succ (x d : Int) (n : Nat) : uprog x d (n + 1) = uprog x d n ++ [x + (n : Int) * d] := by simp [uprog, List.range_succ]
theorem uprog_getD {x d : Int} {n i : Nat} (h : i < n) : (uprog x d n).getD i 0 = x + (i : Int) * d := by
  rw [List.getD_eq_getElem?_getD, List.getElem?_eq_getElem (by rw [uprog_len]; exact h)]
  simp [uprog]
theorem uprog_zero (x : Int) (n : Nat) : uprog x 0 n = List.replicate n x := by
  refine List.eq_replicate_iff.2 ⟨uprog_len _ _ _, fun y hy => ?_⟩
  obtain ⟨i, _, rfl⟩ := List.mem_map.1 hy
  simp
theorem omap_const {α β : Type} {f : α → Option β} {c : β} : ∀ {l : List α}, (∀ x ∈ l, f x = some c) → omap f l = some (List.replicate l.length c)
  | [], _ => rfl
  | x :: l, h => by
    rw [omap, h x List.mem_cons_self, omap_const fun y hy => h y (List.mem_cons_of_mem _ hy)]
    rfl
theorem gdiff_rise {a d : Int} (h0 : 0 ≤ d) (h1 : d < 9223372036854775808) : gdiff a (a + d) = (d.toNat, false, true) := by
  rcases gdiff_cases a (a + d) with ⟨_, k⟩ | ⟨k1, _, _⟩ | ⟨_, _, k⟩
  · omega
  · omega
  · rw [k, show a + d - a = d by omega]
theorem uprog_sizes {x d : Int} {n : Nat} (h0 : 0 ≤ d) (h1 : d ≤ 1024) (hn : 2 ≤ n) : gfalls (uprog x d n) = false ∧ gsizes (uprog x d n) false (n - 1) = some (List.replicate (n - 1) d.toNat) := by
  constructor
  · unfold gfalls
    rw [uprog_getD (by omega), uprog_getD (by omega)]
    exact decide_eq_false (by simp; omega)
  · unfold gsizes
    have h := omap_const (f := gat (uprog x d n) false) (c := d.toNat) (l := List.range (n - 1)) (fun i hi => by
      rw [List.mem_range] at hi
      unfold gat
      rw [uprog_getD (by omega), uprog_getD (by omega), show x + ((i + 1 : Nat) : Int) * d = (x + (i : Int) * d) + d by rw [Int.natCast_add, Int.add_mul]; simp; omega]
      have hg := gdiff_rise (a := x + (i : Int) * d) h0 (by omega)
      rw [gone_yes (by rw [hg]) (.inr (by rw [hg])), hg])
    rw [h, List.length_range]
theorem gall_rep (n d : Nat) : gall (List.replicate n d) = true := by
  unfold gall
  rw [List.all_eq_true]
  intro u hu
  obtain ⟨hn, rfl⟩ := List.mem_replicate.1 hu
  cases n with
  | zero => exact absurd rfl hn
  | succ n => simp [List.replicate_succ]
/-- Numbers that rise by the same make a short run. -/
theorem uprog_run {x d : Int} {n : Nat} (h0 : 0 ≤ d) (h1 : d ≤ 1024) (hn : 3 ≤ n) (hn5 : n ≤ 258) (hx : -562949953421312 ≤ x ∧ x < 562949953421312) : (urunE (uprog x d n) true).2 = 0 ∧ (urunE (uprog x d n) true).1.length ≤ 12 ∧ (∀ y ∈ uprog x d n, inInt y) ∧ dplain (uprog x d n) true ≠ none := by
  have hin : ∀ y ∈ uprog x d n, inInt y := by
    intro y hy
    obtain ⟨i, hi, rfl⟩ := List.mem_map.1 hy
    rw [List.mem_range] at hi
    have h2 : 0 ≤ (i : Int) * d := Int.mul_nonneg (by omega) h0
    have h3 : (i : Int) * d ≤ 258 * 1024 := Int.mul_le_mul (by omega) h1 h0 (by omega)
    unfold inInt
    omega
  have hp : dplain (uprog x d n) true ≠ none := dplain_sub (l := uprog x d n) (m := uprog x d n) (s := true) (fun h => by
    have h2 : ∀ m : List Int, dplain m true ≠ none := by
      intro m
      induction m with
      | nil => intro h; cases h
      | cons y m ih =>
        intro h
        unfold dplain at h ih
        rw [omap, show eplain y true = some (vzig y).toNat by unfold eplain; rw [if_pos rfl]] at h
        cases ho : omap (eplain · true) m with
        | none => exact ih ho
        | some us => rw [ho] at h; cases h
    exact h2 _ h) fun x h => h
  have hl := uprog_len x d n
  obtain ⟨hf, hs⟩ := uprog_sizes (x := x) h0 h1 (show 2 ≤ n by omega)
  have hg := gputE_some (s := true) hp (by rw [hl]; omega) (by rw [hl]; omega) (by rw [hf, hl]; exact hs)
  have hgl : (glay (uprog x d n) true (List.replicate (n - 1) d.toNat)).length ≤ 12 := by
    have hhead : (uprog x d n).headD 0 = x := by
      obtain ⟨m, rfl⟩ : ∃ m, n = m + 1 := ⟨n - 1, by omega⟩
      simp [uprog, List.range_succ_eq_map]
    have hfirst : gfirst (uprog x d n) (List.replicate (n - 1) d.toNat) = d := by
      unfold gfirst
      rw [hf, if_neg (by simp)]
      obtain ⟨m, rfl⟩ : ∃ m, n = m + 2 := ⟨n - 2, by omega⟩
      simp [List.replicate_succ]
      omega
    have hv1 : (vput (vint x true)).length ≤ 8 := vput_len_le 7 _ (by
      show vint x true < 72057594037927936
      unfold vint
      rw [if_pos rfl]
      unfold vzig
      split <;> omega)
    have hv2 : (vput (vint d true)).length ≤ 2 := vput_len_le 1 _ (by
      show vint d true < 16384
      unfold vint
      rw [if_pos rfl]
      unfold vzig
      split <;> omega)
    unfold glay gtail
    rw [if_pos (gall_rep _ _), hhead, hfirst]
    simp only [List.length_append, dheadN_len, List.length_nil]
    omega
  have hle := urunE_le hin hp (by rw [hl]; omega) (by rw [hl]; omega) (gput_mem _ true) (by rw [hg])
  rw [hg] at hle
  dsimp only at hle
  exact ⟨by rw [urunE_in hp (by rw [hl]; omega) (by rw [hl]; omega)], by omega, hin, hp⟩
theorem usame_repl (x : Int) : ∀ n : Nat, usame (List.replicate n x) = n
  | 0 => rfl
  | n + 1 => by
    rw [List.replicate_succ, usame_cons]
    have h : ∀ n : Nat, ((List.replicate n x).takeWhile (· == x)).length = n := by
      intro n
      induction n with
      | zero => rfl
      | succ n ih => rw [List.replicate_succ, List.takeWhile_cons, if_pos (by simp), List.length_cons, ih]
    rw [h]; omega
theorem urep_cut {x : Int} {n : Nat} (h : 3 ≤ n) (h5 : n ≤ 258) : ucut (List.replicate n x) = n := by
  unfold ucut
  rw [usame_repl, if_pos h]
  omega
theorem urep_put {x : Int} {n : Nat} (hn : 3 ≤ n) (hn5 : n ≤ 258) (hx : -562949953421312 ≤ x ∧ x < 562949953421312) : (uputE (List.replicate n x) true).2 = 0 ∧ (uputE (List.replicate n x) true).1.length ≤ 12 := by
  obtain ⟨r0, r1, _⟩ := uprog_run (x := x) (d := 0) (by omega) (by omega) hn hn5 hx
  rw [uprog_zero] at r0 r1
  have hl : (List.replicate n x).length = n := List.length_replicate
  obtain ⟨m, rfl⟩ : ∃ m, n = m + 1 := ⟨n - 1, by omega⟩
  have e : uputE (List.replicate (m + 1) x) true = ((urunE (List.replicate (m + 1) x) true).1, 0) := by
    unfold uputE
    rw [if_neg (by rw [hl]; omega), hl, uputN, urep_cut hn hn5, if_neg (by rw [hl]; omega), List.take_of_length_le (by rw [hl]; exact Nat.le_refl _), if_neg (by rw [r0]; simp), List.drop_eq_nil_of_le (by rw [hl]; exact Nat.le_refl _)]
    have e2 : uputN true m [] = ([], 0) := by cases m <;> simp [uputN]
    rw [e2, if_neg (by simp)]
    simp
  rw [e]
  exact ⟨rfl, r1⟩
end Go.Proofs.YtnbiopihcbnkpaaDoor
