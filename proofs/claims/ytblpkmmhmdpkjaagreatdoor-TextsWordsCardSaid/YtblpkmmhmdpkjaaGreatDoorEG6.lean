/- Texts that the claims of this seat share, part 6: UBest UTk UIs KPlain WOpen ISign IPos JPlain JRef JCut JCol JOpen JFew JKinds JSame JRTake JSet JLay JWd. -/
import Derived.Deep.RegionLaw
import Derived.Sort.Walk0
import Derived.Laws.Strings
import Derived.WalkKit
import Derived.Lib.SmallJoins
import Derived.Deep.Slices
import Derived.Lib.AppendStr
import Derived.Maps.OwnSet
import Derived.Sort.KeysCollected
import Derived.Shelf.SlIter.Nil
import Derived.Shelf.SortM.Plain
import Derived.Shelf.SortM.SortNone
import Derived.Shelf.Strings.OnBuilder
import Derived.Test.YtblpkmmhmdpkjaaGreatDoorProg
import Derived.Test.YtblpkmmhmdpkjaaGreatDoorEG5
/- rle's own contracts: kinds, putRepeat, shortest with its two closures, putPatched, Run. Written by gen_ubest.py. -/













namespace Go.Proofs.YtblpkmmhmdpkjaaGreatDoor

open Go.RowKit

section

variable {P : Program} {o : Oper} {ρ : Operand → Value} {w : World} {R : Value → World → Prop}
/-- A call of a Go function that a slot holds, by its contract. -/
theorem gives_callV {f : FuncId} {x : Operand} {xs : Array Operand} {ts : Array TypeId} {args : Array Value} (ho : o.op = .call { callee := .value x, args := xs, argTypes := ts })
    (hent : ∀ (args : Array Value) (w : World), (callFunc f args).run P w = .ok (.enter f args) w) (hf : ρ x = .func (.func f) #[] #[]) (ha : xs.map ρ = args)
    (h : Calls P f args w fun e w' => ∃ v, e = .returned v ∧ R v w') : Gives P o ρ w R := by
  have hr : (execOp ρ o).run P w = .ok (.enter f args) w := by
    simp [execOp, ho, resolve, hf, ha, Deferred.ofValue, invoke, hent]
  unfold Gives
  rw [hr]
  exact h
theorem gives_indexW {t e : TypeId} {bytes m : Nat} {zv : Value} (E : ElemW P t e bytes m zv) {x y : Operand} {ad : Addr} {n c k : Nat} (ho : o.op = .indexAddr t x y) (hx : ρ x = .slice (some ad) n c) (hy : ρ y = .int .i64 (k : Int)) (hk : k < n)
    (hR : R (.pointer (some (ad.add (k * m)))) w) : Gives P o ρ w R := by
  refine gives_of (v := .pointer (some (ad.add (k * m)))) (w' := w) ?_ hR
  have ht := E.under
  have hs := E.size_ w
  have h0 : (0 : Int) ≤ (k : Int) := by omega
  have h1 : (k : Int) < (n : Int) := by omega
  simp [execOp, ho, hx, hy, go_sem, ht, hs, h0, h1]
end
def Fact.putE (l : List UInt8) (x : Int) : Fact := ⟨fun v w => ∃ b, v = .tuple #[b, .int .i64 x] ∧ IsB l b w, fun _ _ _ ⟨b, h1, h2⟩ hb => ⟨b, h1, IsB.below h2 hb⟩⟩
/-- The kinds of runs: their bits, their Put, their Take. -/
def kcs : Nat → List Value
  | 0 => [.int .u8 0, .func (.func 122) #[] #[], .func (.func 123) #[] #[]]
  | 1 => [.int .u8 1, .func (.func 124) #[] #[], .func (.func 125) #[] #[]]
  | 2 => [.int .u8 3, .func (.func 126) #[] #[], .func (.func 127) #[] #[]]
  | _ => [.int .u8 2, .func (.func 128) #[] #[], .func (.func 129) #[] #[]]
def ukcells : List Value := kcs 0 ++ (kcs 1 ++ (kcs 2 ++ kcs 3))
def kz : Value := .agg #[.int .u8 0, .nilFunc, .nilFunc]
theorem Tryz.infoK : (Tryz.prog.info? 143).map (fun i => (i.zero, i.size, i.bytes)) = some (some kz, 3, 24) := by kernel_rfl
theorem elemK : ElemW Tryz.prog 139 143 24 3 kz := by
  obtain ⟨i0, hi, hz0, hz1, hz2⟩ := info_parts Tryz.infoK
  exact ⟨Tryz.underlying139, rfl, by omega, i0, hi, hz0, hz1, hz2⟩
theorem kind_at1 (j : Nat) (W : World) (g : Nat) : (Instr.fieldAt 143 (.pointer (some ⟨g, j, none⟩)) 1).run Tryz.prog W = .ok (.pointer (some ⟨g, j + 1, none⟩)) W := by kernel_rfl
theorem uadd_zero (ad : Addr) : ad.add 0 = ad := by unfold Addr.add; split <;> simp_all
set_option maxRecDepth 100000 in
theorem kinds_any (w : World) : Calls Tryz.prog 105 #[] w fun e w' => e = .returned (.slice (some ⟨w.heap.size, 0, none⟩) 4 4) ∧ w' = w.alloc (.cells ukcells.toArray 143) := by
  go_enter Tryz.func105, Tryz.ntmps105
  go_wp2
  go_ret
  exact ⟨rfl, rfl⟩
set_option maxHeartbeats 1000000 in
set_option maxRecDepth 100000 in
theorem uputrep_any (l : List Int) (v : Value) (s : Bool) (w : World) (hv : IsV iv l v w) (hl : ∀ x ∈ l, inInt x) (hb : l.length ≤ 1000000) :
    Calls Tryz.prog 122 #[v, .bool s] w (RetE w (urep l s)) := by
  obtain ⟨A, n, c, rfl⟩ := hv.shape
  have HN := Lib.hid hv.parts.1
  by_cases h0 : n = 0
  · subst h0
    have HE : Hid (urep l s = ([], 1)) := Lib.hid (by unfold urep; rw [if_pos (.inl HN.out)])
    clear hv hl hb
    go_enter Tryz.func122, Tryz.ntmps122
    go_wp2
    go_ret2
    rw [HE.out]
    exact RetE.nil _ (Below.refl _ _)
  · have hn6 : n ≤ 1000000 := by have := HN.out; omega
    have h0i : ((n : Int) == 0) = false := by simp; omega
    have hn0 : (0 : Int) < (n : Int) := by omega
    obtain ⟨u, hu⟩ : ∃ u, u = min (usame l) n := ⟨_, rfl⟩
    have HA := Lib.hid (ualike_any l _ n w hv hb hn6)
    rw [← hu] at HA
    have hun : u = usame l := by have := usame_le l; have := HN.out; omega
    by_cases hlt : u < n
    · have hlti : (u : Int) < (n : Int) := by omega
      have HE : Hid (urep l s = ([], 1)) := Lib.hid (by unfold urep; rw [if_pos (.inr (by rw [← hun, HN.out]; exact hlt))])
      clear hv hl hb hu hun h0
      go_enter Tryz.func122, Tryz.ntmps122
      go_wp2_with fail
      refine HA.out.mono ?_
      rintro e w1 ⟨rfl, hb1⟩
      have HB := Lib.hid hb1
      clear hb1
      go_wp2
      go_ret2
      rw [HE.out]
      exact RetE.nil _ HB.out
    · have hlti : ¬ (u : Int) < (n : Int) := by omega
      have hkl : 0 < l.length := by have := HN.out; omega
      obtain ⟨x0, hx0⟩ : ∃ x, x = l[0] := ⟨_, rfl⟩
      have HE : Hid (urep l s = eput x0 (n : Int) s) := Lib.hid (by
        unfold urep
        rw [if_neg (by rw [← hun, HN.out]; omega), HN.out, hx0]
        congr 1
        cases l with
        | nil => simp at hkl
        | cons y t => rfl)
      have HX := Lib.hid (hl x0 (by rw [hx0]; exact List.getElem_mem hkl))
      obtain ⟨ad, rfl, had, hcell⟩ := hv.at hkl
      have hc0 : w.cell? ad = some (.int .i64 x0) := by
        rw [← uadd_zero ad, hcell, hx0]; rfl
      have HC := Lib.hid hc0
      have HAD := Lib.hid had
      clear hv hl hb hu hun h0 hcell hc0 hx0 had hkl
      go_enter Tryz.func122, Tryz.ntmps122
      go_wp2_with fail
      refine HA.out.mono ?_
      rintro e w1 ⟨rfl, hb1⟩
      have HB := Lib.hid hb1
      have hc1 : w1.cell? ad = some (.int .i64 x0) := (hb1.cell HAD.out).trans HC.out
      clear hb1
      go_wp2_with fail
      refine (eput_any x0 (n : Int) s w1 HX.out.1 HX.out.2).mono ?_
      rintro e w2 ⟨v2, rfl, hv2, hb2⟩
      have HV2 := Lib.hid hv2
      have HB2 := Lib.hid (below_then HB.out hb2)
      clear hv2 hb2
      go_wp2
      go_ret2
      rw [HE.out]
      exact ⟨_, rfl, HV2.out, HB2.out⟩
set_option maxHeartbeats 2000000 in
set_option maxRecDepth 100000 in
theorem uppat1_any (k : Nat) (hk : k < 31) (b1 b2 : Nat) (l : List Int) (v : Value) (s : Bool) (w : World) (ht : WTab w) (hv : IsV iv l v w) (hl : ∀ x ∈ l, inInt x) (hb : l.length ≤ 1000000) (h1 : Row w b1 47 [v]) (h2 : Row w b2 4 [.bool s]) :
    Calls Tryz.prog 158 #[.int .i64 (k : Int), .pointer (some ⟨b1, 0, none⟩), .pointer (some ⟨b2, 0, none⟩)] w (RetE w (pputE l (wof (k : Int)) s)) := by
  have HT := Lib.hid ht
  have HV := Lib.hid hv
  obtain ⟨K, hK⟩ := wof_nat k
  have hK64 := wof_bd (k : Int)
  rw [hK] at hK64 ⊢
  have HOF := Lib.hid (fun W (h : WTab W) => of_any (k : Int) W h (by omega) (by omega))
  rw [hK] at HOF
  have HP := Lib.hid (fun W (h : IsV iv l v W) (ht : WTab W) => pput_any l v (K : Int) s W ht h hl hb (by unfold inInt; omega))
  have HC1 := Lib.hid (show w.cell? ⟨b1, 0, none⟩ = some v from h1.cell 0)
  have HC2 := Lib.hid (show w.cell? ⟨b2, 0, none⟩ = some (.bool s) from h2.cell 0)
  have HL1 := Lib.hid h1.lt
  have HL2 := Lib.hid h2.lt
  obtain ⟨pl, px, hE⟩ : ∃ pl px, pputE l (K : Int) s = (pl, px) := ⟨_, _, rfl⟩
  rw [hE] at HP
  have HE := Lib.hid hE
  clear ht hv hl hb h1 h2 hE hK hK64
  go_enter Tryz.func158, Tryz.ntmps158
  go_wp2_with fail
  refine wp_region_list [.is (v), .is (.int .i64 (k : Int)), .is (.int .i64 (K : Int)), .is (.bool s), .putE (pl) (px), .bytes (pl), .is (.int .i64 px), .bytes (pl), .is (.int .i64 px)] [some 6, some 7, some 8, some 9, some 10, some 11, some 12, some 4, some 5] (by kernel_rfl) (by kernel_rfl) (by kernel_rfl) rfl ⟨?_, ?_, ?_, ?_, ?_, ?_, ?_, ?_, ?_, trivial⟩ ?_
  · intro ρ W1 hb1 H
    exact gives_load rfl (H.old 1 _ (by kernel_rfl) rfl) Tryz.underlying47 rfl ((hb1.cell HL1.out).trans HC1.out) ⟨rfl, Below.refl _ _⟩
  · intro ρ W1 hb1 H
    exact gives_move rfl (H.old 0 _ (by kernel_rfl) rfl) ⟨rfl, Below.refl _ _⟩
  · intro ρ W1 hb1 H
    have e0 : ρ (.tmp 7) = .int .i64 (k : Int) := H.new 7 1 (by kernel_rfl)
    refine gives_call rfl (fun _ _ => by kernel_rfl) (H.func _) (args := #[.int .i64 (k : Int)]) (by simp [e0]) ?_
    exact (HOF.out W1 (HT.out.below hb1 HT.out.lt)).mono fun e w' ⟨h1, h2⟩ => ⟨_, h1, rfl, h2 ▸ Below.refl _ _⟩
  · intro ρ W1 hb1 H
    exact gives_load rfl (H.old 2 _ (by kernel_rfl) rfl) Tryz.underlying4 rfl ((hb1.cell HL2.out).trans HC2.out) ⟨rfl, Below.refl _ _⟩
  · intro ρ W1 hb1 H
    have e0 : ρ (.tmp 6) = v := H.new 6 0 (by kernel_rfl)
    have e1 : ρ (.tmp 8) = .int .i64 (K : Int) := H.new 8 2 (by kernel_rfl)
    have e2 : ρ (.tmp 9) = .bool s := H.new 9 3 (by kernel_rfl)
    refine gives_call rfl (fun _ _ => by kernel_rfl) (H.func _) (args := #[v, .int .i64 (K : Int), .bool s]) (by simp [e0, e1, e2]) ?_
    exact (HP.out W1 (HV.out.below hb1) (HT.out.below hb1 HT.out.lt)).mono fun e w' ⟨b, h1, h2, h3⟩ => ⟨_, h1, ⟨b, rfl, h2⟩, h3⟩
  · intro ρ W1 hb1 H
    obtain ⟨b, h1, h2⟩ := (show ∃ b, ρ (.tmp 10) = .tuple #[b, .int .i64 px] ∧ IsB pl b W1 from H.new 10 4 (by kernel_rfl))
    exact gives_extract rfl h1 rfl ⟨h2, Below.refl _ _⟩
  · intro ρ W1 hb1 H
    obtain ⟨b, h1, h2⟩ := (show ∃ b, ρ (.tmp 10) = .tuple #[b, .int .i64 px] ∧ IsB pl b W1 from H.new 10 4 (by kernel_rfl))
    exact gives_extract rfl h1 rfl ⟨rfl, Below.refl _ _⟩
  · intro ρ W1 hb1 H
    exact gives_assign rfl rfl ⟨H.new 11 5 (by kernel_rfl), Below.refl _ _⟩
  · intro ρ W1 hb1 H
    exact gives_assign rfl (H.new 12 6 (by kernel_rfl)) ⟨rfl, Below.refl _ _⟩
  · intro vs W1 hb1 hfs
    have f7 : IsB (pl) (vs 7) W1 := hfs 7 (by decide)
    have f8 : vs 8 = .int .i64 px := hfs 8 (by decide)
    clear hfs
    simp only [putAll, Nat.zero_add, Nat.reduceAdd]
    generalize vs 0 = z0
    generalize vs 1 = z1
    generalize vs 2 = z2
    generalize vs 3 = z3
    generalize vs 4 = z4
    generalize vs 5 = z5
    generalize vs 6 = z6
    generalize vs 7 = z7 at f7 ⊢
    simp only [f8, Act.put, List.setIfInBounds_toArray, List.set_cons_succ, List.set_cons_zero]
    clear f8
    have HB := Lib.hid f7
    have HW := Lib.hid hb1
    clear f7 hb1
    go_wp2
    go_ret2
    rw [HE.out]
    exact ⟨_, rfl, HB.out, HW.out⟩
theorem unil_eq (W : World) : (binOp .eql 38 (.slice none 0 0) (.slice none 0 0)).run Tryz.prog W = .ok (.bool true) W := Lib.run_eql_slice_nil W _ _ none 0 0 0 0 Tryz.underlying38
theorem unil_ne (ad : Addr) (n c : Nat) (W : World) : (binOp .eql 38 (.slice (some ad) n c) (.slice none 0 0)).run Tryz.prog W = .ok (.bool false) W := Lib.run_eql_slice_nil W _ _ (some ad) n c 0 0 Tryz.underlying38
/-- What best holds. -/
def UBest (o : Option (List UInt8)) (v : Value) (w : World) : Prop := match o with | none => v = .slice none 0 0 | some a => IsB a v w ∧ 1 ≤ a.length
def UBRel (F : Nat → List UInt8 × Int) (N : Nat) (w : World) (b i : Value) (wr : World) : Prop := ∃ k : Nat, k ≤ N ∧ i = .int .i64 (k : Int) ∧ UBest (((List.range k).map F).foldl ubest none) b wr ∧ Below w.heap.size w wr
set_option maxHeartbeats 4000000 in
set_option maxRecDepth 100000 in
theorem ushortest_pat (N : Nat) (F : Nat → List UInt8 × Int) (p1 p2 : Nat) (w : World) (hN : N ≤ 1000) (hf : ∀ (k : Nat) (W : World), k < N → Below w.heap.size w W → Calls Tryz.prog 158 #[.int .i64 (k : Int), .pointer (some ⟨p1, 0, none⟩), .pointer (some ⟨p2, 0, none⟩)] W (RetE W (F k)))
    (hlen : ∀ k, k < N → (F k).2 = 0 → 1 ≤ (F k).1.length) :
    Calls Tryz.prog 106 #[.int .i64 (N : Int), .func (.func 158) #[] #[.pointer (some ⟨p1, 0, none⟩), .pointer (some ⟨p2, 0, none⟩)]] w (RetE w (uans (((List.range N).map F).foldl ubest none))) := by
  have HF := Lib.hid hf
  have HLEN := Lib.hid hlen
  have HS : Hid (UBRel F N w (.slice none 0 0) (.int .i64 0) w) := Lib.hid ⟨0, Nat.zero_le _, rfl, rfl, Below.refl _ _⟩
  clear hf hlen
  go_enter Tryz.func106, Tryz.ntmps106
  go_wp2
  go_loopw [6, 11] (UBRel F N w) (fun _ i _ => N - (intOf i).toNat)
  case atStart => exact HS.out
  case round =>
    obtain ⟨k, hk, rfl, hbest, hbw⟩ := hrel
    clear HS
    have HBW := Lib.hid hbw
    have HFS := Lib.hid (show ((List.range (k + 1)).map F).foldl ubest none = ubest (((List.range k).map F).foldl ubest none) (F k) by
      rw [List.range_succ, List.map_append, List.foldl_append]; rfl)
    obtain ⟨o, ho⟩ : ∃ o, o = ((List.range k).map F).foldl ubest none := ⟨_, rfl⟩
    rw [← ho] at hbest HFS
    have HO := Lib.hid ho
    clear hbw ho
    by_cases hlt : k < N
    · have hlti : (k : Int) < (N : Int) := by omega
      have HFK := Lib.hid (HF.out k wr hlt HBW.out)
      have HLK := Lib.hid (HLEN.out k hlt)
      obtain ⟨fl, fx, hfk⟩ : ∃ fl fx, F k = (fl, fx) := ⟨_, _, rfl⟩
      rw [hfk] at HFK HFS HLK
      clear hfk
      rcases o with _ | a
      · obtain rfl : _ = Value.slice none 0 0 := hbest
        have hnil := unil_eq
        by_cases hx : fx = 0
        · subst hx
          go_wp2_with (go_at_call 158; refine HFK.out.mono ?_; rintro e w2 ⟨v2, rfl, hv2, hb2⟩; have HV2 := Lib.hid hv2; have HB2 := Lib.hid (below_then HBW.out hb2); clear hv2 hb2)
          go_roundw
          case rel => exact ⟨k + 1, hlt, by go_num, by rw [HFS.out, ubest_none rfl]; exact ⟨HV2.out, HLK.out (by trivial)⟩, HB2.out⟩
          case measure => simp [intOf]; omega
        · have d1 : (fx == 0) = false := by simpa using hx
          have HX := Lib.hid hx
          clear hx
          go_wp2_with (go_at_call 158; refine HFK.out.mono ?_; rintro e w2 ⟨v2, rfl, hv2, hb2⟩; have HV2 := Lib.hid hv2; have HB2 := Lib.hid (below_then HBW.out hb2); clear hv2 hb2)
          go_roundw
          case rel => exact ⟨k + 1, hlt, by go_num, by rw [HFS.out, ubest_bad HX.out]; rfl, HB2.out⟩
          case measure => simp [intOf]; omega
      · obtain ⟨ha, ha1⟩ := hbest
        obtain ⟨A6, n6, c6, rfl⟩ := IsV.shape (f := bv) ha
        have hp6 := IsV.parts (f := bv) (show IsV bv a _ _ from ha)
        have HN6 := Lib.hid hp6.1
        have hn61 : 1 ≤ n6 := by rw [← hp6.1]; exact ha1
        have hci6 : (n6 : Int) ≤ 9223372036854775807 := by have h1 := hp6.2.2.1; have h2 := hp6.2.2.2.1; unfold maxLen at h2; omega
        have hAs : ∃ ad, A6 = some ad := by
          cases A6 with
          | none => have := hp6.2.1 rfl; omega
          | some ad => exact ⟨ad, rfl⟩
        obtain ⟨ad6, rfl⟩ := hAs
        have hnil := fun W => unil_ne ad6 n6 c6 W
        have HA := Lib.hid ha
        have HA1 := Lib.hid ha1
        clear ha ha1 hp6
        by_cases hx : fx = 0
        · subst hx
          go_wp2_with fail
          refine HFK.out.mono ?_
          rintro e w2 ⟨v2, rfl, hv2, hb2⟩
          obtain ⟨A8, n8, c8, rfl⟩ := IsV.shape (f := bv) hv2
          have hn8 := (IsV.parts (f := bv) (show IsV bv fl _ _ from hv2)).1
          have HN8 := Lib.hid hn8
          have HV2 := Lib.hid hv2
          have HB2 := Lib.hid (below_then HBW.out hb2)
          have HA2 := Lib.hid (IsB.below HA.out hb2)
          clear hv2 hb2 hn8
          by_cases hlt8 : n8 < n6
          · have hlt8i : (n8 : Int) < (n6 : Int) := by omega
            have d2 : decide ((n8 : Int) < (n6 : Int)) = true := decide_eq_true hlt8i
            go_wp2
            go_roundw
            case rel => exact ⟨k + 1, hlt, by go_num, by rw [HFS.out, ubest_less rfl (by have := HN8.out; have := HN6.out; dsimp only; omega)]; exact ⟨HV2.out, HLK.out (by trivial)⟩, HB2.out⟩
            case measure => simp [intOf]; omega
          · have hlt8i : ¬ (n8 : Int) < (n6 : Int) := by omega
            have d2 : decide ((n8 : Int) < (n6 : Int)) = false := decide_eq_false hlt8i
            go_wp2
            go_roundw
            case rel => exact ⟨k + 1, hlt, by go_num, by rw [HFS.out, ubest_more (by have := HN8.out; have := HN6.out; dsimp only; omega)]; exact ⟨HA2.out, HA1.out⟩, HB2.out⟩
            case measure => simp [intOf]; omega
        · have d1 : (fx == 0) = false := by simpa using hx
          have HX := Lib.hid hx
          clear hx
          go_wp2_with (go_at_call 158; refine HFK.out.mono ?_; rintro e w2 ⟨v2, rfl, hv2, hb2⟩; have HB2 := Lib.hid (below_then HBW.out hb2); have HA2 := Lib.hid (IsB.below HA.out hb2); clear hv2 hb2)
          go_roundw
          case rel => exact ⟨k + 1, hlt, by go_num, by rw [HFS.out, ubest_bad HX.out]; exact ⟨HA2.out, HA1.out⟩, HB2.out⟩
          case measure => simp [intOf]; omega
    · obtain rfl : k = N := by omega
      have hlti : ¬ (k : Int) < (k : Int) := by omega
      rcases o with _ | a
      · obtain rfl : _ = Value.slice none 0 0 := hbest
        have hnil := unil_eq
        go_wp2
        go_ret2
        rw [← HO.out]
        exact RetE.nil _ HBW.out
      · obtain ⟨ha, ha1⟩ := hbest
        obtain ⟨A6, n6, c6, rfl⟩ := IsV.shape (f := bv) ha
        have hp6 := IsV.parts (f := bv) (show IsV bv a _ _ from ha)
        have hn61 : 1 ≤ n6 := by rw [← hp6.1]; exact ha1
        have hAs : ∃ ad, A6 = some ad := by
          cases A6 with
          | none => have := hp6.2.1 rfl; omega
          | some ad => exact ⟨ad, rfl⟩
        obtain ⟨ad6, rfl⟩ := hAs
        have hnil := fun W => unil_ne ad6 n6 c6 W
        have HA := Lib.hid ha
        clear ha ha1 hp6
        go_wp2
        go_ret2
        rw [← HO.out]
        exact ⟨_, rfl, HA.out, HBW.out⟩
set_option maxHeartbeats 4000000 in
set_option maxRecDepth 100000 in
theorem ushortest_run (N : Nat) (F : Nat → List UInt8 × Int) (p6 p2 p3 : Nat) (w : World) (hN : N ≤ 1000) (hf : ∀ (k : Nat) (W : World), k < N → Below w.heap.size w W → Calls Tryz.prog 107 #[.int .i64 (k : Int), .pointer (some ⟨p6, 0, none⟩), .pointer (some ⟨p2, 0, none⟩), .pointer (some ⟨p3, 0, none⟩)] W (RetE W (F k)))
    (hlen : ∀ k, k < N → (F k).2 = 0 → 1 ≤ (F k).1.length) :
    Calls Tryz.prog 106 #[.int .i64 (N : Int), .func (.func 107) #[] #[.pointer (some ⟨p6, 0, none⟩), .pointer (some ⟨p2, 0, none⟩), .pointer (some ⟨p3, 0, none⟩)]] w (RetE w (uans (((List.range N).map F).foldl ubest none))) := by
  have HF := Lib.hid hf
  have HLEN := Lib.hid hlen
  have HS : Hid (UBRel F N w (.slice none 0 0) (.int .i64 0) w) := Lib.hid ⟨0, Nat.zero_le _, rfl, rfl, Below.refl _ _⟩
  clear hf hlen
  go_enter Tryz.func106, Tryz.ntmps106
  go_wp2
  go_loopw [6, 11] (UBRel F N w) (fun _ i _ => N - (intOf i).toNat)
  case atStart => exact HS.out
  case round =>
    obtain ⟨k, hk, rfl, hbest, hbw⟩ := hrel
    clear HS
    have HBW := Lib.hid hbw
    have HFS := Lib.hid (show ((List.range (k + 1)).map F).foldl ubest none = ubest (((List.range k).map F).foldl ubest none) (F k) by
      rw [List.range_succ, List.map_append, List.foldl_append]; rfl)
    obtain ⟨o, ho⟩ : ∃ o, o = ((List.range k).map F).foldl ubest none := ⟨_, rfl⟩
    rw [← ho] at hbest HFS
    have HO := Lib.hid ho
    clear hbw ho
    by_cases hlt : k < N
    · have hlti : (k : Int) < (N : Int) := by omega
      have HFK := Lib.hid (HF.out k wr hlt HBW.out)
      have HLK := Lib.hid (HLEN.out k hlt)
      obtain ⟨fl, fx, hfk⟩ : ∃ fl fx, F k = (fl, fx) := ⟨_, _, rfl⟩
      rw [hfk] at HFK HFS HLK
      clear hfk
      rcases o with _ | a
      · obtain rfl : _ = Value.slice none 0 0 := hbest
        have hnil := unil_eq
        by_cases hx : fx = 0
        · subst hx
          go_wp2_with (go_at_call 107; refine HFK.out.mono ?_; rintro e w2 ⟨v2, rfl, hv2, hb2⟩; have HV2 := Lib.hid hv2; have HB2 := Lib.hid (below_then HBW.out hb2); clear hv2 hb2)
          go_roundw
          case rel => exact ⟨k + 1, hlt, by go_num, by rw [HFS.out, ubest_none rfl]; exact ⟨HV2.out, HLK.out (by trivial)⟩, HB2.out⟩
          case measure => simp [intOf]; omega
        · have d1 : (fx == 0) = false := by simpa using hx
          have HX := Lib.hid hx
          clear hx
          go_wp2_with (go_at_call 107; refine HFK.out.mono ?_; rintro e w2 ⟨v2, rfl, hv2, hb2⟩; have HV2 := Lib.hid hv2; have HB2 := Lib.hid (below_then HBW.out hb2); clear hv2 hb2)
          go_roundw
          case rel => exact ⟨k + 1, hlt, by go_num, by rw [HFS.out, ubest_bad HX.out]; rfl, HB2.out⟩
          case measure => simp [intOf]; omega
      · obtain ⟨ha, ha1⟩ := hbest
        obtain ⟨A6, n6, c6, rfl⟩ := IsV.shape (f := bv) ha
        have hp6 := IsV.parts (f := bv) (show IsV bv a _ _ from ha)
        have HN6 := Lib.hid hp6.1
        have hn61 : 1 ≤ n6 := by rw [← hp6.1]; exact ha1
        have hci6 : (n6 : Int) ≤ 9223372036854775807 := by have h1 := hp6.2.2.1; have h2 := hp6.2.2.2.1; unfold maxLen at h2; omega
        have hAs : ∃ ad, A6 = some ad := by
          cases A6 with
          | none => have := hp6.2.1 rfl; omega
          | some ad => exact ⟨ad, rfl⟩
        obtain ⟨ad6, rfl⟩ := hAs
        have hnil := fun W => unil_ne ad6 n6 c6 W
        have HA := Lib.hid ha
        have HA1 := Lib.hid ha1
        clear ha ha1 hp6
        by_cases hx : fx = 0
        · subst hx
          go_wp2_with fail
          refine HFK.out.mono ?_
          rintro e w2 ⟨v2, rfl, hv2, hb2⟩
          obtain ⟨A8, n8, c8, rfl⟩ := IsV.shape (f := bv) hv2
          have hn8 := (IsV.parts (f := bv) (show IsV bv fl _ _ from hv2)).1
          have HN8 := Lib.hid hn8
          have HV2 := Lib.hid hv2
          have HB2 := Lib.hid (below_then HBW.out hb2)
          have HA2 := Lib.hid (IsB.below HA.out hb2)
          clear hv2 hb2 hn8
          by_cases hlt8 : n8 < n6
          · have hlt8i : (n8 : Int) < (n6 : Int) := by omega
            have d2 : decide ((n8 : Int) < (n6 : Int)) = true := decide_eq_true hlt8i
            go_wp2
            go_roundw
            case rel => exact ⟨k + 1, hlt, by go_num, by rw [HFS.out, ubest_less rfl (by have := HN8.out; have := HN6.out; dsimp only; omega)]; exact ⟨HV2.out, HLK.out (by trivial)⟩, HB2.out⟩
            case measure => simp [intOf]; omega
          · have hlt8i : ¬ (n8 : Int) < (n6 : Int) := by omega
            have d2 : decide ((n8 : Int) < (n6 : Int)) = false := decide_eq_false hlt8i
            go_wp2
            go_roundw
            case rel => exact ⟨k + 1, hlt, by go_num, by rw [HFS.out, ubest_more (by have := HN8.out; have := HN6.out; dsimp only; omega)]; exact ⟨HA2.out, HA1.out⟩, HB2.out⟩
            case measure => simp [intOf]; omega
        · have d1 : (fx == 0) = false := by simpa using hx
          have HX := Lib.hid hx
          clear hx
          go_wp2_with (go_at_call 107; refine HFK.out.mono ?_; rintro e w2 ⟨v2, rfl, hv2, hb2⟩; have HB2 := Lib.hid (below_then HBW.out hb2); have HA2 := Lib.hid (IsB.below HA.out hb2); clear hv2 hb2)
          go_roundw
          case rel => exact ⟨k + 1, hlt, by go_num, by rw [HFS.out, ubest_bad HX.out]; exact ⟨HA2.out, HA1.out⟩, HB2.out⟩
          case measure => simp [intOf]; omega
    · obtain rfl : k = N := by omega
      have hlti : ¬ (k : Int) < (k : Int) := by omega
      rcases o with _ | a
      · obtain rfl : _ = Value.slice none 0 0 := hbest
        have hnil := unil_eq
        go_wp2
        go_ret2
        rw [← HO.out]
        exact RetE.nil _ HBW.out
      · obtain ⟨ha, ha1⟩ := hbest
        obtain ⟨A6, n6, c6, rfl⟩ := IsV.shape (f := bv) ha
        have hp6 := IsV.parts (f := bv) (show IsV bv a _ _ from ha)
        have hn61 : 1 ≤ n6 := by rw [← hp6.1]; exact ha1
        have hAs : ∃ ad, A6 = some ad := by
          cases A6 with
          | none => have := hp6.2.1 rfl; omega
          | some ad => exact ⟨ad, rfl⟩
        obtain ⟨ad6, rfl⟩ := hAs
        have hnil := fun W => unil_ne ad6 n6 c6 W
        have HA := Lib.hid ha
        clear ha ha1 hp6
        go_wp2
        go_ret2
        rw [← HO.out]
        exact ⟨_, rfl, HA.out, HBW.out⟩
set_option maxHeartbeats 1000000 in
set_option maxRecDepth 100000 in
theorem uputpat_any (l : List Int) (v : Value) (s : Bool) (w : World) (ht : WTab w) (hv : IsV iv l v w) (hl : ∀ x ∈ l, inInt x) (hb : l.length ≤ 1000000) :
    Calls Tryz.prog 128 #[v, .bool s] w (RetE w (upat l s)) := by
  obtain ⟨A, n, c, rfl⟩ := hv.shape
  obtain ⟨v, hv0⟩ : ∃ v, v = Value.slice A n c := ⟨_, rfl⟩
  rw [← hv0] at hv
  obtain ⟨w1, hw1⟩ : ∃ w1, w1 = (w.alloc (.cells #[v] 47)).alloc (.cells #[.bool s] 4) := ⟨_, rfl⟩
  have hb1 : Below w.heap.size w w1 := by rw [hw1]; exact ((Below.refl _ _).alloc (Nat.le_refl _) _).alloc (by simp) _
  have r1 : Row w1 w.heap.size 47 [v] := by
    have h0 : Row (w.alloc (.cells #[v] 47)) w.heap.size 47 [v] := heap_alloc_new w _
    rw [hw1]; exact h0.alloc _
  have r2 : Row w1 (w.heap.size + 1) 4 [.bool s] := by
    rw [hw1]
    have h0 := heap_alloc_new (w.alloc (.cells #[v] 47)) (.cells #[.bool s] 4)
    rw [show (w.alloc (.cells #[v] 47)).heap.size = w.heap.size + 1 by simp] at h0
    exact h0
  have HS := Lib.hid (ushortest_pat 31 (fun c : Nat => pputE l (wof (c : Int)) s) w.heap.size (w.heap.size + 1) w1 (by omega)
    (fun k W hk hW => uppat1_any k hk _ _ l v s W (ht.below (below_then hb1 hW) ht.lt) (hv.below (below_then hb1 hW)) hl hb (r1.below hW r1.lt) (r2.below hW r2.lt))
    (fun k hk h0 => Nat.pos_of_ne_zero (ulen_pput h0)))
  have HE := Lib.hid (show uans (((List.range 31).map fun c : Nat => pputE l (wof (c : Int)) s).foldl ubest none) = upat l s from rfl)
  rw [HE.out, show ((31 : Nat) : Int) = 31 from rfl] at HS
  have HB := Lib.hid hb1
  rw [hw1, hv0] at HS HB
  clear ht hv hl hb r1 r2 hw1 hb1
  go_enter Tryz.func128, Tryz.ntmps128
  go_wp2_with (go_at_call 106; refine HS.out.mono ?_; rintro e w2 ⟨v2, rfl, hv2, hb2⟩; have HV2 := Lib.hid hv2; have HB2 := Lib.hid (below_then HB.out hb2); clear hv2 hb2)
  go_ret2
  exact ⟨_, rfl, HV2.out, HB2.out⟩
set_option maxHeartbeats 4000000 in
set_option maxRecDepth 100000 in
theorem urun1_0 (p6 p2 p3 g : Nat) (l : List Int) (v : Value) (s : Bool) (w : World) (ht : WTab w) (hv : IsV iv l v w) (hl : ∀ x ∈ l, inInt x) (hb : l.length ≤ 1000000)
    (h6 : Row w p6 139 [.slice (some ⟨g, 0, none⟩) 4 4]) (h2 : Row w p2 47 [v]) (h3 : Row w p3 4 [.bool s]) (hg : Row w g 143 ukcells) :
    Calls Tryz.prog 107 #[.int .i64 0, .pointer (some ⟨p6, 0, none⟩), .pointer (some ⟨p2, 0, none⟩), .pointer (some ⟨p3, 0, none⟩)] w (RetE w (urep l s)) := by
  have HT := Lib.hid ht
  have HV := Lib.hid hv
  have HPR := Lib.hid (fun W (h : IsV iv l v W) (ht : WTab W) => uputrep_any l v s W h hl hb)
  have HC6 := Lib.hid (show w.cell? ⟨p6, 0, none⟩ = some (.slice (some ⟨g, 0, none⟩) 4 4) from h6.cell 0)
  have HC2 := Lib.hid (show w.cell? ⟨p2, 0, none⟩ = some v from h2.cell 0)
  have HC3 := Lib.hid (show w.cell? ⟨p3, 0, none⟩ = some (.bool s) from h3.cell 0)
  have HF := Lib.hid (show w.cell? ⟨g, 1, none⟩ = some (.func (.func 122) #[] #[]) from hg.cell 1)
  have HL6 := Lib.hid h6.lt
  have HL2 := Lib.hid h2.lt
  have HL3 := Lib.hid h3.lt
  have HLG := Lib.hid hg.lt
  obtain ⟨pl, px, hE⟩ : ∃ pl px, urep l s = (pl, px) := ⟨_, _, rfl⟩
  rw [hE] at HPR
  have HE := Lib.hid hE
  clear ht hv hl hb h6 h2 h3 hg hE
  go_enter Tryz.func107, Tryz.ntmps107
  go_wp2_with fail
  refine wp_region_list [.is (.slice (some ⟨g, 0, none⟩) 4 4), .is (.int .i64 0), .is (.pointer (some ⟨g, 0, none⟩)), .is (.pointer (some ⟨g, 1, none⟩)), .is (.func (.func 122) #[] #[]), .is (v), .is (.bool s), .putE (pl) (px), .bytes (pl), .is (.int .i64 px), .bytes (pl), .is (.int .i64 px)] [some 7, some 8, some 9, some 10, some 11, some 12, some 13, some 14, some 15, some 16, some 5, some 6] (by kernel_rfl) (by kernel_rfl) (by kernel_rfl) rfl ⟨?_, ?_, ?_, ?_, ?_, ?_, ?_, ?_, ?_, ?_, ?_, ?_, trivial⟩ ?_
  · intro ρ W1 hb1 H
    exact gives_load rfl (H.old 1 _ (by kernel_rfl) rfl) Tryz.underlying139 rfl ((hb1.cell HL6.out).trans HC6.out) ⟨rfl, Below.refl _ _⟩
  · intro ρ W1 hb1 H
    exact gives_move rfl (H.old 0 _ (by kernel_rfl) rfl) ⟨rfl, Below.refl _ _⟩
  · intro ρ W1 hb1 H
    exact gives_indexW (k := 0) elemK rfl (H.new 7 0 (by kernel_rfl)) (H.new 8 1 (by kernel_rfl)) (by omega) ⟨congrArg (fun q => Value.pointer (some q)) (by simp [Addr.add]), Below.refl _ _⟩
  · intro ρ W1 hb1 H
    exact gives_field rfl (H.new 9 2 (by kernel_rfl)) (fun W => kind_at1 0 W _) ⟨rfl, Below.refl _ _⟩
  · intro ρ W1 hb1 H
    exact gives_load rfl (H.new 10 3 (by kernel_rfl)) Tryz.underlying50 rfl ((hb1.cell HLG.out).trans HF.out) ⟨rfl, Below.refl _ _⟩
  · intro ρ W1 hb1 H
    exact gives_load rfl (H.old 2 _ (by kernel_rfl) rfl) Tryz.underlying47 rfl ((hb1.cell HL2.out).trans HC2.out) ⟨rfl, Below.refl _ _⟩
  · intro ρ W1 hb1 H
    exact gives_load rfl (H.old 3 _ (by kernel_rfl) rfl) Tryz.underlying4 rfl ((hb1.cell HL3.out).trans HC3.out) ⟨rfl, Below.refl _ _⟩
  · intro ρ W1 hb1 H
    have e0 : ρ (.tmp 12) = v := H.new 12 5 (by kernel_rfl)
    have e1 : ρ (.tmp 13) = .bool s := H.new 13 6 (by kernel_rfl)
    refine gives_callV rfl (fun _ _ => by kernel_rfl) (H.new 11 4 (by kernel_rfl)) (args := #[v, .bool s]) (by simp [e0, e1]) ?_
    exact (HPR.out W1 (HV.out.below hb1) (HT.out.below hb1 HT.out.lt)).mono fun e w' ⟨b, h1, h2, h3⟩ => ⟨_, h1, ⟨b, rfl, h2⟩, h3⟩
  · intro ρ W1 hb1 H
    obtain ⟨b, h1, h2⟩ := (show ∃ b, ρ (.tmp 14) = .tuple #[b, .int .i64 px] ∧ IsB pl b W1 from H.new 14 7 (by kernel_rfl))
    exact gives_extract rfl h1 rfl ⟨h2, Below.refl _ _⟩
  · intro ρ W1 hb1 H
    obtain ⟨b, h1, h2⟩ := (show ∃ b, ρ (.tmp 14) = .tuple #[b, .int .i64 px] ∧ IsB pl b W1 from H.new 14 7 (by kernel_rfl))
    exact gives_extract rfl h1 rfl ⟨rfl, Below.refl _ _⟩
  · intro ρ W1 hb1 H
    exact gives_assign rfl rfl ⟨H.new 15 8 (by kernel_rfl), Below.refl _ _⟩
  · intro ρ W1 hb1 H
    exact gives_assign rfl (H.new 16 9 (by kernel_rfl)) ⟨rfl, Below.refl _ _⟩
  · intro vs W1 hb1 hfs
    have f10 : IsB (pl) (vs 10) W1 := hfs 10 (by decide)
    have f11 : vs 11 = .int .i64 px := hfs 11 (by decide)
    clear hfs
    simp only [putAll, Nat.zero_add, Nat.reduceAdd]
    generalize vs 0 = z0
    generalize vs 1 = z1
    generalize vs 2 = z2
    generalize vs 3 = z3
    generalize vs 4 = z4
    generalize vs 5 = z5
    generalize vs 6 = z6
    generalize vs 7 = z7
    generalize vs 8 = z8
    generalize vs 9 = z9
    generalize vs 10 = z10 at f10 ⊢
    simp only [f11, Act.put, List.setIfInBounds_toArray, List.set_cons_succ, List.set_cons_zero]
    clear f11
    have HB := Lib.hid f10
    have HW := Lib.hid hb1
    clear f10 hb1
    go_wp2
    go_ret2
    rw [HE.out]
    exact ⟨_, rfl, HB.out, HW.out⟩
set_option maxHeartbeats 4000000 in
set_option maxRecDepth 100000 in
theorem urun1_1 (p6 p2 p3 g : Nat) (l : List Int) (v : Value) (s : Bool) (w : World) (ht : WTab w) (hv : IsV iv l v w) (hl : ∀ x ∈ l, inInt x) (hb : l.length ≤ 1000000)
    (h6 : Row w p6 139 [.slice (some ⟨g, 0, none⟩) 4 4]) (h2 : Row w p2 47 [v]) (h3 : Row w p3 4 [.bool s]) (hg : Row w g 143 ukcells) :
    Calls Tryz.prog 107 #[.int .i64 1, .pointer (some ⟨p6, 0, none⟩), .pointer (some ⟨p2, 0, none⟩), .pointer (some ⟨p3, 0, none⟩)] w (RetE w (dputE l s)) := by
  have HT := Lib.hid ht
  have HV := Lib.hid hv
  have HPD := Lib.hid (fun W (h : IsV iv l v W) (ht : WTab W) => dput_any l v s W ht h hl hb)
  have HC6 := Lib.hid (show w.cell? ⟨p6, 0, none⟩ = some (.slice (some ⟨g, 0, none⟩) 4 4) from h6.cell 0)
  have HC2 := Lib.hid (show w.cell? ⟨p2, 0, none⟩ = some v from h2.cell 0)
  have HC3 := Lib.hid (show w.cell? ⟨p3, 0, none⟩ = some (.bool s) from h3.cell 0)
  have HF := Lib.hid (show w.cell? ⟨g, 4, none⟩ = some (.func (.func 124) #[] #[]) from hg.cell 4)
  have HL6 := Lib.hid h6.lt
  have HL2 := Lib.hid h2.lt
  have HL3 := Lib.hid h3.lt
  have HLG := Lib.hid hg.lt
  obtain ⟨pl, px, hE⟩ : ∃ pl px, dputE l s = (pl, px) := ⟨_, _, rfl⟩
  rw [hE] at HPD
  have HE := Lib.hid hE
  clear ht hv hl hb h6 h2 h3 hg hE
  go_enter Tryz.func107, Tryz.ntmps107
  go_wp2_with fail
  refine wp_region_list [.is (.slice (some ⟨g, 0, none⟩) 4 4), .is (.int .i64 1), .is (.pointer (some ⟨g, 3, none⟩)), .is (.pointer (some ⟨g, 4, none⟩)), .is (.func (.func 124) #[] #[]), .is (v), .is (.bool s), .putE (pl) (px), .bytes (pl), .is (.int .i64 px), .bytes (pl), .is (.int .i64 px)] [some 7, some 8, some 9, some 10, some 11, some 12, some 13, some 14, some 15, some 16, some 5, some 6] (by kernel_rfl) (by kernel_rfl) (by kernel_rfl) rfl ⟨?_, ?_, ?_, ?_, ?_, ?_, ?_, ?_, ?_, ?_, ?_, ?_, trivial⟩ ?_
  · intro ρ W1 hb1 H
    exact gives_load rfl (H.old 1 _ (by kernel_rfl) rfl) Tryz.underlying139 rfl ((hb1.cell HL6.out).trans HC6.out) ⟨rfl, Below.refl _ _⟩
  · intro ρ W1 hb1 H
    exact gives_move rfl (H.old 0 _ (by kernel_rfl) rfl) ⟨rfl, Below.refl _ _⟩
  · intro ρ W1 hb1 H
    exact gives_indexW (k := 1) elemK rfl (H.new 7 0 (by kernel_rfl)) (H.new 8 1 (by kernel_rfl)) (by omega) ⟨congrArg (fun q => Value.pointer (some q)) (by simp [Addr.add]), Below.refl _ _⟩
  · intro ρ W1 hb1 H
    exact gives_field rfl (H.new 9 2 (by kernel_rfl)) (fun W => kind_at1 3 W _) ⟨rfl, Below.refl _ _⟩
  · intro ρ W1 hb1 H
    exact gives_load rfl (H.new 10 3 (by kernel_rfl)) Tryz.underlying50 rfl ((hb1.cell HLG.out).trans HF.out) ⟨rfl, Below.refl _ _⟩
  · intro ρ W1 hb1 H
    exact gives_load rfl (H.old 2 _ (by kernel_rfl) rfl) Tryz.underlying47 rfl ((hb1.cell HL2.out).trans HC2.out) ⟨rfl, Below.refl _ _⟩
  · intro ρ W1 hb1 H
    exact gives_load rfl (H.old 3 _ (by kernel_rfl) rfl) Tryz.underlying4 rfl ((hb1.cell HL3.out).trans HC3.out) ⟨rfl, Below.refl _ _⟩
  · intro ρ W1 hb1 H
    have e0 : ρ (.tmp 12) = v := H.new 12 5 (by kernel_rfl)
    have e1 : ρ (.tmp 13) = .bool s := H.new 13 6 (by kernel_rfl)
    refine gives_callV rfl (fun _ _ => by kernel_rfl) (H.new 11 4 (by kernel_rfl)) (args := #[v, .bool s]) (by simp [e0, e1]) ?_
    exact (HPD.out W1 (HV.out.below hb1) (HT.out.below hb1 HT.out.lt)).mono fun e w' ⟨b, h1, h2, h3⟩ => ⟨_, h1, ⟨b, rfl, h2⟩, h3⟩
  · intro ρ W1 hb1 H
    obtain ⟨b, h1, h2⟩ := (show ∃ b, ρ (.tmp 14) = .tuple #[b, .int .i64 px] ∧ IsB pl b W1 from H.new 14 7 (by kernel_rfl))
    exact gives_extract rfl h1 rfl ⟨h2, Below.refl _ _⟩
  · intro ρ W1 hb1 H
    obtain ⟨b, h1, h2⟩ := (show ∃ b, ρ (.tmp 14) = .tuple #[b, .int .i64 px] ∧ IsB pl b W1 from H.new 14 7 (by kernel_rfl))
    exact gives_extract rfl h1 rfl ⟨rfl, Below.refl _ _⟩
  · intro ρ W1 hb1 H
    exact gives_assign rfl rfl ⟨H.new 15 8 (by kernel_rfl), Below.refl _ _⟩
  · intro ρ W1 hb1 H
    exact gives_assign rfl (H.new 16 9 (by kernel_rfl)) ⟨rfl, Below.refl _ _⟩
  · intro vs W1 hb1 hfs
    have f10 : IsB (pl) (vs 10) W1 := hfs 10 (by decide)
    have f11 : vs 11 = .int .i64 px := hfs 11 (by decide)
    clear hfs
    simp only [putAll, Nat.zero_add, Nat.reduceAdd]
    generalize vs 0 = z0
    generalize vs 1 = z1
    generalize vs 2 = z2
    generalize vs 3 = z3
    generalize vs 4 = z4
    generalize vs 5 = z5
    generalize vs 6 = z6
    generalize vs 7 = z7
    generalize vs 8 = z8
    generalize vs 9 = z9
    generalize vs 10 = z10 at f10 ⊢
    simp only [f11, Act.put, List.setIfInBounds_toArray, List.set_cons_succ, List.set_cons_zero]
    clear f11
    have HB := Lib.hid f10
    have HW := Lib.hid hb1
    clear f10 hb1
    go_wp2
    go_ret2
    rw [HE.out]
    exact ⟨_, rfl, HB.out, HW.out⟩
set_option maxHeartbeats 4000000 in
set_option maxRecDepth 100000 in
theorem urun1_2 (p6 p2 p3 g : Nat) (l : List Int) (v : Value) (s : Bool) (w : World) (ht : WTab w) (hv : IsV iv l v w) (hl : ∀ x ∈ l, inInt x) (hb : l.length ≤ 1000000)
    (h6 : Row w p6 139 [.slice (some ⟨g, 0, none⟩) 4 4]) (h2 : Row w p2 47 [v]) (h3 : Row w p3 4 [.bool s]) (hg : Row w g 143 ukcells) :
    Calls Tryz.prog 107 #[.int .i64 2, .pointer (some ⟨p6, 0, none⟩), .pointer (some ⟨p2, 0, none⟩), .pointer (some ⟨p3, 0, none⟩)] w (RetE w (gputE l s)) := by
  have HT := Lib.hid ht
  have HV := Lib.hid hv
  have HPG := Lib.hid (fun W (h : IsV iv l v W) (ht : WTab W) => tput_any l v s W ht h hl hb)
  have HC6 := Lib.hid (show w.cell? ⟨p6, 0, none⟩ = some (.slice (some ⟨g, 0, none⟩) 4 4) from h6.cell 0)
  have HC2 := Lib.hid (show w.cell? ⟨p2, 0, none⟩ = some v from h2.cell 0)
  have HC3 := Lib.hid (show w.cell? ⟨p3, 0, none⟩ = some (.bool s) from h3.cell 0)
  have HF := Lib.hid (show w.cell? ⟨g, 7, none⟩ = some (.func (.func 126) #[] #[]) from hg.cell 7)
  have HL6 := Lib.hid h6.lt
  have HL2 := Lib.hid h2.lt
  have HL3 := Lib.hid h3.lt
  have HLG := Lib.hid hg.lt
  obtain ⟨pl, px, hE⟩ : ∃ pl px, gputE l s = (pl, px) := ⟨_, _, rfl⟩
  rw [hE] at HPG
  have HE := Lib.hid hE
  clear ht hv hl hb h6 h2 h3 hg hE
  go_enter Tryz.func107, Tryz.ntmps107
  go_wp2_with fail
  refine wp_region_list [.is (.slice (some ⟨g, 0, none⟩) 4 4), .is (.int .i64 2), .is (.pointer (some ⟨g, 6, none⟩)), .is (.pointer (some ⟨g, 7, none⟩)), .is (.func (.func 126) #[] #[]), .is (v), .is (.bool s), .putE (pl) (px), .bytes (pl), .is (.int .i64 px), .bytes (pl), .is (.int .i64 px)] [some 7, some 8, some 9, some 10, some 11, some 12, some 13, some 14, some 15, some 16, some 5, some 6] (by kernel_rfl) (by kernel_rfl) (by kernel_rfl) rfl ⟨?_, ?_, ?_, ?_, ?_, ?_, ?_, ?_, ?_, ?_, ?_, ?_, trivial⟩ ?_
  · intro ρ W1 hb1 H
    exact gives_load rfl (H.old 1 _ (by kernel_rfl) rfl) Tryz.underlying139 rfl ((hb1.cell HL6.out).trans HC6.out) ⟨rfl, Below.refl _ _⟩
  · intro ρ W1 hb1 H
    exact gives_move rfl (H.old 0 _ (by kernel_rfl) rfl) ⟨rfl, Below.refl _ _⟩
  · intro ρ W1 hb1 H
    exact gives_indexW (k := 2) elemK rfl (H.new 7 0 (by kernel_rfl)) (H.new 8 1 (by kernel_rfl)) (by omega) ⟨congrArg (fun q => Value.pointer (some q)) (by simp [Addr.add]), Below.refl _ _⟩
  · intro ρ W1 hb1 H
    exact gives_field rfl (H.new 9 2 (by kernel_rfl)) (fun W => kind_at1 6 W _) ⟨rfl, Below.refl _ _⟩
  · intro ρ W1 hb1 H
    exact gives_load rfl (H.new 10 3 (by kernel_rfl)) Tryz.underlying50 rfl ((hb1.cell HLG.out).trans HF.out) ⟨rfl, Below.refl _ _⟩
  · intro ρ W1 hb1 H
    exact gives_load rfl (H.old 2 _ (by kernel_rfl) rfl) Tryz.underlying47 rfl ((hb1.cell HL2.out).trans HC2.out) ⟨rfl, Below.refl _ _⟩
  · intro ρ W1 hb1 H
    exact gives_load rfl (H.old 3 _ (by kernel_rfl) rfl) Tryz.underlying4 rfl ((hb1.cell HL3.out).trans HC3.out) ⟨rfl, Below.refl _ _⟩
  · intro ρ W1 hb1 H
    have e0 : ρ (.tmp 12) = v := H.new 12 5 (by kernel_rfl)
    have e1 : ρ (.tmp 13) = .bool s := H.new 13 6 (by kernel_rfl)
    refine gives_callV rfl (fun _ _ => by kernel_rfl) (H.new 11 4 (by kernel_rfl)) (args := #[v, .bool s]) (by simp [e0, e1]) ?_
    exact (HPG.out W1 (HV.out.below hb1) (HT.out.below hb1 HT.out.lt)).mono fun e w' ⟨b, h1, h2, h3⟩ => ⟨_, h1, ⟨b, rfl, h2⟩, h3⟩
  · intro ρ W1 hb1 H
    obtain ⟨b, h1, h2⟩ := (show ∃ b, ρ (.tmp 14) = .tuple #[b, .int .i64 px] ∧ IsB pl b W1 from H.new 14 7 (by kernel_rfl))
    exact gives_extract rfl h1 rfl ⟨h2, Below.refl _ _⟩
  · intro ρ W1 hb1 H
    obtain ⟨b, h1, h2⟩ := (show ∃ b, ρ (.tmp 14) = .tuple #[b, .int .i64 px] ∧ IsB pl b W1 from H.new 14 7 (by kernel_rfl))
    exact gives_extract rfl h1 rfl ⟨rfl, Below.refl _ _⟩
  · intro ρ W1 hb1 H
    exact gives_assign rfl rfl ⟨H.new 15 8 (by kernel_rfl), Below.refl _ _⟩
  · intro ρ W1 hb1 H
    exact gives_assign rfl (H.new 16 9 (by kernel_rfl)) ⟨rfl, Below.refl _ _⟩
  · intro vs W1 hb1 hfs
    have f10 : IsB (pl) (vs 10) W1 := hfs 10 (by decide)
    have f11 : vs 11 = .int .i64 px := hfs 11 (by decide)
    clear hfs
    simp only [putAll, Nat.zero_add, Nat.reduceAdd]
    generalize vs 0 = z0
    generalize vs 1 = z1
    generalize vs 2 = z2
    generalize vs 3 = z3
    generalize vs 4 = z4
    generalize vs 5 = z5
    generalize vs 6 = z6
    generalize vs 7 = z7
    generalize vs 8 = z8
    generalize vs 9 = z9
    generalize vs 10 = z10 at f10 ⊢
    simp only [f11, Act.put, List.setIfInBounds_toArray, List.set_cons_succ, List.set_cons_zero]
    clear f11
    have HB := Lib.hid f10
    have HW := Lib.hid hb1
    clear f10 hb1
    go_wp2
    go_ret2
    rw [HE.out]
    exact ⟨_, rfl, HB.out, HW.out⟩
set_option maxHeartbeats 4000000 in
set_option maxRecDepth 100000 in
theorem urun1_3 (p6 p2 p3 g : Nat) (l : List Int) (v : Value) (s : Bool) (w : World) (ht : WTab w) (hv : IsV iv l v w) (hl : ∀ x ∈ l, inInt x) (hb : l.length ≤ 1000000)
    (h6 : Row w p6 139 [.slice (some ⟨g, 0, none⟩) 4 4]) (h2 : Row w p2 47 [v]) (h3 : Row w p3 4 [.bool s]) (hg : Row w g 143 ukcells) :
    Calls Tryz.prog 107 #[.int .i64 3, .pointer (some ⟨p6, 0, none⟩), .pointer (some ⟨p2, 0, none⟩), .pointer (some ⟨p3, 0, none⟩)] w (RetE w (upat l s)) := by
  have HT := Lib.hid ht
  have HV := Lib.hid hv
  have HPP := Lib.hid (fun W (h : IsV iv l v W) (ht : WTab W) => uputpat_any l v s W ht h hl hb)
  have HC6 := Lib.hid (show w.cell? ⟨p6, 0, none⟩ = some (.slice (some ⟨g, 0, none⟩) 4 4) from h6.cell 0)
  have HC2 := Lib.hid (show w.cell? ⟨p2, 0, none⟩ = some v from h2.cell 0)
  have HC3 := Lib.hid (show w.cell? ⟨p3, 0, none⟩ = some (.bool s) from h3.cell 0)
  have HF := Lib.hid (show w.cell? ⟨g, 10, none⟩ = some (.func (.func 128) #[] #[]) from hg.cell 10)
  have HL6 := Lib.hid h6.lt
  have HL2 := Lib.hid h2.lt
  have HL3 := Lib.hid h3.lt
  have HLG := Lib.hid hg.lt
  obtain ⟨pl, px, hE⟩ : ∃ pl px, upat l s = (pl, px) := ⟨_, _, rfl⟩
  rw [hE] at HPP
  have HE := Lib.hid hE
  clear ht hv hl hb h6 h2 h3 hg hE
  go_enter Tryz.func107, Tryz.ntmps107
  go_wp2_with fail
  refine wp_region_list [.is (.slice (some ⟨g, 0, none⟩) 4 4), .is (.int .i64 3), .is (.pointer (some ⟨g, 9, none⟩)), .is (.pointer (some ⟨g, 10, none⟩)), .is (.func (.func 128) #[] #[]), .is (v), .is (.bool s), .putE (pl) (px), .bytes (pl), .is (.int .i64 px), .bytes (pl), .is (.int .i64 px)] [some 7, some 8, some 9, some 10, some 11, some 12, some 13, some 14, some 15, some 16, some 5, some 6] (by kernel_rfl) (by kernel_rfl) (by kernel_rfl) rfl ⟨?_, ?_, ?_, ?_, ?_, ?_, ?_, ?_, ?_, ?_, ?_, ?_, trivial⟩ ?_
  · intro ρ W1 hb1 H
    exact gives_load rfl (H.old 1 _ (by kernel_rfl) rfl) Tryz.underlying139 rfl ((hb1.cell HL6.out).trans HC6.out) ⟨rfl, Below.refl _ _⟩
  · intro ρ W1 hb1 H
    exact gives_move rfl (H.old 0 _ (by kernel_rfl) rfl) ⟨rfl, Below.refl _ _⟩
  · intro ρ W1 hb1 H
    exact gives_indexW (k := 3) elemK rfl (H.new 7 0 (by kernel_rfl)) (H.new 8 1 (by kernel_rfl)) (by omega) ⟨congrArg (fun q => Value.pointer (some q)) (by simp [Addr.add]), Below.refl _ _⟩
  · intro ρ W1 hb1 H
    exact gives_field rfl (H.new 9 2 (by kernel_rfl)) (fun W => kind_at1 9 W _) ⟨rfl, Below.refl _ _⟩
  · intro ρ W1 hb1 H
    exact gives_load rfl (H.new 10 3 (by kernel_rfl)) Tryz.underlying50 rfl ((hb1.cell HLG.out).trans HF.out) ⟨rfl, Below.refl _ _⟩
  · intro ρ W1 hb1 H
    exact gives_load rfl (H.old 2 _ (by kernel_rfl) rfl) Tryz.underlying47 rfl ((hb1.cell HL2.out).trans HC2.out) ⟨rfl, Below.refl _ _⟩
  · intro ρ W1 hb1 H
    exact gives_load rfl (H.old 3 _ (by kernel_rfl) rfl) Tryz.underlying4 rfl ((hb1.cell HL3.out).trans HC3.out) ⟨rfl, Below.refl _ _⟩
  · intro ρ W1 hb1 H
    have e0 : ρ (.tmp 12) = v := H.new 12 5 (by kernel_rfl)
    have e1 : ρ (.tmp 13) = .bool s := H.new 13 6 (by kernel_rfl)
    refine gives_callV rfl (fun _ _ => by kernel_rfl) (H.new 11 4 (by kernel_rfl)) (args := #[v, .bool s]) (by simp [e0, e1]) ?_
    exact (HPP.out W1 (HV.out.below hb1) (HT.out.below hb1 HT.out.lt)).mono fun e w' ⟨b, h1, h2, h3⟩ => ⟨_, h1, ⟨b, rfl, h2⟩, h3⟩
  · intro ρ W1 hb1 H
    obtain ⟨b, h1, h2⟩ := (show ∃ b, ρ (.tmp 14) = .tuple #[b, .int .i64 px] ∧ IsB pl b W1 from H.new 14 7 (by kernel_rfl))
    exact gives_extract rfl h1 rfl ⟨h2, Below.refl _ _⟩
  · intro ρ W1 hb1 H
    obtain ⟨b, h1, h2⟩ := (show ∃ b, ρ (.tmp 14) = .tuple #[b, .int .i64 px] ∧ IsB pl b W1 from H.new 14 7 (by kernel_rfl))
    exact gives_extract rfl h1 rfl ⟨rfl, Below.refl _ _⟩
  · intro ρ W1 hb1 H
    exact gives_assign rfl rfl ⟨H.new 15 8 (by kernel_rfl), Below.refl _ _⟩
  · intro ρ W1 hb1 H
    exact gives_assign rfl (H.new 16 9 (by kernel_rfl)) ⟨rfl, Below.refl _ _⟩
  · intro vs W1 hb1 hfs
    have f10 : IsB (pl) (vs 10) W1 := hfs 10 (by decide)
    have f11 : vs 11 = .int .i64 px := hfs 11 (by decide)
    clear hfs
    simp only [putAll, Nat.zero_add, Nat.reduceAdd]
    generalize vs 0 = z0
    generalize vs 1 = z1
    generalize vs 2 = z2
    generalize vs 3 = z3
    generalize vs 4 = z4
    generalize vs 5 = z5
    generalize vs 6 = z6
    generalize vs 7 = z7
    generalize vs 8 = z8
    generalize vs 9 = z9
    generalize vs 10 = z10 at f10 ⊢
    simp only [f11, Act.put, List.setIfInBounds_toArray, List.set_cons_succ, List.set_cons_zero]
    clear f11
    have HB := Lib.hid f10
    have HW := Lib.hid hb1
    clear f10 hb1
    go_wp2
    go_ret2
    rw [HE.out]
    exact ⟨_, rfl, HB.out, HW.out⟩
set_option maxHeartbeats 1000000 in
set_option maxRecDepth 100000 in
theorem urun_any (l : List Int) (v : Value) (s : Bool) (w : World) (ht : WTab w) (hv : IsV iv l v w) (hl : ∀ x ∈ l, inInt x) (hb : l.length ≤ 1000000) : Calls Tryz.prog 71 #[v, .bool s] w (RetE w (urunE l s)) := by
  obtain ⟨A, n, c, rfl⟩ := hv.shape
  obtain ⟨v, hv0⟩ : ∃ v, v = Value.slice A n c := ⟨_, rfl⟩
  rw [← hv0] at hv
  obtain ⟨w1, hw1⟩ : ∃ w1, w1 = (w.alloc (.cells #[v] 47)).alloc (.cells #[.bool s] 4) := ⟨_, rfl⟩
  have hb1 : Below w.heap.size w w1 := by rw [hw1]; exact ((Below.refl _ _).alloc (Nat.le_refl _) _).alloc (by simp) _
  have r2 : Row w1 w.heap.size 47 [v] := by
    have h0 : Row (w.alloc (.cells #[v] 47)) w.heap.size 47 [v] := heap_alloc_new w _
    rw [hw1]; exact h0.alloc _
  have r3 : Row w1 (w.heap.size + 1) 4 [.bool s] := by
    rw [hw1]
    have h0 := heap_alloc_new (w.alloc (.cells #[v] 47)) (.cells #[.bool s] 4)
    rw [show (w.alloc (.cells #[v] 47)).heap.size = w.heap.size + 1 by simp] at h0
    exact h0
  have hz1 : w1.heap.size = w.heap.size + 2 := by rw [hw1]; simp
  obtain ⟨w2, hw2⟩ : ∃ w2, w2 = w1.alloc (.cells ukcells.toArray 143) := ⟨_, rfl⟩
  have rg : Row w2 w1.heap.size 143 ukcells := by rw [hw2]; exact heap_alloc_new w1 _
  have hz2 : w2.heap.size = w.heap.size + 3 := by rw [hw2]; simp [hz1]
  have HKI := Lib.hid (show Calls Tryz.prog 105 #[] w1 fun e w' => e = .returned (.slice (some ⟨w1.heap.size, 0, none⟩) 4 4) ∧ w' = w2 from (kinds_any w1).mono fun e w' ⟨h1, h2⟩ => ⟨h1, by rw [h2, hw2]⟩)
  obtain ⟨w3, hw3⟩ : ∃ w3, w3 = w2.alloc (.cells #[.slice (some ⟨w1.heap.size, 0, none⟩) 4 4] 139) := ⟨_, rfl⟩
  have r6 : Row w3 w2.heap.size 139 [.slice (some ⟨w1.heap.size, 0, none⟩) 4 4] := by rw [hw3]; exact heap_alloc_new w2 _
  have hb2 : Below w1.heap.size w1 w2 := by rw [hw2]; exact (Below.refl _ _).alloc (Nat.le_refl _) _
  have hb3 : Below w2.heap.size w2 w3 := by rw [hw3]; exact (Below.refl _ _).alloc (Nat.le_refl _) _
  have hb13 := below_then hb2 hb3
  have hbA := below_then hb1 hb13
  have q2 := r2.below hb13 r2.lt
  have q3 := r3.below hb13 r3.lt
  have qg := rg.below hb3 rg.lt
  have HS := Lib.hid (ushortest_run 4 (fun k => (ukinds l s).getD k ([], 1)) w2.heap.size w.heap.size (w.heap.size + 1) w3 (by omega)
    (fun k W hk hW => by
      have t1 := ht.below (below_then hbA hW) ht.lt
      have t2 := hv.below (below_then hbA hW)
      have t6 := r6.below hW r6.lt
      have t3 := q2.below hW q2.lt
      have t4 := q3.below hW q3.lt
      have t5 := qg.below hW qg.lt
      rcases (by omega : k = 0 ∨ k = 1 ∨ k = 2 ∨ k = 3) with rfl | rfl | rfl | rfl
      · exact urun1_0 _ _ _ _ l v s W t1 t2 hl hb t6 t3 t4 t5
      · exact urun1_1 _ _ _ _ l v s W t1 t2 hl hb t6 t3 t4 t5
      · exact urun1_2 _ _ _ _ l v s W t1 t2 hl hb t6 t3 t4 t5
      · exact urun1_3 _ _ _ _ l v s W t1 t2 hl hb t6 t3 t4 t5)
    (fun k hk h0 => by
      have hmem : (ukinds l s).getD k ([], 1) ∈ ukinds l s := by
        unfold ukinds
        rcases (by omega : k = 0 ∨ k = 1 ∨ k = 2 ∨ k = 3) with rfl | rfl | rfl | rfl <;> simp
      exact Nat.pos_of_ne_zero (ukinds_len _ hmem h0)))
  have HE := Lib.hid (show uans (((List.range 4).map fun k => (ukinds l s).getD k ([], 1)).foldl ubest none) = urunE l s by rw [urun_kinds]; rfl)
  rw [HE.out, show ((4 : Nat) : Int) = 4 from rfl, hz2] at HS
  have HB := Lib.hid hbA
  rw [hw3, hz1] at HS HB
  rw [hz1, hw1, hv0] at HKI
  clear ht hv hl hb r2 r3 rg r6 hb1 hb2 hb3 hb13 hbA q2 q3 qg hw2 hw3
  go_enter Tryz.func71, Tryz.ntmps71
  go_wp2_with (first | (go_at_call 105; refine HKI.out.mono ?_; rintro e w' ⟨rfl, rfl⟩) | (go_at_call 106; refine HS.out.mono ?_; rintro e w4 ⟨v4, rfl, hv4, hb4⟩; have HV4 := Lib.hid hv4; have HB4 := Lib.hid (below_then HB.out hb4); clear hv4 hb4))
  go_ret2
  exact ⟨_, rfl, HV4.out, HB4.out⟩
end Go.Proofs.YtblpkmmhmdpkjaaGreatDoor

/- rle's own contracts: takeRepeat, takeRun (slices.IndexFunc with its closure). Written by gen_utk.py. -/











namespace Go.Proofs.YtblpkmmhmdpkjaaGreatDoor

open Go.RowKit

end Go.Proofs.YtblpkmmhmdpkjaaGreatDoor

/- rle's own contracts: Put, Take. Written by gen_uis.py. -/







namespace Go.Proofs.YtblpkmmhmdpkjaaGreatDoor

open Go.RowKit

/-- An append to a row of the call's own, as one step of a region that draws. -/
theorem step_join {P : Program} {ops : Array Oper} {o : Oper} {a : Act} {w : World} {K : Act → World → Prop} {Q : Exit → Act → World → Prop} {F : Prop} {t e : TypeId} {bytes : Nat} {z : Value} (E : Elem P t e bytes z)
    (hgd : o.guard = none) (s x : Operand) (ho : o.op = .call { callee := .builtin .append, args := #[s, x], argTypes := #[t, t] })
    (base : Nat) (v : Value) (n : Nat) (xs : List Value) (ad : Addr) (m c : Nat) (news : List Value) (w0 : World) (hs : a.eval s = v) (hx : a.eval x = .slice (some ad) m c)
    (hm : news.length = m) (hr : Lies w (some ad) news) (h1 : ∀ u ∈ news, u.oneCell' = true)
    (hown : w.ownsRow base e 1 v n xs) (hb : Below base w0 w) (hbase : base ≤ w.heap.size) (hn : n + m ≤ 1000000000) (hby : bytes ≤ 100)
    (h : ∀ v' w', w'.ownsRow base e 1 v' (n + m) (xs ++ news) → Below base w0 w' → w.grownBy w' v.ownBlock → K (a.put o.dst v') w') :
    if Region.wanted o (yielded ops a.tmps) = true then Oper.wp P o a w K Q else F := by
  obtain ⟨i, h2, h3, h4, h5⟩ := E.info
  have h6 : z.cells.size = 1 := by rw [E.one]; rfl
  have hle : (n + m) * bytes ≤ (n + m) * 100 := Nat.mul_le_mul_left _ hby
  have hw : Region.wanted o (yielded ops a.tmps) = true := by simp [Region.wanted, hgd]
  have hcell : ∀ j u, news[j]? = some u → w.cell? (ad.add j) = some u := by
    rcases hr with hr | ⟨ad', hA, _, hc⟩
    · subst hr; intro j u hj; simp at hj
    · injection hA with hA; subst hA; exact hc
  obtain ⟨v', w', hrun, r1, r2, _, _⟩ := run_append_own_at (P := P) w base t o.type e i z 1 bytes E.under h2 h3 h4 h5 h6 (by omega) v n xs hown ad m c news (by omega) hcell h1 (by unfold maxLen; omega) (by omega) hbase
  rw [if_pos hw]
  unfold Oper.wp
  simp [execOp, ho, resolve, invoke, builtin, hs, hx, hrun, Result.andThen]
  exact h v' w' r1 (below_append hb hown hbase r2) r2
set_option maxHeartbeats 4000000 in
set_option maxRecDepth 100000 in
theorem uput_own (l : List Int) (v : Value) (s : Bool) (w : World) (ht : WTab w) (hv : IsV iv l v w) (hl : ∀ x ∈ l, inInt x) :
    Calls Tryz.prog 48 #[v, .bool s] w (RetEO w (uputE l s)) := by
  have HT := Lib.hid ht
  have HV := Lib.hid hv
  have HI := Lib.hid hl
  obtain ⟨A, n, c, rfl⟩ := hv.shape
  have HN := Lib.hid hv.parts.1
  clear hv hl ht
  by_cases hbig : 4096 < n
  · have d1 : (4096 : Int) < (n : Int) := by omega
    have hE : Hid (uputE l s = ([], 3)) := Lib.hid (by unfold uputE; rw [if_pos (by rw [HN.out]; exact hbig)])
    go_enter Tryz.func48, Tryz.ntmps48
    go_wp2
    go_ret2
    rw [hE.out]
    exact RetEO.nil _ (Below.refl _ _)
  · have d1 : ¬ (4096 : Int) < (n : Int) := by omega
    have hE : Hid (uputE l s = ucomb [] (uputN s l.length l)) := Lib.hid (by
      unfold uputE ucomb
      rw [if_neg (by rw [HN.out]; exact hbig)]
      by_cases h : (uputN s l.length l).2 ≠ 0
      · rw [if_pos h]
        have h2 : ∀ (k : Nat) (l : List Int), (uputN s k l).2 ≠ 0 → (uputN s k l).1 = [] := by
          intro k
          induction k with
          | zero => intro l h; exact absurd rfl h
          | succ k ih =>
            intro l h
            rw [uputN] at h ⊢
            split
            · rfl
            · split
              · rfl
              · split
                · rfl
                · rename_i h3 h4 h5
                  rw [if_neg h3, if_neg h4, if_neg h5] at h
                  exact absurd rfl h
        exact Prod.ext (h2 _ _ h) rfl
      · rw [if_neg h]
        exact Prod.ext rfl (Decidable.not_not.1 h))
    have hst : UPutRel (uputE l s) s w (.slice A n c) (.slice none 0 0) w := ⟨l.length, l, [], Nat.le_refl _, by have := HN.out; omega, by have := HN.out; simp; omega, HI.out, HV.out, hE.out.symm, World.ownsRow_nil _ _ _ _, Below.refl _ _⟩
    have HST := Lib.hid hst
    clear hst
    go_enter Tryz.func48, Tryz.ntmps48
    go_wp2
    go_loopw [0, 6] (UPutRel (uputE l s) s w) (fun x _ _ => lenOf x)
    case atStart => exact HST.out
    case round =>
      obtain ⟨k, rest, out, hk, h4, hol, hin, hrv, hres, hown, hbw⟩ := hrel
      have HSTT := HST
      clear HST
      have HIN := Lib.hid hin
      have HRV := Lib.hid hrv
      have HRES := Lib.hid hres
      have HOWN := Lib.hid hown
      have HBW := Lib.hid hbw
      obtain ⟨A2, n2, c2, rfl⟩ := hrv.shape
      have HN2 := Lib.hid hrv.parts.1
      have hnc2 : n2 ≤ c2 := hrv.parts.2.2.1
      have hci2 : (c2 : Int) ≤ 9223372036854775807 := by have := hrv.parts.2.2.2.1; unfold maxLen at this; omega
      have hn2k : n2 ≤ k := by have := HN2.out; omega
      have hn24 : n2 ≤ 4096 := by have := HN2.out; omega
      have hol2 : out.length + 10 * n2 ≤ 50000 := by have := HN2.out; omega
      obtain ⟨ol, hol3⟩ : ∃ ol, ol = out.length := ⟨_, rfl⟩
      have HOL := Lib.hid hol3
      clear hin hrv hres hown hbw hk h4 hol
      by_cases h0 : n2 = 0
      · subst h0
        have hR : Hid (uputE l s = (out, 0)) := Lib.hid (by rw [← HRES.out]; exact ucomb_done out s HN2.out)
        clear hol3
        go_wp2
        go_ret2
        rw [hR.out]
        exact ⟨_, rfl, HOWN.out, HBW.out⟩
      · have d2 : decide (0 < n2) = true := decide_eq_true (by omega)
        have hn0i : (0 : Int) < (n2 : Int) := by omega
        obtain ⟨m, hm⟩ : ∃ m, m = ucut rest := ⟨_, rfl⟩
        obtain ⟨m1, m2, m3⟩ := ucut_bd (l := rest) (by have := HN2.out; omega)
        rw [← hm] at m1 m2 m3
        have hmn : m ≤ n2 := by have := HN2.out; omega
        have hmc : (m : Int) ≤ (c2 : Int) := by omega
        obtain ⟨k', rfl⟩ : ∃ k', k = k' + 1 := ⟨k - 1, by omega⟩
        have HCU := Lib.hid (ucut_any rest _ wr (HRV.out.below HBW.out) (by have := HN2.out; omega))
        rw [← hm] at HCU
        have HM := Lib.hid hm
        have htl : (rest.take m).length = m := by rw [List.length_take]; have := HN2.out; omega
        have HTL := Lib.hid htl
        have HTI : Hid (∀ x ∈ rest.take m, inInt x) := Lib.hid (fun x hx => HIN.out x (List.mem_of_mem_take hx))
        obtain ⟨rb, re, hr⟩ : ∃ rb re, urunE (rest.take m) s = (rb, re) := ⟨_, _, rfl⟩
        have HR := Lib.hid hr
        obtain ⟨v4, hv4, hI4⟩ := fromV_named (P := Tryz.prog) elemI (k := m) hmn HRV.out
        have HI4 := Lib.hid hI4
        clear hm htl hr hI4 m2
        go_wp2_with fail
        refine HCU.out.mono ?_
        rintro e w2 ⟨rfl, hb2⟩
        have HV2 := Lib.hid ((HRV.out.take hmn).below (HBW.out.trans (hb2.mono HBW.out.size)))
        have HO2 := Lib.hid (own_below HOWN.out hb2)
        have HB2 := Lib.hid (below_then HBW.out hb2)
        clear hb2
        have HRN := Lib.hid (urun_any (rest.take m) _ s w2 (HT.out.below HB2.out HT.out.lt) HV2.out HTI.out (by have := HTL.out; omega))
        rw [HR.out] at HRN
        go_wp2_with fail
        refine HRN.out.mono ?_
        rintro e w3 ⟨b3, rfl, hb3v, hb3⟩
        have HO3 := Lib.hid (own_below HO2.out hb3)
        have HB3 := Lib.hid (below_then HB2.out hb3)
        have HBV := Lib.hid hb3v
        clear hb3
        by_cases he : re = 0
        · subst he
          have hlen := urun_len (s := s) HTI.out (by rw [HTL.out]; exact m3)
          have hstep := ucomb_step (k := k') out s (l := rest) (by have := HN2.out; omega) (by rw [← HM.out, HR.out])
          rw [HRES.out, ← HM.out, HR.out] at hstep
          rw [HR.out] at hlen
          have hlen2 := (urun_back (r := []) (s := s) HTI.out (by
            intro h
            have h2 := HR.out
            rw [urunE_no (.inl h)] at h2
            injection h2 with _ h2
            cases h2) (by rw [HTL.out]; exact m1) (by rw [HTL.out]; exact m3)).2.2.2
          have HRB2 : Hid (2 ≤ rb.length) := Lib.hid (by have h := (urun_back (r := []) (s := s) HTI.out (by
            intro h
            have h2 := HR.out
            rw [urunE_no (.inl h)] at h2
            injection h2 with _ h2
            cases h2) (by rw [HTL.out]; exact m1) (by rw [HTL.out]; exact m3)).2.2.1; rw [HR.out] at h; exact h)
          rw [HR.out, HTL.out] at hlen2
          dsimp only at hlen hstep hlen2
          obtain ⟨A5, n5, c5, rfl⟩ := IsV.shape (f := bv) hb3v
          obtain ⟨hn5, hA5, -, -, hl5⟩ := IsV.parts (f := bv) (show IsV bv rb _ _ from hb3v)
          have HM5 := Lib.hid (show (rb.map bv).length = n5 by rw [List.length_map]; exact hn5)
          have hn5b : n5 ≤ 5000 := by omega
          have hn510 : n5 ≤ 10 * m := by omega
          have hown3 := HO3.out
          rw [← hol3] at hown3
          have hbw3 := HB3.out
          have hz3 := hbw3.size
          have HSTEP := Lib.hid hstep
          have HN5 := Lib.hid hn5
          have hol4 : ol + 10 * n2 ≤ 50000 := by omega
          clear hb3v hlen hstep hlen2 hn5 hol3 hol2
          have hA5s : ∃ ad5, A5 = some ad5 := by
            cases A5 with
            | none => exfalso; have h5 := hA5 rfl; have := HN5.out; have := HRB2.out; omega
            | some ad5 => exact ⟨ad5, rfl⟩
          obtain ⟨ad5, rfl⟩ := hA5s
          have hbd := (Below.refl w3.heap.size w3).drew
          have hownD := own_below hown3 hbd
          have hbwD := below_then hbw3 hbd
          have hlD := hl5.below hbd
          have hzD := hbwD.size
          have hv4' := hv4
          clear hown3 hbw3 hz3 hl5 hA5 hbd
          go_wp2
          go_region_law (refine step_join elemB rfl _ _ rfl w.heap.size _ _ _ _ _ _ (rb.map bv) w rfl rfl HM5.out hlD (bv_one _) hownD hbwD hzD (by omega) (by omega) ?_; intro v6 w6 hown6 hb6 _)
          have HREL : Hid (UPutRel (uputE l s) s w v4 v6 w6) := Lib.hid ⟨k', rest.drop m, out ++ rb, by rw [List.length_drop]; have := HN2.out; omega, by rw [List.length_drop]; have := HN2.out; omega,
            by rw [List.length_drop, List.length_append, HN5.out, ← HOL.out]; have := HN2.out; omega, fun x hx => HIN.out x (List.mem_of_mem_drop hx), HI4.out, HSTEP.out.symm,
            by rw [List.length_append, ← HOL.out, HN5.out, List.map_append]; exact hown6, hb6⟩
          clear hown6 hb6 hownD hbwD hzD hlD
          simp only [List.getElem_toArray, List.getElem_cons_succ, List.getElem_cons_zero, Act.put, List.setIfInBounds_toArray, List.set_cons_succ, List.set_cons_zero]
          go_wp2
          go_roundw
          case rel => exact HREL.out
          case measure =>
            obtain ⟨A7, c7, e7, _⟩ := HI4.out
            rw [e7]
            have := HN2.out
            simp [lenOf]
            omega
        · have hbad := ucomb_bad (k := k') out s (l := rest) (by have := HN2.out; omega) (by rw [← HM.out, HR.out]; exact he)
          rw [HRES.out, ← HM.out, HR.out] at hbad
          have HBD := Lib.hid hbad
          have d3 : (re != 0) = true := by simpa using he
          clear hb3v hbad
          obtain ⟨A5, n5, c5, rfl⟩ := IsV.shape (f := bv) HBV.out
          go_wp2
          go_ret2
          rw [HBD.out]
          exact RetEO.nil _ HB3.out
theorem uput_any (l : List Int) (v : Value) (s : Bool) (w : World) (ht : WTab w) (hv : IsV iv l v w) (hl : ∀ x ∈ l, inInt x) (_hb : l.length ≤ 1000000) :
    Calls Tryz.prog 48 #[v, .bool s] w (RetE w (uputE l s)) := (uput_own l v s w ht hv hl).mono fun _ _ h => h.e
end Go.Proofs.YtblpkmmhmdpkjaaGreatDoor

/- Values of columns (layer 12), as plain mathematics. -/







namespace Go.Proofs.YtblpkmmhmdpkjaaGreatDoor

/-- A value: nothing, a number, a text. -/
structure CV where
  null : Bool
  n : Int
  s : ByteArray
def CV.inInt (v : CV) : Prop := -9223372036854775808 ≤ v.n ∧ v.n ≤ 9223372036854775807
/-- One text stands ahead of another. -/
def sless (a b : ByteArray) : Bool := Op.bytesLess a.toList b.toList
theorem sless_iff (a b : ByteArray) : sless a b = true ↔ a.data.toList < b.data.toList := by
  unfold sless
  rw [bytesLess_eq, ByteArray.toList_eq, ByteArray.toList_eq, decide_eq_true_iff]
theorem sless_not (a : ByteArray) : sless a a = false := by
  rw [← Bool.not_eq_true, sless_iff]
  exact List.lt_irrefl _
theorem sless_trans {a b c : ByteArray} (h1 : sless a b = true) (h2 : sless b c = true) : sless a c = true := by
  rw [sless_iff] at *
  exact List.lt_trans h1 h2
theorem bytes_ext {a b : ByteArray} (h : a.data.toList = b.data.toList) : a = b := by
  cases a; cases b
  congr 1
  exact Array.toList_inj.1 h
theorem sless_total {a b : ByteArray} (h : a ≠ b) : sless a b = true ∨ sless b a = true := by
  rw [sless_iff, sless_iff]
  by_cases h1 : a.data.toList < b.data.toList
  · exact .inl h1
  · refine .inr ?_
    have h2 : b.data.toList ≤ a.data.toList := List.not_lt.1 h1
    rcases List.le_iff_lt_or_eq.1 h2 with h3 | h3
    · exact h3
    · exact absurd (bytes_ext h3).symm h
theorem sless_asymm {a b : ByteArray} (h : sless a b = true) : sless b a = false := by
  rw [← Bool.not_eq_true]
  intro h2
  have := sless_trans h h2
  rw [sless_not] at this
  cases this
end Go.Proofs.YtblpkmmhmdpkjaaGreatDoor

/- Slices of values of several cells each, and what fields hold, that come in. Over any program. -/









namespace Go.Proofs.YtblpkmmhmdpkjaaGreatDoor

open Go.RowKit Go.ChangeShapes Go.WideShapes Go.Deep

/-- A slice, in a field, of values of several cells each; what each holds may lie elsewhere. -/
theorem open_wide0 {H : Type} {enc : TypeId × Value → H} {P : Program} {α : Type} [Inhabited α] {f : α → List Value} {m : Nat} {p : α → Prop} {t e : TypeId} {W : World} {v : Value} {y : DataW H × List MemPlace} {fuel : Nat}
    (ht : P.underlying t = some (.slice e)) (hc : P.cellsOf e = m) (hm : 0 < m) (hf : ∀ x, (f x).length = m)
    (each : ∀ cs n x, cs.length = m → DataW.trod enc P W 0 (fun _ => true) true n e cs = some x → (∀ q ∈ x.2, q.block < W.heap.size) → ∃ a : α, cs = f a ∧ p a)
    (hf0 : DataW.trod enc P W 0 (fun _ => true) true fuel t [v] = some y) (hlt : ∀ x ∈ y.2, x.block < W.heap.size) :
    ∃ l : List α, IsR f l v W ∧ ∀ x ∈ l, p x := by
  obtain ⟨d, ps⟩ := y
  rcases open_slice ht hf0 with ⟨hcs, hx⟩ | ⟨a, len, cap, k, n, D, Pl, hcs, _, hl, hmx, hk, hx, hcell⟩
  · simp at hcs
    subst hcs
    exact ⟨[], ⟨none, 0, rfl, by simp, by simp, by unfold maxLen; omega, Lies.nil⟩, by simp⟩
  · simp at hcs
    subst hcs
    simp only [Prod.mk.injEq] at hx
    obtain ⟨rfl, rfl⟩ := hx
    simp only [if_true] at hk
    obtain ⟨F, hF⟩ := choose_lt (n := len) (p := fun i (a' : α) => p a' ∧ ∀ j u, (f a')[j]? = some u → W.cell? (a.add (i * m + j)) = some u) fun i hi => by
      obtain ⟨cs', h1, h2⟩ := hcell i (by omega)
      rw [hc] at h1
      obtain ⟨_, hlen, hce⟩ := World.cells?_some h1
      obtain ⟨a', rfl, ha⟩ := each cs' n _ hlen h2 fun q hq => hlt q (List.mem_append_right _ (List.mem_flatMap.2 ⟨i, List.mem_range.2 (by omega), hq⟩))
      refine ⟨a', ha, fun j u hu => ?_⟩
      have hj : j < m := by rw [← hf a']; exact (List.getElem?_eq_some_iff.1 hu).1
      have h3 := hce j hj
      rw [add_add, hu] at h3
      exact h3
    have hll : ((List.range len).map F).length = len := by simp
    refine ⟨(List.range len).map F, ⟨some a, cap, by rw [hll], by simp, by rw [hll]; exact hl, hmx, ?_⟩, fun x hx => ?_⟩
    · by_cases h0 : len = 0
      · subst h0; exact .inl (by simp)
      · refine .inr ⟨a, rfl, ?_, fun j u hu => ?_⟩
        · have h1 := (hF 0 (by omega)).2 0 _ (List.getElem?_eq_getElem (by rw [hf]; exact hm))
          have hs : a.spot = none := by
            have h2 : a.add (0 * m + 0) = a := by simp [Addr.add]
            rw [h2] at h1
            exact World.cell?_spot h1
          obtain ⟨b, off, spot⟩ := a
          exact hlt (.cell b off) (List.mem_append_left _ (MemPlace.mem_row.2 ⟨0, by rw [hc]; exact Nat.mul_pos (by omega) hm, by simp⟩))
        · have hjl : j < len * m := by
            have h1 := (List.getElem?_eq_some_iff.1 hu).1
            rwa [flat_len hf, hll] at h1
          have hk2 : j / m < len := Nat.div_lt_of_lt_mul (by rwa [Nat.mul_comm])
          have e1 : j / m * m + j % m = j := by rw [Nat.mul_comm]; exact Nat.div_add_mod j m
          have h1 := flat_at hf ((List.range len).map F) (j / m) (by rw [hll]; exact hk2) (j % m) (Nat.mod_lt _ hm)
          rw [e1, List.getElem_map, List.getElem_range] at h1
          have h2 := (hF (j / m) hk2).2 (j % m) u (by rw [← h1]; exact hu)
          rwa [e1] at h2
    · obtain ⟨i, hi, rfl⟩ := List.mem_map.1 hx
      exact (hF i (by simpa using hi)).1
/-- A slice of values of several cells each that came in: f tells a value's cells, p what is known of each. -/
theorem open_wide {H : Type} {enc : TypeId × Value → H} {P : Program} {α : Type} [Inhabited α] {f : α → List Value} {m : Nat} {p : α → Prop} {t e : TypeId} {W : World} {v : Value} {d : DataW H} {ps : List MemPlace} {base : Nat}
    (ht : P.underlying t = some (.slice e)) (hc : P.cellsOf e = m) (hm : 0 < m) (hf : ∀ x, (f x).length = m)
    (each : ∀ cs n x, cs.length = m → DataW.trod enc P W 0 (fun _ => true) true n e cs = some x → ∃ a : α, cs = f a ∧ p a)
    (hval : Value.okWide P W .any base t v) (hd : DataW.Trod enc P W 0 (fun _ => true) true t v d ps) (hlt : ∀ x ∈ ps, x.block < W.heap.size) :
    ∃ l : List α, IsR f l v W ∧ ∀ x ∈ l, p x := by
  obtain ⟨a0, len, cap, rfl⟩ := okWide_slice ht hval
  obtain ⟨fuel, hf0⟩ := hd
  exact open_wide0 ht hc hm hf (fun cs n x h1 h2 _ => each cs n x h1 h2) (y := (d, ps)) (by simpa [Value.cells] using hf0) hlt
end Go.Proofs.YtblpkmmhmdpkjaaGreatDoor

/- Runs (layer 11): a run that may be taken with a sign and without gives as many numbers, and leaves the same behind. -/



namespace Go.Proofs.YtblpkmmhmdpkjaaGreatDoor

end Go.Proofs.YtblpkmmhmdpkjaaGreatDoor

/- Numbers that are taken without a sign are not below 0; and there are as many as were asked for. -/



namespace Go.Proofs.YtblpkmmhmdpkjaaGreatDoor

end Go.Proofs.YtblpkmmhmdpkjaaGreatDoor

/- Columns of texts (layer 15), as plain mathematics. -/





namespace Go.Proofs.YtblpkmmhmdpkjaaGreatDoor

/-- Put in where it belongs. -/
def jins (s : ByteArray) : List ByteArray → List ByteArray
  | [] => [s]
  | x :: l => if sless s x = true then s :: x :: l else x :: jins s l
def jin (ws : List ByteArray) (s : ByteArray) : Bool := ws.any fun x => decide (x = s)
theorem jin_iff {ws : List ByteArray} {s : ByteArray} : jin ws s = true ↔ s ∈ ws := by
  unfold jin
  rw [List.any_eq_true]
  constructor
  · rintro ⟨x, h1, h2⟩
    rw [← of_decide_eq_true h2]
    exact h1
  · exact fun h => ⟨s, h, decide_eq_true rfl⟩
def jadd (ws : List ByteArray) (s : ByteArray) : List ByteArray := if jin ws s = true then ws else jins s ws
/-- The texts, each once, rising. -/
def jwords (l : List ByteArray) : List ByteArray := l.foldl jadd []
def Rises (l : List ByteArray) : Prop := l.Pairwise fun a b => sless a b = true
theorem jins_mem {s x : ByteArray} {l : List ByteArray} : x ∈ jins s l ↔ x = s ∨ x ∈ l := by
  induction l with
  | nil => simp [jins]
  | cons y l ih =>
    rw [jins]
    split
    · simp
    · rw [List.mem_cons, ih, List.mem_cons]
      constructor
      · rintro (h | h | h)
        · exact .inr (.inl h)
        · exact .inl h
        · exact .inr (.inr h)
      · rintro (h | h | h)
        · exact .inr (.inl h)
        · exact .inl h
        · exact .inr (.inr h)
theorem jins_rises {s : ByteArray} {l : List ByteArray} (h : Rises l) (hs : s ∉ l) : Rises (jins s l) := by
  induction l with
  | nil => exact List.pairwise_singleton _ _
  | cons y l ih =>
    obtain ⟨h1, h2⟩ := List.pairwise_cons.1 h
    rw [jins]
    split
    · rename_i h3
      refine List.pairwise_cons.2 ⟨fun z hz => ?_, h⟩
      rcases List.mem_cons.1 hz with rfl | hz
      · exact h3
      · exact sless_trans h3 (h1 z hz)
    · rename_i h3
      refine List.pairwise_cons.2 ⟨fun z hz => ?_, ih h2 fun hm => hs (List.mem_cons_of_mem _ hm)⟩
      rcases jins_mem.1 hz with rfl | hz
      · exact (sless_total fun e => hs (by rw [e]; exact List.mem_cons_self)).resolve_left h3
      · exact h1 z hz
theorem jins_len (s : ByteArray) (l : List ByteArray) : (jins s l).length = l.length + 1 := by
  induction l with
  | nil => rfl
  | cons y l ih =>
    rw [jins]
    split
    · rfl
    · rw [List.length_cons, ih]; rfl
theorem jadd_mem {x s : ByteArray} {ws : List ByteArray} : x ∈ jadd ws s ↔ x = s ∨ x ∈ ws := by
  unfold jadd
  split
  · rename_i h
    exact ⟨.inr, fun h2 => h2.elim (fun e => e ▸ jin_iff.1 h) id⟩
  · exact jins_mem
theorem jadd_rises {s : ByteArray} {ws : List ByteArray} (h : Rises ws) : Rises (jadd ws s) := by
  unfold jadd
  split
  · exact h
  · rename_i h2; exact jins_rises h fun h3 => h2 (jin_iff.2 h3)
theorem jadd_len (s : ByteArray) (ws : List ByteArray) : (jadd ws s).length ≤ ws.length + 1 := by
  unfold jadd
  split
  · omega
  · rw [jins_len]; exact Nat.le_refl _
theorem foldl_words : ∀ (l ws : List ByteArray), (Rises ws → Rises (l.foldl jadd ws)) ∧ (∀ x, x ∈ l.foldl jadd ws ↔ x ∈ ws ∨ x ∈ l) ∧ (l.foldl jadd ws).length ≤ ws.length + l.length
  | [], ws => ⟨id, fun x => by simp, by simp⟩
  | s :: l, ws => by
    obtain ⟨h1, h2, h3⟩ := foldl_words l (jadd ws s)
    refine ⟨fun h => h1 (jadd_rises h), fun x => ?_, ?_⟩
    · rw [List.foldl_cons, h2, jadd_mem, List.mem_cons]
      constructor
      · rintro ((h | h) | h)
        · exact .inr (.inl h)
        · exact .inl h
        · exact .inr (.inr h)
      · rintro (h | h | h)
        · exact .inl (.inr h)
        · exact .inl (.inl h)
        · exact .inr h
    · have := jadd_len s ws
      rw [List.foldl_cons, List.length_cons]
      omega
theorem jwords_rises (l : List ByteArray) : Rises (jwords l) := (foldl_words l []).1 List.Pairwise.nil
theorem jwords_mem {x : ByteArray} {l : List ByteArray} : x ∈ jwords l ↔ x ∈ l := by
  rw [jwords, (foldl_words l []).2.1]
  simp
theorem jwords_len (l : List ByteArray) : (jwords l).length ≤ l.length := by
  have := (foldl_words l []).2.2
  simpa [jwords] using this
/-- Two rising rows of the same texts are one. -/
theorem rises_eq : ∀ {a b : List ByteArray}, Rises a → Rises b → (∀ x, x ∈ a ↔ x ∈ b) → a = b
  | [], [], _, _, _ => rfl
  | [], y :: b, _, _, h => by have := (h y).2 List.mem_cons_self; cases this
  | x :: a, [], _, _, h => by have := (h x).1 List.mem_cons_self; cases this
  | x :: a, y :: b, ha, hb, h => by
    obtain ⟨a1, a2⟩ := List.pairwise_cons.1 ha
    obtain ⟨b1, b2⟩ := List.pairwise_cons.1 hb
    have e : x = y := by
      rcases List.mem_cons.1 ((h x).1 List.mem_cons_self) with e | hx
      · exact e
      · rcases List.mem_cons.1 ((h y).2 List.mem_cons_self) with e | hy
        · exact e.symm
        · have h1 := b1 x hx
          have h2 := a1 y hy
          rw [sless_asymm h1] at h2
          cases h2
    subst e
    rw [rises_eq a2 b2 fun z => ?_]
    constructor
    · intro hz
      rcases List.mem_cons.1 ((h z).1 (List.mem_cons_of_mem _ hz)) with e | hz2
      · subst e
        have := a1 z hz
        rw [sless_not] at this
        cases this
      · exact hz2
    · intro hz
      rcases List.mem_cons.1 ((h z).2 (List.mem_cons_of_mem _ hz)) with e | hz2
      · subst e
        have := b1 z hz
        rw [sless_not] at this
        cases this
      · exact hz2
/-- Where a text is among others. -/
def jplace : List ByteArray → ByteArray → Nat
  | [], _ => 0
  | x :: l, s => if x = s then 0 else jplace l s + 1
theorem jplace_in : ∀ {l : List ByteArray} {s : ByteArray}, s ∈ l → ∃ h : jplace l s < l.length, l[jplace l s] = s
  | x :: l, s, h => by
    by_cases e : x = s
    · have e1 : jplace (x :: l) s = 0 := by rw [jplace, if_pos e]
      rw [show (jplace (x :: l) s) = 0 from e1]
      exact ⟨by simp, by simpa using e⟩
    · have e1 : jplace (x :: l) s = jplace l s + 1 := by rw [jplace, if_neg e]
      obtain ⟨h1, h2⟩ := jplace_in ((List.mem_cons.1 h).resolve_left fun h => e h.symm)
      rw [e1]
      exact ⟨by simpa using h1, by simpa using h2⟩
/-- The bytes of texts one behind the other; how many each has. -/
def jbytes (l : List ByteArray) : List UInt8 := l.flatMap fun s => s.toList
def jlens (l : List ByteArray) : List Int := l.map fun s => (s.size : Int)
/-- A column: how many, an encoding, how many texts; streams: a kind, bytes. -/
structure JC where
  many : Int
  enc : Int
  texts : Int
  streams : List (Int × List UInt8)
def jcBad : JC := ⟨0, 0, 0, []⟩
def jplaces (ws l : List ByteArray) : List Int := l.map fun s => (jplace ws s : Int)
/-- What Put answers. -/
def jputE (l : List ByteArray) : JC × Int :=
  if 4096 < l.length ∨ (l.any fun s => decide (300 < s.size)) = true then (jcBad, 3)
  else if l.length < 2 * (jwords l).length then (⟨(l.length : Int), 1, 0, [(2, jbytes l), (3, (uputE (jlens l) false).1)]⟩, 0)
  else (⟨(l.length : Int), 2, ((jwords l).length : Int), [(2, (uputE (jplaces (jwords l) l) false).1), (3, (uputE (jlens (jwords l)) false).1), (4, jbytes (jwords l))]⟩, 0)
theorem toList_size (s : ByteArray) : s.toList.length = s.size := by rw [ByteArray.toList_eq]; rfl
end Go.Proofs.YtblpkmmhmdpkjaaGreatDoor

/- Contracts of layer 15's reference: Same, place, Words, all. -/









namespace Go.Proofs.YtblpkmmhmdpkjaaGreatDoor

open Go.RowKit

theorem Tryz.infoS : (Tryz.prog.info? 9).map (fun i => (i.zero, i.size, i.bytes)) = some (some (.string ⟨#[]⟩), 1, 16) := by kernel_rfl
theorem elemS : Elem Tryz.prog 22 9 16 (.string ⟨#[]⟩) := by
  obtain ⟨i0, hi, hz0, hz1, hz2⟩ := info_parts Tryz.infoS
  exact ⟨Tryz.underlying22, rfl, i0, hi, hz0, hz1, hz2⟩
theorem text_eq {a b : ByteArray} : (a.toList == b.toList) = decide (a = b) := by
  by_cases h : a = b
  · subst h; simp
  · have h2 : ¬ a.toList = b.toList := by
      rw [ByteArray.toList_eq, ByteArray.toList_eq]
      intro h2
      exact h (bytes_ext h2)
    rw [decide_eq_false h]
    simpa using h2
/-- Texts that a call answers, in a row of its own. -/
def RetTO (w : World) (l : List ByteArray) (e : Ending) (w' : World) : Prop := ∃ v, e = .returned v ∧ OwnV Value.string 9 w l v w' ∧ Below w.heap.size w w'
theorem jbytes_len : ∀ {l : List ByteArray}, (∀ s ∈ l, s.size ≤ 300) → (jbytes l).length ≤ 300 * l.length
  | [], _ => Nat.zero_le _
  | s :: l, h => by
    have h1 := h s List.mem_cons_self
    have h2 := jbytes_len fun t ht => h t (List.mem_cons_of_mem _ ht)
    have e : jbytes (s :: l) = s.toList ++ jbytes l := List.flatMap_cons
    rw [e, List.length_append, toList_size, List.length_cons]
    omega
end Go.Proofs.YtblpkmmhmdpkjaaGreatDoor

/- Contracts of layer 15's reference: cut, kinds. -/





namespace Go.Proofs.YtblpkmmhmdpkjaaGreatDoor

open Go.RowKit

end Go.Proofs.YtblpkmmhmdpkjaaGreatDoor

/- Columns: what a value holds; the contract of layer 15's reference's Put. -/



namespace Go.Proofs.YtblpkmmhmdpkjaaGreatDoor

open Go.RowKit

/-- A stream in memory: its kind, its bytes, their slice. -/
def scells (p : Int × List UInt8 × Value) : List Value := [.int .i64 p.1, p.2.2]
def colv (c : JC) (sv : Value) : Value := .agg #[.int .i64 c.many, .int .i64 c.enc, .int .i64 c.texts, sv]
/-- The value v holds the column c. -/
def IsCol (c : JC) (v : Value) (w : World) : Prop := ∃ (L : List (Int × List UInt8 × Value)) (sv : Value), v = colv c sv ∧ IsR scells L sv w ∧ (∀ p ∈ L, IsB p.2.1 p.2.2 w) ∧ c.streams = L.map (fun p => (p.1, p.2.1))
theorem IsCol.below {c : JC} {v : Value} {w w' : World} (h : IsCol c v w) (hb : Below w.heap.size w w') : IsCol c v w' := by
  obtain ⟨L, sv, h1, h2, h3, h4⟩ := h
  exact ⟨L, sv, h1, h2.below hb, fun p hp => (h3 p hp).below hb, h4⟩
/-- A column and an error that a call answers. -/
def RetCE (w : World) (p : JC × Int) (e : Ending) (w' : World) : Prop := ∃ v, e = .returned (.tuple #[v, .int .i64 p.2]) ∧ IsCol p.1 v w' ∧ Below w.heap.size w w'
theorem isCol_bad (w : World) : IsCol jcBad (colv jcBad (.slice none 0 0)) w := ⟨[], _, rfl, isR_nil _ _, by simp, rfl⟩
/-- Only block g has changed. -/
structure Spared (g : Nat) (w w' : World) : Prop where
  size : w.heap.size ≤ w'.heap.size
  block : ∀ k, k ≠ g → w'.heap[k]? = w.heap[k]?
theorem Spared.cell {g : Nat} {w w' : World} (h : Spared g w w') {p : Addr} (hp : p.block ≠ g) : w'.cell? p = w.cell? p := by
  unfold World.cell?
  rw [h.block p.block hp]
/-- Bytes lie in no block that holds other things. -/
theorem Spared.bytes {g : Nat} {w w' : World} {t : TypeId} {old : List Value} {l : List UInt8} {v : Value} (h : Spared g w w') (hr : Row w g t old) (ho : ∀ u ∈ old, ∀ x, u ≠ bv x) (hv : IsB l v w) : IsB l v w' := by
  obtain ⟨A, c, h1, h2, h3, h4, h5⟩ := hv
  refine ⟨A, c, h1, h2, h3, h4, ?_⟩
  rcases h5 with h5 | ⟨ad, hA, hlt, hc⟩
  · exact .inl h5
  · refine .inr ⟨ad, hA, Nat.lt_of_lt_of_le hlt h.size, fun j u hu => ?_⟩
    have h6 := hc j u hu
    by_cases hg : ad.block = g
    · exfalso
      obtain ⟨b, hb⟩ : ∃ b, u = bv b := by
        have := List.mem_of_getElem? hu
        obtain ⟨b, _, hb⟩ := List.mem_map.1 this
        exact ⟨b, hb.symm⟩
      have hs : (ad.add j).spot = none := World.cell?_spot h6
      have hbk : (ad.add j).block = g := by rw [add_block]; exact hg
      have e : ad.add j = ⟨g, (ad.add j).off, none⟩ := by
        generalize ad.add j = q at hs hbk
        obtain ⟨b1, o1, s1⟩ := q
        dsimp only at hs hbk
        subst hs hbk
        rfl
      rw [e, hr.cell] at h6
      exact ho u (List.mem_of_getElem? h6) b hb
    · rw [h.cell (by rw [add_block]; exact hg)]
      exact h6
/-- A slice that lies at the head of a block of its own. -/
theorem Spared.slice {α : Type} {f : α → List Value} {g k : Nat} {w w' : World} {l : List α} {n c : Nat} (h : Spared g w w') (hk : k ≠ g) (hv : IsR f l (.slice (some ⟨k, 0, none⟩) n c) w) : IsR f l (.slice (some ⟨k, 0, none⟩) n c) w' := by
  obtain ⟨A, c', h1, h2, h3, h4, h5⟩ := hv
  injection h1 with e1 e2 e3
  subst e1
  refine ⟨_, c', by rw [e2, e3], h2, h3, h4, ?_⟩
  rcases h5 with h5 | ⟨ad, hA, hlt, hc⟩
  · exact .inl h5
  · injection hA with hA
    subst hA
    exact .inr ⟨_, rfl, Nat.lt_of_lt_of_le hlt h.size, fun j u hu => by rw [h.cell (by rw [add_block]; exact hk)]; exact hc j u hu⟩
theorem isCol_stored {c : JC} {L : List (Int × List UInt8 × Value)} {g k n m : Nat} {w w' : World} {t : TypeId} {old : List Value} (h : Spared g w w') (hk : k ≠ g) (hr : Row w g t old) (ho : ∀ u ∈ old, ∀ x, u ≠ bv x)
    (hi : IsR scells L (.slice (some ⟨k, 0, none⟩) n m) w) (hb : ∀ p ∈ L, IsB p.2.1 p.2.2 w) (hc : c.streams = L.map (fun p => (p.1, p.2.1))) : IsCol c (colv c (.slice (some ⟨k, 0, none⟩) n m)) w' :=
  ⟨L, _, rfl, h.slice hk hi, fun p hp => h.bytes hr ho (hb p hp), hc⟩
theorem zero_col (v : Value) (h : ∀ x, v ≠ bv x) (a b c : Int) : ∀ u ∈ [Value.int .i64 a, .int .i64 b, .int .i64 c, v], ∀ x, u ≠ bv x := by
  intro u hu x
  simp at hu
  rcases hu with rfl | rfl | rfl | rfl
  · intro h; cases h
  · intro h; cases h
  · intro h; cases h
  · exact h x
section

variable {P : Program} {t : TypeId} {n : Nat} {ops : Array Oper} {rest : List Oper} {o : Oper} {a : Act} {Q : Exit → Act → World → Prop} {w : World}
/-- A whole value of several cells stored into its block. -/
theorem wpList_storeRow (hsz : (P.info? t).map (·.size) = some n) (hgd : o.guard = none) (x y : Operand) (ho : o.op = .store t x y) (g : Nat) (t' : TypeId) (old cs : List Value) (hx : a.eval x = .pointer (some ⟨g, 0, none⟩)) (hy : a.eval y = .agg cs.toArray) (hr : Row w g t' old)
    (hl : cs.length = n) (hl' : old.length = n) (h1 : ∀ u ∈ cs, u.oneCell' = true) (w0 : World) (B : Nat) (hb : Below B w0 w) (hB : B ≤ g)
    (h : ∀ w', Row w' g t' cs → Below B w0 w' → Spared g w w' → wpList P ops Q rest (a.put o.dst undef) w') : wpList P ops Q (o :: rest) a w := by
  have hrun := run_storeVar_row (P := P) w g t' t old.toArray cs.toArray hr (by rw [hsz, ← hl]; simp) (by simp [hl, hl']) (by simpa using h1)
  refine wpList_plain hgd fun K hK => ?_
  unfold Oper.wp execOp
  simp only [ho, hx, hy, Instr.storeAt, Instr.sureAddr, Sem.run_bind, Sem.run_pure, Result.andThen_ok, hrun]
  exact hK _ _ (h _ (setRow_heap w g old.toArray cs.toArray t' (0, 0) hr) (below_setRow hb hB _) ⟨by simp [World.setRow], fun k hk => setRow_other w g k cs.toArray hk⟩)
end
theorem jputE_big {l : List ByteArray} (h : 4096 < l.length ∨ ∃ s ∈ l, 300 < s.size) : jputE l = (jcBad, 3) := by
  unfold jputE
  rw [if_pos]
  rcases h with h | ⟨s, h1, h2⟩
  · exact .inl h
  · exact .inr (List.any_eq_true.2 ⟨s, h1, decide_eq_true h2⟩)
theorem jputE_in {l : List ByteArray} (h : l.length ≤ 4096) (hs : ∀ s ∈ l, s.size ≤ 300) : jputE l = if l.length < 2 * (jwords l).length then (⟨(l.length : Int), 1, 0, [(2, jbytes l), (3, (uputE (jlens l) false).1)]⟩, 0)
    else (⟨(l.length : Int), 2, ((jwords l).length : Int), [(2, (uputE (jplaces (jwords l) l) false).1), (3, (uputE (jlens (jwords l)) false).1), (4, jbytes (jwords l))]⟩, 0) := by
  unfold jputE
  rw [if_neg]
  rintro (h1 | h1)
  · omega
  · obtain ⟨s, h2, h3⟩ := List.any_eq_true.1 h1
    have := hs s h2
    have := of_decide_eq_true h3
    omega
theorem isR_two (w : World) (p q : Int × List UInt8 × Value) : IsR scells [p, q] (.slice (some ⟨w.heap.size, 0, none⟩) 2 2) (w.alloc (.cells #[.int .i64 p.1, p.2.2, .int .i64 q.1, q.2.2] 40)) :=
  ⟨_, _, rfl, by simp, Nat.le_refl _, by unfold maxLen; simp, cells_new w _ _⟩
theorem isR_three (w : World) (p q r : Int × List UInt8 × Value) : IsR scells [p, q, r] (.slice (some ⟨w.heap.size, 0, none⟩) 3 3) (w.alloc (.cells #[.int .i64 p.1, p.2.2, .int .i64 q.1, q.2.2, .int .i64 r.1, r.2.2] 40)) :=
  ⟨_, _, rfl, by simp, Nat.le_refl _, by unfold maxLen; simp, cells_new w _ _⟩
theorem colSize : (Tryz.prog.info? 27).map (·.size) = some 4 := by kernel_rfl
end Go.Proofs.YtblpkmmhmdpkjaaGreatDoor

/- Texts, and a column, that come in. -/





namespace Go.Proofs.YtblpkmmhmdpkjaaGreatDoor

open Go.RowKit Go.ChangeShapes Go.WideShapes Go.Deep

theorem isV_of_isR {α : Type} {f : α → Value} {l : List α} {v : Value} {w : World} (h : IsR (fun x => [f x]) l v w) : IsV f l v w := by
  obtain ⟨A, c, h1, h2, h3, h4, h5⟩ := h
  refine ⟨A, c, h1, h2, h3, h4, ?_⟩
  rw [List.map_eq_flatMap]
  exact h5
instance : Inhabited ByteArray := ⟨⟨#[]⟩⟩
section

variable {H : Type} {enc : TypeId × Value → H} {W : World} {v : Value} {d : DataW H} {ps : List MemPlace} {base : Nat}
set_option maxRecDepth 100000 in
theorem open_texts (hval : Value.okWide Tryz.prog W .any base 22 v) (hd : DataW.Trod enc Tryz.prog W 0 (fun _ => true) true 22 v d ps) (hlt : ∀ x ∈ ps, x.block < W.heap.size) :
    ∃ l : List ByteArray, IsV Value.string l v W ∧ ∀ x ∈ l, x.size ≤ maxLen := by
  obtain ⟨l, h1, h2⟩ := open_wide (f := fun x => [Value.string x]) (m := 1) (p := fun x : ByteArray => x.size ≤ maxLen) Tryz.underlying22 (by kernel_rfl) (by omega) (fun _ => rfl) (fun cs n x hlen h => by
    match cs, hlen with
    | [v0], _ =>
      obtain ⟨s, e0, _, hs⟩ := DataW.trod_string Tryz.underlying9 h
      simp at e0
      subst e0
      exact ⟨s, rfl, hs⟩) hval hd hlt
  exact ⟨l, isV_of_isR h1, h2⟩
end
instance : Inhabited (Int × List UInt8 × Value) := ⟨⟨0, [], .slice none 0 0⟩⟩
section

variable {H : Type} {enc : TypeId × Value → H} {W : World} {v : Value} {d : DataW H} {ps : List MemPlace} {base : Nat}
end

end Go.Proofs.YtblpkmmhmdpkjaaGreatDoor

/- few of layer 15's statements: at most 300 texts, of 310 bytes each. -/



namespace Go.Proofs.YtblpkmmhmdpkjaaGreatDoor

open Go.RowKit

end Go.Proofs.YtblpkmmhmdpkjaaGreatDoor

/- Contracts of layer 15's reference: kinds. -/



namespace Go.Proofs.YtblpkmmhmdpkjaaGreatDoor

open Go.RowKit

end Go.Proofs.YtblpkmmhmdpkjaaGreatDoor

/- Contracts of layer 15's reference: SameColumn of two that hold the same column. -/



namespace Go.Proofs.YtblpkmmhmdpkjaaGreatDoor

open Go.RowKit

end Go.Proofs.YtblpkmmhmdpkjaaGreatDoor

/- The contract of layer 15's reference's Take. -/





namespace Go.Proofs.YtblpkmmhmdpkjaaGreatDoor

open Go.RowKit

/-- What cut, and Take of layer 11, answer, as facts of a region. -/
def Fact.texts (w0 : World) (l : List ByteArray) : Fact := ⟨OwnV Value.string 9 w0 l, fun _ _ _ h hb => h.below hb⟩
end Go.Proofs.YtblpkmmhmdpkjaaGreatDoor

/- A set of texts: its keys, sorted, are the words. -/







namespace Go.Proofs.YtblpkmmhmdpkjaaGreatDoor

open Go.Maps

open Go.Proofs (encStr)

def jkey (s : ByteArray) : Lit := .string s.data.toList
theorem jkey_ok (s : ByteArray) : WideAt.IsKeyLit (jkey s) := trivial
def jset (l : List ByteArray) : DataW Unit := setOf (.agg []) (l.map jkey)
theorem jset_next {l : List ByteArray} {k : Nat} (h : k < l.length) : jset (l.take (k + 1)) = (jset (l.take k)).put (jkey l[k]) (.agg []) := by
  unfold jset
  rw [List.take_succ_eq_append_getElem h, List.map_append, List.map_singleton, setOf_snoc]
theorem jset_keys (l : List ByteArray) : ∀ x ∈ l.map jkey, WideAt.IsKeyLit x := by
  intro x hx
  obtain ⟨s, _, rfl⟩ := List.mem_map.1 hx
  exact jkey_ok s
theorem jset_has (l : List ByteArray) (x : List UInt8) : has (jset l) (.string x) = true ↔ ∃ s ∈ l, s.data.toList = x := by
  unfold jset
  rw [has_setOf _ _ _ (jset_keys l), List.any_eq_true]
  constructor
  · rintro ⟨q, hq, hs⟩
    obtain ⟨s, h1, rfl⟩ := List.mem_map.1 hq
    exact ⟨s, h1, by simpa [jkey, Lit.sameKey] using hs⟩
  · rintro ⟨s, h1, rfl⟩
    exact ⟨jkey s, List.mem_map.2 ⟨s, h1, rfl⟩, WideAt.sameKey_self (jkey_ok s)⟩
theorem strKeys_mem {H : Type} {es : List (Lit × DataW H)} (hk : ∀ p ∈ es, ∃ x, p.1 = .string x) (x : List UInt8) : x ∈ strKeys (.map es) ↔ has (.map es) (.string x) = true := by
  rw [has_eq, List.any_eq_true]
  show x ∈ es.map (fun p => strOf p.1) ↔ _
  rw [List.mem_map]
  constructor
  · rintro ⟨p, hp, rfl⟩
    obtain ⟨a, ha⟩ := hk p hp
    exact ⟨p, hp, by rw [ha]; simp [Lit.sameKey, strOf]⟩
  · rintro ⟨p, hp, hs⟩
    obtain ⟨a, ha⟩ := hk p hp
    rw [ha] at hs
    exact ⟨p, hp, by rw [ha]; simpa [Lit.sameKey, strOf] using hs⟩
theorem strKeys_nodup {H : Type} {es : List (Lit × DataW H)} (hp : es.Pairwise (fun p q => p.1 ≠ q.1)) (hk : ∀ p ∈ es, ∃ x, p.1 = .string x) : (strKeys (.map es)).Nodup := by
  show (es.map fun p => strOf p.1).Nodup
  refine List.pairwise_map.2 (hp.imp_of_mem fun {p q} hp' hq' hne e => hne ?_)
  obtain ⟨a, ha⟩ := hk p hp'
  obtain ⟨b, hb⟩ := hk q hq'
  rw [ha, hb] at e ⊢
  exact congrArg _ e
theorem sorted_le (ss : List (List UInt8)) : (ss.mergeSort leB).Pairwise fun a b => a ≤ b := by
  have tr : ∀ a b c : List UInt8, leB a b = true → leB b c = true → leB a c = true := fun a b c h1 h2 => by simp only [leB, decide_eq_true_eq] at *; exact List.le_trans h1 h2
  have to : ∀ a b : List UInt8, (leB a b || leB b a) = true := fun a b => by simp only [leB, Bool.or_eq_true, decide_eq_true_eq]; exact List.le_total a b
  exact (List.pairwise_mergeSort tr to ss).imp fun h => of_decide_eq_true h
theorem words_sorted {l : List ByteArray} {ss : List (List UInt8)} (hn : ss.Nodup) (hm : ∀ x, x ∈ ss ↔ ∃ s ∈ l, s.data.toList = x) : (ss.mergeSort leB).map encStr = (jwords l).map Value.string := by
  have hp := List.mergeSort_perm ss leB
  have hn2 : (ss.mergeSort leB).Nodup := hp.nodup_iff.2 hn
  have hs := sorted_le ss
  have hr : Rises ((ss.mergeSort leB).map fun x => (⟨x.toArray⟩ : ByteArray)) := by
    refine List.pairwise_map.2 ?_
    refine (hs.and hn2).imp fun {a b} h => ?_
    rw [sless_iff]
    dsimp only
    rcases Decidable.em (a < b) with h1 | h1
    · exact h1
    · exact absurd (List.le_antisymm h.1 (List.not_lt.1 h1)) h.2
  have he : ((ss.mergeSort leB).map fun x => (⟨x.toArray⟩ : ByteArray)) = jwords l := by
    refine rises_eq hr (jwords_rises l) fun z => ?_
    rw [jwords_mem, List.mem_map]
    constructor
    · rintro ⟨x, hx, rfl⟩
      obtain ⟨s, h1, rfl⟩ := (hm x).1 (hp.mem_iff.1 hx)
      exact h1
    · intro hz
      exact ⟨z.data.toList, hp.mem_iff.2 ((hm _).2 ⟨z, hz, rfl⟩), rfl⟩
  rw [← he, List.map_map]
  rfl
/-- The keys of the set of texts, sorted. -/
theorem words_of {l : List ByteArray} {ss : List (List UInt8)} (hp : ss.Perm (strKeys (jset l))) (hk : ∃ es, jset l = .map es ∧ ∀ p ∈ es, ∃ x, p.1 = .string x) : (ss.mergeSort leB).map encStr = (jwords l).map Value.string := by
  obtain ⟨es, he, hk⟩ := hk
  obtain ⟨es2, he2, ht⟩ := tidy_setOf (.agg [] : DataW Unit) (l.map jkey) (jset_keys l)
  have he3 : jset l = .map es2 := he2
  rw [he] at he3
  injection he3 with he3
  subst he3
  rw [he] at hp
  refine words_sorted (hp.nodup_iff.2 (strKeys_nodup ht hk)) fun x => ?_
  rw [hp.mem_iff, strKeys_mem hk, ← he, jset_has]
/-- The places of words that are all different. -/
def jmap (ws : List ByteArray) (k : Nat) : DataW Unit := (List.range k).foldl (fun D i => D.put (jkey (ws.getD i ⟨#[]⟩)) (.lit (.int .i64 (i : Int)))) (.map [])
theorem jmap_next (ws : List ByteArray) (k : Nat) : jmap ws (k + 1) = (jmap ws k).put (jkey (ws.getD k ⟨#[]⟩)) (.lit (.int .i64 (k : Int))) := by
  unfold jmap
  rw [List.range_succ, List.foldl_append]
  rfl
theorem jmap_isMap (ws : List ByteArray) : ∀ k, IsMap (jmap ws k)
  | 0 => isMap_empty
  | k + 1 => by rw [jmap_next]; exact (jmap_isMap ws k).put _ _
theorem jmap_at {ws : List ByteArray} (hr : Rises ws) (z : DataW Unit) : ∀ {k j : Nat}, k ≤ ws.length → (hj : j < k) → (jmap ws k).atKey (jkey (ws.getD j ⟨#[]⟩)) z = .lit (.int .i64 (j : Int))
  | 0, j, _, hj => absurd hj (Nat.not_lt_zero _)
  | k + 1, j, hk, hj => by
    rw [jmap_next]
    by_cases e : j = k
    · subst e
      exact atKey_put_same (jmap_isMap ws _) (jkey_ok _) _ _
    · rw [atKey_put_other _ _ _, jmap_at hr z (by omega) (by omega)]
      intro h
      have h1 := List.pairwise_iff_getElem.1 hr j k (by omega) (by omega) (by omega)
      have e1 : ws.getD j ⟨#[]⟩ = ws.getD k ⟨#[]⟩ := by
        unfold jkey at h
        injection h with h
        have h2 : ∀ a b : ByteArray, a.data.toList = b.data.toList → a = b := fun a b h => by
          cases a; cases b
          exact congrArg _ (Array.toList_inj.1 h)
        exact h2 _ _ h
      rw [List.getD_eq_getElem?_getD, List.getD_eq_getElem?_getD, List.getElem?_eq_getElem (show j < ws.length by omega), List.getElem?_eq_getElem (show k < ws.length by omega)] at e1
      dsimp only [Option.getD_some] at e1
      rw [e1, sless_not] at h1
      cases h1
theorem jmap_place {ws : List ByteArray} (hr : Rises ws) {s : ByteArray} (hs : s ∈ ws) (z : DataW Unit) : (jmap ws ws.length).atKey (jkey s) z = .lit (.int .i64 (jplace ws s : Int)) := by
  obtain ⟨h1, h2⟩ := jplace_in hs
  have h := jmap_at hr z (Nat.le_refl _) h1
  rw [List.getD_eq_getElem?_getD, List.getElem?_eq_getElem h1] at h
  dsimp only [Option.getD_some] at h
  rw [h2] at h
  exact h
end Go.Proofs.YtblpkmmhmdpkjaaGreatDoor

/- The library's contracts of maps.Keys, slices.Sorted, slices.Sort at texts and of strings.Join, laid at this program's numbers. -/











namespace Go.Proofs

open Go.Shelf
def Tryz.keysA_ren : Go.Shelf.Ren := ⟨fun | 7 => 27 | 10 => 41 | n => n, fun | 23 => 51 | 26 => 9 | 3 => 52 | 28 => 55 | 0 => 0 | 27 => 54 | 33 => 42 | 4 => 4 | n => n, fun | n => n⟩
theorem Tryz.keysA : Go.Proofs.SlLaysZ.n7 Tryz.prog Tryz.keysA_ren := {
  mixed := by kernel_rfl
  f7 := ⟨Tryz.f27.name, by decide, Tryz.func27.trans (congrArg some (by kernel_rfl))⟩
  f10 := ⟨Tryz.f41.name, by decide, Tryz.func41.trans (congrArg some (by kernel_rfl))⟩
  t0 := Tryz.underlying0
  a0 := Tryz.isAgg0
  z0 := Tryz.sizeOf0
  v0 := Tryz.zeroValue0
  t4 := Tryz.underlying4
  a4 := Tryz.isAgg4
  z4 := Tryz.sizeOf4
  v4 := Tryz.zeroValue4
  t23 := Tryz.underlying51
  a23 := Tryz.isAgg51
  z23 := Tryz.sizeOf51
  v23 := Tryz.zeroValue51
  t26 := Tryz.underlying9
  a26 := Tryz.isAgg9
  z26 := Tryz.sizeOf9
  v26 := Tryz.zeroValue9
  t27 := Tryz.underlying54
  a27 := Tryz.isAgg54
  z27 := Tryz.sizeOf54
  v27 := Tryz.zeroValue54
  t28 := Tryz.underlying55
  a28 := Tryz.isAgg55
  z28 := Tryz.sizeOf55
  v28 := Tryz.zeroValue55
  t33 := Tryz.underlying42
  a33 := Tryz.isAgg42
  z33 := Tryz.sizeOf42
  v33 := Tryz.zeroValue42 }
def Tryz.sortedA_ren : Go.Shelf.Ren := ⟨fun | 6 => 26 | 8 => 39 | 9 => 40 | 11 => 57 | 13 => 59 | 12 => 58 | 23 => 93 | 24 => 94 | 14 => 84 | 15 => 85 | 16 => 86 | 17 => 87 | 18 => 88 | 19 => 89 | 20 => 90 | 21 => 91 | 22 => 92 | 25 => 111 | 26 => 112 | 27 => 113 | 28 => 114 | 29 => 115 | 30 => 116 | 31 => 130 | n => n, fun | 26 => 9 | 28 => 55 | 24 => 22 | 0 => 0 | 3 => 3 | 37 => 85 | 48 => 126 | 50 => 101 | 4 => 4 | 40 => 118 | 39 => 117 | 45 => 123 | 5 => 5 | 9 => 9 | 51 => 148 | 55 => 152 | 57 => 160 | 58 => 161 | 33 => 42 | n => n, fun | n => n⟩
theorem Tryz.sortedA : Go.Proofs.SlLaysZ.n6 Tryz.prog Tryz.sortedA_ren := {
  mixed := by kernel_rfl
  f6 := ⟨Tryz.f26.name, by decide, Tryz.func26.trans (congrArg some (by kernel_rfl))⟩
  f8 := ⟨Tryz.f39.name, by decide, Tryz.func39.trans (congrArg some (by kernel_rfl))⟩
  f11 := ⟨Tryz.f57.name, by decide, Tryz.func57.trans (congrArg some (by kernel_rfl))⟩
  t0 := Tryz.underlying0
  a0 := Tryz.isAgg0
  z0 := Tryz.sizeOf0
  v0 := Tryz.zeroValue0
  t24 := Tryz.underlying22
  a24 := Tryz.isAgg22
  z24 := Tryz.sizeOf22
  v24 := Tryz.zeroValue22
  t26 := Tryz.underlying9
  a26 := Tryz.isAgg9
  z26 := Tryz.sizeOf9
  v26 := Tryz.zeroValue9
  t28 := Tryz.underlying55
  a28 := Tryz.isAgg55
  z28 := Tryz.sizeOf55
  v28 := Tryz.zeroValue55
  i26 := by kernel_rfl }
def Tryz.sortA_ren : Go.Shelf.Ren := ⟨fun | 6 => 40 | 8 => 59 | 9 => 58 | 19 => 93 | 20 => 94 | 21 => 84 | 22 => 85 | 23 => 86 | 24 => 87 | 25 => 88 | 26 => 89 | 27 => 90 | 28 => 91 | 29 => 92 | 36 => 111 | 31 => 112 | 32 => 113 | 37 => 114 | 38 => 115 | 39 => 116 | 41 => 130 | n => n, fun | 27 => 22 | 29 => 9 | 3 => 3 | 32 => 85 | 26 => 22 | 0 => 0 | 44 => 126 | 46 => 101 | 4 => 4 | 36 => 118 | 35 => 117 | 41 => 123 | 5 => 5 | 9 => 9 | 53 => 148 | 57 => 152 | 63 => 160 | 64 => 161 | n => n, fun | n => n⟩
theorem Tryz.sortA : Go.Proofs.SlLaysM.n6 Tryz.prog Tryz.sortA_ren := {
  mixed := by kernel_rfl
  f6 := ⟨Tryz.f40.name, by decide, Tryz.func40.trans (congrArg some (by kernel_rfl))⟩
  f8 := Tryz.func59.trans (congrArg some (by kernel_rfl))
  f9 := ⟨Tryz.f58.name, by decide, Tryz.func58.trans (congrArg some (by kernel_rfl))⟩
  f19 := Tryz.func93.trans (congrArg some (by kernel_rfl))
  f20 := Tryz.func94.trans (congrArg some (by kernel_rfl))
  f21 := ⟨Tryz.f84.name, by decide, Tryz.func84.trans (congrArg some (by kernel_rfl))⟩
  f22 := ⟨Tryz.f85.name, by decide, Tryz.func85.trans (congrArg some (by kernel_rfl))⟩
  f23 := ⟨Tryz.f86.name, by decide, Tryz.func86.trans (congrArg some (by kernel_rfl))⟩
  f24 := ⟨Tryz.f87.name, by decide, Tryz.func87.trans (congrArg some (by kernel_rfl))⟩
  f25 := ⟨Tryz.f88.name, by decide, Tryz.func88.trans (congrArg some (by kernel_rfl))⟩
  f26 := ⟨Tryz.f89.name, by decide, Tryz.func89.trans (congrArg some (by kernel_rfl))⟩
  f27 := ⟨Tryz.f90.name, by decide, Tryz.func90.trans (congrArg some (by kernel_rfl))⟩
  f28 := ⟨Tryz.f91.name, by decide, Tryz.func91.trans (congrArg some (by kernel_rfl))⟩
  f29 := ⟨Tryz.f92.name, by decide, Tryz.func92.trans (congrArg some (by kernel_rfl))⟩
  f31 := Tryz.func112.trans (congrArg some (by kernel_rfl))
  f32 := Tryz.func113.trans (congrArg some (by kernel_rfl))
  f36 := ⟨Tryz.f111.name, by decide, Tryz.func111.trans (congrArg some (by kernel_rfl))⟩
  f37 := ⟨Tryz.f114.name, by decide, Tryz.func114.trans (congrArg some (by kernel_rfl))⟩
  f38 := ⟨Tryz.f115.name, by decide, Tryz.func115.trans (congrArg some (by kernel_rfl))⟩
  f39 := ⟨Tryz.f116.name, by decide, Tryz.func116.trans (congrArg some (by kernel_rfl))⟩
  f41 := ⟨Tryz.f130.name, by decide, Tryz.func130.trans (congrArg some (by kernel_rfl))⟩
  t0 := Tryz.underlying0
  a0 := Tryz.isAgg0
  z0 := Tryz.sizeOf0
  v0 := Tryz.zeroValue0
  t3 := Tryz.underlying3
  a3 := Tryz.isAgg3
  z3 := Tryz.sizeOf3
  v3 := Tryz.zeroValue3
  t4 := Tryz.underlying4
  a4 := Tryz.isAgg4
  z4 := Tryz.sizeOf4
  v4 := Tryz.zeroValue4
  t5 := Tryz.underlying5
  a5 := Tryz.isAgg5
  z5 := Tryz.sizeOf5
  v5 := Tryz.zeroValue5
  t9 := Tryz.underlying9
  a9 := Tryz.isAgg9
  z9 := Tryz.sizeOf9
  v9 := Tryz.zeroValue9
  t26 := Tryz.underlying22
  a26 := Tryz.isAgg22
  z26 := Tryz.sizeOf22
  v26 := Tryz.zeroValue22
  t27 := Tryz.underlying22
  a27 := Tryz.isAgg22
  z27 := Tryz.sizeOf22
  v27 := Tryz.zeroValue22
  t29 := Tryz.underlying9
  a29 := Tryz.isAgg9
  z29 := Tryz.sizeOf9
  v29 := Tryz.zeroValue9
  t32 := Tryz.underlying85
  a32 := Tryz.isAgg85
  z32 := Tryz.sizeOf85
  v32 := Tryz.zeroValue85
  t35 := Tryz.underlying117
  a35 := Tryz.isAgg117
  z35 := Tryz.sizeOf117
  v35 := Tryz.zeroValue117
  t36 := Tryz.underlying118
  a36 := Tryz.isAgg118
  z36 := Tryz.sizeOf118
  v36 := Tryz.zeroValue118
  t41 := Tryz.underlying123
  a41 := Tryz.isAgg123
  z41 := Tryz.sizeOf123
  v41 := Tryz.zeroValue123
  t44 := Tryz.underlying126
  a44 := Tryz.isAgg126
  z44 := Tryz.sizeOf126
  v44 := Tryz.zeroValue126
  t46 := Tryz.underlying101
  a46 := Tryz.isAgg101
  z46 := Tryz.sizeOf101
  v46 := Tryz.zeroValue101
  t53 := Tryz.underlying148
  a53 := Tryz.isAgg148
  z53 := Tryz.sizeOf148
  v53 := Tryz.zeroValue148
  t57 := Tryz.underlying152
  a57 := Tryz.isAgg152
  z57 := Tryz.sizeOf152
  v57 := Tryz.zeroValue152
  t63 := Tryz.underlying160
  a63 := Tryz.isAgg160
  z63 := Tryz.sizeOf160
  v63 := Tryz.zeroValue160
  t64 := Tryz.underlying161
  a64 := Tryz.isAgg161
  z64 := Tryz.sizeOf161
  v64 := Tryz.zeroValue161 }
def Tryz.lays156_ren : Go.Shelf.Ren := ⟨fun | 156 => 47 | 165 => 67 | 166 => 68 | 169 => 69 | 240 => 102 | 241 => 103 | 276 => 120 | 277 => 121 | n => n, fun | 31 => 22 | 9 => 9 | 3 => 3 | 4 => 4 | 0 => 0 | 20 => 20 | 72 => 94 | 76 => 98 | 70 => 92 | 37 => 38 | 75 => 97 | 127 => 137 | 164 => 158 | 5 => 5 | 80 => 100 | n => n, fun | n => n⟩
theorem Tryz.lays156 : Go.Proofs.Lays.n156 Tryz.prog Tryz.lays156_ren := {
  mixed := by kernel_rfl
  f156 := Tryz.func47.trans (congrArg some (by kernel_rfl))
  f165 := Tryz.func67.trans (congrArg some (by kernel_rfl))
  f166 := Tryz.func68.trans (congrArg some (by kernel_rfl))
  f169 := Tryz.func69.trans (congrArg some (by kernel_rfl))
  f240 := Tryz.func102.trans (congrArg some (by kernel_rfl))
  f241 := Tryz.func103.trans (congrArg some (by kernel_rfl))
  f276 := Tryz.func120.trans (congrArg some (by kernel_rfl))
  f277 := Tryz.func121.trans (congrArg some (by kernel_rfl))
  t0 := Tryz.underlying0
  a0 := Tryz.isAgg0
  z0 := Tryz.sizeOf0
  v0 := Tryz.zeroValue0
  t3 := Tryz.underlying3
  a3 := Tryz.isAgg3
  z3 := Tryz.sizeOf3
  v3 := Tryz.zeroValue3
  t4 := Tryz.underlying4
  a4 := Tryz.isAgg4
  z4 := Tryz.sizeOf4
  v4 := Tryz.zeroValue4
  t9 := Tryz.underlying9
  a9 := Tryz.isAgg9
  z9 := Tryz.sizeOf9
  v9 := Tryz.zeroValue9
  t20 := Tryz.underlying20
  a20 := Tryz.isAgg20
  z20 := Tryz.sizeOf20
  v20 := Tryz.zeroValue20
  t31 := Tryz.underlying22
  a31 := Tryz.isAgg22
  z31 := Tryz.sizeOf22
  v31 := Tryz.zeroValue22
  t37 := Tryz.underlying38
  a37 := Tryz.isAgg38
  z37 := Tryz.sizeOf38
  v37 := Tryz.zeroValue38
  t70 := Tryz.underlying92
  a70 := Tryz.isAgg92
  z70 := Tryz.sizeOf92
  v70 := Tryz.zeroValue92
  t72 := Tryz.underlying94
  a72 := Tryz.isAgg94
  z72 := Tryz.sizeOf94
  v72 := Tryz.zeroValue94
  t75 := Tryz.underlying97
  a75 := Tryz.isAgg97
  z75 := Tryz.sizeOf97
  v75 := Tryz.zeroValue97
  t76 := Tryz.underlying98
  a76 := Tryz.isAgg98
  z76 := Tryz.sizeOf98
  v76 := Tryz.zeroValue98
  t127 := Tryz.underlying137
  a127 := Tryz.isAgg137
  z127 := Tryz.sizeOf137
  v127 := Tryz.zeroValue137
  t164 := Tryz.underlying158
  a164 := Tryz.isAgg158
  z164 := Tryz.sizeOf158
  v164 := Tryz.zeroValue158 }
theorem Tryz.bldExtra : Builder.Extra Tryz.prog Tryz.lays156_ren := {
  sizeBuilder := by kernel_rfl
  liesBuilder := by kernel_rfl
  t5 := Tryz.underlying5
  a5 := Tryz.isAgg5
  z5 := Tryz.sizeOf5
  v5 := Tryz.zeroValue5
  infoByte := by kernel_rfl
  cellsByte := by kernel_rfl
  sizeByte := by kernel_rfl
  neB5 := by decide }
end Go.Proofs

/- texts' own contract of Words: a set of texts; its keys, sorted (maps.Keys, slices.Sorted of the library). -/









namespace Go.Proofs.YtblpkmmhmdpkjaaGreatDoor

open Go.RowKit Go.Maps Go.Sort Go.Shelf

theorem jsorts (m : Nat) : AnyZ.SortsIn Tryz.prog Tryz.sortedA_ren Fence.wide m :=
  ⟨fun blk off cap ss W hH hblk hsz => callsIn_wide.2 (AnyM.slices_Sort_string Tryz.sortA blk off cap ss W hH hblk hsz),
   fun p cap W => callsIn_wide.2 (AnyM.slices_Sort_string_none Tryz.sortA p cap W)⟩
theorem jkeys_any (mb : Option Nat) (W : World) : Calls Tryz.prog 27 #[.map mb] W fun e w' => e = .returned (.func (.func 41) #[] #[.pointer (some ⟨W.heap.size, 0, none⟩)]) ∧ w' = W.alloc (.cells #[.map mb] 51) :=
  (callsIn_wide (n := 5)).1 (AnyZ.keys_in Tryz.keysA Fence.wide 5 trivial rfl mb W)
theorem Tryz.keyS : Keyed Tryz.prog 9 := string_keyed Tryz.underlying9
theorem jsorted_any (l : List ByteArray) (b nn : Nat) (w : World) (hown : w.ownsMap Tryz.prog 9 unitElem b nn (jset l)) (hn : nn ≤ 1000000) :
    Calls Tryz.prog 26 #[.func (.func 41) #[] #[.pointer (some ⟨w.heap.size, 0, none⟩)]] (w.alloc (.cells #[.map (some b)] 51)) fun e w' =>
      ∃ v n, e = .returned v ∧ w'.ownsRow w.heap.size 9 1 v n ((jwords l).map Value.string) ∧ Below w.heap.size w w' := by
  have hbl := hown.lt
  have hsz : Maps.size (jset l) ≤ nn := hown.size_le
  have hkeys : ∃ es, jset l = .map es ∧ ∀ p ∈ es, ∃ x, p.1 = .string x := by
    obtain ⟨es, he, hk⟩ := hown.keysOf
    refine ⟨es, he, fun p hp => ?_⟩
    obtain ⟨key, hkey⟩ := hk p hp
    obtain ⟨x, _, hx, _⟩ := Maps.keyOf_str Tryz.underlying9 hkey
    exact ⟨x, hx⟩
  have hseq : SeqGives Fence.wide 2 Tryz.prog 41 #[.pointer (some ⟨w.heap.size, 0, none⟩)] encStr (fun ss => ss.Perm (strKeys (jset l))) (Maps.size (jset l)) (w.alloc (.cells #[.map (some b)] 51)) :=
    AnyZ.keys_gives (ρ := Tryz.keysA_ren) { Tryz.keysA with } Fence.wide _ trivial rfl (by omega) w.heap.size b nn (jset l) _ (by simp) (by simp) (by
      obtain ⟨es, clock, hb, Ft, hs, hD⟩ := hown
      exact ⟨es, clock, (Below.heap_alloc _ _ b hbl).trans hb, Ft, hs, hD⟩)
  have cS := AnyZ.sorted_in Tryz.sortedA Fence.wide 5 trivial trivial trivial trivial rfl (by omega) (jsorts _) (enters_of Tryz.func40 (by kernel_rfl) rfl) 41 #[.pointer (some ⟨w.heap.size, 0, none⟩)] trivial (enters_of Tryz.func41 (by kernel_rfl) rfl) _ _ (by unfold maxLen; omega) (by omega) _ hseq
  refine (callsIn_wide.1 cS).mono ?_
  rintro e w' ⟨v, ss, rfl, hS, hrow, _, hb⟩
  rw [words_of hS hkeys] at hrow
  exact ⟨v, _, rfl, ownsRow_base_a hrow (by simp), ((Below.refl _ w).alloc (Nat.le_refl _) _).trans (hb.mono (by simp))⟩
def JWRel (l : List ByteArray) (w : World) (i : Value) (wr : World) : Prop :=
  ∃ k : Nat, k ≤ l.length ∧ i = .int .i64 (k : Int) ∧ wr.ownsMap Tryz.prog 9 unitElem w.heap.size k (jset (l.take k)) ∧ Below w.heap.size w wr
set_option maxHeartbeats 1000000 in
set_option maxRecDepth 100000 in
theorem jwords_own (l : List ByteArray) (v : Value) (w : World) (hv : IsV Value.string l v w) (hs : ∀ s ∈ l, s.size ≤ maxLen) (hb : l.length ≤ 1000000) : Calls Tryz.prog 14 #[v] w (RetTO w (jwords l)) := by
  obtain ⟨A, n, c, rfl⟩ := hv.shape
  have HN := Lib.hid hv.parts.1
  have HV := Lib.hid hv
  have HS := Lib.hid hs
  have hn6 : n ≤ 1000000 := by have := HN.out; omega
  have hst : JWRel l w (.int .i64 0) (w.alloc (.map #[] 0)) := ⟨0, Nat.zero_le _, rfl, World.ownsMap_made _ _ _ _, (Below.refl _ _).alloc (Nat.le_refl _) _⟩
  have HST := Lib.hid hst
  have hmm := @run_makeMap Tryz.prog
  clear hv hb hs hst
  go_enter Tryz.func14, Tryz.ntmps14
  go_wp2
  go_loopw [9] (JWRel l w) (fun i _ => n - (intOf i).toNat)
  case atStart => exact HST.out
  case round =>
    obtain ⟨k, hk, rfl, hown, hbw⟩ := hrel
    clear HST hmm
    have hkn : k ≤ n := by have := HN.out; omega
    have hz := hbw.size
    by_cases hlt : k < n
    · have hkl : k < l.length := by have := HN.out; omega
      have hlti : (k : Int) < (n : Int) := by omega
      obtain ⟨ad, rfl, had, hcell⟩ := (HV.out.below hbw).at hkl
      obtain ⟨x, hx⟩ : ∃ x, x = l[k] := ⟨_, rfl⟩
      rw [← hx] at hcell
      have hkey : keyOf Tryz.prog 9 (.string x) = some (jkey x) := Go.WideMaps.keyOf_string_mk Tryz.underlying9 (by rw [hx]; exact HS.out _ (List.getElem_mem hkl))
      have HNX := Lib.hid (jset_next hkl)
      rw [← hx] at HNX
      clear hx had
      go_wp2_with (first | (at_mapUpdate; refine wpList_mapUpdate_own _ rfl _ _ _ 51 rfl 9 52 Tryz.keyS Tryz.underlying51 unitElem w.heap.size k _ rfl hown (by unfold maxLen; omega) _ _ _ rfl rfl hkey _ [] unitElem_mk ?_) | go_in)
      intro w1 hown1 hgrow1
      have HO := Lib.hid hown1
      rw [← HNX.out] at HO
      have HB := Lib.hid (hbw.grown hgrow1 hz (fun j hj => by cases hj; exact Nat.le_refl _))
      clear hown1 hgrow1 hown hcell
      go_wp2
      go_roundw
      case rel => exact ⟨k + 1, hkl, by go_num, HO.out, HB.out⟩
      case measure => simp [intOf]; omega
    · obtain rfl : k = n := by omega
      have hlti : ¬ (k : Int) < (k : Int) := by omega
      have HT := Lib.hid (show l.take k = l from List.take_of_length_le (by have := HN.out; omega))
      rw [HT.out] at hown
      have HSO := Lib.hid (jsorted_any l w.heap.size k wr hown hn6)
      have HBW := Lib.hid hbw
      clear hown hbw
      go_wp2_with fail
      refine (jkeys_any _ _).mono ?_
      rintro e w' ⟨rfl, rfl⟩
      go_wp2_with fail
      refine HSO.out.mono ?_
      rintro e w2 ⟨v2, m, rfl, hrow, hb2⟩
      have HR := Lib.hid (show OwnV Value.string 9 w (jwords l) v2 w2 from ⟨m, ownsRow_base_a hrow (by omega)⟩)
      have HB2 := Lib.hid (below_then HBW.out hb2)
      clear hrow hb2
      go_wp2
      go_ret
      exact ⟨_, rfl, HR.out, HB2.out⟩
end Go.Proofs.YtblpkmmhmdpkjaaGreatDoor
