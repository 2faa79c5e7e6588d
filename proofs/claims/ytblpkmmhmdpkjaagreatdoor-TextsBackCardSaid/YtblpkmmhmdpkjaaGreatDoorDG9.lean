/- Texts that the claims of this seat share, part 9: UBest UTk UIs KPlain WOpen ISign. -/
import Derived.Deep.RegionLaw
import Derived.Sort.Walk0
import Derived.Laws.Strings
import Derived.WalkKit
import Derived.Lib.SmallJoins
import Derived.Deep.Slices
import Derived.Test.YtblpkmmhmdpkjaaGreatDoorDG8
/- rle's own contracts: kinds, putRepeat, shortest with its two closures, putPatched, Run. Written by gen_ubest.py. -/













namespace Go.Proofs.YtblpkmmhmdpkjaaGreatDoor

open Go.RowKit

section

variable {P : Program} {o : Oper} {ρ : Operand → Value} {w : World} {R : Value → World → Prop}
/-- A call of a Go function that a slot holds, by its contract. -/
theorem gives_callV {f : FuncId} {x : Operand} {xs : Array Operand} {ts : Array TypeId} {args : Array Value} (ho : o.op = .call { callee := .value x, args := xs, argTypes := ts })
    (hent : ∀ (args : Array Value) (w : World), (callFunc f args).run P w = .ok (.enter f args) w) (hf : ρ x = .func (.func f) #[] #[]) (ha : xs.map ρ = args)
    (h : Calls P f args w fun e w' => ∃ v, e = .returned v ∧ R v w') : Gives P o ρ w R := by
  have hr : (execOp ρ o).run P w = .ok (.enter f args) w := by
    simp [execOp, ho, resolve, hf, ha, Deferred.ofValue, invoke, hent]
  unfold Gives
  rw [hr]
  exact h
theorem gives_indexW {t e : TypeId} {bytes m : Nat} {zv : Value} (E : ElemW P t e bytes m zv) {x y : Operand} {ad : Addr} {n c k : Nat} (ho : o.op = .indexAddr t x y) (hx : ρ x = .slice (some ad) n c) (hy : ρ y = .int .i64 (k : Int)) (hk : k < n)
    (hR : R (.pointer (some (ad.add (k * m)))) w) : Gives P o ρ w R := by
  refine gives_of (v := .pointer (some (ad.add (k * m)))) (w' := w) ?_ hR
  have ht := E.under
  have hs := E.size_ w
  have h0 : (0 : Int) ≤ (k : Int) := by omega
  have h1 : (k : Int) < (n : Int) := by omega
  simp [execOp, ho, hx, hy, go_sem, ht, hs, h0, h1]
end
def Fact.putE (l : List UInt8) (x : Int) : Fact := ⟨fun v w => ∃ b, v = .tuple #[b, .int .i64 x] ∧ IsB l b w, fun _ _ _ ⟨b, h1, h2⟩ hb => ⟨b, h1, IsB.below h2 hb⟩⟩
/-- The kinds of runs: their bits, their Put, their Take. -/
def kcs : Nat → List Value
  | 0 => [.int .u8 0, .func (.func 122) #[] #[], .func (.func 123) #[] #[]]
  | 1 => [.int .u8 1, .func (.func 124) #[] #[], .func (.func 125) #[] #[]]
  | 2 => [.int .u8 3, .func (.func 126) #[] #[], .func (.func 127) #[] #[]]
  | _ => [.int .u8 2, .func (.func 128) #[] #[], .func (.func 129) #[] #[]]
def ukcells : List Value := kcs 0 ++ (kcs 1 ++ (kcs 2 ++ kcs 3))
def kz : Value := .agg #[.int .u8 0, .nilFunc, .nilFunc]
theorem Tryz.infoK : (Tryz.prog.info? 143).map (fun i => (i.zero, i.size, i.bytes)) = some (some kz, 3, 24) := by kernel_rfl
theorem elemK : ElemW Tryz.prog 139 143 24 3 kz := by
  obtain ⟨i0, hi, hz0, hz1, hz2⟩ := info_parts Tryz.infoK
  exact ⟨Tryz.underlying139, rfl, by omega, i0, hi, hz0, hz1, hz2⟩
theorem kind_at1 (j : Nat) (W : World) (g : Nat) : (Instr.fieldAt 143 (.pointer (some ⟨g, j, none⟩)) 1).run Tryz.prog W = .ok (.pointer (some ⟨g, j + 1, none⟩)) W := by kernel_rfl
theorem uadd_zero (ad : Addr) : ad.add 0 = ad := by unfold Addr.add; split <;> simp_all
set_option maxRecDepth 100000 in
theorem kinds_any (w : World) : Calls Tryz.prog 105 #[] w fun e w' => e = .returned (.slice (some ⟨w.heap.size, 0, none⟩) 4 4) ∧ w' = w.alloc (.cells ukcells.toArray 143) := by
  go_enter Tryz.func105, Tryz.ntmps105
  go_wp2
  go_ret
  exact ⟨rfl, rfl⟩
set_option maxHeartbeats 1000000 in
set_option maxRecDepth 100000 in
theorem uputrep_any (l : List Int) (v : Value) (s : Bool) (w : World) (hv : IsV iv l v w) (hl : ∀ x ∈ l, inInt x) (hb : l.length ≤ 1000000) :
    Calls Tryz.prog 122 #[v, .bool s] w (RetE w (urep l s)) := by
  obtain ⟨A, n, c, rfl⟩ := hv.shape
  have HN := Lib.hid hv.parts.1
  by_cases h0 : n = 0
  · subst h0
    have HE : Hid (urep l s = ([], 1)) := Lib.hid (by unfold urep; rw [if_pos (.inl HN.out)])
    clear hv hl hb
    go_enter Tryz.func122, Tryz.ntmps122
    go_wp2
    go_ret2
    rw [HE.out]
    exact RetE.nil _ (Below.refl _ _)
  · have hn6 : n ≤ 1000000 := by have := HN.out; omega
    have h0i : ((n : Int) == 0) = false := by simp; omega
    have hn0 : (0 : Int) < (n : Int) := by omega
    obtain ⟨u, hu⟩ : ∃ u, u = min (usame l) n := ⟨_, rfl⟩
    have HA := Lib.hid (ualike_any l _ n w hv hb hn6)
    rw [← hu] at HA
    have hun : u = usame l := by have := usame_le l; have := HN.out; omega
    by_cases hlt : u < n
    · have hlti : (u : Int) < (n : Int) := by omega
      have HE : Hid (urep l s = ([], 1)) := Lib.hid (by unfold urep; rw [if_pos (.inr (by rw [← hun, HN.out]; exact hlt))])
      clear hv hl hb hu hun h0
      go_enter Tryz.func122, Tryz.ntmps122
      go_wp2_with fail
      refine HA.out.mono ?_
      rintro e w1 ⟨rfl, hb1⟩
      have HB := Lib.hid hb1
      clear hb1
      go_wp2
      go_ret2
      rw [HE.out]
      exact RetE.nil _ HB.out
    · have hlti : ¬ (u : Int) < (n : Int) := by omega
      have hkl : 0 < l.length := by have := HN.out; omega
      obtain ⟨x0, hx0⟩ : ∃ x, x = l[0] := ⟨_, rfl⟩
      have HE : Hid (urep l s = eput x0 (n : Int) s) := Lib.hid (by
        unfold urep
        rw [if_neg (by rw [← hun, HN.out]; omega), HN.out, hx0]
        congr 1
        cases l with
        | nil => simp at hkl
        | cons y t => rfl)
      have HX := Lib.hid (hl x0 (by rw [hx0]; exact List.getElem_mem hkl))
      obtain ⟨ad, rfl, had, hcell⟩ := hv.at hkl
      have hc0 : w.cell? ad = some (.int .i64 x0) := by
        rw [← uadd_zero ad, hcell, hx0]; rfl
      have HC := Lib.hid hc0
      have HAD := Lib.hid had
      clear hv hl hb hu hun h0 hcell hc0 hx0 had hkl
      go_enter Tryz.func122, Tryz.ntmps122
      go_wp2_with fail
      refine HA.out.mono ?_
      rintro e w1 ⟨rfl, hb1⟩
      have HB := Lib.hid hb1
      have hc1 : w1.cell? ad = some (.int .i64 x0) := (hb1.cell HAD.out).trans HC.out
      clear hb1
      go_wp2_with fail
      refine (eput_any x0 (n : Int) s w1 HX.out.1 HX.out.2).mono ?_
      rintro e w2 ⟨v2, rfl, hv2, hb2⟩
      have HV2 := Lib.hid hv2
      have HB2 := Lib.hid (below_then HB.out hb2)
      clear hv2 hb2
      go_wp2
      go_ret2
      rw [HE.out]
      exact ⟨_, rfl, HV2.out, HB2.out⟩
set_option maxHeartbeats 2000000 in
set_option maxRecDepth 100000 in
theorem uppat1_any (k : Nat) (hk : k < 31) (b1 b2 : Nat) (l : List Int) (v : Value) (s : Bool) (w : World) (ht : WTab w) (hv : IsV iv l v w) (hl : ∀ x ∈ l, inInt x) (hb : l.length ≤ 1000000) (h1 : Row w b1 47 [v]) (h2 : Row w b2 4 [.bool s]) :
    Calls Tryz.prog 158 #[.int .i64 (k : Int), .pointer (some ⟨b1, 0, none⟩), .pointer (some ⟨b2, 0, none⟩)] w (RetE w (pputE l (wof (k : Int)) s)) := by
  have HT := Lib.hid ht
  have HV := Lib.hid hv
  obtain ⟨K, hK⟩ := wof_nat k
  have hK64 := wof_bd (k : Int)
  rw [hK] at hK64 ⊢
  have HOF := Lib.hid (fun W (h : WTab W) => of_any (k : Int) W h (by omega) (by omega))
  rw [hK] at HOF
  have HP := Lib.hid (fun W (h : IsV iv l v W) (ht : WTab W) => pput_any l v (K : Int) s W ht h hl hb (by unfold inInt; omega))
  have HC1 := Lib.hid (show w.cell? ⟨b1, 0, none⟩ = some v from h1.cell 0)
  have HC2 := Lib.hid (show w.cell? ⟨b2, 0, none⟩ = some (.bool s) from h2.cell 0)
  have HL1 := Lib.hid h1.lt
  have HL2 := Lib.hid h2.lt
  obtain ⟨pl, px, hE⟩ : ∃ pl px, pputE l (K : Int) s = (pl, px) := ⟨_, _, rfl⟩
  rw [hE] at HP
  have HE := Lib.hid hE
  clear ht hv hl hb h1 h2 hE hK hK64
  go_enter Tryz.func158, Tryz.ntmps158
  go_wp2_with fail
  refine wp_region_list [.is (v), .is (.int .i64 (k : Int)), .is (.int .i64 (K : Int)), .is (.bool s), .putE (pl) (px), .bytes (pl), .is (.int .i64 px), .bytes (pl), .is (.int .i64 px)] [some 6, some 7, some 8, some 9, some 10, some 11, some 12, some 4, some 5] (by kernel_rfl) (by kernel_rfl) (by kernel_rfl) rfl ⟨?_, ?_, ?_, ?_, ?_, ?_, ?_, ?_, ?_, trivial⟩ ?_
  · intro ρ W1 hb1 H
    exact gives_load rfl (H.old 1 _ (by kernel_rfl) rfl) Tryz.underlying47 rfl ((hb1.cell HL1.out).trans HC1.out) ⟨rfl, Below.refl _ _⟩
  · intro ρ W1 hb1 H
    exact gives_move rfl (H.old 0 _ (by kernel_rfl) rfl) ⟨rfl, Below.refl _ _⟩
  · intro ρ W1 hb1 H
    have e0 : ρ (.tmp 7) = .int .i64 (k : Int) := H.new 7 1 (by kernel_rfl)
    refine gives_call rfl (fun _ _ => by kernel_rfl) (H.func _) (args := #[.int .i64 (k : Int)]) (by simp [e0]) ?_
    exact (HOF.out W1 (HT.out.below hb1 HT.out.lt)).mono fun e w' ⟨h1, h2⟩ => ⟨_, h1, rfl, h2 ▸ Below.refl _ _⟩
  · intro ρ W1 hb1 H
    exact gives_load rfl (H.old 2 _ (by kernel_rfl) rfl) Tryz.underlying4 rfl ((hb1.cell HL2.out).trans HC2.out) ⟨rfl, Below.refl _ _⟩
  · intro ρ W1 hb1 H
    have e0 : ρ (.tmp 6) = v := H.new 6 0 (by kernel_rfl)
    have e1 : ρ (.tmp 8) = .int .i64 (K : Int) := H.new 8 2 (by kernel_rfl)
    have e2 : ρ (.tmp 9) = .bool s := H.new 9 3 (by kernel_rfl)
    refine gives_call rfl (fun _ _ => by kernel_rfl) (H.func _) (args := #[v, .int .i64 (K : Int), .bool s]) (by simp [e0, e1, e2]) ?_
    exact (HP.out W1 (HV.out.below hb1) (HT.out.below hb1 HT.out.lt)).mono fun e w' ⟨b, h1, h2, h3⟩ => ⟨_, h1, ⟨b, rfl, h2⟩, h3⟩
  · intro ρ W1 hb1 H
    obtain ⟨b, h1, h2⟩ := (show ∃ b, ρ (.tmp 10) = .tuple #[b, .int .i64 px] ∧ IsB pl b W1 from H.new 10 4 (by kernel_rfl))
    exact gives_extract rfl h1 rfl ⟨h2, Below.refl _ _⟩
  · intro ρ W1 hb1 H
    obtain ⟨b, h1, h2⟩ := (show ∃ b, ρ (.tmp 10) = .tuple #[b, .int .i64 px] ∧ IsB pl b W1 from H.new 10 4 (by kernel_rfl))
    exact gives_extract rfl h1 rfl ⟨rfl, Below.refl _ _⟩
  · intro ρ W1 hb1 H
    exact gives_assign rfl rfl ⟨H.new 11 5 (by kernel_rfl), Below.refl _ _⟩
  · intro ρ W1 hb1 H
    exact gives_assign rfl (H.new 12 6 (by kernel_rfl)) ⟨rfl, Below.refl _ _⟩
  · intro vs W1 hb1 hfs
    have f7 : IsB (pl) (vs 7) W1 := hfs 7 (by decide)
    have f8 : vs 8 = .int .i64 px := hfs 8 (by decide)
    clear hfs
    simp only [putAll, Nat.zero_add, Nat.reduceAdd]
    generalize vs 0 = z0
    generalize vs 1 = z1
    generalize vs 2 = z2
    generalize vs 3 = z3
    generalize vs 4 = z4
    generalize vs 5 = z5
    generalize vs 6 = z6
    generalize vs 7 = z7 at f7 ⊢
    simp only [f8, Act.put, List.setIfInBounds_toArray, List.set_cons_succ, List.set_cons_zero]
    clear f8
    have HB := Lib.hid f7
    have HW := Lib.hid hb1
    clear f7 hb1
    go_wp2
    go_ret2
    rw [HE.out]
    exact ⟨_, rfl, HB.out, HW.out⟩
theorem unil_eq (W : World) : (binOp .eql 38 (.slice none 0 0) (.slice none 0 0)).run Tryz.prog W = .ok (.bool true) W := Lib.run_eql_slice_nil W _ _ none 0 0 0 0 Tryz.underlying38
theorem unil_ne (ad : Addr) (n c : Nat) (W : World) : (binOp .eql 38 (.slice (some ad) n c) (.slice none 0 0)).run Tryz.prog W = .ok (.bool false) W := Lib.run_eql_slice_nil W _ _ (some ad) n c 0 0 Tryz.underlying38
/-- What best holds. -/
def UBest (o : Option (List UInt8)) (v : Value) (w : World) : Prop := match o with | none => v = .slice none 0 0 | some a => IsB a v w ∧ 1 ≤ a.length
def UBRel (F : Nat → List UInt8 × Int) (N : Nat) (w : World) (b i : Value) (wr : World) : Prop := ∃ k : Nat, k ≤ N ∧ i = .int .i64 (k : Int) ∧ UBest (((List.range k).map F).foldl ubest none) b wr ∧ Below w.heap.size w wr
set_option maxHeartbeats 4000000 in
set_option maxRecDepth 100000 in
theorem ushortest_pat (N : Nat) (F : Nat → List UInt8 × Int) (p1 p2 : Nat) (w : World) (hN : N ≤ 1000) (hf : ∀ (k : Nat) (W : World), k < N → Below w.heap.size w W → Calls Tryz.prog 158 #[.int .i64 (k : Int), .pointer (some ⟨p1, 0, none⟩), .pointer (some ⟨p2, 0, none⟩)] W (RetE W (F k)))
    (hlen : ∀ k, k < N → (F k).2 = 0 → 1 ≤ (F k).1.length) :
    Calls Tryz.prog 106 #[.int .i64 (N : Int), .func (.func 158) #[] #[.pointer (some ⟨p1, 0, none⟩), .pointer (some ⟨p2, 0, none⟩)]] w (RetE w (uans (((List.range N).map F).foldl ubest none))) := by
  have HF := Lib.hid hf
  have HLEN := Lib.hid hlen
  have HS : Hid (UBRel F N w (.slice none 0 0) (.int .i64 0) w) := Lib.hid ⟨0, Nat.zero_le _, rfl, rfl, Below.refl _ _⟩
  clear hf hlen
  go_enter Tryz.func106, Tryz.ntmps106
  go_wp2
  go_loopw [6, 11] (UBRel F N w) (fun _ i _ => N - (intOf i).toNat)
  case atStart => exact HS.out
  case round =>
    obtain ⟨k, hk, rfl, hbest, hbw⟩ := hrel
    clear HS
    have HBW := Lib.hid hbw
    have HFS := Lib.hid (show ((List.range (k + 1)).map F).foldl ubest none = ubest (((List.range k).map F).foldl ubest none) (F k) by
      rw [List.range_succ, List.map_append, List.foldl_append]; rfl)
    obtain ⟨o, ho⟩ : ∃ o, o = ((List.range k).map F).foldl ubest none := ⟨_, rfl⟩
    rw [← ho] at hbest HFS
    have HO := Lib.hid ho
    clear hbw ho
    by_cases hlt : k < N
    · have hlti : (k : Int) < (N : Int) := by omega
      have HFK := Lib.hid (HF.out k wr hlt HBW.out)
      have HLK := Lib.hid (HLEN.out k hlt)
      obtain ⟨fl, fx, hfk⟩ : ∃ fl fx, F k = (fl, fx) := ⟨_, _, rfl⟩
      rw [hfk] at HFK HFS HLK
      clear hfk
      rcases o with _ | a
      · obtain rfl : _ = Value.slice none 0 0 := hbest
        have hnil := unil_eq
        by_cases hx : fx = 0
        · subst hx
          go_wp2_with (go_at_call 158; refine HFK.out.mono ?_; rintro e w2 ⟨v2, rfl, hv2, hb2⟩; have HV2 := Lib.hid hv2; have HB2 := Lib.hid (below_then HBW.out hb2); clear hv2 hb2)
          go_roundw
          case rel => exact ⟨k + 1, hlt, by go_num, by rw [HFS.out, ubest_none rfl]; exact ⟨HV2.out, HLK.out (by trivial)⟩, HB2.out⟩
          case measure => simp [intOf]; omega
        · have d1 : (fx == 0) = false := by simpa using hx
          have HX := Lib.hid hx
          clear hx
          go_wp2_with (go_at_call 158; refine HFK.out.mono ?_; rintro e w2 ⟨v2, rfl, hv2, hb2⟩; have HV2 := Lib.hid hv2; have HB2 := Lib.hid (below_then HBW.out hb2); clear hv2 hb2)
          go_roundw
          case rel => exact ⟨k + 1, hlt, by go_num, by rw [HFS.out, ubest_bad HX.out]; rfl, HB2.out⟩
          case measure => simp [intOf]; omega
      · obtain ⟨ha, ha1⟩ := hbest
        obtain ⟨A6, n6, c6, rfl⟩ := IsV.shape (f := bv) ha
        have hp6 := IsV.parts (f := bv) (show IsV bv a _ _ from ha)
        have HN6 := Lib.hid hp6.1
        have hn61 : 1 ≤ n6 := by rw [← hp6.1]; exact ha1
        have hci6 : (n6 : Int) ≤ 9223372036854775807 := by have h1 := hp6.2.2.1; have h2 := hp6.2.2.2.1; unfold maxLen at h2; omega
        have hAs : ∃ ad, A6 = some ad := by
          cases A6 with
          | none => have := hp6.2.1 rfl; omega
          | some ad => exact ⟨ad, rfl⟩
        obtain ⟨ad6, rfl⟩ := hAs
        have hnil := fun W => unil_ne ad6 n6 c6 W
        have HA := Lib.hid ha
        have HA1 := Lib.hid ha1
        clear ha ha1 hp6
        by_cases hx : fx = 0
        · subst hx
          go_wp2_with fail
          refine HFK.out.mono ?_
          rintro e w2 ⟨v2, rfl, hv2, hb2⟩
          obtain ⟨A8, n8, c8, rfl⟩ := IsV.shape (f := bv) hv2
          have hn8 := (IsV.parts (f := bv) (show IsV bv fl _ _ from hv2)).1
          have HN8 := Lib.hid hn8
          have HV2 := Lib.hid hv2
          have HB2 := Lib.hid (below_then HBW.out hb2)
          have HA2 := Lib.hid (IsB.below HA.out hb2)
          clear hv2 hb2 hn8
          by_cases hlt8 : n8 < n6
          · have hlt8i : (n8 : Int) < (n6 : Int) := by omega
            have d2 : decide ((n8 : Int) < (n6 : Int)) = true := decide_eq_true hlt8i
            go_wp2
            go_roundw
            case rel => exact ⟨k + 1, hlt, by go_num, by rw [HFS.out, ubest_less rfl (by have := HN8.out; have := HN6.out; dsimp only; omega)]; exact ⟨HV2.out, HLK.out (by trivial)⟩, HB2.out⟩
            case measure => simp [intOf]; omega
          · have hlt8i : ¬ (n8 : Int) < (n6 : Int) := by omega
            have d2 : decide ((n8 : Int) < (n6 : Int)) = false := decide_eq_false hlt8i
            go_wp2
            go_roundw
            case rel => exact ⟨k + 1, hlt, by go_num, by rw [HFS.out, ubest_more (by have := HN8.out; have := HN6.out; dsimp only; omega)]; exact ⟨HA2.out, HA1.out⟩, HB2.out⟩
            case measure => simp [intOf]; omega
        · have d1 : (fx == 0) = false := by simpa using hx
          have HX := Lib.hid hx
          clear hx
          go_wp2_with (go_at_call 158; refine HFK.out.mono ?_; rintro e w2 ⟨v2, rfl, hv2, hb2⟩; have HB2 := Lib.hid (below_then HBW.out hb2); have HA2 := Lib.hid (IsB.below HA.out hb2); clear hv2 hb2)
          go_roundw
          case rel => exact ⟨k + 1, hlt, by go_num, by rw [HFS.out, ubest_bad HX.out]; exact ⟨HA2.out, HA1.out⟩, HB2.out⟩
          case measure => simp [intOf]; omega
    · obtain rfl : k = N := by omega
      have hlti : ¬ (k : Int) < (k : Int) := by omega
      rcases o with _ | a
      · obtain rfl : _ = Value.slice none 0 0 := hbest
        have hnil := unil_eq
        go_wp2
        go_ret2
        rw [← HO.out]
        exact RetE.nil _ HBW.out
      · obtain ⟨ha, ha1⟩ := hbest
        obtain ⟨A6, n6, c6, rfl⟩ := IsV.shape (f := bv) ha
        have hp6 := IsV.parts (f := bv) (show IsV bv a _ _ from ha)
        have hn61 : 1 ≤ n6 := by rw [← hp6.1]; exact ha1
        have hAs : ∃ ad, A6 = some ad := by
          cases A6 with
          | none => have := hp6.2.1 rfl; omega
          | some ad => exact ⟨ad, rfl⟩
        obtain ⟨ad6, rfl⟩ := hAs
        have hnil := fun W => unil_ne ad6 n6 c6 W
        have HA := Lib.hid ha
        clear ha ha1 hp6
        go_wp2
        go_ret2
        rw [← HO.out]
        exact ⟨_, rfl, HA.out, HBW.out⟩
set_option maxHeartbeats 4000000 in
set_option maxRecDepth 100000 in
theorem ushortest_run (N : Nat) (F : Nat → List UInt8 × Int) (p6 p2 p3 : Nat) (w : World) (hN : N ≤ 1000) (hf : ∀ (k : Nat) (W : World), k < N → Below w.heap.size w W → Calls Tryz.prog 107 #[.int .i64 (k : Int), .pointer (some ⟨p6, 0, none⟩), .pointer (some ⟨p2, 0, none⟩), .pointer (some ⟨p3, 0, none⟩)] W (RetE W (F k)))
    (hlen : ∀ k, k < N → (F k).2 = 0 → 1 ≤ (F k).1.length) :
    Calls Tryz.prog 106 #[.int .i64 (N : Int), .func (.func 107) #[] #[.pointer (some ⟨p6, 0, none⟩), .pointer (some ⟨p2, 0, none⟩), .pointer (some ⟨p3, 0, none⟩)]] w (RetE w (uans (((List.range N).map F).foldl ubest none))) := by
  have HF := Lib.hid hf
  have HLEN := Lib.hid hlen
  have HS : Hid (UBRel F N w (.slice none 0 0) (.int .i64 0) w) := Lib.hid ⟨0, Nat.zero_le _, rfl, rfl, Below.refl _ _⟩
  clear hf hlen
  go_enter Tryz.func106, Tryz.ntmps106
  go_wp2
  go_loopw [6, 11] (UBRel F N w) (fun _ i _ => N - (intOf i).toNat)
  case atStart => exact HS.out
  case round =>
    obtain ⟨k, hk, rfl, hbest, hbw⟩ := hrel
    clear HS
    have HBW := Lib.hid hbw
    have HFS := Lib.hid (show ((List.range (k + 1)).map F).foldl ubest none = ubest (((List.range k).map F).foldl ubest none) (F k) by
      rw [List.range_succ, List.map_append, List.foldl_append]; rfl)
    obtain ⟨o, ho⟩ : ∃ o, o = ((List.range k).map F).foldl ubest none := ⟨_, rfl⟩
    rw [← ho] at hbest HFS
    have HO := Lib.hid ho
    clear hbw ho
    by_cases hlt : k < N
    · have hlti : (k : Int) < (N : Int) := by omega
      have HFK := Lib.hid (HF.out k wr hlt HBW.out)
      have HLK := Lib.hid (HLEN.out k hlt)
      obtain ⟨fl, fx, hfk⟩ : ∃ fl fx, F k = (fl, fx) := ⟨_, _, rfl⟩
      rw [hfk] at HFK HFS HLK
      clear hfk
      rcases o with _ | a
      · obtain rfl : _ = Value.slice none 0 0 := hbest
        have hnil := unil_eq
        by_cases hx : fx = 0
        · subst hx
          go_wp2_with (go_at_call 107; refine HFK.out.mono ?_; rintro e w2 ⟨v2, rfl, hv2, hb2⟩; have HV2 := Lib.hid hv2; have HB2 := Lib.hid (below_then HBW.out hb2); clear hv2 hb2)
          go_roundw
          case rel => exact ⟨k + 1, hlt, by go_num, by rw [HFS.out, ubest_none rfl]; exact ⟨HV2.out, HLK.out (by trivial)⟩, HB2.out⟩
          case measure => simp [intOf]; omega
        · have d1 : (fx == 0) = false := by simpa using hx
          have HX := Lib.hid hx
          clear hx
          go_wp2_with (go_at_call 107; refine HFK.out.mono ?_; rintro e w2 ⟨v2, rfl, hv2, hb2⟩; have HV2 := Lib.hid hv2; have HB2 := Lib.hid (below_then HBW.out hb2); clear hv2 hb2)
          go_roundw
          case rel => exact ⟨k + 1, hlt, by go_num, by rw [HFS.out, ubest_bad HX.out]; rfl, HB2.out⟩
          case measure => simp [intOf]; omega
      · obtain ⟨ha, ha1⟩ := hbest
        obtain ⟨A6, n6, c6, rfl⟩ := IsV.shape (f := bv) ha
        have hp6 := IsV.parts (f := bv) (show IsV bv a _ _ from ha)
        have HN6 := Lib.hid hp6.1
        have hn61 : 1 ≤ n6 := by rw [← hp6.1]; exact ha1
        have hci6 : (n6 : Int) ≤ 9223372036854775807 := by have h1 := hp6.2.2.1; have h2 := hp6.2.2.2.1; unfold maxLen at h2; omega
        have hAs : ∃ ad, A6 = some ad := by
          cases A6 with
          | none => have := hp6.2.1 rfl; omega
          | some ad => exact ⟨ad, rfl⟩
        obtain ⟨ad6, rfl⟩ := hAs
        have hnil := fun W => unil_ne ad6 n6 c6 W
        have HA := Lib.hid ha
        have HA1 := Lib.hid ha1
        clear ha ha1 hp6
        by_cases hx : fx = 0
        · subst hx
          go_wp2_with fail
          refine HFK.out.mono ?_
          rintro e w2 ⟨v2, rfl, hv2, hb2⟩
          obtain ⟨A8, n8, c8, rfl⟩ := IsV.shape (f := bv) hv2
          have hn8 := (IsV.parts (f := bv) (show IsV bv fl _ _ from hv2)).1
          have HN8 := Lib.hid hn8
          have HV2 := Lib.hid hv2
          have HB2 := Lib.hid (below_then HBW.out hb2)
          have HA2 := Lib.hid (IsB.below HA.out hb2)
          clear hv2 hb2 hn8
          by_cases hlt8 : n8 < n6
          · have hlt8i : (n8 : Int) < (n6 : Int) := by omega
            have d2 : decide ((n8 : Int) < (n6 : Int)) = true := decide_eq_true hlt8i
            go_wp2
            go_roundw
            case rel => exact ⟨k + 1, hlt, by go_num, by rw [HFS.out, ubest_less rfl (by have := HN8.out; have := HN6.out; dsimp only; omega)]; exact ⟨HV2.out, HLK.out (by trivial)⟩, HB2.out⟩
            case measure => simp [intOf]; omega
          · have hlt8i : ¬ (n8 : Int) < (n6 : Int) := by omega
            have d2 : decide ((n8 : Int) < (n6 : Int)) = false := decide_eq_false hlt8i
            go_wp2
            go_roundw
            case rel => exact ⟨k + 1, hlt, by go_num, by rw [HFS.out, ubest_more (by have := HN8.out; have := HN6.out; dsimp only; omega)]; exact ⟨HA2.out, HA1.out⟩, HB2.out⟩
            case measure => simp [intOf]; omega
        · have d1 : (fx == 0) = false := by simpa using hx
          have HX := Lib.hid hx
          clear hx
          go_wp2_with (go_at_call 107; refine HFK.out.mono ?_; rintro e w2 ⟨v2, rfl, hv2, hb2⟩; have HB2 := Lib.hid (below_then HBW.out hb2); have HA2 := Lib.hid (IsB.below HA.out hb2); clear hv2 hb2)
          go_roundw
          case rel => exact ⟨k + 1, hlt, by go_num, by rw [HFS.out, ubest_bad HX.out]; exact ⟨HA2.out, HA1.out⟩, HB2.out⟩
          case measure => simp [intOf]; omega
    · obtain rfl : k = N := by omega
      have hlti : ¬ (k : Int) < (k : Int) := by omega
      rcases o with _ | a
      · obtain rfl : _ = Value.slice none 0 0 := hbest
        have hnil := unil_eq
        go_wp2
        go_ret2
        rw [← HO.out]
        exact RetE.nil _ HBW.out
      · obtain ⟨ha, ha1⟩ := hbest
        obtain ⟨A6, n6, c6, rfl⟩ := IsV.shape (f := bv) ha
        have hp6 := IsV.parts (f := bv) (show IsV bv a _ _ from ha)
        have hn61 : 1 ≤ n6 := by rw [← hp6.1]; exact ha1
        have hAs : ∃ ad, A6 = some ad := by
          cases A6 with
          | none => have := hp6.2.1 rfl; omega
          | some ad => exact ⟨ad, rfl⟩
        obtain ⟨ad6, rfl⟩ := hAs
        have hnil := fun W => unil_ne ad6 n6 c6 W
        have HA := Lib.hid ha
        clear ha ha1 hp6
        go_wp2
        go_ret2
        rw [← HO.out]
        exact ⟨_, rfl, HA.out, HBW.out⟩
set_option maxHeartbeats 1000000 in
set_option maxRecDepth 100000 in
theorem uputpat_any (l : List Int) (v : Value) (s : Bool) (w : World) (ht : WTab w) (hv : IsV iv l v w) (hl : ∀ x ∈ l, inInt x) (hb : l.length ≤ 1000000) :
    Calls Tryz.prog 128 #[v, .bool s] w (RetE w (upat l s)) := by
  obtain ⟨A, n, c, rfl⟩ := hv.shape
  obtain ⟨v, hv0⟩ : ∃ v, v = Value.slice A n c := ⟨_, rfl⟩
  rw [← hv0] at hv
  obtain ⟨w1, hw1⟩ : ∃ w1, w1 = (w.alloc (.cells #[v] 47)).alloc (.cells #[.bool s] 4) := ⟨_, rfl⟩
  have hb1 : Below w.heap.size w w1 := by rw [hw1]; exact ((Below.refl _ _).alloc (Nat.le_refl _) _).alloc (by simp) _
  have r1 : Row w1 w.heap.size 47 [v] := by
    have h0 : Row (w.alloc (.cells #[v] 47)) w.heap.size 47 [v] := heap_alloc_new w _
    rw [hw1]; exact h0.alloc _
  have r2 : Row w1 (w.heap.size + 1) 4 [.bool s] := by
    rw [hw1]
    have h0 := heap_alloc_new (w.alloc (.cells #[v] 47)) (.cells #[.bool s] 4)
    rw [show (w.alloc (.cells #[v] 47)).heap.size = w.heap.size + 1 by simp] at h0
    exact h0
  have HS := Lib.hid (ushortest_pat 31 (fun c : Nat => pputE l (wof (c : Int)) s) w.heap.size (w.heap.size + 1) w1 (by omega)
    (fun k W hk hW => uppat1_any k hk _ _ l v s W (ht.below (below_then hb1 hW) ht.lt) (hv.below (below_then hb1 hW)) hl hb (r1.below hW r1.lt) (r2.below hW r2.lt))
    (fun k hk h0 => Nat.pos_of_ne_zero (ulen_pput h0)))
  have HE := Lib.hid (show uans (((List.range 31).map fun c : Nat => pputE l (wof (c : Int)) s).foldl ubest none) = upat l s from rfl)
  rw [HE.out, show ((31 : Nat) : Int) = 31 from rfl] at HS
  have HB := Lib.hid hb1
  rw [hw1, hv0] at HS HB
  clear ht hv hl hb r1 r2 hw1 hb1
  go_enter Tryz.func128, Tryz.ntmps128
  go_wp2_with (go_at_call 106; refine HS.out.mono ?_; rintro e w2 ⟨v2, rfl, hv2, hb2⟩; have HV2 := Lib.hid hv2; have HB2 := Lib.hid (below_then HB.out hb2); clear hv2 hb2)
  go_ret2
  exact ⟨_, rfl, HV2.out, HB2.out⟩
set_option maxHeartbeats 4000000 in
set_option maxRecDepth 100000 in
theorem urun1_0 (p6 p2 p3 g : Nat) (l : List Int) (v : Value) (s : Bool) (w : World) (ht : WTab w) (hv : IsV iv l v w) (hl : ∀ x ∈ l, inInt x) (hb : l.length ≤ 1000000)
    (h6 : Row w p6 139 [.slice (some ⟨g, 0, none⟩) 4 4]) (h2 : Row w p2 47 [v]) (h3 : Row w p3 4 [.bool s]) (hg : Row w g 143 ukcells) :
    Calls Tryz.prog 107 #[.int .i64 0, .pointer (some ⟨p6, 0, none⟩), .pointer (some ⟨p2, 0, none⟩), .pointer (some ⟨p3, 0, none⟩)] w (RetE w (urep l s)) := by
  have HT := Lib.hid ht
  have HV := Lib.hid hv
  have HPR := Lib.hid (fun W (h : IsV iv l v W) (ht : WTab W) => uputrep_any l v s W h hl hb)
  have HC6 := Lib.hid (show w.cell? ⟨p6, 0, none⟩ = some (.slice (some ⟨g, 0, none⟩) 4 4) from h6.cell 0)
  have HC2 := Lib.hid (show w.cell? ⟨p2, 0, none⟩ = some v from h2.cell 0)
  have HC3 := Lib.hid (show w.cell? ⟨p3, 0, none⟩ = some (.bool s) from h3.cell 0)
  have HF := Lib.hid (show w.cell? ⟨g, 1, none⟩ = some (.func (.func 122) #[] #[]) from hg.cell 1)
  have HL6 := Lib.hid h6.lt
  have HL2 := Lib.hid h2.lt
  have HL3 := Lib.hid h3.lt
  have HLG := Lib.hid hg.lt
  obtain ⟨pl, px, hE⟩ : ∃ pl px, urep l s = (pl, px) := ⟨_, _, rfl⟩
  rw [hE] at HPR
  have HE := Lib.hid hE
  clear ht hv hl hb h6 h2 h3 hg hE
  go_enter Tryz.func107, Tryz.ntmps107
  go_wp2_with fail
  refine wp_region_list [.is (.slice (some ⟨g, 0, none⟩) 4 4), .is (.int .i64 0), .is (.pointer (some ⟨g, 0, none⟩)), .is (.pointer (some ⟨g, 1, none⟩)), .is (.func (.func 122) #[] #[]), .is (v), .is (.bool s), .putE (pl) (px), .bytes (pl), .is (.int .i64 px), .bytes (pl), .is (.int .i64 px)] [some 7, some 8, some 9, some 10, some 11, some 12, some 13, some 14, some 15, some 16, some 5, some 6] (by kernel_rfl) (by kernel_rfl) (by kernel_rfl) rfl ⟨?_, ?_, ?_, ?_, ?_, ?_, ?_, ?_, ?_, ?_, ?_, ?_, trivial⟩ ?_
  · intro ρ W1 hb1 H
    exact gives_load rfl (H.old 1 _ (by kernel_rfl) rfl) Tryz.underlying139 rfl ((hb1.cell HL6.out).trans HC6.out) ⟨rfl, Below.refl _ _⟩
  · intro ρ W1 hb1 H
    exact gives_move rfl (H.old 0 _ (by kernel_rfl) rfl) ⟨rfl, Below.refl _ _⟩
  · intro ρ W1 hb1 H
    exact gives_indexW (k := 0) elemK rfl (H.new 7 0 (by kernel_rfl)) (H.new 8 1 (by kernel_rfl)) (by omega) ⟨congrArg (fun q => Value.pointer (some q)) (by simp [Addr.add]), Below.refl _ _⟩
  · intro ρ W1 hb1 H
    exact gives_field rfl (H.new 9 2 (by kernel_rfl)) (fun W => kind_at1 0 W _) ⟨rfl, Below.refl _ _⟩
  · intro ρ W1 hb1 H
    exact gives_load rfl (H.new 10 3 (by kernel_rfl)) Tryz.underlying50 rfl ((hb1.cell HLG.out).trans HF.out) ⟨rfl, Below.refl _ _⟩
  · intro ρ W1 hb1 H
    exact gives_load rfl (H.old 2 _ (by kernel_rfl) rfl) Tryz.underlying47 rfl ((hb1.cell HL2.out).trans HC2.out) ⟨rfl, Below.refl _ _⟩
  · intro ρ W1 hb1 H
    exact gives_load rfl (H.old 3 _ (by kernel_rfl) rfl) Tryz.underlying4 rfl ((hb1.cell HL3.out).trans HC3.out) ⟨rfl, Below.refl _ _⟩
  · intro ρ W1 hb1 H
    have e0 : ρ (.tmp 12) = v := H.new 12 5 (by kernel_rfl)
    have e1 : ρ (.tmp 13) = .bool s := H.new 13 6 (by kernel_rfl)
    refine gives_callV rfl (fun _ _ => by kernel_rfl) (H.new 11 4 (by kernel_rfl)) (args := #[v, .bool s]) (by simp [e0, e1]) ?_
    exact (HPR.out W1 (HV.out.below hb1) (HT.out.below hb1 HT.out.lt)).mono fun e w' ⟨b, h1, h2, h3⟩ => ⟨_, h1, ⟨b, rfl, h2⟩, h3⟩
  · intro ρ W1 hb1 H
    obtain ⟨b, h1, h2⟩ := (show ∃ b, ρ (.tmp 14) = .tuple #[b, .int .i64 px] ∧ IsB pl b W1 from H.new 14 7 (by kernel_rfl))
    exact gives_extract rfl h1 rfl ⟨h2, Below.refl _ _⟩
  · intro ρ W1 hb1 H
    obtain ⟨b, h1, h2⟩ := (show ∃ b, ρ (.tmp 14) = .tuple #[b, .int .i64 px] ∧ IsB pl b W1 from H.new 14 7 (by kernel_rfl))
    exact gives_extract rfl h1 rfl ⟨rfl, Below.refl _ _⟩
  · intro ρ W1 hb1 H
    exact gives_assign rfl rfl ⟨H.new 15 8 (by kernel_rfl), Below.refl _ _⟩
  · intro ρ W1 hb1 H
    exact gives_assign rfl (H.new 16 9 (by kernel_rfl)) ⟨rfl, Below.refl _ _⟩
  · intro vs W1 hb1 hfs
    have f10 : IsB (pl) (vs 10) W1 := hfs 10 (by decide)
    have f11 : vs 11 = .int .i64 px := hfs 11 (by decide)
    clear hfs
    simp only [putAll, Nat.zero_add, Nat.reduceAdd]
    generalize vs 0 = z0
    generalize vs 1 = z1
    generalize vs 2 = z2
    generalize vs 3 = z3
    generalize vs 4 = z4
    generalize vs 5 = z5
    generalize vs 6 = z6
    generalize vs 7 = z7
    generalize vs 8 = z8
    generalize vs 9 = z9
    generalize vs 10 = z10 at f10 ⊢
    simp only [f11, Act.put, List.setIfInBounds_toArray, List.set_cons_succ, List.set_cons_zero]
    clear f11
    have HB := Lib.hid f10
    have HW := Lib.hid hb1
    clear f10 hb1
    go_wp2
    go_ret2
    rw [HE.out]
    exact ⟨_, rfl, HB.out, HW.out⟩
set_option maxHeartbeats 4000000 in
set_option maxRecDepth 100000 in
theorem urun1_1 (p6 p2 p3 g : Nat) (l : List Int) (v : Value) (s : Bool) (w : World) (ht : WTab w) (hv : IsV iv l v w) (hl : ∀ x ∈ l, inInt x) (hb : l.length ≤ 1000000)
    (h6 : Row w p6 139 [.slice (some ⟨g, 0, none⟩) 4 4]) (h2 : Row w p2 47 [v]) (h3 : Row w p3 4 [.bool s]) (hg : Row w g 143 ukcells) :
    Calls Tryz.prog 107 #[.int .i64 1, .pointer (some ⟨p6, 0, none⟩), .pointer (some ⟨p2, 0, none⟩), .pointer (some ⟨p3, 0, none⟩)] w (RetE w (dputE l s)) := by
  have HT := Lib.hid ht
  have HV := Lib.hid hv
  have HPD := Lib.hid (fun W (h : IsV iv l v W) (ht : WTab W) => dput_any l v s W ht h hl hb)
  have HC6 := Lib.hid (show w.cell? ⟨p6, 0, none⟩ = some (.slice (some ⟨g, 0, none⟩) 4 4) from h6.cell 0)
  have HC2 := Lib.hid (show w.cell? ⟨p2, 0, none⟩ = some v from h2.cell 0)
  have HC3 := Lib.hid (show w.cell? ⟨p3, 0, none⟩ = some (.bool s) from h3.cell 0)
  have HF := Lib.hid (show w.cell? ⟨g, 4, none⟩ = some (.func (.func 124) #[] #[]) from hg.cell 4)
  have HL6 := Lib.hid h6.lt
  have HL2 := Lib.hid h2.lt
  have HL3 := Lib.hid h3.lt
  have HLG := Lib.hid hg.lt
  obtain ⟨pl, px, hE⟩ : ∃ pl px, dputE l s = (pl, px) := ⟨_, _, rfl⟩
  rw [hE] at HPD
  have HE := Lib.hid hE
  clear ht hv hl hb h6 h2 h3 hg hE
  go_enter Tryz.func107, Tryz.ntmps107
  go_wp2_with fail
  refine wp_region_list [.is (.slice (some ⟨g, 0, none⟩) 4 4), .is (.int .i64 1), .is (.pointer (some ⟨g, 3, none⟩)), .is (.pointer (some ⟨g, 4, none⟩)), .is (.func (.func 124) #[] #[]), .is (v), .is (.bool s), .putE (pl) (px), .bytes (pl), .is (.int .i64 px), .bytes (pl), .is (.int .i64 px)] [some 7, some 8, some 9, some 10, some 11, some 12, some 13, some 14, some 15, some 16, some 5, some 6] (by kernel_rfl) (by kernel_rfl) (by kernel_rfl) rfl ⟨?_, ?_, ?_, ?_, ?_, ?_, ?_, ?_, ?_, ?_, ?_, ?_, trivial⟩ ?_
  · intro ρ W1 hb1 H
    exact gives_load rfl (H.old 1 _ (by kernel_rfl) rfl) Tryz.underlying139 rfl ((hb1.cell HL6.out).trans HC6.out) ⟨rfl, Below.refl _ _⟩
  · intro ρ W1 hb1 H
    exact gives_move rfl (H.old 0 _ (by kernel_rfl) rfl) ⟨rfl, Below.refl _ _⟩
  · intro ρ W1 hb1 H
    exact gives_indexW (k := 1) elemK rfl (H.new 7 0 (by kernel_rfl)) (H.new 8 1 (by kernel_rfl)) (by omega) ⟨congrArg (fun q => Value.pointer (some q)) (by simp [Addr.add]), Below.refl _ _⟩
  · intro ρ W1 hb1 H
    exact gives_field rfl (H.new 9 2 (by kernel_rfl)) (fun W => kind_at1 3 W _) ⟨rfl, Below.refl _ _⟩
  · intro ρ W1 hb1 H
    exact gives_load rfl (H.new 10 3 (by kernel_rfl)) Tryz.underlying50 rfl ((hb1.cell HLG.out).trans HF.out) ⟨rfl, Below.refl _ _⟩
  · intro ρ W1 hb1 H
    exact gives_load rfl (H.old 2 _ (by kernel_rfl) rfl) Tryz.underlying47 rfl ((hb1.cell HL2.out).trans HC2.out) ⟨rfl, Below.refl _ _⟩
  · intro ρ W1 hb1 H
    exact gives_load rfl (H.old 3 _ (by kernel_rfl) rfl) Tryz.underlying4 rfl ((hb1.cell HL3.out).trans HC3.out) ⟨rfl, Below.refl _ _⟩
  · intro ρ W1 hb1 H
    have e0 : ρ (.tmp 12) = v := H.new 12 5 (by kernel_rfl)
    have e1 : ρ (.tmp 13) = .bool s := H.new 13 6 (by kernel_rfl)
    refine gives_callV rfl (fun _ _ => by kernel_rfl) (H.new 11 4 (by kernel_rfl)) (args := #[v, .bool s]) (by simp [e0, e1]) ?_
    exact (HPD.out W1 (HV.out.below hb1) (HT.out.below hb1 HT.out.lt)).mono fun e w' ⟨b, h1, h2, h3⟩ => ⟨_, h1, ⟨b, rfl, h2⟩, h3⟩
  · intro ρ W1 hb1 H
    obtain ⟨b, h1, h2⟩ := (show ∃ b, ρ (.tmp 14) = .tuple #[b, .int .i64 px] ∧ IsB pl b W1 from H.new 14 7 (by kernel_rfl))
    exact gives_extract rfl h1 rfl ⟨h2, Below.refl _ _⟩
  · intro ρ W1 hb1 H
    obtain ⟨b, h1, h2⟩ := (show ∃ b, ρ (.tmp 14) = .tuple #[b, .int .i64 px] ∧ IsB pl b W1 from H.new 14 7 (by kernel_rfl))
    exact gives_extract rfl h1 rfl ⟨rfl, Below.refl _ _⟩
  · intro ρ W1 hb1 H
    exact gives_assign rfl rfl ⟨H.new 15 8 (by kernel_rfl), Below.refl _ _⟩
  · intro ρ W1 hb1 H
    exact gives_assign rfl (H.new 16 9 (by kernel_rfl)) ⟨rfl, Below.refl _ _⟩
  · intro vs W1 hb1 hfs
    have f10 : IsB (pl) (vs 10) W1 := hfs 10 (by decide)
    have f11 : vs 11 = .int .i64 px := hfs 11 (by decide)
    clear hfs
    simp only [putAll, Nat.zero_add, Nat.reduceAdd]
    generalize vs 0 = z0
    generalize vs 1 = z1
    generalize vs 2 = z2
    generalize vs 3 = z3
    generalize vs 4 = z4
    generalize vs 5 = z5
    generalize vs 6 = z6
    generalize vs 7 = z7
    generalize vs 8 = z8
    generalize vs 9 = z9
    generalize vs 10 = z10 at f10 ⊢
    simp only [f11, Act.put, List.setIfInBounds_toArray, List.set_cons_succ, List.set_cons_zero]
    clear f11
    have HB := Lib.hid f10
    have HW := Lib.hid hb1
    clear f10 hb1
    go_wp2
    go_ret2
    rw [HE.out]
    exact ⟨_, rfl, HB.out, HW.out⟩
set_option maxHeartbeats 4000000 in
set_option maxRecDepth 100000 in
theorem urun1_2 (p6 p2 p3 g : Nat) (l : List Int) (v : Value) (s : Bool) (w : World) (ht : WTab w) (hv : IsV iv l v w) (hl : ∀ x ∈ l, inInt x) (hb : l.length ≤ 1000000)
    (h6 : Row w p6 139 [.slice (some ⟨g, 0, none⟩) 4 4]) (h2 : Row w p2 47 [v]) (h3 : Row w p3 4 [.bool s]) (hg : Row w g 143 ukcells) :
    Calls Tryz.prog 107 #[.int .i64 2, .pointer (some ⟨p6, 0, none⟩), .pointer (some ⟨p2, 0, none⟩), .pointer (some ⟨p3, 0, none⟩)] w (RetE w (gputE l s)) := by
  have HT := Lib.hid ht
  have HV := Lib.hid hv
  have HPG := Lib.hid (fun W (h : IsV iv l v W) (ht : WTab W) => tput_any l v s W ht h hl hb)
  have HC6 := Lib.hid (show w.cell? ⟨p6, 0, none⟩ = some (.slice (some ⟨g, 0, none⟩) 4 4) from h6.cell 0)
  have HC2 := Lib.hid (show w.cell? ⟨p2, 0, none⟩ = some v from h2.cell 0)
  have HC3 := Lib.hid (show w.cell? ⟨p3, 0, none⟩ = some (.bool s) from h3.cell 0)
  have HF := Lib.hid (show w.cell? ⟨g, 7, none⟩ = some (.func (.func 126) #[] #[]) from hg.cell 7)
  have HL6 := Lib.hid h6.lt
  have HL2 := Lib.hid h2.lt
  have HL3 := Lib.hid h3.lt
  have HLG := Lib.hid hg.lt
  obtain ⟨pl, px, hE⟩ : ∃ pl px, gputE l s = (pl, px) := ⟨_, _, rfl⟩
  rw [hE] at HPG
  have HE := Lib.hid hE
  clear ht hv hl hb h6 h2 h3 hg hE
  go_enter Tryz.func107, Tryz.ntmps107
  go_wp2_with fail
  refine wp_region_list [.is (.slice (some ⟨g, 0, none⟩) 4 4), .is (.int .i64 2), .is (.pointer (some ⟨g, 6, none⟩)), .is (.pointer (some ⟨g, 7, none⟩)), .is (.func (.func 126) #[] #[]), .is (v), .is (.bool s), .putE (pl) (px), .bytes (pl), .is (.int .i64 px), .bytes (pl), .is (.int .i64 px)] [some 7, some 8, some 9, some 10, some 11, some 12, some 13, some 14, some 15, some 16, some 5, some 6] (by kernel_rfl) (by kernel_rfl) (by kernel_rfl) rfl ⟨?_, ?_, ?_, ?_, ?_, ?_, ?_, ?_, ?_, ?_, ?_, ?_, trivial⟩ ?_
  · intro ρ W1 hb1 H
    exact gives_load rfl (H.old 1 _ (by kernel_rfl) rfl) Tryz.underlying139 rfl ((hb1.cell HL6.out).trans HC6.out) ⟨rfl, Below.refl _ _⟩
  · intro ρ W1 hb1 H
    exact gives_move rfl (H.old 0 _ (by kernel_rfl) rfl) ⟨rfl, Below.refl _ _⟩
  · intro ρ W1 hb1 H
    exact gives_indexW (k := 2) elemK rfl (H.new 7 0 (by kernel_rfl)) (H.new 8 1 (by kernel_rfl)) (by omega) ⟨congrArg (fun q => Value.pointer (some q)) (by simp [Addr.add]), Below.refl _ _⟩
  · intro ρ W1 hb1 H
    exact gives_field rfl (H.new 9 2 (by kernel_rfl)) (fun W => kind_at1 6 W _) ⟨rfl, Below.refl _ _⟩
  · intro ρ W1 hb1 H
    exact gives_load rfl (H.new 10 3 (by kernel_rfl)) Tryz.underlying50 rfl ((hb1.cell HLG.out).trans HF.out) ⟨rfl, Below.refl _ _⟩
  · intro ρ W1 hb1 H
    exact gives_load rfl (H.old 2 _ (by kernel_rfl) rfl) Tryz.underlying47 rfl ((hb1.cell HL2.out).trans HC2.out) ⟨rfl, Below.refl _ _⟩
  · intro ρ W1 hb1 H
    exact gives_load rfl (H.old 3 _ (by kernel_rfl) rfl) Tryz.underlying4 rfl ((hb1.cell HL3.out).trans HC3.out) ⟨rfl, Below.refl _ _⟩
  · intro ρ W1 hb1 H
    have e0 : ρ (.tmp 12) = v := H.new 12 5 (by kernel_rfl)
    have e1 : ρ (.tmp 13) = .bool s := H.new 13 6 (by kernel_rfl)
    refine gives_callV rfl (fun _ _ => by kernel_rfl) (H.new 11 4 (by kernel_rfl)) (args := #[v, .bool s]) (by simp [e0, e1]) ?_
    exact (HPG.out W1 (HV.out.below hb1) (HT.out.below hb1 HT.out.lt)).mono fun e w' ⟨b, h1, h2, h3⟩ => ⟨_, h1, ⟨b, rfl, h2⟩, h3⟩
  · intro ρ W1 hb1 H
    obtain ⟨b, h1, h2⟩ := (show ∃ b, ρ (.tmp 14) = .tuple #[b, .int .i64 px] ∧ IsB pl b W1 from H.new 14 7 (by kernel_rfl))
    exact gives_extract rfl h1 rfl ⟨h2, Below.refl _ _⟩
  · intro ρ W1 hb1 H
    obtain ⟨b, h1, h2⟩ := (show ∃ b, ρ (.tmp 14) = .tuple #[b, .int .i64 px] ∧ IsB pl b W1 from H.new 14 7 (by kernel_rfl))
    exact gives_extract rfl h1 rfl ⟨rfl, Below.refl _ _⟩
  · intro ρ W1 hb1 H
    exact gives_assign rfl rfl ⟨H.new 15 8 (by kernel_rfl), Below.refl _ _⟩
  · intro ρ W1 hb1 H
    exact gives_assign rfl (H.new 16 9 (by kernel_rfl)) ⟨rfl, Below.refl _ _⟩
  · intro vs W1 hb1 hfs
    have f10 : IsB (pl) (vs 10) W1 := hfs 10 (by decide)
    have f11 : vs 11 = .int .i64 px := hfs 11 (by decide)
    clear hfs
    simp only [putAll, Nat.zero_add, Nat.reduceAdd]
    generalize vs 0 = z0
    generalize vs 1 = z1
    generalize vs 2 = z2
    generalize vs 3 = z3
    generalize vs 4 = z4
    generalize vs 5 = z5
    generalize vs 6 = z6
    generalize vs 7 = z7
    generalize vs 8 = z8
    generalize vs 9 = z9
    generalize vs 10 = z10 at f10 ⊢
    simp only [f11, Act.put, List.setIfInBounds_toArray, List.set_cons_succ, List.set_cons_zero]
    clear f11
    have HB := Lib.hid f10
    have HW := Lib.hid hb1
    clear f10 hb1
    go_wp2
    go_ret2
    rw [HE.out]
    exact ⟨_, rfl, HB.out, HW.out⟩
set_option maxHeartbeats 4000000 in
set_option maxRecDepth 100000 in
theorem urun1_3 (p6 p2 p3 g : Nat) (l : List Int) (v : Value) (s : Bool) (w : World) (ht : WTab w) (hv : IsV iv l v w) (hl : ∀ x ∈ l, inInt x) (hb : l.length ≤ 1000000)
    (h6 : Row w p6 139 [.slice (some ⟨g, 0, none⟩) 4 4]) (h2 : Row w p2 47 [v]) (h3 : Row w p3 4 [.bool s]) (hg : Row w g 143 ukcells) :
    Calls Tryz.prog 107 #[.int .i64 3, .pointer (some ⟨p6, 0, none⟩), .pointer (some ⟨p2, 0, none⟩), .pointer (some ⟨p3, 0, none⟩)] w (RetE w (upat l s)) := by
  have HT := Lib.hid ht
  have HV := Lib.hid hv
  have HPP := Lib.hid (fun W (h : IsV iv l v W) (ht : WTab W) => uputpat_any l v s W ht h hl hb)
  have HC6 := Lib.hid (show w.cell? ⟨p6, 0, none⟩ = some (.slice (some ⟨g, 0, none⟩) 4 4) from h6.cell 0)
  have HC2 := Lib.hid (show w.cell? ⟨p2, 0, none⟩ = some v from h2.cell 0)
  have HC3 := Lib.hid (show w.cell? ⟨p3, 0, none⟩ = some (.bool s) from h3.cell 0)
  have HF := Lib.hid (show w.cell? ⟨g, 10, none⟩ = some (.func (.func 128) #[] #[]) from hg.cell 10)
  have HL6 := Lib.hid h6.lt
  have HL2 := Lib.hid h2.lt
  have HL3 := Lib.hid h3.lt
  have HLG := Lib.hid hg.lt
  obtain ⟨pl, px, hE⟩ : ∃ pl px, upat l s = (pl, px) := ⟨_, _, rfl⟩
  rw [hE] at HPP
  have HE := Lib.hid hE
  clear ht hv hl hb h6 h2 h3 hg hE
  go_enter Tryz.func107, Tryz.ntmps107
  go_wp2_with fail
  refine wp_region_list [.is (.slice (some ⟨g, 0, none⟩) 4 4), .is (.int .i64 3), .is (.pointer (some ⟨g, 9, none⟩)), .is (.pointer (some ⟨g, 10, none⟩)), .is (.func (.func 128) #[] #[]), .is (v), .is (.bool s), .putE (pl) (px), .bytes (pl), .is (.int .i64 px), .bytes (pl), .is (.int .i64 px)] [some 7, some 8, some 9, some 10, some 11, some 12, some 13, some 14, some 15, some 16, some 5, some 6] (by kernel_rfl) (by kernel_rfl) (by kernel_rfl) rfl ⟨?_, ?_, ?_, ?_, ?_, ?_, ?_, ?_, ?_, ?_, ?_, ?_, trivial⟩ ?_
  · intro ρ W1 hb1 H
    exact gives_load rfl (H.old 1 _ (by kernel_rfl) rfl) Tryz.underlying139 rfl ((hb1.cell HL6.out).trans HC6.out) ⟨rfl, Below.refl _ _⟩
  · intro ρ W1 hb1 H
    exact gives_move rfl (H.old 0 _ (by kernel_rfl) rfl) ⟨rfl, Below.refl _ _⟩
  · intro ρ W1 hb1 H
    exact gives_indexW (k := 3) elemK rfl (H.new 7 0 (by kernel_rfl)) (H.new 8 1 (by kernel_rfl)) (by omega) ⟨congrArg (fun q => Value.pointer (some q)) (by simp [Addr.add]), Below.refl _ _⟩
  · intro ρ W1 hb1 H
    exact gives_field rfl (H.new 9 2 (by kernel_rfl)) (fun W => kind_at1 9 W _) ⟨rfl, Below.refl _ _⟩
  · intro ρ W1 hb1 H
    exact gives_load rfl (H.new 10 3 (by kernel_rfl)) Tryz.underlying50 rfl ((hb1.cell HLG.out).trans HF.out) ⟨rfl, Below.refl _ _⟩
  · intro ρ W1 hb1 H
    exact gives_load rfl (H.old 2 _ (by kernel_rfl) rfl) Tryz.underlying47 rfl ((hb1.cell HL2.out).trans HC2.out) ⟨rfl, Below.refl _ _⟩
  · intro ρ W1 hb1 H
    exact gives_load rfl (H.old 3 _ (by kernel_rfl) rfl) Tryz.underlying4 rfl ((hb1.cell HL3.out).trans HC3.out) ⟨rfl, Below.refl _ _⟩
  · intro ρ W1 hb1 H
    have e0 : ρ (.tmp 12) = v := H.new 12 5 (by kernel_rfl)
    have e1 : ρ (.tmp 13) = .bool s := H.new 13 6 (by kernel_rfl)
    refine gives_callV rfl (fun _ _ => by kernel_rfl) (H.new 11 4 (by kernel_rfl)) (args := #[v, .bool s]) (by simp [e0, e1]) ?_
    exact (HPP.out W1 (HV.out.below hb1) (HT.out.below hb1 HT.out.lt)).mono fun e w' ⟨b, h1, h2, h3⟩ => ⟨_, h1, ⟨b, rfl, h2⟩, h3⟩
  · intro ρ W1 hb1 H
    obtain ⟨b, h1, h2⟩ := (show ∃ b, ρ (.tmp 14) = .tuple #[b, .int .i64 px] ∧ IsB pl b W1 from H.new 14 7 (by kernel_rfl))
    exact gives_extract rfl h1 rfl ⟨h2, Below.refl _ _⟩
  · intro ρ W1 hb1 H
    obtain ⟨b, h1, h2⟩ := (show ∃ b, ρ (.tmp 14) = .tuple #[b, .int .i64 px] ∧ IsB pl b W1 from H.new 14 7 (by kernel_rfl))
    exact gives_extract rfl h1 rfl ⟨rfl, Below.refl _ _⟩
  · intro ρ W1 hb1 H
    exact gives_assign rfl rfl ⟨H.new 15 8 (by kernel_rfl), Below.refl _ _⟩
  · intro ρ W1 hb1 H
    exact gives_assign rfl (H.new 16 9 (by kernel_rfl)) ⟨rfl, Below.refl _ _⟩
  · intro vs W1 hb1 hfs
    have f10 : IsB (pl) (vs 10) W1 := hfs 10 (by decide)
    have f11 : vs 11 = .int .i64 px := hfs 11 (by decide)
    clear hfs
    simp only [putAll, Nat.zero_add, Nat.reduceAdd]
    generalize vs 0 = z0
    generalize vs 1 = z1
    generalize vs 2 = z2
    generalize vs 3 = z3
    generalize vs 4 = z4
    generalize vs 5 = z5
    generalize vs 6 = z6
    generalize vs 7 = z7
    generalize vs 8 = z8
    generalize vs 9 = z9
    generalize vs 10 = z10 at f10 ⊢
    simp only [f11, Act.put, List.setIfInBounds_toArray, List.set_cons_succ, List.set_cons_zero]
    clear f11
    have HB := Lib.hid f10
    have HW := Lib.hid hb1
    clear f10 hb1
    go_wp2
    go_ret2
    rw [HE.out]
    exact ⟨_, rfl, HB.out, HW.out⟩
set_option maxHeartbeats 1000000 in
set_option maxRecDepth 100000 in
theorem urun_any (l : List Int) (v : Value) (s : Bool) (w : World) (ht : WTab w) (hv : IsV iv l v w) (hl : ∀ x ∈ l, inInt x) (hb : l.length ≤ 1000000) : Calls Tryz.prog 71 #[v, .bool s] w (RetE w (urunE l s)) := by
  obtain ⟨A, n, c, rfl⟩ := hv.shape
  obtain ⟨v, hv0⟩ : ∃ v, v = Value.slice A n c := ⟨_, rfl⟩
  rw [← hv0] at hv
  obtain ⟨w1, hw1⟩ : ∃ w1, w1 = (w.alloc (.cells #[v] 47)).alloc (.cells #[.bool s] 4) := ⟨_, rfl⟩
  have hb1 : Below w.heap.size w w1 := by rw [hw1]; exact ((Below.refl _ _).alloc (Nat.le_refl _) _).alloc (by simp) _
  have r2 : Row w1 w.heap.size 47 [v] := by
    have h0 : Row (w.alloc (.cells #[v] 47)) w.heap.size 47 [v] := heap_alloc_new w _
    rw [hw1]; exact h0.alloc _
  have r3 : Row w1 (w.heap.size + 1) 4 [.bool s] := by
    rw [hw1]
    have h0 := heap_alloc_new (w.alloc (.cells #[v] 47)) (.cells #[.bool s] 4)
    rw [show (w.alloc (.cells #[v] 47)).heap.size = w.heap.size + 1 by simp] at h0
    exact h0
  have hz1 : w1.heap.size = w.heap.size + 2 := by rw [hw1]; simp
  obtain ⟨w2, hw2⟩ : ∃ w2, w2 = w1.alloc (.cells ukcells.toArray 143) := ⟨_, rfl⟩
  have rg : Row w2 w1.heap.size 143 ukcells := by rw [hw2]; exact heap_alloc_new w1 _
  have hz2 : w2.heap.size = w.heap.size + 3 := by rw [hw2]; simp [hz1]
  have HKI := Lib.hid (show Calls Tryz.prog 105 #[] w1 fun e w' => e = .returned (.slice (some ⟨w1.heap.size, 0, none⟩) 4 4) ∧ w' = w2 from (kinds_any w1).mono fun e w' ⟨h1, h2⟩ => ⟨h1, by rw [h2, hw2]⟩)
  obtain ⟨w3, hw3⟩ : ∃ w3, w3 = w2.alloc (.cells #[.slice (some ⟨w1.heap.size, 0, none⟩) 4 4] 139) := ⟨_, rfl⟩
  have r6 : Row w3 w2.heap.size 139 [.slice (some ⟨w1.heap.size, 0, none⟩) 4 4] := by rw [hw3]; exact heap_alloc_new w2 _
  have hb2 : Below w1.heap.size w1 w2 := by rw [hw2]; exact (Below.refl _ _).alloc (Nat.le_refl _) _
  have hb3 : Below w2.heap.size w2 w3 := by rw [hw3]; exact (Below.refl _ _).alloc (Nat.le_refl _) _
  have hb13 := below_then hb2 hb3
  have hbA := below_then hb1 hb13
  have q2 := r2.below hb13 r2.lt
  have q3 := r3.below hb13 r3.lt
  have qg := rg.below hb3 rg.lt
  have HS := Lib.hid (ushortest_run 4 (fun k => (ukinds l s).getD k ([], 1)) w2.heap.size w.heap.size (w.heap.size + 1) w3 (by omega)
    (fun k W hk hW => by
      have t1 := ht.below (below_then hbA hW) ht.lt
      have t2 := hv.below (below_then hbA hW)
      have t6 := r6.below hW r6.lt
      have t3 := q2.below hW q2.lt
      have t4 := q3.below hW q3.lt
      have t5 := qg.below hW qg.lt
      rcases (by omega : k = 0 ∨ k = 1 ∨ k = 2 ∨ k = 3) with rfl | rfl | rfl | rfl
      · exact urun1_0 _ _ _ _ l v s W t1 t2 hl hb t6 t3 t4 t5
      · exact urun1_1 _ _ _ _ l v s W t1 t2 hl hb t6 t3 t4 t5
      · exact urun1_2 _ _ _ _ l v s W t1 t2 hl hb t6 t3 t4 t5
      · exact urun1_3 _ _ _ _ l v s W t1 t2 hl hb t6 t3 t4 t5)
    (fun k hk h0 => by
      have hmem : (ukinds l s).getD k ([], 1) ∈ ukinds l s := by
        unfold ukinds
        rcases (by omega : k = 0 ∨ k = 1 ∨ k = 2 ∨ k = 3) with rfl | rfl | rfl | rfl <;> simp
      exact Nat.pos_of_ne_zero (ukinds_len _ hmem h0)))
  have HE := Lib.hid (show uans (((List.range 4).map fun k => (ukinds l s).getD k ([], 1)).foldl ubest none) = urunE l s by rw [urun_kinds]; rfl)
  rw [HE.out, show ((4 : Nat) : Int) = 4 from rfl, hz2] at HS
  have HB := Lib.hid hbA
  rw [hw3, hz1] at HS HB
  rw [hz1, hw1, hv0] at HKI
  clear ht hv hl hb r2 r3 rg r6 hb1 hb2 hb3 hb13 hbA q2 q3 qg hw2 hw3
  go_enter Tryz.func71, Tryz.ntmps71
  go_wp2_with (first | (go_at_call 105; refine HKI.out.mono ?_; rintro e w' ⟨rfl, rfl⟩) | (go_at_call 106; refine HS.out.mono ?_; rintro e w4 ⟨v4, rfl, hv4, hb4⟩; have HV4 := Lib.hid hv4; have HB4 := Lib.hid (below_then HB.out hb4); clear hv4 hb4))
  go_ret2
  exact ⟨_, rfl, HV4.out, HB4.out⟩
end Go.Proofs.YtblpkmmhmdpkjaaGreatDoor

/- rle's own contracts: takeRepeat, takeRun (slices.IndexFunc with its closure). Written by gen_utk.py. -/











namespace Go.Proofs.YtblpkmmhmdpkjaaGreatDoor

open Go.RowKit

set_option maxHeartbeats 1000000 in
set_option maxRecDepth 100000 in
theorem utakerep_any (l : List UInt8) (v : Value) (s : Bool) (w : World) (hv : IsB l v w) (hb : l.length ≤ 1000000) :
    Calls Tryz.prog 123 #[v, .bool s] w (RetIB w (List.replicate (etake l s).2.1.toNat (etake l s).1, (etake l s).2.2.1, (etake l s).2.2.2)) := by
  have HT := Lib.hid (etake_own l v s w hv hb)
  have hbd := etake_bd (b := l) (s := s)
  have hno := etake_no (b := l) (s := s)
  obtain ⟨x, t, r, e, he⟩ : ∃ x t r e, etake l s = (x, t, r, e) := ⟨_, _, _, _, rfl⟩
  rw [he] at HT hbd hno ⊢
  dsimp only at hbd hno ⊢
  by_cases h0 : e = 0
  · subst h0
    obtain ⟨h3, h10, -⟩ := hbd rfl
    obtain ⟨m, rfl⟩ := Int.eq_ofNat_of_zero_le (show 0 ≤ t by omega)
    have hm3 : 3 ≤ m := by omega
    have hm10 : m ≤ 10 := by omega
    rw [show ((m : Int)).toNat = m from Int.toNat_natCast m]
    clear hv hb hno he h3 h10 hbd
    go_enter Tryz.func123, Tryz.ntmps123
    go_wp2_with fail
    refine HT.out.mono ?_
    rintro e w1 ⟨rv, rfl, hr, hb1⟩
    have HR := Lib.hid hr.isB
    have HB := Lib.hid hb1
    have hbA : Below w1.heap.size w1 (w1.alloc (.cells #[.int .i64 x] 3)) := (Below.refl _ _).alloc (Nat.le_refl _) _
    have HREP := Lib.hid (xrepeat_any x w1.heap.size 1 m (w1.alloc (.cells #[.int .i64 x] 3)) (heap_alloc_new w1 _) (by omega) (by omega))
    have HBA := Lib.hid hbA
    clear hr hb1 hbA
    go_wp2_with (go_at_call 135; refine HREP.out.mono ?_; rintro e w2 ⟨g, rfl, hg, hrow, hb2⟩)
    have hI : IsV iv (List.replicate m x) (.slice (some ⟨g, 0, none⟩) m m) w2 := isV_row (by rw [← ics_map]; exact hrow) (by rw [List.length_replicate]) (by omega)
    have HI := Lib.hid hI
    have hb3 := below_then HBA.out hb2
    have HB3 := Lib.hid (below_then HB.out hb3)
    have HR3 := Lib.hid (IsB.below HR.out hb3)
    clear hI hrow hb2 hb3 hg
    go_wp2
    go_ret3
    exact ⟨_, _, rfl, HI.out, HR3.out, HB3.out⟩
  · have hE := hno h0
    injection hE with e1 hE; injection hE with e2 hE; injection hE with e3 e4
    subst e1 e2 e3 e4
    clear hv hb hno he hbd h0
    go_enter Tryz.func123, Tryz.ntmps123
    go_wp2_with fail
    refine HT.out.mono ?_
    rintro e w1 ⟨rv, rfl, hr, hb1⟩
    have HB := Lib.hid hb1
    clear hr hb1
    go_wp2
    go_ret3
    exact RetIB.nil _ HB.out
def kb : Nat → Nat
  | 0 => 0
  | 1 => 1
  | 2 => 3
  | _ => 2
def kf (k : Nat) : Value := (kcs k).getD 1 .nilFunc
def kg (k : Nat) : Value := (kcs k).getD 2 .nilFunc
theorem kcs_eq (k : Nat) : kcs k = [.int .u8 (kb k : Int), kf k, kg k] := by
  rcases k with _ | _ | _ | k <;> rfl
theorem kcs_len (k : Nat) : (kcs k).length = 3 := by rw [kcs_eq]; rfl
theorem ucells3 {w : World} {ad : Addr} {k x : Nat} (h : ∀ i, i < 3 → w.cell? (ad.add (k * 3 + i)) = (kcs x)[i]?) :
    w.cell? (ad.add (k * 3)) = some (.int .u8 (kb x : Int)) ∧ w.cell? ⟨(ad.add (k * 3)).block, (ad.add (k * 3)).off + 1, none⟩ = some (kf x) ∧ w.cell? ⟨(ad.add (k * 3)).block, (ad.add (k * 3)).off + 2, none⟩ = some (kg x) := by
  have h0 := h 0 (by omega)
  have h1 := h 1 (by omega); rw [← add_add] at h1
  have h2 := h 2 (by omega); rw [← add_add] at h2
  rw [kcs_eq] at h0 h1 h2
  exact ⟨h0, h1, h2⟩
set_option maxRecDepth 100000 in
theorem ulit_any (x fv gv : Value) (K : Nat) (b : Nat) (ad : Addr) (n c B q : Nat) (w : World) (hx : x = .agg #[.int .u8 (K : Int), fv, gv]) (_hf : fv.cells = #[fv]) (_hg : gv.cells = #[gv]) (hr : Row w b 38 [.slice (some ad) n c]) (hn : 0 < n) (had : ad.block < w.heap.size) (hc : w.cell? ad = some (.int .u8 (B : Int))) (hq : q = B / 64) :
    Calls Tryz.prog 132 #[x, .pointer (some ⟨b, 0, none⟩)] w fun e w' => e = .returned (.bool (decide (K = q))) ∧ Below w.heap.size w w' := by
  subst hx
  obtain ⟨w1, hw1⟩ : ∃ w1, w1 = w.alloc (.cells #[.int .u8 (K : Int), fv, gv] 143) := ⟨_, rfl⟩
  have hb1 : Below w.heap.size w w1 := by rw [hw1]; exact (Below.refl _ _).alloc (Nat.le_refl _) _
  have r1 : Row w1 w.heap.size 143 [.int .u8 (K : Int), fv, gv] := by rw [hw1]; exact heap_alloc_new w _
  have k1 : w1.cell? ⟨w.heap.size, 0, none⟩ = some (.int .u8 (K : Int)) := r1.cell 0
  have r2 := hr.below hb1 hr.lt
  have k2 : w1.cell? ⟨b, 0, none⟩ = some (.slice (some ad) n c) := r2.cell 0
  have k3 : w1.cell? ad = some (.int .u8 (B : Int)) := (hb1.cell had).trans hc
  have HB := Lib.hid hb1
  have HD := Lib.hid (show decide (K = q) = ((K : Int) == (q : Int)) by
    by_cases h : K = q
    · rw [h]; simp
    · rw [decide_eq_false h]; symm; simp; omega)
  have hn0 : (0 : Int) < (n : Int) := by omega
  have HQ := Lib.hid hq
  rw [hw1] at k1 k2 k3 HB
  clear hr had hc hb1 r1 r2 hw1 hq
  go_enter Tryz.func132, Tryz.ntmps132
  go_wp2
  go_quiet (fail)
  go_wp2
  go_ret
  refine ⟨?_, below_drewN HB.out nq⟩
  rw [HD.out, show (q : Int) = (B : Int) / 64 from by have := HQ.out; omega]
  rfl
def IxRel (q : Nat) (w : World) (i : Value) (wr : World) : Prop := ∃ k : Nat, k ≤ 4 ∧ i = .int .i64 (k : Int) ∧ (∀ j, j < k → kb j ≠ q) ∧ Below w.heap.size w wr
set_option maxHeartbeats 2000000 in
set_option maxRecDepth 100000 in
theorem uindex_any (v : Value) (b : Nat) (ad : Addr) (n c B q : Nat) (w : World) (hv : IsR kcs (List.range 4) v w) (hr : Row w b 38 [.slice (some ad) n c]) (hn : 0 < n) (had : ad.block < w.heap.size) (hc : w.cell? ad = some (.int .u8 (B : Int))) (hq : q = B / 64) (hq4 : q < 4) :
    Calls Tryz.prog 131 #[v, .func (.func 132) #[] #[.pointer (some ⟨b, 0, none⟩)]] w
      fun e w' => (∃ r : Nat, e = .returned (.int .i64 (r : Int)) ∧ r < 4 ∧ kb r = q) ∧ Below w.heap.size w w' := by
  obtain ⟨A, n4, c4, rfl⟩ := hv.shape
  obtain rfl : n4 = 4 := by have := hv.parts.1; simpa using this.symm
  have HV := Lib.hid hv
  have HR := Lib.hid hr
  have HC := Lib.hid hc
  have HAD := Lib.hid had
  have HQ := Lib.hid hq
  have HS := Lib.hid (show IxRel q w (.int .i64 0) w from ⟨0, Nat.zero_le _, rfl, fun j h => absurd h (Nat.not_lt_zero _), Below.refl _ _⟩)
  clear hv hr hc had hq
  go_enter Tryz.func131, Tryz.ntmps131
  go_wp2
  go_loopw [8] (IxRel q w) (fun i _ => 4 - (intOf i).toNat)
  case atStart => exact HS.out
  case round =>
    obtain ⟨k, hk, rfl, hs, hbw⟩ := hrel
    have HSM := Lib.hid hs
    have HB := Lib.hid hbw
    clear hs HS
    by_cases hlt : k < 4
    · have hkl : k < (List.range 4).length := by simpa using hlt
      have hlti : (k : Int) < 4 := by omega
      obtain ⟨adk, rfl, hadk, hcell⟩ := (HV.out.below hbw).at (m := 3) kcs_len (by omega) hkl
      rw [List.getElem_range] at hcell
      obtain ⟨k1, k2, k3⟩ := ucells3 hcell
      obtain ⟨K, hK⟩ : ∃ K, K = kb k := ⟨_, rfl⟩
      obtain ⟨fv, hfv⟩ : ∃ fv, fv = kf k := ⟨_, rfl⟩
      obtain ⟨gv, hgv⟩ : ∃ gv, gv = kg k := ⟨_, rfl⟩
      rw [← hK] at k1
      rw [← hfv] at k2
      rw [← hgv] at k3
      have hf1 : fv.cells = #[fv] := by rw [hfv]; rcases k with _ | _ | _ | k <;> rfl
      have hg1 : gv.cells = #[gv] := by rw [hgv]; rcases k with _ | _ | _ | k <;> rfl
      have HL := Lib.hid (ulit_any (.agg #[.int .u8 (K : Int), fv, gv]) fv gv K b ad n c B q wr rfl hf1 hg1 (HR.out.below hbw HR.out.lt) hn (Nat.lt_of_lt_of_le HAD.out hbw.size) ((hbw.cell HAD.out).trans HC.out) HQ.out)
      have HK := Lib.hid hK
      obtain ⟨t, ht⟩ : ∃ t, t = decide (K = q) := ⟨_, rfl⟩
      rw [← ht] at HL
      have HTT := Lib.hid ht
      clear hcell hbw hK hfv hgv ht
      cases t with
      | true =>
        have HKQ := Lib.hid (show kb k = q by have := HTT.out; rw [← HK.out]; exact of_decide_eq_true this.symm)
        go_wp2_with (go_at_call 132; refine HL.out.mono ?_; rintro e w1 ⟨rfl, hb1⟩)
        go_ret
        exact ⟨⟨_, rfl, hlt, HKQ.out⟩, below_then HB.out hb1⟩
      | false =>
        have HKQ := Lib.hid (show kb k ≠ q by have := HTT.out; rw [← HK.out]; exact of_decide_eq_false this.symm)
        go_wp2_with (go_at_call 132; refine HL.out.mono ?_; rintro e w1 ⟨rfl, hb1⟩)
        go_roundw
        case rel => exact ⟨k + 1, hlt, by go_num, fun j hj => (by
          by_cases h : j < k
          · exact HSM.out j h
          · obtain rfl : j = k := by omega
            exact HKQ.out), below_then HB.out hb1⟩
        case measure => simp [intOf]; omega
    · exfalso
      obtain rfl : k = 4 := by omega
      have h0 := HSM.out 0 (by omega)
      have h1 := HSM.out 1 (by omega)
      have h2 := HSM.out 2 (by omega)
      have h3 := HSM.out 3 (by omega)
      simp only [kb] at h0 h1 h2 h3
      omega
/-- What takeRun answers. -/
def RetRun (l : List UInt8) (v : Value) (w : World) (p : List Int × List UInt8 × Int) (e : Ending) (w' : World) : Prop :=
  (p.2.2 ≠ 0 ∧ e = .returned (.tuple #[.slice none 0 0, .slice none 0 0, .bool false]) ∧ Below w.heap.size w w') ∨
  (p.2.2 = 0 ∧ ∃ u r, e = .returned (.tuple #[u, r, .bool true]) ∧ IsV iv p.1 u w' ∧ (∀ W, IsB l v W → IsB p.2.1 r W) ∧ Below w.heap.size w w')
set_option maxHeartbeats 4000000 in
set_option maxRecDepth 100000 in
theorem utakerun_any (l : List UInt8) (v : Value) (s : Bool) (w : World) (ht : WTab w) (hv : IsB l v w) (hb : l.length ≤ 1000000) :
    Calls Tryz.prog 117 #[v, .bool s] w (RetRun l v w (uone l s)) := by
  obtain ⟨A, n, c, rfl⟩ := IsV.shape (f := bv) hv
  have HV : Hid (IsV bv l (.slice A n c) w) := Lib.hid hv
  have hp := HV.out.parts
  have HN := Lib.hid hp.1
  have hnc : n ≤ c := hp.2.2.1
  have hci : (c : Int) ≤ 9223372036854775807 := by have := hp.2.2.2.1; unfold maxLen at this; omega
  have hn6 : n ≤ 1000000 := by have := HN.out; omega
  by_cases h0 : n = 0
  · subst h0
    have HE : Hid ((uone l s).2.2 ≠ 0) := Lib.hid (by
      rw [show l = [] from List.eq_nil_of_length_eq_zero HN.out, uone_nil]; simp)
    have HB := Lib.hid ((Below.refl w.heap.size w).alloc (Nat.le_refl _) (.cells #[.slice A 0 c] 38))
    clear hv hb hp ht
    go_enter Tryz.func117, Tryz.ntmps117
    go_wp2
    go_ret3
    exact .inl ⟨HE.out, rfl, HB.out⟩
  · have h0i : ((n : Int) == 0) = false := by simp; omega
    have hn0 : 0 < n := by omega
    have hkl : 0 < l.length := by have := HN.out; omega
    obtain ⟨ad, rfl, had, hcell⟩ := HV.out.at hkl
    obtain ⟨b0, hb0⟩ : ∃ b0, b0 = l[0].toNat := ⟨_, rfl⟩
    have hc0 : w.cell? ad = some (.int .u8 (b0 : Int)) := by
      rw [← uadd_zero ad, hcell, hb0]; rfl
    have hb8 : b0 < 256 := by rw [hb0]; exact UInt8.toNat_lt _
    obtain ⟨q, hq⟩ : ∃ q, q = b0 / 64 := ⟨_, rfl⟩
    have hq4 : q < 4 := by omega
    obtain ⟨m, hm⟩ : ∃ m, m = min n 4356 := ⟨_, rfl⟩
    have hmn : m ≤ n := by omega
    have hmc : m ≤ c := by omega
    have hm6 : m ≤ 1000000 := by omega
    have hmin : ∀ (ts : Array TypeId) (t : TypeId) (W : World), (Builtin.min_ ts t #[.int .i64 (n : Int), .int .i64 4356]).run Tryz.prog W = .ok (.int .i64 (m : Int)) W := fun ts t W => by
      rw [run_min_int2]
      congr 2
      split <;> omega
    obtain ⟨sh, hsh⟩ : ∃ sh, sh = l.take 4356 := ⟨_, rfl⟩
    have hshm : sh = l.take m := by
      rw [hsh, hm]
      by_cases h : n ≤ 4356
      · rw [Nat.min_eq_left h, List.take_of_length_le (by have := HN.out; omega), List.take_of_length_le (by have := HN.out; omega)]
      · rw [Nat.min_eq_right (by omega)]
    have HSL := Lib.hid (show sh.length = m by rw [hshm, List.length_take]; have := HN.out; omega)
    have hs0 : 0 < sh.length := by have := HSL.out; omega
    have HK := Lib.hid (uone_kind (s := s) (q := q) hs0 (by
      rw [hq, hb0]
      congr 2
      simp [hsh]))
    have hsn := uone_shown (b := l) (sh := sh) (s := s) hsh
    obtain ⟨px4, pr, px, hpx⟩ : ∃ a b c, uone sh s = (a, b, c) := ⟨_, _, _, rfl⟩
    rw [hpx] at hsn
    have HP := Lib.hid hpx
    have HNO := Lib.hid hsn.1
    have HOK := Lib.hid hsn.2
    -- the boxes
    obtain ⟨w1, hw1⟩ : ∃ w1, w1 = w.alloc (.cells #[.slice (some ad) n c] 38) := ⟨_, rfl⟩
    have hb1 : Below w.heap.size w w1 := by rw [hw1]; exact (Below.refl _ _).alloc (Nat.le_refl _) _
    have r1 : Row w1 w.heap.size 38 [.slice (some ad) n c] := by rw [hw1]; exact heap_alloc_new w _
    have hz1 : w1.heap.size = w.heap.size + 1 := by rw [hw1]; simp
    obtain ⟨w2, hw2⟩ : ∃ w2, w2 = w1.alloc (.cells ukcells.toArray 143) := ⟨_, rfl⟩
    have hb2' : Below w1.heap.size w1 w2 := by rw [hw2]; exact (Below.refl _ _).alloc (Nat.le_refl _) _
    have hb2 := below_then hb1 hb2'
    have r2 : Row w2 w1.heap.size 143 ((List.range 4).flatMap kcs) := by rw [hw2]; exact heap_alloc_new w1 _
    have hI2 : IsR kcs (List.range 4) (.slice (some ⟨w1.heap.size, 0, none⟩) 4 4) w2 := isR_row r2 (by simp) (by omega)
    have HKI := Lib.hid (show Calls Tryz.prog 105 #[] w1 fun e w' => e = .returned (.slice (some ⟨w1.heap.size, 0, none⟩) 4 4) ∧ w' = w2 from (kinds_any w1).mono fun e w' ⟨h1, h2⟩ => ⟨h1, by rw [h2, hw2]⟩)
    have HIX := Lib.hid (uindex_any _ w.heap.size ad n c b0 q w2 hI2 (r1.below hb2' r1.lt) hn0 (Nat.lt_of_lt_of_le had hb2.size) ((hb2.cell had).trans hc0) hq hq4)
    have HI2 := Lib.hid hI2
    have HR1 := Lib.hid (r1.below hb2' r1.lt)
    have HB2 := Lib.hid hb2
    have HT := Lib.hid ht
    have HSV0 : Hid (IsB sh (.slice (some ad) m c) w) := Lib.hid (by rw [hshm]; exact HV.out.take hmn)
    have hz2 : w.heap.size < w2.heap.size := by have := hb2'.size; omega
    clear hv hb hp ht hcell hb0 hc0 hq hm hsh hshm hs0 hsn hpx hb1 r1 hb2' hb2 r2 hI2 hw2 hkl h0
    rw [hz1, hw1] at HKI
    rw [hz1] at HIX HI2
    clear hw1 hz1
    go_enter Tryz.func117, Tryz.ntmps117
    go_wp2_with (first | (go_at_call 105; refine HKI.out.mono ?_; rintro e w' ⟨rfl, rfl⟩) | (go_at_call 131; refine HIX.out.mono ?_))
    rintro e w3 ⟨⟨r, rfl, hr, hkb⟩, hb3⟩
    have hrl : r < (List.range 4).length := by simpa using hr
    obtain ⟨adk, hadk, hadl, hcell⟩ := (HI2.out.below hb3).at (m := 3) kcs_len (by omega) hrl
    rw [List.getElem_range] at hcell
    obtain ⟨_, _, k3⟩ := ucells3 hcell
    have HC2 := Lib.hid k3
    have HB3 := Lib.hid (below_then HB2.out hb3)
    have r3 := HR1.out.below hb3 HR1.out.lt
    have HCB3 := Lib.hid (show w3.cell? ⟨w.heap.size, 0, none⟩ = some (.slice (some ad) n c) from r3.cell 0)
    have hcb3 := HCB3.out
    have HLB3 := Lib.hid (Nat.lt_of_lt_of_le hz2 hb3.size)
    have HSV := Lib.hid (IsB.below HSV0.out HB3.out)
    have HT3 := Lib.hid (HT.out.below HB3.out HT.out.lt)
    injection hadk with hadk
    clear hcell k3 r3 hb3 hrl hadl
    rw [hadk]
    clear hadk
    have hr4 : (r : Int) < 4 := by omega
    rcases (by omega : r = 0 ∨ r = 1 ∨ r = 2 ∨ r = 3) with h | h | h | h
    · obtain rfl : q = 0 := by rw [h] at hkb; simpa [kb] using hkb.symm
      have HE : Hid (uone sh s = (List.replicate (etake sh s).2.1.toNat (etake sh s).1, (etake sh s).2.2.1, (etake sh s).2.2.2)) := Lib.hid (by rw [HK.out, if_neg (by decide), if_neg (by decide), if_neg (by decide)])
      have HTK := Lib.hid (fun W (h : IsB sh (.slice (some ad) m c) W) (ht : WTab W) => (show Calls Tryz.prog 123 #[.slice (some ad) m c, .bool s] W (RetIB W ((List.replicate (etake sh s).2.1.toNat (etake sh s).1, (etake sh s).2.2.1, (etake sh s).2.2.2))) from utakerep_any sh _ s W h (by have := HSL.out; omega)))
      rw [← HE.out, HP.out] at HTK
      have hc2 : w3.cell? ⟨(adk.add (r * 3)).block, (adk.add (r * 3)).off + 2, none⟩ = some (.func (.func 123) #[] #[]) := by rw [HC2.out, h]; rfl
      clear HE HK hkb hr h
      go_wp2_with fail
      refine (HTK.out _ HSV.out HT3.out).mono ?_
      rintro e4 w4 ⟨u4, r4, rfl, hu4, hr4, hb4⟩
      have HU4 := Lib.hid hu4
      have HR4 := Lib.hid hr4
      have HB4 := Lib.hid (below_then HB3.out hb4)
      have HCB4 := Lib.hid ((hb4.cell HLB3.out).trans HCB3.out)
      have HLB4 := Lib.hid (Nat.lt_of_lt_of_le HLB3.out hb4.size)
      clear hu4 hr4 hb4
      by_cases hx : px = 0
      · subst hx
        have d1 : ((0 : Int) != 0) = false := rfl
        obtain ⟨hr1, hr2⟩ := HOK.out rfl
        obtain ⟨A5, k5, c5, rfl⟩ := IsV.shape (f := bv) HR4.out
        have hk5 := (IsV.parts (f := bv) (show IsV bv pr _ _ from HR4.out)).1
        obtain ⟨j, hj⟩ : ∃ j, j = m - k5 := ⟨_, rfl⟩
        have hk5m : k5 ≤ m := by rw [← hk5]; have := HSL.out; omega
        have hjn : j ≤ n := by omega
        have HJ := Lib.hid (show (m : Int) - (k5 : Int) = (j : Int) by omega)
        have HSH : Hid (uone l s = (px4, l.drop j, 0)) := Lib.hid (by rw [hr2, hj, ← hk5, HSL.out])
        obtain ⟨v6, hv6, hI6⟩ := fromV_named (P := Tryz.prog) (f := bv) elemB (k := j) hjn HV.out
        have HV6 := Lib.hid hv6
        have HI6 : Hid (∀ W, IsB l (.slice (some ad) n c) W → IsB (l.drop j) v6 W) := Lib.hid (fun W hW => by
          obtain ⟨v7, hv7, hI7⟩ := fromV_named (P := Tryz.prog) (f := bv) elemB (k := j) hjn hW
          have h := (hv6 w).symm.trans (hv7 w)
          injection h with h _
          rw [h]
          exact hI7)
        clear hr1 hr2 hk5 hj hv6 hI6 HR4 hjn
        go_wp2_with fail
        refine wp_region_list [.is (u4), .is (.slice (some ad) n c), .is (.slice (some ad) m c), .is (.int .i64 (m : Int)), .is (.slice A5 k5 c5), .is (.int .i64 (k5 : Int)), .is (.int .i64 (j : Int)), .is (v6), .is (u4), .is (v6), .is (.bool true)] [some 39, some 40, some 41, some 42, some 43, some 44, some 45, some 46, some 4, some 5, some 6] (by kernel_rfl) (by kernel_rfl) (by kernel_rfl) rfl ⟨?_, ?_, ?_, ?_, ?_, ?_, ?_, ?_, ?_, ?_, ?_, trivial⟩ ?_
        · intro ρ W1 hb1 H
          exact gives_move rfl (H.old 10 _ (by kernel_rfl) rfl) ⟨rfl, Below.refl _ _⟩
        · intro ρ W1 hb1 H
          exact gives_load rfl (H.old 2 _ (by kernel_rfl) rfl) Tryz.underlying38 rfl ((hb1.cell HLB4.out).trans HCB4.out) ⟨rfl, Below.refl _ _⟩
        · intro ρ W1 hb1 H
          exact gives_move rfl (H.old 9 _ (by kernel_rfl) rfl) ⟨rfl, Below.refl _ _⟩
        · intro ρ W1 hb1 H
          exact gives_len Tryz.underlying38 rfl (H.new 41 2 (by kernel_rfl)) ⟨rfl, Below.refl _ _⟩
        · intro ρ W1 hb1 H
          exact gives_move rfl (H.old 11 _ (by kernel_rfl) rfl) ⟨rfl, Below.refl _ _⟩
        · intro ρ W1 hb1 H
          exact gives_len Tryz.underlying38 rfl (H.new 43 4 (by kernel_rfl)) ⟨rfl, Below.refl _ _⟩
        · intro ρ W1 hb1 H
          exact gives_sub rfl (H.new 42 3 (by kernel_rfl)) (H.new 44 5 (by kernel_rfl)) (by omega) (by omega) ⟨congrArg (Value.int .i64) HJ.out, Below.refl _ _⟩
        · intro ρ W1 hb1 H
          have e1 : ρ (.tmp 45) = .int .i64 (j : Int) := (H.new 45 6 (by kernel_rfl))
          exact gives_slice rfl (H.new 40 1 (by kernel_rfl)) (by simp only [Option.map_some]; rw [e1]) rfl rfl (HV6.out W1) ⟨rfl, Below.refl _ _⟩
        · intro ρ W1 hb1 H
          exact gives_assign rfl (H.new 39 0 (by kernel_rfl)) ⟨rfl, Below.refl _ _⟩
        · intro ρ W1 hb1 H
          exact gives_assign rfl (H.new 46 7 (by kernel_rfl)) ⟨rfl, Below.refl _ _⟩
        · intro ρ W1 hb1 H
          exact gives_assign rfl (H.const _) ⟨rfl, Below.refl _ _⟩
        · intro vs W1 hb1 hfs
          have f8 : vs 8 = u4 := hfs 8 (by decide)
          have f9 : vs 9 = v6 := hfs 9 (by decide)
          have f10 : vs 10 = .bool true := hfs 10 (by decide)
          clear hfs
          simp only [putAll, Nat.zero_add, Nat.reduceAdd]
          generalize vs 0 = z0
          generalize vs 1 = z1
          generalize vs 2 = z2
          generalize vs 3 = z3
          generalize vs 4 = z4
          generalize vs 5 = z5
          generalize vs 6 = z6
          generalize vs 7 = z7
          simp only [f8, f9, f10, Act.put, List.setIfInBounds_toArray, List.set_cons_succ, List.set_cons_zero]
          clear f8 f9 f10
          have HB6 := Lib.hid (below_then HB4.out hb1)
          have HU6 := Lib.hid (HU4.out.below hb1)
          clear hb1
          go_wp2
          go_ret3
          exact .inr ⟨by rw [HSH.out], _, _, rfl, by rw [HSH.out]; exact HU6.out, by rw [HSH.out]; exact HI6.out, HB6.out⟩
      · have d1 : (px != 0) = true := by simpa using hx
        have HX : Hid ((uone l s).2.2 ≠ 0) := Lib.hid (HNO.out hx)
        clear hx HU4 HR4
        go_wp2
        go_ret3
        exact .inl ⟨HX.out, rfl, HB4.out⟩
    · obtain rfl : q = 1 := by rw [h] at hkb; simpa [kb] using hkb.symm
      have HE : Hid (uone sh s = dtakeE sh s) := Lib.hid (by rw [HK.out, if_pos rfl])
      have HTK := Lib.hid (fun W (h : IsB sh (.slice (some ad) m c) W) (ht : WTab W) => (show Calls Tryz.prog 125 #[.slice (some ad) m c, .bool s] W (RetIB W (dtakeE sh s)) from (dtake_own sh _ s W ht h (by have := HSL.out; omega)).mono fun _ _ h => h.ib))
      rw [← HE.out, HP.out] at HTK
      have hc2 : w3.cell? ⟨(adk.add (r * 3)).block, (adk.add (r * 3)).off + 2, none⟩ = some (.func (.func 125) #[] #[]) := by rw [HC2.out, h]; rfl
      clear HE HK hkb hr h
      go_wp2_with fail
      refine (HTK.out _ HSV.out HT3.out).mono ?_
      rintro e4 w4 ⟨u4, r4, rfl, hu4, hr4, hb4⟩
      have HU4 := Lib.hid hu4
      have HR4 := Lib.hid hr4
      have HB4 := Lib.hid (below_then HB3.out hb4)
      have HCB4 := Lib.hid ((hb4.cell HLB3.out).trans HCB3.out)
      have HLB4 := Lib.hid (Nat.lt_of_lt_of_le HLB3.out hb4.size)
      clear hu4 hr4 hb4
      by_cases hx : px = 0
      · subst hx
        have d1 : ((0 : Int) != 0) = false := rfl
        obtain ⟨hr1, hr2⟩ := HOK.out rfl
        obtain ⟨A5, k5, c5, rfl⟩ := IsV.shape (f := bv) HR4.out
        have hk5 := (IsV.parts (f := bv) (show IsV bv pr _ _ from HR4.out)).1
        obtain ⟨j, hj⟩ : ∃ j, j = m - k5 := ⟨_, rfl⟩
        have hk5m : k5 ≤ m := by rw [← hk5]; have := HSL.out; omega
        have hjn : j ≤ n := by omega
        have HJ := Lib.hid (show (m : Int) - (k5 : Int) = (j : Int) by omega)
        have HSH : Hid (uone l s = (px4, l.drop j, 0)) := Lib.hid (by rw [hr2, hj, ← hk5, HSL.out])
        obtain ⟨v6, hv6, hI6⟩ := fromV_named (P := Tryz.prog) (f := bv) elemB (k := j) hjn HV.out
        have HV6 := Lib.hid hv6
        have HI6 : Hid (∀ W, IsB l (.slice (some ad) n c) W → IsB (l.drop j) v6 W) := Lib.hid (fun W hW => by
          obtain ⟨v7, hv7, hI7⟩ := fromV_named (P := Tryz.prog) (f := bv) elemB (k := j) hjn hW
          have h := (hv6 w).symm.trans (hv7 w)
          injection h with h _
          rw [h]
          exact hI7)
        clear hr1 hr2 hk5 hj hv6 hI6 HR4 hjn
        go_wp2_with fail
        refine wp_region_list [.is (u4), .is (.slice (some ad) n c), .is (.slice (some ad) m c), .is (.int .i64 (m : Int)), .is (.slice A5 k5 c5), .is (.int .i64 (k5 : Int)), .is (.int .i64 (j : Int)), .is (v6), .is (u4), .is (v6), .is (.bool true)] [some 39, some 40, some 41, some 42, some 43, some 44, some 45, some 46, some 4, some 5, some 6] (by kernel_rfl) (by kernel_rfl) (by kernel_rfl) rfl ⟨?_, ?_, ?_, ?_, ?_, ?_, ?_, ?_, ?_, ?_, ?_, trivial⟩ ?_
        · intro ρ W1 hb1 H
          exact gives_move rfl (H.old 10 _ (by kernel_rfl) rfl) ⟨rfl, Below.refl _ _⟩
        · intro ρ W1 hb1 H
          exact gives_load rfl (H.old 2 _ (by kernel_rfl) rfl) Tryz.underlying38 rfl ((hb1.cell HLB4.out).trans HCB4.out) ⟨rfl, Below.refl _ _⟩
        · intro ρ W1 hb1 H
          exact gives_move rfl (H.old 9 _ (by kernel_rfl) rfl) ⟨rfl, Below.refl _ _⟩
        · intro ρ W1 hb1 H
          exact gives_len Tryz.underlying38 rfl (H.new 41 2 (by kernel_rfl)) ⟨rfl, Below.refl _ _⟩
        · intro ρ W1 hb1 H
          exact gives_move rfl (H.old 11 _ (by kernel_rfl) rfl) ⟨rfl, Below.refl _ _⟩
        · intro ρ W1 hb1 H
          exact gives_len Tryz.underlying38 rfl (H.new 43 4 (by kernel_rfl)) ⟨rfl, Below.refl _ _⟩
        · intro ρ W1 hb1 H
          exact gives_sub rfl (H.new 42 3 (by kernel_rfl)) (H.new 44 5 (by kernel_rfl)) (by omega) (by omega) ⟨congrArg (Value.int .i64) HJ.out, Below.refl _ _⟩
        · intro ρ W1 hb1 H
          have e1 : ρ (.tmp 45) = .int .i64 (j : Int) := (H.new 45 6 (by kernel_rfl))
          exact gives_slice rfl (H.new 40 1 (by kernel_rfl)) (by simp only [Option.map_some]; rw [e1]) rfl rfl (HV6.out W1) ⟨rfl, Below.refl _ _⟩
        · intro ρ W1 hb1 H
          exact gives_assign rfl (H.new 39 0 (by kernel_rfl)) ⟨rfl, Below.refl _ _⟩
        · intro ρ W1 hb1 H
          exact gives_assign rfl (H.new 46 7 (by kernel_rfl)) ⟨rfl, Below.refl _ _⟩
        · intro ρ W1 hb1 H
          exact gives_assign rfl (H.const _) ⟨rfl, Below.refl _ _⟩
        · intro vs W1 hb1 hfs
          have f8 : vs 8 = u4 := hfs 8 (by decide)
          have f9 : vs 9 = v6 := hfs 9 (by decide)
          have f10 : vs 10 = .bool true := hfs 10 (by decide)
          clear hfs
          simp only [putAll, Nat.zero_add, Nat.reduceAdd]
          generalize vs 0 = z0
          generalize vs 1 = z1
          generalize vs 2 = z2
          generalize vs 3 = z3
          generalize vs 4 = z4
          generalize vs 5 = z5
          generalize vs 6 = z6
          generalize vs 7 = z7
          simp only [f8, f9, f10, Act.put, List.setIfInBounds_toArray, List.set_cons_succ, List.set_cons_zero]
          clear f8 f9 f10
          have HB6 := Lib.hid (below_then HB4.out hb1)
          have HU6 := Lib.hid (HU4.out.below hb1)
          clear hb1
          go_wp2
          go_ret3
          exact .inr ⟨by rw [HSH.out], _, _, rfl, by rw [HSH.out]; exact HU6.out, by rw [HSH.out]; exact HI6.out, HB6.out⟩
      · have d1 : (px != 0) = true := by simpa using hx
        have HX : Hid ((uone l s).2.2 ≠ 0) := Lib.hid (HNO.out hx)
        clear hx HU4 HR4
        go_wp2
        go_ret3
        exact .inl ⟨HX.out, rfl, HB4.out⟩
    · obtain rfl : q = 3 := by rw [h] at hkb; simpa [kb] using hkb.symm
      have HE : Hid (uone sh s = gtakeE sh s) := Lib.hid (by rw [HK.out, if_neg (by decide), if_neg (by decide), if_pos rfl])
      have HTK := Lib.hid (fun W (h : IsB sh (.slice (some ad) m c) W) (ht : WTab W) => (show Calls Tryz.prog 127 #[.slice (some ad) m c, .bool s] W (RetIB W (gtakeE sh s)) from (ttake_own sh _ s W ht h (by have := HSL.out; omega)).mono fun _ _ h => h.ib))
      rw [← HE.out, HP.out] at HTK
      have hc2 : w3.cell? ⟨(adk.add (r * 3)).block, (adk.add (r * 3)).off + 2, none⟩ = some (.func (.func 127) #[] #[]) := by rw [HC2.out, h]; rfl
      clear HE HK hkb hr h
      go_wp2_with fail
      refine (HTK.out _ HSV.out HT3.out).mono ?_
      rintro e4 w4 ⟨u4, r4, rfl, hu4, hr4, hb4⟩
      have HU4 := Lib.hid hu4
      have HR4 := Lib.hid hr4
      have HB4 := Lib.hid (below_then HB3.out hb4)
      have HCB4 := Lib.hid ((hb4.cell HLB3.out).trans HCB3.out)
      have HLB4 := Lib.hid (Nat.lt_of_lt_of_le HLB3.out hb4.size)
      clear hu4 hr4 hb4
      by_cases hx : px = 0
      · subst hx
        have d1 : ((0 : Int) != 0) = false := rfl
        obtain ⟨hr1, hr2⟩ := HOK.out rfl
        obtain ⟨A5, k5, c5, rfl⟩ := IsV.shape (f := bv) HR4.out
        have hk5 := (IsV.parts (f := bv) (show IsV bv pr _ _ from HR4.out)).1
        obtain ⟨j, hj⟩ : ∃ j, j = m - k5 := ⟨_, rfl⟩
        have hk5m : k5 ≤ m := by rw [← hk5]; have := HSL.out; omega
        have hjn : j ≤ n := by omega
        have HJ := Lib.hid (show (m : Int) - (k5 : Int) = (j : Int) by omega)
        have HSH : Hid (uone l s = (px4, l.drop j, 0)) := Lib.hid (by rw [hr2, hj, ← hk5, HSL.out])
        obtain ⟨v6, hv6, hI6⟩ := fromV_named (P := Tryz.prog) (f := bv) elemB (k := j) hjn HV.out
        have HV6 := Lib.hid hv6
        have HI6 : Hid (∀ W, IsB l (.slice (some ad) n c) W → IsB (l.drop j) v6 W) := Lib.hid (fun W hW => by
          obtain ⟨v7, hv7, hI7⟩ := fromV_named (P := Tryz.prog) (f := bv) elemB (k := j) hjn hW
          have h := (hv6 w).symm.trans (hv7 w)
          injection h with h _
          rw [h]
          exact hI7)
        clear hr1 hr2 hk5 hj hv6 hI6 HR4 hjn
        go_wp2_with fail
        refine wp_region_list [.is (u4), .is (.slice (some ad) n c), .is (.slice (some ad) m c), .is (.int .i64 (m : Int)), .is (.slice A5 k5 c5), .is (.int .i64 (k5 : Int)), .is (.int .i64 (j : Int)), .is (v6), .is (u4), .is (v6), .is (.bool true)] [some 39, some 40, some 41, some 42, some 43, some 44, some 45, some 46, some 4, some 5, some 6] (by kernel_rfl) (by kernel_rfl) (by kernel_rfl) rfl ⟨?_, ?_, ?_, ?_, ?_, ?_, ?_, ?_, ?_, ?_, ?_, trivial⟩ ?_
        · intro ρ W1 hb1 H
          exact gives_move rfl (H.old 10 _ (by kernel_rfl) rfl) ⟨rfl, Below.refl _ _⟩
        · intro ρ W1 hb1 H
          exact gives_load rfl (H.old 2 _ (by kernel_rfl) rfl) Tryz.underlying38 rfl ((hb1.cell HLB4.out).trans HCB4.out) ⟨rfl, Below.refl _ _⟩
        · intro ρ W1 hb1 H
          exact gives_move rfl (H.old 9 _ (by kernel_rfl) rfl) ⟨rfl, Below.refl _ _⟩
        · intro ρ W1 hb1 H
          exact gives_len Tryz.underlying38 rfl (H.new 41 2 (by kernel_rfl)) ⟨rfl, Below.refl _ _⟩
        · intro ρ W1 hb1 H
          exact gives_move rfl (H.old 11 _ (by kernel_rfl) rfl) ⟨rfl, Below.refl _ _⟩
        · intro ρ W1 hb1 H
          exact gives_len Tryz.underlying38 rfl (H.new 43 4 (by kernel_rfl)) ⟨rfl, Below.refl _ _⟩
        · intro ρ W1 hb1 H
          exact gives_sub rfl (H.new 42 3 (by kernel_rfl)) (H.new 44 5 (by kernel_rfl)) (by omega) (by omega) ⟨congrArg (Value.int .i64) HJ.out, Below.refl _ _⟩
        · intro ρ W1 hb1 H
          have e1 : ρ (.tmp 45) = .int .i64 (j : Int) := (H.new 45 6 (by kernel_rfl))
          exact gives_slice rfl (H.new 40 1 (by kernel_rfl)) (by simp only [Option.map_some]; rw [e1]) rfl rfl (HV6.out W1) ⟨rfl, Below.refl _ _⟩
        · intro ρ W1 hb1 H
          exact gives_assign rfl (H.new 39 0 (by kernel_rfl)) ⟨rfl, Below.refl _ _⟩
        · intro ρ W1 hb1 H
          exact gives_assign rfl (H.new 46 7 (by kernel_rfl)) ⟨rfl, Below.refl _ _⟩
        · intro ρ W1 hb1 H
          exact gives_assign rfl (H.const _) ⟨rfl, Below.refl _ _⟩
        · intro vs W1 hb1 hfs
          have f8 : vs 8 = u4 := hfs 8 (by decide)
          have f9 : vs 9 = v6 := hfs 9 (by decide)
          have f10 : vs 10 = .bool true := hfs 10 (by decide)
          clear hfs
          simp only [putAll, Nat.zero_add, Nat.reduceAdd]
          generalize vs 0 = z0
          generalize vs 1 = z1
          generalize vs 2 = z2
          generalize vs 3 = z3
          generalize vs 4 = z4
          generalize vs 5 = z5
          generalize vs 6 = z6
          generalize vs 7 = z7
          simp only [f8, f9, f10, Act.put, List.setIfInBounds_toArray, List.set_cons_succ, List.set_cons_zero]
          clear f8 f9 f10
          have HB6 := Lib.hid (below_then HB4.out hb1)
          have HU6 := Lib.hid (HU4.out.below hb1)
          clear hb1
          go_wp2
          go_ret3
          exact .inr ⟨by rw [HSH.out], _, _, rfl, by rw [HSH.out]; exact HU6.out, by rw [HSH.out]; exact HI6.out, HB6.out⟩
      · have d1 : (px != 0) = true := by simpa using hx
        have HX : Hid ((uone l s).2.2 ≠ 0) := Lib.hid (HNO.out hx)
        clear hx HU4 HR4
        go_wp2
        go_ret3
        exact .inl ⟨HX.out, rfl, HB4.out⟩
    · obtain rfl : q = 2 := by rw [h] at hkb; simpa [kb] using hkb.symm
      have HE : Hid (uone sh s = ptakeE sh s) := Lib.hid (by rw [HK.out, if_neg (by decide), if_pos rfl])
      have HTK := Lib.hid (fun W (h : IsB sh (.slice (some ad) m c) W) (ht : WTab W) => (show Calls Tryz.prog 129 #[.slice (some ad) m c, .bool s] W (RetIB W (ptakeE sh s)) from (ptake_own sh _ s W ht h (by have := HSL.out; omega)).mono fun _ _ h => h.ib))
      rw [← HE.out, HP.out] at HTK
      have hc2 : w3.cell? ⟨(adk.add (r * 3)).block, (adk.add (r * 3)).off + 2, none⟩ = some (.func (.func 129) #[] #[]) := by rw [HC2.out, h]; rfl
      clear HE HK hkb hr h
      go_wp2_with fail
      refine (HTK.out _ HSV.out HT3.out).mono ?_
      rintro e4 w4 ⟨u4, r4, rfl, hu4, hr4, hb4⟩
      have HU4 := Lib.hid hu4
      have HR4 := Lib.hid hr4
      have HB4 := Lib.hid (below_then HB3.out hb4)
      have HCB4 := Lib.hid ((hb4.cell HLB3.out).trans HCB3.out)
      have HLB4 := Lib.hid (Nat.lt_of_lt_of_le HLB3.out hb4.size)
      clear hu4 hr4 hb4
      by_cases hx : px = 0
      · subst hx
        have d1 : ((0 : Int) != 0) = false := rfl
        obtain ⟨hr1, hr2⟩ := HOK.out rfl
        obtain ⟨A5, k5, c5, rfl⟩ := IsV.shape (f := bv) HR4.out
        have hk5 := (IsV.parts (f := bv) (show IsV bv pr _ _ from HR4.out)).1
        obtain ⟨j, hj⟩ : ∃ j, j = m - k5 := ⟨_, rfl⟩
        have hk5m : k5 ≤ m := by rw [← hk5]; have := HSL.out; omega
        have hjn : j ≤ n := by omega
        have HJ := Lib.hid (show (m : Int) - (k5 : Int) = (j : Int) by omega)
        have HSH : Hid (uone l s = (px4, l.drop j, 0)) := Lib.hid (by rw [hr2, hj, ← hk5, HSL.out])
        obtain ⟨v6, hv6, hI6⟩ := fromV_named (P := Tryz.prog) (f := bv) elemB (k := j) hjn HV.out
        have HV6 := Lib.hid hv6
        have HI6 : Hid (∀ W, IsB l (.slice (some ad) n c) W → IsB (l.drop j) v6 W) := Lib.hid (fun W hW => by
          obtain ⟨v7, hv7, hI7⟩ := fromV_named (P := Tryz.prog) (f := bv) elemB (k := j) hjn hW
          have h := (hv6 w).symm.trans (hv7 w)
          injection h with h _
          rw [h]
          exact hI7)
        clear hr1 hr2 hk5 hj hv6 hI6 HR4 hjn
        go_wp2_with fail
        refine wp_region_list [.is (u4), .is (.slice (some ad) n c), .is (.slice (some ad) m c), .is (.int .i64 (m : Int)), .is (.slice A5 k5 c5), .is (.int .i64 (k5 : Int)), .is (.int .i64 (j : Int)), .is (v6), .is (u4), .is (v6), .is (.bool true)] [some 39, some 40, some 41, some 42, some 43, some 44, some 45, some 46, some 4, some 5, some 6] (by kernel_rfl) (by kernel_rfl) (by kernel_rfl) rfl ⟨?_, ?_, ?_, ?_, ?_, ?_, ?_, ?_, ?_, ?_, ?_, trivial⟩ ?_
        · intro ρ W1 hb1 H
          exact gives_move rfl (H.old 10 _ (by kernel_rfl) rfl) ⟨rfl, Below.refl _ _⟩
        · intro ρ W1 hb1 H
          exact gives_load rfl (H.old 2 _ (by kernel_rfl) rfl) Tryz.underlying38 rfl ((hb1.cell HLB4.out).trans HCB4.out) ⟨rfl, Below.refl _ _⟩
        · intro ρ W1 hb1 H
          exact gives_move rfl (H.old 9 _ (by kernel_rfl) rfl) ⟨rfl, Below.refl _ _⟩
        · intro ρ W1 hb1 H
          exact gives_len Tryz.underlying38 rfl (H.new 41 2 (by kernel_rfl)) ⟨rfl, Below.refl _ _⟩
        · intro ρ W1 hb1 H
          exact gives_move rfl (H.old 11 _ (by kernel_rfl) rfl) ⟨rfl, Below.refl _ _⟩
        · intro ρ W1 hb1 H
          exact gives_len Tryz.underlying38 rfl (H.new 43 4 (by kernel_rfl)) ⟨rfl, Below.refl _ _⟩
        · intro ρ W1 hb1 H
          exact gives_sub rfl (H.new 42 3 (by kernel_rfl)) (H.new 44 5 (by kernel_rfl)) (by omega) (by omega) ⟨congrArg (Value.int .i64) HJ.out, Below.refl _ _⟩
        · intro ρ W1 hb1 H
          have e1 : ρ (.tmp 45) = .int .i64 (j : Int) := (H.new 45 6 (by kernel_rfl))
          exact gives_slice rfl (H.new 40 1 (by kernel_rfl)) (by simp only [Option.map_some]; rw [e1]) rfl rfl (HV6.out W1) ⟨rfl, Below.refl _ _⟩
        · intro ρ W1 hb1 H
          exact gives_assign rfl (H.new 39 0 (by kernel_rfl)) ⟨rfl, Below.refl _ _⟩
        · intro ρ W1 hb1 H
          exact gives_assign rfl (H.new 46 7 (by kernel_rfl)) ⟨rfl, Below.refl _ _⟩
        · intro ρ W1 hb1 H
          exact gives_assign rfl (H.const _) ⟨rfl, Below.refl _ _⟩
        · intro vs W1 hb1 hfs
          have f8 : vs 8 = u4 := hfs 8 (by decide)
          have f9 : vs 9 = v6 := hfs 9 (by decide)
          have f10 : vs 10 = .bool true := hfs 10 (by decide)
          clear hfs
          simp only [putAll, Nat.zero_add, Nat.reduceAdd]
          generalize vs 0 = z0
          generalize vs 1 = z1
          generalize vs 2 = z2
          generalize vs 3 = z3
          generalize vs 4 = z4
          generalize vs 5 = z5
          generalize vs 6 = z6
          generalize vs 7 = z7
          simp only [f8, f9, f10, Act.put, List.setIfInBounds_toArray, List.set_cons_succ, List.set_cons_zero]
          clear f8 f9 f10
          have HB6 := Lib.hid (below_then HB4.out hb1)
          have HU6 := Lib.hid (HU4.out.below hb1)
          clear hb1
          go_wp2
          go_ret3
          exact .inr ⟨by rw [HSH.out], _, _, rfl, by rw [HSH.out]; exact HU6.out, by rw [HSH.out]; exact HI6.out, HB6.out⟩
      · have d1 : (px != 0) = true := by simpa using hx
        have HX : Hid ((uone l s).2.2 ≠ 0) := Lib.hid (HNO.out hx)
        clear hx HU4 HR4
        go_wp2
        go_ret3
        exact .inl ⟨HX.out, rfl, HB4.out⟩
end Go.Proofs.YtblpkmmhmdpkjaaGreatDoor

/- rle's own contracts: Put, Take. Written by gen_uis.py. -/







namespace Go.Proofs.YtblpkmmhmdpkjaaGreatDoor

open Go.RowKit

/-- An append to a row of the call's own, as one step of a region that draws. -/
theorem step_join {P : Program} {ops : Array Oper} {o : Oper} {a : Act} {w : World} {K : Act → World → Prop} {Q : Exit → Act → World → Prop} {F : Prop} {t e : TypeId} {bytes : Nat} {z : Value} (E : Elem P t e bytes z)
    (hgd : o.guard = none) (s x : Operand) (ho : o.op = .call { callee := .builtin .append, args := #[s, x], argTypes := #[t, t] })
    (base : Nat) (v : Value) (n : Nat) (xs : List Value) (ad : Addr) (m c : Nat) (news : List Value) (w0 : World) (hs : a.eval s = v) (hx : a.eval x = .slice (some ad) m c)
    (hm : news.length = m) (hr : Lies w (some ad) news) (h1 : ∀ u ∈ news, u.oneCell' = true)
    (hown : w.ownsRow base e 1 v n xs) (hb : Below base w0 w) (hbase : base ≤ w.heap.size) (hn : n + m ≤ 1000000000) (hby : bytes ≤ 100)
    (h : ∀ v' w', w'.ownsRow base e 1 v' (n + m) (xs ++ news) → Below base w0 w' → w.grownBy w' v.ownBlock → K (a.put o.dst v') w') :
    if Region.wanted o (yielded ops a.tmps) = true then Oper.wp P o a w K Q else F := by
  obtain ⟨i, h2, h3, h4, h5⟩ := E.info
  have h6 : z.cells.size = 1 := by rw [E.one]; rfl
  have hle : (n + m) * bytes ≤ (n + m) * 100 := Nat.mul_le_mul_left _ hby
  have hw : Region.wanted o (yielded ops a.tmps) = true := by simp [Region.wanted, hgd]
  have hcell : ∀ j u, news[j]? = some u → w.cell? (ad.add j) = some u := by
    rcases hr with hr | ⟨ad', hA, _, hc⟩
    · subst hr; intro j u hj; simp at hj
    · injection hA with hA; subst hA; exact hc
  obtain ⟨v', w', hrun, r1, r2, _, _⟩ := run_append_own_at (P := P) w base t o.type e i z 1 bytes E.under h2 h3 h4 h5 h6 (by omega) v n xs hown ad m c news (by omega) hcell h1 (by unfold maxLen; omega) (by omega) hbase
  rw [if_pos hw]
  unfold Oper.wp
  simp [execOp, ho, resolve, invoke, builtin, hs, hx, hrun, Result.andThen]
  exact h v' w' r1 (below_append hb hown hbase r2) r2
set_option maxHeartbeats 4000000 in
set_option maxRecDepth 100000 in
theorem uput_own (l : List Int) (v : Value) (s : Bool) (w : World) (ht : WTab w) (hv : IsV iv l v w) (hl : ∀ x ∈ l, inInt x) :
    Calls Tryz.prog 48 #[v, .bool s] w (RetEO w (uputE l s)) := by
  have HT := Lib.hid ht
  have HV := Lib.hid hv
  have HI := Lib.hid hl
  obtain ⟨A, n, c, rfl⟩ := hv.shape
  have HN := Lib.hid hv.parts.1
  clear hv hl ht
  by_cases hbig : 4096 < n
  · have d1 : (4096 : Int) < (n : Int) := by omega
    have hE : Hid (uputE l s = ([], 3)) := Lib.hid (by unfold uputE; rw [if_pos (by rw [HN.out]; exact hbig)])
    go_enter Tryz.func48, Tryz.ntmps48
    go_wp2
    go_ret2
    rw [hE.out]
    exact RetEO.nil _ (Below.refl _ _)
  · have d1 : ¬ (4096 : Int) < (n : Int) := by omega
    have hE : Hid (uputE l s = ucomb [] (uputN s l.length l)) := Lib.hid (by
      unfold uputE ucomb
      rw [if_neg (by rw [HN.out]; exact hbig)]
      by_cases h : (uputN s l.length l).2 ≠ 0
      · rw [if_pos h]
        have h2 : ∀ (k : Nat) (l : List Int), (uputN s k l).2 ≠ 0 → (uputN s k l).1 = [] := by
          intro k
          induction k with
          | zero => intro l h; exact absurd rfl h
          | succ k ih =>
            intro l h
            rw [uputN] at h ⊢
            split
            · rfl
            · split
              · rfl
              · split
                · rfl
                · rename_i h3 h4 h5
                  rw [if_neg h3, if_neg h4, if_neg h5] at h
                  exact absurd rfl h
        exact Prod.ext (h2 _ _ h) rfl
      · rw [if_neg h]
        exact Prod.ext rfl (Decidable.not_not.1 h))
    have hst : UPutRel (uputE l s) s w (.slice A n c) (.slice none 0 0) w := ⟨l.length, l, [], Nat.le_refl _, by have := HN.out; omega, by have := HN.out; simp; omega, HI.out, HV.out, hE.out.symm, World.ownsRow_nil _ _ _ _, Below.refl _ _⟩
    have HST := Lib.hid hst
    clear hst
    go_enter Tryz.func48, Tryz.ntmps48
    go_wp2
    go_loopw [0, 6] (UPutRel (uputE l s) s w) (fun x _ _ => lenOf x)
    case atStart => exact HST.out
    case round =>
      obtain ⟨k, rest, out, hk, h4, hol, hin, hrv, hres, hown, hbw⟩ := hrel
      have HSTT := HST
      clear HST
      have HIN := Lib.hid hin
      have HRV := Lib.hid hrv
      have HRES := Lib.hid hres
      have HOWN := Lib.hid hown
      have HBW := Lib.hid hbw
      obtain ⟨A2, n2, c2, rfl⟩ := hrv.shape
      have HN2 := Lib.hid hrv.parts.1
      have hnc2 : n2 ≤ c2 := hrv.parts.2.2.1
      have hci2 : (c2 : Int) ≤ 9223372036854775807 := by have := hrv.parts.2.2.2.1; unfold maxLen at this; omega
      have hn2k : n2 ≤ k := by have := HN2.out; omega
      have hn24 : n2 ≤ 4096 := by have := HN2.out; omega
      have hol2 : out.length + 10 * n2 ≤ 50000 := by have := HN2.out; omega
      obtain ⟨ol, hol3⟩ : ∃ ol, ol = out.length := ⟨_, rfl⟩
      have HOL := Lib.hid hol3
      clear hin hrv hres hown hbw hk h4 hol
      by_cases h0 : n2 = 0
      · subst h0
        have hR : Hid (uputE l s = (out, 0)) := Lib.hid (by rw [← HRES.out]; exact ucomb_done out s HN2.out)
        clear hol3
        go_wp2
        go_ret2
        rw [hR.out]
        exact ⟨_, rfl, HOWN.out, HBW.out⟩
      · have d2 : decide (0 < n2) = true := decide_eq_true (by omega)
        have hn0i : (0 : Int) < (n2 : Int) := by omega
        obtain ⟨m, hm⟩ : ∃ m, m = ucut rest := ⟨_, rfl⟩
        obtain ⟨m1, m2, m3⟩ := ucut_bd (l := rest) (by have := HN2.out; omega)
        rw [← hm] at m1 m2 m3
        have hmn : m ≤ n2 := by have := HN2.out; omega
        have hmc : (m : Int) ≤ (c2 : Int) := by omega
        obtain ⟨k', rfl⟩ : ∃ k', k = k' + 1 := ⟨k - 1, by omega⟩
        have HCU := Lib.hid (ucut_any rest _ wr (HRV.out.below HBW.out) (by have := HN2.out; omega))
        rw [← hm] at HCU
        have HM := Lib.hid hm
        have htl : (rest.take m).length = m := by rw [List.length_take]; have := HN2.out; omega
        have HTL := Lib.hid htl
        have HTI : Hid (∀ x ∈ rest.take m, inInt x) := Lib.hid (fun x hx => HIN.out x (List.mem_of_mem_take hx))
        obtain ⟨rb, re, hr⟩ : ∃ rb re, urunE (rest.take m) s = (rb, re) := ⟨_, _, rfl⟩
        have HR := Lib.hid hr
        obtain ⟨v4, hv4, hI4⟩ := fromV_named (P := Tryz.prog) elemI (k := m) hmn HRV.out
        have HI4 := Lib.hid hI4
        clear hm htl hr hI4 m2
        go_wp2_with fail
        refine HCU.out.mono ?_
        rintro e w2 ⟨rfl, hb2⟩
        have HV2 := Lib.hid ((HRV.out.take hmn).below (HBW.out.trans (hb2.mono HBW.out.size)))
        have HO2 := Lib.hid (own_below HOWN.out hb2)
        have HB2 := Lib.hid (below_then HBW.out hb2)
        clear hb2
        have HRN := Lib.hid (urun_any (rest.take m) _ s w2 (HT.out.below HB2.out HT.out.lt) HV2.out HTI.out (by have := HTL.out; omega))
        rw [HR.out] at HRN
        go_wp2_with fail
        refine HRN.out.mono ?_
        rintro e w3 ⟨b3, rfl, hb3v, hb3⟩
        have HO3 := Lib.hid (own_below HO2.out hb3)
        have HB3 := Lib.hid (below_then HB2.out hb3)
        have HBV := Lib.hid hb3v
        clear hb3
        by_cases he : re = 0
        · subst he
          have hlen := urun_len (s := s) HTI.out (by rw [HTL.out]; exact m3)
          have hstep := ucomb_step (k := k') out s (l := rest) (by have := HN2.out; omega) (by rw [← HM.out, HR.out])
          rw [HRES.out, ← HM.out, HR.out] at hstep
          rw [HR.out] at hlen
          have hlen2 := (urun_back (r := []) (s := s) HTI.out (by
            intro h
            have h2 := HR.out
            rw [urunE_no (.inl h)] at h2
            injection h2 with _ h2
            cases h2) (by rw [HTL.out]; exact m1) (by rw [HTL.out]; exact m3)).2.2.2
          have HRB2 : Hid (2 ≤ rb.length) := Lib.hid (by have h := (urun_back (r := []) (s := s) HTI.out (by
            intro h
            have h2 := HR.out
            rw [urunE_no (.inl h)] at h2
            injection h2 with _ h2
            cases h2) (by rw [HTL.out]; exact m1) (by rw [HTL.out]; exact m3)).2.2.1; rw [HR.out] at h; exact h)
          rw [HR.out, HTL.out] at hlen2
          dsimp only at hlen hstep hlen2
          obtain ⟨A5, n5, c5, rfl⟩ := IsV.shape (f := bv) hb3v
          obtain ⟨hn5, hA5, -, -, hl5⟩ := IsV.parts (f := bv) (show IsV bv rb _ _ from hb3v)
          have HM5 := Lib.hid (show (rb.map bv).length = n5 by rw [List.length_map]; exact hn5)
          have hn5b : n5 ≤ 5000 := by omega
          have hn510 : n5 ≤ 10 * m := by omega
          have hown3 := HO3.out
          rw [← hol3] at hown3
          have hbw3 := HB3.out
          have hz3 := hbw3.size
          have HSTEP := Lib.hid hstep
          have HN5 := Lib.hid hn5
          have hol4 : ol + 10 * n2 ≤ 50000 := by omega
          clear hb3v hlen hstep hlen2 hn5 hol3 hol2
          have hA5s : ∃ ad5, A5 = some ad5 := by
            cases A5 with
            | none => exfalso; have h5 := hA5 rfl; have := HN5.out; have := HRB2.out; omega
            | some ad5 => exact ⟨ad5, rfl⟩
          obtain ⟨ad5, rfl⟩ := hA5s
          have hbd := (Below.refl w3.heap.size w3).drew
          have hownD := own_below hown3 hbd
          have hbwD := below_then hbw3 hbd
          have hlD := hl5.below hbd
          have hzD := hbwD.size
          have hv4' := hv4
          clear hown3 hbw3 hz3 hl5 hA5 hbd
          go_wp2
          go_region_law (refine step_join elemB rfl _ _ rfl w.heap.size _ _ _ _ _ _ (rb.map bv) w rfl rfl HM5.out hlD (bv_one _) hownD hbwD hzD (by omega) (by omega) ?_; intro v6 w6 hown6 hb6 _)
          have HREL : Hid (UPutRel (uputE l s) s w v4 v6 w6) := Lib.hid ⟨k', rest.drop m, out ++ rb, by rw [List.length_drop]; have := HN2.out; omega, by rw [List.length_drop]; have := HN2.out; omega,
            by rw [List.length_drop, List.length_append, HN5.out, ← HOL.out]; have := HN2.out; omega, fun x hx => HIN.out x (List.mem_of_mem_drop hx), HI4.out, HSTEP.out.symm,
            by rw [List.length_append, ← HOL.out, HN5.out, List.map_append]; exact hown6, hb6⟩
          clear hown6 hb6 hownD hbwD hzD hlD
          simp only [List.getElem_toArray, List.getElem_cons_succ, List.getElem_cons_zero, Act.put, List.setIfInBounds_toArray, List.set_cons_succ, List.set_cons_zero]
          go_wp2
          go_roundw
          case rel => exact HREL.out
          case measure =>
            obtain ⟨A7, c7, e7, _⟩ := HI4.out
            rw [e7]
            have := HN2.out
            simp [lenOf]
            omega
        · have hbad := ucomb_bad (k := k') out s (l := rest) (by have := HN2.out; omega) (by rw [← HM.out, HR.out]; exact he)
          rw [HRES.out, ← HM.out, HR.out] at hbad
          have HBD := Lib.hid hbad
          have d3 : (re != 0) = true := by simpa using he
          clear hb3v hbad
          obtain ⟨A5, n5, c5, rfl⟩ := IsV.shape (f := bv) HBV.out
          go_wp2
          go_ret2
          rw [HBD.out]
          exact RetEO.nil _ HB3.out
theorem uput_any (l : List Int) (v : Value) (s : Bool) (w : World) (ht : WTab w) (hv : IsV iv l v w) (hl : ∀ x ∈ l, inInt x) (_hb : l.length ≤ 1000000) :
    Calls Tryz.prog 48 #[v, .bool s] w (RetE w (uputE l s)) := (uput_own l v s w ht hv hl).mono fun _ _ h => h.e
def UTkRel (res : List Int × List UInt8 × Int) (s : Bool) (M : Nat) (w : World) (rv ov : Value) (wr : World) : Prop :=
  ∃ (f : Nat) (out : List Int) (rest : List UInt8), M + 1 ≤ out.length + f ∧ out.length ≤ M ∧ rest.length ≤ 1000000 ∧ utakeN s M f out rest = res ∧ wr.ownsRow w.heap.size 3 1 ov out.length (out.map iv) ∧ IsB rest rv w ∧ Below w.heap.size w wr
set_option maxHeartbeats 4000000 in
set_option maxRecDepth 100000 in
theorem utake_all (l : List UInt8) (v : Value) (many : Int) (s : Bool) (w : World) (ht : WTab w) (hv : IsB l v w) (hb : l.length ≤ 1000000) :
    Calls Tryz.prog 95 #[v, .int .i64 many, .bool s] w (RetIOO w (utakeE l many s)) := by
  have HT := Lib.hid ht
  clear ht
  by_cases hm : many < 0 ∨ 4096 < many
  · have hE : Hid (utakeE l many s = ([], [], 1)) := Lib.hid (by unfold utakeE; rw [if_pos hm])
    obtain ⟨A, n, c, rfl⟩ := IsV.shape (f := bv) hv
    have hd : decide (many < 0) = true ∨ (decide (many < 0) = false ∧ decide (4096 < many) = true) := by
      by_cases h : many < 0
      · exact .inl (decide_eq_true h)
      · exact .inr ⟨decide_eq_false h, decide_eq_true (by omega)⟩
    clear hm hv hb
    rcases hd with d1 | ⟨d1, d2⟩
    all_goals
      go_enter Tryz.func95, Tryz.ntmps95
      go_wp2
      go_ret3
      rw [hE.out]
      exact RetIOO.nil _ (Below.refl _ _)
  · obtain ⟨M, rfl⟩ := Int.eq_ofNat_of_zero_le (show 0 ≤ many by omega)
    have hM4 : M ≤ 4096 := by omega
    have d1 : decide ((M : Int) < 0) = false := decide_eq_false (by omega)
    have d2 : decide ((4096 : Int) < (M : Int)) = false := decide_eq_false (by omega)
    have hE : Hid (utakeE l (M : Int) s = utakeN s M (M + 1) [] l) := Lib.hid (by unfold utakeE; rw [if_neg hm, Int.toNat_natCast])
    have HV := Lib.hid hv
    have HL6 := Lib.hid hb
    clear hm hv hb
    go_enter Tryz.func95, Tryz.ntmps95
    go_wp2_with (refine wpList_make0 elemI rfl _ _ rfl .i64 .i64 (M : Int) M w.heap.size w rfl rfl rfl (by omega) (by omega) (Below.refl _ _) (Nat.le_refl _) ?_)
    intro w1 hown1 hb1 hz1
    have HST : Hid (UTkRel (utakeE l (M : Int) s) s M w v (.slice (some ⟨w.heap.size, 0, none⟩) 0 M) w1) := Lib.hid ⟨M + 1, [], l, by simp, by simp, HL6.out, hE.out.symm, hown1, HV.out, hb1⟩
    clear hown1 hb1 hz1
    go_wp2
    go_loopw [0, 9] (UTkRel (utakeE l (M : Int) s) s M w) (fun _ o _ => M - lenOf o)
    case atStart => exact HST.out
    case round =>
      obtain ⟨f, out, rest, hf, hoM, hr6, hres, hown, hrest, hbw⟩ := hrel
      have HSTT := HST
      clear HST
      have HRES := Lib.hid hres
      have HOWN := Lib.hid hown
      have HREST := Lib.hid hrest
      have HBW := Lib.hid hbw
      have HR6 := Lib.hid hr6
      obtain ⟨B, co, rfl, _, _, _, _, _⟩ := own_shape hown
      obtain ⟨ol, hol⟩ : ∃ ol, ol = out.length := ⟨_, rfl⟩
      have HOL := Lib.hid hol
      rw [← hol] at hf hoM ⊢
      clear hres hown hrest hbw hr6 hol
      by_cases hlt : ol < M
      · have hlti : (ol : Int) < (M : Int) := by omega
        obtain ⟨f', rfl⟩ : ∃ f', f = f' + 1 := ⟨f - 1, by omega⟩
        have HON := Lib.hid (utakerun_any rest _ s wr (HT.out.below HBW.out HT.out.lt) (IsB.below HREST.out HBW.out) HR6.out)
        obtain ⟨us, q, e, hu⟩ : ∃ us q e, uone rest s = (us, q, e) := ⟨_, _, _, rfl⟩
        have HU := Lib.hid hu
        rw [hu] at HON
        clear hu
        go_wp2_with fail
        refine HON.out.mono ?_
        rintro e1 w3 (⟨he, rfl, hb3⟩ | ⟨he, uv3, rv3, rfl, hu3, hr3, hb3⟩)
        · have hbad := utakeN_bad (s := s) (M := M) (f := f') (out := out) (rest := rest) (by rw [← HOL.out]; exact hlt) (by rw [HU.out]; exact he)
          rw [HRES.out] at hbad
          have HBD := Lib.hid hbad
          have HB3 := Lib.hid (below_then HBW.out hb3)
          clear hbad he hb3
          go_wp2
          go_ret3
          rw [HBD.out]
          exact RetIOO.nil _ HB3.out
        · have HB3 := Lib.hid (below_then HBW.out hb3)
          obtain rfl : e = 0 := he
          have hbd := uone_bd (b := rest) (s := s) (by rw [HU.out])
          rw [HU.out] at hbd
          dsimp only at hbd
          obtain ⟨b1, b2, b3⟩ := hbd
          have hstep := utakeN_step (s := s) (M := M) (f := f') (out := out) (rest := rest) (by rw [← HOL.out]; exact hlt) (by rw [HU.out])
          rw [HRES.out, HU.out] at hstep
          dsimp only at hstep
          have hown3 := own_below HOWN.out hb3
          rw [← HOL.out] at hown3
          obtain ⟨A5, n5, c5, rfl⟩ := hu3.shape
          obtain ⟨hn5, hA5, -, -, hl5⟩ := IsV.parts (f := iv) (show IsV iv us _ _ from hu3)
          have HM5 := Lib.hid (show (us.map iv).length = n5 by rw [List.length_map]; exact hn5)
          have hn5b : n5 ≤ 512 := by omega
          have hn51 : 1 ≤ n5 := by omega
          have hbw3 := HB3.out
          have hz3 := hbw3.size
          have HSTEP := Lib.hid hstep
          have HN5 := Lib.hid hn5
          have HQ6 : Hid (q.length ≤ 1000000) := Lib.hid (by have := HR6.out; omega)
          have HREST3 := Lib.hid (hr3 _ HREST.out)
          clear hstep hu3 hr3 hb3 hn5 b1 b2 b3
          by_cases hgt : M < ol + n5
          · have hgti : (M : Int) < (ol : Int) + (n5 : Int) := by omega
            have hend := utakeN_end (s := s) (M := M) (f := f') (out := out ++ us) (rest := q) (by rw [List.length_append, ← HOL.out, HN5.out]; omega) (by rw [List.length_append, ← HOL.out, HN5.out]; omega)
            rw [if_pos (by rw [List.length_append, ← HOL.out, HN5.out]; exact hgt), ← HSTEP.out] at hend
            have HEND := Lib.hid hend
            clear hend hown3 hbw3 hz3 hl5 hA5
            go_wp2
            go_ret3
            rw [HEND.out]
            exact RetIOO.nil _ HB3.out
          · have hgti : ¬ (M : Int) < (ol : Int) + (n5 : Int) := by omega
            go_wp2_with (at_builtin; refine wpList_join elemI rfl _ _ rfl w.heap.size _ _ _ _ _ _ (us.map iv) w rfl rfl hA5 HM5.out hl5 (vs_one (fun _ => rfl) us) hown3 hbw3 hz3 (by omega) (by omega) ?_)
            intro v6 w6 hown6 hb6 _ _
            have HREL : Hid (UTkRel (utakeE l (M : Int) s) s M w rv3 v6 w6) := Lib.hid ⟨f', out ++ us, q, by rw [List.length_append, ← HOL.out, HN5.out]; omega, by rw [List.length_append, ← HOL.out, HN5.out]; omega, HQ6.out, HSTEP.out.symm,
              by rw [List.length_append, ← HOL.out, HN5.out, List.map_append]; exact hown6, HREST3.out, hb6⟩
            obtain ⟨B6, c6, rfl, _, _, _, _, _⟩ := own_shape hown6
            clear hown6 hb6 hown3 hbw3 hz3 hl5 hA5
            go_wp2
            go_roundw
            case rel => exact HREL.out
            case measure => simp [lenOf]; omega
      · have hlti : ¬ (ol : Int) < (M : Int) := by omega
        have hend := utakeN_end (s := s) (M := M) (f := f) (out := out) (rest := rest) (by rw [← HOL.out]; omega) (by rw [← HOL.out]; exact hf)
        rw [HRES.out, ← HOL.out, if_neg (by omega)] at hend
        have HEND := Lib.hid hend
        have hrb := IsB.below HREST.out HBW.out
        obtain ⟨A4, n4, c4, rfl⟩ := IsV.shape (f := bv) hrb
        obtain ⟨hn4, hA4, -, -, hl4⟩ := IsV.parts (f := bv) (show IsV bv rest _ _ from hrb)
        have HM4 := Lib.hid (show (rest.map bv).length = n4 by rw [List.length_map]; exact hn4)
        have hn46 : n4 ≤ 1000000 := by rw [← hn4]; exact HR6.out
        clear hend hrb hn4
        go_wp2_with (at_builtin; refine wpList_join elemB rfl _ _ rfl wr.heap.size _ _ _ _ _ _ (rest.map bv) wr rfl rfl hA4 HM4.out hl4 (bv_one _) (World.ownsRow_nil _ _ _ _) (Below.refl _ _) (Nat.le_refl _) (by omega) (by omega) ?_)
        intro v5 w5 hown5 hb5 _ _
        have HR5 : Hid (OwnB w rest v5 w5) := Lib.hid (OwnB.base HBW.out.size ⟨_, by simpa using hown5⟩)
        have HO5 : Hid (OwnV iv 3 w out (.slice B ol co) w5) := Lib.hid ⟨_, by have h := own_below HOWN.out hb5; rw [← HOL.out] at h; exact h⟩
        have HB5 := Lib.hid (below_then HBW.out hb5)
        clear hown5 hb5 hl4 hA4
        go_wp2
        go_ret3
        rw [HEND.out]
        exact ⟨_, _, rfl, HO5.out, HR5.out, HB5.out⟩
end Go.Proofs.YtblpkmmhmdpkjaaGreatDoor

/- Values of columns (layer 12), as plain mathematics. -/







namespace Go.Proofs.YtblpkmmhmdpkjaaGreatDoor

/-- A value: nothing, a number, a text. -/
structure CV where
  null : Bool
  n : Int
  s : ByteArray
def CV.inInt (v : CV) : Prop := -9223372036854775808 ≤ v.n ∧ v.n ≤ 9223372036854775807
/-- One text stands ahead of another. -/
def sless (a b : ByteArray) : Bool := Op.bytesLess a.toList b.toList
theorem sless_iff (a b : ByteArray) : sless a b = true ↔ a.data.toList < b.data.toList := by
  unfold sless
  rw [bytesLess_eq, ByteArray.toList_eq, ByteArray.toList_eq, decide_eq_true_iff]
theorem sless_not (a : ByteArray) : sless a a = false := by
  rw [← Bool.not_eq_true, sless_iff]
  exact List.lt_irrefl _
theorem sless_trans {a b c : ByteArray} (h1 : sless a b = true) (h2 : sless b c = true) : sless a c = true := by
  rw [sless_iff] at *
  exact List.lt_trans h1 h2
theorem bytes_ext {a b : ByteArray} (h : a.data.toList = b.data.toList) : a = b := by
  cases a; cases b
  congr 1
  exact Array.toList_inj.1 h
theorem sless_total {a b : ByteArray} (h : a ≠ b) : sless a b = true ∨ sless b a = true := by
  rw [sless_iff, sless_iff]
  by_cases h1 : a.data.toList < b.data.toList
  · exact .inl h1
  · refine .inr ?_
    have h2 : b.data.toList ≤ a.data.toList := List.not_lt.1 h1
    rcases List.le_iff_lt_or_eq.1 h2 with h3 | h3
    · exact h3
    · exact absurd (bytes_ext h3).symm h
theorem sless_asymm {a b : ByteArray} (h : sless a b = true) : sless b a = false := by
  rw [← Bool.not_eq_true]
  intro h2
  have := sless_trans h h2
  rw [sless_not] at this
  cases this
end Go.Proofs.YtblpkmmhmdpkjaaGreatDoor

/- Slices of values of several cells each, and what fields hold, that come in. Over any program. -/









namespace Go.Proofs.YtblpkmmhmdpkjaaGreatDoor

open Go.RowKit Go.ChangeShapes Go.WideShapes Go.Deep

/-- A slice, in a field, of values of several cells each; what each holds may lie elsewhere. -/
theorem open_wide0 {H : Type} {enc : TypeId × Value → H} {P : Program} {α : Type} [Inhabited α] {f : α → List Value} {m : Nat} {p : α → Prop} {t e : TypeId} {W : World} {v : Value} {y : DataW H × List MemPlace} {fuel : Nat}
    (ht : P.underlying t = some (.slice e)) (hc : P.cellsOf e = m) (hm : 0 < m) (hf : ∀ x, (f x).length = m)
    (each : ∀ cs n x, cs.length = m → DataW.trod enc P W 0 (fun _ => true) true n e cs = some x → (∀ q ∈ x.2, q.block < W.heap.size) → ∃ a : α, cs = f a ∧ p a)
    (hf0 : DataW.trod enc P W 0 (fun _ => true) true fuel t [v] = some y) (hlt : ∀ x ∈ y.2, x.block < W.heap.size) :
    ∃ l : List α, IsR f l v W ∧ ∀ x ∈ l, p x := by
  obtain ⟨d, ps⟩ := y
  rcases open_slice ht hf0 with ⟨hcs, hx⟩ | ⟨a, len, cap, k, n, D, Pl, hcs, _, hl, hmx, hk, hx, hcell⟩
  · simp at hcs
    subst hcs
    exact ⟨[], ⟨none, 0, rfl, by simp, by simp, by unfold maxLen; omega, Lies.nil⟩, by simp⟩
  · simp at hcs
    subst hcs
    simp only [Prod.mk.injEq] at hx
    obtain ⟨rfl, rfl⟩ := hx
    simp only [if_true] at hk
    obtain ⟨F, hF⟩ := choose_lt (n := len) (p := fun i (a' : α) => p a' ∧ ∀ j u, (f a')[j]? = some u → W.cell? (a.add (i * m + j)) = some u) fun i hi => by
      obtain ⟨cs', h1, h2⟩ := hcell i (by omega)
      rw [hc] at h1
      obtain ⟨_, hlen, hce⟩ := World.cells?_some h1
      obtain ⟨a', rfl, ha⟩ := each cs' n _ hlen h2 fun q hq => hlt q (List.mem_append_right _ (List.mem_flatMap.2 ⟨i, List.mem_range.2 (by omega), hq⟩))
      refine ⟨a', ha, fun j u hu => ?_⟩
      have hj : j < m := by rw [← hf a']; exact (List.getElem?_eq_some_iff.1 hu).1
      have h3 := hce j hj
      rw [add_add, hu] at h3
      exact h3
    have hll : ((List.range len).map F).length = len := by simp
    refine ⟨(List.range len).map F, ⟨some a, cap, by rw [hll], by simp, by rw [hll]; exact hl, hmx, ?_⟩, fun x hx => ?_⟩
    · by_cases h0 : len = 0
      · subst h0; exact .inl (by simp)
      · refine .inr ⟨a, rfl, ?_, fun j u hu => ?_⟩
        · have h1 := (hF 0 (by omega)).2 0 _ (List.getElem?_eq_getElem (by rw [hf]; exact hm))
          have hs : a.spot = none := by
            have h2 : a.add (0 * m + 0) = a := by simp [Addr.add]
            rw [h2] at h1
            exact World.cell?_spot h1
          obtain ⟨b, off, spot⟩ := a
          exact hlt (.cell b off) (List.mem_append_left _ (MemPlace.mem_row.2 ⟨0, by rw [hc]; exact Nat.mul_pos (by omega) hm, by simp⟩))
        · have hjl : j < len * m := by
            have h1 := (List.getElem?_eq_some_iff.1 hu).1
            rwa [flat_len hf, hll] at h1
          have hk2 : j / m < len := Nat.div_lt_of_lt_mul (by rwa [Nat.mul_comm])
          have e1 : j / m * m + j % m = j := by rw [Nat.mul_comm]; exact Nat.div_add_mod j m
          have h1 := flat_at hf ((List.range len).map F) (j / m) (by rw [hll]; exact hk2) (j % m) (Nat.mod_lt _ hm)
          rw [e1, List.getElem_map, List.getElem_range] at h1
          have h2 := (hF (j / m) hk2).2 (j % m) u (by rw [← h1]; exact hu)
          rwa [e1] at h2
    · obtain ⟨i, hi, rfl⟩ := List.mem_map.1 hx
      exact (hF i (by simpa using hi)).1
/-- A slice of values of several cells each that came in: f tells a value's cells, p what is known of each. -/
theorem open_wide {H : Type} {enc : TypeId × Value → H} {P : Program} {α : Type} [Inhabited α] {f : α → List Value} {m : Nat} {p : α → Prop} {t e : TypeId} {W : World} {v : Value} {d : DataW H} {ps : List MemPlace} {base : Nat}
    (ht : P.underlying t = some (.slice e)) (hc : P.cellsOf e = m) (hm : 0 < m) (hf : ∀ x, (f x).length = m)
    (each : ∀ cs n x, cs.length = m → DataW.trod enc P W 0 (fun _ => true) true n e cs = some x → ∃ a : α, cs = f a ∧ p a)
    (hval : Value.okWide P W .any base t v) (hd : DataW.Trod enc P W 0 (fun _ => true) true t v d ps) (hlt : ∀ x ∈ ps, x.block < W.heap.size) :
    ∃ l : List α, IsR f l v W ∧ ∀ x ∈ l, p x := by
  obtain ⟨a0, len, cap, rfl⟩ := okWide_slice ht hval
  obtain ⟨fuel, hf0⟩ := hd
  exact open_wide0 ht hc hm hf (fun cs n x h1 h2 _ => each cs n x h1 h2) (y := (d, ps)) (by simpa [Value.cells] using hf0) hlt
end Go.Proofs.YtblpkmmhmdpkjaaGreatDoor

/- Runs (layer 11): a run that may be taken with a sign and without gives as many numbers, and leaves the same behind. -/



namespace Go.Proofs.YtblpkmmhmdpkjaaGreatDoor

/-- Two answers that are none, or give as many, and leave the same. -/
def Alike (a b : List Int × List UInt8 × Int) : Prop := a.2.2 = 0 → b.2.2 = 0 → a.1.length = b.1.length ∧ a.2.1 = b.2.1
theorem Alike.bad (b : List Int × List UInt8 × Int) : Alike gbad b := fun h => by cases h
end Go.Proofs.YtblpkmmhmdpkjaaGreatDoor
