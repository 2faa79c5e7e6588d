/- Texts that the claims of this seat share, part 5: FAsk FTakeV FTakeS FShape FRTakeV FRTakeS. -/
import Derived.Test.YtocodcceimeiiaaDoorG4
/- wire's own contracts: isNumber, isTruth, isBulk, turns. Written by gen_fturns.py. -/





namespace Go.Proofs.YtocodcceimeiiaaDoor

open Go.RowKit Go.ChangeShapes Go.WideShapes Go.ChangeAt

theorem fask0_any (t : Int) (b : Bool) (x : Nat) (A : Option Addr) (n c : Nat) (w : World) : Calls Tryd.prog 23 #[.agg #[.int .i64 t, .bool b, .int .u64 (x : Int), .slice A n c]] w fun e w' => e = .returned (.bool (fasked 0 ⟨t, b, x, []⟩)) ∧ Below w.heap.size w w' := by
  cases b with
  | true =>
    go_enter Tryd.func23, Tryd.ntmps23
    go_wp2
    go_ret
    exact ⟨rfl, (Below.refl _ _).alloc (Nat.le_refl _) _⟩
  | false =>
    go_enter Tryd.func23, Tryd.ntmps23
    go_wp2
    go_ret
    exact ⟨rfl, (Below.refl _ _).alloc (Nat.le_refl _) _⟩
theorem fask2_any (t : Int) (b : Bool) (x : Nat) (A : Option Addr) (n c : Nat) (w : World) : Calls Tryd.prog 24 #[.agg #[.int .i64 t, .bool b, .int .u64 (x : Int), .slice A n c]] w fun e w' => e = .returned (.bool (fasked 2 ⟨t, b, x, []⟩)) ∧ Below w.heap.size w w' := by
  go_enter Tryd.func24, Tryd.ntmps24
  go_wp2
  go_ret
  exact ⟨rfl, (Below.refl _ _).alloc (Nat.le_refl _) _⟩
set_option maxRecDepth 100000 in
theorem fask1_any (t : Int) (b : Bool) (x : Nat) (A : Option Addr) (n c : Nat) (w : World) : Calls Tryd.prog 22 #[.agg #[.int .i64 t, .bool b, .int .u64 (x : Int), .slice A n c]] w fun e w' => e = .returned (.bool (fasked 1 ⟨t, b, x, []⟩)) ∧ Below w.heap.size w w' := by
  obtain ⟨W1, hW1⟩ : ∃ y, y = w.alloc (.cells #[.int .i64 t, .bool b, .int .u64 (x : Int), .slice A n c] 49) := ⟨_, rfl⟩
  have hb1 : Below w.heap.size w W1 := by rw [hW1]; exact (Below.refl _ _).alloc (Nat.le_refl _) _
  have hr1 : Row W1 w.heap.size 49 [.int .i64 t, .bool b, .int .u64 (x : Int), .slice A n c] := by rw [hW1]; exact heap_alloc_new w _
  have HB1 := Lib.hid hb1
  have HR1 := Lib.hid hr1
  have HA := Lib.hid (fask0_any t b x A n c W1)
  clear hb1 hr1
  go_enter Tryd.func22, Tryd.ntmps22
  go_wp2_with fail
  rw [← hW1]
  clear hW1
  refine HA.out.mono ?_
  rintro e w2 ⟨rfl, hb2⟩
  have HB2 := Lib.hid (below_then HB1.out hb2)
  have hr2 := HR1.out.below hb2 HR1.out.lt
  have c2 : w2.cell? ⟨w.heap.size, 2, none⟩ = some (.int .u64 (x : Int)) := hr2.cell 2
  clear hb2 hr2
  cases b with
  | true =>
    have h0 : fasked 0 ⟨t, true, x, []⟩ = false := rfl
    rw [h0]
    go_wp2
    go_ret
    exact ⟨rfl, HB2.out⟩
  | false =>
    have h0 : fasked 0 ⟨t, false, x, []⟩ = true := rfl
    rw [h0]
    by_cases hx : x ≤ 1
    · have hxi : (x : Int) ≤ 1 := by omega
      have HE := Lib.hid (show fasked 1 ⟨t, false, x, []⟩ = true by simp [fasked, hx])
      clear hx
      go_wp2
      go_ret
      rw [HE.out]
      exact ⟨rfl, HB2.out⟩
    · have hxi : decide ((x : Int) ≤ 1) = false := decide_eq_false (by omega)
      have HE := Lib.hid (show fasked 1 ⟨t, false, x, []⟩ = false by simp [fasked]; omega)
      clear hx
      go_wp2
      go_ret
      rw [HE.out]
      exact ⟨rfl, HB2.out⟩
/-- What the k-th asks: as a function's value. -/
def fkid : Nat → FuncId
  | 0 => 23
  | 1 => 22
  | _ => 24
def fkv (k : Nat) : Value := .func (.func (fkid k)) #[] #[]
/-- What turns takes. -/
def fturnO (b : List UInt8) (ks : List Nat) : Option (List WF) := match ftakeE b with
  | none => none
  | some l => if fturns 1 l ks = true then some l else none
def RetTn (w : World) (o : Option (List WF)) (e : Ending) (w' : World) : Prop :=
  match o with
  | none => e = .returned (.tuple #[.slice none 0 0, .bool false]) ∧ Below w.heap.size w w'
  | some l => ∃ (fs : List FN) (v : Value), e = .returned (.tuple #[v, .bool true]) ∧ fs.map FN.wf = l ∧ w'.ownsRow w.heap.size 49 4 v fs.length (fs.flatMap fcells) ∧ (∀ f ∈ fs, IsBT f.b f.lv w') ∧ Below w.heap.size w w'
theorem fturns_len : ∀ {t : Int} {l : List WF} {ks : List Nat}, fturns t l ks = true → l.length = ks.length
  | _, [], [], _ => rfl
  | _, f :: l, k :: ks, h => by
    rw [fturns, Bool.and_eq_true, Bool.and_eq_true] at h
    rw [List.length_cons, List.length_cons, fturns_len h.2.2]
  | _, [], _ :: _, h => by simp [fturns] at h
  | _, _ :: _, [], h => by simp [fturns] at h
theorem fturns_bad {t : Int} {f : WF} {l : List WF} {k : Nat} {ks : List Nat} (h : fasked k f = false) : fturns t (f :: l) (k :: ks) = false := by rw [fturns, h]; simp
theorem fturns_tag {t : Int} {f : WF} {l : List WF} {k : Nat} {ks : List Nat} (h : f.tag ≠ t) : fturns t (f :: l) (k :: ks) = false := by rw [fturns]; simp [h]
theorem fturns_good {t : Int} {f : WF} {l : List WF} {k : Nat} {ks : List Nat} (h : f.tag = t) (h2 : fasked k f = true) : fturns t (f :: l) (k :: ks) = fturns (t + 1) l ks := by rw [fturns]; simp [h, h2]
theorem fturnO_no {b : List UInt8} {ks : List Nat} {l : List WF} (h : ftakeE b = some l) (h2 : fturns 1 l ks = false) : fturnO b ks = none := by unfold fturnO; rw [h]; simp [h2]
theorem fturnO_yes {b : List UInt8} {ks : List Nat} {l : List WF} (h : ftakeE b = some l) (h2 : fturns 1 l ks = true) : fturnO b ks = some l := by unfold fturnO; rw [h]; simp [h2]
theorem fturnO_none {b : List UInt8} {ks : List Nat} (h : ftakeE b = none) : fturnO b ks = none := by unfold fturnO; rw [h]
def FTnRel (fs : List FN) (ks : List Nat) (w3 : World) (i : Value) (wr : World) : Prop := ∃ k : Nat, k ≤ ks.length ∧ i = .int .i64 (k : Int) ∧ fturns 1 (fs.map FN.wf) ks = fturns ((k : Nat) + 1 : Int) ((fs.drop k).map FN.wf) (ks.drop k) ∧ Below w3.heap.size w3 wr
set_option maxHeartbeats 8000000 in
set_option maxRecDepth 100000 in
theorem fturns_any (b : List UInt8) (ks : List Nat) (v u : Value) (w : World) (h : IsB b v w) (hl : b.length ≤ 1000000000) (hk : IsV fkv ks u w) (hk2 : ∀ k ∈ ks, k ≤ 2) (hkl : ks.length ≤ 10) :
    Calls Tryd.prog 21 #[v, u] w (RetTn w (fturnO b ks)) := by
  have HT := Lib.hid (ftake_own b v w h hl)
  have HK := Lib.hid hk
  have HK2 := Lib.hid hk2
  obtain ⟨uA, m, uc, rfl⟩ := hk.shape
  have HM := Lib.hid hk.parts.1
  have hm10 : (m : Int) ≤ 10 := by have := HM.out; omega
  clear h hk hk2 hkl
  cases h1 : ftakeE b with
  | none =>
    rw [h1] at HT
    have HNO := Lib.hid (fturnO_none (ks := ks) h1)
    clear h1
    go_enter Tryd.func21, Tryd.ntmps21
    go_wp2_with fail
    refine HT.out.mono ?_
    rintro e w3 ⟨rfl, hb3⟩
    have HBB := Lib.hid hb3
    clear hb3
    have HR := Lib.hid (show RetTn w (fturnO b ks) (.returned (.tuple #[.slice none 0 0, .bool false])) w3 by rw [HNO.out]; exact ⟨rfl, HBB.out⟩)
    go_wp2
    go_ret2
    exact HR.out
  | some l =>
    rw [h1] at HT
    have HTK := Lib.hid h1
    clear h1
    go_enter Tryd.func21, Tryd.ntmps21
    go_wp2_with fail
    refine HT.out.mono ?_
    rintro e w3 ⟨fs, tv, rfl, hfe, ho3, hf3, hb3⟩
    subst hfe
    have HB3 := Lib.hid hb3
    have HO3 := Lib.hid ho3
    have HF3 := Lib.hid hf3
    have HR3 := Lib.hid (isR_own (f := fcells) (m := 4) (fun _ => rfl) (by omega) ho3)
    have HK3 := Lib.hid (IsV.below (f := fkv) HK.out hb3)
    obtain ⟨tA, n, tc, rfl⟩ := HR3.out.shape
    have HN := Lib.hid HR3.out.parts.1
    clear hb3 ho3 hf3
    by_cases hnm : n = m
    case neg =>
      have HBB := HB3
      have HNO := Lib.hid (show fturnO b ks = none from fturnO_no HTK.out (by
        cases hq : fturns 1 (fs.map FN.wf) ks with
        | false => rfl
        | true =>
          have h2 := fturns_len hq
          rw [List.length_map] at h2
          exact absurd (by have := HN.out; have := HM.out; omega) hnm))
      have d1 : ((n : Int) != (m : Int)) = true := by simpa using (fun h => hnm (by omega))
      have HR := Lib.hid (show RetTn w (fturnO b ks) (.returned (.tuple #[.slice none 0 0, .bool false])) w3 by rw [HNO.out]; exact ⟨rfl, HBB.out⟩)
      go_wp2
      go_ret2
      exact HR.out
    subst hnm
    have d1 : ((n : Int) != (n : Int)) = false := by simp
    have HST := Lib.hid (show FTnRel fs ks w3 (.int .i64 0) w3 from ⟨0, by omega, rfl, by simp, Below.refl _ _⟩)
    go_wp2
    go_loopw [26] (FTnRel fs ks w3) (fun i _ => n - (intOf i).toNat)
    case atStart => exact HST.out
    case round =>
      obtain ⟨k, hk, rfl, hst, hbr⟩ := hrel
      clear HST
      have HBR := Lib.hid hbr
      have HB := Lib.hid (below_then HB3.out hbr)
      have HST2 := Lib.hid hst
      clear hst
      by_cases hlt : k < n
      case neg =>
        have hlti : ¬ (k : Int) < (n : Int) := by omega
        have HY := Lib.hid (show fturnO b ks = some (fs.map FN.wf) from fturnO_yes HTK.out (by
          rw [HST2.out, List.drop_of_length_le (by have := HN.out; omega), List.drop_of_length_le (by have := HM.out; omega)]
          rfl))
        have HR := Lib.hid (show RetTn w (fturnO b ks) (.returned (.tuple #[.slice tA n tc, .bool true])) wr by
          rw [HY.out]
          exact ⟨fs, _, rfl, rfl, own_below HO3.out hbr, fun f hf => (HF3.out f hf).below hbr, HB.out⟩)
        clear hbr hk
        go_wp2
        go_ret2
        exact HR.out
      have hlti : (k : Int) < (n : Int) := by omega
      have hkf : k < fs.length := by have := HN.out; omega
      have hkk : k < ks.length := by have := HM.out; omega
      obtain ⟨ad, rfl, had, hcell⟩ := (HR3.out.below hbr).at (m := 4) (fun _ => rfl) (by omega) hkf
      obtain ⟨au, rfl, hau, hcelu⟩ := (IsV.below (f := fkv) HK3.out hbr).at hkk
      have hdr : (fs.drop k).map FN.wf = fs[k].wf :: (fs.drop (k + 1)).map FN.wf := by rw [List.drop_eq_getElem_cons hkf, List.map_cons]
      have hdk : ks.drop k = ks[k] :: ks.drop (k + 1) := List.drop_eq_getElem_cons hkk
      have hle := HK2.out _ (List.getElem_mem hkk)
      have hbt := (HF3.out _ (List.getElem_mem hkf)).1
      obtain ⟨x, hx⟩ : ∃ x, x = fs[k] := ⟨_, rfl⟩
      obtain ⟨q, hqk⟩ : ∃ q, q = ks[k] := ⟨_, rfl⟩
      rw [← hx] at hcell hdr hbt
      rw [← hqk] at hcelu hdk hle
      have hk0 := hdr
      have HST2 := Lib.hid (show fturns 1 (fs.map FN.wf) ks = fturns ((k : Nat) + 1 : Int) (x.wf :: (fs.drop (k + 1)).map FN.wf) (q :: ks.drop (k + 1)) by rw [HST2.out, hdr, hdk])
      obtain ⟨c0, c1, c2, c3⟩ := cells4 hcell
      obtain ⟨tag, bytes, nn, bs, lv⟩ := x
      dsimp only at c0 c1 c2 c3 hbt
      obtain ⟨lA, ln, lc, rfl⟩ := IsV.shape (f := bv) hbt
      clear hcell hdr hdk hk0 hx hqk hkf hkk hbt had hau hbr hk
      have hk0 : (⟨tag, bytes, nn, bs, .slice lA ln lc⟩ : FN).wf = ⟨tag, bytes, nn, bs⟩ := rfl
      by_cases ht : tag = (k : Int) + 1
      case neg =>
        have HBB := HB
        have HNO := Lib.hid (show fturnO b ks = none from fturnO_no HTK.out (by rw [HST2.out]; exact fturns_tag (by exact ht)))
        have d2 : (tag != (k : Int) + 1) = true := by simpa using ht
        have HR := Lib.hid (show RetTn w (fturnO b ks) (.returned (.tuple #[.slice none 0 0, .bool false])) wr by rw [HNO.out]; exact ⟨rfl, HBB.out⟩)
        go_wp2
        go_ret2
        exact HR.out
      have d2 : (tag != (k : Int) + 1) = false := by simpa using ht
      have HTG := Lib.hid ht
      clear ht
      rcases (by omega : q = 0 ∨ q = 1 ∨ q = 2) with rfl | rfl | rfl
      · have hcu : wr.cell? (au.add k) = some (.func (.func 23) #[] #[]) := hcelu
        clear hcelu
        have HASK := Lib.hid (fun (W : World) => fask0_any tag bytes nn lA ln lc W)
        cases hq : fasked 0 ⟨tag, bytes, nn, bs⟩ with
        | false =>
          have HNO := Lib.hid (show fturnO b ks = none from fturnO_no HTK.out (by rw [HST2.out, hk0]; exact fturns_bad (by rw [hq])))
          have hq2 : fasked 0 ⟨tag, bytes, nn, []⟩ = false := hq
          rw [hq2] at HASK
          clear hq hq2
          go_wp2_with fail
          refine (HASK.out _).mono ?_
          rintro e w4 ⟨rfl, hb4⟩
          have HBB := Lib.hid (below_then HB.out hb4)
          clear hb4
          have HR := Lib.hid (show RetTn w (fturnO b ks) (.returned (.tuple #[.slice none 0 0, .bool false])) w4 by rw [HNO.out]; exact ⟨rfl, HBB.out⟩)
          go_wp2
          go_ret2
          exact HR.out
        | true =>
          have HNX := Lib.hid (show fturns 1 (fs.map FN.wf) ks = fturns ((k + 1 : Nat) + 1 : Int) ((fs.drop (k + 1)).map FN.wf) (ks.drop (k + 1)) by
            rw [HST2.out, hk0]
            exact fturns_good HTG.out hq)
          have hq2 : fasked 0 ⟨tag, bytes, nn, []⟩ = true := hq
          rw [hq2] at HASK
          clear hq hq2
          go_wp2_with fail
          refine (HASK.out _).mono ?_
          rintro e w4 ⟨rfl, hb4⟩
          have HREL := Lib.hid (show FTnRel fs ks w3 (.int .i64 ((k + 1 : Nat) : Int)) w4 from ⟨k + 1, by have := HM.out; omega, rfl, HNX.out, below_then HBR.out hb4⟩)
          clear hb4
          go_wp2
          go_roundw
          case rel => exact HREL.out
          case measure => simp [intOf]; omega
      · have hcu : wr.cell? (au.add k) = some (.func (.func 22) #[] #[]) := hcelu
        clear hcelu
        have HASK := Lib.hid (fun (W : World) => fask1_any tag bytes nn lA ln lc W)
        cases hq : fasked 1 ⟨tag, bytes, nn, bs⟩ with
        | false =>
          have HNO := Lib.hid (show fturnO b ks = none from fturnO_no HTK.out (by rw [HST2.out, hk0]; exact fturns_bad (by rw [hq])))
          have hq2 : fasked 1 ⟨tag, bytes, nn, []⟩ = false := hq
          rw [hq2] at HASK
          clear hq hq2
          go_wp2_with fail
          refine (HASK.out _).mono ?_
          rintro e w4 ⟨rfl, hb4⟩
          have HBB := Lib.hid (below_then HB.out hb4)
          clear hb4
          have HR := Lib.hid (show RetTn w (fturnO b ks) (.returned (.tuple #[.slice none 0 0, .bool false])) w4 by rw [HNO.out]; exact ⟨rfl, HBB.out⟩)
          go_wp2
          go_ret2
          exact HR.out
        | true =>
          have HNX := Lib.hid (show fturns 1 (fs.map FN.wf) ks = fturns ((k + 1 : Nat) + 1 : Int) ((fs.drop (k + 1)).map FN.wf) (ks.drop (k + 1)) by
            rw [HST2.out, hk0]
            exact fturns_good HTG.out hq)
          have hq2 : fasked 1 ⟨tag, bytes, nn, []⟩ = true := hq
          rw [hq2] at HASK
          clear hq hq2
          go_wp2_with fail
          refine (HASK.out _).mono ?_
          rintro e w4 ⟨rfl, hb4⟩
          have HREL := Lib.hid (show FTnRel fs ks w3 (.int .i64 ((k + 1 : Nat) : Int)) w4 from ⟨k + 1, by have := HM.out; omega, rfl, HNX.out, below_then HBR.out hb4⟩)
          clear hb4
          go_wp2
          go_roundw
          case rel => exact HREL.out
          case measure => simp [intOf]; omega
      · have hcu : wr.cell? (au.add k) = some (.func (.func 24) #[] #[]) := hcelu
        clear hcelu
        have HASK := Lib.hid (fun (W : World) => fask2_any tag bytes nn lA ln lc W)
        cases hq : fasked 2 ⟨tag, bytes, nn, bs⟩ with
        | false =>
          have HNO := Lib.hid (show fturnO b ks = none from fturnO_no HTK.out (by rw [HST2.out, hk0]; exact fturns_bad (by rw [hq])))
          have hq2 : fasked 2 ⟨tag, bytes, nn, []⟩ = false := hq
          rw [hq2] at HASK
          clear hq hq2
          go_wp2_with fail
          refine (HASK.out _).mono ?_
          rintro e w4 ⟨rfl, hb4⟩
          have HBB := Lib.hid (below_then HB.out hb4)
          clear hb4
          have HR := Lib.hid (show RetTn w (fturnO b ks) (.returned (.tuple #[.slice none 0 0, .bool false])) w4 by rw [HNO.out]; exact ⟨rfl, HBB.out⟩)
          go_wp2
          go_ret2
          exact HR.out
        | true =>
          have HNX := Lib.hid (show fturns 1 (fs.map FN.wf) ks = fturns ((k + 1 : Nat) + 1 : Int) ((fs.drop (k + 1)).map FN.wf) (ks.drop (k + 1)) by
            rw [HST2.out, hk0]
            exact fturns_good HTG.out hq)
          have hq2 : fasked 2 ⟨tag, bytes, nn, []⟩ = true := hq
          rw [hq2] at HASK
          clear hq hq2
          go_wp2_with fail
          refine (HASK.out _).mono ?_
          rintro e w4 ⟨rfl, hb4⟩
          have HREL := Lib.hid (show FTnRel fs ks w3 (.int .i64 ((k + 1 : Nat) : Int)) w4 from ⟨k + 1, by have := HM.out; omega, rfl, HNX.out, below_then HBR.out hb4⟩)
          clear hb4
          go_wp2
          go_roundw
          case rel => exact HREL.out
          case measure => simp [intOf]; omega
end Go.Proofs.YtocodcceimeiiaaDoor

/- wire's own contracts: TakeValue. Written by gen_ftakev.py. -/









namespace Go.Proofs.YtocodcceimeiiaaDoor

open Go.RowKit Go.ChangeShapes Go.WideShapes Go.ChangeAt

def cv0 : CV := ⟨false, 0, ⟨#[]⟩⟩
/-- A value and an error that a call answers. -/
def RetVE (w : World) (o : Option CV) (e : Ending) (w' : World) : Prop :=
  match o with
  | none => e = .returned (.tuple #[cv cv0, .int .i64 2]) ∧ Below w.heap.size w w'
  | some x => e = .returned (.tuple #[cv x, .int .i64 0]) ∧ Below w.heap.size w w'
theorem fvalI_size : (Tryd.prog.info? 32).map (·.size) = some 3 := by kernel_rfl
theorem vbuild_all (b : Bool) (n : Int) (s : ByteArray) (W : World) : (Instr.build 32 #[(0, .bool b), (1, .int .i64 n), (2, .string s)]).run Tryd.prog W = .ok (.agg #[.bool b, .int .i64 n, .string s]) W := by kernel_rfl
theorem grown_cellF {w w' : World} {g : Nat} {p : Addr} (h : w.grownBy w' (some g)) (hp : p.block < w.heap.size) (hne : p.block ≠ g) : w'.cell? p = w.cell? p := World.cell?_of_block (h.block _ hp (fun he => hne (by injection he)))
theorem eq_one (n : Nat) : ((n : Int) == 1) = (n == 1) := by
  by_cases h : n = 1
  · subst h; rfl
  · rw [beq_eq_false_iff_ne.2 h, beq_eq_false_iff_ne.2 (by omega)]
theorem oneCell_val (b : Bool) (n : Int) (s : ByteArray) : ∀ u ∈ [Value.bool b, .int .i64 n, .string s], u.oneCell' = true := by
  intro x hx
  simp only [List.mem_cons, List.not_mem_nil, or_false] at hx
  rcases hx with rfl | rfl | rfl <;> rfl
/-- The block that the answer lies in: as it was made, and with the value. -/
def VZero (g : Nat) (W : World) : Prop := Row W g 32 [.bool false, .int .i64 0, .string ⟨#[]⟩]
def VGot (g : Nat) (x : CV) (W : World) : Prop := Row W g 32 (kcells x)
theorem vgets_later (g : Nat) (x : CV) : Later (GetsTo g (VZero g) (VGot g x)) := getsTo_later _ _ _ (fun _ h => h) (fun _ h => h)
theorem vrow_any {g : Nat} {x : CV} {W : World} (h : VZero g W ∨ VGot g x W) : ∃ old : List Value, old.length = 3 ∧ Row W g 32 old := h.elim (fun h => ⟨_, rfl, h⟩) (fun h => ⟨_, rfl, h⟩)
theorem ftookV_eq (b : List UInt8) : ftookV b = (fturnO b [1, 0, 2]).map fvOf := by
  unfold ftookV fturnO
  cases ftakeE b with
  | none => rfl
  | some l =>
    dsimp only
    split <;> rfl
theorem fturnO_some {b : List UInt8} {ks : List Nat} {l : List WF} (h : fturnO b ks = some l) : ftakeE b = some l ∧ fturns 1 l ks = true := by
  unfold fturnO at h
  split at h
  · cases h
  · rename_i l' h1
    split at h
    · rename_i h2
      injection h with h
      subst h
      exact ⟨h1, h2⟩
    · cases h
/-- Where the k-th field of a row lies. -/
theorem field_cells {T : TypeId} {w : World} {fs : List FN} {ad : Addr} {n c base : Nat} (h : w.ownsRow base T 4 (.slice (some ad) n c) fs.length (fs.flatMap fcells)) {k : Nat} (hk : k < fs.length) :
    w.cell? ⟨(ad.add (k * 4)).block, (ad.add (k * 4)).off + 2, none⟩ = some (.int .u64 (fs[k].n : Int)) ∧ w.cell? ⟨(ad.add (k * 4)).block, (ad.add (k * 4)).off + 3, none⟩ = some fs[k].lv ∧ (ad.add (k * 4)).block < w.heap.size ∧ base ≤ (ad.add (k * 4)).block := by
  obtain ⟨ad', e, hlt, hc⟩ := (isR_own (f := fcells) (m := 4) (fun _ => rfl) (by omega) h).at (m := 4) (fun _ => rfl) (by omega) hk
  injection e with e
  subst e
  obtain ⟨_, _, c2, c3⟩ := cells4 hc
  have h2 : base ≤ ad.block ∧ ad.block < w.heap.size := by
    rcases h.2 with ⟨h1, _⟩ | ⟨g, cap, cur, h1, hb, hg, _⟩
    · cases h1
    · injection h1 with h1 _ _
      injection h1 with h1
      subst h1
      exact ⟨hb, (Array.getElem?_eq_some_iff.1 hg).1⟩
  exact ⟨c2, c3, by rw [add_block]; exact h2.2, by rw [add_block]; exact h2.1⟩
set_option maxHeartbeats 16000000 in
set_option maxRecDepth 100000 in
theorem ftakeV_own (b : List UInt8) (v : Value) (w : World) (h : IsB b v w) (hl : b.length ≤ 1000000000) : Calls Tryd.prog 8 #[v] w (RetVE w (ftakeV b)) := by
  rw [ftakeV_turn, ftookV_eq]
  obtain ⟨w1, hw1⟩ : ∃ x, x = w.alloc (.cells #[.bool false, .int .i64 0, .string ⟨#[]⟩] 32) := ⟨_, rfl⟩
  have hb1 : Below w.heap.size w w1 := by rw [hw1]; exact (Below.refl _ _).alloc (Nat.le_refl _) _
  have hr1 : Row w1 w.heap.size 32 [.bool false, .int .i64 0, .string ⟨#[]⟩] := by rw [hw1]; exact heap_alloc_new w _
  have hz1 : w1.heap.size = w.heap.size + 1 := by rw [hw1]; simp
  obtain ⟨w2, hw2⟩ : ∃ x, x = w1.alloc (.cells #[fkv 1, fkv 0, fkv 2] 57) := ⟨_, rfl⟩
  have hb2 : Below w1.heap.size w1 w2 := by rw [hw2]; exact (Below.refl _ _).alloc (Nat.le_refl _) _
  have hk2 : IsV fkv [1, 0, 2] (.slice (some ⟨w1.heap.size, 0, none⟩) 3 3) w2 := by rw [hw2]; exact isV_new fkv w1 _ [1, 0, 2] 3 rfl (by omega)
  have hz2 : w.heap.size < w2.heap.size := by have := hb2.size; omega
  have HTN := Lib.hid (fturns_any b [1, 0, 2] v _ w2 ((h.below hb1).below hb2) hl hk2 (by simp) (by simp))
  have HB2 := Lib.hid (below_then hb1 hb2)
  have HR2 := Lib.hid (hr1.below hb2 hr1.lt)
  have HZ2 := Lib.hid hz2
  have HW := Lib.hid (show ((w.alloc (.cells #[.bool false, .int .i64 0, .string ⟨#[]⟩] 32)).alloc (.cells #[.func (.func 22) #[] #[], .func (.func 23) #[] #[], .func (.func 24) #[] #[]] 57)) = w2 by rw [hw2, hw1]; rfl)
  rw [hz1] at HTN
  clear hb1 hr1 hz1 hb2 hk2 hz2 h hw1 hw2
  cases hO : fturnO b [1, 0, 2] with
  | none =>
    rw [hO] at HTN
    clear hO
    rw [Option.map_none]
    go_enter Tryd.func8, Tryd.ntmps8
    go_wp2_with fail
    rw [HW.out]
    refine HTN.out.mono ?_
    rintro e w3 ⟨rfl, hb3⟩
    have HB3 := Lib.hid (below_then HB2.out hb3)
    have HRG := Lib.hid (HR2.out.below hb3 HR2.out.lt)
    clear hb3
    go_wp2_with (refine wpList_storeW rfl _ _ _ rfl w.heap.size 0 32 [.bool false, .int .i64 0, .string ⟨#[]⟩] [.bool false, .int .i64 0, .string ⟨#[]⟩] [.bool false, .int .i64 0, .string ⟨#[]⟩] rfl rfl rfl HRG.out fvalI_size (Nat.le_refl _) (by decide) w w.heap.size HB3.out (Nat.le_refl _) ?_)
    intro w9 hr9 hb9 _
    have HR9 := Lib.hid hr9
    have HB9 := Lib.hid hb9
    clear hr9 hb9
    go_wp2
    refine bodyPost_ret (results_row_tmp rfl _ _ w.heap.size _ _ (0, 0) _ _ rfl HR9.out Tryd.underlying32 rfl fvalI_size rfl) rfl ?_
    exact ⟨rfl, HB9.out⟩
  | some l =>
    rw [hO] at HTN
    obtain ⟨hE, hT⟩ := fturnO_some hO
    have hln := fturns_len hT
    have hok := (ftakeE_back b.length (Nat.le_refl _) hE).1
    have HLN := Lib.hid hln
    have HOK := Lib.hid hok
    rw [Option.map_some]
    clear hO hE hT hln hok
    obtain ⟨X, hX⟩ : ∃ X, X = fvOf l := ⟨_, rfl⟩
    rw [← hX]
    have HXL := Lib.hid hX
    clear hX
    go_enter Tryd.func8, Tryd.ntmps8
    go_wp2_with fail
    rw [HW.out]
    refine HTN.out.mono ?_
    rintro e w3 ⟨fs, tv, rfl, hfe, ho3, hf3, hb3⟩
    subst hfe
    have hln := HLN.out
    have hok := HOK.out
    rw [List.length_map] at hln
    obtain ⟨x0, x1, x2, rfl⟩ : ∃ x0 x1 x2, fs = [x0, x1, x2] := by
      match fs, hln with
      | [x0, x1, x2], _ => exact ⟨x0, x1, x2, rfl⟩
    obtain ⟨tA, tn, tc, rfl⟩ := own_slice ho3
    have htn := (isR_own (f := fcells) (m := 4) (fun _ => rfl) (by omega) ho3).parts
    obtain rfl : 3 = tn := htn.1
    obtain ⟨ad, rfl⟩ : ∃ ad, tA = some ad := by
      cases tA with
      | none => have := htn.2.1 rfl; omega
      | some ad => exact ⟨ad, rfl⟩
    obtain ⟨g, hg⟩ : ∃ g, g = w.heap.size := ⟨_, rfl⟩
    obtain ⟨a0, _, a1, a2⟩ := field_cells ho3 (k := 0) (by simp)
    obtain ⟨d0, _, d1, d2⟩ := field_cells ho3 (k := 1) (by simp)
    obtain ⟨_, q0, q1, q2⟩ := field_cells ho3 (k := 2) (by simp)
    have hn1 := (hok x1.wf (by simp)).n
    have hbt := hf3 x2 (by simp)
    obtain ⟨t0, b0, n0, s0, l0⟩ := x0
    obtain ⟨t1, b1, n1, s1, l1⟩ := x1
    obtain ⟨t2, b2, n2, s2, l2⟩ := x2
    dsimp only [List.getElem_cons_zero, List.getElem_cons_succ, FN.wf] at a0 d0 q0 hn1 hbt
    obtain ⟨lA, ln, lc, rfl⟩ := IsV.shape (f := bv) hbt.1
    have hz2 := HZ2.out
    have HC0 := Lib.hid (show w3.cell? ⟨(ad.add (0 * 4)).block, (ad.add (0 * 4)).off + 2, none⟩ = some (.int .u64 (n0 : Int)) from a0)
    have HC1 := Lib.hid (show w3.cell? ⟨(ad.add (1 * 4)).block, (ad.add (1 * 4)).off + 2, none⟩ = some (.int .u64 (n1 : Int)) from d0)
    have HC2 := Lib.hid (show w3.cell? ⟨(ad.add (2 * 4)).block, (ad.add (2 * 4)).off + 3, none⟩ = some (.slice lA ln lc) from q0)
    have HLT0 := Lib.hid a1
    have HLT1 := Lib.hid d1
    have HLT2 := Lib.hid q1
    have HNE0 := Lib.hid (show (ad.add (0 * 4)).block ≠ g by omega)
    have HNE1 := Lib.hid (show (ad.add (1 * 4)).block ≠ g by omega)
    have HNE2 := Lib.hid (show (ad.add (2 * 4)).block ≠ g by omega)
    have HN1 := Lib.hid (show (n1 : Int) < 18446744073709551616 by omega)
    have HBT := Lib.hid hbt
    have HB3 := Lib.hid (below_then HB2.out hb3)
    have HRG := Lib.hid (show VZero g w3 by rw [hg]; exact HR2.out.below hb3 HR2.out.lt)
    obtain ⟨x, hx⟩ : ∃ x : CV, x = ⟨(n0 : Int) == 1, vzag (n1 : Int), ⟨s2.toArray⟩⟩ := ⟨_, rfl⟩
    have HX := Lib.hid hx
    have HXF := Lib.hid (show x = X by rw [hx, eq_one, HXL.out]; rfl)
    have HG := Lib.hid hg
    clear hln hok ho3 hf3 hb3 htn a0 a1 a2 d0 d1 d2 q0 q1 q2 hn1 hbt hz2 hx HTN HXL HLN HOK
    go_wp2_with fail
    rw [← hg]
    clear hg
    refine wp_region_listR (vgets_later g x) [.is (.slice (some ad) 3 tc), .is (.pointer (some (ad.add (0 * 4)))), .is (.pointer (some ⟨(ad.add (0 * 4)).block, (ad.add (0 * 4)).off + 2, none⟩)), .is (.int .u64 (n0 : Int)), .is (.bool ((n0 : Int) == 1)), .is (.slice (some ad) 3 tc), .is (.pointer (some (ad.add (1 * 4)))), .is (.pointer (some ⟨(ad.add (1 * 4)).block, (ad.add (1 * 4)).off + 2, none⟩)), .is (.int .u64 (n1 : Int)), .is (.int .i64 (vzag (n1 : Int))), .is (.slice (some ad) 3 tc), .is (.pointer (some (ad.add (2 * 4)))), .is (.pointer (some ⟨(ad.add (2 * 4)).block, (ad.add (2 * 4)).off + 3, none⟩)), .is (.slice lA ln lc), .is (.string ⟨s2.toArray⟩), .is (.agg #[.bool ((n0 : Int) == 1), .int .i64 (vzag (n1 : Int)), .string ⟨s2.toArray⟩]), .of (fun _ W => VGot g x W) (fun _ _ _ h hk => hk.2.2 h), .is (.int .i64 0)]
      [some 15, some 16, some 17, some 18, some 19, some 20, some 21, some 22, some 23, some 24, some 25, some 26, some 27, some 28, some 29, some 30, none, some 3] (by kernel_rfl) (by kernel_rfl) (by kernel_rfl) (by kernel_rfl) rfl ⟨?_, ?_, ?_, ?_, ?_, ?_, ?_, ?_, ?_, ?_, ?_, ?_, ?_, ?_, ?_, ?_, ?_, ?_, trivial⟩ ?_
    · intro ρ vs W1 hb1 H
      exact gives_move rfl (H.old 4 _ (by kernel_rfl) rfl) ⟨upd_at _ _ _, (vgets_later g x).refl _⟩
    · intro ρ vs W1 hb1 H
      exact gives_index_wide (k := 0) Tryd.underlying24 ofield_size rfl (H.holds 15 0 (by kernel_rfl)) (H.const _) (by omega) ⟨upd_at _ _ _, (vgets_later g x).refl _⟩
    · intro ρ vs W1 hb1 H
      exact gives_field rfl (H.holds 16 1 (by kernel_rfl)) (fun W => ofield_at2 W (ad.add (0 * 4))) ⟨upd_at _ _ _, (vgets_later g x).refl _⟩
    · intro ρ vs W1 hb1 H
      exact gives_load rfl (H.holds 17 2 (by kernel_rfl)) Tryd.underlying47 rfl ((grown_cellF (p := ⟨(ad.add (0 * 4)).block, (ad.add (0 * 4)).off + 2, none⟩) hb1.1 HLT0.out HNE0.out).trans HC0.out) ⟨upd_at _ _ _, (vgets_later g x).refl _⟩
    · intro ρ vs W1 hb1 H
      exact gives_inteq rfl (H.holds 18 3 (by kernel_rfl)) (H.const _) ⟨upd_at _ _ _, (vgets_later g x).refl _⟩
    · intro ρ vs W1 hb1 H
      exact gives_move rfl (H.old 4 _ (by kernel_rfl) rfl) ⟨upd_at _ _ _, (vgets_later g x).refl _⟩
    · intro ρ vs W1 hb1 H
      exact gives_index_wide (k := 1) Tryd.underlying24 ofield_size rfl (H.holds 20 5 (by kernel_rfl)) (H.const _) (by omega) ⟨upd_at _ _ _, (vgets_later g x).refl _⟩
    · intro ρ vs W1 hb1 H
      exact gives_field rfl (H.holds 21 6 (by kernel_rfl)) (fun W => ofield_at2 W (ad.add (1 * 4))) ⟨upd_at _ _ _, (vgets_later g x).refl _⟩
    · intro ρ vs W1 hb1 H
      exact gives_load rfl (H.holds 22 7 (by kernel_rfl)) Tryd.underlying47 rfl ((grown_cellF (p := ⟨(ad.add (1 * 4)).block, (ad.add (1 * 4)).off + 2, none⟩) hb1.1 HLT1.out HNE1.out).trans HC1.out) ⟨upd_at _ _ _, (vgets_later g x).refl _⟩
    · intro ρ vs W1 hb1 H
      have e0 : ρ (.tmp 23) = .int .u64 (n1 : Int) := H.holds 23 8 (by kernel_rfl)
      refine gives_call rfl (fun _ _ => by kernel_rfl) (H.func _) (args := #[.int .u64 (n1 : Int)]) (by simp [e0]) ?_
      exact (zag_any (n1 : Int) W1 (by omega) HN1.out).mono fun e w' ⟨h1, h2⟩ => ⟨_, h1, upd_at _ _ _, h2 ▸ (vgets_later g x).refl _⟩
    · intro ρ vs W1 hb1 H
      exact gives_move rfl (H.old 4 _ (by kernel_rfl) rfl) ⟨upd_at _ _ _, (vgets_later g x).refl _⟩
    · intro ρ vs W1 hb1 H
      exact gives_index_wide (k := 2) Tryd.underlying24 ofield_size rfl (H.holds 25 10 (by kernel_rfl)) (H.const _) (by omega) ⟨upd_at _ _ _, (vgets_later g x).refl _⟩
    · intro ρ vs W1 hb1 H
      exact gives_field rfl (H.holds 26 11 (by kernel_rfl)) (fun W => ofield_at3 W (ad.add (2 * 4))) ⟨upd_at _ _ _, (vgets_later g x).refl _⟩
    · intro ρ vs W1 hb1 H
      exact gives_load rfl (H.holds 27 12 (by kernel_rfl)) Tryd.underlying22 rfl ((grown_cellF (p := ⟨(ad.add (2 * 4)).block, (ad.add (2 * 4)).off + 3, none⟩) hb1.1 HLT2.out HNE2.out).trans HC2.out) ⟨upd_at _ _ _, (vgets_later g x).refl _⟩
    · intro ρ vs W1 hb1 H
      exact gives_convert rfl (H.holds 28 13 (by kernel_rfl)) (textB (HBT.out.spared HRG.out (by decide) hb1.1).1) ⟨upd_at _ _ _, (vgets_later g x).refl _⟩
    · intro ρ vs W1 hb1 H
      have e1 : ρ (.tmp 19) = .bool ((n0 : Int) == 1) := H.holds 19 4 (by kernel_rfl)
      have e2 : ρ (.tmp 24) = .int .i64 (vzag (n1 : Int)) := H.holds 24 9 (by kernel_rfl)
      have e3 : ρ (.tmp 29) = .string ⟨s2.toArray⟩ := H.holds 29 14 (by kernel_rfl)
      refine gives_of (v := .agg #[.bool ((n0 : Int) == 1), .int .i64 (vzag (n1 : Int)), .string ⟨s2.toArray⟩]) (w' := W1) ?_ ⟨upd_at _ _ _, (vgets_later g x).refl _⟩
      simp [execOp, e1, e2, e3, vbuild_all]
    · intro ρ vs W1 hb1 H
      obtain ⟨old, hol, hro⟩ := vrow_any (hb1.2.1 (.inl HRG.out))
      have hgot : VGot g x (W1.setRow g (kcells x).toArray) := rowAll_set hro
      have e1 : ρ (.tmp 30) = .agg (kcells x).toArray := by rw [HX.out]; exact H.holds 30 15 (by kernel_rfl)
      exact gives_store_row (cs := kcells x) rfl (H.old 2 _ (by kernel_rfl) rfl) e1 hro fvalI_size hol (oneCell_val _ _ _) ⟨hgot, getsTo_set hgot⟩
    · intro ρ vs W1 hb1 H
      exact gives_assign rfl (H.const _) ⟨upd_at _ _ _, (vgets_later g x).refl _⟩
    · intro vs W1 hb1 hfs
      have f16 : VGot g x W1 := hfs 16 (by decide)
      have f17 : vs 17 = .int .i64 0 := hfs 17 (by decide)
      clear hfs
      simp only [putAll, Nat.zero_add, Nat.reduceAdd]
      generalize vs 0 = z0
      generalize vs 1 = z1
      generalize vs 2 = z2
      generalize vs 3 = z3
      generalize vs 4 = z4
      generalize vs 5 = z5
      generalize vs 6 = z6
      generalize vs 7 = z7
      generalize vs 8 = z8
      generalize vs 9 = z9
      generalize vs 10 = z10
      generalize vs 11 = z11
      generalize vs 12 = z12
      generalize vs 13 = z13
      generalize vs 14 = z14
      generalize vs 15 = z15
      generalize vs 16 = z16
      simp only [f17, Act.put, List.setIfInBounds_toArray, List.set_cons_succ, List.set_cons_zero]
      have HRO := Lib.hid f16
      have HBW := Lib.hid (show Below w.heap.size w W1 from HB3.out.grown hb1.1 HB3.out.size fun k hk => by injection hk with hk; rw [← hk, HG.out]; exact Nat.le_refl _)
      clear f16 f17 hb1
      go_wp2
      refine bodyPost_ret (results_row_tmp rfl _ _ g _ _ (0, 0) _ _ rfl HRO.out Tryd.underlying32 rfl fvalI_size rfl) rfl ?_
      rw [← HXF.out]
      exact ⟨rfl, HBW.out⟩
end Go.Proofs.YtocodcceimeiiaaDoor

/- wire's own contracts: TakeStats. Written by gen_ftakes.py. -/





namespace Go.Proofs.YtocodcceimeiiaaDoor

open Go.RowKit Go.ChangeShapes Go.WideShapes Go.ChangeAt

def gs0 : GS := ⟨0, false, cv0, cv0, 0, false⟩
/-- What is known and an error that a call answers. -/
def RetGE (w : World) (o : Option GS) (e : Ending) (w' : World) : Prop :=
  match o with
  | none => e = .returned (.tuple #[gsv gs0, .int .i64 2]) ∧ Below w.heap.size w w'
  | some x => e = .returned (.tuple #[gsv x, .int .i64 0]) ∧ Below w.heap.size w w'
theorem fstI_size : (Tryd.prog.info? 36).map (·.size) = some 10 := by kernel_rfl
theorem stats_infoF : ∃ i, Tryd.prog.info? 36 = some i ∧ i.zero = some (.agg #[.int .i64 0, .bool false, .bool false, .int .i64 0, .string ⟨#[]⟩, .bool false, .int .i64 0, .string ⟨#[]⟩, .int .i64 0, .bool false]) := by
  have h : (Tryd.prog.info? 36).map (fun i => i.zero) = some (some (.agg #[.int .i64 0, .bool false, .bool false, .int .i64 0, .string ⟨#[]⟩, .bool false, .int .i64 0, .string ⟨#[]⟩, .int .i64 0, .bool false])) := by kernel_rfl
  cases hi : Tryd.prog.info? 36 with
  | none => rw [hi] at h; cases h
  | some i => rw [hi] at h; injection h with h; exact ⟨i, rfl, h⟩
def Fact.madeS (B : Nat) : Fact := ⟨fun v W => ∃ h, v = .pointer (some ⟨h, 0, Option.none⟩) ∧ B ≤ h ∧ Row W h 36 [.int .i64 0, .bool false, .bool false, .int .i64 0, .string ⟨#[]⟩, .bool false, .int .i64 0, .string ⟨#[]⟩, .int .i64 0, .bool false], fun _ _ _ ⟨h, h1, h2, h3⟩ hb => ⟨h, h1, h2, h3.below hb h3.lt⟩⟩
theorem sbuild_all (c : Int) (h : Bool) (xb : Bool) (xn : Int) (xs : ByteArray) (yb : Bool) (yn : Int) (ys : ByteArray) (s : Int) (o : Bool) (W : World) : (Instr.build 36 #[(0, .int .i64 c), (1, .bool h), (2, .agg #[.bool xb, .int .i64 xn, .string xs]), (3, .agg #[.bool yb, .int .i64 yn, .string ys]), (4, .int .i64 s), (5, .bool o)]).run Tryd.prog W = .ok (.agg #[.int .i64 c, .bool h, .bool xb, .int .i64 xn, .string xs, .bool yb, .int .i64 yn, .string ys, .int .i64 s, .bool o]) W := by kernel_rfl
theorem oneCell_stats (c : Int) (h : Bool) (xb : Bool) (xn : Int) (xs : ByteArray) (yb : Bool) (yn : Int) (ys : ByteArray) (s : Int) (o : Bool) : ∀ u ∈ [Value.int .i64 c, .bool h, .bool xb, .int .i64 xn, .string xs, .bool yb, .int .i64 yn, .string ys, .int .i64 s, .bool o], u.oneCell' = true := by
  intro u hu
  simp only [List.mem_cons, List.not_mem_nil, or_false] at hu
  rcases hu with rfl | rfl | rfl | rfl | rfl | rfl | rfl | rfl | rfl | rfl <;> rfl
theorem ftookG_eq (k : Int) (b : List UInt8) : ftookG k b = match fturnO b [0, 1, 2, 2, 0, 1] with
    | none => none
    | some l => match ftakeV (l.getD 2 (fnum 0 0)).b, ftakeV (l.getD 3 (fnum 0 0)).b with
      | some x, some y => if gmayE k (fgOf l x y) = true then some (fgOf l x y) else none
      | _, _ => none := by
  unfold ftookG fturnO
  cases ftakeE b with
  | none => rfl
  | some l =>
    dsimp only
    split <;> rfl
theorem flen_in : ∀ {l : List WF}, (∀ f ∈ l, FOk f) → ∀ f ∈ l, f.b.length ≤ (l.flatMap fput1).length
  | [], _, f, hf => by cases hf
  | g :: l, h, f, hf => by
    rw [List.flatMap_cons, List.length_append]
    rcases List.mem_cons.1 hf with rfl | hf
    · have h1 := h f List.mem_cons_self
      cases hb : f.bytes with
      | false => rw [h1.num hb]; simp
      | true =>
        rw [fput1_byt hb, List.length_append, List.length_append]
        omega
    · have := flen_in (fun x hx => h x (List.mem_cons_of_mem _ hx)) f hf
      omega
theorem ftakeV_size {b : List UInt8} {x : CV} (h : ftakeV b = some x) : x.s.size ≤ b.length := by
  unfold ftakeV at h
  split at h
  · cases h
  · rename_i l hl
    split at h
    · rename_i h2
      injection h with h
      have hp : fputV x = b := by rw [← h]; exact h2.2
      rw [← hp]
      unfold fputV fvalue
      simp only [List.flatMap_cons, List.flatMap_nil, List.append_nil, List.length_append]
      have h3 : (fput1 (fbyt 3 x.s.toList)).length ≥ x.s.size := by
        rw [fput1_byt rfl, List.length_append, List.length_append]
        simp only [fbyt]
        rw [toList_lenF]
        omega
      omega
    · cases h
set_option maxHeartbeats 32000000 in
set_option maxRecDepth 100000 in
theorem ftakeG_own (k : Int) (b : List UInt8) (v : Value) (w : World) (h : IsB b v w) (hl : b.length ≤ 1000000000) : Calls Tryd.prog 10 #[.int .i64 k, v] w (RetGE w (ftakeG k b)) := by
  rw [ftakeG_turn]
  obtain ⟨w1, hw1⟩ : ∃ x, x = w.alloc (.cells #[.int .i64 0, .bool false, .bool false, .int .i64 0, .string ⟨#[]⟩, .bool false, .int .i64 0, .string ⟨#[]⟩, .int .i64 0, .bool false] 36) := ⟨_, rfl⟩
  have hb1 : Below w.heap.size w w1 := by rw [hw1]; exact (Below.refl _ _).alloc (Nat.le_refl _) _
  have hr1 : Row w1 w.heap.size 36 [.int .i64 0, .bool false, .bool false, .int .i64 0, .string ⟨#[]⟩, .bool false, .int .i64 0, .string ⟨#[]⟩, .int .i64 0, .bool false] := by rw [hw1]; exact heap_alloc_new w _
  have hz1 : w1.heap.size = w.heap.size + 1 := by rw [hw1]; simp
  obtain ⟨w2, hw2⟩ : ∃ x, x = w1.alloc (.cells #[fkv 0, fkv 1, fkv 2, fkv 2, fkv 0, fkv 1] 57) := ⟨_, rfl⟩
  have hb2 : Below w1.heap.size w1 w2 := by rw [hw2]; exact (Below.refl _ _).alloc (Nat.le_refl _) _
  have hk2 : IsV fkv [0, 1, 2, 2, 0, 1] (.slice (some ⟨w1.heap.size, 0, none⟩) 6 6) w2 := by rw [hw2]; exact isV_new fkv w1 _ [0, 1, 2, 2, 0, 1] 6 rfl (by omega)
  have hz2 : w.heap.size < w2.heap.size := by have := hb2.size; omega
  have HTN := Lib.hid (fturns_any b [0, 1, 2, 2, 0, 1] v _ w2 ((h.below hb1).below hb2) hl hk2 (by simp) (by simp))
  have HB2 := Lib.hid (below_then hb1 hb2)
  have HR2 := Lib.hid (hr1.below hb2 hr1.lt)
  have HW := Lib.hid (show ((w.alloc (.cells #[.int .i64 0, .bool false, .bool false, .int .i64 0, .string ⟨#[]⟩, .bool false, .int .i64 0, .string ⟨#[]⟩, .int .i64 0, .bool false] 36)).alloc (.cells #[.func (.func 23) #[] #[], .func (.func 22) #[] #[], .func (.func 24) #[] #[], .func (.func 24) #[] #[], .func (.func 23) #[] #[], .func (.func 22) #[] #[]] 57)) = w2 by rw [hw2, hw1]; rfl)
  have hGO := ftookG_eq k b
  rw [hz1] at HTN
  clear hb1 hr1 hz1 hb2 hk2 hz2 h hw1 hw2
  cases hO : fturnO b [0, 1, 2, 2, 0, 1] with
  | none =>
    rw [hO] at HTN hGO
    have HNOE := Lib.hid hGO
    clear hO hGO
    go_enter Tryd.func10, Tryd.ntmps10
    go_wp2_with fail
    rw [HW.out]
    refine HTN.out.mono ?_
    rintro e w3 ⟨rfl, hb3⟩
    have HB3 := Lib.hid (below_then HB2.out hb3)
    have HRG := Lib.hid (HR2.out.below hb3 HR2.out.lt)
    clear hb3
    go_wp2_with (refine wpList_storeW rfl _ _ _ rfl w.heap.size 0 36 [.int .i64 0, .bool false, .bool false, .int .i64 0, .string ⟨#[]⟩, .bool false, .int .i64 0, .string ⟨#[]⟩, .int .i64 0, .bool false] [.int .i64 0, .bool false, .bool false, .int .i64 0, .string ⟨#[]⟩, .bool false, .int .i64 0, .string ⟨#[]⟩, .int .i64 0, .bool false] [.int .i64 0, .bool false, .bool false, .int .i64 0, .string ⟨#[]⟩, .bool false, .int .i64 0, .string ⟨#[]⟩, .int .i64 0, .bool false] rfl rfl rfl HRG.out fstI_size (Nat.le_refl _) (by decide) w w.heap.size HB3.out (Nat.le_refl _) ?_)
    intro w9 hr9 hb9 _
    have HR9 := Lib.hid hr9
    have HB9 := Lib.hid hb9
    clear hr9 hb9
    go_wp2
    refine bodyPost_ret (results_row_tmp rfl _ _ w.heap.size _ _ (0, 0) _ _ rfl HR9.out Tryd.underlying36 rfl fstI_size rfl) rfl ?_
    rw [HNOE.out]
    exact ⟨rfl, HB9.out⟩
  | some l =>
    rw [hO] at HTN hGO
    dsimp only at hGO
    obtain ⟨hE, hT⟩ := fturnO_some hO
    have HLN := Lib.hid (fturns_len hT)
    have HBACK := Lib.hid (ftakeE_back b.length (Nat.le_refl _) hE)
    have HGO := Lib.hid hGO
    clear hO hE hT hGO
    go_enter Tryd.func10, Tryd.ntmps10
    go_wp2_with fail
    rw [HW.out]
    refine HTN.out.mono ?_
    rintro e w3 ⟨fs, tv, rfl, hfe, ho3, hf3, hb3⟩
    subst hfe
    have hln := HLN.out
    obtain ⟨hok, hbe⟩ := HBACK.out
    rw [List.length_map] at hln
    obtain ⟨x0, x1, x2, x3, x4, x5, rfl⟩ : ∃ x0 x1 x2 x3 x4 x5, fs = [x0, x1, x2, x3, x4, x5] := by
      match fs, hln with
      | [x0, x1, x2, x3, x4, x5], _ => exact ⟨x0, x1, x2, x3, x4, x5, rfl⟩
    obtain ⟨tA, tn, tc, rfl⟩ := own_slice ho3
    have htn := (isR_own (f := fcells) (m := 4) (fun _ => rfl) (by omega) ho3).parts
    obtain rfl : 6 = tn := htn.1
    obtain ⟨ad, rfl⟩ : ∃ ad, tA = some ad := by
      cases tA with
      | none => have := htn.2.1 rfl; omega
      | some ad => exact ⟨ad, rfl⟩
    obtain ⟨a0, _, a1, _⟩ := field_cells ho3 (k := 0) (by simp)
    obtain ⟨b0, _, b1, _⟩ := field_cells ho3 (k := 1) (by simp)
    obtain ⟨_, c0, c1, _⟩ := field_cells ho3 (k := 2) (by simp)
    obtain ⟨_, d0, d1, _⟩ := field_cells ho3 (k := 3) (by simp)
    obtain ⟨i0, _, i1, _⟩ := field_cells ho3 (k := 4) (by simp)
    obtain ⟨j0, _, j1, _⟩ := field_cells ho3 (k := 5) (by simp)
    have hn0 := (hok x0.wf (by simp)).n
    have hn4 := (hok x4.wf (by simp)).n
    have hl2 : x2.wf.b.length ≤ b.length := by rw [hbe]; exact flen_in hok x2.wf (by simp)
    have hl3 : x3.wf.b.length ≤ b.length := by rw [hbe]; exact flen_in hok x3.wf (by simp)
    have hI2 := (hf3 x2 (by simp)).1
    have hI3 := (hf3 x3 (by simp)).1
    obtain ⟨t0, f0, n0, s0, l0⟩ := x0
    obtain ⟨t1, f1, n1, s1, l1⟩ := x1
    obtain ⟨t2, f2, n2, s2, l2⟩ := x2
    obtain ⟨t3, f3, n3, s3, l3⟩ := x3
    obtain ⟨t4, f4, n4, s4, l4⟩ := x4
    obtain ⟨t5, f5, n5, s5, l5⟩ := x5
    dsimp only [List.getElem_cons_zero, List.getElem_cons_succ, FN.wf] at a0 b0 c0 d0 i0 j0 hn0 hn4 hl2 hl3 hI2 hI3
    have hGO : ftookG k b = match ftakeV s2, ftakeV s3 with
      | some x, some y => if gmayE k (fgOf ([⟨t0, f0, n0, s0⟩, ⟨t1, f1, n1, s1⟩, ⟨t2, f2, n2, s2⟩, ⟨t3, f3, n3, s3⟩, ⟨t4, f4, n4, s4⟩, ⟨t5, f5, n5, s5⟩] : List WF) x y) = true then some (fgOf [⟨t0, f0, n0, s0⟩, ⟨t1, f1, n1, s1⟩, ⟨t2, f2, n2, s2⟩, ⟨t3, f3, n3, s3⟩, ⟨t4, f4, n4, s4⟩, ⟨t5, f5, n5, s5⟩] x y) else none
      | _, _ => none := HGO.out
    have HGO := Lib.hid hGO
    have k2 : w3.cell? ⟨ad.block, ad.off + 8 + 3, none⟩ = some l2 := c0
    have HD3 := Lib.hid (show w3.cell? ⟨(ad.add (3 * 4)).block, (ad.add (3 * 4)).off + 3, none⟩ = some l3 from d0)
    have HA0 := Lib.hid (show w3.cell? ⟨(ad.add (0 * 4)).block, (ad.add (0 * 4)).off + 2, none⟩ = some (.int .u64 (n0 : Int)) from a0)
    have HA1 := Lib.hid (show w3.cell? ⟨(ad.add (1 * 4)).block, (ad.add (1 * 4)).off + 2, none⟩ = some (.int .u64 (n1 : Int)) from b0)
    have HA4 := Lib.hid (show w3.cell? ⟨(ad.add (4 * 4)).block, (ad.add (4 * 4)).off + 2, none⟩ = some (.int .u64 (n4 : Int)) from i0)
    have HA5 := Lib.hid (show w3.cell? ⟨(ad.add (5 * 4)).block, (ad.add (5 * 4)).off + 2, none⟩ = some (.int .u64 (n5 : Int)) from j0)
    have HL0 := Lib.hid a1
    have HL1 := Lib.hid b1
    have HL3 := Lib.hid d1
    have HL4 := Lib.hid i1
    have HL5 := Lib.hid j1
    have HN0 := Lib.hid (show ∃ q : Int, q = 18446744073709551616 ∧ (n0 : Int) < q from ⟨_, rfl, by omega⟩)
    have HN4 := Lib.hid (show ∃ q : Int, q = 18446744073709551616 ∧ (n4 : Int) < q from ⟨_, rfl, by omega⟩)
    have HI2 := Lib.hid hI2
    have HI3 := Lib.hid hI3
    have HB3 := Lib.hid (below_then HB2.out hb3)
    have HRG3 := Lib.hid (HR2.out.below hb3 HR2.out.lt)
    have HLB2 := Lib.hid hl2
    have HLB3 := Lib.hid hl3
    clear hln hok hbe ho3 hf3 hb3 htn a0 a1 b0 b1 c0 c1 d0 d1 i0 i1 j0 j1 hn0 hn4 hl2 hl3 hI2 hI3 hGO HTN HLN HBACK
    have hv2 := ftakeV_own s2 l2 w3 HI2.out (by have := HLB2.out; omega)
    cases hx2 : ftakeV s2 with
    | none =>
      rw [hx2] at hv2
      have HV2 := Lib.hid hv2
      have HNOE := Lib.hid (show ftookG k b = none by rw [HGO.out, hx2])
      clear hv2 hx2
      go_wp2_with fail
      refine HV2.out.mono ?_
      rintro e w4 ⟨rfl, hb4⟩
      dsimp only [cv, cv0]
      have hbX : Below w4.heap.size w4 (w4.alloc (.cells #[.bool false, .int .i64 0, .string ⟨#[]⟩] 32)) := (Below.refl _ _).alloc (Nat.le_refl _) _
      have HB4 := Lib.hid (below_then (below_then HB3.out hb4) hbX)
      have HRG4 := Lib.hid ((HRG3.out.below hb4 HRG3.out.lt).below hbX (HRG3.out.below hb4 HRG3.out.lt).lt)
      clear hb4 hbX k2
      go_wp2_with (refine wpList_storeW rfl _ _ _ rfl w.heap.size 0 36 [.int .i64 0, .bool false, .bool false, .int .i64 0, .string ⟨#[]⟩, .bool false, .int .i64 0, .string ⟨#[]⟩, .int .i64 0, .bool false] [.int .i64 0, .bool false, .bool false, .int .i64 0, .string ⟨#[]⟩, .bool false, .int .i64 0, .string ⟨#[]⟩, .int .i64 0, .bool false] [.int .i64 0, .bool false, .bool false, .int .i64 0, .string ⟨#[]⟩, .bool false, .int .i64 0, .string ⟨#[]⟩, .int .i64 0, .bool false] rfl rfl rfl HRG4.out fstI_size (Nat.le_refl _) (by decide) w w.heap.size HB4.out (Nat.le_refl _) ?_)
      intro w9 hr9 hb9 _
      have HR9 := Lib.hid hr9
      have HB9 := Lib.hid hb9
      clear hr9 hb9
      go_wp2
      refine bodyPost_ret (results_row_tmp rfl _ _ w.heap.size _ _ (0, 0) _ _ rfl HR9.out Tryd.underlying36 rfl fstI_size rfl) rfl ?_
      rw [HNOE.out]
      exact ⟨rfl, HB9.out⟩
    | some X =>
      rw [hx2] at hv2
      have HV2 := Lib.hid hv2
      have HSX := Lib.hid (show X.s.size ≤ maxLen from Nat.le_trans (ftakeV_size hx2) (by have := HLB2.out; unfold maxLen; omega))
      have HX2 := Lib.hid hx2
      clear hv2 hx2
      obtain ⟨xb, xn, xs⟩ := X
      go_wp2_with fail
      clear k2
      refine HV2.out.mono ?_
      rintro e w4 ⟨rfl, hb4⟩
      dsimp only [cv]
      obtain ⟨w5, hw5⟩ : ∃ y, y = w4.alloc (.cells #[.bool xb, .int .i64 xn, .string xs] 32) := ⟨_, rfl⟩
      have hb5 : Below w4.heap.size w4 w5 := by rw [hw5]; exact (Below.refl _ _).alloc (Nat.le_refl _) _
      have hrx : Row w5 w4.heap.size 32 [.bool xb, .int .i64 xn, .string xs] := by rw [hw5]; exact heap_alloc_new w4 _
      have h35 := below_then hb4 hb5
      have HB5 := Lib.hid (below_then HB3.out h35)
      have HRG5 := Lib.hid (HRG3.out.below h35 HRG3.out.lt)
      have k3 : (w4.alloc (.cells #[.bool xb, .int .i64 xn, .string xs] 32)).cell? ⟨ad.block, ad.off + 12 + 3, none⟩ = some l3 := by rw [← hw5]; exact (h35.cell (p := ⟨(ad.add (3 * 4)).block, (ad.add (3 * 4)).off + 3, none⟩) HL3.out).trans HD3.out
      obtain ⟨hx, hhx⟩ : ∃ hx, hx = w4.heap.size := ⟨_, rfl⟩
      have HW5 := Lib.hid hw5
      have HHX := Lib.hid hhx
      have HRX5 := Lib.hid hrx
      have H35 := Lib.hid h35
      have hv3 := ftakeV_own s3 l3 w5 (HI3.out.below h35) (by have := HLB3.out; omega)
      clear hb4 hb5 hrx h35 hw5 hhx
      cases hx3 : ftakeV s3 with
      | none =>
        rw [hx3] at hv3
        have HV3 := Lib.hid hv3
        have HNOE := Lib.hid (show ftookG k b = none by rw [HGO.out, HX2.out, hx3])
        clear hv3 hx3
        go_wp2_with fail
        rw [← HW5.out]
        clear k3
        refine HV3.out.mono ?_
        rintro e w6 ⟨rfl, hb6⟩
        dsimp only [cv, cv0]
        have hbX : Below w6.heap.size w6 (w6.alloc (.cells #[.bool false, .int .i64 0, .string ⟨#[]⟩] 32)) := (Below.refl _ _).alloc (Nat.le_refl _) _
        have HB6 := Lib.hid (below_then (below_then HB5.out hb6) hbX)
        have HRG6 := Lib.hid ((HRG5.out.below hb6 HRG5.out.lt).below hbX (HRG5.out.below hb6 HRG5.out.lt).lt)
        clear hb6 hbX
        go_wp2_with (refine wpList_storeW rfl _ _ _ rfl w.heap.size 0 36 [.int .i64 0, .bool false, .bool false, .int .i64 0, .string ⟨#[]⟩, .bool false, .int .i64 0, .string ⟨#[]⟩, .int .i64 0, .bool false] [.int .i64 0, .bool false, .bool false, .int .i64 0, .string ⟨#[]⟩, .bool false, .int .i64 0, .string ⟨#[]⟩, .int .i64 0, .bool false] [.int .i64 0, .bool false, .bool false, .int .i64 0, .string ⟨#[]⟩, .bool false, .int .i64 0, .string ⟨#[]⟩, .int .i64 0, .bool false] rfl rfl rfl HRG6.out fstI_size (Nat.le_refl _) (by decide) w w.heap.size HB6.out (Nat.le_refl _) ?_)
        intro w9 hr9 hb9 _
        have HR9 := Lib.hid hr9
        have HB9 := Lib.hid hb9
        clear hr9 hb9
        go_wp2
        refine bodyPost_ret (results_row_tmp rfl _ _ w.heap.size _ _ (0, 0) _ _ rfl HR9.out Tryd.underlying36 rfl fstI_size rfl) rfl ?_
        rw [HNOE.out]
        exact ⟨rfl, HB9.out⟩
      | some Y =>
        rw [hx3] at hv3
        have HV3 := Lib.hid hv3
        have HSY := Lib.hid (show Y.s.size ≤ maxLen from Nat.le_trans (ftakeV_size hx3) (by have := HLB3.out; unfold maxLen; omega))
        have HX3 := Lib.hid hx3
        clear hv3 hx3
        obtain ⟨yb, yn, ys⟩ := Y
        go_wp2_with fail
        rw [← HW5.out]
        clear k3
        refine HV3.out.mono ?_
        rintro e wy ⟨rfl, hby⟩
        dsimp only [cv]
        obtain ⟨w6, hw6⟩ : ∃ y, y = wy.alloc (.cells #[.bool yb, .int .i64 yn, .string ys] 32) := ⟨_, rfl⟩
        have hb6 : Below wy.heap.size wy w6 := by rw [hw6]; exact (Below.refl _ _).alloc (Nat.le_refl _) _
        have hry : Row w6 wy.heap.size 32 [.bool yb, .int .i64 yn, .string ys] := by rw [hw6]; exact heap_alloc_new wy _
        have h56 := below_then hby hb6
        have h36 := below_then H35.out h56
        obtain ⟨hy, hhy⟩ : ∃ hy, hy = wy.heap.size := ⟨_, rfl⟩
        have HB6 := Lib.hid (below_then HB5.out h56)
        have HRG6 := Lib.hid (HRG5.out.below h56 HRG5.out.lt)
        have HRX := Lib.hid (show Row w6 hx 32 [.bool xb, .int .i64 xn, .string xs] by rw [HHX.out]; exact HRX5.out.below h56 HRX5.out.lt)
        have HRY := Lib.hid (show Row w6 hy 32 [.bool yb, .int .i64 yn, .string ys] by rw [hhy]; exact hry)
        have HC0 := Lib.hid ((h36.cell (p := ⟨(ad.add (0 * 4)).block, (ad.add (0 * 4)).off + 2, none⟩) HL0.out).trans HA0.out)
        have HLT0 := Lib.hid (Nat.lt_of_lt_of_le HL0.out h36.size)
        have HC1 := Lib.hid ((h36.cell (p := ⟨(ad.add (1 * 4)).block, (ad.add (1 * 4)).off + 2, none⟩) HL1.out).trans HA1.out)
        have HLT1 := Lib.hid (Nat.lt_of_lt_of_le HL1.out h36.size)
        have HC4 := Lib.hid ((h36.cell (p := ⟨(ad.add (4 * 4)).block, (ad.add (4 * 4)).off + 2, none⟩) HL4.out).trans HA4.out)
        have HLT4 := Lib.hid (Nat.lt_of_lt_of_le HL4.out h36.size)
        have HC5 := Lib.hid ((h36.cell (p := ⟨(ad.add (5 * 4)).block, (ad.add (5 * 4)).off + 2, none⟩) HL5.out).trans HA5.out)
        have HLT5 := Lib.hid (Nat.lt_of_lt_of_le HL5.out h36.size)
        obtain ⟨S, hS⟩ : ∃ S : GS, S = ⟨i64n n0, (n1 : Int) == 1, ⟨xb, xn, xs⟩, ⟨yb, yn, ys⟩, vzag (n4 : Int), (n5 : Int) == 1⟩ := ⟨_, rfl⟩
        have HSV := Lib.hid (show gsv S = .agg #[.int .i64 (i64n n0), .bool ((n1 : Int) == 1), .bool xb, .int .i64 xn, .string xs, .bool yb, .int .i64 yn, .string ys, .int .i64 (vzag (n4 : Int)), .bool ((n5 : Int) == 1)] by rw [hS]; rfl)
        have HMAY := Lib.hid (fun (W : World) => gmay_own k S W (by rw [hS]; exact HSX.out) (by rw [hS]; exact HSY.out))
        rw [HSV.out] at HMAY
        have HSO := Lib.hid (show ftookG k b = if gmayE k S = true then some S else none by rw [HGO.out, HX2.out, HX3.out, hS, eq_one, eq_one]; rfl)
        have HW6 := Lib.hid hw6
        have HHY := Lib.hid hhy
        clear hby hb6 hry h56 h36 hw6 hhy hS
        go_wp2_with fail
        rw [← HW6.out, ← HHX.out, ← HHY.out]
        refine wp_region_list_tail 24 [.is (.slice (some ad) 6 tc), .is (.pointer (some (ad.add (0 * 4)))), .is (.pointer (some ⟨(ad.add (0 * 4)).block, (ad.add (0 * 4)).off + 2, none⟩)), .is (.int .u64 (n0 : Int)), .is (.int .i64 (i64n n0)), .is (.slice (some ad) 6 tc), .is (.pointer (some (ad.add (1 * 4)))), .is (.pointer (some ⟨(ad.add (1 * 4)).block, (ad.add (1 * 4)).off + 2, none⟩)), .is (.int .u64 (n1 : Int)), .is (.bool ((n1 : Int) == 1)), .is (.agg #[.bool xb, .int .i64 xn, .string xs]), .is (.agg #[.bool yb, .int .i64 yn, .string ys]), .is (.slice (some ad) 6 tc), .is (.pointer (some (ad.add (4 * 4)))), .is (.pointer (some ⟨(ad.add (4 * 4)).block, (ad.add (4 * 4)).off + 2, none⟩)), .is (.int .u64 (n4 : Int)), .is (.int .i64 (vzag (n4 : Int))), .is (.slice (some ad) 6 tc), .is (.pointer (some (ad.add (5 * 4)))), .is (.pointer (some ⟨(ad.add (5 * 4)).block, (ad.add (5 * 4)).off + 2, none⟩)), .is (.int .u64 (n5 : Int)), .is (.bool ((n5 : Int) == 1)), .is (.agg #[.int .i64 (i64n n0), .bool ((n1 : Int) == 1), .bool xb, .int .i64 xn, .string xs, .bool yb, .int .i64 yn, .string ys, .int .i64 (vzag (n4 : Int)), .bool ((n5 : Int) == 1)]), Fact.madeS w6.heap.size] [some 45, some 46, some 47, some 48, some 49, some 50, some 51, some 52, some 53, some 54, some 55, some 56, some 57, some 58, some 59, some 60, some 61, some 62, some 63, some 64, some 65, some 66, some 67, some 11] (by kernel_rfl) (by kernel_rfl) (by kernel_rfl) (by kernel_rfl) rfl ⟨?_, ?_, ?_, ?_, ?_, ?_, ?_, ?_, ?_, ?_, ?_, ?_, ?_, ?_, ?_, ?_, ?_, ?_, ?_, ?_, ?_, ?_, ?_, ?_, trivial⟩ ?_
        · intro ρ W1 hb1 H
          exact gives_move rfl (H.old 6 _ (by kernel_rfl) rfl) ⟨rfl, Below.refl _ _⟩
        · intro ρ W1 hb1 H
          exact gives_index_wide (k := 0) Tryd.underlying24 ofield_size rfl (H.new 45 0 (by kernel_rfl)) (H.const _) (by omega) ⟨rfl, Below.refl _ _⟩
        · intro ρ W1 hb1 H
          exact gives_field rfl (H.new 46 1 (by kernel_rfl)) (fun W => ofield_at2 W (ad.add (0 * 4))) ⟨rfl, Below.refl _ _⟩
        · intro ρ W1 hb1 H
          exact gives_load rfl (H.new 47 2 (by kernel_rfl)) Tryd.underlying47 rfl ((hb1.cell (p := ⟨(ad.add (0 * 4)).block, (ad.add (0 * 4)).off + 2, none⟩) HLT0.out).trans HC0.out) ⟨rfl, Below.refl _ _⟩
        · intro ρ W1 hb1 H
          exact gives_conv rfl (H.new 48 3 (by kernel_rfl)) (by kernel_rfl) Tryd.underlying3 (by rw [IntKind.wrap_i64]; obtain ⟨q, hq1, hq2⟩ := HN0.out; unfold i64n; split <;> omega) ⟨rfl, Below.refl _ _⟩
        · intro ρ W1 hb1 H
          exact gives_move rfl (H.old 6 _ (by kernel_rfl) rfl) ⟨rfl, Below.refl _ _⟩
        · intro ρ W1 hb1 H
          exact gives_index_wide (k := 1) Tryd.underlying24 ofield_size rfl (H.new 50 5 (by kernel_rfl)) (H.const _) (by omega) ⟨rfl, Below.refl _ _⟩
        · intro ρ W1 hb1 H
          exact gives_field rfl (H.new 51 6 (by kernel_rfl)) (fun W => ofield_at2 W (ad.add (1 * 4))) ⟨rfl, Below.refl _ _⟩
        · intro ρ W1 hb1 H
          exact gives_load rfl (H.new 52 7 (by kernel_rfl)) Tryd.underlying47 rfl ((hb1.cell (p := ⟨(ad.add (1 * 4)).block, (ad.add (1 * 4)).off + 2, none⟩) HLT1.out).trans HC1.out) ⟨rfl, Below.refl _ _⟩
        · intro ρ W1 hb1 H
          exact gives_inteq rfl (H.new 53 8 (by kernel_rfl)) (H.const _) ⟨rfl, Below.refl _ _⟩
        · intro ρ W1 hb1 H
          exact gives_load_row (cs := [.bool xb, .int .i64 xn, .string xs]) rfl (H.old 8 _ (by kernel_rfl) rfl) Tryd.underlying32 rfl fvalI_size (HRX.out.below hb1 HRX.out.lt) ⟨rfl, Below.refl _ _⟩
        · intro ρ W1 hb1 H
          exact gives_load_row (cs := [.bool yb, .int .i64 yn, .string ys]) rfl (H.old 10 _ (by kernel_rfl) rfl) Tryd.underlying32 rfl fvalI_size (HRY.out.below hb1 HRY.out.lt) ⟨rfl, Below.refl _ _⟩
        · intro ρ W1 hb1 H
          exact gives_move rfl (H.old 6 _ (by kernel_rfl) rfl) ⟨rfl, Below.refl _ _⟩
        · intro ρ W1 hb1 H
          exact gives_index_wide (k := 4) Tryd.underlying24 ofield_size rfl (H.new 57 12 (by kernel_rfl)) (H.const _) (by omega) ⟨rfl, Below.refl _ _⟩
        · intro ρ W1 hb1 H
          exact gives_field rfl (H.new 58 13 (by kernel_rfl)) (fun W => ofield_at2 W (ad.add (4 * 4))) ⟨rfl, Below.refl _ _⟩
        · intro ρ W1 hb1 H
          exact gives_load rfl (H.new 59 14 (by kernel_rfl)) Tryd.underlying47 rfl ((hb1.cell (p := ⟨(ad.add (4 * 4)).block, (ad.add (4 * 4)).off + 2, none⟩) HLT4.out).trans HC4.out) ⟨rfl, Below.refl _ _⟩
        · intro ρ W1 hb1 H
          have e0 : ρ (.tmp 60) = .int .u64 (n4 : Int) := H.new 60 15 (by kernel_rfl)
          refine gives_call rfl (fun _ _ => by kernel_rfl) (H.func _) (args := #[.int .u64 (n4 : Int)]) (by simp [e0]) ?_
          exact (zag_any (n4 : Int) W1 (by omega) (by obtain ⟨q, hq1, hq2⟩ := HN4.out; omega)).mono fun e w' ⟨h1, h2⟩ => ⟨_, h1, rfl, h2 ▸ Below.refl _ _⟩
        · intro ρ W1 hb1 H
          exact gives_move rfl (H.old 6 _ (by kernel_rfl) rfl) ⟨rfl, Below.refl _ _⟩
        · intro ρ W1 hb1 H
          exact gives_index_wide (k := 5) Tryd.underlying24 ofield_size rfl (H.new 62 17 (by kernel_rfl)) (H.const _) (by omega) ⟨rfl, Below.refl _ _⟩
        · intro ρ W1 hb1 H
          exact gives_field rfl (H.new 63 18 (by kernel_rfl)) (fun W => ofield_at2 W (ad.add (5 * 4))) ⟨rfl, Below.refl _ _⟩
        · intro ρ W1 hb1 H
          exact gives_load rfl (H.new 64 19 (by kernel_rfl)) Tryd.underlying47 rfl ((hb1.cell (p := ⟨(ad.add (5 * 4)).block, (ad.add (5 * 4)).off + 2, none⟩) HLT5.out).trans HC5.out) ⟨rfl, Below.refl _ _⟩
        · intro ρ W1 hb1 H
          exact gives_inteq rfl (H.new 65 20 (by kernel_rfl)) (H.const _) ⟨rfl, Below.refl _ _⟩
        · intro ρ W1 hb1 H
          have e1 : ρ (.tmp 49) = .int .i64 (i64n n0) := (H.new 49 4 (by kernel_rfl))
          have e2 : ρ (.tmp 54) = .bool ((n1 : Int) == 1) := (H.new 54 9 (by kernel_rfl))
          have e3 : ρ (.tmp 55) = .agg #[.bool xb, .int .i64 xn, .string xs] := (H.new 55 10 (by kernel_rfl))
          have e4 : ρ (.tmp 56) = .agg #[.bool yb, .int .i64 yn, .string ys] := (H.new 56 11 (by kernel_rfl))
          have e5 : ρ (.tmp 61) = .int .i64 (vzag (n4 : Int)) := (H.new 61 16 (by kernel_rfl))
          have e6 : ρ (.tmp 66) = .bool ((n5 : Int) == 1) := (H.new 66 21 (by kernel_rfl))
          refine gives_of (v := .agg #[.int .i64 (i64n n0), .bool ((n1 : Int) == 1), .bool xb, .int .i64 xn, .string xs, .bool yb, .int .i64 yn, .string ys, .int .i64 (vzag (n4 : Int)), .bool ((n5 : Int) == 1)]) (w' := W1) ?_ ⟨rfl, Below.refl _ _⟩
          simp [execOp, e1, e2, e3, e4, e5, e6, sbuild_all]
        · intro ρ W1 hb1 H
          obtain ⟨i, hi1, hi2⟩ := stats_infoF
          exact gives_alloc hi1 hi2 rfl ⟨⟨_, rfl, hb1.size, heap_alloc_new W1 _⟩, (Below.refl _ _).alloc (Nat.le_refl _) _⟩
        · intro vs W1 hb1 hfs
          have f22 : vs 22 = .agg #[.int .i64 (i64n n0), .bool ((n1 : Int) == 1), .bool xb, .int .i64 xn, .string xs, .bool yb, .int .i64 yn, .string ys, .int .i64 (vzag (n4 : Int)), .bool ((n5 : Int) == 1)] := hfs 22 (by decide)
          have f23 : ∃ h, vs 23 = .pointer (some ⟨h, 0, none⟩) ∧ w6.heap.size ≤ h ∧ Row W1 h 36 [.int .i64 0, .bool false, .bool false, .int .i64 0, .string ⟨#[]⟩, .bool false, .int .i64 0, .string ⟨#[]⟩, .int .i64 0, .bool false] := hfs 23 (by decide)
          clear hfs
          simp only [putAll, Nat.zero_add, Nat.reduceAdd, List.drop_succ_cons, List.drop_zero]
          generalize vs 0 = z0
          generalize vs 1 = z1
          generalize vs 2 = z2
          generalize vs 3 = z3
          generalize vs 4 = z4
          generalize vs 5 = z5
          generalize vs 6 = z6
          generalize vs 7 = z7
          generalize vs 8 = z8
          generalize vs 9 = z9
          generalize vs 10 = z10
          generalize vs 11 = z11
          generalize vs 12 = z12
          generalize vs 13 = z13
          generalize vs 14 = z14
          generalize vs 15 = z15
          generalize vs 16 = z16
          generalize vs 17 = z17
          generalize vs 18 = z18
          generalize vs 19 = z19
          generalize vs 20 = z20
          generalize vs 21 = z21
          generalize vs 23 = z23 at f23 ⊢
          simp only [f22, Act.put, List.setIfInBounds_toArray, List.set_cons_succ, List.set_cons_zero]
          clear f22
          obtain ⟨h, rfl, hh, hrh⟩ := f23
          have HRH := Lib.hid hrh
          have HB7 := Lib.hid (below_then HB6.out hb1)
          have HRG7 := Lib.hid (HRG6.out.below hb1 HRG6.out.lt)
          have hgh : w.heap.size ≤ h := Nat.le_trans HB6.out.size hh
          have HNE := Lib.hid (show w.heap.size ≠ h by have := HRG6.out.lt; omega)
          clear hrh hb1 hh
          go_wp2_with (refine wpList_storeW rfl _ _ _ rfl h 0 36 [.int .i64 0, .bool false, .bool false, .int .i64 0, .string ⟨#[]⟩, .bool false, .int .i64 0, .string ⟨#[]⟩, .int .i64 0, .bool false] [.int .i64 (i64n n0), .bool ((n1 : Int) == 1), .bool xb, .int .i64 xn, .string xs, .bool yb, .int .i64 yn, .string ys, .int .i64 (vzag (n4 : Int)), .bool ((n5 : Int) == 1)] [.int .i64 (i64n n0), .bool ((n1 : Int) == 1), .bool xb, .int .i64 xn, .string xs, .bool yb, .int .i64 yn, .string ys, .int .i64 (vzag (n4 : Int)), .bool ((n5 : Int) == 1)] rfl rfl rfl HRH.out fstI_size (Nat.le_refl _) (oneCell_stats _ _ _ _ _ _ _ _ _ _) w w.heap.size HB7.out hgh ?_)
          intro w8 hr8 hb8 hk8
          have HR8 := Lib.hid hr8
          have HB8 := Lib.hid hb8
          have HRG8 := Lib.hid (hk8 w.heap.size _ _ HNE.out HRG7.out)
          have e0 : w8.cell? ⟨h, 0, none⟩ = some (.int .i64 (i64n n0)) := hr8.cell 0
          have e1 : w8.cell? ⟨h, 1, none⟩ = some (.bool ((n1 : Int) == 1)) := hr8.cell 1
          have e2 : w8.cell? ⟨h, 2, none⟩ = some (.bool xb) := hr8.cell 2
          have e3 : w8.cell? ⟨h, 3, none⟩ = some (.int .i64 xn) := hr8.cell 3
          have e4 : w8.cell? ⟨h, 4, none⟩ = some (.string xs) := hr8.cell 4
          have e5 : w8.cell? ⟨h, 5, none⟩ = some (.bool yb) := hr8.cell 5
          have e6 : w8.cell? ⟨h, 6, none⟩ = some (.int .i64 yn) := hr8.cell 6
          have e7 : w8.cell? ⟨h, 7, none⟩ = some (.string ys) := hr8.cell 7
          have e8 : w8.cell? ⟨h, 8, none⟩ = some (.int .i64 (vzag (n4 : Int))) := hr8.cell 8
          have e9 : w8.cell? ⟨h, 9, none⟩ = some (.bool ((n5 : Int) == 1)) := hr8.cell 9
          clear hr8 hb8 hk8
          go_wp2_with fail
          clear e0 e1 e2 e3 e4 e5 e6 e7 e8 e9
          refine (HMAY.out w8).mono ?_
          rintro e w10 ⟨rfl, hb10⟩
          have HB10 := Lib.hid (below_then HB8.out hb10)
          have HRG10 := Lib.hid (HRG8.out.below hb10 HRG8.out.lt)
          have hr10 := HR8.out.below hb10 HR8.out.lt
          have e0 : w10.cell? ⟨h, 0, none⟩ = some (.int .i64 (i64n n0)) := hr10.cell 0
          have e1 : w10.cell? ⟨h, 1, none⟩ = some (.bool ((n1 : Int) == 1)) := hr10.cell 1
          have e2 : w10.cell? ⟨h, 2, none⟩ = some (.bool xb) := hr10.cell 2
          have e3 : w10.cell? ⟨h, 3, none⟩ = some (.int .i64 xn) := hr10.cell 3
          have e4 : w10.cell? ⟨h, 4, none⟩ = some (.string xs) := hr10.cell 4
          have e5 : w10.cell? ⟨h, 5, none⟩ = some (.bool yb) := hr10.cell 5
          have e6 : w10.cell? ⟨h, 6, none⟩ = some (.int .i64 yn) := hr10.cell 6
          have e7 : w10.cell? ⟨h, 7, none⟩ = some (.string ys) := hr10.cell 7
          have e8 : w10.cell? ⟨h, 8, none⟩ = some (.int .i64 (vzag (n4 : Int))) := hr10.cell 8
          have e9 : w10.cell? ⟨h, 9, none⟩ = some (.bool ((n5 : Int) == 1)) := hr10.cell 9
          clear hb10 hr10
          cases hmy : gmayE k S with
          | false =>
            have HNOE := Lib.hid (show ftookG k b = none by rw [HSO.out, hmy]; rfl)
            clear hmy e0 e1 e2 e3 e4 e5 e6 e7 e8 e9
            go_wp2_with (refine wpList_storeW rfl _ _ _ rfl w.heap.size 0 36 [.int .i64 0, .bool false, .bool false, .int .i64 0, .string ⟨#[]⟩, .bool false, .int .i64 0, .string ⟨#[]⟩, .int .i64 0, .bool false] [.int .i64 0, .bool false, .bool false, .int .i64 0, .string ⟨#[]⟩, .bool false, .int .i64 0, .string ⟨#[]⟩, .int .i64 0, .bool false] [.int .i64 0, .bool false, .bool false, .int .i64 0, .string ⟨#[]⟩, .bool false, .int .i64 0, .string ⟨#[]⟩, .int .i64 0, .bool false] rfl rfl rfl HRG10.out fstI_size (Nat.le_refl _) (by decide) w w.heap.size HB10.out (Nat.le_refl _) ?_)
            intro w9 hr9 hb9 _
            have HR9 := Lib.hid hr9
            have HB9 := Lib.hid hb9
            clear hr9 hb9
            go_wp2
            refine bodyPost_ret (results_row_tmp rfl _ _ w.heap.size _ _ (0, 0) _ _ rfl HR9.out Tryd.underlying36 rfl fstI_size rfl) rfl ?_
            rw [HNOE.out]
            exact ⟨rfl, HB9.out⟩
          | true =>
            have HYES := Lib.hid (show ftookG k b = some S by rw [HSO.out, hmy]; rfl)
            clear hmy
            go_wp2_with (refine wpList_storeW rfl _ _ _ rfl w.heap.size 0 36 [.int .i64 0, .bool false, .bool false, .int .i64 0, .string ⟨#[]⟩, .bool false, .int .i64 0, .string ⟨#[]⟩, .int .i64 0, .bool false] [.int .i64 (i64n n0), .bool ((n1 : Int) == 1), .bool xb, .int .i64 xn, .string xs, .bool yb, .int .i64 yn, .string ys, .int .i64 (vzag (n4 : Int)), .bool ((n5 : Int) == 1)] [.int .i64 (i64n n0), .bool ((n1 : Int) == 1), .bool xb, .int .i64 xn, .string xs, .bool yb, .int .i64 yn, .string ys, .int .i64 (vzag (n4 : Int)), .bool ((n5 : Int) == 1)] rfl rfl rfl HRG10.out fstI_size (Nat.le_refl _) (oneCell_stats _ _ _ _ _ _ _ _ _ _) w w.heap.size HB10.out (Nat.le_refl _) ?_)
            intro w9 hr9 hb9 _
            have HR9 := Lib.hid hr9
            have HB9 := Lib.hid hb9
            clear hr9 hb9 e0 e1 e2 e3 e4 e5 e6 e7 e8 e9
            go_wp2
            refine bodyPost_ret (results_row_tmp rfl _ _ w.heap.size _ _ (0, 0) _ _ rfl HR9.out Tryd.underlying36 rfl fstI_size rfl) rfl ?_
            rw [HYES.out]
            exact ⟨by rw [HSV.out]; rfl, HB9.out⟩
end Go.Proofs.YtocodcceimeiiaaDoor

/- The contract of shape, of layer 19's reference. -/



namespace Go.Proofs.YtocodcceimeiiaaDoor

open Go.RowKit Go.ChangeShapes Go.WideShapes Go.ChangeAt

theorem below_drewNF {B : Nat} {a w : World} (h : Below B a w) (n : Nat) : Below B a (w.drewN n) := h.trans ⟨rfl, rfl, rfl, Nat.le_refl _, fun _ _ => rfl⟩
def fshp : Int → List WF → List Bool → Bool
  | _, [], [] => true
  | t, f :: l, b :: bs => decide (f.tag = t) && (decide (f.bytes = b) && fshp (t + 1) l bs)
  | _, _, _ => false
theorem fshp_len : ∀ {t : Int} {l : List WF} {bs : List Bool}, fshp t l bs = true → l.length = bs.length
  | _, [], [], _ => rfl
  | _, f :: l, b :: bs, h => by
    rw [fshp, Bool.and_eq_true, Bool.and_eq_true] at h
    rw [List.length_cons, List.length_cons, fshp_len h.2.2]
  | _, [], _ :: _, h => by simp [fshp] at h
  | _, _ :: _, [], h => by simp [fshp] at h
theorem fshp_is3 (l : List WF) (a b c : Bool) : fshape l [a, b, c] = fshp 1 l [a, b, c] := by
  rw [Bool.eq_iff_iff]
  constructor
  · intro h
    unfold fshape at h
    rw [Bool.and_eq_true, decide_eq_true_eq, decide_eq_true_eq] at h
    obtain ⟨h1, h2⟩ := h
    match l, h1, h2 with
    | [x, y, z], h1, h2 =>
      simp [List.range, List.range.loop] at h1 h2
      simp [fshp, h1, h2]
    | [], h1, h2 => simp at h2
    | [_], h1, h2 => simp at h2
    | [_, _], h1, h2 => simp at h2
    | _ :: _ :: _ :: _ :: _, h1, h2 => simp at h2
  · intro h
    have hl := fshp_len h
    match l, hl, h with
    | [x, y, z], _, h =>
      simp [fshp] at h
      unfold fshape
      simp [List.range, List.range.loop, h]
theorem fshp_is6 (l : List WF) (a b c d e g : Bool) : fshape l [a, b, c, d, e, g] = fshp 1 l [a, b, c, d, e, g] := by
  rw [Bool.eq_iff_iff]
  constructor
  · intro h
    unfold fshape at h
    rw [Bool.and_eq_true, decide_eq_true_eq, decide_eq_true_eq] at h
    obtain ⟨h1, h2⟩ := h
    have hl : l.length = 6 := by have := congrArg List.length h2; simpa using this
    match l, hl, h1, h2 with
    | [x, y, z, u, v, w], _, h1, h2 =>
      simp [List.range, List.range.loop] at h1 h2
      simp [fshp, h1, h2]
  · intro h
    have hl := fshp_len h
    match l, hl, h with
    | [x, y, z, u, v, w], _, h =>
      simp [fshp] at h
      unfold fshape
      simp [List.range, List.range.loop, h]
theorem fshp_tag {t : Int} {f : WF} {l : List WF} {b : Bool} {bs : List Bool} (h : f.tag ≠ t) : fshp t (f :: l) (b :: bs) = false := by rw [fshp]; simp [h]
theorem fshp_byt {t : Int} {f : WF} {l : List WF} {b : Bool} {bs : List Bool} (h : f.bytes ≠ b) : fshp t (f :: l) (b :: bs) = false := by rw [fshp]; simp [h]
theorem fshp_good {t : Int} {f : WF} {l : List WF} {b : Bool} {bs : List Bool} (h : f.tag = t) (h2 : f.bytes = b) : fshp t (f :: l) (b :: bs) = fshp (t + 1) l bs := by rw [fshp]; simp [h, h2]
def FShRel (l : List FN) (bs : List Bool) (w : World) (i : Value) (wr : World) : Prop := ∃ k : Nat, k ≤ l.length ∧ i = .int .i64 (k : Int) ∧ fshp 1 (l.map FN.wf) bs = fshp ((k : Nat) + 1 : Int) ((l.drop k).map FN.wf) (bs.drop k) ∧ Below w.heap.size w wr
set_option maxHeartbeats 8000000 in
set_option maxRecDepth 100000 in
theorem rshape_any (l : List FN) (bs : List Bool) (v u : Value) (w : World) (h : IsR fcells l v w) (hb : IsV Value.bool bs u w) (hl : bs.length ≤ 1000) :
    Calls Tryd.prog 26 #[v, u] w fun e w' => e = .returned (.bool (fshp 1 (l.map FN.wf) bs)) ∧ Below w.heap.size w w' := by
  obtain ⟨A, n, c, rfl⟩ := h.shape
  obtain ⟨B, m, d, rfl⟩ := hb.shape
  have HR := Lib.hid h
  have HB := Lib.hid hb
  have HN := Lib.hid h.parts.1
  have HM := Lib.hid hb.parts.1
  have hm10 : (m : Int) ≤ 1000 := by have := HM.out; omega
  clear h hb hl
  by_cases hnm : n = m
  case neg =>
    have HE := Lib.hid (show fshp 1 (l.map FN.wf) bs = false by
      cases hq : fshp 1 (l.map FN.wf) bs with
      | false => rfl
      | true =>
        have h2 := fshp_len hq
        rw [List.length_map] at h2
        exact absurd (by have := HN.out; have := HM.out; omega) hnm)
    have d1 : ((n : Int) != (m : Int)) = true := by simpa using (fun h => hnm (by omega))
    go_enter Tryd.func26, Tryd.ntmps26
    go_wp2
    go_ret
    rw [HE.out]
    exact ⟨rfl, Below.refl _ _⟩
  subst hnm
  have d1 : ((n : Int) != (n : Int)) = false := by simp
  have HST := Lib.hid (show FShRel l bs w (.int .i64 0) w from ⟨0, Nat.zero_le _, rfl, by simp, Below.refl _ _⟩)
  go_enter Tryd.func26, Tryd.ntmps26
  go_wp2
  go_loopw [5] (FShRel l bs w) (fun i _ => n - (intOf i).toNat)
  case atStart => exact HST.out
  case round =>
    obtain ⟨k, hk, rfl, hst, hbr⟩ := hrel
    clear HST
    have HBR := Lib.hid hbr
    have HST2 := Lib.hid hst
    clear hst
    by_cases hlt : k < n
    case neg =>
      have hlti : ¬ (k : Int) < (n : Int) := by omega
      have HY := Lib.hid (show fshp 1 (l.map FN.wf) bs = true by
        rw [HST2.out, List.drop_of_length_le (by have := HN.out; omega), List.drop_of_length_le (by have := HM.out; omega)]
        rfl)
      clear hbr hk
      go_wp2
      go_ret
      rw [HY.out]
      exact ⟨rfl, HBR.out⟩
    have hlti : (k : Int) < (n : Int) := by omega
    have hkf : k < l.length := by have := HN.out; omega
    have hkk : k < bs.length := by have := HM.out; omega
    obtain ⟨ad, rfl, had, hcell⟩ := (HR.out.below hbr).at (m := 4) (fun _ => rfl) (by omega) hkf
    obtain ⟨au, rfl, hau, hcelu⟩ := (IsV.below (f := Value.bool) HB.out hbr).at hkk
    have hdr : (l.drop k).map FN.wf = l[k].wf :: (l.drop (k + 1)).map FN.wf := by rw [List.drop_eq_getElem_cons hkf, List.map_cons]
    have hdk : bs.drop k = bs[k] :: bs.drop (k + 1) := List.drop_eq_getElem_cons hkk
    obtain ⟨x, hx⟩ : ∃ x, x = l[k] := ⟨_, rfl⟩
    obtain ⟨q, hqk⟩ : ∃ q, q = bs[k] := ⟨_, rfl⟩
    rw [← hx] at hcell hdr
    rw [← hqk] at hcelu hdk
    have HKL := Lib.hid hkf
    have HST3 := Lib.hid (show fshp 1 (l.map FN.wf) bs = fshp ((k : Nat) + 1 : Int) (x.wf :: (l.drop (k + 1)).map FN.wf) (q :: bs.drop (k + 1)) by rw [HST2.out, hdr, hdk])
    obtain ⟨c0, c1, c2, c3⟩ := cells4 hcell
    obtain ⟨tag, bytes, nn, bt, lv⟩ := x
    dsimp only at c0 c1 c2 c3
    have hwk : IntKind.i64.wrap ((k : Int) + 1) = (k : Int) + 1 := by rw [IntKind.wrap_i64]; omega
    have HT0 : (⟨tag, bytes, nn, bt, lv⟩ : FN).wf = ⟨tag, bytes, nn, bt⟩ := rfl
    rw [HT0] at HST3
    clear hcell hdr hdk hx hqk hkf hkk had hau hbr hk c2 c3 HT0 HST2
    by_cases ht : tag = (k : Int) + 1
    case neg =>
      have HE := Lib.hid (show fshp 1 (l.map FN.wf) bs = false by rw [HST3.out]; exact fshp_tag (by exact ht))
      have d2 : (tag != (k : Int) + 1) = true := by simpa using ht
      clear ht
      go_wp2
      go_quiet (fail)
      have HBQ := Lib.hid (show Below w.heap.size w (wr.drewN nq) from below_drewNF HBR.out _)
      clear c0 c1 hcelu
      go_wp2
      go_ret
      rw [HE.out]
      exact ⟨rfl, HBQ.out⟩
    have d2 : (tag != (k : Int) + 1) = false := by simpa using ht
    by_cases hq : bytes = q
    case neg =>
      have HE := Lib.hid (show fshp 1 (l.map FN.wf) bs = false by rw [HST3.out]; exact fshp_byt (by exact hq))
      have d3 : (!(bytes == q)) = true := by simpa using hq
      clear ht hq
      go_wp2
      go_quiet (fail)
      have HBQ := Lib.hid (show Below w.heap.size w (wr.drewN nq) from below_drewNF HBR.out _)
      clear c0 c1 hcelu
      go_wp2
      go_ret
      rw [HE.out]
      exact ⟨rfl, HBQ.out⟩
    have d3 : (!(bytes == q)) = false := by simpa using hq
    have HNX := Lib.hid (show fshp 1 (l.map FN.wf) bs = fshp ((k + 1 : Nat) + 1 : Int) ((l.drop (k + 1)).map FN.wf) (bs.drop (k + 1)) by
      rw [HST3.out]
      exact fshp_good ht hq)
    clear ht hq
    go_wp2
    go_quiet (fail)
    have HREL := Lib.hid (show FShRel l bs w (.int .i64 ((k + 1 : Nat) : Int)) (wr.drewN nq) from ⟨k + 1, HKL.out, rfl, HNX.out, below_drewNF HBR.out _⟩)
    clear c0 c1 hcelu
    go_wp2
    go_roundw
    case rel => exact HREL.out
    case measure => simp [intOf]; omega
end Go.Proofs.YtocodcceimeiiaaDoor

/- TakeValue of layer 19's reference. Written by gen_frtakev.py. -/





namespace Go.Proofs.YtocodcceimeiiaaDoor

open Go.RowKit Go.ChangeShapes Go.WideShapes Go.ChangeAt

theorem value_infoF : ∃ i, Tryd.prog.info? 32 = some i ∧ i.zero = some (.agg #[.bool false, .int .i64 0, .string ⟨#[]⟩]) := by
  have h : (Tryd.prog.info? 32).map (fun i => i.zero) = some (some (.agg #[.bool false, .int .i64 0, .string ⟨#[]⟩])) := by kernel_rfl
  cases hi : Tryd.prog.info? 32 with
  | none => rw [hi] at h; cases h
  | some i => rw [hi] at h; injection h with h; exact ⟨i, rfl, h⟩
def Fact.madeV (B : Nat) : Fact := ⟨fun v W => ∃ h, v = .pointer (some ⟨h, 0, Option.none⟩) ∧ B ≤ h ∧ Row W h 32 [.bool false, .int .i64 0, .string ⟨#[]⟩], fun _ _ _ ⟨h, h1, h2, h3⟩ hb => ⟨h, h1, h2, h3.below hb h3.lt⟩⟩
theorem ftakeV_shp (b : List UInt8) : ftakeV b = match ftakeE b with
    | none => none
    | some l => if fshp 1 l [false, false, true] = true ∧ fputV (fvOf l) = b then some (fvOf l) else none := by
  unfold ftakeV
  cases ftakeE b with
  | none => rfl
  | some l => dsimp only; rw [fshp_is3]
set_option maxHeartbeats 16000000 in
set_option maxRecDepth 100000 in
theorem rtakeV_any (b : List UInt8) (v : Value) (w : World) (h : IsB b v w) (hl : b.length ≤ 3000) : Calls Tryd.prog 9 #[v] w (RetVE w (ftakeV b)) := by
  obtain ⟨w1, hw1⟩ : ∃ x, x = w.alloc (.cells #[.bool false, .int .i64 0, .string ⟨#[]⟩] 32) := ⟨_, rfl⟩
  have hb1 : Below w.heap.size w w1 := by rw [hw1]; exact (Below.refl _ _).alloc (Nat.le_refl _) _
  have hr1 : Row w1 w.heap.size 32 [.bool false, .int .i64 0, .string ⟨#[]⟩] := by rw [hw1]; exact heap_alloc_new w _
  have HV0 := Lib.hid h
  have HT := Lib.hid (rftake_any b v w1 (h.below hb1) (by omega))
  have HB1 := Lib.hid hb1
  have HR1 := Lib.hid hr1
  have HW := Lib.hid hw1.symm
  have hGO := ftakeV_shp b
  have HLB := Lib.hid hl
  clear hb1 hr1 h hw1 hl
  cases hO : ftakeE b with
  | none =>
    rw [hO] at HT hGO
    have HNOE := Lib.hid hGO
    clear hO hGO
    go_enter Tryd.func9, Tryd.ntmps9
    go_wp2_with fail
    rw [HW.out]
    refine HT.out.mono ?_
    rintro e w3 ⟨rfl, hb3⟩
    have HB3 := Lib.hid (below_then HB1.out hb3)
    have HRG3 := Lib.hid (HR1.out.below hb3 HR1.out.lt)
    obtain ⟨w4, hw4⟩ : ∃ x, x = w3.alloc (.cells #[.bool false, .bool false, .bool true] 4) := ⟨_, rfl⟩
    have hb4 : Below w3.heap.size w3 w4 := by rw [hw4]; exact (Below.refl _ _).alloc (Nat.le_refl _) _
    have hk4 : IsV Value.bool [false, false, true] (.slice (some ⟨w3.heap.size, 0, none⟩) 3 3) w4 := by rw [hw4]; exact isV_new Value.bool w3 _ [false, false, true] 3 rfl (by omega)
    have hsh := rshape_any [] [false, false, true] (.slice none 0 0) _ w4 (isR_nil _ _) hk4 (by simp)
    rw [show fshp 1 (([] : List FN).map FN.wf) [false, false, true] = false from rfl] at hsh
    have HSH := Lib.hid hsh
    have HW4 := Lib.hid hw4
    have HB4 := Lib.hid (below_then HB3.out hb4)
    have HRG4 := Lib.hid (HRG3.out.below hb4 HRG3.out.lt)
    clear hb3 hw4 hb4 hk4 hsh
    go_wp2_with fail
    rw [← HW4.out]
    refine HSH.out.mono ?_
    rintro e w5 ⟨rfl, hb5⟩
    have HB5 := Lib.hid (below_then HB4.out hb5)
    have HRG5 := Lib.hid (HRG4.out.below hb5 HRG4.out.lt)
    clear hb5
    go_wp2_with (refine wpList_storeW rfl _ _ _ rfl w.heap.size 0 32 [.bool false, .int .i64 0, .string ⟨#[]⟩] [.bool false, .int .i64 0, .string ⟨#[]⟩] [.bool false, .int .i64 0, .string ⟨#[]⟩] rfl rfl rfl HRG5.out fvalI_size (Nat.le_refl _) (by decide) w w.heap.size HB5.out (Nat.le_refl _) ?_)
    intro w9 hr9 hb9 _
    have HR9 := Lib.hid hr9
    have HB9 := Lib.hid hb9
    clear hr9 hb9 
    go_wp2
    refine bodyPost_ret (results_row_tmp rfl _ _ w.heap.size _ _ (0, 0) _ _ rfl HR9.out Tryd.underlying32 rfl fvalI_size rfl) rfl ?_
    rw [HNOE.out]
    exact ⟨rfl, HB9.out⟩
  | some l =>
    rw [hO] at HT hGO
    dsimp only at hGO
    have HBACK := Lib.hid (ftakeE_back b.length (Nat.le_refl _) hO)
    clear hO
    cases hS : fshp 1 l [false, false, true] with
    | false =>
      have HNOE := Lib.hid (show ftakeV b = none by rw [hGO, if_neg (fun hh => by rw [hS] at hh; simp at hh)])
      have HSF := Lib.hid hS
      clear hGO hS HBACK
      go_enter Tryd.func9, Tryd.ntmps9
      go_wp2_with fail
      rw [HW.out]
      refine HT.out.mono ?_
      rintro e w3 ⟨fs, tv, rfl, hfe, ho3, hf3, hb3⟩
      subst hfe
      have HB3 := Lib.hid (below_then HB1.out hb3)
      have HRG3 := Lib.hid (HR1.out.below hb3 HR1.out.lt)
      obtain ⟨w4, hw4⟩ : ∃ x, x = w3.alloc (.cells #[.bool false, .bool false, .bool true] 4) := ⟨_, rfl⟩
      have hb4 : Below w3.heap.size w3 w4 := by rw [hw4]; exact (Below.refl _ _).alloc (Nat.le_refl _) _
      have hk4 : IsV Value.bool [false, false, true] (.slice (some ⟨w3.heap.size, 0, none⟩) 3 3) w4 := by rw [hw4]; exact isV_new Value.bool w3 _ [false, false, true] 3 rfl (by omega)
      have hsh := rshape_any fs [false, false, true] tv _ w4 ((isR_own (f := fcells) (m := 4) (fun _ => rfl) (by omega) ho3).below hb4) hk4 (by simp)
      rw [HSF.out] at hsh
      have HSH := Lib.hid hsh
      have HW4 := Lib.hid hw4
      have HB4 := Lib.hid (below_then HB3.out hb4)
      have HRG4 := Lib.hid (HRG3.out.below hb4 HRG3.out.lt)
      clear hb3 hw4 hb4 hk4 hsh ho3 hf3
      go_wp2_with fail
      rw [← HW4.out]
      refine HSH.out.mono ?_
      rintro e w5 ⟨rfl, hb5⟩
      have HB5 := Lib.hid (below_then HB4.out hb5)
      have HRG5 := Lib.hid (HRG4.out.below hb5 HRG4.out.lt)
      clear hb5
      go_wp2_with (refine wpList_storeW rfl _ _ _ rfl w.heap.size 0 32 [.bool false, .int .i64 0, .string ⟨#[]⟩] [.bool false, .int .i64 0, .string ⟨#[]⟩] [.bool false, .int .i64 0, .string ⟨#[]⟩] rfl rfl rfl HRG5.out fvalI_size (Nat.le_refl _) (by decide) w w.heap.size HB5.out (Nat.le_refl _) ?_)
      intro w9 hr9 hb9 _
      have HR9 := Lib.hid hr9
      have HB9 := Lib.hid hb9
      clear hr9 hb9 
      go_wp2
      refine bodyPost_ret (results_row_tmp rfl _ _ w.heap.size _ _ (0, 0) _ _ rfl HR9.out Tryd.underlying32 rfl fvalI_size rfl) rfl ?_
      rw [HNOE.out]
      exact ⟨rfl, HB9.out⟩
    | true =>
      have HGO := Lib.hid (show ftakeV b = if fputV (fvOf l) = b then some (fvOf l) else none by rw [hGO, hS]; simp)
      have HSF := Lib.hid hS
      clear hGO hS
      go_enter Tryd.func9, Tryd.ntmps9
      go_wp2_with fail
      rw [HW.out]
      refine HT.out.mono ?_
      rintro e w3 ⟨fs, tv, rfl, hfe, ho3, hf3, hb3⟩
      subst hfe
      have HB3 := Lib.hid (below_then HB1.out hb3)
      have HRG3 := Lib.hid (HR1.out.below hb3 HR1.out.lt)
      obtain ⟨w4, hw4⟩ : ∃ x, x = w3.alloc (.cells #[.bool false, .bool false, .bool true] 4) := ⟨_, rfl⟩
      have hb4 : Below w3.heap.size w3 w4 := by rw [hw4]; exact (Below.refl _ _).alloc (Nat.le_refl _) _
      have hk4 : IsV Value.bool [false, false, true] (.slice (some ⟨w3.heap.size, 0, none⟩) 3 3) w4 := by rw [hw4]; exact isV_new Value.bool w3 _ [false, false, true] 3 rfl (by omega)
      have hsh := rshape_any fs [false, false, true] tv _ w4 ((isR_own (f := fcells) (m := 4) (fun _ => rfl) (by omega) ho3).below hb4) hk4 (by simp)
      rw [HSF.out] at hsh
      have HSH := Lib.hid hsh
      have HW4 := Lib.hid hw4
      have HB4 := Lib.hid (below_then HB3.out hb4)
      have HRG4 := Lib.hid (HRG3.out.below hb4 HRG3.out.lt)
      have hln := fshp_len HSF.out
      rw [List.length_map] at hln
      obtain ⟨x0, x1, x2, rfl⟩ : ∃ x0 x1 x2, fs = [x0, x1, x2] := by
        match fs, hln with
        | [x0, x1, x2], _ => exact ⟨x0, x1, x2, rfl⟩
      obtain ⟨hok, hbe⟩ := HBACK.out
      obtain ⟨tA, tn, tc, rfl⟩ := own_slice ho3
      have htn := (isR_own (f := fcells) (m := 4) (fun _ => rfl) (by omega) ho3).parts
      obtain rfl : 3 = tn := htn.1
      obtain ⟨ad, rfl⟩ : ∃ ad, tA = some ad := by
        cases tA with
        | none => have := htn.2.1 rfl; omega
        | some ad => exact ⟨ad, rfl⟩
      obtain ⟨a0, _, a1, _⟩ := field_cells ho3 (k := 0) (by simp)
      obtain ⟨b0, _, b1, _⟩ := field_cells ho3 (k := 1) (by simp)
      obtain ⟨_, c0, c1, _⟩ := field_cells ho3 (k := 2) (by simp)
      have hn1 := (hok x1.wf (by simp)).n
      have hl2 : x2.wf.b.length ≤ b.length := by rw [hbe]; exact flen_in hok x2.wf (by simp)
      have hI2 := (hf3 x2 (by simp)).1
      obtain ⟨t0, f0, n0, s0, l0⟩ := x0
      obtain ⟨t1, f1, n1, s1, l1⟩ := x1
      obtain ⟨t2, f2, n2, s2, l2⟩ := x2
      dsimp only [List.getElem_cons_zero, List.getElem_cons_succ, FN.wf] at a0 b0 c0 hn1 hl2 hI2
      obtain ⟨X, hX⟩ : ∃ X, X = fvOf ([⟨t0, f0, n0, s0⟩, ⟨t1, f1, n1, s1⟩, ⟨t2, f2, n2, s2⟩] : List WF) := ⟨_, rfl⟩
      have HGO := Lib.hid (show ftakeV b = if fputV X = b then some X else none by rw [hX]; exact HGO.out)
      have HSV := Lib.hid (show cv X = .agg #[.bool ((n0 : Int) == 1), .int .i64 (vzag (n1 : Int)), .string ⟨s2.toArray⟩] by rw [hX, eq_one]; rfl)
      have HPUT := Lib.hid (fun W => rputV_any X W (by rw [hX]; exact fvOf_in hn1) (by rw [hX]; show s2.length ≤ 3000; have := HLB.out; omega))
      rw [HSV.out] at HPUT
      go_wp2_with fail
      rw [← HW4.out]
      refine HSH.out.mono ?_
      rintro e w5 ⟨rfl, hb5⟩
      have HB5 := Lib.hid (below_then HB4.out hb5)
      have HRG5 := Lib.hid (HRG4.out.below hb5 HRG4.out.lt)
      have h35 := below_then hb4 hb5
      have HA0 := Lib.hid (show w5.cell? ⟨(ad.add (0 * 4)).block, (ad.add (0 * 4)).off + 2, none⟩ = some (.int .u64 (n0 : Int)) from (h35.cell (p := ⟨(ad.add (0 * 4)).block, (ad.add (0 * 4)).off + 2, none⟩) a1).trans a0)
      have HA1 := Lib.hid (show w5.cell? ⟨(ad.add (1 * 4)).block, (ad.add (1 * 4)).off + 2, none⟩ = some (.int .u64 (n1 : Int)) from (h35.cell (p := ⟨(ad.add (1 * 4)).block, (ad.add (1 * 4)).off + 2, none⟩) b1).trans b0)
      have HA2 := Lib.hid (show w5.cell? ⟨(ad.add (2 * 4)).block, (ad.add (2 * 4)).off + 3, none⟩ = some l2 from (h35.cell (p := ⟨(ad.add (2 * 4)).block, (ad.add (2 * 4)).off + 3, none⟩) c1).trans c0)
      have HL0 := Lib.hid (Nat.lt_of_lt_of_le a1 h35.size)
      have HL1 := Lib.hid (Nat.lt_of_lt_of_le b1 h35.size)
      have HL2 := Lib.hid (Nat.lt_of_lt_of_le c1 h35.size)
      have HN1 := Lib.hid (show ∃ q : Int, q = 18446744073709551616 ∧ (n1 : Int) < q from ⟨_, rfl, by omega⟩)
      have HI2 := Lib.hid (IsV.below (f := bv) hI2 h35)
      clear hb3 hw4 hb4 hk4 hsh hln hok hbe htn ho3 hf3 a0 a1 b0 b1 c0 c1 hn1 hl2 hI2 hX hb5 h35 HT HSF HBACK
      go_wp2_with fail
      refine wp_region_list_tail 17 [.is (.slice (some ad) 3 tc), .is (.pointer (some (ad.add (0 * 4)))), .is (.pointer (some ⟨(ad.add (0 * 4)).block, (ad.add (0 * 4)).off + 2, none⟩)), .is (.int .u64 (n0 : Int)), .is (.bool ((n0 : Int) == 1)), .is (.slice (some ad) 3 tc), .is (.pointer (some (ad.add (1 * 4)))), .is (.pointer (some ⟨(ad.add (1 * 4)).block, (ad.add (1 * 4)).off + 2, none⟩)), .is (.int .u64 (n1 : Int)), .is (.int .i64 (vzag (n1 : Int))), .is (.slice (some ad) 3 tc), .is (.pointer (some (ad.add (2 * 4)))), .is (.pointer (some ⟨(ad.add (2 * 4)).block, (ad.add (2 * 4)).off + 3, none⟩)), .is (l2), .is (.string ⟨s2.toArray⟩), .is (.agg #[.bool ((n0 : Int) == 1), .int .i64 (vzag (n1 : Int)), .string ⟨s2.toArray⟩]), Fact.madeV w5.heap.size] [some 23, some 24, some 25, some 26, some 27, some 28, some 29, some 30, some 31, some 32, some 33, some 34, some 35, some 36, some 37, some 38, some 7] (by kernel_rfl) (by kernel_rfl) (by kernel_rfl) (by kernel_rfl) rfl ⟨?_, ?_, ?_, ?_, ?_, ?_, ?_, ?_, ?_, ?_, ?_, ?_, ?_, ?_, ?_, ?_, ?_, trivial⟩ ?_
      · intro ρ W1 hb1 H
        exact gives_move rfl (H.old 4 _ (by kernel_rfl) rfl) ⟨rfl, Below.refl _ _⟩
      · intro ρ W1 hb1 H
        exact gives_index_wide (k := 0) Tryd.underlying28 rfield_size rfl (H.new 23 0 (by kernel_rfl)) (H.const _) (by omega) ⟨rfl, Below.refl _ _⟩
      · intro ρ W1 hb1 H
        exact gives_field rfl (H.new 24 1 (by kernel_rfl)) (fun W => rfield_at2 W (ad.add (0 * 4))) ⟨rfl, Below.refl _ _⟩
      · intro ρ W1 hb1 H
        exact gives_load rfl (H.new 25 2 (by kernel_rfl)) Tryd.underlying47 rfl ((hb1.cell (p := ⟨(ad.add (0 * 4)).block, (ad.add (0 * 4)).off + 2, none⟩) HL0.out).trans HA0.out) ⟨rfl, Below.refl _ _⟩
      · intro ρ W1 hb1 H
        exact gives_inteq rfl (H.new 26 3 (by kernel_rfl)) (H.const _) ⟨rfl, Below.refl _ _⟩
      · intro ρ W1 hb1 H
        exact gives_move rfl (H.old 4 _ (by kernel_rfl) rfl) ⟨rfl, Below.refl _ _⟩
      · intro ρ W1 hb1 H
        exact gives_index_wide (k := 1) Tryd.underlying28 rfield_size rfl (H.new 28 5 (by kernel_rfl)) (H.const _) (by omega) ⟨rfl, Below.refl _ _⟩
      · intro ρ W1 hb1 H
        exact gives_field rfl (H.new 29 6 (by kernel_rfl)) (fun W => rfield_at2 W (ad.add (1 * 4))) ⟨rfl, Below.refl _ _⟩
      · intro ρ W1 hb1 H
        exact gives_load rfl (H.new 30 7 (by kernel_rfl)) Tryd.underlying47 rfl ((hb1.cell (p := ⟨(ad.add (1 * 4)).block, (ad.add (1 * 4)).off + 2, none⟩) HL1.out).trans HA1.out) ⟨rfl, Below.refl _ _⟩
      · intro ρ W1 hb1 H
        have e0 : ρ (.tmp 31) = .int .u64 (n1 : Int) := H.new 31 8 (by kernel_rfl)
        refine gives_call rfl (fun _ _ => by kernel_rfl) (H.func _) (args := #[.int .u64 (n1 : Int)]) (by simp [e0]) ?_
        exact (rzag_any (n1 : Int) W1 (by omega) (by obtain ⟨q, hq1, hq2⟩ := HN1.out; omega)).mono fun e w' ⟨h1, h2⟩ => ⟨_, h1, rfl, h2 ▸ Below.refl _ _⟩
      · intro ρ W1 hb1 H
        exact gives_move rfl (H.old 4 _ (by kernel_rfl) rfl) ⟨rfl, Below.refl _ _⟩
      · intro ρ W1 hb1 H
        exact gives_index_wide (k := 2) Tryd.underlying28 rfield_size rfl (H.new 33 10 (by kernel_rfl)) (H.const _) (by omega) ⟨rfl, Below.refl _ _⟩
      · intro ρ W1 hb1 H
        exact gives_field rfl (H.new 34 11 (by kernel_rfl)) (fun W => rfield_at3 W (ad.add (2 * 4))) ⟨rfl, Below.refl _ _⟩
      · intro ρ W1 hb1 H
        exact gives_load rfl (H.new 35 12 (by kernel_rfl)) Tryd.underlying22 rfl ((hb1.cell (p := ⟨(ad.add (2 * 4)).block, (ad.add (2 * 4)).off + 3, none⟩) HL2.out).trans HA2.out) ⟨rfl, Below.refl _ _⟩
      · intro ρ W1 hb1 H
        exact gives_convert rfl (H.new 36 13 (by kernel_rfl)) (textB (IsV.below (f := bv) HI2.out hb1)) ⟨rfl, Below.refl _ _⟩
      · intro ρ W1 hb1 H
        have e1 : ρ (.tmp 27) = .bool ((n0 : Int) == 1) := (H.new 27 4 (by kernel_rfl))
        have e2 : ρ (.tmp 32) = .int .i64 (vzag (n1 : Int)) := (H.new 32 9 (by kernel_rfl))
        have e3 : ρ (.tmp 37) = .string ⟨s2.toArray⟩ := (H.new 37 14 (by kernel_rfl))
        refine gives_of (v := .agg #[.bool ((n0 : Int) == 1), .int .i64 (vzag (n1 : Int)), .string ⟨s2.toArray⟩]) (w' := W1) ?_ ⟨rfl, Below.refl _ _⟩
        simp [execOp, e1, e2, e3, vbuild_all]
      · intro ρ W1 hb1 H
        obtain ⟨i, hi1, hi2⟩ := value_infoF
        exact gives_alloc hi1 hi2 rfl ⟨⟨_, rfl, hb1.size, heap_alloc_new W1 _⟩, (Below.refl _ _).alloc (Nat.le_refl _) _⟩
      · intro vs W1 hb1 hfs
        have f15 : vs 15 = .agg #[.bool ((n0 : Int) == 1), .int .i64 (vzag (n1 : Int)), .string ⟨s2.toArray⟩] := hfs 15 (by decide)
        have f16 : ∃ h, vs 16 = .pointer (some ⟨h, 0, none⟩) ∧ w5.heap.size ≤ h ∧ Row W1 h 32 [.bool false, .int .i64 0, .string ⟨#[]⟩] := hfs 16 (by decide)
        clear hfs
        simp only [putAll, Nat.zero_add, Nat.reduceAdd, List.drop_succ_cons, List.drop_zero]
        generalize vs 0 = z0
        generalize vs 1 = z1
        generalize vs 2 = z2
        generalize vs 3 = z3
        generalize vs 4 = z4
        generalize vs 5 = z5
        generalize vs 6 = z6
        generalize vs 7 = z7
        generalize vs 8 = z8
        generalize vs 9 = z9
        generalize vs 10 = z10
        generalize vs 11 = z11
        generalize vs 12 = z12
        generalize vs 13 = z13
        generalize vs 14 = z14
        generalize vs 16 = z16 at f16 ⊢
        simp only [f15, Act.put, List.setIfInBounds_toArray, List.set_cons_succ, List.set_cons_zero]
        clear f15
        obtain ⟨h, rfl, hh, hrh⟩ := f16
        have HRH := Lib.hid hrh
        have HB7 := Lib.hid (below_then HB5.out hb1)
        have HRG7 := Lib.hid (HRG5.out.below hb1 HRG5.out.lt)
        have hgh : w.heap.size ≤ h := Nat.le_trans HB5.out.size hh
        have HNE := Lib.hid (show w.heap.size ≠ h by have := HRG5.out.lt; omega)
        clear hrh hb1 hh
        go_wp2_with (refine wpList_storeW rfl _ _ _ rfl h 0 32 [.bool false, .int .i64 0, .string ⟨#[]⟩] [.bool ((n0 : Int) == 1), .int .i64 (vzag (n1 : Int)), .string ⟨s2.toArray⟩] [.bool ((n0 : Int) == 1), .int .i64 (vzag (n1 : Int)), .string ⟨s2.toArray⟩] rfl rfl rfl HRH.out fvalI_size (Nat.le_refl _) (oneCell_val _ _ _) w w.heap.size HB7.out hgh ?_)
        intro w8 hr8 hb8 hk8
        have HR8 := Lib.hid hr8
        have HB8 := Lib.hid hb8
        have HRG8 := Lib.hid (hk8 w.heap.size _ _ HNE.out HRG7.out)
        clear hr8 hb8 hk8
        go_wp2_with fail
        refine wp_region_list [.is (.agg #[.bool ((n0 : Int) == 1), .int .i64 (vzag (n1 : Int)), .string ⟨s2.toArray⟩]), .bytes (fputV X), .is (.string ⟨(fputV X).toArray⟩), .bytes (b), .is (.string ⟨(b).toArray⟩), .is (.bool !(fputV X == b))] [some 39, some 40, some 41, some 42, some 43, some 44] (by kernel_rfl) (by kernel_rfl) (by kernel_rfl) rfl ⟨?_, ?_, ?_, ?_, ?_, ?_, trivial⟩ ?_
        · intro ρ W1 hb1 H
          exact gives_load_row (cs := [.bool ((n0 : Int) == 1), .int .i64 (vzag (n1 : Int)), .string ⟨s2.toArray⟩]) rfl (H.old 7 _ (by kernel_rfl) rfl) Tryd.underlying32 rfl fvalI_size (HR8.out.below hb1 HR8.out.lt) ⟨rfl, Below.refl _ _⟩
        · intro ρ W1 hb1 H
          have e0 : ρ (.tmp 39) = .agg #[.bool ((n0 : Int) == 1), .int .i64 (vzag (n1 : Int)), .string ⟨s2.toArray⟩] := H.new 39 0 (by kernel_rfl)
          refine gives_call rfl (fun _ _ => by kernel_rfl) (H.func _) (args := #[.agg #[.bool ((n0 : Int) == 1), .int .i64 (vzag (n1 : Int)), .string ⟨s2.toArray⟩]]) (by simp [e0]) ?_
          exact (HPUT.out W1).mono fun e w' ⟨u, h1, h2, h3⟩ => ⟨u, h1, h2, h3⟩
        · intro ρ W1 hb1 H
          have hB : IsB (fputV X) (ρ (.tmp 40)) W1 := H.new 40 1 (by kernel_rfl)
          exact gives_convert rfl rfl (hB.text _ _ _ Tryd.underlying22 Tryd.underlying5 Tryd.underlying9) ⟨rfl, Below.refl _ _⟩
        · intro ρ W1 hb1 H
          exact gives_move rfl (H.old 0 _ (by kernel_rfl) rfl) ⟨IsV.below (f := bv) HV0.out (below_then HB8.out hb1), Below.refl _ _⟩
        · intro ρ W1 hb1 H
          have hB : IsB (b) (ρ (.tmp 42)) W1 := H.new 42 3 (by kernel_rfl)
          exact gives_convert rfl rfl (hB.text _ _ _ Tryd.underlying22 Tryd.underlying5 Tryd.underlying9) ⟨rfl, Below.refl _ _⟩
        · intro ρ W1 hb1 H
          exact gives_textne (a := fputV X) (b := b) rfl (H.new 41 2 (by kernel_rfl)) (H.new 43 4 (by kernel_rfl)) ⟨rfl, Below.refl _ _⟩
        · intro vs W1 hb1 hfs
          have f5 : vs 5 = .bool !(fputV X == b) := hfs 5 (by decide)
          clear hfs
          simp only [putAll, Nat.zero_add, Nat.reduceAdd]
          generalize vs 0 = z0
          generalize vs 1 = z1
          generalize vs 2 = z2
          generalize vs 3 = z3
          generalize vs 4 = z4
          simp only [f5, Act.put, List.setIfInBounds_toArray, List.set_cons_succ, List.set_cons_zero]
          clear f5
          have HB10 := Lib.hid (below_then HB8.out hb1)
          have HRG10 := Lib.hid (HRG8.out.below hb1 HRG8.out.lt)
          have hr10 := HR8.out.below hb1 HR8.out.lt
          have e0 : W1.cell? ⟨h, 0, none⟩ = some (.bool ((n0 : Int) == 1)) := hr10.cell 0
          have e1 : W1.cell? ⟨h, 1, none⟩ = some (.int .i64 (vzag (n1 : Int))) := hr10.cell 1
          have e2 : W1.cell? ⟨h, 2, none⟩ = some (.string ⟨s2.toArray⟩) := hr10.cell 2
          clear hb1 hr10
          cases hq : (fputV X == b) with
          | false =>
            have HNOE := Lib.hid (show ftakeV b = none by rw [HGO.out, if_neg (fun hh => by rw [hh] at hq; simp at hq)])
            clear hq e0 e1 e2
            go_wp2_with (refine wpList_storeW rfl _ _ _ rfl w.heap.size 0 32 [.bool false, .int .i64 0, .string ⟨#[]⟩] [.bool false, .int .i64 0, .string ⟨#[]⟩] [.bool false, .int .i64 0, .string ⟨#[]⟩] rfl rfl rfl HRG10.out fvalI_size (Nat.le_refl _) (by decide) w w.heap.size HB10.out (Nat.le_refl _) ?_)
            intro w9 hr9 hb9 _
            have HR9 := Lib.hid hr9
            have HB9 := Lib.hid hb9
            clear hr9 hb9 
            go_wp2
            refine bodyPost_ret (results_row_tmp rfl _ _ w.heap.size _ _ (0, 0) _ _ rfl HR9.out Tryd.underlying32 rfl fvalI_size rfl) rfl ?_
            rw [HNOE.out]
            exact ⟨rfl, HB9.out⟩
          | true =>
            have HYES := Lib.hid (show ftakeV b = some X by rw [HGO.out, if_pos (by simpa using hq)])
            clear hq
            go_wp2_with (refine wpList_storeW rfl _ _ _ rfl w.heap.size 0 32 [.bool false, .int .i64 0, .string ⟨#[]⟩] [.bool ((n0 : Int) == 1), .int .i64 (vzag (n1 : Int)), .string ⟨s2.toArray⟩] [.bool ((n0 : Int) == 1), .int .i64 (vzag (n1 : Int)), .string ⟨s2.toArray⟩] rfl rfl rfl HRG10.out fvalI_size (Nat.le_refl _) (oneCell_val _ _ _) w w.heap.size HB10.out (Nat.le_refl _) ?_)
            intro w9 hr9 hb9 _
            have HR9 := Lib.hid hr9
            have HB9 := Lib.hid hb9
            clear hr9 hb9 e0 e1 e2
            go_wp2
            refine bodyPost_ret (results_row_tmp rfl _ _ w.heap.size _ _ (0, 0) _ _ rfl HR9.out Tryd.underlying32 rfl fvalI_size rfl) rfl ?_
            rw [HYES.out]
            exact ⟨by rw [HSV.out]; rfl, HB9.out⟩
end Go.Proofs.YtocodcceimeiiaaDoor

/- TakeStats of layer 19's reference. Written by gen_frtakes.py. -/





namespace Go.Proofs.YtocodcceimeiiaaDoor

open Go.RowKit Go.ChangeShapes Go.WideShapes Go.ChangeAt

theorem gives_notF {P : Program} {o : Oper} {ρ : Operand → Value} {w : World} {R : Value → World → Prop} {t : TypeId} {x : Operand} {b : Bool} (ho : o.op = .unOp .not t x) (hx : ρ x = .bool b) (hR : R (.bool !b) w) : Gives P o ρ w R := by
  refine gives_of (v := .bool !b) (w' := w) ?_ hR
  simp [execOp, ho, hx, go_sem]

theorem ftakeV_in {b : List UInt8} {x : CV} (h : ftakeV b = some x) : x.inInt := by
  unfold ftakeV at h
  split at h
  · cases h
  · rename_i l hl
    split at h
    · injection h with h
      rw [← h]
      obtain ⟨hok, _⟩ := ftakeE_back b.length (Nat.le_refl _) hl
      refine fvOf_in ?_
      rw [List.getD_eq_getElem?_getD]
      cases hq : l[1]? with
      | none => simp [fnum]
      | some f => exact (hok f (List.mem_of_getElem? hq)).n
    · cases h
theorem ftakeG_shp (k : Int) (b : List UInt8) : ftakeG k b = match ftakeE b with
    | none => none
    | some l => if fshp 1 l [false, false, true, true, false, false] = true then
        match ftakeV (l.getD 2 (fnum 0 0)).b, ftakeV (l.getD 3 (fnum 0 0)).b with
        | some x, some y => if fputG (fgOf l x y) = b ∧ gmayE k (fgOf l x y) = true then some (fgOf l x y) else none
        | _, _ => none
      else none := by
  unfold ftakeG
  cases ftakeE b with
  | none => rfl
  | some l => dsimp only; rw [fshp_is6]; rfl
set_option maxHeartbeats 32000000 in
set_option maxRecDepth 100000 in
theorem rtakeG_any (k : Int) (b : List UInt8) (v : Value) (w : World) (h : IsB b v w) (hl : b.length ≤ 3000) (hU : Tryd.U8 w) : Calls Tryd.prog 11 #[.int .i64 k, v] w (RetGE w (ftakeG k b)) := by
  obtain ⟨w1, hw1⟩ : ∃ x, x = w.alloc (.cells #[.int .i64 0, .bool false, .bool false, .int .i64 0, .string ⟨#[]⟩, .bool false, .int .i64 0, .string ⟨#[]⟩, .int .i64 0, .bool false] 36) := ⟨_, rfl⟩
  have hb1 : Below w.heap.size w w1 := by rw [hw1]; exact (Below.refl _ _).alloc (Nat.le_refl _) _
  have hr1 : Row w1 w.heap.size 36 [.int .i64 0, .bool false, .bool false, .int .i64 0, .string ⟨#[]⟩, .bool false, .int .i64 0, .string ⟨#[]⟩, .int .i64 0, .bool false] := by rw [hw1]; exact heap_alloc_new w _
  have HV0 := Lib.hid h
  have HU := Lib.hid hU
  have HT := Lib.hid (rftake_any b v w1 (h.below hb1) (by omega))
  have HB1 := Lib.hid hb1
  have HR1 := Lib.hid hr1
  have HW := Lib.hid hw1.symm
  have hGO := ftakeG_shp k b
  have HLB := Lib.hid hl
  clear hb1 hr1 h hw1 hl hU
  cases hO : ftakeE b with
  | none =>
    rw [hO] at HT hGO
    have HNOE := Lib.hid hGO
    clear hO hGO
    go_enter Tryd.func11, Tryd.ntmps11
    go_wp2_with fail
    rw [HW.out]
    refine HT.out.mono ?_
    rintro e w3 ⟨rfl, hb3⟩
    have HB3 := Lib.hid (below_then HB1.out hb3)
    have HRG3 := Lib.hid (HR1.out.below hb3 HR1.out.lt)
    obtain ⟨w4, hw4⟩ : ∃ x, x = w3.alloc (.cells #[.bool false, .bool false, .bool true, .bool true, .bool false, .bool false] 4) := ⟨_, rfl⟩
    have hb4 : Below w3.heap.size w3 w4 := by rw [hw4]; exact (Below.refl _ _).alloc (Nat.le_refl _) _
    have hk4 : IsV Value.bool [false, false, true, true, false, false] (.slice (some ⟨w3.heap.size, 0, none⟩) 6 6) w4 := by rw [hw4]; exact isV_new Value.bool w3 _ [false, false, true, true, false, false] 6 rfl (by omega)
    have hsh := rshape_any [] [false, false, true, true, false, false] (.slice none 0 0) _ w4 (isR_nil _ _) hk4 (by simp)
    rw [show fshp 1 (([] : List FN).map FN.wf) [false, false, true, true, false, false] = false from rfl] at hsh
    have HSH := Lib.hid hsh
    have HW4 := Lib.hid hw4
    have HB4 := Lib.hid (below_then HB3.out hb4)
    have HRG4 := Lib.hid (HRG3.out.below hb4 HRG3.out.lt)
    clear hb3 hw4 hb4 hk4 hsh
    go_wp2_with fail
    rw [← HW4.out]
    refine HSH.out.mono ?_
    rintro e w5 ⟨rfl, hb5⟩
    have HB5 := Lib.hid (below_then HB4.out hb5)
    have HRG5 := Lib.hid (HRG4.out.below hb5 HRG4.out.lt)
    clear hb5
    go_wp2_with (refine wpList_storeW rfl _ _ _ rfl w.heap.size 0 36 [.int .i64 0, .bool false, .bool false, .int .i64 0, .string ⟨#[]⟩, .bool false, .int .i64 0, .string ⟨#[]⟩, .int .i64 0, .bool false] [.int .i64 0, .bool false, .bool false, .int .i64 0, .string ⟨#[]⟩, .bool false, .int .i64 0, .string ⟨#[]⟩, .int .i64 0, .bool false] [.int .i64 0, .bool false, .bool false, .int .i64 0, .string ⟨#[]⟩, .bool false, .int .i64 0, .string ⟨#[]⟩, .int .i64 0, .bool false] rfl rfl rfl HRG5.out fstI_size (Nat.le_refl _) (by decide) w w.heap.size HB5.out (Nat.le_refl _) ?_)
    intro w9 hr9 hb9 _
    have HR9 := Lib.hid hr9
    have HB9 := Lib.hid hb9
    clear hr9 hb9 
    go_wp2
    refine bodyPost_ret (results_row_tmp rfl _ _ w.heap.size _ _ (0, 0) _ _ rfl HR9.out Tryd.underlying36 rfl fstI_size rfl) rfl ?_
    rw [HNOE.out]
    exact ⟨rfl, HB9.out⟩
  | some l =>
    rw [hO] at HT hGO
    dsimp only at hGO
    have HBACK := Lib.hid (ftakeE_back b.length (Nat.le_refl _) hO)
    clear hO
    cases hS : fshp 1 l [false, false, true, true, false, false] with
    | false =>
      have HNOE := Lib.hid (show ftakeG k b = none by rw [hGO, if_neg (by rw [hS]; simp)])
      have HSF := Lib.hid hS
      clear hGO hS HBACK
      go_enter Tryd.func11, Tryd.ntmps11
      go_wp2_with fail
      rw [HW.out]
      refine HT.out.mono ?_
      rintro e w3 ⟨fs, tv, rfl, hfe, ho3, hf3, hb3⟩
      subst hfe
      have HB3 := Lib.hid (below_then HB1.out hb3)
      have HRG3 := Lib.hid (HR1.out.below hb3 HR1.out.lt)
      obtain ⟨w4, hw4⟩ : ∃ x, x = w3.alloc (.cells #[.bool false, .bool false, .bool true, .bool true, .bool false, .bool false] 4) := ⟨_, rfl⟩
      have hb4 : Below w3.heap.size w3 w4 := by rw [hw4]; exact (Below.refl _ _).alloc (Nat.le_refl _) _
      have hk4 : IsV Value.bool [false, false, true, true, false, false] (.slice (some ⟨w3.heap.size, 0, none⟩) 6 6) w4 := by rw [hw4]; exact isV_new Value.bool w3 _ [false, false, true, true, false, false] 6 rfl (by omega)
      have hsh := rshape_any fs [false, false, true, true, false, false] tv _ w4 ((isR_own (f := fcells) (m := 4) (fun _ => rfl) (by omega) ho3).below hb4) hk4 (by simp)
      rw [HSF.out] at hsh
      have HSH := Lib.hid hsh
      have HW4 := Lib.hid hw4
      have HB4 := Lib.hid (below_then HB3.out hb4)
      have HRG4 := Lib.hid (HRG3.out.below hb4 HRG3.out.lt)
      clear hb3 hw4 hb4 hk4 hsh ho3 hf3
      go_wp2_with fail
      rw [← HW4.out]
      refine HSH.out.mono ?_
      rintro e w5 ⟨rfl, hb5⟩
      have HB5 := Lib.hid (below_then HB4.out hb5)
      have HRG5 := Lib.hid (HRG4.out.below hb5 HRG4.out.lt)
      clear hb5
      go_wp2_with (refine wpList_storeW rfl _ _ _ rfl w.heap.size 0 36 [.int .i64 0, .bool false, .bool false, .int .i64 0, .string ⟨#[]⟩, .bool false, .int .i64 0, .string ⟨#[]⟩, .int .i64 0, .bool false] [.int .i64 0, .bool false, .bool false, .int .i64 0, .string ⟨#[]⟩, .bool false, .int .i64 0, .string ⟨#[]⟩, .int .i64 0, .bool false] [.int .i64 0, .bool false, .bool false, .int .i64 0, .string ⟨#[]⟩, .bool false, .int .i64 0, .string ⟨#[]⟩, .int .i64 0, .bool false] rfl rfl rfl HRG5.out fstI_size (Nat.le_refl _) (by decide) w w.heap.size HB5.out (Nat.le_refl _) ?_)
      intro w9 hr9 hb9 _
      have HR9 := Lib.hid hr9
      have HB9 := Lib.hid hb9
      clear hr9 hb9 
      go_wp2
      refine bodyPost_ret (results_row_tmp rfl _ _ w.heap.size _ _ (0, 0) _ _ rfl HR9.out Tryd.underlying36 rfl fstI_size rfl) rfl ?_
      rw [HNOE.out]
      exact ⟨rfl, HB9.out⟩
    | true =>
      rw [if_pos hS] at hGO
      have HGO := Lib.hid hGO
      have HSF := Lib.hid hS
      clear hGO hS
      go_enter Tryd.func11, Tryd.ntmps11
      go_wp2_with fail
      rw [HW.out]
      refine HT.out.mono ?_
      rintro e w3 ⟨fs, tv, rfl, hfe, ho3, hf3, hb3⟩
      subst hfe
      have HB3 := Lib.hid (below_then HB1.out hb3)
      have HRG3 := Lib.hid (HR1.out.below hb3 HR1.out.lt)
      obtain ⟨w4, hw4⟩ : ∃ x, x = w3.alloc (.cells #[.bool false, .bool false, .bool true, .bool true, .bool false, .bool false] 4) := ⟨_, rfl⟩
      have hb4 : Below w3.heap.size w3 w4 := by rw [hw4]; exact (Below.refl _ _).alloc (Nat.le_refl _) _
      have hk4 : IsV Value.bool [false, false, true, true, false, false] (.slice (some ⟨w3.heap.size, 0, none⟩) 6 6) w4 := by rw [hw4]; exact isV_new Value.bool w3 _ [false, false, true, true, false, false] 6 rfl (by omega)
      have hsh := rshape_any fs [false, false, true, true, false, false] tv _ w4 ((isR_own (f := fcells) (m := 4) (fun _ => rfl) (by omega) ho3).below hb4) hk4 (by simp)
      rw [HSF.out] at hsh
      have HSH := Lib.hid hsh
      have HW4 := Lib.hid hw4
      have HB4 := Lib.hid (below_then HB3.out hb4)
      have HRG4 := Lib.hid (HRG3.out.below hb4 HRG3.out.lt)
      have hln := fshp_len HSF.out
      rw [List.length_map] at hln
      obtain ⟨x0, x1, x2, x3, x4, x5, rfl⟩ : ∃ x0 x1 x2 x3 x4 x5, fs = [x0, x1, x2, x3, x4, x5] := by
        match fs, hln with
        | [x0, x1, x2, x3, x4, x5], _ => exact ⟨x0, x1, x2, x3, x4, x5, rfl⟩
      obtain ⟨hok, hbe⟩ := HBACK.out
      obtain ⟨tA, tn, tc, rfl⟩ := own_slice ho3
      have htn := (isR_own (f := fcells) (m := 4) (fun _ => rfl) (by omega) ho3).parts
      obtain rfl : 6 = tn := htn.1
      obtain ⟨ad, rfl⟩ : ∃ ad, tA = some ad := by
        cases tA with
        | none => have := htn.2.1 rfl; omega
        | some ad => exact ⟨ad, rfl⟩
      obtain ⟨a0, _, a1, _⟩ := field_cells ho3 (k := 0) (by simp)
      obtain ⟨b0, _, b1, _⟩ := field_cells ho3 (k := 1) (by simp)
      obtain ⟨_, c0, c1, _⟩ := field_cells ho3 (k := 2) (by simp)
      obtain ⟨_, d0, d1, _⟩ := field_cells ho3 (k := 3) (by simp)
      obtain ⟨i0, _, i1, _⟩ := field_cells ho3 (k := 4) (by simp)
      obtain ⟨j0, _, j1, _⟩ := field_cells ho3 (k := 5) (by simp)
      have hn0 := (hok x0.wf (by simp)).n
      have hn4 := (hok x4.wf (by simp)).n
      have hl2 : x2.wf.b.length ≤ b.length := by rw [hbe]; exact flen_in hok x2.wf (by simp)
      have hl3 : x3.wf.b.length ≤ b.length := by rw [hbe]; exact flen_in hok x3.wf (by simp)
      have hI2 := (hf3 x2 (by simp)).1
      have hI3 := (hf3 x3 (by simp)).1
      obtain ⟨t0, f0, n0, s0, l0⟩ := x0
      obtain ⟨t1, f1, n1, s1, l1⟩ := x1
      obtain ⟨t2, f2, n2, s2, l2⟩ := x2
      obtain ⟨t3, f3, n3, s3, l3⟩ := x3
      obtain ⟨t4, f4, n4, s4, l4⟩ := x4
      obtain ⟨t5, f5, n5, s5, l5⟩ := x5
      dsimp only [List.getElem_cons_zero, List.getElem_cons_succ, FN.wf] at a0 b0 c0 d0 i0 j0 hn0 hn4 hl2 hl3 hI2 hI3
      have hGO : ftakeG k b = match ftakeV s2, ftakeV s3 with
        | some x, some y => if fputG (fgOf ([⟨t0, f0, n0, s0⟩, ⟨t1, f1, n1, s1⟩, ⟨t2, f2, n2, s2⟩, ⟨t3, f3, n3, s3⟩, ⟨t4, f4, n4, s4⟩, ⟨t5, f5, n5, s5⟩] : List WF) x y) = b ∧ gmayE k (fgOf ([⟨t0, f0, n0, s0⟩, ⟨t1, f1, n1, s1⟩, ⟨t2, f2, n2, s2⟩, ⟨t3, f3, n3, s3⟩, ⟨t4, f4, n4, s4⟩, ⟨t5, f5, n5, s5⟩] : List WF) x y) = true then some (fgOf ([⟨t0, f0, n0, s0⟩, ⟨t1, f1, n1, s1⟩, ⟨t2, f2, n2, s2⟩, ⟨t3, f3, n3, s3⟩, ⟨t4, f4, n4, s4⟩, ⟨t5, f5, n5, s5⟩] : List WF) x y) else none
        | _, _ => none := HGO.out
      have HGO := Lib.hid hGO
      go_wp2_with fail
      rw [← HW4.out]
      refine HSH.out.mono ?_
      rintro e w5 ⟨rfl, hb5⟩
      have HB5 := Lib.hid (below_then HB4.out hb5)
      have HRG5 := Lib.hid (HRG4.out.below hb5 HRG4.out.lt)
      have h35 := below_then hb4 hb5
      have k2 : w5.cell? ⟨ad.block, ad.off + 8 + 3, none⟩ = some l2 := (h35.cell (p := ⟨(ad.add (2 * 4)).block, (ad.add (2 * 4)).off + 3, none⟩) c1).trans c0
      have HD3 := Lib.hid (show w5.cell? ⟨(ad.add (3 * 4)).block, (ad.add (3 * 4)).off + 3, none⟩ = some l3 from (h35.cell (p := ⟨(ad.add (3 * 4)).block, (ad.add (3 * 4)).off + 3, none⟩) d1).trans d0)
      have HA0 := Lib.hid (show w5.cell? ⟨(ad.add (0 * 4)).block, (ad.add (0 * 4)).off + 2, none⟩ = some (.int .u64 (n0 : Int)) from (h35.cell (p := ⟨(ad.add (0 * 4)).block, (ad.add (0 * 4)).off + 2, none⟩) a1).trans a0)
      have HL0 := Lib.hid (Nat.lt_of_lt_of_le a1 h35.size)
      have HA1 := Lib.hid (show w5.cell? ⟨(ad.add (1 * 4)).block, (ad.add (1 * 4)).off + 2, none⟩ = some (.int .u64 (n1 : Int)) from (h35.cell (p := ⟨(ad.add (1 * 4)).block, (ad.add (1 * 4)).off + 2, none⟩) b1).trans b0)
      have HL1 := Lib.hid (Nat.lt_of_lt_of_le b1 h35.size)
      have HA4 := Lib.hid (show w5.cell? ⟨(ad.add (4 * 4)).block, (ad.add (4 * 4)).off + 2, none⟩ = some (.int .u64 (n4 : Int)) from (h35.cell (p := ⟨(ad.add (4 * 4)).block, (ad.add (4 * 4)).off + 2, none⟩) i1).trans i0)
      have HL4 := Lib.hid (Nat.lt_of_lt_of_le i1 h35.size)
      have HA5 := Lib.hid (show w5.cell? ⟨(ad.add (5 * 4)).block, (ad.add (5 * 4)).off + 2, none⟩ = some (.int .u64 (n5 : Int)) from (h35.cell (p := ⟨(ad.add (5 * 4)).block, (ad.add (5 * 4)).off + 2, none⟩) j1).trans j0)
      have HL5 := Lib.hid (Nat.lt_of_lt_of_le j1 h35.size)
      have HL3 := Lib.hid (Nat.lt_of_lt_of_le d1 h35.size)
      have HN0 := Lib.hid (show ∃ q : Int, q = 18446744073709551616 ∧ (n0 : Int) < q from ⟨_, rfl, by omega⟩)
      have HN4 := Lib.hid (show ∃ q : Int, q = 18446744073709551616 ∧ (n4 : Int) < q from ⟨_, rfl, by omega⟩)
      have HI2 := Lib.hid (IsV.below (f := bv) hI2 h35)
      have HI3 := Lib.hid (IsV.below (f := bv) hI3 h35)
      have HLB2 := Lib.hid hl2
      have HLB3 := Lib.hid hl3
      clear hb3 hw4 hb4 hk4 hsh hln hok hbe htn ho3 hf3 a0 a1 b0 b1 c0 c1 d0 d1 i0 i1 j0 j1 hn0 hn4 hl2 hl3 hI2 hI3 hGO hb5 h35 HT HSF HBACK
      have hv2 := rtakeV_any s2 l2 w5 HI2.out (by have := HLB2.out; have := HLB.out; omega)
      cases hx2 : ftakeV s2 with
      | none =>
        rw [hx2] at hv2
        have HV2 := Lib.hid hv2
        have HNOE := Lib.hid (show ftakeG k b = none by rw [HGO.out, hx2])
        clear hv2 hx2
        go_wp2_with fail
        refine HV2.out.mono ?_
        rintro e w4 ⟨rfl, hb4⟩
        dsimp only [cv, cv0]
        have hbX : Below w4.heap.size w4 (w4.alloc (.cells #[.bool false, .int .i64 0, .string ⟨#[]⟩] 32)) := (Below.refl _ _).alloc (Nat.le_refl _) _
        have HB4 := Lib.hid (below_then (below_then HB5.out hb4) hbX)
        have HRG4 := Lib.hid ((HRG5.out.below hb4 HRG5.out.lt).below hbX (HRG5.out.below hb4 HRG5.out.lt).lt)
        clear hb4 hbX k2
        go_wp2_with (refine wpList_storeW rfl _ _ _ rfl w.heap.size 0 36 [.int .i64 0, .bool false, .bool false, .int .i64 0, .string ⟨#[]⟩, .bool false, .int .i64 0, .string ⟨#[]⟩, .int .i64 0, .bool false] [.int .i64 0, .bool false, .bool false, .int .i64 0, .string ⟨#[]⟩, .bool false, .int .i64 0, .string ⟨#[]⟩, .int .i64 0, .bool false] [.int .i64 0, .bool false, .bool false, .int .i64 0, .string ⟨#[]⟩, .bool false, .int .i64 0, .string ⟨#[]⟩, .int .i64 0, .bool false] rfl rfl rfl HRG4.out fstI_size (Nat.le_refl _) (by decide) w w.heap.size HB4.out (Nat.le_refl _) ?_)
        intro w9 hr9 hb9 _
        have HR9 := Lib.hid hr9
        have HB9 := Lib.hid hb9
        clear hr9 hb9 
        go_wp2
        refine bodyPost_ret (results_row_tmp rfl _ _ w.heap.size _ _ (0, 0) _ _ rfl HR9.out Tryd.underlying36 rfl fstI_size rfl) rfl ?_
        rw [HNOE.out]
        exact ⟨rfl, HB9.out⟩
      | some X =>
        rw [hx2] at hv2
        have HV2 := Lib.hid hv2
        have HSX := Lib.hid (show X.s.size ≤ 3000 from Nat.le_trans (ftakeV_size hx2) (by have := HLB2.out; have := HLB.out; omega))
        have HIX := Lib.hid (ftakeV_in hx2)
        have HX2 := Lib.hid hx2
        clear hv2 hx2
        obtain ⟨xb, xn, xs⟩ := X
        go_wp2_with fail
        clear k2
        refine HV2.out.mono ?_
        rintro e w4 ⟨rfl, hb4⟩
        dsimp only [cv]
        obtain ⟨wx, hwx⟩ : ∃ y, y = w4.alloc (.cells #[.bool xb, .int .i64 xn, .string xs] 32) := ⟨_, rfl⟩
        have hb5 : Below w4.heap.size w4 wx := by rw [hwx]; exact (Below.refl _ _).alloc (Nat.le_refl _) _
        have hrx : Row wx w4.heap.size 32 [.bool xb, .int .i64 xn, .string xs] := by rw [hwx]; exact heap_alloc_new w4 _
        have h35 := below_then hb4 hb5
        have HBX := Lib.hid (below_then HB5.out h35)
        have HRGX := Lib.hid (HRG5.out.below h35 HRG5.out.lt)
        have k3 : (w4.alloc (.cells #[.bool xb, .int .i64 xn, .string xs] 32)).cell? ⟨ad.block, ad.off + 12 + 3, none⟩ = some l3 := by rw [← hwx]; exact (h35.cell (p := ⟨(ad.add (3 * 4)).block, (ad.add (3 * 4)).off + 3, none⟩) HL3.out).trans HD3.out
        obtain ⟨hx, hhx⟩ : ∃ hx, hx = w4.heap.size := ⟨_, rfl⟩
        have HWX := Lib.hid hwx
        have HHX := Lib.hid hhx
        have HRX5 := Lib.hid hrx
        have H35 := Lib.hid h35
        have hv3 := rtakeV_any s3 l3 wx (HI3.out.below h35) (by have := HLB3.out; have := HLB.out; omega)
        clear hb4 hb5 hrx h35 hwx hhx
        cases hx3 : ftakeV s3 with
        | none =>
          rw [hx3] at hv3
          have HV3 := Lib.hid hv3
          have HNOE := Lib.hid (show ftakeG k b = none by rw [HGO.out, HX2.out, hx3])
          clear hv3 hx3
          go_wp2_with fail
          rw [← HWX.out]
          clear k3
          refine HV3.out.mono ?_
          rintro e w6 ⟨rfl, hb6⟩
          dsimp only [cv, cv0]
          have hbX : Below w6.heap.size w6 (w6.alloc (.cells #[.bool false, .int .i64 0, .string ⟨#[]⟩] 32)) := (Below.refl _ _).alloc (Nat.le_refl _) _
          have HB6 := Lib.hid (below_then (below_then HBX.out hb6) hbX)
          have HRG6 := Lib.hid ((HRGX.out.below hb6 HRGX.out.lt).below hbX (HRGX.out.below hb6 HRGX.out.lt).lt)
          clear hb6 hbX
          go_wp2_with (refine wpList_storeW rfl _ _ _ rfl w.heap.size 0 36 [.int .i64 0, .bool false, .bool false, .int .i64 0, .string ⟨#[]⟩, .bool false, .int .i64 0, .string ⟨#[]⟩, .int .i64 0, .bool false] [.int .i64 0, .bool false, .bool false, .int .i64 0, .string ⟨#[]⟩, .bool false, .int .i64 0, .string ⟨#[]⟩, .int .i64 0, .bool false] [.int .i64 0, .bool false, .bool false, .int .i64 0, .string ⟨#[]⟩, .bool false, .int .i64 0, .string ⟨#[]⟩, .int .i64 0, .bool false] rfl rfl rfl HRG6.out fstI_size (Nat.le_refl _) (by decide) w w.heap.size HB6.out (Nat.le_refl _) ?_)
          intro w9 hr9 hb9 _
          have HR9 := Lib.hid hr9
          have HB9 := Lib.hid hb9
          clear hr9 hb9 
          go_wp2
          refine bodyPost_ret (results_row_tmp rfl _ _ w.heap.size _ _ (0, 0) _ _ rfl HR9.out Tryd.underlying36 rfl fstI_size rfl) rfl ?_
          rw [HNOE.out]
          exact ⟨rfl, HB9.out⟩
        | some Y =>
          rw [hx3] at hv3
          have HV3 := Lib.hid hv3
          have HSY := Lib.hid (show Y.s.size ≤ 3000 from Nat.le_trans (ftakeV_size hx3) (by have := HLB3.out; have := HLB.out; omega))
          have HIY := Lib.hid (ftakeV_in hx3)
          have HX3 := Lib.hid hx3
          clear hv3 hx3
          obtain ⟨yb, yn, ys⟩ := Y
          go_wp2_with fail
          rw [← HWX.out]
          clear k3
          refine HV3.out.mono ?_
          rintro e wy ⟨rfl, hby⟩
          dsimp only [cv]
          obtain ⟨w6, hw6⟩ : ∃ y, y = wy.alloc (.cells #[.bool yb, .int .i64 yn, .string ys] 32) := ⟨_, rfl⟩
          have hb6 : Below wy.heap.size wy w6 := by rw [hw6]; exact (Below.refl _ _).alloc (Nat.le_refl _) _
          have hry : Row w6 wy.heap.size 32 [.bool yb, .int .i64 yn, .string ys] := by rw [hw6]; exact heap_alloc_new wy _
          have h56 := below_then hby hb6
          have h36 := below_then H35.out h56
          obtain ⟨hy, hhy⟩ : ∃ hy, hy = wy.heap.size := ⟨_, rfl⟩
          have HB6 := Lib.hid (below_then HBX.out h56)
          have HRG6 := Lib.hid (HRGX.out.below h56 HRGX.out.lt)
          have HRX := Lib.hid (show Row w6 hx 32 [.bool xb, .int .i64 xn, .string xs] by rw [HHX.out]; exact HRX5.out.below h56 HRX5.out.lt)
          have HRY := Lib.hid (show Row w6 hy 32 [.bool yb, .int .i64 yn, .string ys] by rw [hhy]; exact hry)
          have HC0 := Lib.hid ((h36.cell (p := ⟨(ad.add (0 * 4)).block, (ad.add (0 * 4)).off + 2, none⟩) HL0.out).trans HA0.out)
          have HLT0 := Lib.hid (Nat.lt_of_lt_of_le HL0.out h36.size)
          have HC1 := Lib.hid ((h36.cell (p := ⟨(ad.add (1 * 4)).block, (ad.add (1 * 4)).off + 2, none⟩) HL1.out).trans HA1.out)
          have HLT1 := Lib.hid (Nat.lt_of_lt_of_le HL1.out h36.size)
          have HC4 := Lib.hid ((h36.cell (p := ⟨(ad.add (4 * 4)).block, (ad.add (4 * 4)).off + 2, none⟩) HL4.out).trans HA4.out)
          have HLT4 := Lib.hid (Nat.lt_of_lt_of_le HL4.out h36.size)
          have HC5 := Lib.hid ((h36.cell (p := ⟨(ad.add (5 * 4)).block, (ad.add (5 * 4)).off + 2, none⟩) HL5.out).trans HA5.out)
          have HLT5 := Lib.hid (Nat.lt_of_lt_of_le HL5.out h36.size)
          obtain ⟨S, hS⟩ : ∃ S : GS, S = ⟨i64n n0, (n1 : Int) == 1, ⟨xb, xn, xs⟩, ⟨yb, yn, ys⟩, vzag (n4 : Int), (n5 : Int) == 1⟩ := ⟨_, rfl⟩
          have HSV := Lib.hid (show gsv S = .agg #[.int .i64 (i64n n0), .bool ((n1 : Int) == 1), .bool xb, .int .i64 xn, .string xs, .bool yb, .int .i64 yn, .string ys, .int .i64 (vzag (n4 : Int)), .bool ((n5 : Int) == 1)] by rw [hS]; rfl)
          have HMAY := Lib.hid (fun (W : World) (hW : Below w.heap.size w W) => rmay17_any k S W (Utf8Tabs_below HU.out hW) (by rw [hS]; exact Nat.le_trans HSX.out (by unfold maxLen; omega)) (by rw [hS]; exact Nat.le_trans HSY.out (by unfold maxLen; omega)))
          have hin : S.inInt := by
            rw [hS]
            obtain ⟨q, hq1, hq2⟩ := HN0.out
            obtain ⟨q2, hq3, hq4⟩ := HN4.out
            have hz := vzag_bd (u := (n4 : Int)) (by omega) (by omega)
            exact ⟨by show _ ≤ i64n n0; unfold i64n; split <;> omega, by show i64n n0 ≤ _; unfold i64n; split <;> omega, HIX.out, HIY.out, hz.1, hz.2⟩
          have HPUT := Lib.hid (fun (W : World) => rputG_any S W hin (by rw [hS]; exact HSX.out) (by rw [hS]; exact HSY.out))
          rw [HSV.out] at HMAY HPUT
          have HSO := Lib.hid (show ftakeG k b = if fputG S = b ∧ gmayE k S = true then some S else none by rw [HGO.out, HX2.out, HX3.out, hS, eq_one, eq_one]; rfl)
          have HW6 := Lib.hid hw6
          have HHY := Lib.hid hhy
          clear hby hb6 hry h56 h36 hw6 hhy hS hin
          go_wp2_with fail
          rw [← HW6.out, ← HHX.out, ← HHY.out]
          refine wp_region_list_tail 24 [.is (.slice (some ad) 6 tc), .is (.pointer (some (ad.add (0 * 4)))), .is (.pointer (some ⟨(ad.add (0 * 4)).block, (ad.add (0 * 4)).off + 2, none⟩)), .is (.int .u64 (n0 : Int)), .is (.int .i64 (i64n n0)), .is (.slice (some ad) 6 tc), .is (.pointer (some (ad.add (1 * 4)))), .is (.pointer (some ⟨(ad.add (1 * 4)).block, (ad.add (1 * 4)).off + 2, none⟩)), .is (.int .u64 (n1 : Int)), .is (.bool ((n1 : Int) == 1)), .is (.agg #[.bool xb, .int .i64 xn, .string xs]), .is (.agg #[.bool yb, .int .i64 yn, .string ys]), .is (.slice (some ad) 6 tc), .is (.pointer (some (ad.add (4 * 4)))), .is (.pointer (some ⟨(ad.add (4 * 4)).block, (ad.add (4 * 4)).off + 2, none⟩)), .is (.int .u64 (n4 : Int)), .is (.int .i64 (vzag (n4 : Int))), .is (.slice (some ad) 6 tc), .is (.pointer (some (ad.add (5 * 4)))), .is (.pointer (some ⟨(ad.add (5 * 4)).block, (ad.add (5 * 4)).off + 2, none⟩)), .is (.int .u64 (n5 : Int)), .is (.bool ((n5 : Int) == 1)), .is (.agg #[.int .i64 (i64n n0), .bool ((n1 : Int) == 1), .bool xb, .int .i64 xn, .string xs, .bool yb, .int .i64 yn, .string ys, .int .i64 (vzag (n4 : Int)), .bool ((n5 : Int) == 1)]), Fact.madeS w6.heap.size] [some 50, some 51, some 52, some 53, some 54, some 55, some 56, some 57, some 58, some 59, some 60, some 61, some 62, some 63, some 64, some 65, some 66, some 67, some 68, some 69, some 70, some 71, some 72, some 11] (by kernel_rfl) (by kernel_rfl) (by kernel_rfl) (by kernel_rfl) rfl ⟨?_, ?_, ?_, ?_, ?_, ?_, ?_, ?_, ?_, ?_, ?_, ?_, ?_, ?_, ?_, ?_, ?_, ?_, ?_, ?_, ?_, ?_, ?_, ?_, trivial⟩ ?_
          · intro ρ W1 hb1 H
            exact gives_move rfl (H.old 6 _ (by kernel_rfl) rfl) ⟨rfl, Below.refl _ _⟩
          · intro ρ W1 hb1 H
            exact gives_index_wide (k := 0) Tryd.underlying28 rfield_size rfl (H.new 50 0 (by kernel_rfl)) (H.const _) (by omega) ⟨rfl, Below.refl _ _⟩
          · intro ρ W1 hb1 H
            exact gives_field rfl (H.new 51 1 (by kernel_rfl)) (fun W => rfield_at2 W (ad.add (0 * 4))) ⟨rfl, Below.refl _ _⟩
          · intro ρ W1 hb1 H
            exact gives_load rfl (H.new 52 2 (by kernel_rfl)) Tryd.underlying47 rfl ((hb1.cell (p := ⟨(ad.add (0 * 4)).block, (ad.add (0 * 4)).off + 2, none⟩) HLT0.out).trans HC0.out) ⟨rfl, Below.refl _ _⟩
          · intro ρ W1 hb1 H
            exact gives_conv rfl (H.new 53 3 (by kernel_rfl)) (by kernel_rfl) Tryd.underlying3 (by rw [IntKind.wrap_i64]; obtain ⟨q, hq1, hq2⟩ := HN0.out; unfold i64n; split <;> omega) ⟨rfl, Below.refl _ _⟩
          · intro ρ W1 hb1 H
            exact gives_move rfl (H.old 6 _ (by kernel_rfl) rfl) ⟨rfl, Below.refl _ _⟩
          · intro ρ W1 hb1 H
            exact gives_index_wide (k := 1) Tryd.underlying28 rfield_size rfl (H.new 55 5 (by kernel_rfl)) (H.const _) (by omega) ⟨rfl, Below.refl _ _⟩
          · intro ρ W1 hb1 H
            exact gives_field rfl (H.new 56 6 (by kernel_rfl)) (fun W => rfield_at2 W (ad.add (1 * 4))) ⟨rfl, Below.refl _ _⟩
          · intro ρ W1 hb1 H
            exact gives_load rfl (H.new 57 7 (by kernel_rfl)) Tryd.underlying47 rfl ((hb1.cell (p := ⟨(ad.add (1 * 4)).block, (ad.add (1 * 4)).off + 2, none⟩) HLT1.out).trans HC1.out) ⟨rfl, Below.refl _ _⟩
          · intro ρ W1 hb1 H
            exact gives_inteq rfl (H.new 58 8 (by kernel_rfl)) (H.const _) ⟨rfl, Below.refl _ _⟩
          · intro ρ W1 hb1 H
            exact gives_load_row (cs := [.bool xb, .int .i64 xn, .string xs]) rfl (H.old 9 _ (by kernel_rfl) rfl) Tryd.underlying32 rfl fvalI_size (HRX.out.below hb1 HRX.out.lt) ⟨rfl, Below.refl _ _⟩
          · intro ρ W1 hb1 H
            exact gives_load_row (cs := [.bool yb, .int .i64 yn, .string ys]) rfl (H.old 10 _ (by kernel_rfl) rfl) Tryd.underlying32 rfl fvalI_size (HRY.out.below hb1 HRY.out.lt) ⟨rfl, Below.refl _ _⟩
          · intro ρ W1 hb1 H
            exact gives_move rfl (H.old 6 _ (by kernel_rfl) rfl) ⟨rfl, Below.refl _ _⟩
          · intro ρ W1 hb1 H
            exact gives_index_wide (k := 4) Tryd.underlying28 rfield_size rfl (H.new 62 12 (by kernel_rfl)) (H.const _) (by omega) ⟨rfl, Below.refl _ _⟩
          · intro ρ W1 hb1 H
            exact gives_field rfl (H.new 63 13 (by kernel_rfl)) (fun W => rfield_at2 W (ad.add (4 * 4))) ⟨rfl, Below.refl _ _⟩
          · intro ρ W1 hb1 H
            exact gives_load rfl (H.new 64 14 (by kernel_rfl)) Tryd.underlying47 rfl ((hb1.cell (p := ⟨(ad.add (4 * 4)).block, (ad.add (4 * 4)).off + 2, none⟩) HLT4.out).trans HC4.out) ⟨rfl, Below.refl _ _⟩
          · intro ρ W1 hb1 H
            have e0 : ρ (.tmp 65) = .int .u64 (n4 : Int) := H.new 65 15 (by kernel_rfl)
            refine gives_call rfl (fun _ _ => by kernel_rfl) (H.func _) (args := #[.int .u64 (n4 : Int)]) (by simp [e0]) ?_
            exact (rzag_any (n4 : Int) W1 (by omega) (by obtain ⟨q, hq1, hq2⟩ := HN4.out; omega)).mono fun e w' ⟨h1, h2⟩ => ⟨_, h1, rfl, h2 ▸ Below.refl _ _⟩
          · intro ρ W1 hb1 H
            exact gives_move rfl (H.old 6 _ (by kernel_rfl) rfl) ⟨rfl, Below.refl _ _⟩
          · intro ρ W1 hb1 H
            exact gives_index_wide (k := 5) Tryd.underlying28 rfield_size rfl (H.new 67 17 (by kernel_rfl)) (H.const _) (by omega) ⟨rfl, Below.refl _ _⟩
          · intro ρ W1 hb1 H
            exact gives_field rfl (H.new 68 18 (by kernel_rfl)) (fun W => rfield_at2 W (ad.add (5 * 4))) ⟨rfl, Below.refl _ _⟩
          · intro ρ W1 hb1 H
            exact gives_load rfl (H.new 69 19 (by kernel_rfl)) Tryd.underlying47 rfl ((hb1.cell (p := ⟨(ad.add (5 * 4)).block, (ad.add (5 * 4)).off + 2, none⟩) HLT5.out).trans HC5.out) ⟨rfl, Below.refl _ _⟩
          · intro ρ W1 hb1 H
            exact gives_inteq rfl (H.new 70 20 (by kernel_rfl)) (H.const _) ⟨rfl, Below.refl _ _⟩
          · intro ρ W1 hb1 H
            have e1 : ρ (.tmp 54) = .int .i64 (i64n n0) := (H.new 54 4 (by kernel_rfl))
            have e2 : ρ (.tmp 59) = .bool ((n1 : Int) == 1) := (H.new 59 9 (by kernel_rfl))
            have e3 : ρ (.tmp 60) = .agg #[.bool xb, .int .i64 xn, .string xs] := (H.new 60 10 (by kernel_rfl))
            have e4 : ρ (.tmp 61) = .agg #[.bool yb, .int .i64 yn, .string ys] := (H.new 61 11 (by kernel_rfl))
            have e5 : ρ (.tmp 66) = .int .i64 (vzag (n4 : Int)) := (H.new 66 16 (by kernel_rfl))
            have e6 : ρ (.tmp 71) = .bool ((n5 : Int) == 1) := (H.new 71 21 (by kernel_rfl))
            refine gives_of (v := .agg #[.int .i64 (i64n n0), .bool ((n1 : Int) == 1), .bool xb, .int .i64 xn, .string xs, .bool yb, .int .i64 yn, .string ys, .int .i64 (vzag (n4 : Int)), .bool ((n5 : Int) == 1)]) (w' := W1) ?_ ⟨rfl, Below.refl _ _⟩
            simp [execOp, e1, e2, e3, e4, e5, e6, sbuild_all]
          · intro ρ W1 hb1 H
            obtain ⟨i, hi1, hi2⟩ := stats_infoF
            exact gives_alloc hi1 hi2 rfl ⟨⟨_, rfl, hb1.size, heap_alloc_new W1 _⟩, (Below.refl _ _).alloc (Nat.le_refl _) _⟩
          · intro vs W1 hb1 hfs
            have f22 : vs 22 = .agg #[.int .i64 (i64n n0), .bool ((n1 : Int) == 1), .bool xb, .int .i64 xn, .string xs, .bool yb, .int .i64 yn, .string ys, .int .i64 (vzag (n4 : Int)), .bool ((n5 : Int) == 1)] := hfs 22 (by decide)
            have f23 : ∃ h, vs 23 = .pointer (some ⟨h, 0, none⟩) ∧ w6.heap.size ≤ h ∧ Row W1 h 36 [.int .i64 0, .bool false, .bool false, .int .i64 0, .string ⟨#[]⟩, .bool false, .int .i64 0, .string ⟨#[]⟩, .int .i64 0, .bool false] := hfs 23 (by decide)
            clear hfs
            simp only [putAll, Nat.zero_add, Nat.reduceAdd, List.drop_succ_cons, List.drop_zero]
            generalize vs 0 = z0
            generalize vs 1 = z1
            generalize vs 2 = z2
            generalize vs 3 = z3
            generalize vs 4 = z4
            generalize vs 5 = z5
            generalize vs 6 = z6
            generalize vs 7 = z7
            generalize vs 8 = z8
            generalize vs 9 = z9
            generalize vs 10 = z10
            generalize vs 11 = z11
            generalize vs 12 = z12
            generalize vs 13 = z13
            generalize vs 14 = z14
            generalize vs 15 = z15
            generalize vs 16 = z16
            generalize vs 17 = z17
            generalize vs 18 = z18
            generalize vs 19 = z19
            generalize vs 20 = z20
            generalize vs 21 = z21
            generalize vs 23 = z23 at f23 ⊢
            simp only [f22, Act.put, List.setIfInBounds_toArray, List.set_cons_succ, List.set_cons_zero]
            clear f22
            obtain ⟨h, rfl, hh, hrh⟩ := f23
            have HRH := Lib.hid hrh
            have HB7 := Lib.hid (below_then HB6.out hb1)
            have HRG7 := Lib.hid (HRG6.out.below hb1 HRG6.out.lt)
            have hgh : w.heap.size ≤ h := Nat.le_trans HB6.out.size hh
            have HNE := Lib.hid (show w.heap.size ≠ h by have := HRG6.out.lt; omega)
            clear hrh hb1 hh
            go_wp2_with (refine wpList_storeW rfl _ _ _ rfl h 0 36 [.int .i64 0, .bool false, .bool false, .int .i64 0, .string ⟨#[]⟩, .bool false, .int .i64 0, .string ⟨#[]⟩, .int .i64 0, .bool false] [.int .i64 (i64n n0), .bool ((n1 : Int) == 1), .bool xb, .int .i64 xn, .string xs, .bool yb, .int .i64 yn, .string ys, .int .i64 (vzag (n4 : Int)), .bool ((n5 : Int) == 1)] [.int .i64 (i64n n0), .bool ((n1 : Int) == 1), .bool xb, .int .i64 xn, .string xs, .bool yb, .int .i64 yn, .string ys, .int .i64 (vzag (n4 : Int)), .bool ((n5 : Int) == 1)] rfl rfl rfl HRH.out fstI_size (Nat.le_refl _) (oneCell_stats _ _ _ _ _ _ _ _ _ _) w w.heap.size HB7.out hgh ?_)
            intro w8 hr8 hb8 hk8
            have HR8 := Lib.hid hr8
            have HB8 := Lib.hid hb8
            have HRG8 := Lib.hid (hk8 w.heap.size _ _ HNE.out HRG7.out)
            have hr10 := hr8
            have e0 : w8.cell? ⟨h, 0, none⟩ = some (.int .i64 (i64n n0)) := hr10.cell 0
            have e1 : w8.cell? ⟨h, 1, none⟩ = some (.bool ((n1 : Int) == 1)) := hr10.cell 1
            have e2 : w8.cell? ⟨h, 2, none⟩ = some (.bool xb) := hr10.cell 2
            have e3 : w8.cell? ⟨h, 3, none⟩ = some (.int .i64 xn) := hr10.cell 3
            have e4 : w8.cell? ⟨h, 4, none⟩ = some (.string xs) := hr10.cell 4
            have e5 : w8.cell? ⟨h, 5, none⟩ = some (.bool yb) := hr10.cell 5
            have e6 : w8.cell? ⟨h, 6, none⟩ = some (.int .i64 yn) := hr10.cell 6
            have e7 : w8.cell? ⟨h, 7, none⟩ = some (.string ys) := hr10.cell 7
            have e8 : w8.cell? ⟨h, 8, none⟩ = some (.int .i64 (vzag (n4 : Int))) := hr10.cell 8
            have e9 : w8.cell? ⟨h, 9, none⟩ = some (.bool ((n5 : Int) == 1)) := hr10.cell 9
            clear hr8 hb8 hk8 hr10
            go_wp2_with fail
            clear e0 e1 e2 e3 e4 e5 e6 e7 e8 e9
            refine (HMAY.out w8 HB8.out).mono ?_
            rintro e w10 ⟨rfl, hb10⟩
            have HB10 := Lib.hid (below_then HB8.out hb10)
            have HRG10 := Lib.hid (HRG8.out.below hb10 HRG8.out.lt)
            have HR10 := Lib.hid (HR8.out.below hb10 HR8.out.lt)
            clear hb10
            cases hq : (fputG S == b) with
            | false =>
              have HQ := Lib.hid hq
              have HNOE := Lib.hid (show ftakeG k b = none by rw [HSO.out, if_neg (fun hh => by rw [hh.1] at hq; simp at hq)])
              clear hq
              go_wp2_with fail
              refine wp_region_list [.is (.agg #[.int .i64 (i64n n0), .bool ((n1 : Int) == 1), .bool xb, .int .i64 xn, .string xs, .bool yb, .int .i64 yn, .string ys, .int .i64 (vzag (n4 : Int)), .bool ((n5 : Int) == 1)]), .bytes (fputG S), .is (.string ⟨(fputG S).toArray⟩), .bytes (b), .is (.string ⟨(b).toArray⟩), .is (.bool true), .is (.bool true), .any, .any, .is (.bool true)] [some 76, some 77, some 78, some 79, some 80, some 81, some 82, some 83, some 84, some 85] (by kernel_rfl) (by kernel_rfl) (by kernel_rfl) rfl ⟨?_, ?_, ?_, ?_, ?_, ?_, ?_, ?_, ?_, ?_, trivial⟩ ?_
              · intro ρ W1 hb1 H
                exact gives_load_row (cs := [.int .i64 (i64n n0), .bool ((n1 : Int) == 1), .bool xb, .int .i64 xn, .string xs, .bool yb, .int .i64 yn, .string ys, .int .i64 (vzag (n4 : Int)), .bool ((n5 : Int) == 1)]) rfl (H.old 11 _ (by kernel_rfl) rfl) Tryd.underlying36 rfl fstI_size (HR10.out.below hb1 HR10.out.lt) ⟨rfl, Below.refl _ _⟩
              · intro ρ W1 hb1 H
                have e0 : ρ (.tmp 76) = .agg #[.int .i64 (i64n n0), .bool ((n1 : Int) == 1), .bool xb, .int .i64 xn, .string xs, .bool yb, .int .i64 yn, .string ys, .int .i64 (vzag (n4 : Int)), .bool ((n5 : Int) == 1)] := H.new 76 0 (by kernel_rfl)
                refine gives_call rfl (fun _ _ => by kernel_rfl) (H.func _) (args := #[.agg #[.int .i64 (i64n n0), .bool ((n1 : Int) == 1), .bool xb, .int .i64 xn, .string xs, .bool yb, .int .i64 yn, .string ys, .int .i64 (vzag (n4 : Int)), .bool ((n5 : Int) == 1)]]) (by simp [e0]) ?_
                exact (HPUT.out W1).mono fun e w' ⟨u, h1, h2, h3⟩ => ⟨u, h1, h2, h3⟩
              · intro ρ W1 hb1 H
                have hB : IsB (fputG S) (ρ (.tmp 77)) W1 := H.new 77 1 (by kernel_rfl)
                exact gives_convert rfl rfl (hB.text _ _ _ Tryd.underlying22 Tryd.underlying5 Tryd.underlying9) ⟨rfl, Below.refl _ _⟩
              · intro ρ W1 hb1 H
                exact gives_move rfl (H.old 1 _ (by kernel_rfl) rfl) ⟨IsV.below (f := bv) HV0.out (below_then HB10.out hb1), Below.refl _ _⟩
              · intro ρ W1 hb1 H
                have hB : IsB (b) (ρ (.tmp 79)) W1 := H.new 79 3 (by kernel_rfl)
                exact gives_convert rfl rfl (hB.text _ _ _ Tryd.underlying22 Tryd.underlying5 Tryd.underlying9) ⟨rfl, Below.refl _ _⟩
              · intro ρ W1 hb1 H
                have hB0 : ρ (.tmp 78) = .string ⟨(fputG S).toArray⟩ := H.new 78 2 (by kernel_rfl)
                have hB1 : ρ (.tmp 80) = .string ⟨(b).toArray⟩ := H.new 80 4 (by kernel_rfl)
                exact gives_textne (a := fputG S) (b := b) rfl hB0 hB1 ⟨by show Value.bool (!(fputG S == b)) = _; rw [HQ.out]; rfl, Below.refl _ _⟩
              · intro ρ W1 hb1 H
                exact gives_move rfl (H.new 81 5 (by kernel_rfl)) ⟨rfl, Below.refl _ _⟩
              · intro ρ W1 hb1 H d hd
                have hd' : (some 82 : Option Tmp) = some d := hd
                injection hd' with hd'
                subst hd'
                exact ⟨(fun hh => by cases hh.symm.trans (H.new 82 6 (by kernel_rfl))), fun _ => trivial⟩
              · intro ρ W1 hb1 H d hd
                have hd' : (some 82 : Option Tmp) = some d := hd
                injection hd' with hd'
                subst hd'
                exact ⟨(fun hh => by cases hh.symm.trans (H.new 82 6 (by kernel_rfl))), fun _ => trivial⟩
              · intro ρ W1 hb1 H
                exact gives_pick_t rfl (H.new 82 6 (by kernel_rfl)) (H.const _) ⟨rfl, Below.refl _ _⟩
              · intro vs W1 hb1 hfs
                have f9 : vs 9 = .bool true := hfs 9 (by decide)
                clear hfs
                simp only [putAll, Nat.zero_add, Nat.reduceAdd]
                generalize vs 0 = z0
                generalize vs 1 = z1
                generalize vs 2 = z2
                generalize vs 3 = z3
                generalize vs 4 = z4
                generalize vs 5 = z5
                generalize vs 6 = z6
                generalize vs 7 = z7
                generalize vs 8 = z8
                simp only [f9, Act.put, List.setIfInBounds_toArray, List.set_cons_succ, List.set_cons_zero]
                clear f9
                have HB11 := Lib.hid (below_then HB10.out hb1)
                have HRG11 := Lib.hid (HRG10.out.below hb1 HRG10.out.lt)
                clear hb1
                go_wp2_with (refine wpList_storeW rfl _ _ _ rfl w.heap.size 0 36 [.int .i64 0, .bool false, .bool false, .int .i64 0, .string ⟨#[]⟩, .bool false, .int .i64 0, .string ⟨#[]⟩, .int .i64 0, .bool false] [.int .i64 0, .bool false, .bool false, .int .i64 0, .string ⟨#[]⟩, .bool false, .int .i64 0, .string ⟨#[]⟩, .int .i64 0, .bool false] [.int .i64 0, .bool false, .bool false, .int .i64 0, .string ⟨#[]⟩, .bool false, .int .i64 0, .string ⟨#[]⟩, .int .i64 0, .bool false] rfl rfl rfl HRG11.out fstI_size (Nat.le_refl _) (by decide) w w.heap.size HB11.out (Nat.le_refl _) ?_)
                intro w9 hr9 hb9 _
                have HR9 := Lib.hid hr9
                have HB9 := Lib.hid hb9
                clear hr9 hb9 
                go_wp2
                refine bodyPost_ret (results_row_tmp rfl _ _ w.heap.size _ _ (0, 0) _ _ rfl HR9.out Tryd.underlying36 rfl fstI_size rfl) rfl ?_
                rw [HNOE.out]
                exact ⟨rfl, HB9.out⟩
            | true =>
              have HQ := Lib.hid hq
              have hqb : fputG S = b := by simpa using hq
              cases hmy : gmayE k S with
              | false =>
                have HNOE := Lib.hid (show ftakeG k b = none by rw [HSO.out, if_neg (fun hh => by rw [hmy] at hh; simp at hh)])
                clear hq hmy hqb
                go_wp2_with fail
                refine wp_region_list [.is (.agg #[.int .i64 (i64n n0), .bool ((n1 : Int) == 1), .bool xb, .int .i64 xn, .string xs, .bool yb, .int .i64 yn, .string ys, .int .i64 (vzag (n4 : Int)), .bool ((n5 : Int) == 1)]), .bytes (fputG S), .is (.string ⟨(fputG S).toArray⟩), .bytes (b), .is (.string ⟨(b).toArray⟩), .is (.bool false), .is (.bool false), .is (.bool false), .is (.bool true), .is (.bool true)] [some 76, some 77, some 78, some 79, some 80, some 81, some 82, some 83, some 84, some 85] (by kernel_rfl) (by kernel_rfl) (by kernel_rfl) rfl ⟨?_, ?_, ?_, ?_, ?_, ?_, ?_, ?_, ?_, ?_, trivial⟩ ?_
                · intro ρ W1 hb1 H
                  exact gives_load_row (cs := [.int .i64 (i64n n0), .bool ((n1 : Int) == 1), .bool xb, .int .i64 xn, .string xs, .bool yb, .int .i64 yn, .string ys, .int .i64 (vzag (n4 : Int)), .bool ((n5 : Int) == 1)]) rfl (H.old 11 _ (by kernel_rfl) rfl) Tryd.underlying36 rfl fstI_size (HR10.out.below hb1 HR10.out.lt) ⟨rfl, Below.refl _ _⟩
                · intro ρ W1 hb1 H
                  have e0 : ρ (.tmp 76) = .agg #[.int .i64 (i64n n0), .bool ((n1 : Int) == 1), .bool xb, .int .i64 xn, .string xs, .bool yb, .int .i64 yn, .string ys, .int .i64 (vzag (n4 : Int)), .bool ((n5 : Int) == 1)] := H.new 76 0 (by kernel_rfl)
                  refine gives_call rfl (fun _ _ => by kernel_rfl) (H.func _) (args := #[.agg #[.int .i64 (i64n n0), .bool ((n1 : Int) == 1), .bool xb, .int .i64 xn, .string xs, .bool yb, .int .i64 yn, .string ys, .int .i64 (vzag (n4 : Int)), .bool ((n5 : Int) == 1)]]) (by simp [e0]) ?_
                  exact (HPUT.out W1).mono fun e w' ⟨u, h1, h2, h3⟩ => ⟨u, h1, h2, h3⟩
                · intro ρ W1 hb1 H
                  have hB : IsB (fputG S) (ρ (.tmp 77)) W1 := H.new 77 1 (by kernel_rfl)
                  exact gives_convert rfl rfl (hB.text _ _ _ Tryd.underlying22 Tryd.underlying5 Tryd.underlying9) ⟨rfl, Below.refl _ _⟩
                · intro ρ W1 hb1 H
                  exact gives_move rfl (H.old 1 _ (by kernel_rfl) rfl) ⟨IsV.below (f := bv) HV0.out (below_then HB10.out hb1), Below.refl _ _⟩
                · intro ρ W1 hb1 H
                  have hB : IsB (b) (ρ (.tmp 79)) W1 := H.new 79 3 (by kernel_rfl)
                  exact gives_convert rfl rfl (hB.text _ _ _ Tryd.underlying22 Tryd.underlying5 Tryd.underlying9) ⟨rfl, Below.refl _ _⟩
                · intro ρ W1 hb1 H
                  have hB0 : ρ (.tmp 78) = .string ⟨(fputG S).toArray⟩ := H.new 78 2 (by kernel_rfl)
                  have hB1 : ρ (.tmp 80) = .string ⟨(b).toArray⟩ := H.new 80 4 (by kernel_rfl)
                  exact gives_textne (a := fputG S) (b := b) rfl hB0 hB1 ⟨by show Value.bool (!(fputG S == b)) = _; rw [HQ.out]; rfl, Below.refl _ _⟩
                · intro ρ W1 hb1 H
                  exact gives_move rfl (H.new 81 5 (by kernel_rfl)) ⟨rfl, Below.refl _ _⟩
                · intro ρ W1 hb1 H d hd
                  have hd' : (some 82 : Option Tmp) = some d := hd
                  injection hd' with hd'
                  subst hd'
                  refine ⟨fun _ => ?_, fun hne => absurd (H.new 82 6 (by kernel_rfl)) hne⟩
                  exact gives_move rfl (H.old 12 _ (by kernel_rfl) rfl) ⟨rfl, Below.refl _ _⟩
                · intro ρ W1 hb1 H d hd
                  have hd' : (some 82 : Option Tmp) = some d := hd
                  injection hd' with hd'
                  subst hd'
                  refine ⟨fun _ => ?_, fun hne => absurd (H.new 82 6 (by kernel_rfl)) hne⟩
                  have e1 : ρ (.tmp 83) = .bool false := H.new 83 7 (by kernel_rfl)
                  exact gives_notF (b := false) rfl e1 ⟨rfl, Below.refl _ _⟩
                · intro ρ W1 hb1 H
                  exact gives_pick_f rfl (H.new 82 6 (by kernel_rfl)) (H.new 84 8 (by kernel_rfl)) ⟨rfl, Below.refl _ _⟩
                · intro vs W1 hb1 hfs
                  have f9 : vs 9 = .bool true := hfs 9 (by decide)
                  clear hfs
                  simp only [putAll, Nat.zero_add, Nat.reduceAdd]
                  generalize vs 0 = z0
                  generalize vs 1 = z1
                  generalize vs 2 = z2
                  generalize vs 3 = z3
                  generalize vs 4 = z4
                  generalize vs 5 = z5
                  generalize vs 6 = z6
                  generalize vs 7 = z7
                  generalize vs 8 = z8
                  simp only [f9, Act.put, List.setIfInBounds_toArray, List.set_cons_succ, List.set_cons_zero]
                  clear f9
                  have HB11 := Lib.hid (below_then HB10.out hb1)
                  have HRG11 := Lib.hid (HRG10.out.below hb1 HRG10.out.lt)
                  clear hb1
                  go_wp2_with (refine wpList_storeW rfl _ _ _ rfl w.heap.size 0 36 [.int .i64 0, .bool false, .bool false, .int .i64 0, .string ⟨#[]⟩, .bool false, .int .i64 0, .string ⟨#[]⟩, .int .i64 0, .bool false] [.int .i64 0, .bool false, .bool false, .int .i64 0, .string ⟨#[]⟩, .bool false, .int .i64 0, .string ⟨#[]⟩, .int .i64 0, .bool false] [.int .i64 0, .bool false, .bool false, .int .i64 0, .string ⟨#[]⟩, .bool false, .int .i64 0, .string ⟨#[]⟩, .int .i64 0, .bool false] rfl rfl rfl HRG11.out fstI_size (Nat.le_refl _) (by decide) w w.heap.size HB11.out (Nat.le_refl _) ?_)
                  intro w9 hr9 hb9 _
                  have HR9 := Lib.hid hr9
                  have HB9 := Lib.hid hb9
                  clear hr9 hb9 
                  go_wp2
                  refine bodyPost_ret (results_row_tmp rfl _ _ w.heap.size _ _ (0, 0) _ _ rfl HR9.out Tryd.underlying36 rfl fstI_size rfl) rfl ?_
                  rw [HNOE.out]
                  exact ⟨rfl, HB9.out⟩
              | true =>
                have HYES := Lib.hid (show ftakeG k b = some S by rw [HSO.out, if_pos ⟨hqb, hmy⟩])
                clear hq hmy hqb
                go_wp2_with fail
                refine wp_region_list [.is (.agg #[.int .i64 (i64n n0), .bool ((n1 : Int) == 1), .bool xb, .int .i64 xn, .string xs, .bool yb, .int .i64 yn, .string ys, .int .i64 (vzag (n4 : Int)), .bool ((n5 : Int) == 1)]), .bytes (fputG S), .is (.string ⟨(fputG S).toArray⟩), .bytes (b), .is (.string ⟨(b).toArray⟩), .is (.bool false), .is (.bool false), .is (.bool true), .is (.bool false), .is (.bool false)] [some 76, some 77, some 78, some 79, some 80, some 81, some 82, some 83, some 84, some 85] (by kernel_rfl) (by kernel_rfl) (by kernel_rfl) rfl ⟨?_, ?_, ?_, ?_, ?_, ?_, ?_, ?_, ?_, ?_, trivial⟩ ?_
                · intro ρ W1 hb1 H
                  exact gives_load_row (cs := [.int .i64 (i64n n0), .bool ((n1 : Int) == 1), .bool xb, .int .i64 xn, .string xs, .bool yb, .int .i64 yn, .string ys, .int .i64 (vzag (n4 : Int)), .bool ((n5 : Int) == 1)]) rfl (H.old 11 _ (by kernel_rfl) rfl) Tryd.underlying36 rfl fstI_size (HR10.out.below hb1 HR10.out.lt) ⟨rfl, Below.refl _ _⟩
                · intro ρ W1 hb1 H
                  have e0 : ρ (.tmp 76) = .agg #[.int .i64 (i64n n0), .bool ((n1 : Int) == 1), .bool xb, .int .i64 xn, .string xs, .bool yb, .int .i64 yn, .string ys, .int .i64 (vzag (n4 : Int)), .bool ((n5 : Int) == 1)] := H.new 76 0 (by kernel_rfl)
                  refine gives_call rfl (fun _ _ => by kernel_rfl) (H.func _) (args := #[.agg #[.int .i64 (i64n n0), .bool ((n1 : Int) == 1), .bool xb, .int .i64 xn, .string xs, .bool yb, .int .i64 yn, .string ys, .int .i64 (vzag (n4 : Int)), .bool ((n5 : Int) == 1)]]) (by simp [e0]) ?_
                  exact (HPUT.out W1).mono fun e w' ⟨u, h1, h2, h3⟩ => ⟨u, h1, h2, h3⟩
                · intro ρ W1 hb1 H
                  have hB : IsB (fputG S) (ρ (.tmp 77)) W1 := H.new 77 1 (by kernel_rfl)
                  exact gives_convert rfl rfl (hB.text _ _ _ Tryd.underlying22 Tryd.underlying5 Tryd.underlying9) ⟨rfl, Below.refl _ _⟩
                · intro ρ W1 hb1 H
                  exact gives_move rfl (H.old 1 _ (by kernel_rfl) rfl) ⟨IsV.below (f := bv) HV0.out (below_then HB10.out hb1), Below.refl _ _⟩
                · intro ρ W1 hb1 H
                  have hB : IsB (b) (ρ (.tmp 79)) W1 := H.new 79 3 (by kernel_rfl)
                  exact gives_convert rfl rfl (hB.text _ _ _ Tryd.underlying22 Tryd.underlying5 Tryd.underlying9) ⟨rfl, Below.refl _ _⟩
                · intro ρ W1 hb1 H
                  have hB0 : ρ (.tmp 78) = .string ⟨(fputG S).toArray⟩ := H.new 78 2 (by kernel_rfl)
                  have hB1 : ρ (.tmp 80) = .string ⟨(b).toArray⟩ := H.new 80 4 (by kernel_rfl)
                  exact gives_textne (a := fputG S) (b := b) rfl hB0 hB1 ⟨by show Value.bool (!(fputG S == b)) = _; rw [HQ.out]; rfl, Below.refl _ _⟩
                · intro ρ W1 hb1 H
                  exact gives_move rfl (H.new 81 5 (by kernel_rfl)) ⟨rfl, Below.refl _ _⟩
                · intro ρ W1 hb1 H d hd
                  have hd' : (some 82 : Option Tmp) = some d := hd
                  injection hd' with hd'
                  subst hd'
                  refine ⟨fun _ => ?_, fun hne => absurd (H.new 82 6 (by kernel_rfl)) hne⟩
                  exact gives_move rfl (H.old 12 _ (by kernel_rfl) rfl) ⟨rfl, Below.refl _ _⟩
                · intro ρ W1 hb1 H d hd
                  have hd' : (some 82 : Option Tmp) = some d := hd
                  injection hd' with hd'
                  subst hd'
                  refine ⟨fun _ => ?_, fun hne => absurd (H.new 82 6 (by kernel_rfl)) hne⟩
                  have e1 : ρ (.tmp 83) = .bool true := H.new 83 7 (by kernel_rfl)
                  exact gives_notF (b := true) rfl e1 ⟨rfl, Below.refl _ _⟩
                · intro ρ W1 hb1 H
                  exact gives_pick_f rfl (H.new 82 6 (by kernel_rfl)) (H.new 84 8 (by kernel_rfl)) ⟨rfl, Below.refl _ _⟩
                · intro vs W1 hb1 hfs
                  have f9 : vs 9 = .bool false := hfs 9 (by decide)
                  clear hfs
                  simp only [putAll, Nat.zero_add, Nat.reduceAdd]
                  generalize vs 0 = z0
                  generalize vs 1 = z1
                  generalize vs 2 = z2
                  generalize vs 3 = z3
                  generalize vs 4 = z4
                  generalize vs 5 = z5
                  generalize vs 6 = z6
                  generalize vs 7 = z7
                  generalize vs 8 = z8
                  simp only [f9, Act.put, List.setIfInBounds_toArray, List.set_cons_succ, List.set_cons_zero]
                  clear f9
                  have HB11 := Lib.hid (below_then HB10.out hb1)
                  have HRG11 := Lib.hid (HRG10.out.below hb1 HRG10.out.lt)
                  have hr10 := HR10.out.below hb1 HR10.out.lt
                  have e0 : W1.cell? ⟨h, 0, none⟩ = some (.int .i64 (i64n n0)) := hr10.cell 0
                  have e1 : W1.cell? ⟨h, 1, none⟩ = some (.bool ((n1 : Int) == 1)) := hr10.cell 1
                  have e2 : W1.cell? ⟨h, 2, none⟩ = some (.bool xb) := hr10.cell 2
                  have e3 : W1.cell? ⟨h, 3, none⟩ = some (.int .i64 xn) := hr10.cell 3
                  have e4 : W1.cell? ⟨h, 4, none⟩ = some (.string xs) := hr10.cell 4
                  have e5 : W1.cell? ⟨h, 5, none⟩ = some (.bool yb) := hr10.cell 5
                  have e6 : W1.cell? ⟨h, 6, none⟩ = some (.int .i64 yn) := hr10.cell 6
                  have e7 : W1.cell? ⟨h, 7, none⟩ = some (.string ys) := hr10.cell 7
                  have e8 : W1.cell? ⟨h, 8, none⟩ = some (.int .i64 (vzag (n4 : Int))) := hr10.cell 8
                  have e9 : W1.cell? ⟨h, 9, none⟩ = some (.bool ((n5 : Int) == 1)) := hr10.cell 9
                  clear hb1 hr10
                  go_wp2_with (refine wpList_storeW rfl _ _ _ rfl w.heap.size 0 36 [.int .i64 0, .bool false, .bool false, .int .i64 0, .string ⟨#[]⟩, .bool false, .int .i64 0, .string ⟨#[]⟩, .int .i64 0, .bool false] [.int .i64 (i64n n0), .bool ((n1 : Int) == 1), .bool xb, .int .i64 xn, .string xs, .bool yb, .int .i64 yn, .string ys, .int .i64 (vzag (n4 : Int)), .bool ((n5 : Int) == 1)] [.int .i64 (i64n n0), .bool ((n1 : Int) == 1), .bool xb, .int .i64 xn, .string xs, .bool yb, .int .i64 yn, .string ys, .int .i64 (vzag (n4 : Int)), .bool ((n5 : Int) == 1)] rfl rfl rfl HRG11.out fstI_size (Nat.le_refl _) (oneCell_stats _ _ _ _ _ _ _ _ _ _) w w.heap.size HB11.out (Nat.le_refl _) ?_)
                  intro w9 hr9 hb9 _
                  have HR9 := Lib.hid hr9
                  have HB9 := Lib.hid hb9
                  clear hr9 hb9 e0 e1 e2 e3 e4 e5 e6 e7 e8 e9
                  go_wp2
                  refine bodyPost_ret (results_row_tmp rfl _ _ w.heap.size _ _ (0, 0) _ _ rfl HR9.out Tryd.underlying36 rfl fstI_size rfl) rfl ?_
                  rw [HYES.out]
                  exact ⟨by rw [HSV.out]; rfl, HB9.out⟩
end Go.Proofs.YtocodcceimeiiaaDoor
