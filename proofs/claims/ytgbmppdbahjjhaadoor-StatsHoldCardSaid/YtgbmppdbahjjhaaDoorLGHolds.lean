
/- The statement StatsHold: for any kind and any values the law answers true. No condition. Written by gen_gholds.py. -/

import Derived.StillTailTactics
import Derived.Test.YtgbmppdbahjjhaaDoorG4
namespace Go.Proofs.YtgbmppdbahjjhaaDoor

open Go.RowKit Go.ChangeShapes Go.WideShapes Go.ChangeAt

theorem cv_size : ∀ W, (sizeOf 26).run Tryd.prog W = .ok 3 W := Tryd.sizeOf26
theorem stats_at2 (W : World) (g : Nat) : (Instr.fieldAt 28 (.pointer (some ⟨g, 0, none⟩)) 2).run Tryd.prog W = .ok (.pointer (some ⟨g, 2, none⟩)) W := by kernel_rfl
theorem stats_at3 (W : World) (g : Nat) : (Instr.fieldAt 28 (.pointer (some ⟨g, 0, none⟩)) 3).run Tryd.prog W = .ok (.pointer (some ⟨g, 5, none⟩)) W := by kernel_rfl
theorem gives_gtG {P : Program} {o : Oper} {ρ : Operand → Value} {w : World} {R : Value → World → Prop} {t t' : TypeId} {k : IntKind} {x y : Operand} {a b : Int} (ho : o.op = .binOp .gtr t x y t') (hx : ρ x = .int k a) (hy : ρ y = .int k b) (hR : R (.bool (decide (b < a))) w) : Gives P o ρ w R := by
  refine gives_of (v := .bool (decide (b < a))) (w' := w) ?_ hR
  simp [execOp, ho, hx, hy, go_sem, eqGuard]
theorem gives_eqV {o : Oper} {ρ : Operand → Value} {w : World} {R : Value → World → Prop} {x y : Operand} {a b : CV} (ho : o.op = .binOp .eql 26 x y 26) (hx : ρ x = cv a) (hy : ρ y = cv b)
    (hR : R (.bool (cvEq a b)) w) : Gives Tryd.prog o ρ w R := by
  refine gives_of (v := .bool (cvEq a b)) (w' := w) ?_ hR
  have hg := run_eqGuard_agg (P := Tryd.prog) w .eql 26 x y #[.bool a.null, .int .i64 a.n, .string a.s] #[.bool b.null, .int .i64 b.n, .string b.s] (by kernel_rfl)
  have hq := run_eql_struct (P := Tryd.prog) w 26 #[.bool a.null, .int .i64 a.n, .string a.s] #[.bool b.null, .int .i64 b.n, .string b.s]
  have he := eqV 9998 a b w
  unfold cv at he hx hy
  rw [he] at hq
  simp [execOp, ho, hx, hy, hg, hq]
theorem wide_at {l : List CV} {ad : Addr} {n c : Nat} {W : World} {x : CV} {k : Nat} (hx : ∀ hk : k < l.length, x = l[k]) (h : IsR kcells l (.slice (some ad) n c) W) (hk : k < l.length) : ∀ q v, (kcells x)[q]? = some v → W.cell? ((ad.add (k * 3)).add q) = some v := by
  obtain ⟨ad', hA, _, hc⟩ := h.at (m := 3) (fun _ => rfl) (by omega) hk
  injection hA with hA
  subst hA
  intro q v hq
  have hq3 : q < 3 := (List.getElem?_eq_some_iff.1 hq).1
  rw [add_add, hc q hq3, ← hx hk]
  exact hq
theorem row_at {W : World} {g : Nat} {t : TypeId} {cs : List Value} {x : CV} (h : Row W g t cs) (off : Nat) (hx : ∀ q, q < 3 → cs[off + q]? = (kcells x)[q]?) : ∀ q v, (kcells x)[q]? = some v → W.cell? ((⟨g, off, none⟩ : Addr).add q) = some v := by
  intro q v hq
  have hq3 : q < 3 := (List.getElem?_eq_some_iff.1 hq).1
  have ha : (⟨g, off, none⟩ : Addr).add q = ⟨g, off + q, none⟩ := by
    unfold Addr.add
    split
    · rename_i h0; subst h0; rfl
    · rfl
  rw [ha, h.cell, hx q hq3]
  exact hq
theorem nsome_take {l : List CV} {j : Nat} (h : j < l.length) : nsome (l.take (j + 1)) = if l[j].null then nsome (l.take j) else nsome (l.take j) ++ [l[j]] := by
  unfold nsome
  rw [List.take_succ_eq_append_getElem h, List.filter_append]
  cases hn : l[j].null <;> simp [hn]
def GHoldRel (m : List CV) (mn mx : CV) (w5 : World) (nv lv mv i : Value) (wr : World) : Prop :=
  ∃ j : Nat, j ≤ m.length ∧ i = .int .i64 (j : Int) ∧ nv = .int .i64 ((nsome (m.take j)).length : Int) ∧ lv = .bool ((nsome (m.take j)).any fun x => cvEq x mn) ∧ mv = .bool ((nsome (m.take j)).any fun x => cvEq x mx) ∧ Below w5.heap.size w5 wr
theorem any_self {m : List CV} {x : CV} (h : m ≠ [] → x ∈ m) : m.any (fun y => cvEq y x) = decide ((0 : Int) < (m.length : Int)) := by
  cases m with
  | nil => rfl
  | cons a m =>
    rw [decide_eq_true (by simp)]
    exact List.any_eq_true.2 ⟨x, h (by simp), cvEq_self x⟩
theorem null_ends {m : List CV} {x : CV} (h : m ≠ [] → x ∈ m) (hm : ∀ y ∈ m, y.null = false) (h0 : m = [] → x = nul) : x.null = decide ((m.length : Int) = 0) := by
  cases m with
  | nil => rw [h0 rfl]; rfl
  | cons a m =>
    rw [hm x (h (by simp)), decide_eq_false (by simp; omega)]
theorem has_null (m : List CV) : m.any (·.null) = decide (((nsome m).length : Int) < (m.length : Int)) := by
  induction m with
  | nil => rfl
  | cons a m ih =>
    have hle := nsome_len m
    rw [List.any_cons, ih]
    unfold nsome
    cases ha : a.null with
    | true =>
      have e : (List.filter (fun v => !v.null) (a :: m)).length = (List.filter (fun v => !v.null) m).length := by simp [ha]
      rw [e, Bool.true_or]
      unfold nsome at hle
      rw [decide_eq_true (by simp; omega)]
    | false =>
      have e : (List.filter (fun v => !v.null) (a :: m)).length = (List.filter (fun v => !v.null) m).length + 1 := by simp [ha]
      rw [e, Bool.false_or, List.length_cons]
      congr 1
      rw [eq_iff_iff]
      omega
set_option maxHeartbeats 8000000 in
set_option maxRecDepth 100000 in
theorem StatsHold_walk (w : World) (hU : Tryd.U8 w) (k : Int) (_hk0 : -9223372036854775808 ≤ k) (_hk1 : k ≤ 9223372036854775807) (v1 : Value) (l1 : List CV) (hI1 : IsR kcells l1 v1 w) (hi1 : ∀ x ∈ l1, x.inInt) (hs1 : ∀ x ∈ l1, x.s.size ≤ maxLen) :
    Calls Tryd.prog 6 #[.int .i64 k, v1] w fun e w' => e = .returned (.bool true) ∧ Below w.heap.size w w' := by
  have HU := Lib.hid hU
  have HV := Lib.hid hI1
  obtain ⟨m, hm⟩ : ∃ m, m = gfew k (l1.take 300) := ⟨_, rfl⟩
  have mi : ∀ x ∈ m, x.inInt := fun x hx => hi1 x (gfew_mem (by rw [← hm]; exact hx)).1
  have ms : ∀ x ∈ m, x.s.size ≤ maxLen := fun x hx => hs1 x (gfew_mem (by rw [← hm]; exact hx)).1
  have mm : ∀ x ∈ m, kmay k x = true := fun x hx => (gfew_mem (by rw [← hm]; exact hx)).2
  have ml : m.length ≤ 300 := by rw [hm]; exact gfew_len k l1
  have HF1 := Lib.hid (fun X (hX : Tryd.U8 X) (h : IsR kcells l1 v1 X) => few17_any k l1 v1 X hX h hs1)
  rw [← hm] at HF1
  have HA := Lib.hid (fun u X (hX : Tryd.U8 X) (h : IsR kcells m u X) => gof_any k m u X hX h mi ms mm (by omega))
  have HML := Lib.hid ml
  obtain ⟨G, hG⟩ : ∃ G, G = gofE k m := ⟨_, rfl⟩
  have hc : G.count = ((nsome m).length : Int) := by rw [hG]; rfl
  have hh : G.has = decide (((nsome m).length : Int) < (m.length : Int)) := by rw [hG]; exact has_null m
  have hmn : G.min = gleast (nsome m) := by rw [hG]; rfl
  have hmx : G.max = gmost (nsome m) := by rw [hG]; rfl
  rw [← hG] at HA
  clear mi ms mm ml hm hG hI1 hi1 hs1 hU _hk0 _hk1
  obtain ⟨gc, gh, ⟨gmb, gmn, gms⟩, ⟨gxb, gxn, gxs⟩, gsm, go⟩ := G
  dsimp only at hc hh hmn hmx
  have HLOW : Hid (∀ x ∈ nsome m, ¬ kcmp x ⟨gmb, gmn, gms⟩ < 0) := Lib.hid (fun x hx => by
    have h1 := (gleast_is (List.ne_nil_of_mem hx)).2 x hx
    have h2 := kcmp_neg x (gleast (nsome m))
    rw [hmn]; omega)
  have HHIGH : Hid (∀ x ∈ nsome m, ¬ 0 < kcmp x ⟨gxb, gxn, gxs⟩) := Lib.hid (fun x hx => by
    have h1 := (gmost_is (List.ne_nil_of_mem hx)).2 x hx
    rw [hmx]; omega)
  have HL1 : Hid ((nsome m).any (fun x => cvEq x ⟨gmb, gmn, gms⟩) = decide ((0 : Int) < ((nsome m).length : Int))) := Lib.hid (any_self fun h => by rw [hmn]; exact (gleast_is h).1)
  have HM1 : Hid ((nsome m).any (fun x => cvEq x ⟨gxb, gxn, gxs⟩) = decide ((0 : Int) < ((nsome m).length : Int))) := Lib.hid (any_self fun h => by rw [hmx]; exact (gmost_is h).1)
  have HE1 : Hid (gmb = decide (((nsome m).length : Int) = 0)) := Lib.hid (null_ends (x := ⟨gmb, gmn, gms⟩) (fun h => by rw [hmn]; exact (gleast_is h).1) nsome_null (fun h => by rw [hmn, h]; rfl))
  have HE2 : Hid (gxb = decide (((nsome m).length : Int) = 0)) := Lib.hid (null_ends (x := ⟨gxb, gxn, gxs⟩) (fun h => by rw [hmx]; exact (gmost_is h).1) nsome_null (fun h => by rw [hmx, h]; rfl))
  have HC := Lib.hid hc
  have HH := Lib.hid hh
  clear hc hh hmn hmx
  unfold gsv gcells at HA
  dsimp only at HA
  have HS0 := Lib.hid (shown17_any w HU.out)
  go_enter Tryd.func6, Tryd.ntmps6
  go_wp2_with fail
  refine HS0.out.mono ?_
  rintro e w1 ⟨rfl, hb1⟩
  have HB1 := Lib.hid hb1
  have HU1 := Lib.hid (Utf8Tabs_below HU.out hb1)
  have HV1 := Lib.hid (HV.out.below hb1)
  clear hb1
  go_wp2_with fail
  refine (HF1.out w1 HU1.out HV1.out).mono ?_
  rintro e w2 ⟨⟨u1, rfl, hu1⟩, hb2⟩
  have HB2 := Lib.hid (below_then HB1.out hb2)
  have HU2 := Lib.hid (Utf8Tabs_below HU1.out hb2)
  have HW2 := Lib.hid hu1
  clear hu1 hb2
  go_wp2_with fail
  refine (HA.out u1 w2 HU2.out HW2.out).mono ?_
  rintro e w4 ⟨rfl, hb4⟩
  have HB4 := Lib.hid (below_then HB2.out hb4)
  have HW4 := Lib.hid (HW2.out.below hb4)
  clear hb4
  obtain ⟨n, hn⟩ : ∃ n, n = m.length := ⟨_, rfl⟩
  obtain ⟨A, n', c, rfl⟩ := HW4.out.shape
  have hn' := HW4.out.parts.1
  rw [← hn] at hn'
  subst hn'
  have HN := Lib.hid hn
  have hn3 : n ≤ 300 := by rw [hn]; exact HML.out
  obtain ⟨X4, hX4⟩ : ∃ X4, X4 = w4.alloc (.cells #[.int .i64 gc, .bool gh, .bool gmb, .int .i64 gmn, .string gms, .bool gxb, .int .i64 gxn, .string gxs, .int .i64 gsm, .bool go] 28) := ⟨_, rfl⟩
  have hbn4 : Below w4.heap.size w4 X4 := by rw [hX4]; exact (Below.refl _ _).alloc (Nat.le_refl _) _
  have RS4 : Hid (Row X4 w4.heap.size 28 [.int .i64 gc, .bool gh, .bool gmb, .int .i64 gmn, .string gms, .bool gxb, .int .i64 gxn, .string gxs, .int .i64 gsm, .bool go]) := Lib.hid (by rw [hX4]; exact heap_alloc_new w4 _)
  have HBX4 := Lib.hid (below_then HB4.out hbn4)
  have HWX4 := Lib.hid (HW4.out.below hbn4)
  have HST := Lib.hid (show GHoldRel m ⟨gmb, gmn, gms⟩ ⟨gxb, gxn, gxs⟩ X4 (.int .i64 0) (.bool false) (.bool false) (.int .i64 0) X4 from ⟨0, Nat.zero_le _, rfl, rfl, rfl, rfl, Below.refl _ _⟩)
  have HXS := Lib.hid hX4
  clear hbn4 hn
  go_wp2
  rw [← HXS.out]
  go_loopw [7, 8, 9, 10] (GHoldRel m ⟨gmb, gmn, gms⟩ ⟨gxb, gxn, gxs⟩ X4) (fun _ _ _ i _ => n - (intOf i).toNat)
  case atStart => exact HST.out
  case round =>
    obtain ⟨j, hj, rfl, rfl, rfl, rfl, hbw⟩ := hrel
    have HBW := Lib.hid hbw
    have hjn0 : j ≤ n := by rw [HN.out]; exact hj
    obtain ⟨cn, hcn⟩ : ∃ cn, cn = (nsome (m.take j)).length := ⟨_, rfl⟩
    obtain ⟨lb, hlb⟩ : ∃ lb, lb = (nsome (m.take j)).any (fun x => cvEq x ⟨gmb, gmn, gms⟩) := ⟨_, rfl⟩
    obtain ⟨mb, hmb⟩ : ∃ mb, mb = (nsome (m.take j)).any (fun x => cvEq x ⟨gxb, gxn, gxs⟩) := ⟨_, rfl⟩
    have hcn3 : cn ≤ j := by rw [hcn]; exact Nat.le_trans (nsome_len _) (by rw [List.length_take]; omega)
    have HCN := Lib.hid hcn
    have HLB := Lib.hid hlb
    have HMB := Lib.hid hmb
    have HRS := Lib.hid (RS4.out.below hbw RS4.out.lt)
    have HMW := Lib.hid (fun X (h : Below wr.heap.size wr X) => (HWX4.out.below hbw).below h)
    rw [← hcn, ← hlb, ← hmb]
    clear hcn hlb hmb hj hbw
    by_cases hlt : j < n
    · have hjl : j < m.length := by rw [← HN.out]; exact hlt
      have hlti : (j : Int) < (n : Int) := by omega
      obtain ⟨ad, rfl, had, hcell⟩ := (HMW.out wr (Below.refl _ _)).at (m := 3) (fun _ => rfl) (by omega) hjl
      obtain ⟨x, hx⟩ : ∃ x, x = m[j] := ⟨_, rfl⟩
      have HX : Hid (∀ hk : j < m.length, x = m[j]) := Lib.hid (fun _ => hx)
      have HTK := Lib.hid (nsome_take hjl)
      rw [← hx] at hcell HTK
      have hxm : x.null = false → x ∈ nsome m := fun h => by
        unfold nsome
        exact List.mem_filter.2 ⟨by rw [hx]; exact List.getElem_mem hjl, by rw [h]; rfl⟩
      have HXL : Hid (x.null = false → decide (kcmp x ⟨gmb, gmn, gms⟩ < 0) = false) := Lib.hid (fun h => decide_eq_false (by have h2 := HLOW.out x (hxm h); omega))
      have HXH : Hid (x.null = false → decide (0 < kcmp x ⟨gxb, gxn, gxs⟩) = false) := Lib.hid (fun h => decide_eq_false (by have h2 := HHIGH.out x (hxm h); omega))
      obtain ⟨k0, _, _⟩ := cells3 hcell
      obtain ⟨xb, xn, xs⟩ := x
      dsimp only at k0
      clear hcell hx hxm had
      cases xb with
      | true =>
        have HTK2 := Lib.hid (show nsome (m.take (j + 1)) = nsome (m.take j) by rw [HTK.out]; rfl)
        go_wp2
        go_roundw
        case rel => exact ⟨j + 1, hjl, by go_num, by rw [HTK2.out, ← HCN.out], by rw [HTK2.out, ← HLB.out], by rw [HTK2.out, ← HMB.out], HBW.out⟩
        case measure => simp [intOf]; omega
      | false =>
        have HTK2 := Lib.hid (show nsome (m.take (j + 1)) = nsome (m.take j) ++ [⟨false, xn, xs⟩] by rw [HTK.out]; rfl)
        have HLT := Lib.hid (HXL.out rfl)
        have HGT := Lib.hid (HXH.out rfl)
        obtain ⟨ql, hql⟩ : ∃ q, q = cvEq ⟨false, xn, xs⟩ ⟨gmb, gmn, gms⟩ := ⟨_, rfl⟩
        obtain ⟨qm, hqm⟩ : ∃ q, q = cvEq ⟨false, xn, xs⟩ ⟨gxb, gxn, gxs⟩ := ⟨_, rfl⟩
        have HREL : Hid (∀ wz, Below wr.heap.size wr wz → GHoldRel m ⟨gmb, gmn, gms⟩ ⟨gxb, gxn, gxs⟩ X4 (.int .i64 ((cn : Int) + 1)) (.bool (lb || ql)) (.bool (mb || qm)) (.int .i64 ((j : Int) + 1)) wz) := Lib.hid (fun wz hz =>
          ⟨j + 1, hjl, by go_num, by rw [HTK2.out, List.length_append, ← HCN.out]; rfl, by rw [HTK2.out, List.any_append, ← HLB.out]; simp [hql], by rw [HTK2.out, List.any_append, ← HMB.out]; simp [hqm], below_then HBW.out hz⟩)
        have HQL := Lib.hid hql
        have HQM := Lib.hid hqm
        clear hql hqm
        have HBZ0 := Lib.hid (Below.refl wr.heap.size wr)
        cases lb with
        | true =>
          go_wp2_with fail
          refine wp_region_list [.is (.bool true), .is (.bool true), .any, .any, .any, .any, .any, .any, .any, .is (.bool true), .is (.bool true)] [some 31, some 32, some 33, some 34, some 35, some 36, some 37, some 38, some 39, some 40, some 8] (by kernel_rfl) (by kernel_rfl) (by kernel_rfl) rfl ⟨?_, ?_, ?_, ?_, ?_, ?_, ?_, ?_, ?_, ?_, ?_, trivial⟩ ?_
          · intro ρ W1 hb1 H
            exact gives_move rfl (H.old 8 _ (by kernel_rfl) rfl) ⟨rfl, Below.refl _ _⟩
          · intro ρ W1 hb1 H
            exact gives_move rfl (H.new 31 0 (by kernel_rfl)) ⟨rfl, Below.refl _ _⟩
          · intro ρ W1 hb1 H d hd
            have hd' : (some 32 : Option Tmp) = some d := hd
            injection hd' with hd'
            subst hd'
            exact ⟨(fun hh => by cases hh.symm.trans (H.new 32 1 (by kernel_rfl))), fun _ => trivial⟩
          · intro ρ W1 hb1 H d hd
            have hd' : (some 32 : Option Tmp) = some d := hd
            injection hd' with hd'
            subst hd'
            exact ⟨(fun hh => by cases hh.symm.trans (H.new 32 1 (by kernel_rfl))), fun _ => trivial⟩
          · intro ρ W1 hb1 H d hd
            have hd' : (some 32 : Option Tmp) = some d := hd
            injection hd' with hd'
            subst hd'
            exact ⟨(fun hh => by cases hh.symm.trans (H.new 32 1 (by kernel_rfl))), fun _ => trivial⟩
          · intro ρ W1 hb1 H d hd
            have hd' : (some 32 : Option Tmp) = some d := hd
            injection hd' with hd'
            subst hd'
            exact ⟨(fun hh => by cases hh.symm.trans (H.new 32 1 (by kernel_rfl))), fun _ => trivial⟩
          · intro ρ W1 hb1 H d hd
            have hd' : (some 32 : Option Tmp) = some d := hd
            injection hd' with hd'
            subst hd'
            exact ⟨(fun hh => by cases hh.symm.trans (H.new 32 1 (by kernel_rfl))), fun _ => trivial⟩
          · intro ρ W1 hb1 H d hd
            have hd' : (some 32 : Option Tmp) = some d := hd
            injection hd' with hd'
            subst hd'
            exact ⟨(fun hh => by cases hh.symm.trans (H.new 32 1 (by kernel_rfl))), fun _ => trivial⟩
          · intro ρ W1 hb1 H d hd
            have hd' : (some 32 : Option Tmp) = some d := hd
            injection hd' with hd'
            subst hd'
            exact ⟨(fun hh => by cases hh.symm.trans (H.new 32 1 (by kernel_rfl))), fun _ => trivial⟩
          · intro ρ W1 hb1 H
            exact gives_pick_t rfl (H.new 32 1 (by kernel_rfl)) (H.const _) ⟨rfl, Below.refl _ _⟩
          · intro ρ W1 hb1 H
            exact gives_assign rfl (H.new 40 9 (by kernel_rfl)) ⟨rfl, Below.refl _ _⟩
          · intro vs W1 hb1 hfs
            have f10 : vs 10 = .bool true := hfs 10 (by decide)
            clear hfs
            simp only [putAll, Nat.zero_add, Nat.reduceAdd]
            generalize vs 0 = z0
            generalize vs 1 = z1
            generalize vs 2 = z2
            generalize vs 3 = z3
            generalize vs 4 = z4
            generalize vs 5 = z5
            generalize vs 6 = z6
            generalize vs 7 = z7
            generalize vs 8 = z8
            generalize vs 9 = z9
            simp only [f10, Act.put, List.setIfInBounds_toArray, List.set_cons_succ, List.set_cons_zero]
            clear f10
            obtain ⟨w12, hw12⟩ : ∃ w12, w12 = W1 := ⟨_, rfl⟩
            rw [← hw12] at hb1 ⊢
            have HBZ12 := Lib.hid (HBZ0.out.trans (hb1.mono HBZ0.out.size))
            have HRS := Lib.hid (HRS.out.below hb1 HRS.out.lt)
            have HMW := Lib.hid (fun X (h : Below w12.heap.size w12 X) => HMW.out X (hb1.trans (h.mono hb1.size)))
            clear hb1 hw12
            cases mb with
            | true =>
              go_wp2_with fail
              refine wp_region_list [.is (.bool true), .is (.bool true), .any, .any, .any, .any, .any, .any, .any, .is (.bool true), .is (.bool true)] [some 41, some 42, some 43, some 44, some 45, some 46, some 47, some 48, some 49, some 50, some 9] (by kernel_rfl) (by kernel_rfl) (by kernel_rfl) rfl ⟨?_, ?_, ?_, ?_, ?_, ?_, ?_, ?_, ?_, ?_, ?_, trivial⟩ ?_
              · intro ρ W1 hb1 H
                exact gives_move rfl (H.old 9 _ (by kernel_rfl) rfl) ⟨rfl, Below.refl _ _⟩
              · intro ρ W1 hb1 H
                exact gives_move rfl (H.new 41 0 (by kernel_rfl)) ⟨rfl, Below.refl _ _⟩
              · intro ρ W1 hb1 H d hd
                have hd' : (some 42 : Option Tmp) = some d := hd
                injection hd' with hd'
                subst hd'
                exact ⟨(fun hh => by cases hh.symm.trans (H.new 42 1 (by kernel_rfl))), fun _ => trivial⟩
              · intro ρ W1 hb1 H d hd
                have hd' : (some 42 : Option Tmp) = some d := hd
                injection hd' with hd'
                subst hd'
                exact ⟨(fun hh => by cases hh.symm.trans (H.new 42 1 (by kernel_rfl))), fun _ => trivial⟩
              · intro ρ W1 hb1 H d hd
                have hd' : (some 42 : Option Tmp) = some d := hd
                injection hd' with hd'
                subst hd'
                exact ⟨(fun hh => by cases hh.symm.trans (H.new 42 1 (by kernel_rfl))), fun _ => trivial⟩
              · intro ρ W1 hb1 H d hd
                have hd' : (some 42 : Option Tmp) = some d := hd
                injection hd' with hd'
                subst hd'
                exact ⟨(fun hh => by cases hh.symm.trans (H.new 42 1 (by kernel_rfl))), fun _ => trivial⟩
              · intro ρ W1 hb1 H d hd
                have hd' : (some 42 : Option Tmp) = some d := hd
                injection hd' with hd'
                subst hd'
                exact ⟨(fun hh => by cases hh.symm.trans (H.new 42 1 (by kernel_rfl))), fun _ => trivial⟩
              · intro ρ W1 hb1 H d hd
                have hd' : (some 42 : Option Tmp) = some d := hd
                injection hd' with hd'
                subst hd'
                exact ⟨(fun hh => by cases hh.symm.trans (H.new 42 1 (by kernel_rfl))), fun _ => trivial⟩
              · intro ρ W1 hb1 H d hd
                have hd' : (some 42 : Option Tmp) = some d := hd
                injection hd' with hd'
                subst hd'
                exact ⟨(fun hh => by cases hh.symm.trans (H.new 42 1 (by kernel_rfl))), fun _ => trivial⟩
              · intro ρ W1 hb1 H
                exact gives_pick_t rfl (H.new 42 1 (by kernel_rfl)) (H.const _) ⟨rfl, Below.refl _ _⟩
              · intro ρ W1 hb1 H
                exact gives_assign rfl (H.new 50 9 (by kernel_rfl)) ⟨rfl, Below.refl _ _⟩
              · intro vs W1 hb1 hfs
                have f10 : vs 10 = .bool true := hfs 10 (by decide)
                clear hfs
                simp only [putAll, Nat.zero_add, Nat.reduceAdd]
                generalize vs 0 = z0
                generalize vs 1 = z1
                generalize vs 2 = z2
                generalize vs 3 = z3
                generalize vs 4 = z4
                generalize vs 5 = z5
                generalize vs 6 = z6
                generalize vs 7 = z7
                generalize vs 8 = z8
                generalize vs 9 = z9
                simp only [f10, Act.put, List.setIfInBounds_toArray, List.set_cons_succ, List.set_cons_zero]
                clear f10
                obtain ⟨w13, hw13⟩ : ∃ w13, w13 = W1 := ⟨_, rfl⟩
                rw [← hw13] at hb1 ⊢
                have HBZ13 := Lib.hid (HBZ12.out.trans (hb1.mono HBZ12.out.size))
                have HRS := Lib.hid (HRS.out.below hb1 HRS.out.lt)
                have HMW := Lib.hid (fun X (h : Below w13.heap.size w13 X) => HMW.out X (hb1.trans (h.mono hb1.size)))
                clear hb1 hw13
                go_wp2_with fail
                refine wp_region_list [.is (.slice (some ad) n c), .is (.int .i64 (j : Int)), .is (.pointer (some (ad.add (j * 3)))), .is (cv ⟨false, xn, xs⟩), .is (.pointer (some ⟨w4.heap.size, 2, none⟩)), .is (cv ⟨gmb, gmn, gms⟩), .is (.int .i64 (kcmp ⟨false, xn, xs⟩ ⟨gmb, gmn, gms⟩)), .is (.bool false), .is (.bool false), .is (.slice (some ad) n c), .is (.int .i64 (j : Int)), .is (.pointer (some (ad.add (j * 3)))), .is (cv ⟨false, xn, xs⟩), .is (.pointer (some ⟨w4.heap.size, 5, none⟩)), .is (cv ⟨gxb, gxn, gxs⟩), .is (.int .i64 (kcmp ⟨false, xn, xs⟩ ⟨gxb, gxn, gxs⟩)), .is (.bool false), .is (.bool false)] [some 51, some 52, some 53, some 54, some 55, some 56, some 57, some 58, some 59, some 60, some 61, some 62, some 63, some 64, some 65, some 66, some 67, some 68] (by kernel_rfl) (by kernel_rfl) (by kernel_rfl) rfl ⟨?_, ?_, ?_, ?_, ?_, ?_, ?_, ?_, ?_, ?_, ?_, ?_, ?_, ?_, ?_, ?_, ?_, ?_, trivial⟩ ?_
                · intro ρ W1 hb1 H
                  exact gives_move rfl (H.old 1 _ (by kernel_rfl) rfl) ⟨rfl, Below.refl _ _⟩
                · intro ρ W1 hb1 H
                  exact gives_move rfl (H.old 10 _ (by kernel_rfl) rfl) ⟨rfl, Below.refl _ _⟩
                · intro ρ W1 hb1 H
                  exact gives_index_wide (k := j) Tryd.underlying22 cv_size rfl (H.new 51 0 (by kernel_rfl)) (H.new 52 1 (by kernel_rfl)) (by omega) ⟨rfl, Below.refl _ _⟩
                · intro ρ W1 hb1 H
                  exact gives_load_wide (cs := kcells ⟨false, xn, xs⟩) rfl (H.new 53 2 (by kernel_rfl)) Tryd.underlying26 rfl cv_size (wide_at HX.out (HMW.out W1 hb1) hjl) ⟨rfl, Below.refl _ _⟩
                · intro ρ W1 hb1 H
                  exact gives_field rfl (H.old 6 _ (by kernel_rfl) rfl) (fun W => stats_at2 W w4.heap.size) ⟨rfl, Below.refl _ _⟩
                · intro ρ W1 hb1 H
                  exact gives_load_wide (cs := kcells ⟨gmb, gmn, gms⟩) rfl (H.new 55 4 (by kernel_rfl)) Tryd.underlying26 rfl cv_size (row_at (HRS.out.below hb1 HRS.out.lt) 2 (by intro q hq; rcases (by omega : q = 0 ∨ q = 1 ∨ q = 2) with rfl | rfl | rfl <;> rfl)) ⟨rfl, Below.refl _ _⟩
                · intro ρ W1 hb1 H
                  have e0 : ρ (.tmp 54) = cv ⟨false, xn, xs⟩ := H.new 54 3 (by kernel_rfl)
                  have e1 : ρ (.tmp 56) = cv ⟨gmb, gmn, gms⟩ := H.new 56 5 (by kernel_rfl)
                  refine gives_call rfl (fun _ _ => by kernel_rfl) (H.func _) (args := #[cv ⟨false, xn, xs⟩, cv ⟨gmb, gmn, gms⟩]) (by simp [e0, e1]) ?_
                  exact (rcmp12_any ⟨false, xn, xs⟩ ⟨gmb, gmn, gms⟩ W1).mono fun e w' ⟨h1, h2⟩ => ⟨_, h1, rfl, h2⟩
                · intro ρ W1 hb1 H
                  exact gives_lt rfl (H.new 57 6 (by kernel_rfl)) (H.const _) ⟨congrArg Value.bool HLT.out, Below.refl _ _⟩
                · intro ρ W1 hb1 H
                  exact gives_move rfl (H.new 58 7 (by kernel_rfl)) ⟨rfl, Below.refl _ _⟩
                · intro ρ W1 hb1 H d hd
                  have hd' : (some 59 : Option Tmp) = some d := hd
                  injection hd' with hd'
                  subst hd'
                  refine ⟨fun _ => ?_, fun hne => absurd (H.new 59 8 (by kernel_rfl)) hne⟩
                  exact gives_move rfl (H.old 1 _ (by kernel_rfl) rfl) ⟨rfl, Below.refl _ _⟩
                · intro ρ W1 hb1 H d hd
                  have hd' : (some 59 : Option Tmp) = some d := hd
                  injection hd' with hd'
                  subst hd'
                  refine ⟨fun _ => ?_, fun hne => absurd (H.new 59 8 (by kernel_rfl)) hne⟩
                  exact gives_move rfl (H.old 10 _ (by kernel_rfl) rfl) ⟨rfl, Below.refl _ _⟩
                · intro ρ W1 hb1 H d hd
                  have hd' : (some 59 : Option Tmp) = some d := hd
                  injection hd' with hd'
                  subst hd'
                  refine ⟨fun _ => ?_, fun hne => absurd (H.new 59 8 (by kernel_rfl)) hne⟩
                  exact gives_index_wide (k := j) Tryd.underlying22 cv_size rfl (H.new 60 9 (by kernel_rfl)) (H.new 61 10 (by kernel_rfl)) (by omega) ⟨rfl, Below.refl _ _⟩
                · intro ρ W1 hb1 H d hd
                  have hd' : (some 59 : Option Tmp) = some d := hd
                  injection hd' with hd'
                  subst hd'
                  refine ⟨fun _ => ?_, fun hne => absurd (H.new 59 8 (by kernel_rfl)) hne⟩
                  exact gives_load_wide (cs := kcells ⟨false, xn, xs⟩) rfl (H.new 62 11 (by kernel_rfl)) Tryd.underlying26 rfl cv_size (wide_at HX.out (HMW.out W1 hb1) hjl) ⟨rfl, Below.refl _ _⟩
                · intro ρ W1 hb1 H d hd
                  have hd' : (some 59 : Option Tmp) = some d := hd
                  injection hd' with hd'
                  subst hd'
                  refine ⟨fun _ => ?_, fun hne => absurd (H.new 59 8 (by kernel_rfl)) hne⟩
                  exact gives_field rfl (H.old 6 _ (by kernel_rfl) rfl) (fun W => stats_at3 W w4.heap.size) ⟨rfl, Below.refl _ _⟩
                · intro ρ W1 hb1 H d hd
                  have hd' : (some 59 : Option Tmp) = some d := hd
                  injection hd' with hd'
                  subst hd'
                  refine ⟨fun _ => ?_, fun hne => absurd (H.new 59 8 (by kernel_rfl)) hne⟩
                  exact gives_load_wide (cs := kcells ⟨gxb, gxn, gxs⟩) rfl (H.new 64 13 (by kernel_rfl)) Tryd.underlying26 rfl cv_size (row_at (HRS.out.below hb1 HRS.out.lt) 5 (by intro q hq; rcases (by omega : q = 0 ∨ q = 1 ∨ q = 2) with rfl | rfl | rfl <;> rfl)) ⟨rfl, Below.refl _ _⟩
                · intro ρ W1 hb1 H d hd
                  have hd' : (some 59 : Option Tmp) = some d := hd
                  injection hd' with hd'
                  subst hd'
                  refine ⟨fun _ => ?_, fun hne => absurd (H.new 59 8 (by kernel_rfl)) hne⟩
                  have e0 : ρ (.tmp 63) = cv ⟨false, xn, xs⟩ := H.new 63 12 (by kernel_rfl)
                  have e1 : ρ (.tmp 65) = cv ⟨gxb, gxn, gxs⟩ := H.new 65 14 (by kernel_rfl)
                  refine gives_call rfl (fun _ _ => by kernel_rfl) (H.func _) (args := #[cv ⟨false, xn, xs⟩, cv ⟨gxb, gxn, gxs⟩]) (by simp [e0, e1]) ?_
                  exact (rcmp12_any ⟨false, xn, xs⟩ ⟨gxb, gxn, gxs⟩ W1).mono fun e w' ⟨h1, h2⟩ => ⟨_, h1, rfl, h2⟩
                · intro ρ W1 hb1 H d hd
                  have hd' : (some 59 : Option Tmp) = some d := hd
                  injection hd' with hd'
                  subst hd'
                  refine ⟨fun _ => ?_, fun hne => absurd (H.new 59 8 (by kernel_rfl)) hne⟩
                  exact gives_gtG rfl (H.new 66 15 (by kernel_rfl)) (H.const _) ⟨congrArg Value.bool HGT.out, Below.refl _ _⟩
                · intro ρ W1 hb1 H
                  exact gives_pick_f rfl (H.new 59 8 (by kernel_rfl)) (H.new 67 16 (by kernel_rfl)) ⟨rfl, Below.refl _ _⟩
                · intro vs W1 hb1 hfs
                  have f17 : vs 17 = .bool false := hfs 17 (by decide)
                  clear hfs
                  simp only [putAll, Nat.zero_add, Nat.reduceAdd]
                  generalize vs 0 = z0
                  generalize vs 1 = z1
                  generalize vs 2 = z2
                  generalize vs 3 = z3
                  generalize vs 4 = z4
                  generalize vs 5 = z5
                  generalize vs 6 = z6
                  generalize vs 7 = z7
                  generalize vs 8 = z8
                  generalize vs 9 = z9
                  generalize vs 10 = z10
                  generalize vs 11 = z11
                  generalize vs 12 = z12
                  generalize vs 13 = z13
                  generalize vs 14 = z14
                  generalize vs 15 = z15
                  generalize vs 16 = z16
                  simp only [f17, Act.put, List.setIfInBounds_toArray, List.set_cons_succ, List.set_cons_zero]
                  clear f17
                  have HZ := Lib.hid (HBZ13.out.trans (hb1.mono HBZ13.out.size))
                  have HRF := Lib.hid (HREL.out W1 HZ.out)
                  clear hb1
                  go_wp2
                  go_roundw
                  case rel => exact HRF.out
                  case measure => simp [intOf]; omega
            | false =>
              go_wp2_with fail
              refine wp_region_list [.is (.bool false), .is (.bool false), .is (.slice (some ad) n c), .is (.int .i64 (j : Int)), .is (.pointer (some (ad.add (j * 3)))), .is (cv ⟨false, xn, xs⟩), .is (.pointer (some ⟨w4.heap.size, 5, none⟩)), .is (cv ⟨gxb, gxn, gxs⟩), .is (.bool (cvEq ⟨false, xn, xs⟩ ⟨gxb, gxn, gxs⟩)), .is (.bool (cvEq ⟨false, xn, xs⟩ ⟨gxb, gxn, gxs⟩)), .is (.bool (cvEq ⟨false, xn, xs⟩ ⟨gxb, gxn, gxs⟩))] [some 41, some 42, some 43, some 44, some 45, some 46, some 47, some 48, some 49, some 50, some 9] (by kernel_rfl) (by kernel_rfl) (by kernel_rfl) rfl ⟨?_, ?_, ?_, ?_, ?_, ?_, ?_, ?_, ?_, ?_, ?_, trivial⟩ ?_
              · intro ρ W1 hb1 H
                exact gives_move rfl (H.old 9 _ (by kernel_rfl) rfl) ⟨rfl, Below.refl _ _⟩
              · intro ρ W1 hb1 H
                exact gives_move rfl (H.new 41 0 (by kernel_rfl)) ⟨rfl, Below.refl _ _⟩
              · intro ρ W1 hb1 H d hd
                have hd' : (some 42 : Option Tmp) = some d := hd
                injection hd' with hd'
                subst hd'
                refine ⟨fun _ => ?_, fun hne => absurd (H.new 42 1 (by kernel_rfl)) hne⟩
                exact gives_move rfl (H.old 1 _ (by kernel_rfl) rfl) ⟨rfl, Below.refl _ _⟩
              · intro ρ W1 hb1 H d hd
                have hd' : (some 42 : Option Tmp) = some d := hd
                injection hd' with hd'
                subst hd'
                refine ⟨fun _ => ?_, fun hne => absurd (H.new 42 1 (by kernel_rfl)) hne⟩
                exact gives_move rfl (H.old 10 _ (by kernel_rfl) rfl) ⟨rfl, Below.refl _ _⟩
              · intro ρ W1 hb1 H d hd
                have hd' : (some 42 : Option Tmp) = some d := hd
                injection hd' with hd'
                subst hd'
                refine ⟨fun _ => ?_, fun hne => absurd (H.new 42 1 (by kernel_rfl)) hne⟩
                exact gives_index_wide (k := j) Tryd.underlying22 cv_size rfl (H.new 43 2 (by kernel_rfl)) (H.new 44 3 (by kernel_rfl)) (by omega) ⟨rfl, Below.refl _ _⟩
              · intro ρ W1 hb1 H d hd
                have hd' : (some 42 : Option Tmp) = some d := hd
                injection hd' with hd'
                subst hd'
                refine ⟨fun _ => ?_, fun hne => absurd (H.new 42 1 (by kernel_rfl)) hne⟩
                exact gives_load_wide (cs := kcells ⟨false, xn, xs⟩) rfl (H.new 45 4 (by kernel_rfl)) Tryd.underlying26 rfl cv_size (wide_at HX.out (HMW.out W1 hb1) hjl) ⟨rfl, Below.refl _ _⟩
              · intro ρ W1 hb1 H d hd
                have hd' : (some 42 : Option Tmp) = some d := hd
                injection hd' with hd'
                subst hd'
                refine ⟨fun _ => ?_, fun hne => absurd (H.new 42 1 (by kernel_rfl)) hne⟩
                exact gives_field rfl (H.old 6 _ (by kernel_rfl) rfl) (fun W => stats_at3 W w4.heap.size) ⟨rfl, Below.refl _ _⟩
              · intro ρ W1 hb1 H d hd
                have hd' : (some 42 : Option Tmp) = some d := hd
                injection hd' with hd'
                subst hd'
                refine ⟨fun _ => ?_, fun hne => absurd (H.new 42 1 (by kernel_rfl)) hne⟩
                exact gives_load_wide (cs := kcells ⟨gxb, gxn, gxs⟩) rfl (H.new 47 6 (by kernel_rfl)) Tryd.underlying26 rfl cv_size (row_at (HRS.out.below hb1 HRS.out.lt) 5 (by intro q hq; rcases (by omega : q = 0 ∨ q = 1 ∨ q = 2) with rfl | rfl | rfl <;> rfl)) ⟨rfl, Below.refl _ _⟩
              · intro ρ W1 hb1 H d hd
                have hd' : (some 42 : Option Tmp) = some d := hd
                injection hd' with hd'
                subst hd'
                refine ⟨fun _ => ?_, fun hne => absurd (H.new 42 1 (by kernel_rfl)) hne⟩
                exact gives_eqV rfl (H.new 46 5 (by kernel_rfl)) (H.new 48 7 (by kernel_rfl)) ⟨rfl, Below.refl _ _⟩
              · intro ρ W1 hb1 H
                exact gives_pick_f rfl (H.new 42 1 (by kernel_rfl)) (H.new 49 8 (by kernel_rfl)) ⟨rfl, Below.refl _ _⟩
              · intro ρ W1 hb1 H
                exact gives_assign rfl (H.new 50 9 (by kernel_rfl)) ⟨rfl, Below.refl _ _⟩
              · intro vs W1 hb1 hfs
                have f10 : vs 10 = .bool (cvEq ⟨false, xn, xs⟩ ⟨gxb, gxn, gxs⟩) := hfs 10 (by decide)
                clear hfs
                simp only [putAll, Nat.zero_add, Nat.reduceAdd]
                generalize vs 0 = z0
                generalize vs 1 = z1
                generalize vs 2 = z2
                generalize vs 3 = z3
                generalize vs 4 = z4
                generalize vs 5 = z5
                generalize vs 6 = z6
                generalize vs 7 = z7
                generalize vs 8 = z8
                generalize vs 9 = z9
                simp only [f10, Act.put, List.setIfInBounds_toArray, List.set_cons_succ, List.set_cons_zero]
                clear f10
                obtain ⟨w13, hw13⟩ : ∃ w13, w13 = W1 := ⟨_, rfl⟩
                rw [← hw13] at hb1 ⊢
                have HBZ13 := Lib.hid (HBZ12.out.trans (hb1.mono HBZ12.out.size))
                have HRS := Lib.hid (HRS.out.below hb1 HRS.out.lt)
                have HMW := Lib.hid (fun X (h : Below w13.heap.size w13 X) => HMW.out X (hb1.trans (h.mono hb1.size)))
                clear hb1 hw13
                rw [← HQM.out]
                go_wp2_with fail
                refine wp_region_list [.is (.slice (some ad) n c), .is (.int .i64 (j : Int)), .is (.pointer (some (ad.add (j * 3)))), .is (cv ⟨false, xn, xs⟩), .is (.pointer (some ⟨w4.heap.size, 2, none⟩)), .is (cv ⟨gmb, gmn, gms⟩), .is (.int .i64 (kcmp ⟨false, xn, xs⟩ ⟨gmb, gmn, gms⟩)), .is (.bool false), .is (.bool false), .is (.slice (some ad) n c), .is (.int .i64 (j : Int)), .is (.pointer (some (ad.add (j * 3)))), .is (cv ⟨false, xn, xs⟩), .is (.pointer (some ⟨w4.heap.size, 5, none⟩)), .is (cv ⟨gxb, gxn, gxs⟩), .is (.int .i64 (kcmp ⟨false, xn, xs⟩ ⟨gxb, gxn, gxs⟩)), .is (.bool false), .is (.bool false)] [some 51, some 52, some 53, some 54, some 55, some 56, some 57, some 58, some 59, some 60, some 61, some 62, some 63, some 64, some 65, some 66, some 67, some 68] (by kernel_rfl) (by kernel_rfl) (by kernel_rfl) rfl ⟨?_, ?_, ?_, ?_, ?_, ?_, ?_, ?_, ?_, ?_, ?_, ?_, ?_, ?_, ?_, ?_, ?_, ?_, trivial⟩ ?_
                · intro ρ W1 hb1 H
                  exact gives_move rfl (H.old 1 _ (by kernel_rfl) rfl) ⟨rfl, Below.refl _ _⟩
                · intro ρ W1 hb1 H
                  exact gives_move rfl (H.old 10 _ (by kernel_rfl) rfl) ⟨rfl, Below.refl _ _⟩
                · intro ρ W1 hb1 H
                  exact gives_index_wide (k := j) Tryd.underlying22 cv_size rfl (H.new 51 0 (by kernel_rfl)) (H.new 52 1 (by kernel_rfl)) (by omega) ⟨rfl, Below.refl _ _⟩
                · intro ρ W1 hb1 H
                  exact gives_load_wide (cs := kcells ⟨false, xn, xs⟩) rfl (H.new 53 2 (by kernel_rfl)) Tryd.underlying26 rfl cv_size (wide_at HX.out (HMW.out W1 hb1) hjl) ⟨rfl, Below.refl _ _⟩
                · intro ρ W1 hb1 H
                  exact gives_field rfl (H.old 6 _ (by kernel_rfl) rfl) (fun W => stats_at2 W w4.heap.size) ⟨rfl, Below.refl _ _⟩
                · intro ρ W1 hb1 H
                  exact gives_load_wide (cs := kcells ⟨gmb, gmn, gms⟩) rfl (H.new 55 4 (by kernel_rfl)) Tryd.underlying26 rfl cv_size (row_at (HRS.out.below hb1 HRS.out.lt) 2 (by intro q hq; rcases (by omega : q = 0 ∨ q = 1 ∨ q = 2) with rfl | rfl | rfl <;> rfl)) ⟨rfl, Below.refl _ _⟩
                · intro ρ W1 hb1 H
                  have e0 : ρ (.tmp 54) = cv ⟨false, xn, xs⟩ := H.new 54 3 (by kernel_rfl)
                  have e1 : ρ (.tmp 56) = cv ⟨gmb, gmn, gms⟩ := H.new 56 5 (by kernel_rfl)
                  refine gives_call rfl (fun _ _ => by kernel_rfl) (H.func _) (args := #[cv ⟨false, xn, xs⟩, cv ⟨gmb, gmn, gms⟩]) (by simp [e0, e1]) ?_
                  exact (rcmp12_any ⟨false, xn, xs⟩ ⟨gmb, gmn, gms⟩ W1).mono fun e w' ⟨h1, h2⟩ => ⟨_, h1, rfl, h2⟩
                · intro ρ W1 hb1 H
                  exact gives_lt rfl (H.new 57 6 (by kernel_rfl)) (H.const _) ⟨congrArg Value.bool HLT.out, Below.refl _ _⟩
                · intro ρ W1 hb1 H
                  exact gives_move rfl (H.new 58 7 (by kernel_rfl)) ⟨rfl, Below.refl _ _⟩
                · intro ρ W1 hb1 H d hd
                  have hd' : (some 59 : Option Tmp) = some d := hd
                  injection hd' with hd'
                  subst hd'
                  refine ⟨fun _ => ?_, fun hne => absurd (H.new 59 8 (by kernel_rfl)) hne⟩
                  exact gives_move rfl (H.old 1 _ (by kernel_rfl) rfl) ⟨rfl, Below.refl _ _⟩
                · intro ρ W1 hb1 H d hd
                  have hd' : (some 59 : Option Tmp) = some d := hd
                  injection hd' with hd'
                  subst hd'
                  refine ⟨fun _ => ?_, fun hne => absurd (H.new 59 8 (by kernel_rfl)) hne⟩
                  exact gives_move rfl (H.old 10 _ (by kernel_rfl) rfl) ⟨rfl, Below.refl _ _⟩
                · intro ρ W1 hb1 H d hd
                  have hd' : (some 59 : Option Tmp) = some d := hd
                  injection hd' with hd'
                  subst hd'
                  refine ⟨fun _ => ?_, fun hne => absurd (H.new 59 8 (by kernel_rfl)) hne⟩
                  exact gives_index_wide (k := j) Tryd.underlying22 cv_size rfl (H.new 60 9 (by kernel_rfl)) (H.new 61 10 (by kernel_rfl)) (by omega) ⟨rfl, Below.refl _ _⟩
                · intro ρ W1 hb1 H d hd
                  have hd' : (some 59 : Option Tmp) = some d := hd
                  injection hd' with hd'
                  subst hd'
                  refine ⟨fun _ => ?_, fun hne => absurd (H.new 59 8 (by kernel_rfl)) hne⟩
                  exact gives_load_wide (cs := kcells ⟨false, xn, xs⟩) rfl (H.new 62 11 (by kernel_rfl)) Tryd.underlying26 rfl cv_size (wide_at HX.out (HMW.out W1 hb1) hjl) ⟨rfl, Below.refl _ _⟩
                · intro ρ W1 hb1 H d hd
                  have hd' : (some 59 : Option Tmp) = some d := hd
                  injection hd' with hd'
                  subst hd'
                  refine ⟨fun _ => ?_, fun hne => absurd (H.new 59 8 (by kernel_rfl)) hne⟩
                  exact gives_field rfl (H.old 6 _ (by kernel_rfl) rfl) (fun W => stats_at3 W w4.heap.size) ⟨rfl, Below.refl _ _⟩
                · intro ρ W1 hb1 H d hd
                  have hd' : (some 59 : Option Tmp) = some d := hd
                  injection hd' with hd'
                  subst hd'
                  refine ⟨fun _ => ?_, fun hne => absurd (H.new 59 8 (by kernel_rfl)) hne⟩
                  exact gives_load_wide (cs := kcells ⟨gxb, gxn, gxs⟩) rfl (H.new 64 13 (by kernel_rfl)) Tryd.underlying26 rfl cv_size (row_at (HRS.out.below hb1 HRS.out.lt) 5 (by intro q hq; rcases (by omega : q = 0 ∨ q = 1 ∨ q = 2) with rfl | rfl | rfl <;> rfl)) ⟨rfl, Below.refl _ _⟩
                · intro ρ W1 hb1 H d hd
                  have hd' : (some 59 : Option Tmp) = some d := hd
                  injection hd' with hd'
                  subst hd'
                  refine ⟨fun _ => ?_, fun hne => absurd (H.new 59 8 (by kernel_rfl)) hne⟩
                  have e0 : ρ (.tmp 63) = cv ⟨false, xn, xs⟩ := H.new 63 12 (by kernel_rfl)
                  have e1 : ρ (.tmp 65) = cv ⟨gxb, gxn, gxs⟩ := H.new 65 14 (by kernel_rfl)
                  refine gives_call rfl (fun _ _ => by kernel_rfl) (H.func _) (args := #[cv ⟨false, xn, xs⟩, cv ⟨gxb, gxn, gxs⟩]) (by simp [e0, e1]) ?_
                  exact (rcmp12_any ⟨false, xn, xs⟩ ⟨gxb, gxn, gxs⟩ W1).mono fun e w' ⟨h1, h2⟩ => ⟨_, h1, rfl, h2⟩
                · intro ρ W1 hb1 H d hd
                  have hd' : (some 59 : Option Tmp) = some d := hd
                  injection hd' with hd'
                  subst hd'
                  refine ⟨fun _ => ?_, fun hne => absurd (H.new 59 8 (by kernel_rfl)) hne⟩
                  exact gives_gtG rfl (H.new 66 15 (by kernel_rfl)) (H.const _) ⟨congrArg Value.bool HGT.out, Below.refl _ _⟩
                · intro ρ W1 hb1 H
                  exact gives_pick_f rfl (H.new 59 8 (by kernel_rfl)) (H.new 67 16 (by kernel_rfl)) ⟨rfl, Below.refl _ _⟩
                · intro vs W1 hb1 hfs
                  have f17 : vs 17 = .bool false := hfs 17 (by decide)
                  clear hfs
                  simp only [putAll, Nat.zero_add, Nat.reduceAdd]
                  generalize vs 0 = z0
                  generalize vs 1 = z1
                  generalize vs 2 = z2
                  generalize vs 3 = z3
                  generalize vs 4 = z4
                  generalize vs 5 = z5
                  generalize vs 6 = z6
                  generalize vs 7 = z7
                  generalize vs 8 = z8
                  generalize vs 9 = z9
                  generalize vs 10 = z10
                  generalize vs 11 = z11
                  generalize vs 12 = z12
                  generalize vs 13 = z13
                  generalize vs 14 = z14
                  generalize vs 15 = z15
                  generalize vs 16 = z16
                  simp only [f17, Act.put, List.setIfInBounds_toArray, List.set_cons_succ, List.set_cons_zero]
                  clear f17
                  have HZ := Lib.hid (HBZ13.out.trans (hb1.mono HBZ13.out.size))
                  have HRF := Lib.hid (HREL.out W1 HZ.out)
                  clear hb1
                  go_wp2
                  go_roundw
                  case rel => exact HRF.out
                  case measure => simp [intOf]; omega
        | false =>
          go_wp2_with fail
          refine wp_region_list [.is (.bool false), .is (.bool false), .is (.slice (some ad) n c), .is (.int .i64 (j : Int)), .is (.pointer (some (ad.add (j * 3)))), .is (cv ⟨false, xn, xs⟩), .is (.pointer (some ⟨w4.heap.size, 2, none⟩)), .is (cv ⟨gmb, gmn, gms⟩), .is (.bool (cvEq ⟨false, xn, xs⟩ ⟨gmb, gmn, gms⟩)), .is (.bool (cvEq ⟨false, xn, xs⟩ ⟨gmb, gmn, gms⟩)), .is (.bool (cvEq ⟨false, xn, xs⟩ ⟨gmb, gmn, gms⟩))] [some 31, some 32, some 33, some 34, some 35, some 36, some 37, some 38, some 39, some 40, some 8] (by kernel_rfl) (by kernel_rfl) (by kernel_rfl) rfl ⟨?_, ?_, ?_, ?_, ?_, ?_, ?_, ?_, ?_, ?_, ?_, trivial⟩ ?_
          · intro ρ W1 hb1 H
            exact gives_move rfl (H.old 8 _ (by kernel_rfl) rfl) ⟨rfl, Below.refl _ _⟩
          · intro ρ W1 hb1 H
            exact gives_move rfl (H.new 31 0 (by kernel_rfl)) ⟨rfl, Below.refl _ _⟩
          · intro ρ W1 hb1 H d hd
            have hd' : (some 32 : Option Tmp) = some d := hd
            injection hd' with hd'
            subst hd'
            refine ⟨fun _ => ?_, fun hne => absurd (H.new 32 1 (by kernel_rfl)) hne⟩
            exact gives_move rfl (H.old 1 _ (by kernel_rfl) rfl) ⟨rfl, Below.refl _ _⟩
          · intro ρ W1 hb1 H d hd
            have hd' : (some 32 : Option Tmp) = some d := hd
            injection hd' with hd'
            subst hd'
            refine ⟨fun _ => ?_, fun hne => absurd (H.new 32 1 (by kernel_rfl)) hne⟩
            exact gives_move rfl (H.old 10 _ (by kernel_rfl) rfl) ⟨rfl, Below.refl _ _⟩
          · intro ρ W1 hb1 H d hd
            have hd' : (some 32 : Option Tmp) = some d := hd
            injection hd' with hd'
            subst hd'
            refine ⟨fun _ => ?_, fun hne => absurd (H.new 32 1 (by kernel_rfl)) hne⟩
            exact gives_index_wide (k := j) Tryd.underlying22 cv_size rfl (H.new 33 2 (by kernel_rfl)) (H.new 34 3 (by kernel_rfl)) (by omega) ⟨rfl, Below.refl _ _⟩
          · intro ρ W1 hb1 H d hd
            have hd' : (some 32 : Option Tmp) = some d := hd
            injection hd' with hd'
            subst hd'
            refine ⟨fun _ => ?_, fun hne => absurd (H.new 32 1 (by kernel_rfl)) hne⟩
            exact gives_load_wide (cs := kcells ⟨false, xn, xs⟩) rfl (H.new 35 4 (by kernel_rfl)) Tryd.underlying26 rfl cv_size (wide_at HX.out (HMW.out W1 hb1) hjl) ⟨rfl, Below.refl _ _⟩
          · intro ρ W1 hb1 H d hd
            have hd' : (some 32 : Option Tmp) = some d := hd
            injection hd' with hd'
            subst hd'
            refine ⟨fun _ => ?_, fun hne => absurd (H.new 32 1 (by kernel_rfl)) hne⟩
            exact gives_field rfl (H.old 6 _ (by kernel_rfl) rfl) (fun W => stats_at2 W w4.heap.size) ⟨rfl, Below.refl _ _⟩
          · intro ρ W1 hb1 H d hd
            have hd' : (some 32 : Option Tmp) = some d := hd
            injection hd' with hd'
            subst hd'
            refine ⟨fun _ => ?_, fun hne => absurd (H.new 32 1 (by kernel_rfl)) hne⟩
            exact gives_load_wide (cs := kcells ⟨gmb, gmn, gms⟩) rfl (H.new 37 6 (by kernel_rfl)) Tryd.underlying26 rfl cv_size (row_at (HRS.out.below hb1 HRS.out.lt) 2 (by intro q hq; rcases (by omega : q = 0 ∨ q = 1 ∨ q = 2) with rfl | rfl | rfl <;> rfl)) ⟨rfl, Below.refl _ _⟩
          · intro ρ W1 hb1 H d hd
            have hd' : (some 32 : Option Tmp) = some d := hd
            injection hd' with hd'
            subst hd'
            refine ⟨fun _ => ?_, fun hne => absurd (H.new 32 1 (by kernel_rfl)) hne⟩
            exact gives_eqV rfl (H.new 36 5 (by kernel_rfl)) (H.new 38 7 (by kernel_rfl)) ⟨rfl, Below.refl _ _⟩
          · intro ρ W1 hb1 H
            exact gives_pick_f rfl (H.new 32 1 (by kernel_rfl)) (H.new 39 8 (by kernel_rfl)) ⟨rfl, Below.refl _ _⟩
          · intro ρ W1 hb1 H
            exact gives_assign rfl (H.new 40 9 (by kernel_rfl)) ⟨rfl, Below.refl _ _⟩
          · intro vs W1 hb1 hfs
            have f10 : vs 10 = .bool (cvEq ⟨false, xn, xs⟩ ⟨gmb, gmn, gms⟩) := hfs 10 (by decide)
            clear hfs
            simp only [putAll, Nat.zero_add, Nat.reduceAdd]
            generalize vs 0 = z0
            generalize vs 1 = z1
            generalize vs 2 = z2
            generalize vs 3 = z3
            generalize vs 4 = z4
            generalize vs 5 = z5
            generalize vs 6 = z6
            generalize vs 7 = z7
            generalize vs 8 = z8
            generalize vs 9 = z9
            simp only [f10, Act.put, List.setIfInBounds_toArray, List.set_cons_succ, List.set_cons_zero]
            clear f10
            obtain ⟨w12, hw12⟩ : ∃ w12, w12 = W1 := ⟨_, rfl⟩
            rw [← hw12] at hb1 ⊢
            have HBZ12 := Lib.hid (HBZ0.out.trans (hb1.mono HBZ0.out.size))
            have HRS := Lib.hid (HRS.out.below hb1 HRS.out.lt)
            have HMW := Lib.hid (fun X (h : Below w12.heap.size w12 X) => HMW.out X (hb1.trans (h.mono hb1.size)))
            clear hb1 hw12
            rw [← HQL.out]
            cases mb with
            | true =>
              go_wp2_with fail
              refine wp_region_list [.is (.bool true), .is (.bool true), .any, .any, .any, .any, .any, .any, .any, .is (.bool true), .is (.bool true)] [some 41, some 42, some 43, some 44, some 45, some 46, some 47, some 48, some 49, some 50, some 9] (by kernel_rfl) (by kernel_rfl) (by kernel_rfl) rfl ⟨?_, ?_, ?_, ?_, ?_, ?_, ?_, ?_, ?_, ?_, ?_, trivial⟩ ?_
              · intro ρ W1 hb1 H
                exact gives_move rfl (H.old 9 _ (by kernel_rfl) rfl) ⟨rfl, Below.refl _ _⟩
              · intro ρ W1 hb1 H
                exact gives_move rfl (H.new 41 0 (by kernel_rfl)) ⟨rfl, Below.refl _ _⟩
              · intro ρ W1 hb1 H d hd
                have hd' : (some 42 : Option Tmp) = some d := hd
                injection hd' with hd'
                subst hd'
                exact ⟨(fun hh => by cases hh.symm.trans (H.new 42 1 (by kernel_rfl))), fun _ => trivial⟩
              · intro ρ W1 hb1 H d hd
                have hd' : (some 42 : Option Tmp) = some d := hd
                injection hd' with hd'
                subst hd'
                exact ⟨(fun hh => by cases hh.symm.trans (H.new 42 1 (by kernel_rfl))), fun _ => trivial⟩
              · intro ρ W1 hb1 H d hd
                have hd' : (some 42 : Option Tmp) = some d := hd
                injection hd' with hd'
                subst hd'
                exact ⟨(fun hh => by cases hh.symm.trans (H.new 42 1 (by kernel_rfl))), fun _ => trivial⟩
              · intro ρ W1 hb1 H d hd
                have hd' : (some 42 : Option Tmp) = some d := hd
                injection hd' with hd'
                subst hd'
                exact ⟨(fun hh => by cases hh.symm.trans (H.new 42 1 (by kernel_rfl))), fun _ => trivial⟩
              · intro ρ W1 hb1 H d hd
                have hd' : (some 42 : Option Tmp) = some d := hd
                injection hd' with hd'
                subst hd'
                exact ⟨(fun hh => by cases hh.symm.trans (H.new 42 1 (by kernel_rfl))), fun _ => trivial⟩
              · intro ρ W1 hb1 H d hd
                have hd' : (some 42 : Option Tmp) = some d := hd
                injection hd' with hd'
                subst hd'
                exact ⟨(fun hh => by cases hh.symm.trans (H.new 42 1 (by kernel_rfl))), fun _ => trivial⟩
              · intro ρ W1 hb1 H d hd
                have hd' : (some 42 : Option Tmp) = some d := hd
                injection hd' with hd'
                subst hd'
                exact ⟨(fun hh => by cases hh.symm.trans (H.new 42 1 (by kernel_rfl))), fun _ => trivial⟩
              · intro ρ W1 hb1 H
                exact gives_pick_t rfl (H.new 42 1 (by kernel_rfl)) (H.const _) ⟨rfl, Below.refl _ _⟩
              · intro ρ W1 hb1 H
                exact gives_assign rfl (H.new 50 9 (by kernel_rfl)) ⟨rfl, Below.refl _ _⟩
              · intro vs W1 hb1 hfs
                have f10 : vs 10 = .bool true := hfs 10 (by decide)
                clear hfs
                simp only [putAll, Nat.zero_add, Nat.reduceAdd]
                generalize vs 0 = z0
                generalize vs 1 = z1
                generalize vs 2 = z2
                generalize vs 3 = z3
                generalize vs 4 = z4
                generalize vs 5 = z5
                generalize vs 6 = z6
                generalize vs 7 = z7
                generalize vs 8 = z8
                generalize vs 9 = z9
                simp only [f10, Act.put, List.setIfInBounds_toArray, List.set_cons_succ, List.set_cons_zero]
                clear f10
                obtain ⟨w13, hw13⟩ : ∃ w13, w13 = W1 := ⟨_, rfl⟩
                rw [← hw13] at hb1 ⊢
                have HBZ13 := Lib.hid (HBZ12.out.trans (hb1.mono HBZ12.out.size))
                have HRS := Lib.hid (HRS.out.below hb1 HRS.out.lt)
                have HMW := Lib.hid (fun X (h : Below w13.heap.size w13 X) => HMW.out X (hb1.trans (h.mono hb1.size)))
                clear hb1 hw13
                go_wp2_with fail
                refine wp_region_list [.is (.slice (some ad) n c), .is (.int .i64 (j : Int)), .is (.pointer (some (ad.add (j * 3)))), .is (cv ⟨false, xn, xs⟩), .is (.pointer (some ⟨w4.heap.size, 2, none⟩)), .is (cv ⟨gmb, gmn, gms⟩), .is (.int .i64 (kcmp ⟨false, xn, xs⟩ ⟨gmb, gmn, gms⟩)), .is (.bool false), .is (.bool false), .is (.slice (some ad) n c), .is (.int .i64 (j : Int)), .is (.pointer (some (ad.add (j * 3)))), .is (cv ⟨false, xn, xs⟩), .is (.pointer (some ⟨w4.heap.size, 5, none⟩)), .is (cv ⟨gxb, gxn, gxs⟩), .is (.int .i64 (kcmp ⟨false, xn, xs⟩ ⟨gxb, gxn, gxs⟩)), .is (.bool false), .is (.bool false)] [some 51, some 52, some 53, some 54, some 55, some 56, some 57, some 58, some 59, some 60, some 61, some 62, some 63, some 64, some 65, some 66, some 67, some 68] (by kernel_rfl) (by kernel_rfl) (by kernel_rfl) rfl ⟨?_, ?_, ?_, ?_, ?_, ?_, ?_, ?_, ?_, ?_, ?_, ?_, ?_, ?_, ?_, ?_, ?_, ?_, trivial⟩ ?_
                · intro ρ W1 hb1 H
                  exact gives_move rfl (H.old 1 _ (by kernel_rfl) rfl) ⟨rfl, Below.refl _ _⟩
                · intro ρ W1 hb1 H
                  exact gives_move rfl (H.old 10 _ (by kernel_rfl) rfl) ⟨rfl, Below.refl _ _⟩
                · intro ρ W1 hb1 H
                  exact gives_index_wide (k := j) Tryd.underlying22 cv_size rfl (H.new 51 0 (by kernel_rfl)) (H.new 52 1 (by kernel_rfl)) (by omega) ⟨rfl, Below.refl _ _⟩
                · intro ρ W1 hb1 H
                  exact gives_load_wide (cs := kcells ⟨false, xn, xs⟩) rfl (H.new 53 2 (by kernel_rfl)) Tryd.underlying26 rfl cv_size (wide_at HX.out (HMW.out W1 hb1) hjl) ⟨rfl, Below.refl _ _⟩
                · intro ρ W1 hb1 H
                  exact gives_field rfl (H.old 6 _ (by kernel_rfl) rfl) (fun W => stats_at2 W w4.heap.size) ⟨rfl, Below.refl _ _⟩
                · intro ρ W1 hb1 H
                  exact gives_load_wide (cs := kcells ⟨gmb, gmn, gms⟩) rfl (H.new 55 4 (by kernel_rfl)) Tryd.underlying26 rfl cv_size (row_at (HRS.out.below hb1 HRS.out.lt) 2 (by intro q hq; rcases (by omega : q = 0 ∨ q = 1 ∨ q = 2) with rfl | rfl | rfl <;> rfl)) ⟨rfl, Below.refl _ _⟩
                · intro ρ W1 hb1 H
                  have e0 : ρ (.tmp 54) = cv ⟨false, xn, xs⟩ := H.new 54 3 (by kernel_rfl)
                  have e1 : ρ (.tmp 56) = cv ⟨gmb, gmn, gms⟩ := H.new 56 5 (by kernel_rfl)
                  refine gives_call rfl (fun _ _ => by kernel_rfl) (H.func _) (args := #[cv ⟨false, xn, xs⟩, cv ⟨gmb, gmn, gms⟩]) (by simp [e0, e1]) ?_
                  exact (rcmp12_any ⟨false, xn, xs⟩ ⟨gmb, gmn, gms⟩ W1).mono fun e w' ⟨h1, h2⟩ => ⟨_, h1, rfl, h2⟩
                · intro ρ W1 hb1 H
                  exact gives_lt rfl (H.new 57 6 (by kernel_rfl)) (H.const _) ⟨congrArg Value.bool HLT.out, Below.refl _ _⟩
                · intro ρ W1 hb1 H
                  exact gives_move rfl (H.new 58 7 (by kernel_rfl)) ⟨rfl, Below.refl _ _⟩
                · intro ρ W1 hb1 H d hd
                  have hd' : (some 59 : Option Tmp) = some d := hd
                  injection hd' with hd'
                  subst hd'
                  refine ⟨fun _ => ?_, fun hne => absurd (H.new 59 8 (by kernel_rfl)) hne⟩
                  exact gives_move rfl (H.old 1 _ (by kernel_rfl) rfl) ⟨rfl, Below.refl _ _⟩
                · intro ρ W1 hb1 H d hd
                  have hd' : (some 59 : Option Tmp) = some d := hd
                  injection hd' with hd'
                  subst hd'
                  refine ⟨fun _ => ?_, fun hne => absurd (H.new 59 8 (by kernel_rfl)) hne⟩
                  exact gives_move rfl (H.old 10 _ (by kernel_rfl) rfl) ⟨rfl, Below.refl _ _⟩
                · intro ρ W1 hb1 H d hd
                  have hd' : (some 59 : Option Tmp) = some d := hd
                  injection hd' with hd'
                  subst hd'
                  refine ⟨fun _ => ?_, fun hne => absurd (H.new 59 8 (by kernel_rfl)) hne⟩
                  exact gives_index_wide (k := j) Tryd.underlying22 cv_size rfl (H.new 60 9 (by kernel_rfl)) (H.new 61 10 (by kernel_rfl)) (by omega) ⟨rfl, Below.refl _ _⟩
                · intro ρ W1 hb1 H d hd
                  have hd' : (some 59 : Option Tmp) = some d := hd
                  injection hd' with hd'
                  subst hd'
                  refine ⟨fun _ => ?_, fun hne => absurd (H.new 59 8 (by kernel_rfl)) hne⟩
                  exact gives_load_wide (cs := kcells ⟨false, xn, xs⟩) rfl (H.new 62 11 (by kernel_rfl)) Tryd.underlying26 rfl cv_size (wide_at HX.out (HMW.out W1 hb1) hjl) ⟨rfl, Below.refl _ _⟩
                · intro ρ W1 hb1 H d hd
                  have hd' : (some 59 : Option Tmp) = some d := hd
                  injection hd' with hd'
                  subst hd'
                  refine ⟨fun _ => ?_, fun hne => absurd (H.new 59 8 (by kernel_rfl)) hne⟩
                  exact gives_field rfl (H.old 6 _ (by kernel_rfl) rfl) (fun W => stats_at3 W w4.heap.size) ⟨rfl, Below.refl _ _⟩
                · intro ρ W1 hb1 H d hd
                  have hd' : (some 59 : Option Tmp) = some d := hd
                  injection hd' with hd'
                  subst hd'
                  refine ⟨fun _ => ?_, fun hne => absurd (H.new 59 8 (by kernel_rfl)) hne⟩
                  exact gives_load_wide (cs := kcells ⟨gxb, gxn, gxs⟩) rfl (H.new 64 13 (by kernel_rfl)) Tryd.underlying26 rfl cv_size (row_at (HRS.out.below hb1 HRS.out.lt) 5 (by intro q hq; rcases (by omega : q = 0 ∨ q = 1 ∨ q = 2) with rfl | rfl | rfl <;> rfl)) ⟨rfl, Below.refl _ _⟩
                · intro ρ W1 hb1 H d hd
                  have hd' : (some 59 : Option Tmp) = some d := hd
                  injection hd' with hd'
                  subst hd'
                  refine ⟨fun _ => ?_, fun hne => absurd (H.new 59 8 (by kernel_rfl)) hne⟩
                  have e0 : ρ (.tmp 63) = cv ⟨false, xn, xs⟩ := H.new 63 12 (by kernel_rfl)
                  have e1 : ρ (.tmp 65) = cv ⟨gxb, gxn, gxs⟩ := H.new 65 14 (by kernel_rfl)
                  refine gives_call rfl (fun _ _ => by kernel_rfl) (H.func _) (args := #[cv ⟨false, xn, xs⟩, cv ⟨gxb, gxn, gxs⟩]) (by simp [e0, e1]) ?_
                  exact (rcmp12_any ⟨false, xn, xs⟩ ⟨gxb, gxn, gxs⟩ W1).mono fun e w' ⟨h1, h2⟩ => ⟨_, h1, rfl, h2⟩
                · intro ρ W1 hb1 H d hd
                  have hd' : (some 59 : Option Tmp) = some d := hd
                  injection hd' with hd'
                  subst hd'
                  refine ⟨fun _ => ?_, fun hne => absurd (H.new 59 8 (by kernel_rfl)) hne⟩
                  exact gives_gtG rfl (H.new 66 15 (by kernel_rfl)) (H.const _) ⟨congrArg Value.bool HGT.out, Below.refl _ _⟩
                · intro ρ W1 hb1 H
                  exact gives_pick_f rfl (H.new 59 8 (by kernel_rfl)) (H.new 67 16 (by kernel_rfl)) ⟨rfl, Below.refl _ _⟩
                · intro vs W1 hb1 hfs
                  have f17 : vs 17 = .bool false := hfs 17 (by decide)
                  clear hfs
                  simp only [putAll, Nat.zero_add, Nat.reduceAdd]
                  generalize vs 0 = z0
                  generalize vs 1 = z1
                  generalize vs 2 = z2
                  generalize vs 3 = z3
                  generalize vs 4 = z4
                  generalize vs 5 = z5
                  generalize vs 6 = z6
                  generalize vs 7 = z7
                  generalize vs 8 = z8
                  generalize vs 9 = z9
                  generalize vs 10 = z10
                  generalize vs 11 = z11
                  generalize vs 12 = z12
                  generalize vs 13 = z13
                  generalize vs 14 = z14
                  generalize vs 15 = z15
                  generalize vs 16 = z16
                  simp only [f17, Act.put, List.setIfInBounds_toArray, List.set_cons_succ, List.set_cons_zero]
                  clear f17
                  have HZ := Lib.hid (HBZ13.out.trans (hb1.mono HBZ13.out.size))
                  have HRF := Lib.hid (HREL.out W1 HZ.out)
                  clear hb1
                  go_wp2
                  go_roundw
                  case rel => exact HRF.out
                  case measure => simp [intOf]; omega
            | false =>
              go_wp2_with fail
              refine wp_region_list [.is (.bool false), .is (.bool false), .is (.slice (some ad) n c), .is (.int .i64 (j : Int)), .is (.pointer (some (ad.add (j * 3)))), .is (cv ⟨false, xn, xs⟩), .is (.pointer (some ⟨w4.heap.size, 5, none⟩)), .is (cv ⟨gxb, gxn, gxs⟩), .is (.bool (cvEq ⟨false, xn, xs⟩ ⟨gxb, gxn, gxs⟩)), .is (.bool (cvEq ⟨false, xn, xs⟩ ⟨gxb, gxn, gxs⟩)), .is (.bool (cvEq ⟨false, xn, xs⟩ ⟨gxb, gxn, gxs⟩))] [some 41, some 42, some 43, some 44, some 45, some 46, some 47, some 48, some 49, some 50, some 9] (by kernel_rfl) (by kernel_rfl) (by kernel_rfl) rfl ⟨?_, ?_, ?_, ?_, ?_, ?_, ?_, ?_, ?_, ?_, ?_, trivial⟩ ?_
              · intro ρ W1 hb1 H
                exact gives_move rfl (H.old 9 _ (by kernel_rfl) rfl) ⟨rfl, Below.refl _ _⟩
              · intro ρ W1 hb1 H
                exact gives_move rfl (H.new 41 0 (by kernel_rfl)) ⟨rfl, Below.refl _ _⟩
              · intro ρ W1 hb1 H d hd
                have hd' : (some 42 : Option Tmp) = some d := hd
                injection hd' with hd'
                subst hd'
                refine ⟨fun _ => ?_, fun hne => absurd (H.new 42 1 (by kernel_rfl)) hne⟩
                exact gives_move rfl (H.old 1 _ (by kernel_rfl) rfl) ⟨rfl, Below.refl _ _⟩
              · intro ρ W1 hb1 H d hd
                have hd' : (some 42 : Option Tmp) = some d := hd
                injection hd' with hd'
                subst hd'
                refine ⟨fun _ => ?_, fun hne => absurd (H.new 42 1 (by kernel_rfl)) hne⟩
                exact gives_move rfl (H.old 10 _ (by kernel_rfl) rfl) ⟨rfl, Below.refl _ _⟩
              · intro ρ W1 hb1 H d hd
                have hd' : (some 42 : Option Tmp) = some d := hd
                injection hd' with hd'
                subst hd'
                refine ⟨fun _ => ?_, fun hne => absurd (H.new 42 1 (by kernel_rfl)) hne⟩
                exact gives_index_wide (k := j) Tryd.underlying22 cv_size rfl (H.new 43 2 (by kernel_rfl)) (H.new 44 3 (by kernel_rfl)) (by omega) ⟨rfl, Below.refl _ _⟩
              · intro ρ W1 hb1 H d hd
                have hd' : (some 42 : Option Tmp) = some d := hd
                injection hd' with hd'
                subst hd'
                refine ⟨fun _ => ?_, fun hne => absurd (H.new 42 1 (by kernel_rfl)) hne⟩
                exact gives_load_wide (cs := kcells ⟨false, xn, xs⟩) rfl (H.new 45 4 (by kernel_rfl)) Tryd.underlying26 rfl cv_size (wide_at HX.out (HMW.out W1 hb1) hjl) ⟨rfl, Below.refl _ _⟩
              · intro ρ W1 hb1 H d hd
                have hd' : (some 42 : Option Tmp) = some d := hd
                injection hd' with hd'
                subst hd'
                refine ⟨fun _ => ?_, fun hne => absurd (H.new 42 1 (by kernel_rfl)) hne⟩
                exact gives_field rfl (H.old 6 _ (by kernel_rfl) rfl) (fun W => stats_at3 W w4.heap.size) ⟨rfl, Below.refl _ _⟩
              · intro ρ W1 hb1 H d hd
                have hd' : (some 42 : Option Tmp) = some d := hd
                injection hd' with hd'
                subst hd'
                refine ⟨fun _ => ?_, fun hne => absurd (H.new 42 1 (by kernel_rfl)) hne⟩
                exact gives_load_wide (cs := kcells ⟨gxb, gxn, gxs⟩) rfl (H.new 47 6 (by kernel_rfl)) Tryd.underlying26 rfl cv_size (row_at (HRS.out.below hb1 HRS.out.lt) 5 (by intro q hq; rcases (by omega : q = 0 ∨ q = 1 ∨ q = 2) with rfl | rfl | rfl <;> rfl)) ⟨rfl, Below.refl _ _⟩
              · intro ρ W1 hb1 H d hd
                have hd' : (some 42 : Option Tmp) = some d := hd
                injection hd' with hd'
                subst hd'
                refine ⟨fun _ => ?_, fun hne => absurd (H.new 42 1 (by kernel_rfl)) hne⟩
                exact gives_eqV rfl (H.new 46 5 (by kernel_rfl)) (H.new 48 7 (by kernel_rfl)) ⟨rfl, Below.refl _ _⟩
              · intro ρ W1 hb1 H
                exact gives_pick_f rfl (H.new 42 1 (by kernel_rfl)) (H.new 49 8 (by kernel_rfl)) ⟨rfl, Below.refl _ _⟩
              · intro ρ W1 hb1 H
                exact gives_assign rfl (H.new 50 9 (by kernel_rfl)) ⟨rfl, Below.refl _ _⟩
              · intro vs W1 hb1 hfs
                have f10 : vs 10 = .bool (cvEq ⟨false, xn, xs⟩ ⟨gxb, gxn, gxs⟩) := hfs 10 (by decide)
                clear hfs
                simp only [putAll, Nat.zero_add, Nat.reduceAdd]
                generalize vs 0 = z0
                generalize vs 1 = z1
                generalize vs 2 = z2
                generalize vs 3 = z3
                generalize vs 4 = z4
                generalize vs 5 = z5
                generalize vs 6 = z6
                generalize vs 7 = z7
                generalize vs 8 = z8
                generalize vs 9 = z9
                simp only [f10, Act.put, List.setIfInBounds_toArray, List.set_cons_succ, List.set_cons_zero]
                clear f10
                obtain ⟨w13, hw13⟩ : ∃ w13, w13 = W1 := ⟨_, rfl⟩
                rw [← hw13] at hb1 ⊢
                have HBZ13 := Lib.hid (HBZ12.out.trans (hb1.mono HBZ12.out.size))
                have HRS := Lib.hid (HRS.out.below hb1 HRS.out.lt)
                have HMW := Lib.hid (fun X (h : Below w13.heap.size w13 X) => HMW.out X (hb1.trans (h.mono hb1.size)))
                clear hb1 hw13
                rw [← HQM.out]
                go_wp2_with fail
                refine wp_region_list [.is (.slice (some ad) n c), .is (.int .i64 (j : Int)), .is (.pointer (some (ad.add (j * 3)))), .is (cv ⟨false, xn, xs⟩), .is (.pointer (some ⟨w4.heap.size, 2, none⟩)), .is (cv ⟨gmb, gmn, gms⟩), .is (.int .i64 (kcmp ⟨false, xn, xs⟩ ⟨gmb, gmn, gms⟩)), .is (.bool false), .is (.bool false), .is (.slice (some ad) n c), .is (.int .i64 (j : Int)), .is (.pointer (some (ad.add (j * 3)))), .is (cv ⟨false, xn, xs⟩), .is (.pointer (some ⟨w4.heap.size, 5, none⟩)), .is (cv ⟨gxb, gxn, gxs⟩), .is (.int .i64 (kcmp ⟨false, xn, xs⟩ ⟨gxb, gxn, gxs⟩)), .is (.bool false), .is (.bool false)] [some 51, some 52, some 53, some 54, some 55, some 56, some 57, some 58, some 59, some 60, some 61, some 62, some 63, some 64, some 65, some 66, some 67, some 68] (by kernel_rfl) (by kernel_rfl) (by kernel_rfl) rfl ⟨?_, ?_, ?_, ?_, ?_, ?_, ?_, ?_, ?_, ?_, ?_, ?_, ?_, ?_, ?_, ?_, ?_, ?_, trivial⟩ ?_
                · intro ρ W1 hb1 H
                  exact gives_move rfl (H.old 1 _ (by kernel_rfl) rfl) ⟨rfl, Below.refl _ _⟩
                · intro ρ W1 hb1 H
                  exact gives_move rfl (H.old 10 _ (by kernel_rfl) rfl) ⟨rfl, Below.refl _ _⟩
                · intro ρ W1 hb1 H
                  exact gives_index_wide (k := j) Tryd.underlying22 cv_size rfl (H.new 51 0 (by kernel_rfl)) (H.new 52 1 (by kernel_rfl)) (by omega) ⟨rfl, Below.refl _ _⟩
                · intro ρ W1 hb1 H
                  exact gives_load_wide (cs := kcells ⟨false, xn, xs⟩) rfl (H.new 53 2 (by kernel_rfl)) Tryd.underlying26 rfl cv_size (wide_at HX.out (HMW.out W1 hb1) hjl) ⟨rfl, Below.refl _ _⟩
                · intro ρ W1 hb1 H
                  exact gives_field rfl (H.old 6 _ (by kernel_rfl) rfl) (fun W => stats_at2 W w4.heap.size) ⟨rfl, Below.refl _ _⟩
                · intro ρ W1 hb1 H
                  exact gives_load_wide (cs := kcells ⟨gmb, gmn, gms⟩) rfl (H.new 55 4 (by kernel_rfl)) Tryd.underlying26 rfl cv_size (row_at (HRS.out.below hb1 HRS.out.lt) 2 (by intro q hq; rcases (by omega : q = 0 ∨ q = 1 ∨ q = 2) with rfl | rfl | rfl <;> rfl)) ⟨rfl, Below.refl _ _⟩
                · intro ρ W1 hb1 H
                  have e0 : ρ (.tmp 54) = cv ⟨false, xn, xs⟩ := H.new 54 3 (by kernel_rfl)
                  have e1 : ρ (.tmp 56) = cv ⟨gmb, gmn, gms⟩ := H.new 56 5 (by kernel_rfl)
                  refine gives_call rfl (fun _ _ => by kernel_rfl) (H.func _) (args := #[cv ⟨false, xn, xs⟩, cv ⟨gmb, gmn, gms⟩]) (by simp [e0, e1]) ?_
                  exact (rcmp12_any ⟨false, xn, xs⟩ ⟨gmb, gmn, gms⟩ W1).mono fun e w' ⟨h1, h2⟩ => ⟨_, h1, rfl, h2⟩
                · intro ρ W1 hb1 H
                  exact gives_lt rfl (H.new 57 6 (by kernel_rfl)) (H.const _) ⟨congrArg Value.bool HLT.out, Below.refl _ _⟩
                · intro ρ W1 hb1 H
                  exact gives_move rfl (H.new 58 7 (by kernel_rfl)) ⟨rfl, Below.refl _ _⟩
                · intro ρ W1 hb1 H d hd
                  have hd' : (some 59 : Option Tmp) = some d := hd
                  injection hd' with hd'
                  subst hd'
                  refine ⟨fun _ => ?_, fun hne => absurd (H.new 59 8 (by kernel_rfl)) hne⟩
                  exact gives_move rfl (H.old 1 _ (by kernel_rfl) rfl) ⟨rfl, Below.refl _ _⟩
                · intro ρ W1 hb1 H d hd
                  have hd' : (some 59 : Option Tmp) = some d := hd
                  injection hd' with hd'
                  subst hd'
                  refine ⟨fun _ => ?_, fun hne => absurd (H.new 59 8 (by kernel_rfl)) hne⟩
                  exact gives_move rfl (H.old 10 _ (by kernel_rfl) rfl) ⟨rfl, Below.refl _ _⟩
                · intro ρ W1 hb1 H d hd
                  have hd' : (some 59 : Option Tmp) = some d := hd
                  injection hd' with hd'
                  subst hd'
                  refine ⟨fun _ => ?_, fun hne => absurd (H.new 59 8 (by kernel_rfl)) hne⟩
                  exact gives_index_wide (k := j) Tryd.underlying22 cv_size rfl (H.new 60 9 (by kernel_rfl)) (H.new 61 10 (by kernel_rfl)) (by omega) ⟨rfl, Below.refl _ _⟩
                · intro ρ W1 hb1 H d hd
                  have hd' : (some 59 : Option Tmp) = some d := hd
                  injection hd' with hd'
                  subst hd'
                  refine ⟨fun _ => ?_, fun hne => absurd (H.new 59 8 (by kernel_rfl)) hne⟩
                  exact gives_load_wide (cs := kcells ⟨false, xn, xs⟩) rfl (H.new 62 11 (by kernel_rfl)) Tryd.underlying26 rfl cv_size (wide_at HX.out (HMW.out W1 hb1) hjl) ⟨rfl, Below.refl _ _⟩
                · intro ρ W1 hb1 H d hd
                  have hd' : (some 59 : Option Tmp) = some d := hd
                  injection hd' with hd'
                  subst hd'
                  refine ⟨fun _ => ?_, fun hne => absurd (H.new 59 8 (by kernel_rfl)) hne⟩
                  exact gives_field rfl (H.old 6 _ (by kernel_rfl) rfl) (fun W => stats_at3 W w4.heap.size) ⟨rfl, Below.refl _ _⟩
                · intro ρ W1 hb1 H d hd
                  have hd' : (some 59 : Option Tmp) = some d := hd
                  injection hd' with hd'
                  subst hd'
                  refine ⟨fun _ => ?_, fun hne => absurd (H.new 59 8 (by kernel_rfl)) hne⟩
                  exact gives_load_wide (cs := kcells ⟨gxb, gxn, gxs⟩) rfl (H.new 64 13 (by kernel_rfl)) Tryd.underlying26 rfl cv_size (row_at (HRS.out.below hb1 HRS.out.lt) 5 (by intro q hq; rcases (by omega : q = 0 ∨ q = 1 ∨ q = 2) with rfl | rfl | rfl <;> rfl)) ⟨rfl, Below.refl _ _⟩
                · intro ρ W1 hb1 H d hd
                  have hd' : (some 59 : Option Tmp) = some d := hd
                  injection hd' with hd'
                  subst hd'
                  refine ⟨fun _ => ?_, fun hne => absurd (H.new 59 8 (by kernel_rfl)) hne⟩
                  have e0 : ρ (.tmp 63) = cv ⟨false, xn, xs⟩ := H.new 63 12 (by kernel_rfl)
                  have e1 : ρ (.tmp 65) = cv ⟨gxb, gxn, gxs⟩ := H.new 65 14 (by kernel_rfl)
                  refine gives_call rfl (fun _ _ => by kernel_rfl) (H.func _) (args := #[cv ⟨false, xn, xs⟩, cv ⟨gxb, gxn, gxs⟩]) (by simp [e0, e1]) ?_
                  exact (rcmp12_any ⟨false, xn, xs⟩ ⟨gxb, gxn, gxs⟩ W1).mono fun e w' ⟨h1, h2⟩ => ⟨_, h1, rfl, h2⟩
                · intro ρ W1 hb1 H d hd
                  have hd' : (some 59 : Option Tmp) = some d := hd
                  injection hd' with hd'
                  subst hd'
                  refine ⟨fun _ => ?_, fun hne => absurd (H.new 59 8 (by kernel_rfl)) hne⟩
                  exact gives_gtG rfl (H.new 66 15 (by kernel_rfl)) (H.const _) ⟨congrArg Value.bool HGT.out, Below.refl _ _⟩
                · intro ρ W1 hb1 H
                  exact gives_pick_f rfl (H.new 59 8 (by kernel_rfl)) (H.new 67 16 (by kernel_rfl)) ⟨rfl, Below.refl _ _⟩
                · intro vs W1 hb1 hfs
                  have f17 : vs 17 = .bool false := hfs 17 (by decide)
                  clear hfs
                  simp only [putAll, Nat.zero_add, Nat.reduceAdd]
                  generalize vs 0 = z0
                  generalize vs 1 = z1
                  generalize vs 2 = z2
                  generalize vs 3 = z3
                  generalize vs 4 = z4
                  generalize vs 5 = z5
                  generalize vs 6 = z6
                  generalize vs 7 = z7
                  generalize vs 8 = z8
                  generalize vs 9 = z9
                  generalize vs 10 = z10
                  generalize vs 11 = z11
                  generalize vs 12 = z12
                  generalize vs 13 = z13
                  generalize vs 14 = z14
                  generalize vs 15 = z15
                  generalize vs 16 = z16
                  simp only [f17, Act.put, List.setIfInBounds_toArray, List.set_cons_succ, List.set_cons_zero]
                  clear f17
                  have HZ := Lib.hid (HBZ13.out.trans (hb1.mono HBZ13.out.size))
                  have HRF := Lib.hid (HREL.out W1 HZ.out)
                  clear hb1
                  go_wp2
                  go_roundw
                  case rel => exact HRF.out
                  case measure => simp [intOf]; omega
    · obtain rfl : j = n := by omega
      have hlti : ¬ (j : Int) < (j : Int) := by omega
      have HT : Hid (m.take j = m) := Lib.hid (List.take_of_length_le (by rw [← HN.out]; omega))
      have e1 : (cn : Int) = gc := by rw [HCN.out, HT.out, ← HC.out]
      have e2 : lb = decide (0 < gc) := by rw [HLB.out, HT.out, HL1.out, ← HC.out]
      have e3 : mb = decide (0 < gc) := by rw [HMB.out, HT.out, HM1.out, ← HC.out]
      have e4 : gh = decide (gc < (j : Int)) := by rw [HH.out, ← HC.out, HN.out]
      have e5 : gmb = decide (gc = 0) := by rw [HE1.out, ← HC.out]
      have e6 : gxb = decide (gc = 0) := by rw [HE2.out, ← HC.out]
      rw [e1, e2, e3]
      have s0 := HRS.out.cell 0
      have s1 := HRS.out.cell 1
      have s2 := HRS.out.cell 2
      have s5 := HRS.out.cell 5
      have HBE := Lib.hid (below_then HBX4.out HBW.out)
      rw [e4] at s1
      rw [e5] at s2
      rw [e6] at s5
      have hc0 : 0 ≤ gc := by omega
      have d3 : ((gc : Int) == gc) = true := by simp
      clear e1 e2 e3 e4 e5 e6
      rcases (by omega : gc = 0 ∨ 0 < gc) with h0 | h0
      · have d1 : decide (0 < gc) = false := decide_eq_false (by omega)
        have d2 : decide (gc = 0) = true := decide_eq_true h0
        have d4 : (gc == 0) = true := by rw [beq_iff_eq]; exact h0
        rw [d1]
        rw [d2] at s2 s5
        by_cases h1 : gc < (j : Int)
        · have d5 : decide (gc < (j : Int)) = true := decide_eq_true h1
          rw [d5] at s1
          clear h0 h1
          go_wp2
          go_ret
          exact ⟨rfl, HBE.out⟩
        · have d5 : decide (gc < (j : Int)) = false := decide_eq_false h1
          rw [d5] at s1
          clear h0 h1
          go_wp2
          go_ret
          exact ⟨rfl, HBE.out⟩
      · have d1 : decide (0 < gc) = true := decide_eq_true h0
        have d2 : decide (gc = 0) = false := decide_eq_false (by omega)
        have d4 : (gc == 0) = false := by rw [beq_eq_false_iff_ne]; omega
        rw [d1]
        rw [d2] at s2 s5
        by_cases h1 : gc < (j : Int)
        · have d5 : decide (gc < (j : Int)) = true := decide_eq_true h1
          rw [d5] at s1
          clear h0 h1
          go_wp2
          go_ret
          exact ⟨rfl, HBE.out⟩
        · have d5 : decide (gc < (j : Int)) = false := decide_eq_false h1
          rw [d5] at s1
          clear h0 h1
          go_wp2
          go_ret
          exact ⟨rfl, HBE.out⟩

set_option maxRecDepth 100000 in
theorem StatsHold_lifted (os : Os) (started : os.Started) (H : Type) (enc : TypeId × Value → H) :
    ReturnsInHanded {} Tryd.checked os 6 .any (fun w args => (Rows.statsHoldSpec.pre enc Tryd.prog Tryd.f6 [] false w args ∧ laidMetH Tryd.prog [("unicode/utf8.acceptRanges", Rows.laid_unicode_utf8_acceptRanges), ("unicode/utf8.first", Rows.laid_unicode_utf8_first)] w) ∧ sizedMet enc Tryd.prog Tryd.f6 (OpenSpec.ofChange Rows.statsHoldSpec) false w args) (Rows.statsHoldSpec.post enc Tryd.prog Tryd.f6 false true false false) := by
  refine returnsInHanded_of_change_and (C := Tryd.checked) (X := fun w _ => laidMetH Tryd.prog [("unicode/utf8.acceptRanges", Rows.laid_unicode_utf8_acceptRanges), ("unicode/utf8.first", Rows.laid_unicode_utf8_first)] w) (fun _ _ _ hh h => h.of_heap hh) own started (by kernel_rfl) Tryd.func6
    (ChangeSpec.witness_shaped (enc := enc) (C := Tryd.checked) (os := os) (X := fun w _ => laidMetH Tryd.prog [("unicode/utf8.acceptRanges", Rows.laid_unicode_utf8_acceptRanges), ("unicode/utf8.first", Rows.laid_unicode_utf8_first)] w) false (World.laidAll Tryd.prog os [("unicode/utf8.acceptRanges", Rows.laid_unicode_utf8_acceptRanges), ("unicode/utf8.first", Rows.laid_unicode_utf8_first)]) #[.int .i64 0, .slice none 0 0] 8 (World.laidAll_os _ _ _) (World.shaped_of_ZipB (by kernel_rfl) (by kernel_rfl)) (by kernel_rfl) (by kernel_rfl) (by kernel_rfl) (by rw [MakeChecks.laidMetH_plain _ _ _ (by kernel_rfl)]; exact laidMet_laidAll _ (by kernel_rfl) (by kernel_rfl))) ?_
  intro W base args ds gs before hval0 hW _ _ hL _
  have hT := u8_of hL
  clear hL
  have hval : ∀ (j : Nat) t v, Tryd.f6.params[j]? = some t → args[j]? = some v → Value.okWide Tryd.prog W .any base t v := hval0
  have hW' := hW
  obtain ⟨p, q, hT0, hV, rfl, hfz, hnd⟩ := hW
  have hA : DataW.TrodAll enc Tryd.prog W 0 (fun _ => true) true Tryd.f6.params.toList args.toList ds p := hT0
  rw [Tryd.params6] at hA hval
  obtain ⟨v0, vs0, d0, ds0, p0, q0, hargs, rfl, rfl, h0, r0⟩ := trodAll_cons hA
  obtain ⟨v1, vs1, d1, ds1, p1, q1, rfl, rfl, rfl, h1, r1⟩ := trodAll_cons r0
  obtain ⟨rfl, rfl, rfl⟩ := trodAll_nil r1
  obtain rfl : args = #[v0, v1] := by cases args; simp_all
  obtain ⟨rfl, rfl⟩ := trodVars_none hV
  obtain ⟨a0, rfl, rfl, rfl, w0⟩ := open_int Tryd.underlying3 (hval 0 3 v0 rfl rfl) h0
  have hlt1 : ∀ x ∈ p1, x.block < W.heap.size := fun x hx => hW'.lt x (by simp [hx])
  obtain ⟨l1, hl1, hp1, hq1⟩ := open_vals (hval 1 22 v1 rfl rfl) h1 hlt1
  clear hT0 hval0
  refine (StatsHold_walk W hT a0 (wf_i64 w0).1 (wf_i64 w0).2 v1 l1 hl1 hp1 hq1).mono fun e W' ⟨he, hb⟩ => ?_
  subst he
  exact ⟨_, rfl, law_post laidOut Tryd.underlying4 (by kernel_rfl) (by kernel_rfl) rfl hW' rfl hb⟩

theorem StatsHold_over : Rows.statsHoldRow.holds Tryd.pinned (OpenSpec.ofChange Rows.statsHoldSpec) :=
  OpenClaim.holds_of_wide 6 Tryd.f6 rfl rfl rfl rfl rfl rfl rfl ⟨rfl, rfl, rfl, rfl, rfl⟩ rfl rfl rfl rfl rfl (by kernel_rfl) Tryd.func6 (by kernel_rfl)
    (of_decide_eq_true (by kernel_rfl)) (by unfold Func.isWrapper; first | (rw [if_pos (by decide +kernel)]; kernel_rfl) | (rw [if_neg (by decide +kernel)]; exact ⟨rfl, rfl⟩))
    (fun os started H enc _ => StatsHold_lifted os started H enc)

theorem StatsHold_holds : Rows.StatsHoldCardSaid :=
  Claim7.holds_tied_plain_at .later [] _ true _ _ StatsHold_over (fun _ h => by cases h) (by kernel_rfl) (fun _ h => by cases h) statsHold_row_tie rfl ⟨rfl, rfl⟩ (by kernel_rfl) rfl
    (fun f fn hf hfn => by
      obtain rfl : f = 6 := Option.some.inj ((show Tryd.prog.funcNamed "pilaster/pilasterlaw17.StatsHold" = some 6 by kernel_rfl).symm.trans hf) |>.symm
      obtain rfl : fn = Tryd.f6 := (Option.some.inj (Tryd.func6.symm.trans hfn)).symm
      exact ⟨by kernel_rfl, fun j t ht => stand_ins (by kernel_rfl) ht⟩)
    (by kernel_rfl)
#print axioms StatsHold_holds

end Go.Proofs.YtgbmppdbahjjhaaDoor
