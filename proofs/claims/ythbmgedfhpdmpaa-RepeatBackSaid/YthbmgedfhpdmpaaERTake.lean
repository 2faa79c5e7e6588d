
/- The contract of layer 7's reference's Take. -/

import Derived.Test.YthbmgedfhpdmpaaERef

namespace Go.Proofs.Ythbmgedfhpdmpaa

open Go.RowKit

theorem results_tmp4 {fn : Func} {t u v x : Tmp} (h : fn.results = #[.tmp t, .tmp u, .tmp v, .tmp x]) (tmps : Array Value) (P : Program) (w : World) :
    (results fn tmps).run P w = .ok (.tuple #[tmps.getD t undef, tmps.getD u undef, tmps.getD v undef, tmps.getD x undef]) w := by
  simp [results, h]
theorem gives_not {P : Program} {o : Oper} {ρ : Operand → Value} {w : World} {R : Value → World → Prop} {t : TypeId} {x : Operand} {b : Bool} (ho : o.op = .unOp .not t x) (hx : ρ x = .bool b) (hR : R (.bool !b) w) : Gives P o ρ w R := by
  refine gives_of (v := .bool !b) (w' := w) ?_ hR
  simp [execOp, ho, hx, go_sem]

/-- A number, how often, bytes and an error that a call answers. -/
def RetT7 (w : World) (p : Int × Int × List UInt8 × Int) (e : Ending) (w' : World) : Prop :=
  ∃ v, e = .returned (.tuple #[.int .i64 p.1, .int .i64 p.2.1, v, .int .i64 p.2.2.2]) ∧ IsB p.2.2.1 v w' ∧ Below w.heap.size w w'
theorem RetT7.no {w w' : World} (hb : Below w.heap.size w w') : RetT7 w (0, 0, [], 2) (.returned (.tuple #[.int .i64 0, .int .i64 0, .slice none 0 0, .int .i64 2])) w' := ⟨_, rfl, isB_nil _, hb⟩
theorem etake_nil (s : Bool) : etake [] s = (0, 0, [], 2) := rfl
theorem etake_big {l : List UInt8} {s : Bool} (h0 : 0 < l.length) (h : 64 ≤ l[0].toNat) : etake l s = (0, 0, [], 2) := by
  cases l with
  | nil => simp at h0
  | cons b r => simp at h; unfold etake; simp only []; rw [if_pos h]
theorem etake_short {l : List UInt8} {s : Bool} {K : Nat} (h0 : 0 < l.length) (hK : K = l[0].toNat / 8 + 1) (h : l.length < K + 1) : etake l s = (0, 0, [], 2) := by
  cases l with
  | nil => simp at h0
  | cons b r =>
    simp at hK h
    unfold etake; simp only []
    rw [← hK]
    split
    · rfl
    · first | rfl | rw [if_pos (by omega)]
theorem etake_none {l : List UInt8} {s : Bool} {K u : Nat} (h0 : 0 < l.length) (hK : K = l[0].toNat / 8 + 1) (hu : u = bval ((l.drop 1).take K)) (h : emade u s = none ∨ ebytes u ≠ K) : etake l s = (0, 0, [], 2) := by
  cases l with
  | nil => simp at h0
  | cons b r =>
    simp at hK hu
    unfold etake; simp only []
    rw [← hK, ← hu]
    split
    · rfl
    split
    · rfl
    split
    · rfl
    · rename_i h3
      rcases h with h | h
      · rw [h]
      · exact absurd h h3
theorem etake_some {l : List UInt8} {s : Bool} {K u : Nat} {x : Int} (h0 : 0 < l.length) (hK : K = l[0].toNat / 8 + 1) (h64 : l[0].toNat < 64) (hl : K + 1 ≤ l.length) (hu : u = bval ((l.drop 1).take K)) (h : emade u s = some x) (hb : ebytes u = K) :
    etake l s = (x, ((l[0].toNat % 8 + 3 : Nat) : Int), l.drop (K + 1), 0) := by
  cases l with
  | nil => simp at h0
  | cons b r =>
    simp at hK hu hl h64
    unfold etake; simp only []
    rw [← hK, ← hu, if_neg (by omega), if_neg (by omega), if_neg (by omega), h]
    simp
theorem elay_same {l : List UInt8} {K u T : Nat} (h0 : 0 < l.length) (hK : K = l[0].toNat / 8 + 1) (hT : T = l[0].toNat % 8 + 3) (hl : K + 1 ≤ l.length) (hu : u = bval ((l.drop 1).take K)) : elay u T = l.take (K + 1) ↔ ebytes u = K := by
  cases l with
  | nil => simp at h0
  | cons b r =>
    simp at hK hu hl hT
    rw [List.take_succ_cons]
    constructor
    · intro h
      have h1 := congrArg List.length h
      rw [elay_len, List.length_cons, List.length_take] at h1
      omega
    · intro h
      unfold elay
      rw [h, show 8 * (K - 1) + (T - 3) = b.toNat by omega, UInt8.ofNat_toNat]
      congr 1
      exact (eq_be (by rw [List.length_take]; omega) hu.symm).symm
theorem bval_at (r : List UInt8) (k : Nat) (h : k < r.length) : bval (r.take (k + 1)) = 256 * bval (r.take k) + r[k].toNat := by
  rw [List.take_succ_eq_append_getElem h, bval_append]
  simp [bval]
  omega
theorem bval_seven (r : List UInt8) {k : Nat} (h : k ≤ 7) : ((bval (r.take k) : Nat) : Int) < 72057594037927936 := by
  have h1 := bval_lt (r.take k)
  have h2 : 256 ^ (r.take k).length ≤ 256 ^ 7 := Nat.pow_le_pow_right (by omega) (by rw [List.length_take]; omega)
  omega
theorem bval_eight (r : List UInt8) {k : Nat} (h : k ≤ 8) : bval (r.take k) < 2 ^ 64 := by
  have h1 := bval_lt (r.take k)
  have h2 : 256 ^ (r.take k).length ≤ 256 ^ 8 := Nat.pow_le_pow_right (by omega) (by rw [List.length_take]; omega)
  omega
def RTake7Rel (r : List UInt8) (K : Nat) (v i : Value) : Prop := ∃ (k : Nat) (U : Int), k ≤ K ∧ i = .int .i64 (k : Int) ∧ v = .int .u64 U ∧ U = ((bval (r.take k) : Nat) : Int)
set_option maxHeartbeats 4000000 in
set_option maxRecDepth 100000 in
theorem rtake7_any (l : List UInt8) (v : Value) (s : Bool) (w : World) (hv : IsB l v w) (hb : l.length ≤ 1000000) :
    Calls Try.prog 10 #[v, .bool s] w (RetT7 w (etake l s)) := by
  have HV := Lib.hid hv
  obtain ⟨A, c, rfl, hA, hnc, hcm, hl⟩ := hv
  obtain ⟨n, hn⟩ : ∃ n, n = l.length := ⟨_, rfl⟩
  rw [← hn] at hA hnc hb HV ⊢
  have hci : (c : Int) ≤ 9223372036854775807 := by unfold maxLen at hcm; omega
  have HN := Lib.hid hn
  by_cases h0 : n = 0
  · subst h0
    obtain rfl : l = [] := List.eq_nil_of_length_eq_zero hn.symm
    have hE := Lib.hid (etake_nil s)
    clear hn hl hcm hA hnc
    go_enter Try.func10, Try.ntmps10
    go_wp2
    try simp only [Exit.inBlock, Exit.then]
    refine bodyPost_ret (results_tmp4 rfl _ _ _) rfl ?_
    rw [hE.out]
    exact RetT7.no (Below.refl _ _)
  · have h0i : ((n : Int) == 0) = false := by simp; omega
    have h0l : 0 < l.length := by omega
    obtain ⟨ad, rfl, hadlt, hcell⟩ := hl.cell (k := 0) (by rw [List.length_map]; exact h0l)
    obtain ⟨B, hB⟩ : ∃ B : Nat, B = l[0].toNat := ⟨_, rfl⟩
    have hB8 : B < 256 := by rw [hB]; exact UInt8.toNat_lt _
    have hc0 : w.cell? ad = some (.int .u8 (B : Int)) := by
      have h1 : ad.add 0 = ad := by unfold Addr.add; split <;> simp_all
      rw [← h1, hcell, List.getElem_map, hB]; rfl
    have HB := Lib.hid hB
    have hn0 : (0 : Int) < (n : Int) := by omega
    clear hcell hB
    by_cases h64 : 64 ≤ B
    · have h64i : (64 : Int) ≤ (B : Int) := by omega
      have hE := Lib.hid (etake_big (s := s) h0l (by rw [← HB.out]; exact h64))
      clear hn hl hcm hA
      go_enter Try.func10, Try.ntmps10
      go_wp2
      try simp only [Exit.inBlock, Exit.then]
      refine bodyPost_ret (results_tmp4 rfl _ _ _) rfl ?_
      rw [hE.out]
      exact RetT7.no (Below.refl _ _)
    · have h64i : ¬ (64 : Int) ≤ (B : Int) := by omega
      obtain ⟨K, hK⟩ : ∃ K, K = B / 8 + 1 := ⟨_, rfl⟩
      obtain ⟨T, hT⟩ : ∃ T, T = B % 8 + 3 := ⟨_, rfl⟩
      have hKi : (B : Int) / 8 + 1 = (K : Int) := by omega
      have hTi : (B : Int) % 8 + 3 = (T : Int) := by omega
      have hK8 : K ≤ 8 := by omega
      have hK1 : 1 ≤ K := by omega
      have hT10 : T ≤ 10 := by omega
      have hT3 : 3 ≤ T := by omega
      have HK := Lib.hid (show K = l[0].toNat / 8 + 1 by rw [← HB.out]; exact hK)
      have HT := Lib.hid (show T = l[0].toNat % 8 + 3 by rw [← HB.out]; exact hT)
      by_cases hs : n < K + 1
      · have hsi : (n : Int) < (K : Int) + 1 := by omega
        have hE := Lib.hid (etake_short (s := s) h0l HK.out (by rw [← HN.out]; exact hs))
        clear hn hl hcm hA hK hT
        go_enter Try.func10, Try.ntmps10
        go_wp2
        try simp only [Exit.inBlock, Exit.then]
        refine bodyPost_ret (results_tmp4 rfl _ _ _) rfl ?_
        rw [hE.out]
        exact RetT7.no (Below.refl _ _)
      · have hsi : ¬ (n : Int) < (K : Int) + 1 := by omega
        have HLi := Lib.hid hl
        have HF := Lib.hid fun (W : World) (h : Below w.heap.size w W) => from_named (P := Try.prog) elemB (k := K + 1) (by omega) hnc hcm hn.symm (hl.below h) hA
        have HI : Hid (IsB (l.take (K + 1)) (.slice (some ad) (K + 1) c) w) := Lib.hid ⟨some ad, c, by rw [List.length_take, ← hn]; congr 1; omega, fun h => by simp at h, by rw [List.length_take]; omega, hcm, by rw [List.map_take]; exact hl.take _⟩
        clear hn hl hcm hA hK hT
        go_enter Try.func10, Try.ntmps10
        go_wp2
        go_loop [10, 11] (RTake7Rel (l.drop 1) K) (fun _ i => K - (intOf i).toNat)
        case atStart => exact ⟨0, 0, by omega, rfl, rfl, by simp [bval]⟩
        case round =>
          obtain ⟨k, U, hk, rfl, rfl, hU⟩ := hrel
          have HU := Lib.hid hU
          clear hKi hTi
          by_cases hlt : k < K
          · have hU0 : 0 ≤ U := by omega
            have hU7 : U < 72057594037927936 := by rw [hU]; exact bval_seven _ (by omega)
            have hkl : k + 1 < l.length := by have := HN.out; omega
            obtain ⟨_, hAd, _, hcell⟩ := HLi.out.cell (k := k + 1) (by rw [List.length_map]; exact hkl)
            injection hAd with hAd
            subst hAd
            obtain ⟨y, hy⟩ : ∃ y : Nat, y = l[k + 1].toNat := ⟨_, rfl⟩
            have hy8 : y < 256 := by rw [hy]; exact UInt8.toNat_lt _
            have hcy : w.cell? (ad.add (k + 1)) = some (.int .u8 (y : Int)) := by rw [hcell, List.getElem_map, hy]; rfl
            have hkn : (k : Int) + 1 < (n : Int) := by omega
            have hcy2 : w.cell? ⟨ad.block, ad.off + (k + 1), none⟩ = some (.int .u8 (y : Int)) := by simpa [Addr.add] using hcy
            have HY := Lib.hid hy
            clear hcell hy hU
            go_wp2
            go_round
            case rel =>
              refine ⟨k + 1, 256 * U + y, by omega, by go_num, rfl, ?_⟩
              rw [bval_at _ _ (by rw [List.length_drop]; omega), List.getElem_drop, HU.out, HY.out]
              simp [Nat.add_comm]
            case measure => simp [intOf]; omega
          · obtain rfl : K = k := by omega
            obtain ⟨u, hu⟩ : ∃ u, u = bval ((l.drop 1).take K) := ⟨_, rfl⟩
            have hu64 : u < 2 ^ 64 := by rw [hu]; exact bval_eight _ hK8
            rw [← hu] at hU
            have HMd := Lib.hid fun W => rmade7_any U s W (by omega) (by omega)
            rw [show U.toNat = u by omega] at HMd
            obtain ⟨X, hX⟩ : ∃ X, X = (emade u s).getD 0 := ⟨_, rfl⟩
            obtain ⟨ok, hok⟩ : ∃ ok, ok = (emade u s).isSome := ⟨_, rfl⟩
            rw [← hX, ← hok] at HMd
            have hXb : -9223372036854775808 ≤ X ∧ X ≤ 9223372036854775807 := by
              cases he : emade u s with
              | none => rw [hX, he]; simp
              | some x => rw [hX, he]; exact emade_bd hu64 he
            have HPt := Lib.hid fun W => rput7_any X T s W hXb.1 hXb.2
            have hKl : K + 1 ≤ l.length := by have := HN.out; omega
            cases ok with
            | false =>
              have hE := Lib.hid (etake_none (s := s) h0l HK.out hu (.inl (by simpa using hok.symm)))
              obtain ⟨p, hp⟩ : ∃ p, p = eput X T s := ⟨_, rfl⟩
              rw [← hp] at HPt
              obtain ⟨p1, p2⟩ := p
              clear hp hok hX hu hU HU hu64 hXb hKl
              go_wp2_with (go_at_call 18; refine (HMd.out _).mono ?_; rintro e w' ⟨rfl, rfl⟩)
              refine (HPt.out _).mono ?_
              rintro e w1 ⟨vc, rfl, hvc, hbw⟩
              have HVC := Lib.hid hvc
              clear hvc
              go_wp2
              refine wp_region_list [.is (.bool false), .is (.bool true), .is (.bool true), .any, .any, .is (.bool true), .is (.bool true), .any, .any, .any, .any, .any, .any, .any, .any, .is (.bool true)] [some 69, some 70, some 71, some 72, some 73, some 74, some 75, some 76, some 77, some 78, some 79, some 80, some 81, some 82, some 83, some 84] (by kernel_rfl) (by kernel_rfl) (by kernel_rfl) rfl ⟨?_, ?_, ?_, ?_, ?_, ?_, ?_, ?_, ?_, ?_, ?_, ?_, ?_, ?_, ?_, ?_, trivial⟩ ?_
              · intro ρ W1 hb1 H
                exact gives_move rfl (H.old 13 _ (by kernel_rfl) rfl) ⟨rfl, Below.refl _ _⟩
              · intro ρ W1 hb1 H
                exact gives_not rfl (H.new 69 0 (by kernel_rfl)) ⟨rfl, Below.refl _ _⟩
              · intro ρ W1 hb1 H
                exact gives_move rfl (H.new 70 1 (by kernel_rfl)) ⟨rfl, Below.refl _ _⟩
              · intro ρ W1 hb1 H d hd
                have hd' : (some 71 : Option Tmp) = some d := hd
                injection hd' with hd'
                subst hd'
                exact ⟨(fun hh => by cases hh.symm.trans (H.new 71 2 (by kernel_rfl))), fun _ => trivial⟩
              · intro ρ W1 hb1 H d hd
                have hd' : (some 71 : Option Tmp) = some d := hd
                injection hd' with hd'
                subst hd'
                exact ⟨(fun hh => by cases hh.symm.trans (H.new 71 2 (by kernel_rfl))), fun _ => trivial⟩
              · intro ρ W1 hb1 H
                exact gives_pick_t rfl (H.new 71 2 (by kernel_rfl)) (H.const _) ⟨rfl, Below.refl _ _⟩
              · intro ρ W1 hb1 H
                exact gives_move rfl (H.new 74 5 (by kernel_rfl)) ⟨rfl, Below.refl _ _⟩
              · intro ρ W1 hb1 H d hd
                have hd' : (some 75 : Option Tmp) = some d := hd
                injection hd' with hd'
                subst hd'
                exact ⟨(fun hh => by cases hh.symm.trans (H.new 75 6 (by kernel_rfl))), fun _ => trivial⟩
              · intro ρ W1 hb1 H d hd
                have hd' : (some 75 : Option Tmp) = some d := hd
                injection hd' with hd'
                subst hd'
                exact ⟨(fun hh => by cases hh.symm.trans (H.new 75 6 (by kernel_rfl))), fun _ => trivial⟩
              · intro ρ W1 hb1 H d hd
                have hd' : (some 75 : Option Tmp) = some d := hd
                injection hd' with hd'
                subst hd'
                exact ⟨(fun hh => by cases hh.symm.trans (H.new 75 6 (by kernel_rfl))), fun _ => trivial⟩
              · intro ρ W1 hb1 H d hd
                have hd' : (some 75 : Option Tmp) = some d := hd
                injection hd' with hd'
                subst hd'
                exact ⟨(fun hh => by cases hh.symm.trans (H.new 75 6 (by kernel_rfl))), fun _ => trivial⟩
              · intro ρ W1 hb1 H d hd
                have hd' : (some 75 : Option Tmp) = some d := hd
                injection hd' with hd'
                subst hd'
                exact ⟨(fun hh => by cases hh.symm.trans (H.new 75 6 (by kernel_rfl))), fun _ => trivial⟩
              · intro ρ W1 hb1 H d hd
                have hd' : (some 75 : Option Tmp) = some d := hd
                injection hd' with hd'
                subst hd'
                exact ⟨(fun hh => by cases hh.symm.trans (H.new 75 6 (by kernel_rfl))), fun _ => trivial⟩
              · intro ρ W1 hb1 H d hd
                have hd' : (some 75 : Option Tmp) = some d := hd
                injection hd' with hd'
                subst hd'
                exact ⟨(fun hh => by cases hh.symm.trans (H.new 75 6 (by kernel_rfl))), fun _ => trivial⟩
              · intro ρ W1 hb1 H d hd
                have hd' : (some 75 : Option Tmp) = some d := hd
                injection hd' with hd'
                subst hd'
                exact ⟨(fun hh => by cases hh.symm.trans (H.new 75 6 (by kernel_rfl))), fun _ => trivial⟩
              · intro ρ W1 hb1 H
                exact gives_pick_t rfl (H.new 75 6 (by kernel_rfl)) (H.const _) ⟨rfl, Below.refl _ _⟩
              · intro vs W1 hb1 hfs
                have f15 : vs 15 = .bool true := hfs 15 (by decide)
                clear hfs
                simp only [putAll, Nat.zero_add, Nat.reduceAdd]
                generalize vs 0 = z0
                generalize vs 1 = z1
                generalize vs 2 = z2
                generalize vs 3 = z3
                generalize vs 4 = z4
                generalize vs 5 = z5
                generalize vs 6 = z6
                generalize vs 7 = z7
                generalize vs 8 = z8
                generalize vs 9 = z9
                generalize vs 10 = z10
                generalize vs 11 = z11
                generalize vs 12 = z12
                generalize vs 13 = z13
                generalize vs 14 = z14
                simp only [f15, Act.put, List.setIfInBounds_toArray, List.set_cons_succ, List.set_cons_zero]
                clear f15
                go_wp2
                try simp only [Exit.inBlock, Exit.then]
                refine bodyPost_ret (results_tmp4 rfl _ _ _) rfl ?_
                rw [hE.out]
                exact RetT7.no (below_then hbw hb1)
            | true =>
              have hsome : emade u s = some X := by
                cases he : emade u s with
                | none => rw [he] at hok; simp at hok
                | some x => rw [he] at hX; simp at hX; rw [hX]
              rw [eput_ok hT3 hT10 (eplain_emade hsome)] at HPt
              by_cases hq : ebytes u = K
              · have HQ : Hid ((elay u T == l.take (K + 1)) = true) := Lib.hid (by rw [beq_iff_eq]; exact (elay_same h0l HK.out HT.out hKl hu).2 hq)
                have hE := Lib.hid (etake_some (s := s) h0l HK.out (by rw [← HB.out]; omega) hKl hu hsome hq)
                rw [← HT.out] at hE
                clear hok hX hu hU HU hu64 hXb hKl hsome hq
                go_wp2_with (go_at_call 18; refine (HMd.out _).mono ?_; rintro e w' ⟨rfl, rfl⟩)
                refine (HPt.out _).mono ?_
                rintro e w1 ⟨vc, rfl, hvc, hbw⟩
                have HVC := Lib.hid hvc
                clear hvc
                go_wp2
                refine wp_region_list [.is (.bool true), .is (.bool false), .is (.bool false), .is (.int .i64 0), .is (.bool false), .is (.bool false), .is (.bool false), .bytes (elay u T), .is (.string ⟨(elay u T).toArray⟩), .is (.slice (some ad) n c), .is (.int .i64 (K : Int)), .is (.int .i64 ((K + 1 : Nat) : Int)), .is (.slice (some ad) (K + 1) c), .is (.string ⟨(l.take (K + 1)).toArray⟩), .is (.bool false), .is (.bool false)] [some 69, some 70, some 71, some 72, some 73, some 74, some 75, some 76, some 77, some 78, some 79, some 80, some 81, some 82, some 83, some 84] (by kernel_rfl) (by kernel_rfl) (by kernel_rfl) rfl ⟨?_, ?_, ?_, ?_, ?_, ?_, ?_, ?_, ?_, ?_, ?_, ?_, ?_, ?_, ?_, ?_, trivial⟩ ?_
                · intro ρ W1 hb1 H
                  exact gives_move rfl (H.old 13 _ (by kernel_rfl) rfl) ⟨rfl, Below.refl _ _⟩
                · intro ρ W1 hb1 H
                  exact gives_not rfl (H.new 69 0 (by kernel_rfl)) ⟨rfl, Below.refl _ _⟩
                · intro ρ W1 hb1 H
                  exact gives_move rfl (H.new 70 1 (by kernel_rfl)) ⟨rfl, Below.refl _ _⟩
                · intro ρ W1 hb1 H d hd
                  have hd' : (some 71 : Option Tmp) = some d := hd
                  injection hd' with hd'
                  subst hd'
                  refine ⟨fun _ => ?_, fun hne => absurd (H.new 71 2 (by kernel_rfl)) hne⟩
                  exact gives_move rfl (H.old 15 _ (by kernel_rfl) rfl) ⟨rfl, Below.refl _ _⟩
                · intro ρ W1 hb1 H d hd
                  have hd' : (some 71 : Option Tmp) = some d := hd
                  injection hd' with hd'
                  subst hd'
                  refine ⟨fun _ => ?_, fun hne => absurd (H.new 71 2 (by kernel_rfl)) hne⟩
                  exact gives_intne rfl (H.new 72 3 (by kernel_rfl)) (H.const _) ⟨rfl, Below.refl _ _⟩
                · intro ρ W1 hb1 H
                  exact gives_pick_f rfl (H.new 71 2 (by kernel_rfl)) (H.new 73 4 (by kernel_rfl)) ⟨rfl, Below.refl _ _⟩
                · intro ρ W1 hb1 H
                  exact gives_move rfl (H.new 74 5 (by kernel_rfl)) ⟨rfl, Below.refl _ _⟩
                · intro ρ W1 hb1 H d hd
                  have hd' : (some 75 : Option Tmp) = some d := hd
                  injection hd' with hd'
                  subst hd'
                  refine ⟨fun _ => ?_, fun hne => absurd (H.new 75 6 (by kernel_rfl)) hne⟩
                  exact gives_move rfl (H.old 14 _ (by kernel_rfl) rfl) ⟨HVC.out.below hb1, Below.refl _ _⟩
                · intro ρ W1 hb1 H d hd
                  have hd' : (some 75 : Option Tmp) = some d := hd
                  injection hd' with hd'
                  subst hd'
                  refine ⟨fun _ => ?_, fun hne => absurd (H.new 75 6 (by kernel_rfl)) hne⟩
                  have hB : IsB (elay u T) (ρ (.tmp 76)) W1 := H.new 76 7 (by kernel_rfl)
                  exact gives_convert rfl rfl (hB.text _ _ _ Try.underlying23 Try.underlying5 Try.underlying9) ⟨rfl, Below.refl _ _⟩
                · intro ρ W1 hb1 H d hd
                  have hd' : (some 75 : Option Tmp) = some d := hd
                  injection hd' with hd'
                  subst hd'
                  refine ⟨fun _ => ?_, fun hne => absurd (H.new 75 6 (by kernel_rfl)) hne⟩
                  exact gives_move rfl (H.old 0 _ (by kernel_rfl) rfl) ⟨rfl, Below.refl _ _⟩
                · intro ρ W1 hb1 H d hd
                  have hd' : (some 75 : Option Tmp) = some d := hd
                  injection hd' with hd'
                  subst hd'
                  refine ⟨fun _ => ?_, fun hne => absurd (H.new 75 6 (by kernel_rfl)) hne⟩
                  exact gives_move rfl (H.old 8 _ (by kernel_rfl) rfl) ⟨rfl, Below.refl _ _⟩
                · intro ρ W1 hb1 H d hd
                  have hd' : (some 75 : Option Tmp) = some d := hd
                  injection hd' with hd'
                  subst hd'
                  refine ⟨fun _ => ?_, fun hne => absurd (H.new 75 6 (by kernel_rfl)) hne⟩
                  exact gives_add rfl (H.new 79 10 (by kernel_rfl)) (H.const _) (by omega) (by omega) ⟨rfl, Below.refl _ _⟩
                · intro ρ W1 hb1 H d hd
                  have hd' : (some 75 : Option Tmp) = some d := hd
                  injection hd' with hd'
                  subst hd'
                  refine ⟨fun _ => ?_, fun hne => absurd (H.new 75 6 (by kernel_rfl)) hne⟩
                  exact gives_upto elemB rfl (H.new 78 9 (by kernel_rfl)) (H.new 80 11 (by kernel_rfl)) (by omega) ⟨rfl, Below.refl _ _⟩
                · intro ρ W1 hb1 H d hd
                  have hd' : (some 75 : Option Tmp) = some d := hd
                  injection hd' with hd'
                  subst hd'
                  refine ⟨fun _ => ?_, fun hne => absurd (H.new 75 6 (by kernel_rfl)) hne⟩
                  exact gives_convert rfl (H.new 81 12 (by kernel_rfl)) (textB (HI.out.below (below_then hbw hb1))) ⟨rfl, Below.refl _ _⟩
                · intro ρ W1 hb1 H d hd
                  have hd' : (some 75 : Option Tmp) = some d := hd
                  injection hd' with hd'
                  subst hd'
                  refine ⟨fun _ => ?_, fun hne => absurd (H.new 75 6 (by kernel_rfl)) hne⟩
                  exact gives_textne (a := elay u T) (b := l.take (K + 1)) rfl (H.new 77 8 (by kernel_rfl)) (H.new 82 13 (by kernel_rfl)) ⟨by rw [HQ.out]; rfl, Below.refl _ _⟩
                · intro ρ W1 hb1 H
                  exact gives_pick_f rfl (H.new 75 6 (by kernel_rfl)) (H.new 83 14 (by kernel_rfl)) ⟨rfl, Below.refl _ _⟩
                · intro vs W1 hb1 hfs
                  have f15 : vs 15 = .bool false := hfs 15 (by decide)
                  clear hfs
                  simp only [putAll, Nat.zero_add, Nat.reduceAdd]
                  generalize vs 0 = z0
                  generalize vs 1 = z1
                  generalize vs 2 = z2
                  generalize vs 3 = z3
                  generalize vs 4 = z4
                  generalize vs 5 = z5
                  generalize vs 6 = z6
                  generalize vs 7 = z7
                  generalize vs 8 = z8
                  generalize vs 9 = z9
                  generalize vs 10 = z10
                  generalize vs 11 = z11
                  generalize vs 12 = z12
                  generalize vs 13 = z13
                  generalize vs 14 = z14
                  simp only [f15, Act.put, List.setIfInBounds_toArray, List.set_cons_succ, List.set_cons_zero]
                  clear f15
                  have hbW := below_then hbw hb1
                  have hown0 : (W1.alloc (.cells #[] 5)).ownsRow w.heap.size 5 1 (.slice (some ⟨W1.heap.size, 0, none⟩) 0 0) 0 [] := World.ownsRow_made W1 #[] 0 hbW.size (by unfold maxLen; omega) (by simp)
                  have hbA : Below w.heap.size w (W1.alloc (.cells #[] 5)) := hbW.alloc hbW.size _
                  have hz := hbA.size
                  obtain ⟨q, hqq⟩ : ∃ q, q = K + 1 := ⟨_, rfl⟩
                  have HF2 := HF.out (W1.alloc (.cells #[] 5)) hbA
                  rw [← hqq] at HF2 hE
                  obtain ⟨vf, hvf, A6, c6, hv6, hA6, hc6, hm6, hl6⟩ := HF2
                  have hk1 : (K : Int) + 1 = (q : Int) := by omega
                  have hqn : q ≤ n := by omega
                  have hpl : (l.drop (q)).length = n - (q) := by rw [List.length_drop, HN.out]
                  have hpm : ((l.drop (q)).map bv).length = n - (q) := by rw [List.length_map]; exact hpl
                  have HPM := Lib.hid hpm
                  rw [hpl] at hv6 hA6
                  subst hv6
                  clear hpl hpm hqq
                  go_wp2_with (at_builtin; refine wpList_join elemB rfl _ _ rfl w.heap.size _ _ _ _ _ _ ((l.drop (q)).map bv) w rfl rfl hA6 HPM.out hl6 (bv_one _) hown0 hbA hz (by omega) (by omega) ?_)
                  intro v7 w7 hown7 hb7 _ _
                  have hI7 : IsB (l.drop (q)) v7 w7 := isB_own (n := n - (q)) (by simpa using hown7)
                  have HI7 := Lib.hid hI7
                  clear hown7 hown0 hbA hz hl6 hI7 hk1
                  go_wp2
                  try simp only [Exit.inBlock, Exit.then]
                  refine bodyPost_ret (results_tmp4 rfl _ _ _) rfl ?_
                  rw [hE.out]
                  exact ⟨_, rfl, HI7.out, hb7⟩
              · have HQ : Hid ((elay u T == l.take (K + 1)) = false) := Lib.hid (by rw [beq_eq_false_iff_ne]; exact fun h => hq ((elay_same h0l HK.out HT.out hKl hu).1 h))
                have hE := Lib.hid (etake_none (s := s) h0l HK.out hu (.inr hq))
                clear hok hX hu hU HU hu64 hXb hKl hsome hq
                go_wp2_with (go_at_call 18; refine (HMd.out _).mono ?_; rintro e w' ⟨rfl, rfl⟩)
                refine (HPt.out _).mono ?_
                rintro e w1 ⟨vc, rfl, hvc, hbw⟩
                have HVC := Lib.hid hvc
                clear hvc
                go_wp2
                refine wp_region_list [.is (.bool true), .is (.bool false), .is (.bool false), .is (.int .i64 0), .is (.bool false), .is (.bool false), .is (.bool false), .bytes (elay u T), .is (.string ⟨(elay u T).toArray⟩), .is (.slice (some ad) n c), .is (.int .i64 (K : Int)), .is (.int .i64 ((K + 1 : Nat) : Int)), .is (.slice (some ad) (K + 1) c), .is (.string ⟨(l.take (K + 1)).toArray⟩), .is (.bool true), .is (.bool true)] [some 69, some 70, some 71, some 72, some 73, some 74, some 75, some 76, some 77, some 78, some 79, some 80, some 81, some 82, some 83, some 84] (by kernel_rfl) (by kernel_rfl) (by kernel_rfl) rfl ⟨?_, ?_, ?_, ?_, ?_, ?_, ?_, ?_, ?_, ?_, ?_, ?_, ?_, ?_, ?_, ?_, trivial⟩ ?_
                · intro ρ W1 hb1 H
                  exact gives_move rfl (H.old 13 _ (by kernel_rfl) rfl) ⟨rfl, Below.refl _ _⟩
                · intro ρ W1 hb1 H
                  exact gives_not rfl (H.new 69 0 (by kernel_rfl)) ⟨rfl, Below.refl _ _⟩
                · intro ρ W1 hb1 H
                  exact gives_move rfl (H.new 70 1 (by kernel_rfl)) ⟨rfl, Below.refl _ _⟩
                · intro ρ W1 hb1 H d hd
                  have hd' : (some 71 : Option Tmp) = some d := hd
                  injection hd' with hd'
                  subst hd'
                  refine ⟨fun _ => ?_, fun hne => absurd (H.new 71 2 (by kernel_rfl)) hne⟩
                  exact gives_move rfl (H.old 15 _ (by kernel_rfl) rfl) ⟨rfl, Below.refl _ _⟩
                · intro ρ W1 hb1 H d hd
                  have hd' : (some 71 : Option Tmp) = some d := hd
                  injection hd' with hd'
                  subst hd'
                  refine ⟨fun _ => ?_, fun hne => absurd (H.new 71 2 (by kernel_rfl)) hne⟩
                  exact gives_intne rfl (H.new 72 3 (by kernel_rfl)) (H.const _) ⟨rfl, Below.refl _ _⟩
                · intro ρ W1 hb1 H
                  exact gives_pick_f rfl (H.new 71 2 (by kernel_rfl)) (H.new 73 4 (by kernel_rfl)) ⟨rfl, Below.refl _ _⟩
                · intro ρ W1 hb1 H
                  exact gives_move rfl (H.new 74 5 (by kernel_rfl)) ⟨rfl, Below.refl _ _⟩
                · intro ρ W1 hb1 H d hd
                  have hd' : (some 75 : Option Tmp) = some d := hd
                  injection hd' with hd'
                  subst hd'
                  refine ⟨fun _ => ?_, fun hne => absurd (H.new 75 6 (by kernel_rfl)) hne⟩
                  exact gives_move rfl (H.old 14 _ (by kernel_rfl) rfl) ⟨HVC.out.below hb1, Below.refl _ _⟩
                · intro ρ W1 hb1 H d hd
                  have hd' : (some 75 : Option Tmp) = some d := hd
                  injection hd' with hd'
                  subst hd'
                  refine ⟨fun _ => ?_, fun hne => absurd (H.new 75 6 (by kernel_rfl)) hne⟩
                  have hB : IsB (elay u T) (ρ (.tmp 76)) W1 := H.new 76 7 (by kernel_rfl)
                  exact gives_convert rfl rfl (hB.text _ _ _ Try.underlying23 Try.underlying5 Try.underlying9) ⟨rfl, Below.refl _ _⟩
                · intro ρ W1 hb1 H d hd
                  have hd' : (some 75 : Option Tmp) = some d := hd
                  injection hd' with hd'
                  subst hd'
                  refine ⟨fun _ => ?_, fun hne => absurd (H.new 75 6 (by kernel_rfl)) hne⟩
                  exact gives_move rfl (H.old 0 _ (by kernel_rfl) rfl) ⟨rfl, Below.refl _ _⟩
                · intro ρ W1 hb1 H d hd
                  have hd' : (some 75 : Option Tmp) = some d := hd
                  injection hd' with hd'
                  subst hd'
                  refine ⟨fun _ => ?_, fun hne => absurd (H.new 75 6 (by kernel_rfl)) hne⟩
                  exact gives_move rfl (H.old 8 _ (by kernel_rfl) rfl) ⟨rfl, Below.refl _ _⟩
                · intro ρ W1 hb1 H d hd
                  have hd' : (some 75 : Option Tmp) = some d := hd
                  injection hd' with hd'
                  subst hd'
                  refine ⟨fun _ => ?_, fun hne => absurd (H.new 75 6 (by kernel_rfl)) hne⟩
                  exact gives_add rfl (H.new 79 10 (by kernel_rfl)) (H.const _) (by omega) (by omega) ⟨rfl, Below.refl _ _⟩
                · intro ρ W1 hb1 H d hd
                  have hd' : (some 75 : Option Tmp) = some d := hd
                  injection hd' with hd'
                  subst hd'
                  refine ⟨fun _ => ?_, fun hne => absurd (H.new 75 6 (by kernel_rfl)) hne⟩
                  exact gives_upto elemB rfl (H.new 78 9 (by kernel_rfl)) (H.new 80 11 (by kernel_rfl)) (by omega) ⟨rfl, Below.refl _ _⟩
                · intro ρ W1 hb1 H d hd
                  have hd' : (some 75 : Option Tmp) = some d := hd
                  injection hd' with hd'
                  subst hd'
                  refine ⟨fun _ => ?_, fun hne => absurd (H.new 75 6 (by kernel_rfl)) hne⟩
                  exact gives_convert rfl (H.new 81 12 (by kernel_rfl)) (textB (HI.out.below (below_then hbw hb1))) ⟨rfl, Below.refl _ _⟩
                · intro ρ W1 hb1 H d hd
                  have hd' : (some 75 : Option Tmp) = some d := hd
                  injection hd' with hd'
                  subst hd'
                  refine ⟨fun _ => ?_, fun hne => absurd (H.new 75 6 (by kernel_rfl)) hne⟩
                  exact gives_textne (a := elay u T) (b := l.take (K + 1)) rfl (H.new 77 8 (by kernel_rfl)) (H.new 82 13 (by kernel_rfl)) ⟨by rw [HQ.out]; rfl, Below.refl _ _⟩
                · intro ρ W1 hb1 H
                  exact gives_pick_f rfl (H.new 75 6 (by kernel_rfl)) (H.new 83 14 (by kernel_rfl)) ⟨rfl, Below.refl _ _⟩
                · intro vs W1 hb1 hfs
                  have f15 : vs 15 = .bool true := hfs 15 (by decide)
                  clear hfs
                  simp only [putAll, Nat.zero_add, Nat.reduceAdd]
                  generalize vs 0 = z0
                  generalize vs 1 = z1
                  generalize vs 2 = z2
                  generalize vs 3 = z3
                  generalize vs 4 = z4
                  generalize vs 5 = z5
                  generalize vs 6 = z6
                  generalize vs 7 = z7
                  generalize vs 8 = z8
                  generalize vs 9 = z9
                  generalize vs 10 = z10
                  generalize vs 11 = z11
                  generalize vs 12 = z12
                  generalize vs 13 = z13
                  generalize vs 14 = z14
                  simp only [f15, Act.put, List.setIfInBounds_toArray, List.set_cons_succ, List.set_cons_zero]
                  clear f15
                  go_wp2
                  try simp only [Exit.inBlock, Exit.then]
                  refine bodyPost_ret (results_tmp4 rfl _ _ _) rfl ?_
                  rw [hE.out]
                  exact RetT7.no (below_then hbw hb1)
end Go.Proofs.Ythbmgedfhpdmpaa
