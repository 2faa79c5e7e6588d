
/- repeat's Take. -/

import Derived.Test.YthbmgedfhpdmpaaEOwn

namespace Go.Proofs.Ythbmgedfhpdmpaa

open Go.RowKit

/-- x[i:k], x[i:] at a step of the walk, what it answers being known. -/
theorem wpList_sliced {P : Program} {w : World} {ops : Array Oper} {rest : List Oper} {o : Oper} {a : Act} {Q : Exit → Act → World → Prop} (hgd : o.guard = none) (t : TypeId) (x y z : Operand) (ho : o.op = .slice t x (some y) (some z) none)
    (v : Value) (hrun : (Instr.sliceAt t (a.eval x) (some (a.eval y)) (some (a.eval z)) none).run P w = .ok v w) (h : wpList P ops Q rest (a.put o.dst v) w) : wpList P ops Q (o :: rest) a w := by
  refine wpList_plain hgd fun K hK => ?_
  unfold Oper.wp execOp
  simp only [ho, Option.map_some, Option.map_none, hrun, Sem.run_bind, Sem.run_pure, Result.andThen_ok]
  exact hK _ _ h
theorem wpList_slicedL {P : Program} {w : World} {ops : Array Oper} {rest : List Oper} {o : Oper} {a : Act} {Q : Exit → Act → World → Prop} (hgd : o.guard = none) (t : TypeId) (x y : Operand) (ho : o.op = .slice t x (some y) none none)
    (v : Value) (hrun : (Instr.sliceAt t (a.eval x) (some (a.eval y)) none none).run P w = .ok v w) (h : wpList P ops Q rest (a.put o.dst v) w) : wpList P ops Q (o :: rest) a w := by
  refine wpList_plain hgd fun K hK => ?_
  unfold Oper.wp execOp
  simp only [ho, Option.map_some, Option.map_none, hrun, Sem.run_bind, Sem.run_pure, Result.andThen_ok]
  exact hK _ _ h
set_option maxHeartbeats 1000000 in
theorem etake_any (l : List UInt8) (v : Value) (s : Bool) (w : World) (hv : IsB l v w) (hb : l.length ≤ 1000000) :
    Calls Try.prog 9 #[v, .bool s] w (RetT7 w (etake l s)) := by
  obtain ⟨A, c, rfl, hA, hnc, hcm, hl⟩ := hv
  obtain ⟨n, hn⟩ : ∃ n, n = l.length := ⟨_, rfl⟩
  rw [← hn] at hA hnc hb ⊢
  have hci : (c : Int) ≤ 9223372036854775807 := by unfold maxLen at hcm; omega
  have HN := Lib.hid hn
  by_cases h0 : n = 0
  · subst h0
    obtain rfl : l = [] := List.eq_nil_of_length_eq_zero hn.symm
    have hE := Lib.hid (etake_nil s)
    clear hn hl hcm hA hnc
    go_enter Try.func9, Try.ntmps9
    go_wp2_with (go_at_call 16; refine (elook_none _ _ _).mono ?_; rintro e w' ⟨rfl, rfl⟩)
    try simp only [Exit.inBlock, Exit.then]
    refine bodyPost_ret (results_tmp4 rfl _ _ _) rfl ?_
    rw [hE.out]
    exact RetT7.no (Below.refl _ _)
  · have h0l : 0 < l.length := by omega
    obtain ⟨ad, rfl, hadlt, hcell⟩ := hl.cell (k := 0) (by rw [List.length_map]; exact h0l)
    obtain ⟨B, hB⟩ : ∃ B : Nat, B = l[0].toNat := ⟨_, rfl⟩
    have hB8 : B < 256 := by rw [hB]; exact UInt8.toNat_lt _
    have hc0 : w.cell? ad = some (.int .u8 (B : Int)) := by
      have h1 : ad.add 0 = ad := by unfold Addr.add; split <;> simp_all
      rw [← h1, hcell, List.getElem_map, hB]; rfl
    have HB := Lib.hid hB
    obtain ⟨K, hK⟩ : ∃ K, K = B / 8 + 1 := ⟨_, rfl⟩
    obtain ⟨T, hT⟩ : ∃ T, T = B % 8 + 3 := ⟨_, rfl⟩
    obtain ⟨ok, hok⟩ : ∃ ok, ok = decide (K ≤ 8 ∧ K < n) := ⟨_, rfl⟩
    have HLk := Lib.hid (elook_any ad n c B K T ok w hc0 hB8 (by omega) hb hK hT hok)
    have HK := Lib.hid (show K = l[0].toNat / 8 + 1 by rw [← HB.out]; exact hK)
    have hT10 : T ≤ 10 := by omega
    have hK32 : K ≤ 32 := by omega
    cases ok with
    | false =>
      have hE : Hid (etake l s = (0, 0, [], 2)) := by
        by_cases h64 : 64 ≤ B
        · exact Lib.hid (etake_big h0l (by rw [← HB.out]; exact h64))
        · exact Lib.hid (etake_short h0l HK.out (by have := of_decide_eq_false hok.symm; omega))
      clear hn hl hcm hA hnc hok hK hT hB hcell hc0
      go_enter Try.func9, Try.ntmps9
      go_wp2_with (go_at_call 16; refine HLk.out.mono ?_)
      rintro e w2 ⟨rfl, hb2⟩
      have HB2 := Lib.hid hb2
      clear hb2
      go_wp2
      try simp only [Exit.inBlock, Exit.then]
      refine bodyPost_ret (results_tmp4 rfl _ _ _) rfl ?_
      rw [hE.out]
      exact RetT7.no HB2.out
    | true =>
      obtain ⟨hK8, hKn⟩ := of_decide_eq_true hok.symm
      have h64 : B < 64 := by omega
      obtain ⟨j, hj⟩ : ∃ j, j = K + 1 := ⟨_, rfl⟩
      have hji : 1 + (K : Int) = (j : Int) := by omega
      obtain ⟨d, hd⟩ : ∃ d, d = (l.drop 1).take K := ⟨_, rfl⟩
      have hdl : d.length = K := by rw [hd, List.length_take, List.length_drop, ← hn]; omega
      have HP := Lib.hid fun (W : World) (h : Below w.heap.size w W) => piece_named (P := Try.prog) elemB (i := 1) (k := j) (by omega) (by omega) hnc hcm hn.symm (hl.below h) hA
      rw [show j - 1 = K by omega, show ((1 : Nat) : Int) = 1 from rfl, ← hji, ← hd] at HP
      have HF := Lib.hid fun (W : World) (h : Below w.heap.size w W) => from_named (P := Try.prog) elemB (k := j) (by omega) hnc hcm hn.symm (hl.below h) hA
      rw [← hji] at HF
      have HNm := Lib.hid (fun v W (hv : IsB d v W) => enumber_any s d v W hv (by omega))
      obtain ⟨X, hX⟩ : ∃ X, X = (enum d s).getD 0 := ⟨_, rfl⟩
      obtain ⟨ok2, hok2⟩ : ∃ ok, ok = (enum d s).isSome := ⟨_, rfl⟩
      rw [← hX, ← hok2] at HNm
      have HT := Lib.hid (show T = l[0].toNat % 8 + 3 by rw [← HB.out]; exact hT)
      have HLen : Hid ((l.drop j).length ≤ 1000000) := Lib.hid (by rw [List.length_drop]; omega)
      clear hji
      cases ok2 with
      | false =>
        have hE : Hid (etake l s = (0, 0, [], 2)) := Lib.hid (etake_none (u := bval d) h0l HK.out (by rw [hd]) (by
          unfold enum at hok2
          split at hok2
          · exact .inl (by simpa using hok2.symm)
          · rename_i h; exact .inr (by rwa [hdl] at h)))
        clear hn hl hcm hA hnc hok hK hT hB hcell hc0 hX hok2 hd hdl
        go_enter Try.func9, Try.ntmps9
        go_wp2_with (go_at_call 16; refine HLk.out.mono ?_)
        rintro e w2 ⟨rfl, hb2⟩
        have HB2 := Lib.hid hb2
        obtain ⟨v3, hv3, hI3⟩ := HP.out w2 hb2
        have HI3 := Lib.hid hI3
        clear hb2 hI3
        go_wp2_with (first | (go_at_call 17; refine (HNm.out _ _ HI3.out).mono ?_; rintro e w' ⟨rfl, rfl⟩) | (refine wpList_sliced rfl _ _ _ _ rfl v3 (hv3 _) ?_))
        try simp only [Exit.inBlock, Exit.then]
        refine bodyPost_ret (results_tmp4 rfl _ _ _) rfl ?_
        rw [hE.out]
        exact RetT7.no HB2.out
      | true =>
        have hE : Hid (etake l s = (X, (T : Int), l.drop j, 0)) := Lib.hid (by
          have h1 : ebytes (bval d) = K ∧ emade (bval d) s = some X := by
            unfold enum at hok2 hX
            split at hok2
            · rename_i h
              rw [if_pos h] at hX
              refine ⟨by rw [h, hdl], ?_⟩
              cases he : emade (bval d) s with
              | none => rw [he] at hok2; simp at hok2
              | some y => rw [he] at hX; simp at hX; rw [hX]
            · simp at hok2
          rw [etake_some (u := bval d) h0l HK.out (by rw [← HB.out]; exact h64) (by omega) (by rw [hd]) h1.2 h1.1, HT.out, hj])
        clear hn hl hcm hA hnc hok hK hT hB hcell hc0 hX hok2 hd hdl
        go_enter Try.func9, Try.ntmps9
        go_wp2_with (go_at_call 16; refine HLk.out.mono ?_)
        rintro e w2 ⟨rfl, hb2⟩
        have HB2 := Lib.hid hb2
        obtain ⟨v3, hv3, hI3⟩ := HP.out w2 hb2
        have HI3 := Lib.hid hI3
        obtain ⟨v4, hv4, hI4⟩ := HF.out w2 hb2
        have HI4 := Lib.hid hI4
        obtain ⟨A4, c4, hs4, hA4, _, _, hl4⟩ := hI4
        obtain ⟨n4, hn4⟩ : ∃ n, n = (l.drop j).length := ⟨_, rfl⟩
        rw [← hn4] at hs4 hA4
        subst hs4
        have hn46 : n4 ≤ 1000000 := by rw [hn4]; exact HLen.out
        have HN4 : Hid (((l.drop j).map bv).length = n4) := Lib.hid (by rw [List.length_map, hn4])
        clear hb2 hI3 hn4 hj
        go_wp2_with (first | (go_at_call 17; refine (HNm.out _ _ HI3.out).mono ?_; rintro e w' ⟨rfl, rfl⟩) | (refine wpList_sliced rfl _ _ _ _ rfl v3 (hv3 _) ?_) | (refine wpList_slicedL rfl _ _ _ rfl _ (hv4 _) ?_) | (at_builtin; refine wpList_join elemB rfl _ _ rfl w2.heap.size _ _ _ _ _ _ ((l.drop j).map bv) w2 rfl rfl hA4 HN4.out hl4 (bv_one _) (World.ownsRow_nil _ _ _ _) (Below.refl _ _) (Nat.le_refl _) (by omega) (by omega) ?_))
        intro v5 w5 hown5 hb5 _ _
        rw [← List.map_drop] at hown5
        have HV5 := Lib.hid (isB_own hown5)
        have HB5 := Lib.hid (below_then HB2.out hb5)
        clear hown5 hb5
        go_wp2
        try simp only [Exit.inBlock, Exit.then]
        refine bodyPost_ret (results_tmp4 rfl _ _ _) rfl ?_
        rw [hE.out]
        exact ⟨_, rfl, HV5.out, HB5.out⟩
end Go.Proofs.Ythbmgedfhpdmpaa
