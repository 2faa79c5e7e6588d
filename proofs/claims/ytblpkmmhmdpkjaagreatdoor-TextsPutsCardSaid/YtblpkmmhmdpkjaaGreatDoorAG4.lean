/- Texts that the claims of this seat share, part 4: TRPut TRTake TOwn TWay MulS TRep TPack TNum TUnp TGlue. -/
import Derived.Shelf.Bits.Mul64
import Derived.Laws.StructEq
import Derived.Test.YtblpkmmhmdpkjaaGreatDoorProg
import Derived.Test.YtblpkmmhmdpkjaaGreatDoorAG3
/- The contract of layer 9's reference's Put. -/







namespace Go.Proofs.YtblpkmmhmdpkjaaGreatDoor

open Go.RowKit

theorem gall_snoc (us : List Nat) (u : Nat) : gall (us ++ [u]) = (gall us && u == (us ++ [u]).headD 0) := by
  unfold gall
  rw [List.all_append]
  cases us with
  | nil => simp
  | cons a t => simp
def TPutRel (l : List Int) (f : Bool) (w : World) (v same i : Value) (wr : World) : Prop :=
  ∃ (j : Nat) (us : List Nat), j + 1 ≤ l.length ∧ i = .int .i64 ((j + 1 : Nat) : Int) ∧ gsizes l f j = some us ∧ same = .bool (gall us) ∧ wr.ownsRow w.heap.size 101 1 v j (us.map uv) ∧ Below w.heap.size w wr
theorem rdiff9_q (a b : Int) (u : Nat) (d o : Bool) (w : World) (ha : inInt a) (hb : inInt b) (h : gdiff a b = (u, d, o)) : Calls Tryz.prog 79 #[.int .i64 a, .int .i64 b] w fun e w' => e = .returned (.tuple #[.int .u64 (u : Int), .bool d, .bool o]) ∧ w' = w := by
  refine (rdiff9_any a b w ha hb).mono ?_
  rintro e w' ⟨h1, h2⟩
  rw [h] at h1
  exact ⟨h1, h2.symm⟩
def Low63 (u : Nat) : Prop := ∃ b : Int, b = 9223372036854775808 ∧ (u : Int) < b
theorem Low63.lt {u : Nat} (h : Low63 u) : (u : Int) < 9223372036854775808 := by obtain ⟨b, rfl, h⟩ := h; exact h
theorem vint_64 {x : Int} {s : Bool} (h : inInt x) : vint x s < 18446744073709551616 := by
  unfold inInt at h
  unfold vint
  split
  · have := vzig_bd h.1 h.2; omega
  · omega
theorem gat_eq {l : List Int} {f : Bool} {j : Nat} {x y : Int} {u : Nat} {d o : Bool} (hj : j + 1 < l.length) (hx : x = l[j]) (hy : y = l[j + 1]) (h : gdiff x y = (u, d, o)) : gat l f j = if o = true ∧ (u = 0 ∨ d = f) then some u else none := by
  unfold gat gone
  rw [List.getD_eq_getElem?_getD, List.getD_eq_getElem?_getD, List.getElem?_eq_getElem (by omega), List.getElem?_eq_getElem hj]
  simp only [Option.getD_some]
  rw [← hx, ← hy, h]
theorem glay_all {l : List Int} {s : Bool} {us : List Nat} {x0 : Int} {n : Nat} (hn : n = l.length) (hx : l.headD 0 = x0) (h : gall us = true) : glay l s us = dheadN 3 0 n ++ vput (vint x0 s) ++ vput (vint (gfirst l us) true) := by
  unfold glay gtail gnum
  rw [if_pos h, if_pos h, hx, ← hn, List.append_nil]
theorem glay_some {l : List Int} {s : Bool} {us : List Nat} {x0 : Int} {n : Nat} (hn : n = l.length) (hx : l.headD 0 = x0) (h : gall us = false) : glay l s us = dheadN 3 (gcode us.tail) n ++ vput (vint x0 s) ++ vput (vint (gfirst l us) true) ++ bpack us.tail (gwide us.tail) := by
  unfold glay gtail gnum
  rw [if_neg (by rw [h]; decide), if_neg (by rw [h]; decide), hx, ← hn]
set_option maxHeartbeats 4000000 in
set_option maxRecDepth 100000 in
theorem rput9_any (l : List Int) (v : Value) (s : Bool) (w : World) (hv : IsV iv l v w) (hl : ∀ x ∈ l, inInt x) (hb : l.length ≤ 1000000) :
    Calls Tryz.prog 54 #[v, .bool s] w (RetE w (gputE l s)) := by
  have HP := Lib.hid (rplain8_any l v s w hv hl hb)
  have HVV := Lib.hid hv
  obtain ⟨A, c, rfl, hA, hnc, hcm, hlw⟩ := hv
  obtain ⟨n, hn⟩ : ∃ n, n = l.length := ⟨_, rfl⟩
  rw [← hn] at hA hnc hb HP HVV ⊢
  cases hd : dplain l s with
  | none =>
    have hE := Lib.hid (gputE_no (.inl hd))
    have hpe : dplainE l s = ([], 1) := by unfold dplainE; rw [hd]
    rw [hpe] at HP
    clear hn hlw hcm hA hd hpe
    go_enter Tryz.func54, Tryz.ntmps54
    go_wp2_with fail
    refine HP.out.mono ?_
    rintro e w1 ⟨u, rfl, hu, hb1⟩
    obtain ⟨A1, c1, rfl, _⟩ := hu
    go_wp2
    go_ret2
    rw [hE.out]
    exact RetE.nil _ hb1
  | some ps =>
    have hpe : dplainE l s = (ps, 0) := by unfold dplainE; rw [hd]
    rw [hpe] at HP
    by_cases hlen : n < 2 ∨ 512 < n
    · have hE := Lib.hid (gputE_no (l := l) (s := s) (.inr (by omega)))
      clear hn hlw hcm hA hd hpe
      go_enter Tryz.func54, Tryz.ntmps54
      go_wp2_with fail
      refine HP.out.mono ?_
      rintro e w1 ⟨u, rfl, hu, hb1⟩
      obtain ⟨A1, c1, rfl, _⟩ := hu
      rcases hlen with h1 | h2
      · have d1 : decide ((n : Int) < 2) = true := decide_eq_true (by omega)
        go_wp2
        go_ret2
        rw [hE.out]
        exact RetE.nil _ hb1
      · have d1 : decide ((n : Int) < 2) = false := decide_eq_false (by omega)
        have d2 : decide ((512 : Int) < (n : Int)) = true := decide_eq_true (by omega)
        go_wp2
        go_ret2
        rw [hE.out]
        exact RetE.nil _ hb1
    · have d1 : decide ((n : Int) < 2) = false := decide_eq_false (by omega)
      have d2 : decide ((512 : Int) < (n : Int)) = false := decide_eq_false (by omega)
      have hE : Hid (∀ us, gsizes l (gfalls l) (l.length - 1) = some us → gputE l s = (glay l s us, 0)) := Lib.hid (fun us h => gputE_some (by rw [hd]; exact fun h => nomatch h) (by omega) (by omega) h)
      have HN := Lib.hid hn
      have HL := Lib.hid hl
      have hn2 : 2 ≤ n := by omega
      have hn5 : n ≤ 512 := by omega
      -- the first two numbers
      obtain ⟨ad, rfl, had, hcell0⟩ := HVV.out.at (k := 0) (by omega)
      obtain ⟨_, hAd, _, hcell1⟩ := HVV.out.at (k := 1) (by omega)
      injection hAd with hAd
      subst hAd
      obtain ⟨x0, hx0⟩ : ∃ x, x = l[0] := ⟨_, rfl⟩
      obtain ⟨x1, hx1⟩ : ∃ x, x = l[1] := ⟨_, rfl⟩
      rw [← hx0] at hcell0
      rw [← hx1] at hcell1
      have e0 : ad.add 0 = ad := by simp [Addr.add]
      have e1 : ad.add 1 = ⟨ad.block, ad.off + 1, none⟩ := by simp [Addr.add]
      have HLT := Lib.hid had
      have HX0 := Lib.hid (show inInt x0 by rw [hx0]; exact hl _ (List.getElem_mem _))
      have HH : Hid (l.headD 0 = x0) := Lib.hid (by rw [hx0]; cases l with | nil => simp at hn; omega | cons a t => rfl)
      obtain ⟨f, hf⟩ : ∃ f, f = gfalls l := ⟨_, rfl⟩
      have df : decide (x1 < x0) = f := by
        rw [hf]
        unfold gfalls
        rw [List.getD_eq_getElem?_getD, List.getD_eq_getElem?_getD, List.getElem?_eq_getElem (by omega), List.getElem?_eq_getElem (by omega)]
        simp only [Option.getD_some]
        rw [← hx0, ← hx1]
      rw [← hf] at hE
      have HF := Lib.hid hf
      clear hn hlw hcm hA hd hpe hlen hx0 hx1 hl hf
      go_enter Tryz.func54, Tryz.ntmps54
      go_wp2_with fail
      refine HP.out.mono ?_
      rintro e w1 ⟨u, rfl, hu, hb1⟩
      obtain ⟨A1, c1, rfl, _⟩ := hu
      have hbA : Below w1.heap.size w1 (w1.alloc (.cells #[] 101)) := (Below.refl _ _).alloc (Nat.le_refl _) _
      have hc0 : (w1.alloc (.cells #[] 101)).cell? ad = some (.int .i64 x0) := by
        rw [e0] at hcell0
        exact ((hb1.trans (hbA.mono hb1.size)).cell had).trans hcell0
      have hc1 : (w1.alloc (.cells #[] 101)).cell? ⟨ad.block, ad.off + 1, none⟩ = some (.int .i64 x1) := by
        rw [e1] at hcell1
        exact ((hb1.trans (hbA.mono hb1.size)).cell (p := ⟨ad.block, ad.off + 1, none⟩) had).trans hcell1
      have HC0 : Hid (w.cell? ad = some (.int .i64 x0)) := Lib.hid (by rw [e0] at hcell0; exact hcell0)
      have E0 := Lib.hid e0
      have hn1 : (1 : Int) < (n : Int) := by omega
      have hn0 : (0 : Int) < (n : Int) := by omega
      clear hcell0 hcell1 e0 e1
      go_wp2
      go_quiet (fail)
      obtain ⟨w2, hw2⟩ : ∃ w2, w2 = (w1.alloc (.cells #[] 101)).drewN nq := ⟨_, rfl⟩
      have hst : TPutRel l f w1 (.slice (some ⟨w1.heap.size, 0, none⟩) 0 0) (.bool true) (.int .i64 1) w2 := ⟨0, [], by have := HN.out; omega, rfl, rfl, rfl, by rw [hw2]; exact own_drewN (own_made w1 _) nq, by rw [hw2]; exact below_drewN hbA nq⟩
      rw [← hw2]
      have HB1 := Lib.hid hb1
      have HST := Lib.hid hst
      clear hst hw2 hc0 hc1 hb1 hbA
      go_wp2
      go_loopw [8, 10, 11] (TPutRel l f w1) (fun _ _ i _ => n - (intOf i).toNat)
      case atStart => exact HST.out
      case round =>
        obtain ⟨j, us, hj, rfl, hus, rfl, hown, hbr⟩ := hrel
        have hjn : j + 1 ≤ n := by have := HN.out; omega
        have hul := gsizes_len hus
        have HUS := Lib.hid hus
        have HUL := Lib.hid hul
        have HBR := Lib.hid (below_then HB1.out hbr)
        have hz := hbr.size
        have HTT := Lib.hid HST
        clear hus hul
        by_cases hlt : j + 1 < n
        · have hl1 : j + 1 < l.length := by have := HN.out; omega
          obtain ⟨_, hAd, _, hcx⟩ := (HVV.out.below HBR.out).at (k := j) (by omega)
          injection hAd with hAd
          subst hAd
          obtain ⟨_, hAd, _, hcy⟩ := (HVV.out.below HBR.out).at (k := j + 1) hl1
          injection hAd with hAd
          subst hAd
          obtain ⟨x, hx⟩ : ∃ x, x = l[j] := ⟨_, rfl⟩
          obtain ⟨y, hy⟩ : ∃ y, y = l[j + 1] := ⟨_, rfl⟩
          have hxi : inInt x := by rw [hx]; exact HL.out _ (List.getElem_mem _)
          have hyi : inInt y := by rw [hy]; exact HL.out _ (List.getElem_mem _)
          obtain ⟨u, d, o, hg⟩ : ∃ u d o, gdiff x y = (u, d, o) := ⟨_, _, _, rfl⟩
          have hga := gat_eq (f := f) hl1 hx hy hg
          have hu64 : (u : Int) < 9223372036854775808 := by have := gdiff_lt x y; rw [hg] at this; exact this
          replace hcx : wr.cell? (ad.add j) = some (.int .i64 x) := by rw [hcx, hx]; rfl
          replace hcy : wr.cell? (ad.add (j + 1)) = some (.int .i64 y) := by rw [hcy, hy]; rfl
          have hlt2 : ((j + 1 : Nat) : Int) < (n : Int) := by omega
          have hltj : (j : Int) < (n : Int) := by omega
          have hjw : IntKind.i64.wrap (j : Int) = (j : Int) := by rw [IntKind.wrap_i64]; omega
          have hjj : ((j + 1 : Nat) : Int) - 1 = (j : Int) := by omega
          have HD := Lib.hid (fun W => rdiff9_q x y u d o W hxi hyi hg)
          have HQ := Lib.hid (fun m => Calls.quiet_of_same (n := m) (w := wr) (HD.out (wr.drewN m)))
          have HGA := Lib.hid hga
          have HU64 := Lib.hid hu64
          obtain ⟨J, hJ⟩ : ∃ J, J = j + 1 := ⟨_, rfl⟩
          rw [← hJ] at hcy hlt2 hjj ⊢
          have HJ := Lib.hid hJ
          clear hx hy hxi hyi hg hga hu64 hJ
          go_wp2
          go_quiet ((go_at_call 79; exact HQ.out _))
          obtain ⟨w4, hw4⟩ : ∃ w4, w4 = wr.drewN nq := ⟨_, rfl⟩
          rw [← hw4]
          have hown4 : w4.ownsRow w1.heap.size 101 1 u8 j (us.map uv) := by rw [hw4]; exact own_drewN hown nq
          have hb4 : Below w1.heap.size w1 w4 := by rw [hw4]; exact below_drewN hbr nq
          clear hw4 hown hbr hz hcx hcy
          have hz := hb4.size
          by_cases hgo : o = true ∧ (u = 0 ∨ d = f)
          · have hgat : Hid (gat l f j = some u) := Lib.hid (by rw [HGA.out, if_pos hgo])
            obtain ⟨rfl, hud⟩ := hgo
            have hcase : (decide (0 < u) = false) ∨ (decide (0 < u) = true ∧ f = d) := by
              rcases Nat.eq_zero_or_pos u with h | h
              · exact .inl (decide_eq_false (by omega))
              · exact .inr ⟨decide_eq_true (by omega), by rcases hud with h2 | h2; omega; exact h2.symm⟩
            obtain ⟨T, hT⟩ : ∃ T, T = gall (us ++ [u]) := ⟨_, rfl⟩
            obtain ⟨z, hzz⟩ : ∃ z, z = (us ++ [u]).headD 0 := ⟨_, rfl⟩
            have hTT : T = (gall us && u == z) := by rw [hT, gall_snoc, hzz]
            have HT := Lib.hid hT
            have HZ := Lib.hid hzz
            have hji : (j : Int) + 1 = (J : Int) := by have := HJ.out; omega
            have hul : us.length = j := HUL.out
            clear hT hzz hud hji
            rcases hcase with hd0 | ⟨hd0, rfl⟩
            all_goals
              go_wp2_with (at_builtin; refine wpList_push elemU rfl _ _ rfl w1.heap.size _ _ _ (uv u) w4 w1 rfl rfl rfl rfl hown4 hb4 hz (by omega) (by omega) ?_)
              intro v5 w5 hown5 hb5 _ _
              have hown6 : w5.ownsRow w1.heap.size 101 1 v5 J ((us ++ [u]).map uv) := by
                rw [List.map_append, List.map_singleton, HJ.out]
                exact hown5
              obtain ⟨B5, c5, rfl, hnc5, hcm5, _, hl5, _⟩ := own_shape hown6
              have hI5 : IsV uv (us ++ [u]) (.slice B5 J c5) w5 := isV_own hown6
              obtain ⟨b5, rfl, hb5', hc5⟩ := hI5.at (k := 0) (by simp)
              have hcz : w5.cell? b5 = some (.int .u64 (z : Int)) := by
                have e : b5.add 0 = b5 := by simp [Addr.add]
                rw [e] at hc5
                rw [hc5, HZ.out]
                congr 1
                cases us <;> rfl
              have hrel : TPutRel l f w1 (.slice (some b5) J c5) (.bool T) (.int .i64 ((J : Int) + 1)) w5 :=
                ⟨J, us ++ [u], by have := HJ.out; omega, by rw [Int.natCast_add]; rfl, by rw [HJ.out]; exact gsizes_succ HUS.out hgat.out, by rw [HT.out], hown6, hb5⟩
              have HREL := Lib.hid hrel
              have hJ0 : (0 : Int) < (J : Int) := by have := HJ.out; omega
              have hJw : IntKind.i64.wrap ((J : Int) + 1) = (J : Int) + 1 := by rw [IntKind.wrap_i64]; omega
              clear hown5 hown6 hI5 hc5 hb5 hb5' hrel hown4 hl5 hul
              cases hga : gall us with
              | false =>
                rw [hga, Bool.false_and] at hTT
                subst hTT
                go_wp2
                go_roundw
                case rel => exact HREL.out
                case measure => simp [intOf]; have := HJ.out; omega
              | true =>
                rw [hga, Bool.true_and] at hTT
                have hTi : ((u : Int) == (z : Int)) = T := by rw [hTT, Bool.eq_iff_iff, beq_iff_eq, beq_iff_eq]; omega
                clear hTT
                go_wp2
                go_roundw
                case rel => exact HREL.out
                case measure => simp [intOf]; have := HJ.out; omega
          · have hgat : gat l f j = none := by rw [HGA.out, if_neg hgo]
            have hE2 : Hid (gputE l s = ([], 1)) := Lib.hid (gputE_none (gsizes_none (k := j) (by have := HN.out; omega) (by rw [← HF.out]; exact hgat)))
            have hcase : o = false ∨ (o = true ∧ decide (0 < u) = true ∧ ((d = true ∧ f = false) ∨ (d = false ∧ f = true))) := by
              cases o with
              | false => exact .inl rfl
              | true =>
                refine .inr ⟨rfl, ?_, ?_⟩
                · exact decide_eq_true (by rcases Nat.eq_zero_or_pos u with h | h; exact absurd ⟨rfl, .inl h⟩ hgo; omega)
                · cases d <;> cases f <;> first | exact .inl ⟨rfl, rfl⟩ | exact .inr ⟨rfl, rfl⟩ | exact absurd ⟨rfl, .inr rfl⟩ hgo
            have HB4 := Lib.hid (below_then HB1.out hb4)
            clear hgat hgo hown4 hb4
            rcases hcase with rfl | ⟨rfl, hd0, ⟨rfl, rfl⟩ | ⟨rfl, rfl⟩⟩
            all_goals
              go_wp2
              go_ret2
              rw [hE2.out]
              exact RetE.nil _ HB4.out
        · have hjn' : n = j + 1 := by omega
          have hE2 : Hid (gputE l s = (glay l s us, 0)) := Lib.hid (hE.out us (by rw [← HN.out, hjn', Nat.add_sub_cancel]; exact HUS.out))
          have H64 : Hid (∀ u ∈ us, u < 2 ^ 64) := Lib.hid (gsizes_64 HUS.out)
          obtain ⟨u0, ut, hu0⟩ : ∃ u0 ut, us = u0 :: ut := by
            cases us with
            | nil => have := HUL.out; simp at this; omega
            | cons a t => exact ⟨a, t, rfl⟩
          have hu0b : (u0 : Int) < 9223372036854775808 := gsizes_lt HUS.out u0 (by rw [hu0]; exact List.mem_cons_self)
          have hI8 : IsV uv us u8 wr := isV_own hown
          obtain ⟨B8, n8, c8, rfl⟩ := hI8.shape
          obtain ⟨hn8, _, hnc8, hcm8, _⟩ := hI8.parts
          obtain rfl : n8 = j := by rw [← hn8]; exact HUL.out
          obtain ⟨b8, rfl, hb8, hc8⟩ := hI8.at (k := 0) (by rw [hu0]; simp)
          have hcz : wr.cell? b8 = some (.int .u64 (u0 : Int)) := by
            have e : b8.add 0 = b8 := by simp [Addr.add]
            rw [e] at hc8
            rw [hc8]
            congr 1
            subst hu0
            rfl
          have hw0 : IntKind.i64.wrap (u0 : Int) = (u0 : Int) := by rw [IntKind.wrap_i64]; omega
          have hw1 : IntKind.i64.wrap (-(u0 : Int)) = -(u0 : Int) := by rw [IntKind.wrap_i64]; omega
          have hgf : gfirst l us = if f = true then -(u0 : Int) else (u0 : Int) := by
            unfold gfirst
            rw [← HF.out, hu0]
            rfl
          have hgi : inInt (gfirst l us) := by
            rw [hgf]
            unfold inInt
            split <;> omega
          obtain ⟨D, hD⟩ : ∃ D, D = gfirst l us := ⟨_, rfl⟩
          rw [← hD] at hgf hgi
          have HD := Lib.hid hD
          have HGI := Lib.hid hgi
          have HI8 := Lib.hid hI8
          have hj0 : (0 : Int) < (n8 : Int) := by omega
          have hltn : ¬ ((n8 + 1 : Nat) : Int) < (n : Int) := by omega
          obtain ⟨t8, ht8, hT8⟩ := fromV_named elemU (k := 1) (by omega) hI8
          have ht8' : ∀ W, (Instr.sliceAt 75 (.slice (some b8) n8 c8) (some (.int .i64 1)) none none).run Tryz.prog W = .ok t8 W := ht8
          rw [show us.drop 1 = us.tail from List.drop_one] at hT8
          have HT8 := Lib.hid hT8
          have HB8 := Lib.hid (below_then HB1.out hbr)
          have hult : us.tail.length ≤ 512 := by rw [List.length_tail, HUL.out]; omega
          have HULT := Lib.hid hult
          have hn81 : n8 + 1 ≤ n := by omega
          have HU0B : Low63 u0 := ⟨_, rfl, hu0b⟩
          clear hu0b hI8 hn8 hcm8 hb8 hc8 hgi hD ht8 hT8 hown hu0 hult hjn'
          cases hga : gall us with
          | true =>
            have HGL := Lib.hid (glay_all (s := s) HN.out HH.out hga)
            have HHD := Lib.hid (fun X => rhead8_any 3 0 (n : Int) X)
            rw [show (3 : Int) = ((3 : Nat) : Int) from rfl, show (0 : Int) = ((0 : Nat) : Int) from rfl, dhead_in (by omega) (by omega) (by omega) hn5] at HHD
            clear hga
            cases f with
            | true =>
              rw [if_pos rfl] at hgf
              rw [HD.out] at hgf
              have HGF := Lib.hid hgf
              clear hgf
              go_wp2
              refine wp_region_list [.is (.int .i64 0), .is (.slice (some ad) n c), .is (.int .i64 (n : Int)), .bytes (dheadN 3 0 n), .is (.slice (some ad) n c), .is (.pointer (some ad)), .is (.int .i64 x0), .is (.bool s), .bytes (dheadN 3 0 n ++ vput (vint x0 s)), .bytes (dheadN 3 0 n ++ vput (vint x0 s))] [some 106, some 107, some 108, some 109, some 110, some 111, some 112, some 113, some 114, some 18] (by kernel_rfl) (by kernel_rfl) (by kernel_rfl) rfl ⟨?_, ?_, ?_, ?_, ?_, ?_, ?_, ?_, ?_, ?_, trivial⟩ ?_
              · intro ρ W1 hb1 H
                exact gives_move rfl (H.old 16 _ (by kernel_rfl) rfl) ⟨rfl, Below.refl _ _⟩
              · intro ρ W1 hb1 H
                exact gives_move rfl (H.old 0 _ (by kernel_rfl) rfl) ⟨rfl, Below.refl _ _⟩
              · intro ρ W1 hb1 H
                exact gives_len Tryz.underlying47 rfl (H.new 107 1 (by kernel_rfl)) ⟨rfl, Below.refl _ _⟩
              · intro ρ W1 hb1 H
                have e1 : ρ (.tmp 106) = .int .i64 0 := H.new 106 0 (by kernel_rfl)
                have e2 : ρ (.tmp 108) = .int .i64 (n : Int) := H.new 108 2 (by kernel_rfl)
                refine gives_call rfl (fun _ _ => by kernel_rfl) (H.func _) (args := #[.int .i64 3, .int .i64 0, .int .i64 (n : Int)]) (by simp [H.const, e1, e2]) ?_
                exact (HHD.out W1).mono fun _ _ ⟨v, h1, h2, h3⟩ => ⟨v, h1, isB_own h2, h3⟩
              · intro ρ W1 hb1 H
                exact gives_move rfl (H.old 0 _ (by kernel_rfl) rfl) ⟨rfl, Below.refl _ _⟩
              · intro ρ W1 hb1 H
                exact gives_index (k := 0) elemI rfl (H.new 110 4 (by kernel_rfl)) (H.const _) (by omega) ⟨by rw [E0.out]; rfl, Below.refl _ _⟩
              · intro ρ W1 hb1 H
                exact gives_load rfl (H.new 111 5 (by kernel_rfl)) Tryz.underlying3 rfl ((hb1.cell (Nat.lt_of_lt_of_le HLT.out HB8.out.size)).trans ((HB8.out.cell HLT.out).trans HC0.out)) ⟨rfl, Below.refl _ _⟩
              · intro ρ W1 hb1 H
                exact gives_move rfl (H.old 1 _ (by kernel_rfl) rfl) ⟨rfl, Below.refl _ _⟩
              · intro ρ W1 hb1 H
                have e0 : IsB (dheadN 3 0 n) (ρ (.tmp 109)) W1 := H.new 109 3 (by kernel_rfl)
                have e1 : ρ (.tmp 112) = .int .i64 x0 := H.new 112 6 (by kernel_rfl)
                have e2 : ρ (.tmp 113) = .bool s := H.new 113 7 (by kernel_rfl)
                refine gives_call rfl (fun _ _ => by kernel_rfl) (H.func _) (args := #[ρ (.tmp 109), .int .i64 x0, .bool s]) (by simp [e1, e2]) ?_
                exact (rputInt_isB x0 s e0 (by rw [dheadN_len]; omega) HX0.out.1 HX0.out.2).mono fun _ _ h => h
              · intro ρ W1 hb1 H
                exact gives_assign rfl rfl ⟨H.new 114 8 (by kernel_rfl), Below.refl _ _⟩
              · intro vs W1 hb1 hfs
                have f9 : IsB (dheadN 3 0 n ++ vput (vint x0 s)) (vs 9) W1 := hfs 9 (by decide)
                clear hfs
                simp only [putAll, Nat.zero_add, Nat.reduceAdd]
                generalize vs 0 = z0
                generalize vs 1 = z1
                generalize vs 2 = z2
                generalize vs 3 = z3
                generalize vs 4 = z4
                generalize vs 5 = z5
                generalize vs 6 = z6
                generalize vs 7 = z7
                generalize vs 8 = z8
                generalize vs 9 = z9 at f9 ⊢
                simp only [Act.put, List.setIfInBounds_toArray, List.set_cons_succ, List.set_cons_zero]
                have HO := Lib.hid f9
                have HBa := Lib.hid (below_then HB8.out hb1)
                clear f9
                have hlen : (dheadN 3 0 n ++ vput (vint x0 s)).length ≤ 1000 := by rw [List.length_append, dheadN_len]; have := vput_len_10 (x := vint x0 s) (vint_64 HX0.out); omega
                have HLN := Lib.hid hlen
                clear hlen
                go_wp2_with fail
                refine (rputInt_isO (-(u0 : Int)) true HO.out (by have := HLN.out; omega) (by have := HU0B.lt; omega) (by have := HU0B.lt; omega)).mono ?_
                rintro e w6 ⟨v6, rfl, hown6, hb6⟩
                have HB6 := Lib.hid (below_then HBa.out hb6)
                have HI6 := Lib.hid (isB_own hown6)
                clear hown6 hb6
                go_wp2
                go_ret2
                rw [hE2.out, HGL.out, HGF.out]
                exact ⟨_, rfl, HI6.out, HB6.out⟩
            | false =>
              rw [if_neg (by decide)] at hgf
              rw [HD.out] at hgf
              have HGF := Lib.hid hgf
              clear hgf
              go_wp2
              refine wp_region_list [.is (.int .i64 0), .is (.slice (some ad) n c), .is (.int .i64 (n : Int)), .bytes (dheadN 3 0 n), .is (.slice (some ad) n c), .is (.pointer (some ad)), .is (.int .i64 x0), .is (.bool s), .bytes (dheadN 3 0 n ++ vput (vint x0 s)), .bytes (dheadN 3 0 n ++ vput (vint x0 s))] [some 106, some 107, some 108, some 109, some 110, some 111, some 112, some 113, some 114, some 18] (by kernel_rfl) (by kernel_rfl) (by kernel_rfl) rfl ⟨?_, ?_, ?_, ?_, ?_, ?_, ?_, ?_, ?_, ?_, trivial⟩ ?_
              · intro ρ W1 hb1 H
                exact gives_move rfl (H.old 16 _ (by kernel_rfl) rfl) ⟨rfl, Below.refl _ _⟩
              · intro ρ W1 hb1 H
                exact gives_move rfl (H.old 0 _ (by kernel_rfl) rfl) ⟨rfl, Below.refl _ _⟩
              · intro ρ W1 hb1 H
                exact gives_len Tryz.underlying47 rfl (H.new 107 1 (by kernel_rfl)) ⟨rfl, Below.refl _ _⟩
              · intro ρ W1 hb1 H
                have e1 : ρ (.tmp 106) = .int .i64 0 := H.new 106 0 (by kernel_rfl)
                have e2 : ρ (.tmp 108) = .int .i64 (n : Int) := H.new 108 2 (by kernel_rfl)
                refine gives_call rfl (fun _ _ => by kernel_rfl) (H.func _) (args := #[.int .i64 3, .int .i64 0, .int .i64 (n : Int)]) (by simp [H.const, e1, e2]) ?_
                exact (HHD.out W1).mono fun _ _ ⟨v, h1, h2, h3⟩ => ⟨v, h1, isB_own h2, h3⟩
              · intro ρ W1 hb1 H
                exact gives_move rfl (H.old 0 _ (by kernel_rfl) rfl) ⟨rfl, Below.refl _ _⟩
              · intro ρ W1 hb1 H
                exact gives_index (k := 0) elemI rfl (H.new 110 4 (by kernel_rfl)) (H.const _) (by omega) ⟨by rw [E0.out]; rfl, Below.refl _ _⟩
              · intro ρ W1 hb1 H
                exact gives_load rfl (H.new 111 5 (by kernel_rfl)) Tryz.underlying3 rfl ((hb1.cell (Nat.lt_of_lt_of_le HLT.out HB8.out.size)).trans ((HB8.out.cell HLT.out).trans HC0.out)) ⟨rfl, Below.refl _ _⟩
              · intro ρ W1 hb1 H
                exact gives_move rfl (H.old 1 _ (by kernel_rfl) rfl) ⟨rfl, Below.refl _ _⟩
              · intro ρ W1 hb1 H
                have e0 : IsB (dheadN 3 0 n) (ρ (.tmp 109)) W1 := H.new 109 3 (by kernel_rfl)
                have e1 : ρ (.tmp 112) = .int .i64 x0 := H.new 112 6 (by kernel_rfl)
                have e2 : ρ (.tmp 113) = .bool s := H.new 113 7 (by kernel_rfl)
                refine gives_call rfl (fun _ _ => by kernel_rfl) (H.func _) (args := #[ρ (.tmp 109), .int .i64 x0, .bool s]) (by simp [e1, e2]) ?_
                exact (rputInt_isB x0 s e0 (by rw [dheadN_len]; omega) HX0.out.1 HX0.out.2).mono fun _ _ h => h
              · intro ρ W1 hb1 H
                exact gives_assign rfl rfl ⟨H.new 114 8 (by kernel_rfl), Below.refl _ _⟩
              · intro vs W1 hb1 hfs
                have f9 : IsB (dheadN 3 0 n ++ vput (vint x0 s)) (vs 9) W1 := hfs 9 (by decide)
                clear hfs
                simp only [putAll, Nat.zero_add, Nat.reduceAdd]
                generalize vs 0 = z0
                generalize vs 1 = z1
                generalize vs 2 = z2
                generalize vs 3 = z3
                generalize vs 4 = z4
                generalize vs 5 = z5
                generalize vs 6 = z6
                generalize vs 7 = z7
                generalize vs 8 = z8
                generalize vs 9 = z9 at f9 ⊢
                simp only [Act.put, List.setIfInBounds_toArray, List.set_cons_succ, List.set_cons_zero]
                have HO := Lib.hid f9
                have HBa := Lib.hid (below_then HB8.out hb1)
                clear f9
                have hlen : (dheadN 3 0 n ++ vput (vint x0 s)).length ≤ 1000 := by rw [List.length_append, dheadN_len]; have := vput_len_10 (x := vint x0 s) (vint_64 HX0.out); omega
                have HLN := Lib.hid hlen
                clear hlen
                go_wp2_with fail
                refine (rputInt_isO (u0 : Int) true HO.out (by have := HLN.out; omega) (by have := HU0B.lt; omega) (by have := HU0B.lt; omega)).mono ?_
                rintro e w6 ⟨v6, rfl, hown6, hb6⟩
                have HB6 := Lib.hid (below_then HBa.out hb6)
                have HI6 := Lib.hid (isB_own hown6)
                clear hown6 hb6
                go_wp2
                go_ret2
                rw [hE2.out, HGL.out, HGF.out]
                exact ⟨_, rfl, HI6.out, HB6.out⟩
          | false =>
            have H64t : Hid (∀ u ∈ us.tail, u < 2 ^ 64) := Lib.hid fun u hu => H64.out u (List.mem_of_mem_tail hu)
            have HGL := Lib.hid (glay_some (s := s) HN.out HH.out hga)
            obtain ⟨g1, g2, g3, g4, g5, g6, g7, g8⟩ := gwide_int H64t.out
            have hroom := gwide_room H64t.out
            obtain ⟨G, hG⟩ : ∃ G, G = gwide us.tail := ⟨_, rfl⟩
            obtain ⟨C, hC⟩ : ∃ C, C = gcode us.tail := ⟨_, rfl⟩
            rw [← hG, ← hC] at HGL
            rw [← hG] at g1 g2 g4 g5 hroom
            rw [← hC] at g2 g6 g7
            have HHD := Lib.hid (fun X => rhead8_any 3 (C : Int) (n : Int) X)
            rw [show (3 : Int) = ((3 : Nat) : Int) from rfl, dhead_in (by omega) g7 (by omega) hn5] at HHD
            have HPKE := Lib.hid (show packsAny us.tail (G : Int) = (bpack us.tail G, 0) by rw [packsAny_in _ _ g5, packs_ok hroom])
            obtain ⟨M, hM⟩ : ∃ M, M = wmost us.tail := ⟨_, rfl⟩
            rw [← hM] at g1
            obtain ⟨X, hX⟩ : ∃ X, X = max 2 M := ⟨_, rfl⟩
            rw [← hX] at g1
            have hmax : ∀ (ts : Array TypeId) (t : TypeId) (W : World), (Builtin.max_ ts t #[.int .i64 2, .int .i64 (M : Int)]).run Tryz.prog W = .ok (.int .i64 (X : Int)) W := fun ts t W => by
              rw [run_max_int2]
              congr 2
              split <;> omega
            have HCL := Lib.hid (fun W => rclosest_any (X : Int) W)
            rw [g1] at HCL
            have HCD := Lib.hid (fun W => rcode_any (G : Int) W)
            rw [g2] at HCD
            rw [hM] at hmax
            clear hga g1 g2 g3 g6 g7 g8 hroom hG hC hM hX
            cases f with
            | true =>
              rw [if_pos rfl] at hgf
              rw [HD.out] at hgf
              have HGF := Lib.hid hgf
              clear hgf
              go_wp2_with (first | (go_at_call 75; refine (rmost_is HT8.out (by have := HULT.out; omega) H64t.out).mono ?_; rintro e w' ⟨rfl, rfl⟩) | (go_at_call 74; refine (HCL.out _).mono ?_; rintro e w' ⟨rfl, rfl⟩) | (go_at_call 78; refine (HCD.out _).mono ?_; rintro e w' ⟨rfl, rfl⟩))
              refine wp_region_list [.is (.int .i64 (C : Int)), .is (.slice (some ad) n c), .is (.int .i64 (n : Int)), .bytes (dheadN 3 C n), .is (.slice (some ad) n c), .is (.pointer (some ad)), .is (.int .i64 x0), .is (.bool s), .bytes (dheadN 3 C n ++ vput (vint x0 s)), .bytes (dheadN 3 C n ++ vput (vint x0 s))] [some 106, some 107, some 108, some 109, some 110, some 111, some 112, some 113, some 114, some 18] (by kernel_rfl) (by kernel_rfl) (by kernel_rfl) rfl ⟨?_, ?_, ?_, ?_, ?_, ?_, ?_, ?_, ?_, ?_, trivial⟩ ?_
              · intro ρ W1 hb1 H
                exact gives_move rfl (H.old 16 _ (by kernel_rfl) rfl) ⟨rfl, Below.refl _ _⟩
              · intro ρ W1 hb1 H
                exact gives_move rfl (H.old 0 _ (by kernel_rfl) rfl) ⟨rfl, Below.refl _ _⟩
              · intro ρ W1 hb1 H
                exact gives_len Tryz.underlying47 rfl (H.new 107 1 (by kernel_rfl)) ⟨rfl, Below.refl _ _⟩
              · intro ρ W1 hb1 H
                have e1 : ρ (.tmp 106) = .int .i64 (C : Int) := H.new 106 0 (by kernel_rfl)
                have e2 : ρ (.tmp 108) = .int .i64 (n : Int) := H.new 108 2 (by kernel_rfl)
                refine gives_call rfl (fun _ _ => by kernel_rfl) (H.func _) (args := #[.int .i64 3, .int .i64 (C : Int), .int .i64 (n : Int)]) (by simp [H.const, e1, e2]) ?_
                exact (HHD.out W1).mono fun _ _ ⟨v, h1, h2, h3⟩ => ⟨v, h1, isB_own h2, h3⟩
              · intro ρ W1 hb1 H
                exact gives_move rfl (H.old 0 _ (by kernel_rfl) rfl) ⟨rfl, Below.refl _ _⟩
              · intro ρ W1 hb1 H
                exact gives_index (k := 0) elemI rfl (H.new 110 4 (by kernel_rfl)) (H.const _) (by omega) ⟨by rw [E0.out]; rfl, Below.refl _ _⟩
              · intro ρ W1 hb1 H
                exact gives_load rfl (H.new 111 5 (by kernel_rfl)) Tryz.underlying3 rfl ((hb1.cell (Nat.lt_of_lt_of_le HLT.out HB8.out.size)).trans ((HB8.out.cell HLT.out).trans HC0.out)) ⟨rfl, Below.refl _ _⟩
              · intro ρ W1 hb1 H
                exact gives_move rfl (H.old 1 _ (by kernel_rfl) rfl) ⟨rfl, Below.refl _ _⟩
              · intro ρ W1 hb1 H
                have e0 : IsB (dheadN 3 C n) (ρ (.tmp 109)) W1 := H.new 109 3 (by kernel_rfl)
                have e1 : ρ (.tmp 112) = .int .i64 x0 := H.new 112 6 (by kernel_rfl)
                have e2 : ρ (.tmp 113) = .bool s := H.new 113 7 (by kernel_rfl)
                refine gives_call rfl (fun _ _ => by kernel_rfl) (H.func _) (args := #[ρ (.tmp 109), .int .i64 x0, .bool s]) (by simp [e1, e2]) ?_
                exact (rputInt_isB x0 s e0 (by rw [dheadN_len]; omega) HX0.out.1 HX0.out.2).mono fun _ _ h => h
              · intro ρ W1 hb1 H
                exact gives_assign rfl rfl ⟨H.new 114 8 (by kernel_rfl), Below.refl _ _⟩
              · intro vs W1 hb1 hfs
                have f9 : IsB (dheadN 3 C n ++ vput (vint x0 s)) (vs 9) W1 := hfs 9 (by decide)
                clear hfs
                simp only [putAll, Nat.zero_add, Nat.reduceAdd]
                generalize vs 0 = z0
                generalize vs 1 = z1
                generalize vs 2 = z2
                generalize vs 3 = z3
                generalize vs 4 = z4
                generalize vs 5 = z5
                generalize vs 6 = z6
                generalize vs 7 = z7
                generalize vs 8 = z8
                generalize vs 9 = z9 at f9 ⊢
                simp only [Act.put, List.setIfInBounds_toArray, List.set_cons_succ, List.set_cons_zero]
                have HO := Lib.hid f9
                have HBa := Lib.hid (below_then HB8.out hb1)
                clear f9
                have hlen : (dheadN 3 C n ++ vput (vint x0 s)).length ≤ 1000 := by rw [List.length_append, dheadN_len]; have := vput_len_10 (x := vint x0 s) (vint_64 HX0.out); omega
                have HLN := Lib.hid hlen
                clear hlen
                go_wp2_with fail
                refine (rputInt_isO (-(u0 : Int)) true HO.out (by have := HLN.out; omega) (by have := HU0B.lt; omega) (by have := HU0B.lt; omega)).mono ?_
                rintro e w6 ⟨v6, rfl, hown6, hb6⟩
                have HB6 := Lib.hid (below_then HBa.out hb6)
                have HT6 := Lib.hid (isU_iff.2 ((HT8.out.below hb1).below hb6))
                have HOW := Lib.hid hown6
                have hz6 := hb6.size
                clear hown6
                go_wp2_with fail
                refine (rpack_is (G : Int) HT6.out (by have := HULT.out; omega) H64t.out).mono ?_
                rw [HPKE.out]
                rintro e w7 ⟨v7, rfl, hv7, hb7⟩
                have hown7 := own_below HOW.out hb7
                obtain ⟨A7, n7, c7, rfl⟩ := IsV.shape (f := bv) hv7
                obtain ⟨hn7, hA7, -, -, hl7⟩ := IsV.parts (f := bv) (show IsV bv _ _ _ from hv7)
                have hM7 : ((bpack us.tail G).map bv).length = n7 := by rw [List.length_map]; exact hn7
                have hn7b : n7 ≤ 5000 := by rw [← hn7, bpack_len]; exact Nat.le_trans (bsize_small HULT.out (by omega)) (by omega)
                have HM7 := Lib.hid hM7
                have hbb7 := hb6.trans (hb7.mono hb6.size)
                have hzz7 := hbb7.size
                obtain ⟨K6, hK6⟩ : ∃ K, K = (dheadN 3 C n ++ vput (vint x0 s) ++ vput (vint (-(u0 : Int)) true)).length := ⟨_, rfl⟩
                have hK6b : K6 ≤ 2000 := by rw [hK6, List.length_append]; have := vput_len_10 (x := vint (-(u0 : Int)) true) (vint_64 (show inInt (-(u0 : Int)) from ⟨by have := HU0B.lt; omega, by have := HU0B.lt; omega⟩)); have := HLN.out; omega
                rw [← hK6] at hown7
                have HK6 := Lib.hid hK6
                clear hv7 hb7 hM7 hn7 hb6 hK6
                obtain ⟨xs6, hx6⟩ : ∃ xs, xs = (dheadN 3 C n ++ vput (vint x0 s) ++ vput (vint (-(u0 : Int)) true)).map bv := ⟨_, rfl⟩
                rw [← hx6] at hown7
                have HX6 := Lib.hid hx6
                clear hx6
                go_wp2_with (at_builtin; refine wpList_join elemB rfl _ _ rfl W1.heap.size _ _ _ _ _ _ ((bpack us.tail G).map bv) W1 rfl rfl hA7 HM7.out hl7 (bv_one _) hown7 hbb7 hzz7 (by omega) (by omega) ?_)
                intro v8 w8 hown8 hb8 _ _
                have HI9 : Hid (IsB (dheadN 3 C n ++ vput (vint x0 s) ++ vput (vint (-(u0 : Int)) true) ++ bpack us.tail G) v8 w8) := Lib.hid (isB_own (by rw [List.map_append, ← HX6.out]; exact hown8))
                have HB9 := Lib.hid (below_then HBa.out hb8)
                clear hown8 hb8 hown7 hbb7 hzz7
                go_wp2
                go_ret2
                rw [hE2.out, HGL.out, HGF.out]
                exact ⟨_, rfl, HI9.out, HB9.out⟩
            | false =>
              rw [if_neg (by decide)] at hgf
              rw [HD.out] at hgf
              have HGF := Lib.hid hgf
              clear hgf
              go_wp2_with (first | (go_at_call 75; refine (rmost_is HT8.out (by have := HULT.out; omega) H64t.out).mono ?_; rintro e w' ⟨rfl, rfl⟩) | (go_at_call 74; refine (HCL.out _).mono ?_; rintro e w' ⟨rfl, rfl⟩) | (go_at_call 78; refine (HCD.out _).mono ?_; rintro e w' ⟨rfl, rfl⟩))
              refine wp_region_list [.is (.int .i64 (C : Int)), .is (.slice (some ad) n c), .is (.int .i64 (n : Int)), .bytes (dheadN 3 C n), .is (.slice (some ad) n c), .is (.pointer (some ad)), .is (.int .i64 x0), .is (.bool s), .bytes (dheadN 3 C n ++ vput (vint x0 s)), .bytes (dheadN 3 C n ++ vput (vint x0 s))] [some 106, some 107, some 108, some 109, some 110, some 111, some 112, some 113, some 114, some 18] (by kernel_rfl) (by kernel_rfl) (by kernel_rfl) rfl ⟨?_, ?_, ?_, ?_, ?_, ?_, ?_, ?_, ?_, ?_, trivial⟩ ?_
              · intro ρ W1 hb1 H
                exact gives_move rfl (H.old 16 _ (by kernel_rfl) rfl) ⟨rfl, Below.refl _ _⟩
              · intro ρ W1 hb1 H
                exact gives_move rfl (H.old 0 _ (by kernel_rfl) rfl) ⟨rfl, Below.refl _ _⟩
              · intro ρ W1 hb1 H
                exact gives_len Tryz.underlying47 rfl (H.new 107 1 (by kernel_rfl)) ⟨rfl, Below.refl _ _⟩
              · intro ρ W1 hb1 H
                have e1 : ρ (.tmp 106) = .int .i64 (C : Int) := H.new 106 0 (by kernel_rfl)
                have e2 : ρ (.tmp 108) = .int .i64 (n : Int) := H.new 108 2 (by kernel_rfl)
                refine gives_call rfl (fun _ _ => by kernel_rfl) (H.func _) (args := #[.int .i64 3, .int .i64 (C : Int), .int .i64 (n : Int)]) (by simp [H.const, e1, e2]) ?_
                exact (HHD.out W1).mono fun _ _ ⟨v, h1, h2, h3⟩ => ⟨v, h1, isB_own h2, h3⟩
              · intro ρ W1 hb1 H
                exact gives_move rfl (H.old 0 _ (by kernel_rfl) rfl) ⟨rfl, Below.refl _ _⟩
              · intro ρ W1 hb1 H
                exact gives_index (k := 0) elemI rfl (H.new 110 4 (by kernel_rfl)) (H.const _) (by omega) ⟨by rw [E0.out]; rfl, Below.refl _ _⟩
              · intro ρ W1 hb1 H
                exact gives_load rfl (H.new 111 5 (by kernel_rfl)) Tryz.underlying3 rfl ((hb1.cell (Nat.lt_of_lt_of_le HLT.out HB8.out.size)).trans ((HB8.out.cell HLT.out).trans HC0.out)) ⟨rfl, Below.refl _ _⟩
              · intro ρ W1 hb1 H
                exact gives_move rfl (H.old 1 _ (by kernel_rfl) rfl) ⟨rfl, Below.refl _ _⟩
              · intro ρ W1 hb1 H
                have e0 : IsB (dheadN 3 C n) (ρ (.tmp 109)) W1 := H.new 109 3 (by kernel_rfl)
                have e1 : ρ (.tmp 112) = .int .i64 x0 := H.new 112 6 (by kernel_rfl)
                have e2 : ρ (.tmp 113) = .bool s := H.new 113 7 (by kernel_rfl)
                refine gives_call rfl (fun _ _ => by kernel_rfl) (H.func _) (args := #[ρ (.tmp 109), .int .i64 x0, .bool s]) (by simp [e1, e2]) ?_
                exact (rputInt_isB x0 s e0 (by rw [dheadN_len]; omega) HX0.out.1 HX0.out.2).mono fun _ _ h => h
              · intro ρ W1 hb1 H
                exact gives_assign rfl rfl ⟨H.new 114 8 (by kernel_rfl), Below.refl _ _⟩
              · intro vs W1 hb1 hfs
                have f9 : IsB (dheadN 3 C n ++ vput (vint x0 s)) (vs 9) W1 := hfs 9 (by decide)
                clear hfs
                simp only [putAll, Nat.zero_add, Nat.reduceAdd]
                generalize vs 0 = z0
                generalize vs 1 = z1
                generalize vs 2 = z2
                generalize vs 3 = z3
                generalize vs 4 = z4
                generalize vs 5 = z5
                generalize vs 6 = z6
                generalize vs 7 = z7
                generalize vs 8 = z8
                generalize vs 9 = z9 at f9 ⊢
                simp only [Act.put, List.setIfInBounds_toArray, List.set_cons_succ, List.set_cons_zero]
                have HO := Lib.hid f9
                have HBa := Lib.hid (below_then HB8.out hb1)
                clear f9
                have hlen : (dheadN 3 C n ++ vput (vint x0 s)).length ≤ 1000 := by rw [List.length_append, dheadN_len]; have := vput_len_10 (x := vint x0 s) (vint_64 HX0.out); omega
                have HLN := Lib.hid hlen
                clear hlen
                go_wp2_with fail
                refine (rputInt_isO (u0 : Int) true HO.out (by have := HLN.out; omega) (by have := HU0B.lt; omega) (by have := HU0B.lt; omega)).mono ?_
                rintro e w6 ⟨v6, rfl, hown6, hb6⟩
                have HB6 := Lib.hid (below_then HBa.out hb6)
                have HT6 := Lib.hid (isU_iff.2 ((HT8.out.below hb1).below hb6))
                have HOW := Lib.hid hown6
                have hz6 := hb6.size
                clear hown6
                go_wp2_with fail
                refine (rpack_is (G : Int) HT6.out (by have := HULT.out; omega) H64t.out).mono ?_
                rw [HPKE.out]
                rintro e w7 ⟨v7, rfl, hv7, hb7⟩
                have hown7 := own_below HOW.out hb7
                obtain ⟨A7, n7, c7, rfl⟩ := IsV.shape (f := bv) hv7
                obtain ⟨hn7, hA7, -, -, hl7⟩ := IsV.parts (f := bv) (show IsV bv _ _ _ from hv7)
                have hM7 : ((bpack us.tail G).map bv).length = n7 := by rw [List.length_map]; exact hn7
                have hn7b : n7 ≤ 5000 := by rw [← hn7, bpack_len]; exact Nat.le_trans (bsize_small HULT.out (by omega)) (by omega)
                have HM7 := Lib.hid hM7
                have hbb7 := hb6.trans (hb7.mono hb6.size)
                have hzz7 := hbb7.size
                obtain ⟨K6, hK6⟩ : ∃ K, K = (dheadN 3 C n ++ vput (vint x0 s) ++ vput (vint (u0 : Int) true)).length := ⟨_, rfl⟩
                have hK6b : K6 ≤ 2000 := by rw [hK6, List.length_append]; have := vput_len_10 (x := vint (u0 : Int) true) (vint_64 (show inInt (u0 : Int) from ⟨by have := HU0B.lt; omega, by have := HU0B.lt; omega⟩)); have := HLN.out; omega
                rw [← hK6] at hown7
                have HK6 := Lib.hid hK6
                clear hv7 hb7 hM7 hn7 hb6 hK6
                obtain ⟨xs6, hx6⟩ : ∃ xs, xs = (dheadN 3 C n ++ vput (vint x0 s) ++ vput (vint (u0 : Int) true)).map bv := ⟨_, rfl⟩
                rw [← hx6] at hown7
                have HX6 := Lib.hid hx6
                clear hx6
                go_wp2_with (at_builtin; refine wpList_join elemB rfl _ _ rfl W1.heap.size _ _ _ _ _ _ ((bpack us.tail G).map bv) W1 rfl rfl hA7 HM7.out hl7 (bv_one _) hown7 hbb7 hzz7 (by omega) (by omega) ?_)
                intro v8 w8 hown8 hb8 _ _
                have HI9 : Hid (IsB (dheadN 3 C n ++ vput (vint x0 s) ++ vput (vint (u0 : Int) true) ++ bpack us.tail G) v8 w8) := Lib.hid (isB_own (by rw [List.map_append, ← HX6.out]; exact hown8))
                have HB9 := Lib.hid (below_then HBa.out hb8)
                clear hown8 hb8 hown7 hbb7 hzz7
                go_wp2
                go_ret2
                rw [hE2.out, HGL.out, HGF.out]
                exact ⟨_, rfl, HI9.out, HB9.out⟩
end Go.Proofs.YtblpkmmhmdpkjaaGreatDoor

/- The contract of layer 9's reference's Take. -/



namespace Go.Proofs.YtblpkmmhmdpkjaaGreatDoor

open Go.RowKit

end Go.Proofs.YtblpkmmhmdpkjaaGreatDoor

/- delta's own contracts: between, step, isCount, Diff, Step; math/bits.Mul laid. -/











namespace Go.Proofs.YtblpkmmhmdpkjaaGreatDoor

open Go.RowKit

/-- A difference as the program holds it. -/
def dpair (p : Nat × Bool × Bool) : Nat × Bool := (p.1, p.2.1)
def dc (d : Nat × Bool) : List Value := [.int .u64 (d.1 : Int), .bool d.2]
theorem dc_len (d : Nat × Bool) : (dc d).length = 2 := rfl
theorem dc_one (d : Nat × Bool) : ∀ u ∈ dc d, u.oneCell' = true := by
  intro u hu
  unfold dc at hu
  simp at hu
  rcases hu with rfl | rfl <;> rfl
def dv (d : Nat × Bool) : Value := .agg (dc d).toArray
theorem Tryz.infoD : (Tryz.prog.info? 176).map (fun i => (i.zero, i.size, i.bytes)) = some (some (dv (0, false)), 2, 16) := by kernel_rfl
theorem elemD : ElemW Tryz.prog 169 176 16 2 (dv (0, false)) := by
  obtain ⟨i0, hi, hz0, hz1, hz2⟩ := info_parts Tryz.infoD
  exact ⟨Tryz.underlying169, rfl, by omega, i0, hi, hz0, hz1, hz2⟩
theorem sizeD : (Tryz.prog.info? 176).map (·.size) = some 2 := by
  obtain ⟨i0, hi, hz0, hz1, hz2⟩ := info_parts Tryz.infoD
  rw [hi, Option.map_some, hz1]
/-- The cells of a difference in a slice. -/
theorem cells2 {w : World} {ad : Addr} {k : Nat} {x : Nat × Bool} (h : ∀ i, i < 2 → w.cell? (ad.add (k * 2 + i)) = (dc x)[i]?) :
    w.cell? (ad.add (k * 2)) = some (.int .u64 (x.1 : Int)) ∧ w.cell? ⟨(ad.add (k * 2)).block, (ad.add (k * 2)).off + 1, none⟩ = some (.bool x.2) := by
  refine ⟨h 0 (by omega), ?_⟩
  have h1 := h 1 (by omega); rw [← add_add] at h1; exact h1
/-- What between answers. -/
def RetBt (p : Nat × Bool × Bool) (e : Ending) : Prop := e = .returned (.tuple #[dv (dpair p), .bool p.2.2])
theorem ret_pair {fn : Func} {p u : Tmp} (h : fn.results = #[.cell p 176, .tmp u]) (tmps : Array Value) (w : World) (g : Nat) (d : Nat × Bool) (b : Bool)
    (hp : tmps.getD p undef = .pointer (some ⟨g, 0, none⟩)) (hr : Row w g 176 (dc d)) (hu : tmps.getD u undef = .bool b) : (results fn tmps).run Tryz.prog w = .ok (.tuple #[dv d, .bool b]) w :=
  results_row_tmp h tmps w g 176 (dc d).toArray (0, 0) _ _ hp hr Tryz.underlying176 rfl sizeD hu
theorem row_under (w : World) (cs : List Value) (t : TypeId) (o : Obj) : Row ((w.alloc (.cells cs.toArray t)).alloc o) w.heap.size t cs := Row.alloc (heap_alloc_new w _) o
theorem below_two (w : World) (o o' : Obj) : Below w.heap.size w ((w.alloc o).alloc o') := ((Below.refl _ _).alloc (Nat.le_refl _) _).alloc (by simp) _
set_option maxHeartbeats 2000000 in
set_option maxRecDepth 100000 in
theorem between_any (a b : Int) (w : World) (ha : inInt a) (hb : inInt b) : Calls Tryz.prog 178 #[.int .i64 a, .int .i64 b] w fun e w' => RetBt (gdiff a b) e ∧ Below w.heap.size w w' := by
  unfold inInt at ha hb
  obtain ⟨S, hS⟩ : ∃ S : Nat, (S : Int) = IntKind.u64.wrap (b - a) := ⟨(IntKind.u64.wrap (b - a)).toNat, by rw [IntKind.wrap_u64]; omega⟩
  have hS2 : IntKind.u64.wrap (IntKind.u64.wrap b - IntKind.u64.wrap a) = (S : Int) := by rw [hS, IntKind.wrap_u64, IntKind.wrap_u64, IntKind.wrap_u64, IntKind.wrap_u64]; omega
  rw [IntKind.wrap_u64] at hS
  by_cases h : b < a
  · obtain ⟨D, hD⟩ : ∃ D : Nat, (D : Int) = a - b := ⟨(a - b).toNat, by omega⟩
    have hn : IntKind.u64.wrap (-(S : Int)) = (D : Int) := by rw [IntKind.wrap_u64]; omega
    have d1 : decide (b < a) = true := decide_eq_true h
    by_cases h2 : 9223372036854775808 ≤ (D : Int)
    · have hE : Hid (gdiff a b = (0, false, false)) := Lib.hid (by unfold gdiff; rw [if_pos h, if_pos (by omega)])
      have d2 : decide ((9223372036854775807 : Int) < (D : Int)) = true := decide_eq_true (by omega)
      clear hD ha hb hS h2
      go_enter Tryz.func178, Tryz.ntmps178
      go_wp2
      refine bodyPost_ret (ret_pair rfl _ _ _ (0, false) false rfl (row_under _ _ _ _) rfl) rfl ?_
      rw [hE.out]
      exact ⟨rfl, below_two _ _ _⟩
    · have hE : Hid (gdiff a b = (D, true, true)) := Lib.hid (by unfold gdiff; rw [if_pos h, if_neg (by omega)]; congr 1; omega)
      have d2 : decide ((9223372036854775807 : Int) < (D : Int)) = false := decide_eq_false (by omega)
      clear hD ha hb hS h2
      go_enter Tryz.func178, Tryz.ntmps178
      go_wp2
      refine bodyPost_ret (ret_pair rfl _ _ _ (D, true) true rfl (row_under _ _ _ _) rfl) rfl ?_
      rw [hE.out]
      exact ⟨rfl, below_two _ _ _⟩
  · have d1 : decide (b < a) = false := decide_eq_false h
    have hSD : (S : Int) = b - a := by omega
    by_cases h2 : 9223372036854775808 ≤ (S : Int)
    · have hE : Hid (gdiff a b = (0, false, false)) := Lib.hid (by unfold gdiff; rw [if_neg h, if_pos (by omega)])
      have d2 : decide ((9223372036854775807 : Int) < (S : Int)) = true := decide_eq_true (by omega)
      clear ha hb hS h2 hSD
      go_enter Tryz.func178, Tryz.ntmps178
      go_wp2
      refine bodyPost_ret (ret_pair rfl _ _ _ (0, false) false rfl (row_under _ _ _ _) rfl) rfl ?_
      rw [hE.out]
      exact ⟨rfl, below_two _ _ _⟩
    · have hE : Hid (gdiff a b = (S, false, true)) := Lib.hid (by unfold gdiff; rw [if_neg h, if_neg (by omega)]; congr 1; omega)
      have d2 : decide ((9223372036854775807 : Int) < (S : Int)) = false := decide_eq_false (by omega)
      clear ha hb hS h2 hSD
      go_enter Tryz.func178, Tryz.ntmps178
      go_wp2
      refine bodyPost_ret (ret_pair rfl _ _ _ (S, false) true rfl (row_under _ _ _ _) rfl) rfl ?_
      rw [hE.out]
      exact ⟨rfl, below_two _ _ _⟩
set_option maxHeartbeats 2000000 in
set_option maxRecDepth 100000 in
theorem tdiff_any (a b : Int) (w : World) (ha : inInt a) (hb : inInt b) : Calls Tryz.prog 207 #[.int .i64 a, .int .i64 b] w fun e w' => RetD (gdiff a b) e ∧ Below w.heap.size w w' := by
  have HB := Lib.hid (between_any a b w ha hb)
  generalize gdiff a b = p at HB ⊢
  obtain ⟨U, f, ok⟩ := p
  clear ha hb
  go_enter Tryz.func207, Tryz.ntmps207
  go_wp2_with fail
  refine HB.out.mono ?_
  rintro e w1 ⟨rfl, hb1⟩
  unfold dpair dv dc
  dsimp only
  go_wp2
  go_quiet (fail)
  go_wp2
  refine bodyPost_ret (results_tmp3 rfl _ _ _) rfl ?_
  exact ⟨rfl, (hb1.alloc hb1.size _).trans ⟨rfl, rfl, rfl, Nat.le_refl _, fun _ _ => rfl⟩⟩
set_option maxHeartbeats 2000000 in
set_option maxRecDepth 100000 in
theorem step_any (a : Int) (U : Nat) (f : Bool) (w : World) (ha : inInt a) (h1 : (U : Int) < 18446744073709551616) : Calls Tryz.prog 152 #[.int .i64 a, dv (U, f)] w fun e w' => RetG (gstep a U f) e ∧ Below w.heap.size w w' := by
  unfold inInt at ha
  by_cases h2 : 9223372036854775808 ≤ (U : Int)
  · have hE : Hid (gstep a U f = (0, false)) := Lib.hid (by unfold gstep; rw [if_pos h2])
    have d2 : decide ((9223372036854775807 : Int) < (U : Int)) = true := decide_eq_true (by omega)
    clear h2 h1
    unfold dv dc
    dsimp only
    go_enter Tryz.func152, Tryz.ntmps152
    go_wp2
    go_ret2
    rw [hE.out]
    exact ⟨rfl, (Below.refl _ _).alloc (Nat.le_refl _) _⟩
  · have d2 : decide ((9223372036854775807 : Int) < (U : Int)) = false := decide_eq_false (by omega)
    have hw1 : IntKind.i64.wrap (U : Int) = (U : Int) := by rw [IntKind.wrap_i64]; omega
    cases f with
    | true =>
      obtain ⟨M, hM⟩ : ∃ M, M = -(U : Int) := ⟨_, rfl⟩
      have hw2 : IntKind.i64.wrap (-(U : Int)) = M := by rw [IntKind.wrap_i64]; omega
      obtain ⟨b, hb⟩ : ∃ b, b = IntKind.i64.wrap (a + M) := ⟨_, rfl⟩
      have hw3 : IntKind.i64.wrap (a + M) = b := hb.symm
      rw [IntKind.wrap_i64] at hb
      by_cases h3 : a < -9223372036854775808 + (U : Int)
      · have hE : Hid (gstep a U true = (0, false)) := Lib.hid (by unfold gstep; rw [if_neg h2, if_pos rfl, if_pos h3])
        have d3 : decide (b < a) = false := decide_eq_false (by omega)
        have d4 : decide (M < 0) = true := decide_eq_true (by omega)
        clear h2 h1 hM hb h3 ha
        unfold dv dc
        dsimp only
        go_enter Tryz.func152, Tryz.ntmps152
        go_wp2
        go_ret2
        rw [hE.out]
        exact ⟨rfl, (Below.refl _ _).alloc (Nat.le_refl _) _⟩
      · have hE : Hid (gstep a U true = (b, true)) := Lib.hid (by unfold gstep; rw [if_neg h2, if_pos rfl, if_neg h3]; congr 1; omega)
        have d3 : decide (b < a) = decide (M < 0) := by
          by_cases h4 : M < 0
          · rw [decide_eq_true h4]; exact decide_eq_true (by omega)
          · rw [decide_eq_false h4]; exact decide_eq_false (by omega)
        clear h2 h1 hM hb h3 ha
        obtain ⟨d, hd⟩ : ∃ d, d = decide (M < 0) := ⟨_, rfl⟩
        rw [← hd] at d3
        have d4 := hd.symm
        clear hd
        unfold dv dc
        dsimp only
        cases d
        · go_enter Tryz.func152, Tryz.ntmps152
          go_wp2
          go_ret2
          rw [hE.out]
          exact ⟨rfl, (Below.refl _ _).alloc (Nat.le_refl _) _⟩
        · go_enter Tryz.func152, Tryz.ntmps152
          go_wp2
          go_ret2
          rw [hE.out]
          exact ⟨rfl, (Below.refl _ _).alloc (Nat.le_refl _) _⟩
    | false =>
      obtain ⟨b, hb⟩ : ∃ b, b = IntKind.i64.wrap (a + (U : Int)) := ⟨_, rfl⟩
      have hw3 : IntKind.i64.wrap (a + (U : Int)) = b := hb.symm
      rw [IntKind.wrap_i64] at hb
      have d4 : decide ((U : Int) < 0) = false := decide_eq_false (by omega)
      by_cases h3 : 9223372036854775807 - (U : Int) < a
      · have hE : Hid (gstep a U false = (0, false)) := Lib.hid (by unfold gstep; rw [if_neg h2, if_neg (by decide), if_pos h3])
        have d3 : decide (b < a) = true := decide_eq_true (by omega)
        clear h2 h1 hb h3 ha
        unfold dv dc
        dsimp only
        go_enter Tryz.func152, Tryz.ntmps152
        go_wp2
        go_ret2
        rw [hE.out]
        exact ⟨rfl, (Below.refl _ _).alloc (Nat.le_refl _) _⟩
      · have hE : Hid (gstep a U false = (b, true)) := Lib.hid (by unfold gstep; rw [if_neg h2, if_neg (by decide), if_neg h3]; congr 1; omega)
        have d3 : decide (b < a) = false := decide_eq_false (by omega)
        clear h2 h1 hb h3 ha
        unfold dv dc
        dsimp only
        go_enter Tryz.func152, Tryz.ntmps152
        go_wp2
        go_ret2
        rw [hE.out]
        exact ⟨rfl, (Below.refl _ _).alloc (Nat.le_refl _) _⟩
theorem tcount_yes (n : Int) (w : World) (h0 : 2 ≤ n) (h1 : n ≤ 512) : Calls Tryz.prog 147 #[.int .i64 n] w fun e w' => e = .returned (.bool true) ∧ w = w' := by
  go_enter Tryz.func147, Tryz.ntmps147
  go_wp2
  go_ret
  exact ⟨rfl, rfl⟩
theorem tcount_no (n : Int) (w : World) (h : n < 2 ∨ 512 < n) : Calls Tryz.prog 147 #[.int .i64 n] w fun e w' => e = .returned (.bool false) ∧ w = w' := by
  rcases h with h | h
  · have h2 : decide (2 ≤ n) = false := by simp; omega
    go_enter Tryz.func147, Tryz.ntmps147
    go_wp2
    go_ret
    exact ⟨rfl, rfl⟩
  · have h2 : decide (n ≤ 512) = false := by simp; omega
    have h3 : decide (2 ≤ n) = true := by simp; omega
    go_enter Tryz.func147, Tryz.ntmps147
    go_wp2
    go_ret
    exact ⟨rfl, rfl⟩
/-- The least of some numbers. -/
def lmin : List Int → Int
  | [] => 0
  | x :: xs => xs.foldl min x
theorem lmin_snoc {l : List Int} (hl : l ≠ []) (x : Int) : lmin (l ++ [x]) = min (lmin l) x := by
  cases l with
  | nil => exact absurd rfl hl
  | cons y ys => simp [lmin, List.foldl_append]
theorem lmin_neg {l : List Int} (hl : l ≠ []) : lmin l < 0 ↔ ∃ x ∈ l, x < 0 := by
  cases l with
  | nil => exact absurd rfl hl
  | cons y ys =>
    show ys.foldl min y < 0 ↔ _
    induction ys generalizing y with
    | nil => simp
    | cons z zs ih =>
      rw [List.foldl_cons, ih (min y z) (by simp)]
      simp only [List.mem_cons, exists_eq_or_imp]
      constructor
      · rintro (h | h)
        · rcases (by omega : y < 0 ∨ z < 0) with h | h
          · exact .inl h
          · exact .inr (.inl h)
        · exact .inr (.inr h)
      · rintro (h | h | h)
        · exact .inl (by omega)
        · exact .inl (by omega)
        · exact .inr h
def MinRel (l : List Int) (m i : Value) : Prop := ∃ (k : Nat) (x : Int), 1 ≤ k ∧ k ≤ l.length ∧ i = .int .i64 (k : Int) ∧ m = .int .i64 x ∧ x = lmin (l.take k)
set_option maxRecDepth 100000 in
theorem min_any (l : List Int) (v : Value) (w : World) (hv : IsV iv l v w) (h1 : 1 ≤ l.length) (hb : l.length ≤ 1000000) :
    Calls Tryz.prog 148 #[v] w fun e w' => e = .returned (.int .i64 (lmin l)) ∧ w = w' := by
  obtain ⟨A, n, c, rfl⟩ := hv.shape
  have HN := Lib.hid hv.len
  have HV := Lib.hid hv
  have hn : 1 ≤ n := by have := HN.out; omega
  have hn6 : n ≤ 1000000 := by have := HN.out; omega
  obtain ⟨ad, rfl, _, h0⟩ := hv.at (k := 0) h1
  obtain ⟨x0, hx0⟩ : ∃ x, x = l[0] := ⟨_, rfl⟩
  have h0' : w.cell? ad = some (.int .i64 l[0]) := by have := h0; simp [Addr.add, iv] at this; exact this
  have HS := Lib.hid (show MinRel l (.int .i64 l[0]) (.int .i64 1) from ⟨1, _, Nat.le_refl _, h1, rfl, rfl, by cases l with | nil => simp at h1 | cons a t => simp [lmin]⟩)
  rw [← hx0] at h0' HS
  clear hv h1 hb h0 hx0
  go_enter Tryz.func148, Tryz.ntmps148
  go_wp2
  go_loop [3, 4] (MinRel l) (fun _ i => n - (intOf i).toNat)
  case atStart => exact HS.out
  case round =>
    obtain ⟨k, x, hk1, hk2, rfl, rfl, hx⟩ := hrel
    have HX := Lib.hid hx
    have hkn : k ≤ n := by have := HN.out; omega
    clear hx
    by_cases hlt : k < n
    · have hkl : k < l.length := by have := HN.out; omega
      have hlti : (k : Int) < (n : Int) := by omega
      obtain ⟨ad', had, _, hc⟩ := HV.out.at hkl
      injection had with had
      subst had
      obtain ⟨y, hy⟩ : ∃ y, y = l[k] := ⟨_, rfl⟩
      rw [← hy] at hc
      unfold iv at hc
      obtain ⟨z, hz⟩ : ∃ z, z = min x y := ⟨_, rfl⟩
      have hmin : ∀ (ts : Array TypeId) (t : TypeId) (W : World), (Builtin.min_ ts t #[.int .i64 x, .int .i64 y]).run Tryz.prog W = .ok (.int .i64 z) W := fun ts t W => by
        rw [run_min_int2]
        congr 2
        rw [hz]
        split <;> omega
      have HR := Lib.hid (show MinRel l (.int .i64 z) (.int .i64 ((k + 1 : Nat) : Int)) from ⟨k + 1, _, by omega, hkl, rfl, rfl, by
        rw [List.take_succ_eq_append_getElem hkl, lmin_snoc (by intro h0; have h1 := congrArg List.length h0; rw [List.length_take, List.length_nil] at h1; omega), ← HX.out, ← hy, hz]⟩)
      clear hy hz
      go_wp2
      go_round
      case rel => exact HR.out
      case measure => simp [intOf]; omega
    · obtain rfl : k = n := by omega
      go_wp2
      go_ret
      refine ⟨?_, rfl⟩
      rw [HX.out, List.take_of_length_le (by have := HN.out; omega)]
      rfl
/-- Differences that a call answers, in a row of its own. -/
def diffAt (l : List Int) (i : Nat) : Nat × Bool × Bool := gdiff (l.getD i 0) (l.getD (i + 1) 0)
def AreRel (l : List (Nat × Bool)) (w : World) (i : Value) (wr : World) : Prop := ∃ k : Nat, k ≤ l.length ∧ i = .int .i64 (k : Int) ∧ (∀ j, j < k → l[j]? = l[0]?) ∧ Below w.heap.size w wr
/-- Is each the first one? -/
def dsame (l : List (Nat × Bool)) : Bool := l.all fun d => d == l.headD (0, false)
theorem dsame_yes {l : List (Nat × Bool)} (h : ∀ j, j < l.length → l[j]? = l[0]?) : dsame l = true := by
  unfold dsame
  rw [List.all_eq_true]
  intro d hd
  obtain ⟨j, hj, rfl⟩ := List.getElem_of_mem hd
  have h1 := h j hj
  rw [List.getElem?_eq_getElem hj] at h1
  cases l with
  | nil => simp at hj
  | cons a t => simp at h1; simp [h1]
theorem dsame_no {l : List (Nat × Bool)} {j : Nat} (hj : j < l.length) (h : l[j]? ≠ l[0]?) : dsame l = false := by
  unfold dsame
  rw [List.all_eq_false]
  refine ⟨l[j], List.getElem_mem hj, ?_⟩
  rw [List.getElem?_eq_getElem hj] at h
  cases l with
  | nil => simp at hj
  | cons a t => simp at h; simpa using h
theorem eqD (a b : Nat × Bool) (w : World) : (Op.equalIn 10000 176 (dv a) (dv b)).run Tryz.prog w = .ok (a == b) w := by
  have hS : Tryz.prog.underlying 176 = some (.struct (Tryz.prog.fieldsOf 176)) := by kernel_rfl
  have hp : Tryz.prog.stoodInHeld 176 = false := by kernel_rfl
  obtain ⟨au, af⟩ := a
  obtain ⟨bu, bf⟩ := b
  unfold dv dc
  have u1 := Tryz.underlying101
  have u2 := Tryz.underlying4
  have s1 := Tryz.sizeOf101
  have s2 := Tryz.sizeOf4
  have g1 := Tryz.isAgg101
  have g2 := Tryz.isAgg4
  rw [show (10000 : Nat) = 9999 + 1 from rfl, run_equalIn_agg w 9999 176 _ _ hS hp]
  simp only [Program.fieldsOf, Tryz.underlying176]
  go_simp
  by_cases h1 : au = bu
  · subst h1
    rw [if_pos rfl]
    cases af <;> cases bf <;> simp
  · have h3 : ¬ (au : Int) = (bu : Int) := by omega
    rw [if_neg h3]
    have h4 : ((au, af) == (bu, bf)) = false := by
      rw [beq_eq_false_iff_ne]
      intro h
      injection h with h _
      exact h1 h
    rw [h4]
theorem gives_neqD {o : Oper} {ρ : Operand → Value} {w : World} {R : Value → World → Prop} {x y : Operand} {a b : Nat × Bool} (ho : o.op = .binOp .neq 176 x y 176) (hx : ρ x = dv a) (hy : ρ y = dv b)
    (hR : R (.bool (!(a == b))) w) : Gives Tryz.prog o ρ w R := by
  refine gives_of (v := .bool (!(a == b))) (w' := w) ?_ hR
  have hg := run_eqGuard_agg (P := Tryz.prog) w .neq 176 x y (dc a).toArray (dc b).toArray (by kernel_rfl)
  have hq := run_neq_struct (P := Tryz.prog) w 176 (dc a).toArray (dc b).toArray
  have he := eqD a b w
  unfold dv at he
  rw [he] at hq
  unfold dv at hx hy
  simp [execOp, ho, hx, hy, hg, hq]
set_option maxHeartbeats 2000000 in
set_option maxRecDepth 100000 in
theorem aresame_any (l : List (Nat × Bool)) (v : Value) (w : World) (hv : IsR dc l v w) (hb : l.length ≤ 1000000) :
    Calls Tryz.prog 181 #[v] w fun e w' => e = .returned (.bool (dsame l)) ∧ Below w.heap.size w w' := by
  obtain ⟨A, n, c, rfl⟩ := hv.shape
  have HN := Lib.hid hv.parts.1
  have HV := Lib.hid hv
  have hn6 : n ≤ 1000000 := by have := HN.out; omega
  have HS := Lib.hid (show AreRel l w (.int .i64 0) w from ⟨0, Nat.zero_le _, rfl, fun j hj => by omega, Below.refl _ _⟩)
  clear hv hb
  go_enter Tryz.func181, Tryz.ntmps181
  go_wp2
  go_loopw [7] (AreRel l w) (fun i _ => n - (intOf i).toNat)
  case atStart => exact HS.out
  case round =>
    obtain ⟨k, hk, rfl, hs, hbw⟩ := hrel
    have HSM := Lib.hid hs
    have HB := Lib.hid hbw
    have hkn : k ≤ n := by have := HN.out; omega
    clear hs hk
    by_cases hlt : k < n
    · have hkl : k < l.length := by have := HN.out; omega
      have h0l : 0 < l.length := by omega
      have hlti : (k : Int) < (n : Int) := by omega
      have h0i : (0 : Int) < (n : Int) := by omega
      obtain ⟨ad, rfl, had, hcell⟩ := (HV.out.below hbw).at (m := 2) dc_len (by omega) hkl
      obtain ⟨x, hx⟩ : ∃ x, x = l[k] := ⟨_, rfl⟩
      rw [← hx] at hcell
      have k0 := cells2 hcell
      have HX := Lib.hid hx
      obtain ⟨xu, xf⟩ := x
      dsimp only at k0
      obtain ⟨k1, k2⟩ := k0
      clear hcell hx hbw
      have HR := Lib.hid (show Row (wr.alloc (.cells #[.int .u64 (xu : Int), .bool xf] 176)) wr.heap.size 176 (dc (xu, xf)) from heap_alloc_new wr _)
      have HBA := Lib.hid (HB.out.alloc HB.out.size (.cells #[.int .u64 (xu : Int), .bool xf] 176))
      obtain ⟨y, hy⟩ : ∃ y, y = l[0] := ⟨_, rfl⟩
      have HY := Lib.hid hy
      clear hy
      obtain ⟨b, hb⟩ : ∃ b, b = !((xu, xf) == y) := ⟨_, rfl⟩
      have HEQ := Lib.hid hb
      clear hb
      go_wp2
      refine wp_region_list [.is (dv (xu, xf)), .is (.slice (some ad) n c), .is (.pointer (some (ad.add (0 * 2)))), .is (dv y), .is (.bool b)] [some 11, some 12, some 13, some 14, some 15] (by kernel_rfl) (by kernel_rfl) (by kernel_rfl) rfl ⟨?_, ?_, ?_, ?_, ?_, trivial⟩ ?_
      · intro ρ W1 hb1 H
        exact gives_load_row (cs := dc (xu, xf)) rfl (H.old 4 _ (by kernel_rfl) rfl) Tryz.underlying176 rfl sizeD (HR.out.below hb1 HR.out.lt) ⟨rfl, Below.refl _ _⟩
      · intro ρ W1 hb1 H
        exact gives_move rfl (H.old 0 _ (by kernel_rfl) rfl) ⟨rfl, Below.refl _ _⟩
      · intro ρ W1 hb1 H
        exact gives_index_wide (k := 0) Tryz.underlying169 Tryz.sizeOf176 rfl (H.new 12 1 (by kernel_rfl)) (H.const _) (by omega) ⟨rfl, Below.refl _ _⟩
      · intro ρ W1 hb1 H
        obtain ⟨ad0, had0, had1, hcell0⟩ := (HV.out.below (HBA.out.trans (hb1.mono HBA.out.size))).at (m := 2) dc_len (by omega) h0l
        injection had0 with had0
        subst had0
        exact gives_load_wide (cs := dc y) rfl (H.new 13 2 (by kernel_rfl)) Tryz.underlying176 rfl Tryz.sizeOf176 (fun j v hj => by
          have hj2 : j < 2 := by have := (List.getElem?_eq_some_iff.1 hj).1; exact this
          have h := hcell0 j hj2
          rw [← HY.out] at h
          rw [add_add]
          exact h.trans hj) ⟨rfl, Below.refl _ _⟩
      · intro ρ W1 hb1 H
        exact gives_neqD rfl (H.new 11 0 (by kernel_rfl)) (H.new 14 3 (by kernel_rfl)) ⟨by rw [HEQ.out]; rfl, Below.refl _ _⟩
      · intro vs W1 hb1 hfs
        have f4 : vs 4 = .bool b := hfs 4 (by decide)
        clear hfs
        simp only [putAll, Nat.zero_add, Nat.reduceAdd]
        generalize vs 0 = z0
        generalize vs 1 = z1
        generalize vs 2 = z2
        generalize vs 3 = z3
        simp only [f4, Act.put, List.setIfInBounds_toArray, List.set_cons_succ, List.set_cons_zero]
        have HB1 := Lib.hid (HBA.out.trans (hb1.mono HBA.out.size))
        clear f4 hb1
        cases b with
        | true =>
          have HD := Lib.hid (show dsame l = false from dsame_no hkl (by
            rw [List.getElem?_eq_getElem hkl, List.getElem?_eq_getElem h0l, ← HX.out, ← HY.out]
            intro h
            injection h with h
            rw [h] at HEQ
            have := HEQ.out
            simp at this))
          go_wp2
          go_ret
          rw [HD.out]
          exact ⟨rfl, HB1.out⟩
        | false =>
          have HK := Lib.hid (show ∀ j, j < k + 1 → l[j]? = l[0]? from fun j hj => by
            rcases (by omega : j < k ∨ j = k) with h | rfl
            · exact HSM.out j h
            · rw [List.getElem?_eq_getElem hkl, List.getElem?_eq_getElem h0l, ← HX.out, ← HY.out]
              have := HEQ.out
              simp at this
              rw [this])
          go_wp2
          go_roundw
          case rel => exact ⟨k + 1, hkl, by go_num, HK.out, HB1.out⟩
          case measure => simp [intOf]; omega
    · obtain rfl : k = n := by omega
      have HD := Lib.hid (dsame_yes (l := l) (fun j hj => HSM.out j (by have := HN.out; omega)))
      go_wp2
      go_ret
      rw [HD.out]
      exact ⟨rfl, HB.out⟩
end Go.Proofs.YtblpkmmhmdpkjaaGreatDoor

/- delta's own contracts: goOneWay, with slices.ContainsFunc, slices.IndexFunc and its closure; diffsOf. -/



namespace Go.Proofs.YtblpkmmhmdpkjaaGreatDoor

open Go.RowKit

def dturns (down : Bool) (d : Nat × Bool) : Bool := d.1 != 0 && d.2 != down
set_option maxRecDepth 100000 in
theorem lit_any (d : Nat × Bool) (b : Nat) (down : Bool) (w : World) (hr : Row w b 4 [.bool down]) :
    Calls Tryz.prog 180 #[dv d, .pointer (some ⟨b, 0, none⟩)] w fun e w' => e = .returned (.bool (dturns down d)) ∧ Below w.heap.size w w' := by
  obtain ⟨U, f⟩ := d
  have hc := (hr.alloc (.cells #[.int .u64 (U : Int), .bool f] 176)).cell 0
  have hc2 : (w.alloc (.cells #[.int .u64 (U : Int), .bool f] 176)).cell? ⟨b, 0, none⟩ = some (.bool down) := hc
  clear hc
  unfold dv dc dturns
  dsimp only
  by_cases h0 : U = 0
  · subst h0
    go_enter Tryz.func180, Tryz.ntmps180
    go_wp2
    go_ret
    exact ⟨rfl, (Below.refl _ _).alloc (Nat.le_refl _) _⟩
  · have h1 : ((U : Int) != 0) = true := by simp; omega
    have h2 : (U != 0) = true := by simpa using h0
    rw [h2]
    go_enter Tryz.func180, Tryz.ntmps180
    go_wp2
    go_ret
    exact ⟨by cases f <;> cases down <;> rfl, (Below.refl _ _).alloc (Nat.le_refl _) _⟩
def IdxRel (l : List (Nat × Bool)) (p : Nat × Bool → Bool) (w : World) (i : Value) (wr : World) : Prop := ∃ k : Nat, k ≤ l.length ∧ i = .int .i64 (k : Int) ∧ (l.take k).any p = false ∧ Below w.heap.size w wr
set_option maxHeartbeats 2000000 in
set_option maxRecDepth 100000 in
theorem index_any (l : List (Nat × Bool)) (v : Value) (b : Nat) (down : Bool) (w : World) (hv : IsR dc l v w) (hr : Row w b 4 [.bool down]) (hb : l.length ≤ 1000000) :
    Calls Tryz.prog 204 #[v, .func (.func 180) #[] #[.pointer (some ⟨b, 0, none⟩)]] w
      fun e w' => (∃ r : Int, e = .returned (.int .i64 r) ∧ decide (0 ≤ r) = l.any (dturns down)) ∧ Below w.heap.size w w' := by
  obtain ⟨A, n, c, rfl⟩ := hv.shape
  have HN := Lib.hid hv.parts.1
  have HV := Lib.hid hv
  have HR := Lib.hid hr
  have hn6 : n ≤ 1000000 := by have := HN.out; omega
  have HS := Lib.hid (show IdxRel l (dturns down) w (.int .i64 0) w from ⟨0, Nat.zero_le _, rfl, rfl, Below.refl _ _⟩)
  clear hv hb hr
  go_enter Tryz.func204, Tryz.ntmps204
  go_wp2
  go_loopw [8] (IdxRel l (dturns down) w) (fun i _ => n - (intOf i).toNat)
  case atStart => exact HS.out
  case round =>
    obtain ⟨k, hk, rfl, hs, hbw⟩ := hrel
    have HSM := Lib.hid hs
    have HB := Lib.hid hbw
    have hkn : k ≤ n := by have := HN.out; omega
    clear hs hk
    by_cases hlt : k < n
    · have hkl : k < l.length := by have := HN.out; omega
      have hlti : (k : Int) < (n : Int) := by omega
      obtain ⟨ad, rfl, had, hcell⟩ := (HV.out.below hbw).at (m := 2) dc_len (by omega) hkl
      obtain ⟨x, hx⟩ : ∃ x, x = l[k] := ⟨_, rfl⟩
      rw [← hx] at hcell
      have k0 := cells2 hcell
      have HX := Lib.hid hx
      have HL := Lib.hid (lit_any x b down wr (HR.out.below hbw HR.out.lt))
      have HSN := Lib.hid (show (l.take (k + 1)).any (dturns down) = dturns down x by rw [List.take_succ_eq_append_getElem hkl, List.any_append, HSM.out, hx]; simp)
      have HAL := Lib.hid (show dturns down x = true → l.any (dturns down) = true from fun h => List.any_eq_true.2 ⟨x, by rw [hx]; exact List.getElem_mem hkl, h⟩)
      obtain ⟨xu, xf⟩ := x
      dsimp only at k0
      obtain ⟨k1, k2⟩ := k0
      clear hcell hx hbw
      generalize hq : dturns down (xu, xf) = q at HL HSN HAL
      clear hq
      unfold dv dc at HL
      dsimp only at HL
      cases q with
      | true =>
        have HA := Lib.hid (HAL.out rfl)
        go_wp2_with (go_at_call 180; refine HL.out.mono ?_; rintro e w1 ⟨rfl, hb1⟩)
        go_ret
        exact ⟨⟨_, rfl, by rw [HA.out]; exact decide_eq_true (by omega)⟩, below_then HB.out hb1⟩
      | false =>
        go_wp2_with (go_at_call 180; refine HL.out.mono ?_; rintro e w1 ⟨rfl, hb1⟩)
        go_roundw
        case rel => exact ⟨k + 1, hkl, by go_num, HSN.out, below_then HB.out hb1⟩
        case measure => simp [intOf]; omega
    · obtain rfl : k = n := by omega
      have HA := Lib.hid HSM.out
      rw [List.take_of_length_le (by have := HN.out; omega)] at HA
      go_wp2
      go_ret
      exact ⟨⟨_, rfl, by rw [HA.out]; rfl⟩, HB.out⟩
theorem contains_any (l : List (Nat × Bool)) (v : Value) (b : Nat) (down : Bool) (w : World) (hv : IsR dc l v w) (hr : Row w b 4 [.bool down]) (hb : l.length ≤ 1000000) :
    Calls Tryz.prog 179 #[v, .func (.func 180) #[] #[.pointer (some ⟨b, 0, none⟩)]] w
      fun e w' => e = .returned (.bool (l.any (dturns down))) ∧ Below w.heap.size w w' := by
  have HI := Lib.hid (index_any l v b down w hv hr hb)
  clear hv hr hb
  go_enter Tryz.func179, Tryz.ntmps179
  go_wp2_with fail
  refine HI.out.mono ?_
  rintro e w1 ⟨⟨r, rfl, hr⟩, hb1⟩
  go_wp2
  go_ret
  exact ⟨rfl, hb1⟩
/-- Do all go where the first one says? -/
def dway (l : List (Nat × Bool)) : Bool := !(l.any (dturns (l.headD (0, false)).2))
set_option maxRecDepth 100000 in
theorem way_any (l : List (Nat × Bool)) (v : Value) (w : World) (hv : IsR dc l v w) (h1 : 1 ≤ l.length) (hb : l.length ≤ 1000000) :
    Calls Tryz.prog 150 #[v] w fun e w' => e = .returned (.bool (dway l)) ∧ Below w.heap.size w w' := by
  obtain ⟨A, n, c, rfl⟩ := hv.shape
  have HN := Lib.hid hv.parts.1
  have h0i : (0 : Int) < (n : Int) := by have := HN.out; omega
  obtain ⟨ad, rfl, had, hcell⟩ := hv.at (m := 2) dc_len (by omega) (k := 0) h1
  have k0 := cells2 hcell
  rw [Nat.zero_mul] at k0
  have k2 := k0.2
  have ha0 : ad.add 0 = ad := by simp [Addr.add]
  rw [ha0] at k2
  obtain ⟨down, hd⟩ : ∃ down, down = l[0].2 := ⟨_, rfl⟩
  rw [← hd] at k2
  have HW := Lib.hid (show dway l = !(l.any (dturns down)) by
    unfold dway
    rw [hd]
    cases l with
    | nil => simp at h1
    | cons a t => rfl)
  have HB := Lib.hid ((Below.refl w.heap.size w).alloc (Nat.le_refl _) (.cells #[.bool down] 4))
  have HC := Lib.hid (contains_any l (.slice (some ad) n c) w.heap.size down (w.alloc (.cells #[.bool down] 4)) (hv.below ((Below.refl _ _).alloc (Nat.le_refl _) _)) (heap_alloc_new w _) hb)
  generalize l.any (dturns down) = q at HW HC
  clear hv h1 hb hcell k0 hd
  go_enter Tryz.func150, Tryz.ntmps150
  go_wp2_with (go_at_call 179; refine HC.out.mono ?_; rintro e w1 ⟨rfl, hb1⟩)
  go_ret
  rw [HW.out]
  exact ⟨rfl, HB.out.trans (hb1.mono HB.out.size)⟩
def gpairs (l : List Int) (k : Nat) : List (Nat × Bool) := (List.range k).map fun i => dpair (diffAt l i)
theorem gpairs_len (l : List Int) (k : Nat) : (gpairs l k).length = k := by unfold gpairs; rw [List.length_map, List.length_range]
theorem gpairs_succ (l : List Int) (k : Nat) : gpairs l (k + 1) = gpairs l k ++ [dpair (diffAt l k)] := by unfold gpairs; rw [List.range_succ, List.map_append]; rfl
theorem dflat_len (l : List (Nat × Bool)) : (l.flatMap dc).length = l.length * 2 := flat_len dc_len l
/-- What diffsOf answers. -/
def RetDs (l : List Int) (w : World) (e : Ending) (w' : World) : Prop :=
  ((∀ i, i + 1 < l.length → (diffAt l i).2.2 = true) ∧ ∃ v, e = .returned (.tuple #[v, .bool true]) ∧ IsR dc (gpairs l (l.length - 1)) v w' ∧ Below w.heap.size w w') ∨
  ((∃ i, i + 1 < l.length ∧ (diffAt l i).2.2 = false) ∧ e = .returned (.tuple #[.slice none 0 0, .bool false]) ∧ Below w.heap.size w w')
def DfRel (l : List Int) (g m : Nat) (w : World) (i : Value) (wr : World) : Prop := ∃ (k : Nat) (rest : List Value), k ≤ m ∧ i = .int .i64 (k : Int) ∧ (∀ j, j < k → (diffAt l j).2.2 = true) ∧
  rest.length = (m - k) * 2 ∧ Row wr g 176 ((gpairs l k).flatMap dc ++ rest) ∧ Below w.heap.size w wr
set_option maxHeartbeats 4000000 in
set_option maxRecDepth 100000 in
theorem diffs_any (l : List Int) (v : Value) (w : World) (hv : IsV iv l v w) (hl : ∀ x ∈ l, inInt x) (h2 : 2 ≤ l.length) (hb : l.length ≤ 1000000) :
    Calls Tryz.prog 149 #[v] w (RetDs l w) := by
  obtain ⟨A, n, c, rfl⟩ := hv.shape
  have HN := Lib.hid hv.len
  have HV := Lib.hid hv
  have HL := Lib.hid hl
  obtain ⟨m, hm⟩ : ∃ m, n = m + 1 := ⟨n - 1, by have := HN.out; omega⟩
  subst hm
  have hm6 : m ≤ 1000000 := by have := HN.out; omega
  have hmi : IntKind.i64.wrap (((m + 1 : Nat) : Int) - 1) = (m : Int) := by rw [IntKind.wrap_i64]; omega
  clear hv h2 hb hl
  go_enter Tryz.func149, Tryz.ntmps149
  go_wp2_with (refine wpList_makeW elemD (dc (0, false)) rfl rfl _ _ rfl _ _ _ _ m w w.heap.size rfl rfl rfl rfl (by omega) (by omega) (Below.refl _ _) (Nat.le_refl _) ?_)
  intro w1 hr1 hb1
  have HS := Lib.hid (show DfRel l w.heap.size m w (.int .i64 0) w1 from ⟨0, (List.replicate m (dc (0, false))).flatten, Nat.zero_le _, rfl, fun j hj => by omega, by rw [← flat_replicate (f := dc) m (0, false), dflat_len, List.length_replicate, Nat.sub_zero], hr1, hb1⟩)
  clear hr1 hb1
  go_wp2
  go_loopw [14] (DfRel l w.heap.size m w) (fun i _ => m - (intOf i).toNat)
  case atStart => exact HS.out
  case round =>
    obtain ⟨k, rest, hk, rfl, hok, hrl, hrow, hbw⟩ := hrel
    have HB := Lib.hid hbw
    have HOK := Lib.hid hok
    have HRL := Lib.hid hrl
    have HROW := Lib.hid hrow
    have hgw := hrow.lt
    clear hok hrl hrow
    by_cases hlt : k < m
    · have hkl : k < l.length := by have := HN.out; omega
      have hkl1 : k + 1 < l.length := by have := HN.out; omega
      have hlti : (k : Int) < (m : Int) := by omega
      obtain ⟨ad, hA, had, hc0⟩ := (HV.out.below hbw).at hkl
      obtain ⟨ad', hA', had', hc1⟩ := (HV.out.below hbw).at hkl1
      subst hA
      injection hA' with hA'
      subst hA'
      obtain ⟨a, ha⟩ : ∃ a, a = l[k] := ⟨_, rfl⟩
      obtain ⟨b, hb⟩ : ∃ b, b = l[k + 1] := ⟨_, rfl⟩
      have hai : inInt a := by rw [ha]; exact HL.out _ (List.getElem_mem hkl)
      have hbi : inInt b := by rw [hb]; exact HL.out _ (List.getElem_mem hkl1)
      have hdf : diffAt l k = gdiff a b := by
        unfold diffAt
        rw [List.getD_eq_getElem?_getD, List.getD_eq_getElem?_getD, List.getElem?_eq_getElem hkl, List.getElem?_eq_getElem hkl1, ha, hb]
        rfl
      have HC0 := Lib.hid hc0
      have HC1 := Lib.hid hc1
      rw [← ha] at HC0
      rw [← hb] at HC1
      have HD := Lib.hid hdf
      have HBT := Lib.hid (fun W => between_any a b W hai hbi)
      rw [← hdf] at HBT
      obtain ⟨x, ok, hx⟩ : ∃ x ok, x = dpair (diffAt l k) ∧ ok = (diffAt l k).2.2 := ⟨_, _, rfl, rfl⟩
      unfold RetBt at HBT
      rw [← hx.1, ← hx.2] at HBT
      have HX := Lib.hid hx
      clear hx hdf hc0 hc1 ha hb hai hbi
      go_wp2
      have hcc0 : ∀ W1, Below wr.heap.size wr W1 → W1.cell? (ad.add k) = some (.int .i64 a) := fun W1 h => by rw [h.cell (by rw [add_block]; exact had), HC0.out]; rfl
      have hcc1 : ∀ W1, Below wr.heap.size wr W1 → W1.cell? (ad.add (k + 1)) = some (.int .i64 b) := fun W1 h => by rw [h.cell (by rw [add_block]; exact had), HC1.out]; rfl
      refine wp_region_listR (keep_later wr.heap.size 176 (dc x)) [.is (.slice (some ad) (m + 1) c), .is (.int .i64 (k : Int)), .is (.pointer (some (ad.add k))), .is (.int .i64 a), .is (.slice (some ad) (m + 1) c), .is (.int .i64 (k : Int)), .is (.int .i64 ((k : Int) + 1)), .is (.pointer (some (ad.add (k + 1)))), .is (.int .i64 b),
        .is (.tuple #[dv x, .bool ok]), .is (.tuple #[dv x, .bool ok]), .is (dv x), .is (.bool ok), .laid wr.heap.size 176 (dc x), .stored wr.heap.size 176 (dc x) 13, .is (.bool ok)]
        [some 18, some 19, some 20, some 21, some 22, some 23, some 24, some 25, some 26, some 27, some 17, some 28, some 29, some 6, none, some 7] (by kernel_rfl) (by kernel_rfl) (by kernel_rfl) (by kernel_rfl) rfl ⟨?_, ?_, ?_, ?_, ?_, ?_, ?_, ?_, ?_, ?_, ?_, ?_, ?_, ?_, ?_, ?_, trivial⟩ ?_
      · intro ρ vs W1 hb1 H
        exact gives_move rfl (H.old 0 _ (by kernel_rfl) rfl) ⟨upd_at _ _ _, Keep.self _⟩
      · intro ρ vs W1 hb1 H
        exact gives_move rfl (H.old 5 _ (by kernel_rfl) rfl) ⟨upd_at _ _ _, Keep.self _⟩
      · intro ρ vs W1 hb1 H
        exact gives_index elemI rfl (H.holds 18 0 (by kernel_rfl)) (H.holds 19 1 (by kernel_rfl)) (by omega) ⟨upd_at _ _ _, Keep.self _⟩
      · intro ρ vs W1 hb1 H
        exact gives_load rfl (H.holds 20 2 (by kernel_rfl)) Tryz.underlying3 rfl (hcc0 W1 hb1.1) ⟨upd_at _ _ _, Keep.self _⟩
      · intro ρ vs W1 hb1 H
        exact gives_move rfl (H.old 0 _ (by kernel_rfl) rfl) ⟨upd_at _ _ _, Keep.self _⟩
      · intro ρ vs W1 hb1 H
        exact gives_move rfl (H.old 5 _ (by kernel_rfl) rfl) ⟨upd_at _ _ _, Keep.self _⟩
      · intro ρ vs W1 hb1 H
        exact gives_add rfl (H.holds 23 5 (by kernel_rfl)) (H.const _) (by omega) (by omega) ⟨upd_at _ _ _, Keep.self _⟩
      · intro ρ vs W1 hb1 H
        exact gives_index elemI (k := k + 1) rfl (H.holds 22 4 (by kernel_rfl)) (H.holds 24 6 (by kernel_rfl)) (by omega) ⟨upd_at _ _ _, Keep.self _⟩
      · intro ρ vs W1 hb1 H
        exact gives_load rfl (H.holds 25 7 (by kernel_rfl)) Tryz.underlying3 rfl (hcc1 W1 hb1.1) ⟨upd_at _ _ _, Keep.self _⟩
      · intro ρ vs W1 hb1 H
        have e0 : ρ (.tmp 21) = .int .i64 a := H.holds 21 3 (by kernel_rfl)
        have e1 : ρ (.tmp 26) = .int .i64 b := H.holds 26 8 (by kernel_rfl)
        refine gives_call rfl (fun _ _ => by kernel_rfl) (H.func _) (args := #[.int .i64 a, .int .i64 b]) (by simp [e0, e1]) ?_
        exact (HBT.out W1).mono fun e w' ⟨h1, h2⟩ => ⟨_, h1, upd_at _ _ _, Keep.of hb1.1.size h2⟩
      · intro ρ vs W1 hb1 H
        exact gives_move rfl (H.holds 27 9 (by kernel_rfl)) ⟨upd_at _ _ _, Keep.self _⟩
      · intro ρ vs W1 hb1 H
        exact gives_extract rfl (H.holds 17 10 (by kernel_rfl)) rfl ⟨upd_at _ _ _, Keep.self _⟩
      · intro ρ vs W1 hb1 H
        exact gives_extract rfl (H.holds 17 10 (by kernel_rfl)) rfl ⟨upd_at _ _ _, Keep.self _⟩
      · intro ρ vs W1 hb1 H
        obtain ⟨i0, hi, hz0, hz1, hz2⟩ := info_parts Tryz.infoD
        exact gives_alloc hi hz0 rfl ⟨⟨W1.heap.size, dc (0, false), upd_at _ _ _, hb1.1.size, rfl, heap_alloc_new W1 _⟩, Keep.alloc hb1.1.size _⟩
      · intro ρ vs W1 hb1 H
        obtain ⟨h, old, e1, e2, e3, e4⟩ := H.holds 6 13 (by kernel_rfl)
        have e5 : vs 13 = .pointer (some ⟨h, 0, none⟩) := (H.new 6 13 (by kernel_rfl)).symm.trans e1
        exact gives_store_row (cs := dc x) rfl e1 (H.holds 28 11 (by kernel_rfl)) e4 sizeD e3 (dc_one x) ⟨⟨h, (upd_ne _ _ (by decide)).trans e5, e2, rowAll_set e4⟩, Keep.store e2 e4⟩
      · intro ρ vs W1 hb1 H
        exact gives_assign rfl (H.holds 29 12 (by kernel_rfl)) ⟨upd_at _ _ _, Keep.self _⟩
      · intro vs W1 hb1 hfs
        obtain ⟨h, f13, hh, hrw⟩ : ∃ h, vs 13 = .pointer (some ⟨h, 0, none⟩) ∧ wr.heap.size ≤ h ∧ Row W1 h 176 (dc x) := hfs 14 (by decide)
        have f15 : vs 15 = .bool ok := hfs 15 (by decide)
        clear hfs
        simp only [putAll, Nat.zero_add, Nat.reduceAdd]
        generalize vs 0 = z0
        generalize vs 1 = z1
        generalize vs 2 = z2
        generalize vs 3 = z3
        generalize vs 4 = z4
        generalize vs 5 = z5
        generalize vs 6 = z6
        generalize vs 7 = z7
        generalize vs 8 = z8
        generalize vs 9 = z9
        generalize vs 10 = z10
        generalize vs 11 = z11
        generalize vs 12 = z12
        generalize vs 14 = z14
        simp only [f13, f15, Act.put, List.setIfInBounds_toArray, List.set_cons_succ, List.set_cons_zero]
        have HB1 := Lib.hid (HB.out.trans (hb1.1.mono HB.out.size))
        have HROW1 := Lib.hid (HROW.out.below hb1.1 hgw)
        have hne : ¬ h = w.heap.size := by omega
        clear f13 f15 hb1 hcc0 hcc1
        cases ok with
        | false =>
          go_wp2
          go_ret2
          exact .inr ⟨⟨k, hkl1, by rw [← HX.out.2]⟩, rfl, HB1.out⟩
        | true =>
          obtain ⟨xu, xf⟩ := x
          have hk1 : W1.cell? ⟨h, 0, none⟩ = some (.int .u64 (xu : Int)) := hrw.cell 0
          have hk2 : W1.cell? ⟨h, 1, none⟩ = some (.bool xf) := hrw.cell 1
          have HFIT := Lib.hid (show k * 2 + (dc (xu, xf)).length ≤ ((gpairs l k).flatMap dc ++ rest).length by
            rw [List.length_append, dflat_len, gpairs_len, HRL.out, dc_len]; omega)
          have HNEW := Lib.hid (show ((gpairs l k).flatMap dc ++ rest).take (k * 2) ++ dc (xu, xf) ++ ((gpairs l k).flatMap dc ++ rest).drop (k * 2 + (dc (xu, xf)).length) = (gpairs l (k + 1)).flatMap dc ++ rest.drop 2 by
            have hl1 : ((gpairs l k).flatMap dc).length = k * 2 := by rw [dflat_len, gpairs_len]
            rw [List.take_append_of_le_length (by omega), List.take_of_length_le (by omega), List.drop_append, hl1, List.drop_of_length_le (by rw [hl1]; exact Nat.le_add_right _ _), gpairs_succ, ← HX.out.1, List.flatMap_append, List.flatMap_singleton, dc_len,
              show k * 2 + 2 - k * 2 = 2 by omega, List.nil_append])
          go_wp2_with (refine wpList_storeW rfl 176 _ _ rfl w.heap.size (k * 2) 176 ((gpairs l k).flatMap dc ++ rest) (dc (xu, xf)) _ HNEW.out rfl rfl HROW1.out sizeD HFIT.out (dc_one _) w w.heap.size HB1.out (Nat.le_refl _) ?_)
          intro w3 hr3 hb3 _
          have HR3 := Lib.hid hr3
          have HB3 := Lib.hid hb3
          clear hr3 hb3
          go_wp2
          go_roundw
          case rel => exact ⟨k + 1, rest.drop 2, hlt, by go_num, fun j hj => by
            rcases (by omega : j < k ∨ j = k) with h | rfl
            · exact HOK.out j h
            · exact HX.out.2.symm, by rw [List.length_drop, HRL.out]; omega, HR3.out, HB3.out⟩
          case measure => simp [intOf]; omega
    · obtain rfl : k = m := by omega
      obtain rfl : rest = [] := List.eq_nil_of_length_eq_zero (by rw [HRL.out]; omega)
      go_wp2
      go_ret2
      refine .inl ⟨fun i hi => HOK.out i (by have := HN.out; omega), _, rfl, ?_, HB.out⟩
      have hr := HROW.out
      rw [List.append_nil] at hr
      rw [show l.length - 1 = k by have := HN.out; omega]
      exact isR_row hr (gpairs_len l k) (by omega)
end Go.Proofs.YtblpkmmhmdpkjaaGreatDoor

/- The library's contract of math/bits.Mul, laid at this program's numbers. -/





namespace Go.Proofs

open Go.Shelf
end Go.Proofs

/- delta's own contracts: slices.Repeat at differences. -/





namespace Go.Proofs.YtblpkmmhmdpkjaaGreatDoor

open Go.RowKit

end Go.Proofs.YtblpkmmhmdpkjaaGreatDoor

/- delta's own contracts: pack. -/





namespace Go.Proofs.YtblpkmmhmdpkjaaGreatDoor

open Go.RowKit

def sizesOf (l : List (Nat × Bool)) : List Nat := l.map (·.1)
theorem wide_fin : ∀ n : Fin 65, max 2 (wclosest (n.val : Int)) = wclosest ((max 2 n.val : Nat) : Int) := by decide +kernel
theorem omap_fst (l : List (Nat × Bool)) : omap (fun d : Nat × Bool => some d.1) l = some (sizesOf l) := by
  induction l with
  | nil => rfl
  | cons x l ih => unfold omap; rw [ih]; rfl
/-- What pack answers. -/
def RetPk (w : World) (c : Nat) (p : List UInt8) (e : Ending) (w' : World) : Prop := ∃ v, e = .returned (.tuple #[.int .i64 (c : Int), v, .int .i64 0]) ∧ IsB p v w' ∧ Below w.heap.size w w'
theorem pack_same (l : List (Nat × Bool)) (v : Value) (w : World) (hv : IsR dc l v w) (hb : l.length ≤ 1000000) (hs : dsame l = true) : Calls Tryz.prog 151 #[v] w (RetPk w 0 []) := by
  have HA := Lib.hid (aresame_any l v w hv hb)
  rw [hs] at HA
  clear hv hb hs
  go_enter Tryz.func151, Tryz.ntmps151
  go_wp2_with fail
  refine HA.out.mono ?_
  rintro e w1 ⟨rfl, hb1⟩
  go_wp2
  go_ret3
  exact ⟨_, rfl, isB_nil _, hb1⟩
set_option maxHeartbeats 4000000 in
set_option maxRecDepth 100000 in
theorem pack_more (l : List (Nat × Bool)) (v : Value) (w : World) (ht : WTab w) (hv : IsR dc l v w) (h1 : 1 ≤ l.length) (hb : l.length ≤ 511) (hs : dsame l = false) (hu : ∀ d ∈ l, d.1 < 2 ^ 63) :
    Calls Tryz.prog 151 #[v] w (RetPk w (gcode (sizesOf l.tail)) (bpack (sizesOf l.tail) (gwide (sizesOf l.tail)))) := by
  have HA := Lib.hid (aresame_any l v w hv (by omega))
  rw [hs] at HA
  obtain ⟨A, n, c, rfl⟩ := hv.shape
  have HN := Lib.hid hv.parts.1
  have HV := Lib.hid hv
  obtain ⟨m, hm⟩ : ∃ m, n = m + 1 := ⟨n - 1, by have := HN.out; omega⟩
  subst hm
  have hm6 : m ≤ 510 := by have := HN.out; omega
  have HT := Lib.hid ht
  obtain ⟨q, hq⟩ : ∃ q, q = l.tail := ⟨_, rfl⟩
  have HQ := Lib.hid (show l.drop 1 = q by rw [hq, List.drop_one])
  have HQL := Lib.hid (show q.length = m by rw [hq, List.length_tail]; have := HN.out; omega)
  have HU := Lib.hid (show ∀ x ∈ sizesOf q, x < 2 ^ 64 by
    intro x hx
    obtain ⟨d, hd, rfl⟩ := List.mem_map.1 hx
    have := hu d (List.mem_of_mem_tail (hq ▸ hd))
    exact Nat.lt_trans this (by decide))
  rw [← hq]
  clear hs hu hb h1 hv ht hq
  obtain ⟨v2, hv2, hi2⟩ := fromR_named (P := Tryz.prog) elemD dc_len (k := 1) (by omega) HV.out
  rw [show ((1 : Nat) : Int) = 1 from rfl] at hv2
  rw [HQ.out] at hi2
  obtain ⟨A2, n2, c2, rfl⟩ := hi2.shape
  have hn2 : n2 = m := by have := hi2.parts.1; have := HQL.out; omega
  subst hn2
  have HI2 := Lib.hid hi2
  clear hi2
  have hmi : IntKind.i64.wrap (((n2 + 1 : Nat) : Int) - 1) = (n2 : Int) := by rw [IntKind.wrap_i64]; omega
  go_enter Tryz.func151, Tryz.ntmps151
  go_wp2_with fail
  refine HA.out.mono ?_
  rintro e w1 ⟨rfl, hb1⟩
  have HB1 := Lib.hid hb1
  clear hb1 HA
  go_wp2_with (refine wpList_make elemU rfl _ _ rfl _ _ _ _ n2 w1 w1.heap.size rfl rfl rfl rfl (by omega) (by omega) (Below.refl _ _) (Nat.le_refl _) ?_)
  intro w2 hr2 hb2
  have HS := Lib.hid (show FillRel (fun d : Nat × Bool => some d.1) uv (uv 0) 101 q w1 (.int .i64 0) w2 from ⟨0, [], by omega, rfl, rfl, by rw [Nat.sub_zero, HQL.out]; simpa [uv] using hr2, hb2⟩)
  clear hb2 hr2
  go_wp2_with (refine wpList_slicedL rfl _ _ _ rfl _ (hv2 _) ?_)
  go_loopw [20] (FillRel (fun d : Nat × Bool => some d.1) uv (uv 0) 101 q w1) (fun i _ => n2 - (intOf i).toNat)
  case atStart => exact HS.out
  case round =>
    obtain ⟨k, acc, hk, rfl, hacc, hr, hbw⟩ := hrel
    have hz := hbw.size
    have hal : acc.length = k := by rw [omap_len hacc, List.length_take]; omega
    rw [HQL.out] at hr
    have HACC := Lib.hid hacc
    have HAL := Lib.hid hal
    have hk' : k ≤ n2 := by have := HQL.out; omega
    clear hacc hal hk
    by_cases hlt : k < n2
    · have hkl : k < q.length := by have := HQL.out; omega
      have hlti : (k : Int) < (n2 : Int) := by omega
      obtain ⟨ad, rfl, had, hcell⟩ := (HI2.out.below (HB1.out.trans (hbw.mono HB1.out.size))).at (m := 2) dc_len (by omega) hkl
      obtain ⟨x, hx⟩ : ∃ x, x = q[k] := ⟨_, rfl⟩
      rw [← hx] at hcell
      have k0 := cells2 hcell
      have HN2 := Lib.hid (omap_take (f := fun d : Nat × Bool => some d.1) hkl HACC.out (by rw [← hx]))
      obtain ⟨xu, xf⟩ := x
      dsimp only at k0 HN2
      obtain ⟨k1, k2⟩ := k0
      have hra := hr.alloc (.cells #[.int .u64 (xu : Int), .bool xf] 176)
      have hfx := hra.free k
      have hgr := hr.lt
      have hcu : ∃ u, (wr.alloc (.cells #[.int .u64 (xu : Int), .bool xf] 176)).cell? ⟨w1.heap.size, k, none⟩ = some u := by
        rw [hra.cell]
        exact ⟨_, List.getElem?_eq_getElem (by rw [List.length_append, List.length_map, List.length_replicate]; have := HAL.out; omega)⟩
      obtain ⟨u0, hcu⟩ := hcu
      have hset := hr.set_ k (uv xu)
      rw [fill_step hlt HAL.out] at hset
      have hset := hset.alloc (.cells #[.int .u64 (xu : Int), .bool xf] 176)
      have HSET := Lib.hid hset
      have HB3 := Lib.hid ((hbw.setCell (p := ⟨w1.heap.size, k, none⟩) (Nat.le_refl _) (uv xu)).alloc (by rw [World.size_setCell]; exact hbw.size) (.cells #[.int .u64 (xu : Int), .bool xf] 176))
      clear hset hr hra hbw hz hx hcell
      unfold uv at HB3 HSET
      go_wp2
      go_roundw
      case rel => exact ⟨k + 1, acc ++ [xu], hkl, by go_num, HN2.out, by rw [HQL.out]; exact HSET.out, HB3.out⟩
      case measure => simp [intOf]; omega
    · obtain rfl : k = n2 := by omega
      have he : acc = sizesOf q := by
        have h := HACC.out
        rw [List.take_of_length_le (by rw [HQL.out]; exact Nat.le_refl _), omap_fst] at h
        injection h with h
        exact h.symm
      subst he
      have hlen : (sizesOf q).length = k := by unfold sizesOf; rw [List.length_map, HQL.out]
      obtain ⟨us, hus⟩ : ∃ us, us = sizesOf q := ⟨_, rfl⟩
      rw [← hus] at hr hlen HU
      have HUS := Lib.hid hus
      rw [Nat.sub_self, List.replicate_zero, List.append_nil] at hr
      have HI := Lib.hid (isV_row hr hlen (by omega))
      have hlies := hr.lies 0
      rw [List.drop_zero] at hlies
      have HM := Lib.hid (most_any (some ⟨w1.heap.size, 0, none⟩) k k us wr (fun h => by cases h) hlen (Nat.le_refl _) (by omega) hlies HU.out)
      obtain ⟨g1, g2, _, g4, g5, g6, g7, g8⟩ := gwide_int HU.out
      have hmx : max 2 (wclosest (wmost us : Int)) = (gwide us : Int) := by
        rw [← g1]
        have := wide_fin ⟨wmost us, by have := wmost_64 HU.out; omega⟩
        exact this
      have HTW := Lib.hid (HT.out.below (HB1.out.trans (hbw.mono HB1.out.size)) HT.out.lt)
      have HC := Lib.hid (closest_any (wmost us : Int) wr HTW.out)
      obtain ⟨C, hC⟩ : ∃ C, C = wclosest (wmost us : Int) := ⟨_, rfl⟩
      rw [← hC] at HC hmx
      obtain ⟨M, hM⟩ : ∃ M, M = (wmost us : Int) := ⟨_, rfl⟩
      rw [← hM] at HM HC
      have hmax : ∀ (ts : Array TypeId) (t : TypeId) (W : World), (Builtin.max_ ts t #[.int .i64 2, .int .i64 C]).run Tryz.prog W = .ok (.int .i64 (gwide us : Int)) W := fun ts t W => by
        rw [run_max_int2]
        congr 2
        rw [← hmx]
        split <;> omega
      obtain ⟨W, hW⟩ : ∃ W, W = gwide us := ⟨_, rfl⟩
      have HPK := Lib.hid (pack_is (W : Int) (v := .slice (some ⟨w1.heap.size, 0, none⟩) k k) (w := wr) HI.out (by omega) HU.out)
      rw [packsAny_in _ _ (by omega), hW, packs_ok (gwide_room HU.out), ← hW] at HPK
      rw [← hW] at hmax g2
      have HWW := Lib.hid hW
      have HCD := Lib.hid (fun w => code_any (W : Int) w)
      rw [g2] at HCD
      have HB4 := Lib.hid (HB1.out.trans (hbw.mono HB1.out.size))
      clear hr hbw hlies hmx hC hM hW g1 g2 g4 g5 g6 g7 g8 hlen hus hz
      go_wp2_with (first | (go_at_call 139; refine HM.out.mono ?_; rintro e w' ⟨rfl, rfl⟩) | (go_at_call 138; refine HC.out.mono ?_; rintro e w' ⟨rfl, rfl⟩) | (go_at_call 140; refine HPK.out.mono ?_))
      rintro e w5 ⟨v5, rfl, hi5, hb5⟩
      have HI5 := Lib.hid hi5
      have HB5 := Lib.hid (below_then HB4.out hb5)
      have HT5 := Lib.hid (HTW.out.below hb5 HTW.out.lt)
      clear hi5 hb5
      go_wp2_with (go_at_call 142; refine (HCD.out _ HT5.out).mono ?_; rintro e w' ⟨rfl, rfl⟩)
      go_ret3
      rw [← HUS.out, ← HWW.out]
      exact ⟨_, rfl, HI5.out, HB5.out⟩
end Go.Proofs.YtblpkmmhmdpkjaaGreatDoor

/- delta's own contracts: numbers. -/







namespace Go.Proofs.YtblpkmmhmdpkjaaGreatDoor

open Go.RowKit

end Go.Proofs.YtblpkmmhmdpkjaaGreatDoor

/- delta's own contracts: unpack. -/





namespace Go.Proofs.YtblpkmmhmdpkjaaGreatDoor

open Go.RowKit

end Go.Proofs.YtblpkmmhmdpkjaaGreatDoor

/- What delta's Put does, as plain mathematics: its differences against the sizes of XTPlain. -/





namespace Go.Proofs.YtblpkmmhmdpkjaaGreatDoor

open Go.RowKit

theorem gdiff_ok {a b : Int} (h : (gdiff a b).2.2 = true) : (gdiff a b).2.1 = decide (b < a) ∧ ((gdiff a b).1 = 0 → (gdiff a b).2.1 = false) := by
  rcases gdiff_cases a b with ⟨k, _⟩ | ⟨k1, k2, k⟩ | ⟨k1, k2, k⟩
  · rw [k] at h; cases h
  · rw [k]; exact ⟨(decide_eq_true k1).symm, fun h => by dsimp only at h; omega⟩
  · rw [k]; exact ⟨(decide_eq_false (by omega)).symm, fun _ => rfl⟩
theorem dplain_neg {l : List Int} {x : Int} (hx : x ∈ l) (h : x < 0) : dplain l false = none := omap_none hx (by unfold eplain; rw [if_neg (by decide), if_neg (by omega)])
theorem dplain_some {l : List Int} {s : Bool} (h : s = true ∨ ∀ x ∈ l, 0 ≤ x) : dplain l s ≠ none := by
  unfold dplain
  induction l with
  | nil => simp [omap]
  | cons x l ih =>
    have h1 : ∃ u, eplain x s = some u := by
      unfold eplain
      rcases h with h | h
      · rw [if_pos h]; exact ⟨_, rfl⟩
      · have := h x List.mem_cons_self
        split
        · exact ⟨_, rfl⟩
        · first | exact ⟨_, rfl⟩ | (rw [if_pos this]; exact ⟨_, rfl⟩)
    obtain ⟨u, hu⟩ := h1
    have h2 := ih (h.imp id fun h y hy => h y (List.mem_cons_of_mem _ hy))
    rw [omap, hu]
    dsimp only
    cases hr : omap (eplain · s) l with
    | none => exact absurd hr h2
    | some r => simp
theorem omap_every {α β : Type} {f : α → Option β} {g : α → β} : ∀ {l : List α}, (∀ x ∈ l, f x = some (g x)) → omap f l = some (l.map g)
  | [], _ => rfl
  | x :: l, h => by
    rw [omap, h x List.mem_cons_self, omap_every fun y hy => h y (List.mem_cons_of_mem _ hy)]
    rfl
section

variable {l : List Int} {k : Nat}
theorem gat_bad {f : Bool} {i : Nat} (h : (diffAt l i).2.2 = false) : gat l f i = none := gone_not (by unfold diffAt at h; rw [h]; simp)
theorem gpairs_get (i : Nat) (h : i < k) : (gpairs l k)[i]? = some (dpair (diffAt l i)) := by
  unfold gpairs
  rw [List.getElem?_map, List.getElem?_range h]
  rfl
theorem gpairs_mem {d : Nat × Bool} (h : d ∈ gpairs l k) : ∃ i, i < k ∧ d = dpair (diffAt l i) := by
  obtain ⟨i, hi, rfl⟩ := List.mem_map.1 h
  exact ⟨i, List.mem_range.1 hi, rfl⟩
theorem gpairs_head (h : 0 < k) : (gpairs l k).headD (0, false) = dpair (diffAt l 0) := by
  have h1 := gpairs_get (l := l) 0 h
  cases hg : gpairs l k with
  | nil => rw [hg] at h1; cases h1
  | cons a t => rw [hg] at h1; injection h1
/-- All are differences, and go one way: these are the sizes. -/
theorem gsizes_way (hk : 0 < k) (hok : ∀ i, i < k → (diffAt l i).2.2 = true) (hw : dway (gpairs l k) = true) : gsizes l (gfalls l) k = some (sizesOf (gpairs l k)) := by
  unfold gsizes sizesOf gpairs
  rw [List.map_map]
  refine omap_every fun i hi => ?_
  have hi := List.mem_range.1 hi
  have h0 := gdiff_ok (hok 0 hk)
  have hf : gfalls l = (diffAt l 0).2.1 := h0.1.symm
  unfold dway at hw
  rw [gpairs_head hk] at hw
  have h1 : dturns (dpair (diffAt l 0)).2 (dpair (diffAt l i)) = false := by
    have h2 : ((gpairs l k).any (dturns (dpair (diffAt l 0)).2)) = false := by simpa using hw
    rw [List.any_eq_false] at h2
    have h3 := h2 _ (List.mem_of_getElem? (gpairs_get (l := l) i hi))
    simpa using h3
  refine gone_yes (hok i hi) ?_
  rw [hf]
  unfold dturns dpair at h1
  dsimp only at h1
  by_cases hz : (diffAt l i).1 = 0
  · exact .inl hz
  · right
    have h4 : ((diffAt l i).1 != 0) = true := by simpa using hz
    rw [h4, Bool.true_and] at h1
    show (diffAt l i).2.1 = (diffAt l 0).2.1
    simpa using h1
/-- One goes another way: these are no sizes. -/
theorem gsizes_turn (hk : 0 < k) (hok : ∀ i, i < k → (diffAt l i).2.2 = true) (hw : dway (gpairs l k) = false) : gsizes l (gfalls l) k = none := by
  unfold dway at hw
  rw [gpairs_head hk] at hw
  have h2 : ((gpairs l k).any (dturns (dpair (diffAt l 0)).2)) = true := by simpa using hw
  obtain ⟨d, hd, ht⟩ := List.any_eq_true.1 h2
  obtain ⟨i, hi, rfl⟩ := gpairs_mem hd
  have hf : gfalls l = (diffAt l 0).2.1 := (gdiff_ok (hok 0 hk)).1.symm
  refine gsizes_none hi (gone_not ?_)
  rw [hf]
  unfold dturns dpair at ht
  dsimp only at ht
  rw [Bool.and_eq_true] at ht
  rintro ⟨_, h | h⟩
  · unfold diffAt at ht; rw [h] at ht; simp at ht
  · unfold diffAt at ht; rw [h] at ht; unfold diffAt at ht; simp at ht
/-- All differences are the same just where all sizes are. -/
theorem dsame_all (hk : 0 < k) (hok : ∀ i, i < k → (diffAt l i).2.2 = true) (hw : dway (gpairs l k) = true) : dsame (gpairs l k) = gall (sizesOf (gpairs l k)) := by
  have hhead := gpairs_head (l := l) hk
  have hs : (sizesOf (gpairs l k)).headD 0 = ((gpairs l k).headD (0, false)).1 := by unfold sizesOf; cases gpairs l k <;> rfl
  unfold dsame gall
  rw [hs]
  unfold sizesOf
  rw [List.all_map]
  rw [Bool.eq_iff_iff, List.all_eq_true, List.all_eq_true]
  constructor
  · intro h d hd
    have h1 : d = (gpairs l k).headD (0, false) := by simpa using h d hd
    show ((d.1 == ((gpairs l k).headD (0, false)).1)) = true
    rw [← h1]; simp
  · intro h d hd
    have h1 : d.1 = ((gpairs l k).headD (0, false)).1 := by have := h d hd; simpa using this
    have h2 : d.2 = ((gpairs l k).headD (0, false)).2 := by
      by_cases hz : d.1 = 0
      · have ha : ∀ e ∈ gpairs l k, e.1 = 0 → e.2 = false := by
          intro e he h0
          obtain ⟨i, hi, rfl⟩ := gpairs_mem he
          exact (gdiff_ok (hok i hi)).2 h0
        rw [ha d hd hz]
        have hm : (gpairs l k).headD (0, false) ∈ gpairs l k := by rw [hhead]; exact List.mem_of_getElem? (gpairs_get (l := l) 0 hk)
        exact (ha _ hm (by rw [← h1]; exact hz)).symm
      · unfold dway at hw
        have h3 : ((gpairs l k).any (dturns ((gpairs l k).headD (0, false)).2)) = false := by simpa using hw
        rw [List.any_eq_false] at h3
        have h4 := h3 d hd
        unfold dturns at h4
        have h5 : (d.1 != 0) = true := by simpa using hz
        rw [h5, Bool.true_and] at h4
        simpa using h4
    have h3 : d = (gpairs l k).headD (0, false) := Prod.ext h1 h2
    rw [← h3]; simp
theorem sizes_lt : ∀ d ∈ gpairs l k, d.1 < 2 ^ 63 := by
  intro d hd
  obtain ⟨i, _, rfl⟩ := gpairs_mem hd
  have := gdiff_lt (l.getD i 0) (l.getD (i + 1) 0)
  show (gdiff (l.getD i 0) (l.getD (i + 1) 0)).1 < 9223372036854775808
  omega
theorem first_step (hk : 0 < k) (hok : ∀ i, i < k → (diffAt l i).2.2 = true) : gstep 0 (diffAt l 0).1 (diffAt l 0).2.1 = (gfirst l (sizesOf (gpairs l k)), true) := by
  have hs : (sizesOf (gpairs l k)).headD 0 = (diffAt l 0).1 := by
    have h := gpairs_head (l := l) hk
    have h2 : (sizesOf (gpairs l k)).headD 0 = ((gpairs l k).headD (0, false)).1 := by unfold sizesOf; cases gpairs l k <;> rfl
    rw [h2, h]; rfl
  have hf : gfalls l = (diffAt l 0).2.1 := (gdiff_ok (hok 0 hk)).1.symm
  have hlt := gdiff_lt (l.getD 0 0) (l.getD (0 + 1) 0)
  unfold gfirst
  rw [hs, hf]
  unfold gstep
  rw [if_neg (by unfold diffAt; omega)]
  cases hb : (diffAt l 0).2.1 with
  | true =>
    simp only [if_true]
    rw [if_neg (by unfold diffAt; omega)]; congr 1; omega
  | false =>
    simp only [Bool.false_eq_true, if_false]
    rw [if_neg (by unfold diffAt; omega)]; congr 1; omega
theorem sizes_tail : sizesOf (gpairs l k).tail = (sizesOf (gpairs l k)).tail := by unfold sizesOf; rw [List.map_tail]
end

end Go.Proofs.YtblpkmmhmdpkjaaGreatDoor
