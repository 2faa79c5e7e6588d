
/- The contract of byterle.Put. -/

import Derived.Test.YtffglnccpbbclaaYIter

namespace Go.Proofs.Ytffglnccpbbclaa

open Go.RowKit Go.Shelf

attribute [local go_sem] Oper.semAt_some

/-- The bytes that the part at a is laid down as. -/
def ypiece (l : List UInt8) (a : Nat) : List UInt8 := UInt8.ofNat (phead (plen (l.drop a)) (ptimes (l.drop a))) :: (l.drop a).take (plen (l.drop a))
theorem ypiece_yput {l : List UInt8} {a : Nat} (h : a < l.length) : yput (l.drop a) = ypiece l a ++ yput (l.drop (a + padv l a)) := by
  by_cases h3 : 3 ≤ ysame (l.drop a)
  · have e1 : plen (l.drop a) = 1 := by unfold plen; rw [if_pos h3]
    have e2 : ptimes (l.drop a) = ysame (l.drop a) := by unfold ptimes; rw [if_pos h3]
    have e3 : (l.drop a).take 1 = [l[a]] := by rw [drop_at h]; rfl
    unfold ypiece padv phead
    rw [e1, e2, if_pos h3, e3, Nat.one_mul, yput_run_at h h3]
  · have e1 : plen (l.drop a) = ylist (l.drop a) 0 := by unfold plen; rw [if_neg h3]
    have e2 : ptimes (l.drop a) = 1 := by unfold ptimes; rw [if_neg h3]
    unfold ypiece padv phead
    rw [e1, e2, if_neg (by omega), Nat.mul_one, yput_list_at h (by omega)]
theorem ypiece_len (l : List UInt8) (a : Nat) : (ypiece l a).length ≤ 129 := by
  have := plen_128 (l.drop a)
  unfold ypiece
  rw [List.length_cons, List.length_take]
  omega
/-- What parts are laid down as, one behind the other. -/
def ylay {n : Nat} (l : List UInt8) (xs : List {a : Nat // a < n}) : List UInt8 := xs.flatMap fun x => ypiece l x.1
theorem ylay_snoc {n : Nat} (l : List UInt8) (xs : List {a : Nat // a < n}) (x : {a : Nat // a < n}) : ylay l (xs ++ [x]) = ylay l xs ++ ypiece l x.1 := by simp [ylay]
theorem ylay_len {n : Nat} (l : List UInt8) : ∀ (xs : List {a : Nat // a < n}), (ylay l xs).length ≤ 129 * xs.length
  | [] => by simp [ylay]
  | x :: xs => by
    have h1 := ylay_len l xs
    have h2 := ypiece_len l x.1
    have h3 : ylay l (x :: xs) = ypiece l x.1 ++ ylay l xs := rfl
    rw [h3, List.length_append, List.length_cons]
    omega
theorem ylay_chain {n : Nat} {l : List UInt8} (hn : l.length = n) {xs : List {a : Nat // a < n}} {a : Nat} (h : Chain (·.1) (fun x => padv l x.1) xs a) : ylay l xs ++ yput (l.drop a) = yput l := by
  induction h with
  | nil => simp [ylay]
  | snoc h x hx ih =>
    subst hx
    rw [ylay_snoc, List.append_assoc, ← ypiece_yput (by have := x.2; omega)]
    exact ih

/-- split hands out a function value that captures a box with the bytes. -/
theorem split_any (v : Value) (w : World) (hv : ∃ A n c, v = .slice A n c) :
    Calls Try.prog 43 #[v] w (fun e w' => e = .returned (.func (.func 50) #[] #[.pointer (some ⟨w.heap.size, 0, none⟩)]) ∧ w' = w.alloc (.cells #[v] 34)) := by
  obtain ⟨A, n, c, rfl⟩ := hv
  go_enter Try.func43, Try.ntmps43
  go_wp2
  go_ret
  exact ⟨rfl, rfl⟩

set_option maxHeartbeats 4000000 in
set_option maxRecDepth 100000 in
theorem bput_any (l : List UInt8) (v : Value) (w : World) (hv : IsB l v w) (hb : l.length ≤ 1000000) :
    Calls Try.prog 31 #[v] w (RetE w (yputE l)) := by
  obtain ⟨A, c, rfl, hA, hnc, hcm, hl⟩ := hv
  obtain ⟨n, hn⟩ : ∃ n, n = l.length := ⟨_, rfl⟩
  rw [← hn] at hA hnc hb ⊢
  have hci : (c : Int) ≤ 9223372036854775807 := by unfold maxLen at hcm; omega
  by_cases hbig : n ≤ 4096
  · have hE : Hid (yputE l = (yput l, 0)) := Lib.hid (by unfold yputE; rw [if_pos (by omega)])
    have hbi : ¬ (4096 : Int) < (n : Int) := by omega
    have HN := Lib.hid hn
    have HS := Lib.hid fun (W : World) => split_any (.slice A n c) W ⟨_, _, _, rfl⟩
    refine (callsIn_wide (n := 9)).1 ?_
    refine callsIn_of_wp_marks Try.func31 rfl trivial ?_ rfl
    simp only [Try.ntmps31, List.size_toArray, List.length_cons, List.length_nil, Nat.reduceAdd, Nat.reduceSub, Array.replicate_succ, Array.replicate_zero, List.push_toArray, List.append_toArray, List.nil_append, List.cons_append]
    clear hn
    gi_wp2_with fail
    refine ⟨trivial, (callsIn_wide.2 (HS.out _)).mono ?_⟩
    rintro e w' ⟨rfl, rfl⟩
    have bO := Boxed.new w 34 (.slice none 0 0)
    have bN := Boxed.new (w.alloc (.cells #[.slice none 0 0] 34)) 34 (.slice A n c)
    rw [World.size_alloc] at bN
    have hB0 : Below w.heap.size w ((w.alloc (.cells #[.slice none 0 0] 34)).alloc (.cells #[.slice A n c] 34)) := ((Below.refl _ w).alloc (Nat.le_refl _) _).alloc (by simp) _
    gi_wp2_with fail
    refine wpIn_rangeFunc_ownH rfl (by omega) (gf := 50) (lb := #[.pointer (some ⟨w.heap.size + 1, 0, none⟩)]) rfl trivial (enters_of Try.func50 (by kernel_rfl) rfl)
      (split_stops l A n c (w.heap.size + 1) w _ HN.out.symm hb hnc hcm hl hB0 bN 8 (by omega)) (fun h k => Kps.trans h k) (Kps.turn (by simp; omega) (by simp)) (Below.refl _ _) (fun _ => rfl)
      (fun pre W => (∃ v, Boxed W w.heap.size 34 v ∧ W.ownsRow w.heap.size 5 1 v (ylay l pre).length ((ylay l pre).map bv) ∧ True) ∧ (Row W (w.heap.size + 1) 34 [.slice A n c] ∧ Below w.heap.size w W))
      (fun _ _ _ => False)
      (OwnFrom.and (Own.from (holdsRow_own w.heap.size w.heap.size 34 5 1 (fun pre => (ylay l pre).length) (fun pre => (ylay l pre).map bv) (fun _ _ => True)) _)
        (OwnFrom.and (Own.from (row_own (w.heap.size + 1) 34 (fun _ => [.slice A n c])) _) (ownFrom_below (Nat.le_refl _) (by simp; omega))))
      (fun _ _ _ _ _ hs _ _ => hs)
      ⟨⟨_, bO.alloc _, World.ownsRow_nil _ _ _ _, trivial⟩, bN, hB0⟩
      (fun x a' W => ∃ Bx, w.heap.size + 2 ≤ Bx ∧ Row W Bx 70 [.slice (A.map (·.add x.1)) (plen (l.drop x.1)) (c - x.1), .int .i64 (ptimes (l.drop x.1) : Int)] ∧
        a' = { tmps := #[.slice A n c, undef, .slice none 0 0, .int .i64 0, .pointer (some ⟨w.heap.size, 0, none⟩), .pointer (some ⟨Bx, 0, none⟩), .slice A n c, .int .i64 (n : Int), .bool false, .slice A n c, .func (.func 50) #[] #[.pointer (some ⟨w.heap.size + 1, 0, none⟩)], partV A c l x.1, undef, undef, undef, undef, undef, undef, undef, undef, undef, undef], defers := [] })
      (fun x a' s X Y row hs hg hrow => by
        obtain ⟨Bx, h1, h2, h3⟩ := hs
        exact ⟨Bx, h1, (Own.from (row_own Bx 70 (fun (_ : Unit) => _)) _) () X Y row h2 hg hrow, h3⟩)
      ?assign ?body ?done ?stop
    case assign =>
      rintro q pre x W K ⟨⟨v, hv, hrow, _⟩, hbs, hB⟩ hK
      unfold partV
      gi_wp2
      have h2 := (show Boxed W (w.heap.size + 1) 34 (.slice A n c) from hbs).lt
      exact hK _ _ ((KeepsOthers.alloc _ _).from _) (Kps.of_below ((Below.refl _ W).alloc (Nat.le_refl _) _) hB.size) ⟨⟨v, hv.alloc _, hrow.alloc _, trivial⟩, Row.alloc hbs _, hB.alloc hB.size _⟩ ⟨W.heap.size, by omega, heap_alloc_new W _, rfl⟩
    case body =>
      rintro q pre x a' W _ _ ⟨⟨v, hv, hrow, _⟩, hbs, hB⟩ ⟨Bx, hBx, bX, rfl⟩ hlt
      obtain ⟨a, ha⟩ := x
      dsimp only at bX ⊢
      unfold partV
      obtain ⟨d, hd⟩ : ∃ d, d = l.drop a := ⟨_, rfl⟩
      obtain ⟨k, hk⟩ : ∃ k, k = plen d := ⟨_, rfl⟩
      obtain ⟨t, ht⟩ : ∃ t, t = ptimes d := ⟨_, rfl⟩
      obtain ⟨p, hp⟩ : ∃ p, p = phead k t := ⟨_, rfl⟩
      rw [← hd, ← hk, ← ht] at bX ⊢
      have hdn : d ≠ [] := by intro e; have h1 := congrArg List.length e; rw [hd, List.length_drop, List.length_nil] at h1; have := HN.out; omega
      have hk1 : 1 ≤ k ∧ k ≤ 128 := ⟨by rw [hk]; exact plen_pos hdn, by rw [hk]; exact plen_128 _⟩
      have ht1 : t ≤ 130 := by rw [ht]; exact ptimes_130 _
      have hkd : k ≤ d.length := by rw [hk]; exact (plen_ptimes d).2.2
      have hp8 : p < 256 := by rw [hp]; unfold phead; split <;> omega
      have hpl := ylay_len l pre
      obtain ⟨out, hout⟩ : ∃ out, out = ylay l pre := ⟨_, rfl⟩
      rw [← hout] at hrow hpl
      have HD := Lib.hid hd
      have HK := Lib.hid hk
      have HT := Lib.hid ht
      have HPH := Lib.hid hp
      have HV := Lib.hid hv
      have HROW := Lib.hid hrow
      have HBS := Lib.hid hbs
      have HB := Lib.hid hB
      have HBX := Lib.hid bX
      have HOUT := Lib.hid hout
      clear hd hk ht hp hv hrow hbs hB bX hout
      gi_wp2_with fail
      refine wpIn_round_any (by kernel_rfl) (by kernel_rfl) ?_
      refine wpAny_region_list_tail 4 [.is v, .is (.agg #[.slice (A.map (·.add a)) k (c - a), .int .i64 (t : Int)]), .is (.int .u8 (p : Int)), .bytes [UInt8.ofNat p]] [some 12, some 13, some 14, some 15] (by kernel_rfl) (by kernel_rfl) (by kernel_rfl) rfl ⟨?_, ?_, ?_, ?_, trivial⟩ ?_
      · intro ρ W1 hb1 H
        exact gives_load rfl (H.old 4 _ (by kernel_rfl) rfl) Try.underlying34 rfl ((hb1.cell HV.out.lt).trans HV.out.cell) ⟨rfl, Below.refl _ _⟩
      · intro ρ W1 hb1 H
        exact gives_load_row rfl (H.old 5 _ (by kernel_rfl) rfl) Try.underlying70 rfl (by kernel_rfl) (HBX.out.below hb1 HBX.out.lt) ⟨rfl, Below.refl _ _⟩
      · intro ρ W1 hb1 H
        have e1 : ρ (.tmp 13) = .agg #[.slice (A.map (·.add a)) k (c - a), .int .i64 (t : Int)] := H.new 13 1 (by kernel_rfl)
        refine gives_call rfl (fun _ _ => by kernel_rfl) (H.func _) (args := #[.agg #[.slice (A.map (·.add a)) k (c - a), .int .i64 (t : Int)]]) (by simp [e1]) ?_
        exact (head_any _ k _ t W1 hk1.1 (by omega) (by omega)).mono fun _ _ h => ⟨_, h.1, by rw [← HPH.out]; rfl, h.2⟩
      · intro ρ W1 hb1 H
        have e1 : ρ (.tmp 14) = .int .u8 (p : Int) := H.new 14 2 (by kernel_rfl)
        have e2 : [UInt8.ofNat p].map bv = [.int .u8 (p : Int)] := by simp [bv, Nat.mod_eq_of_lt hp8]
        refine gives_one elemB rfl e1 rfl ⟨?_, (Below.refl _ _).alloc (Nat.le_refl _) _⟩
        have := isB_new W1 5 [UInt8.ofNat p] 1 rfl (by omega)
        rw [e2] at this
        exact this
      · intro vs W1 hb1 hfs
        have f0 : vs 0 = v := hfs 0 (by decide)
        have f1 : vs 1 = .agg #[.slice (A.map (·.add a)) k (c - a), .int .i64 (t : Int)] := hfs 1 (by decide)
        have f2 : vs 2 = .int .u8 (p : Int) := hfs 2 (by decide)
        have f3 : IsB [UInt8.ofNat p] (vs 3) W1 := hfs 3 (by decide)
        clear hfs
        simp only [putAll, Nat.zero_add, Nat.reduceAdd, List.drop_succ_cons, List.drop_zero]
        rw [f0, f1, f2]
        obtain ⟨A3, c3, e3, h31, h32, h33, h34⟩ := f3
        rw [e3]
        clear f0 f1 f2 e3
        have hown1 := own_later HROW.out hb1
        have hB1 := HB.out.trans (hb1.mono HB.out.size)
        have hz1 := hB1.size
        have HB11 := Lib.hid hb1
        have hA3 : A3 = none → 1 = 0 := by simpa using h31
        simp only [List.length_singleton]
        clear h31 h32 h33 hb1
        have hlen : out.length ≤ 1000000 := by omega
        go_wp2_with (at_builtin; refine wpList_join elemB rfl _ _ rfl w.heap.size _ _ _ _ _ _ ([UInt8.ofNat p].map bv) w rfl rfl hA3 (by simp) h34 (bv_one _) hown1 hB1 hz1 (by omega) (by omega) ?_)
        intro v2 w2 hown2 hb2 hg2 _
        obtain ⟨pb1, pb2, pb3, pb4⟩ := Boxed.put (show Boxed W1 w.heap.size 34 v from Row.below HV.out HB11.out HV.out.lt) (by decide) hown1 hown2 hg2
        have pk := Kps.append (T := 70) hown1 (Nat.le_refl _) (by decide) (Row.below HBS.out HB11.out (Row.lt HBS.out)) (by decide) hg2 hz1
        obtain ⟨B2, c2, rfl, _, _, _, _, _⟩ := own_shape hown2
        have hc1 := pb1.cell
        have hf1 := pb1.frozen
        have PB2 := Lib.hid pb2
        have PB3 := Lib.hid pb3
        have PB4 := Lib.hid pb4
        have PK := Lib.hid pk
        have PB1 := Lib.hid pb1
        have HB2 := Lib.hid hb2
        clear pb2 pb3 pb4 pk pb1 hb2 hown2 hg2 hown1 hB1 hz1 h34 hA3
        go_wp2
        refine goesOn_normal ?_
        obtain ⟨w3, hw3⟩ : ∃ w3, w3 = w2.setCell ⟨w.heap.size, 0, none⟩ (.slice B2 (out.length + 1) c2) := ⟨_, rfl⟩
        have hrow3 := PB3.out
        have hv3 := PB2.out
        have hk3 : KeepsOthers W w3 := by rw [hw3]; exact (below_others HB11.out).trans PB4.out
        have hB3 : Below w.heap.size w w3 := by rw [hw3]; exact HB2.out.setCell (Nat.le_refl _) _
        have hkp3 : Kps (w.heap.size + 1) 70 w.heap.size W w3 := by rw [hw3]; exact ((Kps.of_below HB11.out HB.out.size).trans PK.out).trans (Kps.set PB1.out (by decide) (by omega) (Nat.le_refl _) _)
        rw [← hw3] at hrow3 hv3 ⊢
        have hbx3 := hkp3.row HBX.out
        have hbs3 := hkp3.box HBS.out
        have hl3 : Lies w3 (A.map (·.add a)) ((d.take k).map bv) := by
          have h1 := (hl.below hB3).drop (k := a) (cap := c) (by rw [List.length_map]; have := HN.out; omega)
          rw [if_neg (by omega)] at h1
          have h2 := h1.take k
          rw [← List.map_drop, ← List.map_take, ← HD.out] at h2
          exact h2
        have hz3 := hB3.size
        have hc3 := hv3.cell
        have hx3 := hbx3.cell 0
        simp only [List.getElem?_cons_zero] at hx3
        have hA4 : A.map (·.add a) = none → k = 0 := by
          intro h
          have := hA (by simpa using h)
          omega
        have hdl : (d.take k).length = k := by rw [List.length_take]; omega
        have hdm : ((d.take k).map bv).length = k := by rw [List.length_map]; exact hdl
        have HDM := Lib.hid hdm
        have HDL := Lib.hid hdl
        have HK3 := Lib.hid hk3
        have HB3 := Lib.hid hB3
        have HKP3 := Lib.hid hkp3
        have HV3 := Lib.hid hv3
        have HBS3 := Lib.hid hbs3
        clear hw3 hc1 hf1 hk3 hkp3 hv3 hbx3 hbs3 hdm hdl PB1 PB2 PB3 PB4 PK HB2 HB11
        gi_wp2_with (gi_at_builtin; refine wpListIn_plainly (by kernel_rfl) ?_; refine wpList_join elemB rfl _ _ rfl w.heap.size _ _ _ _ _ _ ((d.take k).map bv) w rfl rfl hA4 HDM.out hl3 (bv_one _) hrow3 hB3 hz3 (by omega) (by omega) ?_)
        intro v4 w4 hown4 hb4 hg4 _
        obtain ⟨pb1, pb2, pb3, pb4⟩ := Boxed.put HV3.out (by decide) hrow3 hown4 hg4
        have pk := Kps.append (T := 70) hrow3 (Nat.le_refl _) (by decide) HBS3.out (by decide) hg4 hz3
        obtain ⟨B4, c4, rfl, _, _, _, _, _⟩ := own_shape hown4
        have hc1 := pb1.cell
        have hf1 := pb1.frozen
        have hx : ylay l (pre ++ [⟨a, ha⟩]) = out ++ (UInt8.ofNat p :: d.take k) := by
          rw [ylay_snoc, ← HOUT.out]
          unfold ypiece
          rw [← HD.out, ← HK.out, ← HT.out, ← HPH.out]
        have hx1 : (ylay l (pre ++ [⟨a, ha⟩])).length = out.length + 1 + k := by
          have := HDL.out
          rw [hx, List.length_append, List.length_cons]; omega
        have hx2 : (ylay l (pre ++ [⟨a, ha⟩])).map bv = out.map bv ++ bv (UInt8.ofNat p) :: (d.map bv).take k := by
          rw [hx, List.map_append, List.map_cons, List.map_take]
        have hI : (∃ v, Boxed (w4.setCell ⟨w.heap.size, 0, none⟩ (.slice B4 (out.length + 1 + k) c4)) w.heap.size 34 v ∧ (w4.setCell ⟨w.heap.size, 0, none⟩ (.slice B4 (out.length + 1 + k) c4)).ownsRow w.heap.size 5 1 v (ylay l (pre ++ [⟨a, ha⟩])).length ((ylay l (pre ++ [⟨a, ha⟩])).map bv) ∧ True) :=
          ⟨_, pb2, by rw [hx1, hx2]; exact pb3, trivial⟩
        have HI := Lib.hid hI
        have hkp5 : Kps (w.heap.size + 1) 70 w.heap.size W (w4.setCell ⟨w.heap.size, 0, none⟩ (.slice B4 (out.length + 1 + k) c4)) := (HKP3.out.trans pk).trans (Kps.set pb1 (by decide) (by omega) (Nat.le_refl _) _)
        have HKP5 := Lib.hid hkp5
        have HKO := Lib.hid (HK3.out.trans pb4)
        clear pb2 pb3 pb4 pk hown4 hg4 hrow3 hB3 hz3 hl3 hA4 hb4 hx hx1 hx2 hI hkp5 hc3 hx3 pb1
        go_wp2
        refine goesOn_normal ?_
        gi_wp2
        exact ⟨HKO.out.from _, HKP5.out, HI.out, HKP5.out.box HBS.out, HB.out.trans HKP5.out.1⟩
    case done =>
      rintro D xs W hD hch ⟨⟨v, hv, hrow, _⟩, hbs, hB⟩ hK
      have hend : ylay l xs = yput l := by
        have := ylay_chain HN.out.symm hch
        rw [List.drop_of_length_le (by have := HN.out; omega), yput_nil, List.append_nil] at this
        exact this
      rw [hend] at hrow
      have hc := hv.cell
      gi_wp2
      refine ⟨by simp, .inl ⟨_, _, rfl, run_takeDeferred hK, ?_⟩⟩
      refine ⟨_, results_tmp2 rfl _ _ _, ?_⟩
      rw [hE.out]
      exact ⟨v, rfl, isB_own (ownsRow_putObj hrow _ hK rfl), hB.trans (belowK_b (w := w) (Nat.le_refl _) W D _ _ (by simp at hD; omega) hK rfl rfl)⟩
    case stop =>
      rintro D c pre W _ _ h _
      exact h.elim
  · have hE : Hid (yputE l = ([], 3)) := Lib.hid (by unfold yputE; rw [if_neg (by omega)])
    have hbi : (4096 : Int) < (n : Int) := by omega
    clear hn hl hcm hA
    go_enter Try.func31, Try.ntmps31
    go_wp2
    go_ret2
    rw [hE.out]
    exact RetE.nil _ (Below.refl _ _)
end Go.Proofs.Ytffglnccpbbclaa
