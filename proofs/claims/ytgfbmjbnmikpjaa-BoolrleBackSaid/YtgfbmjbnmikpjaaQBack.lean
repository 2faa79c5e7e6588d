
/- The statement BoolrleBack: for any truths and any bytes behind the law answers true. No condition. -/

import Derived.Test.YtgfbmjbnmikpjaaQShown

import Derived.Test.YtgfbmjbnmikpjaaLaw

namespace Go.Proofs.Ytgfbmjbnmikpjaa

open Go.RowKit Go.ChangeShapes Go.WideShapes Go.ChangeAt

set_option maxHeartbeats 4000000 in
set_option maxRecDepth 100000 in
theorem BoolrleBack_walk (w : World) (v0 : Value) (l0 : List Bool) (hI0 : IsV Value.bool l0 v0 w) (v1 : Value) (l1 : List UInt8) (hI1 : IsB l1 v1 w) :
    Calls Try.prog 5 #[v0, v1] w fun e w' => e = .returned (.bool true) ∧ Below w.heap.size w w' := by
  obtain ⟨A0, n00, c0, rfl⟩ := IsV.shape (f := Value.bool) hI0
  obtain ⟨hn0, -, hc0, hm0, -⟩ := IsV.parts (f := Value.bool) hI0
  obtain ⟨n0, hmin0⟩ : ∃ n, n = min n00 4096 := ⟨_, rfl⟩
  have HI0 := Lib.hid (IsV.take (f := Value.bool) hI0 (show n0 ≤ n00 by omega))
  have HI0L := Lib.hid (show (l0.take n0).length = n0 by rw [List.length_take]; omega)
  have hci0 : (c0 : Int) ≤ 9223372036854775807 := by unfold maxLen at hm0; omega
  have hnb0 : n0 ≤ 4096 := by omega
  have hnc0 : n0 ≤ c0 := by omega
  obtain ⟨l0c, hl0c⟩ : ∃ l, l = l0.take n0 := ⟨_, rfl⟩
  rw [← hl0c] at HI0 HI0L
  have HI0M := Lib.hid (show (l0c.map (Value.bool)).length = n0 by rw [List.length_map]; exact HI0L.out)
  clear hI0 hn0 hm0 hl0c
  obtain ⟨A1, n10, c1, rfl⟩ := IsV.shape (f := bv) hI1
  obtain ⟨hn1, -, hc1, hm1, -⟩ := IsV.parts (f := bv) hI1
  obtain ⟨n1, hmin1⟩ : ∃ n, n = min n10 100 := ⟨_, rfl⟩
  have HI1 := Lib.hid (IsV.take (f := bv) hI1 (show n1 ≤ n10 by omega))
  have HI1L := Lib.hid (show (l1.take n1).length = n1 by rw [List.length_take]; omega)
  have hci1 : (c1 : Int) ≤ 9223372036854775807 := by unfold maxLen at hm1; omega
  have hnb1 : n1 ≤ 100 := by omega
  have hnc1 : n1 ≤ c1 := by omega
  obtain ⟨l1c, hl1c⟩ : ∃ l, l = l1.take n1 := ⟨_, rfl⟩
  rw [← hl1c] at HI1 HI1L
  have HI1M := Lib.hid (show (l1c.map (bv)).length = n1 by rw [List.length_map]; exact HI1L.out)
  clear hI1 hn1 hm1 hl1c
  rcases (by omega : n00 ≤ 4096 ∧ n0 = n00 ∨ 4096 < n00 ∧ n0 = 4096) with ⟨h6, rfl⟩ | ⟨h6, rfl⟩
  all_goals
    rcases (by omega : n10 ≤ 100 ∧ n1 = n10 ∨ 100 < n10 ∧ n1 = 100) with ⟨h7, rfl⟩ | ⟨h7, rfl⟩
  all_goals
    clear hmin0 hmin1
    go_enter Try.func5, Try.ntmps5
    go_wp2_with fail
    refine (shown_any _).mono ?_
    rintro e w1 ⟨rfl, hb1⟩
    have HB1 := Lib.hid hb1
    have HJ0 := Lib.hid (IsV.below HI0.out hb1)
    have HJ1 := Lib.hid (IsB.below HI1.out hb1)
    have hput := qput_any l0c _ w1 HJ0.out (by have := HI0L.out; omega)
    rw [show qputE l0c = (yput (qpack l0c), 0) by unfold qputE; rw [if_pos (by have := HI0L.out; omega)]] at hput
    have HPut := Lib.hid hput
    have hlx : (yput (qpack l0c)).length ≤ 1100 := by
      have h1 := yput_len _ (qpack l0c) (Nat.le_refl _)
      rw [qpack_len] at h1
      have := HI0L.out
      omega
    have HLX := Lib.hid hlx
    clear hb1 hput hlx
    go_wp2_with fail
    refine HPut.out.mono ?_
    rintro e w3 ⟨x3, rfl, hx3, hb3⟩
    have HK0 := Lib.hid (IsV.below HJ0.out hb3)
    have HK1 := Lib.hid (IsB.below HJ1.out hb3)
    have HX3 := Lib.hid hx3
    have HB3 := Lib.hid (below_then HB1.out hb3)
    obtain ⟨Ax, nx, cx, rfl⟩ := IsV.shape (f := bv) hx3
    obtain ⟨hnx, hAx, hncx, -, hlx⟩ := IsV.parts (f := bv) hx3
    obtain ⟨-, hA1, -, -, hl1⟩ := IsV.parts (f := bv) HK1.out
    have hnx2 : (yput (qpack l0c)).length = nx := hnx
    have HMx := Lib.hid (show ((yput (qpack l0c)).map bv).length = nx by rw [List.length_map]; exact hnx2)
    have hx8 : nx ≤ 1100 := by have := HLX.out; omega
    have hown0 : (w3.alloc (.cells #[] 5)).ownsRow w3.heap.size 5 1 (.slice (some ⟨w3.heap.size, 0, none⟩) 0 0) 0 [] := World.ownsRow_made w3 #[] 0 (Nat.le_refl _) (by unfold maxLen; omega) (by simp)
    have hbA : Below w3.heap.size w3 (w3.alloc (.cells #[] 5)) := (Below.refl _ _).alloc (Nat.le_refl _) _
    have hlA := hlx.below hbA
    have hzz : w3.heap.size ≤ (w3.alloc (.cells #[] 5)).heap.size := by simp
    have HL1 := Lib.hid hl1
    clear hb3 hx3 hnx hnx2 hlx hl1 HPut
    go_wp2_with (at_builtin; refine wpList_join elemB rfl (.tmp 29) (.tmp 30) rfl w3.heap.size _ _ _ _ _ _ ((yput (qpack l0c)).map bv) w3 rfl rfl hAx HMx.out hlA (bv_one _) hown0 hbA hzz (by omega) (by omega) ?_)
    intro v4 w4 hown4 hb4 _ _
    have hown4' : w4.ownsRow w3.heap.size 5 1 v4 nx ((yput (qpack l0c)).map bv) := by simpa using hown4
    have hlB := HL1.out.below hb4
    have hz4 := hb4.size
    clear hown4 hown0 hbA hlA hzz
    go_wp2_with (at_builtin; refine wpList_join elemB rfl (.tmp 31) (.tmp 32) rfl w3.heap.size _ _ _ _ _ _ (l1c.map bv) w3 rfl rfl hA1 HI1M.out hlB (bv_one l1c) hown4' hb4 hz4 (by omega) (by omega) ?_)
    intro v5 w5 hown5 hb5 _ _
    have hB5 : IsB (yput (qpack l0c) ++ l1c) v5 w5 := isB_own (by rw [List.map_append]; exact hown5)
    have HB5 := Lib.hid (below_then HB3.out hb5)
    have HK05 := Lib.hid (IsV.below HK0.out hb5)
    have HK15 := Lib.hid (IsB.below HK1.out hb5)
    have htake := qtake_any (yput (qpack l0c) ++ l1c) v5 (l0c.length : Int) w5 hB5 (by rw [List.length_append]; have := HLX.out; have := HI1L.out; omega)
    rw [qtakeE_in (by have := HI0L.out; omega), qtake_back, HI0L.out] at htake
    have HTake := Lib.hid htake
    clear htake hown5 hown4' hlB hz4 hB5 hb5 hb4
    go_wp2_with fail
    refine HTake.out.mono ?_
    rintro e w6 ⟨m6, r6, rfl, hm6, hr6, hb6⟩
    have HM6 := Lib.hid hm6
    have HR6 := Lib.hid hr6
    have HK06 := Lib.hid (IsV.below HK05.out hb6)
    have HK16 := Lib.hid (IsB.below HK15.out hb6)
    have HB6 := Lib.hid (below_then HB5.out hb6)
    have HLL : Hid (l0c.length ≤ 1000000) := Lib.hid (by have := HI0L.out; omega)
    clear hm6 hr6 hb6 HTake
    go_wp2_with fail
    refine (sameL_any _ _ _ _ w6 HK06.out HM6.out HLL.out HLL.out).mono ?_
    rintro e w7 ⟨rfl, hb7⟩
    have hcr := textB (HR6.out.below hb7)
    have hcb := textB (IsB.below HK16.out hb7)
    have HB7 := Lib.hid (below_then HB6.out hb7)
    have hz : (l0c == l0c) = true := by simp
    clear hb7
    go_wp2
    go_ret
    exact ⟨rfl, HB7.out⟩

set_option maxRecDepth 100000 in
theorem BoolrleBack_lifted (os : Os) (started : os.Started) (H : Type) (enc : TypeId × Value → H) :
    ReturnsInHanded {} Try.checked os 5 .any (Rows.boolrleBackSpec.pre6 enc Try.prog Try.f5 Rows.boolrleBackRow.domain false) (Rows.boolrleBackSpec.post enc Try.prog Try.f5 false true false false) := by
  refine returnsInHanded_of_change (C := Try.checked) own started (by kernel_rfl) Try.func5
    (ChangeSpec.witness6 (enc := enc) (C := Try.checked) false ⟨#[], #[.slice none 0 0, .slice none 0 0], []⟩ 8 (by kernel_rfl) (by kernel_rfl) (by kernel_rfl) (by kernel_rfl)) ?_
  intro W base args ds gs before hval0 hW hcnd _
  have hval : ∀ (j : Nat) t v, Try.f5.params[j]? = some t → args[j]? = some v → Value.okWide Try.prog W .any base t v := hval0
  have hW' := hW
  obtain ⟨p, q, hT0, hV, rfl, hfz, hnd⟩ := hW
  have hA : DataW.TrodAll enc Try.prog W 0 (fun _ => true) true Try.f5.params.toList args.toList ds p := hT0
  rw [Try.params5] at hA hval
  obtain ⟨v0, vs0, d0, ds0, p0, q0, hargs, rfl, rfl, h0, r0⟩ := trodAll_cons hA
  obtain ⟨v1, vs1, d1, ds1, p1, q1, rfl, rfl, rfl, h1, r1⟩ := trodAll_cons r0
  obtain ⟨rfl, rfl, rfl⟩ := trodAll_nil r1
  obtain rfl : args = #[v0, v1] := by cases args; simp_all
  obtain ⟨rfl, rfl⟩ := trodVars_none hV
  have hlt0 : ∀ x ∈ p0, x.block < W.heap.size := fun x hx => hW'.lt x (by simp [hx])
  obtain ⟨l0, hl0⟩ := open_truths Try.underlying22 Try.underlying4 (by kernel_rfl) (hval 0 22 v0 rfl rfl) h0 hlt0
  have hlt1 : ∀ x ∈ p1, x.block < W.heap.size := fun x hx => hW'.lt x (by simp [hx])
  obtain ⟨l1, hl1⟩ := open_bytesv Try.underlying25 Try.underlying5 (by kernel_rfl) (hval 1 25 v1 rfl rfl) h1 hlt1
  clear hT0 hval0
  refine (BoolrleBack_walk W v0 l0 hl0 v1 l1 hl1).mono fun e W' ⟨he, hb⟩ => ?_
  subst he
  exact ⟨_, rfl, law_post laidOut Try.underlying4 (by kernel_rfl) (by kernel_rfl) rfl hW' rfl hb⟩

theorem BoolrleBack_over : Rows.boolrleBackRow.holds Try.pinned (OpenSpec.ofChange Rows.boolrleBackSpec) :=
  OpenClaim.holds_of_wide 5 Try.f5 rfl rfl rfl rfl rfl rfl rfl ⟨rfl, rfl, rfl, rfl, rfl⟩ rfl rfl rfl rfl rfl (by kernel_rfl) Try.func5 (by kernel_rfl)
    (of_decide_eq_true (by kernel_rfl)) (by unfold Func.isWrapper; first | (rw [if_pos (by decide +kernel)]; kernel_rfl) | (rw [if_neg (by decide +kernel)]; exact ⟨rfl, rfl⟩))
    (fun os started H enc _ => BoolrleBack_lifted os started H enc)

theorem BoolrleBack_holds : Rows.BoolrleBackSaid := BoolrleBack_over
#print axioms BoolrleBack_holds

end Go.Proofs.Ytgfbmjbnmikpjaa
