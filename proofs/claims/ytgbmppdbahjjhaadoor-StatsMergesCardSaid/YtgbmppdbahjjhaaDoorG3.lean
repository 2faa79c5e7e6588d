/- Texts that the claims of this seat share, part 3: GMerge GFew GAdd GTly GAddC GTold GOfO GMayO GIs. -/
import Derived.Deep.DeepCutAuto
import Derived.Test.YtgbmppdbahjjhaaDoorG2
/- The reference's Merge of layer 17. Written by gen_gmerge.py. -/





namespace Go.Proofs.YtgbmppdbahjjhaaDoor

open Go.RowKit

theorem gmin_yes {a b : CV} {c : Int} (hc : c = kcmp b a) (h : (a.null || (!b.null && decide (c < 0))) = true) : gminE a b = b := by
  subst hc
  unfold gminE
  rw [if_pos]
  simp only [Bool.or_eq_true, Bool.and_eq_true, Bool.not_eq_true', decide_eq_true_eq] at h
  exact h
theorem gmin_no {a b : CV} {c : Int} (hc : c = kcmp b a) (h : (a.null || (!b.null && decide (c < 0))) = false) : gminE a b = a := by
  subst hc
  unfold gminE
  rw [if_neg]
  rw [← Bool.not_eq_true] at h
  simpa only [Bool.or_eq_true, Bool.and_eq_true, Bool.not_eq_true', decide_eq_true_eq] using h
theorem gmax_yes {a b : CV} {c : Int} (hc : c = kcmp b a) (h : (a.null || (!b.null && decide (0 < c))) = true) : gmaxE a b = b := by
  subst hc
  unfold gmaxE
  rw [if_pos]
  simp only [Bool.or_eq_true, Bool.and_eq_true, Bool.not_eq_true', decide_eq_true_eq] at h
  exact h
theorem gmax_no {a b : CV} {c : Int} (hc : c = kcmp b a) (h : (a.null || (!b.null && decide (0 < c))) = false) : gmaxE a b = a := by
  subst hc
  unfold gmaxE
  rw [if_neg]
  rw [← Bool.not_eq_true] at h
  simpa only [Bool.or_eq_true, Bool.and_eq_true, Bool.not_eq_true', decide_eq_true_eq] using h
theorem gminY {an bn : Bool} {ai bi c : Int} {as_ bs : ByteArray} (h : (an || (!bn && decide (c < 0))) = true) (hc : c = kcmp ⟨false, bi, bs⟩ ⟨false, ai, as_⟩) : gminE (⟨an, ai, as_⟩ : CV) ⟨bn, bi, bs⟩ = ⟨bn, bi, bs⟩ := by
  cases an with
  | true => exact if_pos (.inl rfl)
  | false =>
    cases bn with
    | true => simp at h
    | false => exact gmin_yes (a := ⟨false, ai, as_⟩) (b := ⟨false, bi, bs⟩) hc h
theorem gminN {an bn : Bool} {ai bi c : Int} {as_ bs : ByteArray} (h : (an || (!bn && decide (c < 0))) = false) (hc : c = kcmp ⟨false, bi, bs⟩ ⟨false, ai, as_⟩) : gminE (⟨an, ai, as_⟩ : CV) ⟨bn, bi, bs⟩ = ⟨an, ai, as_⟩ := by
  cases an with
  | true => simp at h
  | false =>
    cases bn with
    | true => exact if_neg (by rintro (h | ⟨h, _⟩) <;> cases h)
    | false => exact gmin_no (a := ⟨false, ai, as_⟩) (b := ⟨false, bi, bs⟩) hc h
theorem gmaxY {an bn : Bool} {ai bi c : Int} {as_ bs : ByteArray} (h : (an || (!bn && decide (0 < c))) = true) (hc : c = kcmp ⟨false, bi, bs⟩ ⟨false, ai, as_⟩) : gmaxE (⟨an, ai, as_⟩ : CV) ⟨bn, bi, bs⟩ = ⟨bn, bi, bs⟩ := by
  cases an with
  | true => exact if_pos (.inl rfl)
  | false =>
    cases bn with
    | true => simp at h
    | false => exact gmax_yes (a := ⟨false, ai, as_⟩) (b := ⟨false, bi, bs⟩) hc h
theorem gmaxN {an bn : Bool} {ai bi c : Int} {as_ bs : ByteArray} (h : (an || (!bn && decide (0 < c))) = false) (hc : c = kcmp ⟨false, bi, bs⟩ ⟨false, ai, as_⟩) : gmaxE (⟨an, ai, as_⟩ : CV) ⟨bn, bi, bs⟩ = ⟨an, ai, as_⟩ := by
  cases an with
  | true => simp at h
  | false =>
    cases bn with
    | true => exact if_neg (by rintro (h | ⟨h, _⟩) <;> cases h)
    | false => exact gmax_no (a := ⟨false, ai, as_⟩) (b := ⟨false, bi, bs⟩) hc h
set_option maxHeartbeats 16000000 in
set_option maxRecDepth 100000 in
theorem rmerge17_any (k : Int) (a b : GS) (w : World) (hca : 0 ≤ a.count ∧ a.count ≤ 1000000) (hcb : 0 ≤ b.count ∧ b.count ≤ 1000000) (hsa : -9223372036854775808 ≤ a.sum ∧ a.sum ≤ 9223372036854775807) (hsb : -9223372036854775808 ≤ b.sum ∧ b.sum ≤ 9223372036854775807) :
    Calls Tryd.prog 14 #[.int .i64 k, gsv a, gsv b] w fun e w' => e = .returned (gsv (gmergeE k a b)) ∧ Below w.heap.size w w' := by
  obtain ⟨ac, ah, ⟨amb, amn, ams⟩, ⟨axb, axn, axs⟩, asm, ao⟩ := a
  obtain ⟨bc, bh, ⟨bmb, bmn, bms⟩, ⟨bxb, bxn, bxs⟩, bsm, bo⟩ := b
  dsimp only at hca hcb hsa hsb
  have HSB := Lib.hid (show ∀ x ∈ [asm, bsm], -9223372036854775808 ≤ x ∧ x ≤ 9223372036854775807 from by
    intro x hx
    simp only [List.mem_cons, List.not_mem_nil, or_false] at hx
    rcases hx with rfl | rfl
    · exact hsa
    · exact hsb)
  obtain ⟨hs, hhs⟩ : ∃ hs, hs = (ah || bh) := ⟨_, rfl⟩
  obtain ⟨os, hos⟩ : ∃ os, os = (ao || bo) := ⟨_, rfl⟩
  have HHS := Lib.hid hhs.symm
  have HOS := Lib.hid hos.symm
  have HCM := Lib.hid (fun X => rcmp12_any ⟨false, bmn, bms⟩ ⟨false, amn, ams⟩ X)
  have HCX := Lib.hid (fun X => rcmp12_any ⟨false, bxn, bxs⟩ ⟨false, axn, axs⟩ X)
  obtain ⟨cm, hcm⟩ : ∃ c, c = kcmp ⟨false, bmn, bms⟩ ⟨false, amn, ams⟩ := ⟨_, rfl⟩
  obtain ⟨cx, hcx⟩ : ∃ c, c = kcmp ⟨false, bxn, bxs⟩ ⟨false, axn, axs⟩ := ⟨_, rfl⟩
  rw [← hcm] at HCM
  rw [← hcx] at HCX
  have HKM := Lib.hid hcm
  have HKX := Lib.hid hcx
  unfold cv at HCM HCX
  -- the boxes
  obtain ⟨u1, hu1⟩ : ∃ u1, u1 = w.alloc (.cells #[.int .i64 ac, .bool ah, .bool amb, .int .i64 amn, .string ams, .bool axb, .int .i64 axn, .string axs, .int .i64 asm, .bool ao] 28) := ⟨_, rfl⟩
  obtain ⟨u2, hu2⟩ : ∃ u2, u2 = u1.alloc (.cells #[.int .i64 bc, .bool bh, .bool bmb, .int .i64 bmn, .string bms, .bool bxb, .int .i64 bxn, .string bxs, .int .i64 bsm, .bool bo] 28) := ⟨_, rfl⟩
  obtain ⟨u3, hu3⟩ : ∃ u3, u3 = u2.alloc (.cells #[.int .i64 0, .bool false, .bool false, .int .i64 0, .string ⟨#[]⟩, .bool false, .int .i64 0, .string ⟨#[]⟩, .int .i64 0, .bool false] 28) := ⟨_, rfl⟩
  have z1 : u1.heap.size = w.heap.size + 1 := by rw [hu1]; simp
  have z2 : u2.heap.size = w.heap.size + 2 := by rw [hu2]; simp [z1]
  have z3 : u3.heap.size = w.heap.size + 3 := by rw [hu3]; simp [z2]
  have rA : Row u3 w.heap.size 28 [.int .i64 ac, .bool ah, .bool amb, .int .i64 amn, .string ams, .bool axb, .int .i64 axn, .string axs, .int .i64 asm, .bool ao] := by
    have h1 : Row u1 w.heap.size 28 [.int .i64 ac, .bool ah, .bool amb, .int .i64 amn, .string ams, .bool axb, .int .i64 axn, .string axs, .int .i64 asm, .bool ao] := by rw [hu1]; exact heap_alloc_new w _
    rw [hu3, hu2]; exact (h1.alloc _).alloc _
  have rB : Row u3 (w.heap.size + 1) 28 [.int .i64 bc, .bool bh, .bool bmb, .int .i64 bmn, .string bms, .bool bxb, .int .i64 bxn, .string bxs, .int .i64 bsm, .bool bo] := by
    have h1 : Row u2 (w.heap.size + 1) 28 [.int .i64 bc, .bool bh, .bool bmb, .int .i64 bmn, .string bms, .bool bxb, .int .i64 bxn, .string bxs, .int .i64 bsm, .bool bo] := by rw [hu2, ← z1]; exact heap_alloc_new u1 _
    rw [hu3]; exact h1.alloc _
  have rZ : Row u3 (w.heap.size + 2) 28 gz := by rw [hu3, ← z2]; exact heap_alloc_new u2 _
  have bW : Below w.heap.size w u3 := by
    rw [hu3, hu2, hu1]
    exact (((Below.refl _ _).alloc (Nat.le_refl _) _).alloc (by simp) _).alloc (by simp <;> omega) _
  have HL := Lib.hid (show ∀ h o : Bool, Row (u3.alloc (.cells #[.int .i64 (ac + bc), .bool h, .bool amb, .int .i64 amn, .string ams, .bool axb, .int .i64 axn, .string axs, .int .i64 0, .bool o] 28)) w.heap.size 28 [.int .i64 ac, .bool ah, .bool amb, .int .i64 amn, .string ams, .bool axb, .int .i64 axn, .string axs, .int .i64 asm, .bool ao] ∧ Row (u3.alloc (.cells #[.int .i64 (ac + bc), .bool h, .bool amb, .int .i64 amn, .string ams, .bool axb, .int .i64 axn, .string axs, .int .i64 0, .bool o] 28)) (w.heap.size + 1) 28 [.int .i64 bc, .bool bh, .bool bmb, .int .i64 bmn, .string bms, .bool bxb, .int .i64 bxn, .string bxs, .int .i64 bsm, .bool bo] ∧ Row (u3.alloc (.cells #[.int .i64 (ac + bc), .bool h, .bool amb, .int .i64 amn, .string ams, .bool axb, .int .i64 axn, .string axs, .int .i64 0, .bool o] 28)) (w.heap.size + 2) 28 gz ∧ Row (u3.alloc (.cells #[.int .i64 (ac + bc), .bool h, .bool amb, .int .i64 amn, .string ams, .bool axb, .int .i64 axn, .string axs, .int .i64 0, .bool o] 28)) (w.heap.size + 3) 28 [.int .i64 (ac + bc), .bool h, .bool amb, .int .i64 amn, .string ams, .bool axb, .int .i64 axn, .string axs, .int .i64 0, .bool o] ∧ Below w.heap.size w (u3.alloc (.cells #[.int .i64 (ac + bc), .bool h, .bool amb, .int .i64 amn, .string ams, .bool axb, .int .i64 axn, .string axs, .int .i64 0, .bool o] 28)) from fun h o =>
    ⟨rA.alloc _, rB.alloc _, rZ.alloc _, by have h1 := heap_alloc_new u3 (.cells #[.int .i64 (ac + bc), .bool h, .bool amb, .int .i64 amn, .string ams, .bool axb, .int .i64 axn, .string axs, .int .i64 0, .bool o] 28); rw [z3] at h1; exact h1, bW.alloc (by omega) _⟩)
  have a0 : u3.cell? ⟨w.heap.size, 0, none⟩ = some (.int .i64 ac) := rA.cell 0
  have a1 : u3.cell? ⟨w.heap.size, 1, none⟩ = some (.bool ah) := rA.cell 1
  have a2 : u3.cell? ⟨w.heap.size, 2, none⟩ = some (.bool amb) := rA.cell 2
  have a3 : u3.cell? ⟨w.heap.size, 3, none⟩ = some (.int .i64 amn) := rA.cell 3
  have a4 : u3.cell? ⟨w.heap.size, 4, none⟩ = some (.string ams) := rA.cell 4
  have a5 : u3.cell? ⟨w.heap.size, 5, none⟩ = some (.bool axb) := rA.cell 5
  have a6 : u3.cell? ⟨w.heap.size, 6, none⟩ = some (.int .i64 axn) := rA.cell 6
  have a7 : u3.cell? ⟨w.heap.size, 7, none⟩ = some (.string axs) := rA.cell 7
  have a9 : u3.cell? ⟨w.heap.size, 9, none⟩ = some (.bool ao) := rA.cell 9
  have b0 : u3.cell? ⟨w.heap.size + 1, 0, none⟩ = some (.int .i64 bc) := rB.cell 0
  have b1 : u3.cell? ⟨w.heap.size + 1, 1, none⟩ = some (.bool bh) := rB.cell 1
  have b9 : u3.cell? ⟨w.heap.size + 1, 9, none⟩ = some (.bool bo) := rB.cell 9
  rw [hu3, hu2, hu1] at a0 a1 a2 a3 a4 a5 a6 a7 a9 b0 b1 b9
  rw [hu3, hu2, hu1] at HL
  have hc63 : ac + bc ≤ 9223372036854775807 := by omega
  have hc64 : -9223372036854775808 ≤ ac + bc := by omega
  clear hca hcb hsa hsb hhs hos hcm hcx hu1 hu2 hu3 z1 z2 z3 rA rB rZ bW
  unfold gsv gcells
  dsimp only
  go_enter Tryd.func14, Tryd.ntmps14
  go_upto_region 1 with fail
  go_cut [7] (fun s7 wx => s7 = .pointer (some ⟨w.heap.size + 3, 0, none⟩) ∧ Row wx w.heap.size 28 [.int .i64 ac, .bool ah, .bool amb, .int .i64 amn, .string ams, .bool axb, .int .i64 axn, .string axs, .int .i64 asm, .bool ao] ∧ Row wx (w.heap.size + 1) 28 [.int .i64 bc, .bool bh, .bool bmb, .int .i64 bmn, .string bms, .bool bxb, .int .i64 bxn, .string bxs, .int .i64 bsm, .bool bo] ∧ Row wx (w.heap.size + 2) 28 gz ∧ Row wx (w.heap.size + 3) 28 [.int .i64 (ac + bc), .bool hs, .bool amb, .int .i64 amn, .string ams, .bool axb, .int .i64 axn, .string axs, .int .i64 0, .bool os] ∧ Below w.heap.size w wx)
  case first =>
    cases ah with
    | true =>
      cases ao with
      | true =>
        go_wp2
        go_meet
        rw [← HHS.out, ← HOS.out]
        exact ⟨rfl, HL.out _ _⟩
      | false =>
        cases bo with
        | true =>
          go_wp2
          go_meet
          rw [← HHS.out, ← HOS.out]
          exact ⟨rfl, HL.out _ _⟩
        | false =>
          go_wp2
          go_meet
          rw [← HHS.out, ← HOS.out]
          exact ⟨rfl, HL.out _ _⟩
    | false =>
      cases bh with
      | true =>
        cases ao with
        | true =>
          go_wp2
          go_meet
          rw [← HHS.out, ← HOS.out]
          exact ⟨rfl, HL.out _ _⟩
        | false =>
          cases bo with
          | true =>
            go_wp2
            go_meet
            rw [← HHS.out, ← HOS.out]
            exact ⟨rfl, HL.out _ _⟩
          | false =>
            go_wp2
            go_meet
            rw [← HHS.out, ← HOS.out]
            exact ⟨rfl, HL.out _ _⟩
      | false =>
        cases ao with
        | true =>
          go_wp2
          go_meet
          rw [← HHS.out, ← HOS.out]
          exact ⟨rfl, HL.out _ _⟩
        | false =>
          cases bo with
          | true =>
            go_wp2
            go_meet
            rw [← HHS.out, ← HOS.out]
            exact ⟨rfl, HL.out _ _⟩
          | false =>
            go_wp2
            go_meet
            rw [← HHS.out, ← HOS.out]
            exact ⟨rfl, HL.out _ _⟩
  case rest =>
  generalize wc = w0 at hcut ⊢
  obtain ⟨rfl, hA0, hB0, hZ0, hM0, hW0⟩ := hcut
  have HA0 := Lib.hid hA0
  have HB0 := Lib.hid hB0
  have HZ0 := Lib.hid hZ0
  have HM0 := Lib.hid hM0
  have HW0 := Lib.hid hW0
  clear hA0 hB0 hZ0 hM0 hW0 a0 a1 a2 a3 a4 a5 a6 a7 a9 b0 b1 b9
  rename_i K2 hK2
  refine hK2 _ _ ?_
  clear hK2 K2
  refine wp_seq_k ?_
  intro K2' hK2'
  go_cut [] (fun wx => Row wx w.heap.size 28 [.int .i64 ac, .bool ah, .bool amb, .int .i64 amn, .string ams, .bool axb, .int .i64 axn, .string axs, .int .i64 asm, .bool ao] ∧ Row wx (w.heap.size + 1) 28 [.int .i64 bc, .bool bh, .bool bmb, .int .i64 bmn, .string bms, .bool bxb, .int .i64 bxn, .string bxs, .int .i64 bsm, .bool bo] ∧ Row wx (w.heap.size + 2) 28 gz ∧ Row wx (w.heap.size + 3) 28 (gcells ⟨ac + bc, hs, (gminE ⟨amb, amn, ams⟩ ⟨bmb, bmn, bms⟩), ⟨axb, axn, axs⟩, 0, os⟩) ∧ Below w.heap.size w wx)
  case first =>
    have p2 : w0.cell? ⟨w.heap.size, 2, none⟩ = some (.bool amb) := HA0.out.cell 2
    have p3 : w0.cell? ⟨w.heap.size, 3, none⟩ = some (.int .i64 amn) := HA0.out.cell 3
    have p4 : w0.cell? ⟨w.heap.size, 4, none⟩ = some (.string ams) := HA0.out.cell 4
    have q2 : w0.cell? ⟨w.heap.size + 1, 2, none⟩ = some (.bool bmb) := HB0.out.cell 2
    have q3 : w0.cell? ⟨w.heap.size + 1, 3, none⟩ = some (.int .i64 bmn) := HB0.out.cell 3
    have q4 : w0.cell? ⟨w.heap.size + 1, 4, none⟩ = some (.string bms) := HB0.out.cell 4
    cases amb with
    | true =>
      have c0 : w0.cell? ⟨w.heap.size + 3, 2, none⟩ = some (.bool true) := HM0.out.cell 2
      have f0 : w0.frozen? ⟨w.heap.size + 3, 2, none⟩ = false := HM0.out.free 2
      have c1 : w0.cell? ⟨w.heap.size + 3, 3, none⟩ = some (.int .i64 amn) := HM0.out.cell 3
      have f1 : w0.frozen? ⟨w.heap.size + 3, 3, none⟩ = false := HM0.out.free 3
      have c2 : w0.cell? ⟨w.heap.size + 3, 4, none⟩ = some (.string ams) := HM0.out.cell 4
      have f2 : w0.frozen? ⟨w.heap.size + 3, 4, none⟩ = false := HM0.out.free 4
      have h1 := HM0.out.set_ 2 (.bool bmb)
      have h2 := h1.set_ 3 (.int .i64 bmn)
      have h3 := h2.set_ 4 (.string bms)
      have c1' : (w0.setCell ⟨w.heap.size + 3, 2, none⟩ (.bool bmb)).cell? ⟨w.heap.size + 3, 3, none⟩ = some (.int .i64 amn) := h1.cell 3
      have f1' : (w0.setCell ⟨w.heap.size + 3, 2, none⟩ (.bool bmb)).frozen? ⟨w.heap.size + 3, 3, none⟩ = false := h1.free 3
      have c2' : ((w0.setCell ⟨w.heap.size + 3, 2, none⟩ (.bool bmb)).setCell ⟨w.heap.size + 3, 3, none⟩ (.int .i64 bmn)).cell? ⟨w.heap.size + 3, 4, none⟩ = some (.string ams) := h2.cell 4
      have f2' : ((w0.setCell ⟨w.heap.size + 3, 2, none⟩ (.bool bmb)).setCell ⟨w.heap.size + 3, 3, none⟩ (.int .i64 bmn)).frozen? ⟨w.heap.size + 3, 4, none⟩ = false := h2.free 4
      have HAY := Lib.hid (((HA0.out.far (p := ⟨w.heap.size + 3, 2, none⟩) (by simp) (.bool bmb)).far (p := ⟨w.heap.size + 3, 3, none⟩) (by simp) (.int .i64 bmn)).far (p := ⟨w.heap.size + 3, 4, none⟩) (by simp) (.string bms))
      have HBcY := Lib.hid (((HB0.out.far (p := ⟨w.heap.size + 3, 2, none⟩) (by simp) (.bool bmb)).far (p := ⟨w.heap.size + 3, 3, none⟩) (by simp) (.int .i64 bmn)).far (p := ⟨w.heap.size + 3, 4, none⟩) (by simp) (.string bms))
      have HZY := Lib.hid (((HZ0.out.far (p := ⟨w.heap.size + 3, 2, none⟩) (by simp) (.bool bmb)).far (p := ⟨w.heap.size + 3, 3, none⟩) (by simp) (.int .i64 bmn)).far (p := ⟨w.heap.size + 3, 4, none⟩) (by simp) (.string bms))
      have HBY := Lib.hid (((HW0.out.setCell (p := ⟨w.heap.size + 3, 2, none⟩) (by show w.heap.size ≤ w.heap.size + 3; omega) (.bool bmb)).setCell (p := ⟨w.heap.size + 3, 3, none⟩) (by show w.heap.size ≤ w.heap.size + 3; omega) (.int .i64 bmn)).setCell (p := ⟨w.heap.size + 3, 4, none⟩) (by show w.heap.size ≤ w.heap.size + 3; omega) (.string bms))
      have HGY := Lib.hid h3
      clear h1 h2 h3
      go_wp2
      go_meet
      rw [show gminE (⟨true, amn, ams⟩ : CV) ⟨bmb, bmn, bms⟩ = ⟨bmb, bmn, bms⟩ from if_pos (.inl rfl)]
      exact ⟨HAY.out, HBcY.out, HZY.out, HGY.out, HBY.out⟩
    | false =>
      cases bmb with
      | true =>
        go_wp2
        go_meet
        rw [show gminE (⟨false, amn, ams⟩ : CV) ⟨true, bmn, bms⟩ = ⟨false, amn, ams⟩ from if_neg (by rintro (h | ⟨h, _⟩) <;> cases h)]
        exact ⟨HA0.out, HB0.out, HZ0.out, HM0.out, HW0.out⟩
      | false =>
        go_wp2_with fail
        refine (HCM.out _).mono ?_
        rintro e wz ⟨rfl, hbz⟩
        have HAv := Lib.hid (HA0.out.below hbz HA0.out.lt)
        have HBv := Lib.hid (HB0.out.below hbz HB0.out.lt)
        have HZv := Lib.hid (HZ0.out.below hbz HZ0.out.lt)
        have HMv := Lib.hid (HM0.out.below hbz HM0.out.lt)
        have HWv := Lib.hid (below_then HW0.out hbz)
        clear hbz p2 p3 p4 q2 q3 q4
        by_cases hq : cm < 0
        · have d1 : decide (cm < 0) = true := decide_eq_true hq
          have HQ := Lib.hid hq
          clear hq
          have q2 : wz.cell? ⟨w.heap.size + 1, 2, none⟩ = some (.bool false) := HBv.out.cell 2
          have q3 : wz.cell? ⟨w.heap.size + 1, 3, none⟩ = some (.int .i64 bmn) := HBv.out.cell 3
          have q4 : wz.cell? ⟨w.heap.size + 1, 4, none⟩ = some (.string bms) := HBv.out.cell 4
          have c0 : wz.cell? ⟨w.heap.size + 3, 2, none⟩ = some (.bool false) := HMv.out.cell 2
          have f0 : wz.frozen? ⟨w.heap.size + 3, 2, none⟩ = false := HMv.out.free 2
          have c1 : wz.cell? ⟨w.heap.size + 3, 3, none⟩ = some (.int .i64 amn) := HMv.out.cell 3
          have f1 : wz.frozen? ⟨w.heap.size + 3, 3, none⟩ = false := HMv.out.free 3
          have c2 : wz.cell? ⟨w.heap.size + 3, 4, none⟩ = some (.string ams) := HMv.out.cell 4
          have f2 : wz.frozen? ⟨w.heap.size + 3, 4, none⟩ = false := HMv.out.free 4
          have h1 := HMv.out.set_ 2 (.bool false)
          have h2 := h1.set_ 3 (.int .i64 bmn)
          have h3 := h2.set_ 4 (.string bms)
          have c1' : (wz.setCell ⟨w.heap.size + 3, 2, none⟩ (.bool false)).cell? ⟨w.heap.size + 3, 3, none⟩ = some (.int .i64 amn) := h1.cell 3
          have f1' : (wz.setCell ⟨w.heap.size + 3, 2, none⟩ (.bool false)).frozen? ⟨w.heap.size + 3, 3, none⟩ = false := h1.free 3
          have c2' : ((wz.setCell ⟨w.heap.size + 3, 2, none⟩ (.bool false)).setCell ⟨w.heap.size + 3, 3, none⟩ (.int .i64 bmn)).cell? ⟨w.heap.size + 3, 4, none⟩ = some (.string ams) := h2.cell 4
          have f2' : ((wz.setCell ⟨w.heap.size + 3, 2, none⟩ (.bool false)).setCell ⟨w.heap.size + 3, 3, none⟩ (.int .i64 bmn)).frozen? ⟨w.heap.size + 3, 4, none⟩ = false := h2.free 4
          have HAY := Lib.hid (((HAv.out.far (p := ⟨w.heap.size + 3, 2, none⟩) (by simp) (.bool false)).far (p := ⟨w.heap.size + 3, 3, none⟩) (by simp) (.int .i64 bmn)).far (p := ⟨w.heap.size + 3, 4, none⟩) (by simp) (.string bms))
          have HBcY := Lib.hid (((HBv.out.far (p := ⟨w.heap.size + 3, 2, none⟩) (by simp) (.bool false)).far (p := ⟨w.heap.size + 3, 3, none⟩) (by simp) (.int .i64 bmn)).far (p := ⟨w.heap.size + 3, 4, none⟩) (by simp) (.string bms))
          have HZY := Lib.hid (((HZv.out.far (p := ⟨w.heap.size + 3, 2, none⟩) (by simp) (.bool false)).far (p := ⟨w.heap.size + 3, 3, none⟩) (by simp) (.int .i64 bmn)).far (p := ⟨w.heap.size + 3, 4, none⟩) (by simp) (.string bms))
          have HBY := Lib.hid (((HWv.out.setCell (p := ⟨w.heap.size + 3, 2, none⟩) (by show w.heap.size ≤ w.heap.size + 3; omega) (.bool false)).setCell (p := ⟨w.heap.size + 3, 3, none⟩) (by show w.heap.size ≤ w.heap.size + 3; omega) (.int .i64 bmn)).setCell (p := ⟨w.heap.size + 3, 4, none⟩) (by show w.heap.size ≤ w.heap.size + 3; omega) (.string bms))
          have HGY := Lib.hid h3
          clear h1 h2 h3
          go_wp2
          go_meet
          rw [show gminE (⟨false, amn, ams⟩ : CV) ⟨false, bmn, bms⟩ = ⟨false, bmn, bms⟩ from gminY (by simpa using HQ.out) HKM.out]
          exact ⟨HAY.out, HBcY.out, HZY.out, HGY.out, HBY.out⟩
        · have d1 : decide (cm < 0) = false := decide_eq_false hq
          have HQ := Lib.hid hq
          clear hq
          go_wp2
          go_meet
          rw [show gminE (⟨false, amn, ams⟩ : CV) ⟨false, bmn, bms⟩ = ⟨false, amn, ams⟩ from gminN (by simpa using HQ.out) HKM.out]
          exact ⟨HAv.out, HBv.out, HZv.out, HMv.out, HWv.out⟩
  case rest =>
  generalize wc = w1 at hcut ⊢
  obtain ⟨hA1, hB1, hZ1, hM1, hW1⟩ := hcut
  obtain ⟨V, hV⟩ : ∃ V, V = gminE (⟨amb, amn, ams⟩ : CV) ⟨bmb, bmn, bms⟩ := ⟨_, rfl⟩
  rw [← hV] at hM1
  obtain ⟨vmb, vmn, vms⟩ := V
  have HMI := Lib.hid hV.symm
  have HA1 := Lib.hid hA1
  have HB1 := Lib.hid hB1
  have HZ1 := Lib.hid hZ1
  have HW1 := Lib.hid hW1
  have HM1 : Hid (Row w1 (w.heap.size + 3) 28 [.int .i64 (ac + bc), .bool hs, .bool vmb, .int .i64 vmn, .string vms, .bool axb, .int .i64 axn, .string axs, .int .i64 0, .bool os]) := Lib.hid hM1
  clear hV hA1 hB1 hZ1 hM1 hW1
  refine hK2' _ _ ?_
  clear hK2' K2'
  refine wp_seq_k ?_
  intro K4' hK4'
  go_cut [] (fun wx => Row wx w.heap.size 28 [.int .i64 ac, .bool ah, .bool amb, .int .i64 amn, .string ams, .bool axb, .int .i64 axn, .string axs, .int .i64 asm, .bool ao] ∧ Row wx (w.heap.size + 1) 28 [.int .i64 bc, .bool bh, .bool bmb, .int .i64 bmn, .string bms, .bool bxb, .int .i64 bxn, .string bxs, .int .i64 bsm, .bool bo] ∧ Row wx (w.heap.size + 2) 28 gz ∧ Row wx (w.heap.size + 3) 28 (gcells ⟨ac + bc, hs, ⟨vmb, vmn, vms⟩, (gmaxE ⟨axb, axn, axs⟩ ⟨bxb, bxn, bxs⟩), 0, os⟩) ∧ Below w.heap.size w wx)
  case first =>
    have p5 : w1.cell? ⟨w.heap.size, 5, none⟩ = some (.bool axb) := HA1.out.cell 5
    have p6 : w1.cell? ⟨w.heap.size, 6, none⟩ = some (.int .i64 axn) := HA1.out.cell 6
    have p7 : w1.cell? ⟨w.heap.size, 7, none⟩ = some (.string axs) := HA1.out.cell 7
    have q5 : w1.cell? ⟨w.heap.size + 1, 5, none⟩ = some (.bool bxb) := HB1.out.cell 5
    have q6 : w1.cell? ⟨w.heap.size + 1, 6, none⟩ = some (.int .i64 bxn) := HB1.out.cell 6
    have q7 : w1.cell? ⟨w.heap.size + 1, 7, none⟩ = some (.string bxs) := HB1.out.cell 7
    cases axb with
    | true =>
      have c0 : w1.cell? ⟨w.heap.size + 3, 5, none⟩ = some (.bool true) := HM1.out.cell 5
      have f0 : w1.frozen? ⟨w.heap.size + 3, 5, none⟩ = false := HM1.out.free 5
      have c1 : w1.cell? ⟨w.heap.size + 3, 6, none⟩ = some (.int .i64 axn) := HM1.out.cell 6
      have f1 : w1.frozen? ⟨w.heap.size + 3, 6, none⟩ = false := HM1.out.free 6
      have c2 : w1.cell? ⟨w.heap.size + 3, 7, none⟩ = some (.string axs) := HM1.out.cell 7
      have f2 : w1.frozen? ⟨w.heap.size + 3, 7, none⟩ = false := HM1.out.free 7
      have h1 := HM1.out.set_ 5 (.bool bxb)
      have h2 := h1.set_ 6 (.int .i64 bxn)
      have h3 := h2.set_ 7 (.string bxs)
      have c1' : (w1.setCell ⟨w.heap.size + 3, 5, none⟩ (.bool bxb)).cell? ⟨w.heap.size + 3, 6, none⟩ = some (.int .i64 axn) := h1.cell 6
      have f1' : (w1.setCell ⟨w.heap.size + 3, 5, none⟩ (.bool bxb)).frozen? ⟨w.heap.size + 3, 6, none⟩ = false := h1.free 6
      have c2' : ((w1.setCell ⟨w.heap.size + 3, 5, none⟩ (.bool bxb)).setCell ⟨w.heap.size + 3, 6, none⟩ (.int .i64 bxn)).cell? ⟨w.heap.size + 3, 7, none⟩ = some (.string axs) := h2.cell 7
      have f2' : ((w1.setCell ⟨w.heap.size + 3, 5, none⟩ (.bool bxb)).setCell ⟨w.heap.size + 3, 6, none⟩ (.int .i64 bxn)).frozen? ⟨w.heap.size + 3, 7, none⟩ = false := h2.free 7
      have HAY := Lib.hid (((HA1.out.far (p := ⟨w.heap.size + 3, 5, none⟩) (by simp) (.bool bxb)).far (p := ⟨w.heap.size + 3, 6, none⟩) (by simp) (.int .i64 bxn)).far (p := ⟨w.heap.size + 3, 7, none⟩) (by simp) (.string bxs))
      have HBcY := Lib.hid (((HB1.out.far (p := ⟨w.heap.size + 3, 5, none⟩) (by simp) (.bool bxb)).far (p := ⟨w.heap.size + 3, 6, none⟩) (by simp) (.int .i64 bxn)).far (p := ⟨w.heap.size + 3, 7, none⟩) (by simp) (.string bxs))
      have HZY := Lib.hid (((HZ1.out.far (p := ⟨w.heap.size + 3, 5, none⟩) (by simp) (.bool bxb)).far (p := ⟨w.heap.size + 3, 6, none⟩) (by simp) (.int .i64 bxn)).far (p := ⟨w.heap.size + 3, 7, none⟩) (by simp) (.string bxs))
      have HBY := Lib.hid (((HW1.out.setCell (p := ⟨w.heap.size + 3, 5, none⟩) (by show w.heap.size ≤ w.heap.size + 3; omega) (.bool bxb)).setCell (p := ⟨w.heap.size + 3, 6, none⟩) (by show w.heap.size ≤ w.heap.size + 3; omega) (.int .i64 bxn)).setCell (p := ⟨w.heap.size + 3, 7, none⟩) (by show w.heap.size ≤ w.heap.size + 3; omega) (.string bxs))
      have HGY := Lib.hid h3
      clear h1 h2 h3
      go_wp2
      go_meet
      rw [show gmaxE (⟨true, axn, axs⟩ : CV) ⟨bxb, bxn, bxs⟩ = ⟨bxb, bxn, bxs⟩ from if_pos (.inl rfl)]
      exact ⟨HAY.out, HBcY.out, HZY.out, HGY.out, HBY.out⟩
    | false =>
      cases bxb with
      | true =>
        go_wp2
        go_meet
        rw [show gmaxE (⟨false, axn, axs⟩ : CV) ⟨true, bxn, bxs⟩ = ⟨false, axn, axs⟩ from if_neg (by rintro (h | ⟨h, _⟩) <;> cases h)]
        exact ⟨HA1.out, HB1.out, HZ1.out, HM1.out, HW1.out⟩
      | false =>
        go_wp2_with fail
        refine (HCX.out _).mono ?_
        rintro e wz ⟨rfl, hbz⟩
        have HAv := Lib.hid (HA1.out.below hbz HA1.out.lt)
        have HBv := Lib.hid (HB1.out.below hbz HB1.out.lt)
        have HZv := Lib.hid (HZ1.out.below hbz HZ1.out.lt)
        have HMv := Lib.hid (HM1.out.below hbz HM1.out.lt)
        have HWv := Lib.hid (below_then HW1.out hbz)
        clear hbz p5 p6 p7 q5 q6 q7
        by_cases hq : 0 < cx
        · have d1 : decide (0 < cx) = true := decide_eq_true hq
          have HQ := Lib.hid hq
          clear hq
          have q5 : wz.cell? ⟨w.heap.size + 1, 5, none⟩ = some (.bool false) := HBv.out.cell 5
          have q6 : wz.cell? ⟨w.heap.size + 1, 6, none⟩ = some (.int .i64 bxn) := HBv.out.cell 6
          have q7 : wz.cell? ⟨w.heap.size + 1, 7, none⟩ = some (.string bxs) := HBv.out.cell 7
          have c0 : wz.cell? ⟨w.heap.size + 3, 5, none⟩ = some (.bool false) := HMv.out.cell 5
          have f0 : wz.frozen? ⟨w.heap.size + 3, 5, none⟩ = false := HMv.out.free 5
          have c1 : wz.cell? ⟨w.heap.size + 3, 6, none⟩ = some (.int .i64 axn) := HMv.out.cell 6
          have f1 : wz.frozen? ⟨w.heap.size + 3, 6, none⟩ = false := HMv.out.free 6
          have c2 : wz.cell? ⟨w.heap.size + 3, 7, none⟩ = some (.string axs) := HMv.out.cell 7
          have f2 : wz.frozen? ⟨w.heap.size + 3, 7, none⟩ = false := HMv.out.free 7
          have h1 := HMv.out.set_ 5 (.bool false)
          have h2 := h1.set_ 6 (.int .i64 bxn)
          have h3 := h2.set_ 7 (.string bxs)
          have c1' : (wz.setCell ⟨w.heap.size + 3, 5, none⟩ (.bool false)).cell? ⟨w.heap.size + 3, 6, none⟩ = some (.int .i64 axn) := h1.cell 6
          have f1' : (wz.setCell ⟨w.heap.size + 3, 5, none⟩ (.bool false)).frozen? ⟨w.heap.size + 3, 6, none⟩ = false := h1.free 6
          have c2' : ((wz.setCell ⟨w.heap.size + 3, 5, none⟩ (.bool false)).setCell ⟨w.heap.size + 3, 6, none⟩ (.int .i64 bxn)).cell? ⟨w.heap.size + 3, 7, none⟩ = some (.string axs) := h2.cell 7
          have f2' : ((wz.setCell ⟨w.heap.size + 3, 5, none⟩ (.bool false)).setCell ⟨w.heap.size + 3, 6, none⟩ (.int .i64 bxn)).frozen? ⟨w.heap.size + 3, 7, none⟩ = false := h2.free 7
          have HAY := Lib.hid (((HAv.out.far (p := ⟨w.heap.size + 3, 5, none⟩) (by simp) (.bool false)).far (p := ⟨w.heap.size + 3, 6, none⟩) (by simp) (.int .i64 bxn)).far (p := ⟨w.heap.size + 3, 7, none⟩) (by simp) (.string bxs))
          have HBcY := Lib.hid (((HBv.out.far (p := ⟨w.heap.size + 3, 5, none⟩) (by simp) (.bool false)).far (p := ⟨w.heap.size + 3, 6, none⟩) (by simp) (.int .i64 bxn)).far (p := ⟨w.heap.size + 3, 7, none⟩) (by simp) (.string bxs))
          have HZY := Lib.hid (((HZv.out.far (p := ⟨w.heap.size + 3, 5, none⟩) (by simp) (.bool false)).far (p := ⟨w.heap.size + 3, 6, none⟩) (by simp) (.int .i64 bxn)).far (p := ⟨w.heap.size + 3, 7, none⟩) (by simp) (.string bxs))
          have HBY := Lib.hid (((HWv.out.setCell (p := ⟨w.heap.size + 3, 5, none⟩) (by show w.heap.size ≤ w.heap.size + 3; omega) (.bool false)).setCell (p := ⟨w.heap.size + 3, 6, none⟩) (by show w.heap.size ≤ w.heap.size + 3; omega) (.int .i64 bxn)).setCell (p := ⟨w.heap.size + 3, 7, none⟩) (by show w.heap.size ≤ w.heap.size + 3; omega) (.string bxs))
          have HGY := Lib.hid h3
          clear h1 h2 h3
          go_wp2
          go_meet
          rw [show gmaxE (⟨false, axn, axs⟩ : CV) ⟨false, bxn, bxs⟩ = ⟨false, bxn, bxs⟩ from gmaxY (by simpa using HQ.out) HKX.out]
          exact ⟨HAY.out, HBcY.out, HZY.out, HGY.out, HBY.out⟩
        · have d1 : decide (0 < cx) = false := decide_eq_false hq
          have HQ := Lib.hid hq
          clear hq
          go_wp2
          go_meet
          rw [show gmaxE (⟨false, axn, axs⟩ : CV) ⟨false, bxn, bxs⟩ = ⟨false, axn, axs⟩ from gmaxN (by simpa using HQ.out) HKX.out]
          exact ⟨HAv.out, HBv.out, HZv.out, HMv.out, HWv.out⟩
  case rest =>
  generalize wc = w2 at hcut ⊢
  obtain ⟨hA2, hB2, hZ2, hM2, hW2⟩ := hcut
  obtain ⟨V, hV⟩ : ∃ V, V = gmaxE (⟨axb, axn, axs⟩ : CV) ⟨bxb, bxn, bxs⟩ := ⟨_, rfl⟩
  rw [← hV] at hM2
  obtain ⟨vxb, vxn, vxs⟩ := V
  have HMA := Lib.hid hV.symm
  have HA2 := Lib.hid hA2
  have HB2 := Lib.hid hB2
  have HZ2 := Lib.hid hZ2
  have HW2 := Lib.hid hW2
  have HM2 : Hid (Row w2 (w.heap.size + 3) 28 [.int .i64 (ac + bc), .bool hs, .bool vmb, .int .i64 vmn, .string vms, .bool vxb, .int .i64 vxn, .string vxs, .int .i64 0, .bool os]) := Lib.hid hM2
  clear hV hA2 hB2 hZ2 hM2 hW2
  refine hK4' _ _ ?_
  clear hK4' K4'
  have HEQ : Hid (∀ (sv : Int) (ov : Bool), (if knumber k = true ∧ os = false then (gsumE [asm, bsm]).1 else 0) = sv → (if knumber k = true ∧ os = false then !(gsumE [asm, bsm]).2 else os) = ov → gmergeE k ⟨ac, ah, ⟨amb, amn, ams⟩, ⟨axb, axn, axs⟩, asm, ao⟩ ⟨bc, bh, ⟨bmb, bmn, bms⟩, ⟨bxb, bxn, bxs⟩, bsm, bo⟩ = ⟨ac + bc, hs, ⟨vmb, vmn, vms⟩, ⟨vxb, vxn, vxs⟩, sv, ov⟩) := Lib.hid (by
    intro sv ov h1 h2
    rw [← h1, ← h2, ← HOS.out, ← HHS.out]
    unfold gmergeE
    rw [show gminE (⟨amb, amn, ams⟩ : CV) ⟨bmb, bmn, bms⟩ = ⟨vmb, vmn, vms⟩ from HMI.out, show gmaxE (⟨axb, axn, axs⟩ : CV) ⟨bxb, bxn, bxs⟩ = ⟨vxb, vxn, vxs⟩ from HMA.out])
  have HNU := Lib.hid (rnumber12_any k w2)
  cases hnu : knumber k with
  | false =>
    rw [hnu] at HNU HEQ
    clear hnu
    have HE := Lib.hid (HEQ.out 0 os (by simp) (by simp))
    have m0 : w2.cell? ⟨w.heap.size + 3, 0, none⟩ = some (.int .i64 (ac + bc)) := HM2.out.cell 0
    have m1 : w2.cell? ⟨w.heap.size + 3, 1, none⟩ = some (.bool hs) := HM2.out.cell 1
    have m2 : w2.cell? ⟨w.heap.size + 3, 2, none⟩ = some (.bool vmb) := HM2.out.cell 2
    have m3 : w2.cell? ⟨w.heap.size + 3, 3, none⟩ = some (.int .i64 vmn) := HM2.out.cell 3
    have m4 : w2.cell? ⟨w.heap.size + 3, 4, none⟩ = some (.string vms) := HM2.out.cell 4
    have m5 : w2.cell? ⟨w.heap.size + 3, 5, none⟩ = some (.bool vxb) := HM2.out.cell 5
    have m6 : w2.cell? ⟨w.heap.size + 3, 6, none⟩ = some (.int .i64 vxn) := HM2.out.cell 6
    have m7 : w2.cell? ⟨w.heap.size + 3, 7, none⟩ = some (.string vxs) := HM2.out.cell 7
    have m8 : w2.cell? ⟨w.heap.size + 3, 8, none⟩ = some (.int .i64 0) := HM2.out.cell 8
    have m9 : w2.cell? ⟨w.heap.size + 3, 9, none⟩ = some (.bool os) := HM2.out.cell 9
    go_wp2_with (first | (go_at_call 19; refine HNU.out.mono ?_; rintro e w' ⟨rfl, rfl⟩) | (refine wpList_storeG rfl 28 (.tmp 6) (.tmp 95) rfl (w.heap.size + 2) 0 28 gz (gcells ⟨ac + bc, hs, ⟨vmb, vmn, vms⟩, ⟨vxb, vxn, vxs⟩, 0, os⟩) (gcells ⟨ac + bc, hs, ⟨vmb, vmn, vms⟩, ⟨vxb, vxn, vxs⟩, 0, os⟩) rfl rfl rfl HZ2.out stats_size17 (by simp [gz, gcells]) (stats_one17 _) w w.heap.size HW2.out (by omega) ?_))
    intro w9 hg9 hb9 _
    have HG9 := Lib.hid hg9
    have HB9 := Lib.hid hb9
    clear hg9 hb9
    go_wp2
    refine bodyPost_ret (results_cell_row rfl _ _ (w.heap.size + 2) 28 (gcells ⟨ac + bc, hs, ⟨vmb, vmn, vms⟩, ⟨vxb, vxn, vxs⟩, 0, os⟩).toArray (0, 0) _ rfl HG9.out Tryd.underlying28 rfl (by rw [stats_size17]; rfl)) rfl ?_
    refine ⟨?_, HB9.out⟩
    rw [HE.out]; rfl
  | true =>
    rw [hnu] at HNU HEQ
    clear hnu
    cases os with
    | true =>
      have HE := Lib.hid (HEQ.out 0 true (by simp) (by simp))
      have m0 : w2.cell? ⟨w.heap.size + 3, 0, none⟩ = some (.int .i64 (ac + bc)) := HM2.out.cell 0
      have m1 : w2.cell? ⟨w.heap.size + 3, 1, none⟩ = some (.bool hs) := HM2.out.cell 1
      have m2 : w2.cell? ⟨w.heap.size + 3, 2, none⟩ = some (.bool vmb) := HM2.out.cell 2
      have m3 : w2.cell? ⟨w.heap.size + 3, 3, none⟩ = some (.int .i64 vmn) := HM2.out.cell 3
      have m4 : w2.cell? ⟨w.heap.size + 3, 4, none⟩ = some (.string vms) := HM2.out.cell 4
      have m5 : w2.cell? ⟨w.heap.size + 3, 5, none⟩ = some (.bool vxb) := HM2.out.cell 5
      have m6 : w2.cell? ⟨w.heap.size + 3, 6, none⟩ = some (.int .i64 vxn) := HM2.out.cell 6
      have m7 : w2.cell? ⟨w.heap.size + 3, 7, none⟩ = some (.string vxs) := HM2.out.cell 7
      have m8 : w2.cell? ⟨w.heap.size + 3, 8, none⟩ = some (.int .i64 0) := HM2.out.cell 8
      have m9 : w2.cell? ⟨w.heap.size + 3, 9, none⟩ = some (.bool true) := HM2.out.cell 9
      go_wp2_with (first | (go_at_call 19; refine HNU.out.mono ?_; rintro e w' ⟨rfl, rfl⟩) | (refine wpList_storeG rfl 28 (.tmp 6) (.tmp 95) rfl (w.heap.size + 2) 0 28 gz (gcells ⟨ac + bc, hs, ⟨vmb, vmn, vms⟩, ⟨vxb, vxn, vxs⟩, 0, true⟩) (gcells ⟨ac + bc, hs, ⟨vmb, vmn, vms⟩, ⟨vxb, vxn, vxs⟩, 0, true⟩) rfl rfl rfl HZ2.out stats_size17 (by simp [gz, gcells]) (stats_one17 _) w w.heap.size HW2.out (by omega) ?_))
      intro w9 hg9 hb9 _
      have HG9 := Lib.hid hg9
      have HB9 := Lib.hid hb9
      clear hg9 hb9
      go_wp2
      refine bodyPost_ret (results_cell_row rfl _ _ (w.heap.size + 2) 28 (gcells ⟨ac + bc, hs, ⟨vmb, vmn, vms⟩, ⟨vxb, vxn, vxs⟩, 0, true⟩).toArray (0, 0) _ rfl HG9.out Tryd.underlying28 rfl (by rw [stats_size17]; rfl)) rfl ?_
      refine ⟨?_, HB9.out⟩
      rw [HE.out]; rfl
    | false =>
      obtain ⟨sv, ok, hso⟩ : ∃ sv ok, gsumE [asm, bsm] = (sv, ok) := ⟨_, _, rfl⟩
      have HE := Lib.hid (HEQ.out sv (!ok) (by simp [hso]) (by simp [hso]))
      have hA7 : Below w2.heap.size w2 (w2.alloc (.cells #[.int .i64 asm, .int .i64 bsm] 3)) := (Below.refl _ _).alloc (Nat.le_refl _) _
      have hiv7 : IsV iv [asm, bsm] (.slice (some ⟨w2.heap.size, 0, none⟩) 2 2) (w2.alloc (.cells #[.int .i64 asm, .int .i64 bsm] 3)) := isV_new iv w2 3 [asm, bsm] 2 rfl (by omega)
      have HSUM := Lib.hid ((rsum17_any [asm, bsm] _ _ hiv7 HSB.out (by simp)).mono fun e w' (h : _ ∧ _) => (⟨h.1, h.2 ▸ Below.refl _ _⟩ : e = .returned (.tuple #[.int .i64 (gsumE [asm, bsm]).1, .bool (gsumE [asm, bsm]).2]) ∧ Below (w2.alloc (.cells #[.int .i64 asm, .int .i64 bsm] 3)).heap.size (w2.alloc (.cells #[.int .i64 asm, .int .i64 bsm] 3)) w'))
      rw [hso] at HSUM
      have HA7 := Lib.hid hA7
      clear hso hA7 hiv7
      have m9 : w2.cell? ⟨w.heap.size + 3, 9, none⟩ = some (.bool false) := HM2.out.cell 9
      have p8 : w2.cell? ⟨w.heap.size, 8, none⟩ = some (.int .i64 asm) := HA2.out.cell 8
      have q8 : w2.cell? ⟨w.heap.size + 1, 8, none⟩ = some (.int .i64 bsm) := HB2.out.cell 8
      go_wp2_with (first | (go_at_call 19; refine HNU.out.mono ?_; rintro e w' ⟨rfl, rfl⟩) | (go_at_call 20; refine HSUM.out.mono ?_))
      rintro e w8 ⟨rfl, hb8⟩
      have hb8' := below_then HA7.out hb8
      have HA8 := Lib.hid (HA2.out.below hb8' HA2.out.lt)
      have HB8 := Lib.hid (HB2.out.below hb8' HB2.out.lt)
      have HZ8 := Lib.hid (HZ2.out.below hb8' HZ2.out.lt)
      have HM8 := Lib.hid (HM2.out.below hb8' HM2.out.lt)
      have HW8 := Lib.hid (below_then HW2.out hb8')
      clear hb8 hb8' m9 p8 q8
      have f8 : w8.frozen? ⟨w.heap.size + 3, 8, none⟩ = false := HM8.out.free 8
      have h8 := HM8.out.set_ 8 (.int .i64 sv)
      have y8 : w8.cell? ⟨w.heap.size + 3, 8, none⟩ = some (.int .i64 0) := HM8.out.cell 8
      have y9 : w8.cell? ⟨w.heap.size + 3, 9, none⟩ = some (.bool false) := HM8.out.cell 9
      have x9 : (w8.setCell ⟨w.heap.size + 3, 8, none⟩ (.int .i64 sv)).cell? ⟨w.heap.size + 3, 9, none⟩ = some (.bool false) := h8.cell 9
      have f9' : w8.frozen? ⟨w.heap.size + 3, 9, none⟩ = false := HM8.out.free 9
      have f9 : (w8.setCell ⟨w.heap.size + 3, 8, none⟩ (.int .i64 sv)).frozen? ⟨w.heap.size + 3, 9, none⟩ = false := h8.free 9
      have h9 := h8.set_ 9 (.bool (!ok))
      have HR9 := Lib.hid h9
      have HZ9 := Lib.hid ((HZ8.out.far (p := ⟨w.heap.size + 3, 8, none⟩) (by simp) (.int .i64 sv)).far (p := ⟨w.heap.size + 3, 9, none⟩) (by simp) (.bool (!ok)))
      have HW9 := Lib.hid ((HW8.out.setCell (p := ⟨w.heap.size + 3, 8, none⟩) (by show w.heap.size ≤ w.heap.size + 3; omega) (.int .i64 sv)).setCell (p := ⟨w.heap.size + 3, 9, none⟩) (by show w.heap.size ≤ w.heap.size + 3; omega) (.bool (!ok)))
      have m0 : ((w8.setCell ⟨w.heap.size + 3, 8, none⟩ (.int .i64 sv)).setCell ⟨w.heap.size + 3, 9, none⟩ (.bool (!ok))).cell? ⟨w.heap.size + 3, 0, none⟩ = some (.int .i64 (ac + bc)) := HR9.out.cell 0
      have m1 : ((w8.setCell ⟨w.heap.size + 3, 8, none⟩ (.int .i64 sv)).setCell ⟨w.heap.size + 3, 9, none⟩ (.bool (!ok))).cell? ⟨w.heap.size + 3, 1, none⟩ = some (.bool hs) := HR9.out.cell 1
      have m2 : ((w8.setCell ⟨w.heap.size + 3, 8, none⟩ (.int .i64 sv)).setCell ⟨w.heap.size + 3, 9, none⟩ (.bool (!ok))).cell? ⟨w.heap.size + 3, 2, none⟩ = some (.bool vmb) := HR9.out.cell 2
      have m3 : ((w8.setCell ⟨w.heap.size + 3, 8, none⟩ (.int .i64 sv)).setCell ⟨w.heap.size + 3, 9, none⟩ (.bool (!ok))).cell? ⟨w.heap.size + 3, 3, none⟩ = some (.int .i64 vmn) := HR9.out.cell 3
      have m4 : ((w8.setCell ⟨w.heap.size + 3, 8, none⟩ (.int .i64 sv)).setCell ⟨w.heap.size + 3, 9, none⟩ (.bool (!ok))).cell? ⟨w.heap.size + 3, 4, none⟩ = some (.string vms) := HR9.out.cell 4
      have m5 : ((w8.setCell ⟨w.heap.size + 3, 8, none⟩ (.int .i64 sv)).setCell ⟨w.heap.size + 3, 9, none⟩ (.bool (!ok))).cell? ⟨w.heap.size + 3, 5, none⟩ = some (.bool vxb) := HR9.out.cell 5
      have m6 : ((w8.setCell ⟨w.heap.size + 3, 8, none⟩ (.int .i64 sv)).setCell ⟨w.heap.size + 3, 9, none⟩ (.bool (!ok))).cell? ⟨w.heap.size + 3, 6, none⟩ = some (.int .i64 vxn) := HR9.out.cell 6
      have m7 : ((w8.setCell ⟨w.heap.size + 3, 8, none⟩ (.int .i64 sv)).setCell ⟨w.heap.size + 3, 9, none⟩ (.bool (!ok))).cell? ⟨w.heap.size + 3, 7, none⟩ = some (.string vxs) := HR9.out.cell 7
      have m8 : ((w8.setCell ⟨w.heap.size + 3, 8, none⟩ (.int .i64 sv)).setCell ⟨w.heap.size + 3, 9, none⟩ (.bool (!ok))).cell? ⟨w.heap.size + 3, 8, none⟩ = some (.int .i64 sv) := HR9.out.cell 8
      have m9 : ((w8.setCell ⟨w.heap.size + 3, 8, none⟩ (.int .i64 sv)).setCell ⟨w.heap.size + 3, 9, none⟩ (.bool (!ok))).cell? ⟨w.heap.size + 3, 9, none⟩ = some (.bool (!ok)) := HR9.out.cell 9
      clear h8 h9
      go_wp2_with (refine wpList_storeG rfl 28 (.tmp 6) (.tmp 95) rfl (w.heap.size + 2) 0 28 gz (gcells ⟨ac + bc, hs, ⟨vmb, vmn, vms⟩, ⟨vxb, vxn, vxs⟩, sv, !ok⟩) (gcells ⟨ac + bc, hs, ⟨vmb, vmn, vms⟩, ⟨vxb, vxn, vxs⟩, sv, !ok⟩) rfl rfl rfl HZ9.out stats_size17 (by simp [gz, gcells]) (stats_one17 _) w w.heap.size HW9.out (by omega) ?_)
      intro w9 hg9 hb9 _
      have HG9 := Lib.hid hg9
      have HB9 := Lib.hid hb9
      clear hg9 hb9
      go_wp2
      refine bodyPost_ret (results_cell_row rfl _ _ (w.heap.size + 2) 28 (gcells ⟨ac + bc, hs, ⟨vmb, vmn, vms⟩, ⟨vxb, vxn, vxs⟩, sv, !ok⟩).toArray (0, 0) _ rfl HG9.out Tryd.underlying28 rfl (by rw [stats_size17]; rfl)) rfl ?_
      refine ⟨?_, HB9.out⟩
      rw [HE.out]; rfl
end Go.Proofs.YtgbmppdbahjjhaaDoor

/- The head's 'few' of layer 17: at most 300 values that may be; '==' of what is known of values, with itself. -/







namespace Go.Proofs.YtgbmppdbahjjhaaDoor

open Go.RowKit

def gfew (k : Int) (l : List CV) : List CV := l.filter (kmay k)
theorem gfew_snoc (k : Int) (l : List CV) (v : CV) : gfew k (l ++ [v]) = if kmay k v = true then gfew k l ++ [v] else gfew k l := by
  unfold gfew
  rw [List.filter_append]
  by_cases h : kmay k v = true
  · simp [h]
  · simp [h]
def GFewRel (k : Int) (l : List CV) (w : World) (ov i : Value) (wr : World) : Prop :=
  ∃ (j : Nat) (xs : List CV), j ≤ l.length ∧ j ≤ 300 ∧ i = .int .i64 (j : Int) ∧ xs = gfew k (l.take j) ∧ xs.length ≤ j ∧ wr.ownsRow w.heap.size 26 3 ov xs.length (xs.flatMap kcells) ∧ Below w.heap.size w wr
set_option maxHeartbeats 4000000 in
set_option maxRecDepth 100000 in
theorem few17_any (k : Int) (l : List CV) (v : Value) (w : World) (hU : Tryd.U8 w) (hv : IsR kcells l v w) (hs : ∀ x ∈ l, x.s.size ≤ maxLen) :
    Calls Tryd.prog 8 #[.int .i64 k, v] w fun e w' => (∃ u, e = .returned u ∧ IsR kcells (gfew k (l.take 300)) u w') ∧ Below w.heap.size w w' := by
  obtain ⟨A, n, c, rfl⟩ := hv.shape
  have HN := Lib.hid hv.parts.1
  have HV := Lib.hid hv
  have HU := Lib.hid hU
  have HS := Lib.hid hs
  have ho : (w.alloc (.cells #[] 26)).ownsRow w.heap.size 26 3 (.slice (some ⟨w.heap.size, 0, none⟩) 0 0) 0 [] := World.ownsRow_made w #[] 0 (Nat.le_refl _) (by unfold maxLen; omega) (by simp)
  have HST := Lib.hid (show GFewRel k l w (.slice (some ⟨w.heap.size, 0, none⟩) 0 0) (.int .i64 0) (w.alloc (.cells #[] 26)) from ⟨0, [], Nat.zero_le _, Nat.zero_le _, rfl, rfl, Nat.le_refl _, ho, (Below.refl _ _).alloc (Nat.le_refl _) _⟩)
  clear hv hU hs ho
  go_enter Tryd.func8, Tryd.ntmps8
  go_wp2
  go_loopw [5, 6] (GFewRel k l w) (fun _ i _ => 301 - (intOf i).toNat)
  case atStart => exact HST.out
  case round =>
    obtain ⟨j, xs, hj, hj3, rfl, hxs, hxl, hown, hbw⟩ := hrel
    have HSTT := HST
    clear HST
    have hjn : j ≤ n := by have := HN.out; omega
    have HXS := Lib.hid hxs
    have HOWN := Lib.hid hown
    have HBW := Lib.hid hbw
    obtain ⟨nl, hnl⟩ : ∃ nl, nl = xs.length := ⟨_, rfl⟩
    have HNL := Lib.hid hnl
    rw [← hnl] at hxl
    clear hj hxs hown hbw hnl
    by_cases hgo : j < n ∧ j < 300
    · obtain ⟨hlt, hlt3⟩ := hgo
      have hjl : j < l.length := by have := HN.out; omega
      have d1 : decide ((j : Int) < (n : Int)) = true := decide_eq_true (by omega)
      have d1' : decide (j < n) = true := decide_eq_true hlt
      have d2 : decide ((j : Int) < 300) = true := decide_eq_true (by omega)
      have hlti : (j : Int) < (n : Int) := by omega
      obtain ⟨ad, rfl, had, hcell⟩ := (HV.out.below HBW.out).at (m := 3) (fun _ => rfl) (by omega) hjl
      have HTK := Lib.hid (List.take_succ_eq_append_getElem hjl)
      obtain ⟨x, hx⟩ : ∃ x, x = l[j] := ⟨_, rfl⟩
      have hxs8 : x.s.size ≤ maxLen := by rw [hx]; exact HS.out _ (List.getElem_mem hjl)
      rw [← hx] at hcell
      have HX := Lib.hid hx
      have HMAY := Lib.hid (rmay12_any k x wr (Utf8Tabs_below HU.out HBW.out) hxs8)
      obtain ⟨b, hbm⟩ : ∃ b, b = kmay k x := ⟨_, rfl⟩
      rw [← hbm] at HMAY
      have HBM := Lib.hid hbm
      obtain ⟨k0, k1, k2⟩ := cells3 hcell
      obtain ⟨xb, xn, xss⟩ := x
      dsimp only at k0 k1 k2
      unfold cv at HMAY
      dsimp only at HMAY
      clear hcell hx hxs8 hbm
      go_wp2_with fail
      refine HMAY.out.mono ?_
      rintro e w2 ⟨rfl, hb2⟩
      have hc2 := (HV.out.below (below_then HBW.out hb2)).at (m := 3) (fun _ => rfl) (by omega) hjl
      obtain ⟨ad2, hAd2, _, hcell2⟩ := hc2
      injection hAd2 with hAd2
      subst hAd2
      rw [← HX.out] at hcell2
      obtain ⟨j0, j1, j2⟩ := cells3 hcell2
      dsimp only at j0 j1 j2
      have hown2 := own_below HOWN.out hb2
      rw [← HNL.out] at hown2
      have hbw2 := below_then HBW.out hb2
      have hz2 := hbw2.size
      have HOWN2 := Lib.hid hown2
      have HBW2 := Lib.hid hbw2
      clear hcell2 hb2 k0 k1 k2
      cases b with
      | true =>
        go_wp2_with (at_builtin; refine wpList_pushW elemW rfl _ _ rfl w.heap.size _ _ _ (kcells ⟨xb, xn, xss⟩) w2 w rfl rfl rfl rfl (kcells_one _) hown2 hbw2 hz2 (by omega) (by omega) ?_)
        intro v7 w7 hown7 hb7 _ _
        have HREL : Hid (GFewRel k l w v7 (.int .i64 ((j : Int) + 1)) w7) := Lib.hid ⟨j + 1, xs ++ [⟨xb, xn, xss⟩], hjl, by omega, by go_num, by rw [HTK.out, ← HX.out, gfew_snoc, ← HBM.out, if_pos rfl, ← HXS.out], by rw [List.length_append, ← HNL.out, List.length_singleton]; omega,
          by rw [List.length_append, List.length_singleton, ← HNL.out, flat_snoc]; exact hown7, hb7⟩
        clear hown7 hb7 hown2 hbw2
        go_wp2
        go_roundw
        case rel => exact HREL.out
        case measure => simp [intOf]; omega
      | false =>
        clear hown2 hbw2
        go_wp2
        go_roundw
        case rel =>
          refine ⟨j + 1, xs, hjl, by omega, by go_num, by rw [HTK.out, ← HX.out, gfew_snoc, ← HBM.out, if_neg (by simp), ← HXS.out], by rw [← HNL.out]; omega, ?_, HBW2.out⟩
          rw [← HNL.out]; exact HOWN2.out
        case measure => simp [intOf]; omega
    · have HT : Hid (gfew k (l.take 300) = xs) := Lib.hid (by
        rw [HXS.out]
        congr 1
        by_cases h : j < n
        · rw [show j = 300 by omega]
        · rw [List.take_of_length_le (by have := HN.out; omega), List.take_of_length_le (by have := HN.out; omega)])
      have hd : decide ((j : Int) < (n : Int)) = false ∨ (decide ((j : Int) < (n : Int)) = true ∧ decide ((j : Int) < 300) = false) := by
        by_cases h : j < n
        · exact .inr ⟨decide_eq_true (by omega), decide_eq_false (by omega)⟩
        · exact .inl (decide_eq_false (by omega))
      have HR := Lib.hid (isR_own (m := 3) (f := kcells) (fun _ => rfl) (by omega) HOWN.out)
      clear hgo
      rcases hd with d1 | ⟨d1, d2⟩
      · have d1' : decide (j < n) = false := by rw [decide_eq_false_iff_not] at d1 ⊢; omega
        go_wp2
        go_ret
        refine ⟨⟨_, rfl, ?_⟩, HBW.out⟩
        rw [HT.out]; exact HR.out
      · have d1' : decide (j < n) = true := by rw [decide_eq_true_iff] at d1 ⊢; omega
        go_wp2
        go_ret
        refine ⟨⟨_, rfl, ?_⟩, HBW.out⟩
        rw [HT.out]; exact HR.out
set_option maxRecDepth 100000 in
set_option maxHeartbeats 2000000 in
theorem eqS_self (a : GS) (w : World) : (Op.equalIn 10000 28 (gsv a) (gsv a)).run Tryd.prog w = .ok true w := by
  have hS : Tryd.prog.underlying 28 = some (.struct (Tryd.prog.fieldsOf 28)) := by kernel_rfl
  have hp : Tryd.prog.stoodInHeld 28 = false := by kernel_rfl
  obtain ⟨ct, hh, ⟨mb, mn, ms⟩, ⟨xb, xn, xs⟩, sm, ov⟩ := a
  unfold gsv gcells
  dsimp only
  have u1 := Tryd.underlying4
  have u2 := Tryd.underlying3
  have u3 := Tryd.underlying26
  have s1 := Tryd.sizeOf4
  have s2 := Tryd.sizeOf3
  have s3 := Tryd.sizeOf26
  have g1 := Tryd.isAgg4
  have g2 := Tryd.isAgg3
  have g3 := Tryd.isAgg26
  have hV : ∀ (b : Bool) (n : Int) (s : ByteArray) (w : World), (Op.equalIn 9999 26 (.agg #[.bool b, .int .i64 n, .string s]) (.agg #[.bool b, .int .i64 n, .string s])).run Tryd.prog w = .ok true w := fun b n s w => by
    have h := eqV 9997 ⟨b, n, s⟩ ⟨b, n, s⟩ w
    rw [cvEq_self] at h
    exact h
  rw [show (10000 : Nat) = 9999 + 1 from rfl, run_equalIn_agg w 9999 28 _ _ hS hp]
  simp only [Program.fieldsOf, Tryd.underlying28]
  go_simp
theorem eqS_guard (a b : GS) (x y : Operand) (W : World) : (eqGuard .eql 28 x y (gsv a) (gsv b)).run Tryd.prog W = .ok () W := run_eqGuard_agg (P := Tryd.prog) W .eql 28 x y (gcells a).toArray (gcells b).toArray (by kernel_rfl)
theorem eqS_run (a : GS) (W : World) : (binOp .eql 28 (gsv a) (gsv a)).run Tryd.prog W = .ok (.bool true) W := by
  have h := eqS_self a W
  unfold gsv at h ⊢
  rw [run_eql_struct, h]
  rfl
theorem gfew_mem {k : Int} {l : List CV} {x : CV} (h : x ∈ gfew k (l.take 300)) : x ∈ l ∧ kmay k x = true := by
  unfold gfew at h
  obtain ⟨h1, h2⟩ := List.mem_filter.1 h
  exact ⟨List.mem_of_mem_take h1, h2⟩
theorem gfew_len (k : Int) (l : List CV) : (gfew k (l.take 300)).length ≤ 300 := by
  unfold gfew
  have h1 := List.length_filter_le (kmay k) (l.take 300)
  rw [List.length_take] at h1
  omega
end Go.Proofs.YtgbmppdbahjjhaaDoor

/- The program's contracts of layer 17: farther, one, tally and its closures. -/









namespace Go.Proofs.YtgbmppdbahjjhaaDoor

open Go.RowKit

theorem gval_size : (Tryd.prog.info? 26).map (·.size) = some 3 := by kernel_rfl
theorem gstats_size : (Tryd.prog.info? 28).map (·.size) = some 10 := by kernel_rfl
theorem gstats_one (s : GS) : ∀ u ∈ gcells s, u.oneCell' = true := by
  intro u hu
  simp only [gcells, List.mem_cons, List.not_mem_nil, or_false] at hu
  rcases hu with rfl | rfl | rfl | rfl | rfl | rfl | rfl | rfl | rfl | rfl <;> rfl
set_option maxHeartbeats 2000000 in
set_option maxRecDepth 100000 in
theorem gfarther_any (side : Int) (a b : CV) (w : World) : Calls Tryd.prog 26 #[.int .i64 side, cv a, cv b] w
    fun e w' => e = .returned (cv (gfar side a b)) ∧ Below w.heap.size w w' := by
  obtain ⟨an, ai, as_⟩ := a
  obtain ⟨bn, bi, bs⟩ := b
  obtain ⟨r, hr⟩ : ∃ r, r = gfar side ⟨an, ai, as_⟩ ⟨bn, bi, bs⟩ := ⟨_, rfl⟩
  rw [← hr]
  have HR := Lib.hid hr
  have HC := Lib.hid (fun W => kcmp_own ⟨false, bi, bs⟩ ⟨false, ai, as_⟩ W)
  obtain ⟨c, hc⟩ : ∃ c, c = kcmp ⟨false, bi, bs⟩ ⟨false, ai, as_⟩ := ⟨_, rfl⟩
  rw [← hc] at HC
  have HKC := Lib.hid hc
  unfold cv at HC
  obtain ⟨w3, hw3⟩ : ∃ w3, w3 = ((w.alloc (.cells #[.bool an, .int .i64 ai, .string as_] 26)).alloc (.cells #[.bool bn, .int .i64 bi, .string bs] 26)).alloc (.cells #[.bool false, .int .i64 0, .string ⟨#[]⟩] 26) := ⟨_, rfl⟩
  have rA : Row w3 w.heap.size 26 (kcells ⟨an, ai, as_⟩) := by rw [hw3]; exact ((show Row (w.alloc _) _ _ _ from heap_alloc_new w _).alloc _).alloc _
  have rB : Row w3 (w.heap.size + 1) 26 (kcells ⟨bn, bi, bs⟩) := by
    rw [hw3]
    have h := heap_alloc_new (w.alloc (.cells #[.bool an, .int .i64 ai, .string as_] 26)) (.cells #[.bool bn, .int .i64 bi, .string bs] 26)
    rw [show (w.alloc (.cells #[.bool an, .int .i64 ai, .string as_] 26)).heap.size = w.heap.size + 1 by simp] at h
    exact Row.alloc h _
  have rC : Row w3 (w.heap.size + 2) 26 (kcells ⟨false, 0, ⟨#[]⟩⟩) := by
    rw [hw3]
    have h := heap_alloc_new ((w.alloc (.cells #[.bool an, .int .i64 ai, .string as_] 26)).alloc (.cells #[.bool bn, .int .i64 bi, .string bs] 26)) (.cells #[.bool false, .int .i64 0, .string ⟨#[]⟩] 26)
    rw [show ((w.alloc (.cells #[.bool an, .int .i64 ai, .string as_] 26)).alloc (.cells #[.bool bn, .int .i64 bi, .string bs] 26)).heap.size = w.heap.size + 2 by simp] at h
    exact h
  have hb3 : Below w.heap.size w w3 := by rw [hw3]; exact (((Below.refl _ _).alloc (Nat.le_refl _) _).alloc (by simp) _).alloc (by simp <;> omega) _
  have HA3 := Lib.hid rA
  have HB3 := Lib.hid rB
  have HC3 := Lib.hid rC
  have HW3 := Lib.hid hb3
  have a0 : w3.cell? ⟨w.heap.size, 0, none⟩ = some (.bool an) := rA.cell 0
  have a1 : w3.cell? ⟨w.heap.size, 1, none⟩ = some (.int .i64 ai) := rA.cell 1
  have a2 : w3.cell? ⟨w.heap.size, 2, none⟩ = some (.string as_) := rA.cell 2
  have b0 : w3.cell? ⟨w.heap.size + 1, 0, none⟩ = some (.bool bn) := rB.cell 0
  have b1 : w3.cell? ⟨w.heap.size + 1, 1, none⟩ = some (.int .i64 bi) := rB.cell 1
  have b2 : w3.cell? ⟨w.heap.size + 1, 2, none⟩ = some (.string bs) := rB.cell 2
  rw [hw3] at a0 a1 a2 b0 b1 b2
  clear hr hc rA rB rC hb3
  have HEND := Lib.hid (show ∀ x : CV, Row (((w.alloc (.cells #[.bool an, .int .i64 ai, .string as_] 26)).alloc (.cells #[.bool bn, .int .i64 bi, .string bs] 26)).alloc (.cells #[.bool x.null, .int .i64 x.n, .string x.s] 26)) (w.heap.size + 2) 26 (kcells x) ∧ Below w.heap.size w (((w.alloc (.cells #[.bool an, .int .i64 ai, .string as_] 26)).alloc (.cells #[.bool bn, .int .i64 bi, .string bs] 26)).alloc (.cells #[.bool x.null, .int .i64 x.n, .string x.s] 26)) from fun x => ⟨by
    have h := heap_alloc_new ((w.alloc (.cells #[.bool an, .int .i64 ai, .string as_] 26)).alloc (.cells #[.bool bn, .int .i64 bi, .string bs] 26)) (.cells #[.bool x.null, .int .i64 x.n, .string x.s] 26)
    rw [show ((w.alloc (.cells #[.bool an, .int .i64 ai, .string as_] 26)).alloc (.cells #[.bool bn, .int .i64 bi, .string bs] 26)).heap.size = w.heap.size + 2 by simp] at h
    exact h, (((Below.refl _ _).alloc (Nat.le_refl _) _).alloc (by simp) _).alloc (by simp <;> omega) _⟩)
  subst hw3
  unfold cv
  cases bn with
  | true =>
    have HE := Lib.hid (show r = ⟨an, ai, as_⟩ by rw [HR.out]; exact gfar_null _ _ _ rfl)
    rw [HE.out]
    go_enter Tryd.func26, Tryd.ntmps26
    go_wp2
    refine bodyPost_ret (v := cv ⟨an, ai, as_⟩) (results_cell_row rfl _ _ (w.heap.size + 2) _ _ (0, 0) _ rfl (HEND.out ⟨an, ai, as_⟩).1 Tryd.underlying26 rfl (by kernel_rfl)) rfl ?_
    exact ⟨rfl, (HEND.out ⟨an, ai, as_⟩).2⟩
  | false =>
  cases an with
  | true =>
    have HE := Lib.hid (show r = ⟨false, bi, bs⟩ by rw [HR.out]; unfold gfar; exact if_neg (by rintro (h | ⟨h, _⟩) <;> cases h))
    rw [HE.out]
    go_enter Tryd.func26, Tryd.ntmps26
    go_wp2
    refine bodyPost_ret (v := cv ⟨false, bi, bs⟩) (results_cell_row rfl _ _ (w.heap.size + 2) _ _ (0, 0) _ rfl (HEND.out ⟨false, bi, bs⟩).1 Tryd.underlying26 rfl (by kernel_rfl)) rfl ?_
    exact ⟨rfl, (HEND.out ⟨false, bi, bs⟩).2⟩
  | false =>
    have hT : (c != side) = true → r = ⟨false, ai, as_⟩ := fun h => by
      rw [HR.out]
      refine if_pos (.inr ⟨rfl, ?_⟩)
      rw [← HKC.out]
      simpa using h
    have hF : (c != side) = false → r = ⟨false, bi, bs⟩ := fun h => by
      rw [HR.out]
      refine if_neg ?_
      rintro (h1 | ⟨_, h1⟩)
      · cases h1
      · rw [← HKC.out] at h1
        exact h1 (by simpa using h)
    have HT := Lib.hid hT
    have HF := Lib.hid hF
    clear hT hF a0 a1 a2 b0 b1 b2
    have a0 := (HA3.out.cell 0).trans (show (kcells ⟨false, ai, as_⟩)[0]? = some (.bool false) from rfl)
    have b0 := (HB3.out.cell 0).trans (show (kcells ⟨false, bi, bs⟩)[0]? = some (.bool false) from rfl)
    have a1 := (HA3.out.cell 1).trans (show (kcells ⟨false, ai, as_⟩)[1]? = some (.int .i64 ai) from rfl)
    have b1 := (HB3.out.cell 1).trans (show (kcells ⟨false, bi, bs⟩)[1]? = some (.int .i64 bi) from rfl)
    have a2 := (HA3.out.cell 2).trans (show (kcells ⟨false, ai, as_⟩)[2]? = some (.string as_) from rfl)
    have b2 := (HB3.out.cell 2).trans (show (kcells ⟨false, bi, bs⟩)[2]? = some (.string bs) from rfl)
    go_enter Tryd.func26, Tryd.ntmps26
    go_wp2_with fail
    refine (HC.out _).mono ?_
    rintro e w4 ⟨rfl, hb4⟩
    have HA4 := Lib.hid (HA3.out.below hb4 HA3.out.lt)
    have HB4 := Lib.hid (HB3.out.below hb4 HB3.out.lt)
    have HC4 := Lib.hid (HC3.out.below hb4 HC3.out.lt)
    have HW4 := Lib.hid (below_then HW3.out hb4)
    clear hb4 a0 a1 a2 b0 b1 b2
    cases hq : (c != side) with
    | true =>
      have HE := Lib.hid (HT.out hq)
      have a0 := (HA4.out.cell 0).trans (show (kcells ⟨false, ai, as_⟩)[0]? = some (.bool false) from rfl)
      have a1 := (HA4.out.cell 1).trans (show (kcells ⟨false, ai, as_⟩)[1]? = some (.int .i64 ai) from rfl)
      have a2 := (HA4.out.cell 2).trans (show (kcells ⟨false, ai, as_⟩)[2]? = some (.string as_) from rfl)
      go_wp2_with (refine wpList_storeG rfl _ _ _ rfl (w.heap.size + 2) 0 26 (kcells ⟨false, 0, ⟨#[]⟩⟩) (kcells ⟨false, ai, as_⟩) (kcells ⟨false, ai, as_⟩) rfl rfl rfl HC4.out gval_size (Nat.le_refl _) (kcells_one _) w w.heap.size HW4.out (by omega) ?_)
      intro w5 hr5 hb5 _
      have HR5 := Lib.hid hr5
      have HB5 := Lib.hid hb5
      clear hr5 hb5 a0 a1 a2
      go_wp2
      refine bodyPost_ret (v := cv ⟨false, ai, as_⟩) (results_cell_row rfl _ _ (w.heap.size + 2) _ _ (0, 0) _ rfl HR5.out Tryd.underlying26 rfl (by kernel_rfl)) rfl ?_
      exact ⟨by rw [HE.out]; rfl, HB5.out⟩
    | false =>
      have HE := Lib.hid (HF.out hq)
      have b0 := (HB4.out.cell 0).trans (show (kcells ⟨false, bi, bs⟩)[0]? = some (.bool false) from rfl)
      have b1 := (HB4.out.cell 1).trans (show (kcells ⟨false, bi, bs⟩)[1]? = some (.int .i64 bi) from rfl)
      have b2 := (HB4.out.cell 2).trans (show (kcells ⟨false, bi, bs⟩)[2]? = some (.string bs) from rfl)
      go_wp2_with (refine wpList_storeG rfl _ _ _ rfl (w.heap.size + 2) 0 26 (kcells ⟨false, 0, ⟨#[]⟩⟩) (kcells ⟨false, bi, bs⟩) (kcells ⟨false, bi, bs⟩) rfl rfl rfl HC4.out gval_size (Nat.le_refl _) (kcells_one _) w w.heap.size HW4.out (by omega) ?_)
      intro w5 hr5 hb5 _
      have HR5 := Lib.hid hr5
      have HB5 := Lib.hid hb5
      clear hr5 hb5 b0 b1 b2
      go_wp2
      refine bodyPost_ret (v := cv ⟨false, bi, bs⟩) (results_cell_row rfl _ _ (w.heap.size + 2) _ _ (0, 0) _ rfl HR5.out Tryd.underlying26 rfl (by kernel_rfl)) rfl ?_
      exact ⟨by rw [HE.out]; rfl, HB5.out⟩
theorem heap_mid (w : World) (o1 o3 : Obj) (cs : Array Value) (ty : TypeId) : (((w.alloc o1).alloc (.cells cs ty)).alloc o3).heap[w.heap.size + 1]? = some (.cells cs ty (0, 0)) := by
  have h := heap_alloc_new (w.alloc o1) (.cells cs ty)
  rw [show (w.alloc o1).heap.size = w.heap.size + 1 by simp] at h
  exact (Below.heap_alloc _ o3 _ (by simp)).trans h
theorem below_three (w : World) (o1 o2 o3 : Obj) : Below w.heap.size w (((w.alloc o1).alloc o2).alloc o3) := (((Below.refl _ _).alloc (Nat.le_refl _) _).alloc (by simp) _).alloc (by simp <;> omega) _
set_option maxHeartbeats 2000000 in
set_option maxRecDepth 100000 in
theorem gone_any (k : Int) (v : CV) (w : World) : Calls Tryd.prog 18 #[.int .i64 k, cv v] w
    fun e w' => e = .returned (gsv (gone k v)) ∧ Below w.heap.size w w' := by
  obtain ⟨vn, vi, vs⟩ := v
  have HN := Lib.hid (fun W => knumber_own k W)
  unfold cv
  cases vn with
  | true =>
    have HE := Lib.hid (show gsv (gone k ⟨true, vi, vs⟩) = .agg #[.int .i64 0, .bool true, .bool true, .int .i64 vi, .string vs, .bool true, .int .i64 vi, .string vs, .int .i64 0, .bool false] by unfold gone; rfl)
    rw [HE.out]
    go_enter Tryd.func18, Tryd.ntmps18
    go_wp2
    refine bodyPost_ret (v := .agg #[.int .i64 0, .bool true, .bool true, .int .i64 vi, .string vs, .bool true, .int .i64 vi, .string vs, .int .i64 0, .bool false]) (results_cell_row rfl _ _ (w.heap.size + 1) 28 _ (0, 0) _ rfl (heap_mid w _ _ _ _) Tryd.underlying28 rfl (by rw [gstats_size]; rfl)) rfl ?_
    exact ⟨rfl, below_three w _ _ _⟩
  | false =>
  cases hk : knumber k with
  | true =>
    rw [hk] at HN
    have HE := Lib.hid (show gsv (gone k ⟨false, vi, vs⟩) = .agg #[.int .i64 1, .bool false, .bool false, .int .i64 vi, .string vs, .bool false, .int .i64 vi, .string vs, .int .i64 vi, .bool false] by unfold gone; rw [if_neg (by simp), hk]; rfl)
    clear hk
    rw [HE.out]
    go_enter Tryd.func18, Tryd.ntmps18
    go_wp2_with (go_at_call 28; refine (HN.out _).mono ?_; rintro e w' ⟨rfl, rfl⟩)
    refine bodyPost_ret (v := .agg #[.int .i64 1, .bool false, .bool false, .int .i64 vi, .string vs, .bool false, .int .i64 vi, .string vs, .int .i64 vi, .bool false]) (results_cell_row rfl _ _ (w.heap.size + 1) 28 _ (0, 0) _ rfl (heap_mid w _ _ _ _) Tryd.underlying28 rfl (by rw [gstats_size]; rfl)) rfl ?_
    exact ⟨rfl, below_three w _ _ _⟩
  | false =>
    rw [hk] at HN
    have HE := Lib.hid (show gsv (gone k ⟨false, vi, vs⟩) = .agg #[.int .i64 1, .bool false, .bool false, .int .i64 vi, .string vs, .bool false, .int .i64 vi, .string vs, .int .i64 0, .bool false] by unfold gone; rw [if_neg (by simp), hk]; rfl)
    clear hk
    rw [HE.out]
    go_enter Tryd.func18, Tryd.ntmps18
    go_wp2_with (go_at_call 28; refine (HN.out _).mono ?_; rintro e w' ⟨rfl, rfl⟩)
    refine bodyPost_ret (v := .agg #[.int .i64 1, .bool false, .bool false, .int .i64 vi, .string vs, .bool false, .int .i64 vi, .string vs, .int .i64 0, .bool false]) (results_cell_row rfl _ _ (w.heap.size + 1) 28 _ (0, 0) _ rfl (heap_mid w _ _ _ _) Tryd.underlying28 rfl (by rw [gstats_size]; rfl)) rfl ?_
    exact ⟨rfl, below_three w _ _ _⟩
end Go.Proofs.YtgbmppdbahjjhaaDoor

/- The program's contracts of layer 17: tally and its closures. -/



namespace Go.Proofs.YtgbmppdbahjjhaaDoor

open Go.RowKit

/-- What a tally knows that was made where n blocks lay: of which kind, what is known so far, and the sum t so far. -/
structure Tallied (w : World) (n : Nat) (k : Int) (s : GS) (t : Int) : Prop where
  kind : Row w n 3 [.int .i64 k]
  know : Row w (n + 1) 28 (gcells s)
  sums : Summed w (n + 3) (n + 2) t
  sum : Row w (n + 4) 47 [sumV (n + 3) (n + 2)]
  tot : Row w (n + 5) 48 [totV (n + 3) (n + 2)]
def addV (n : Nat) : Value := .func (.func 25) #[] #[.pointer (some ⟨n + 1, 0, none⟩), .pointer (some ⟨n + 4, 0, none⟩)]
def toldV (n : Nat) : Value := .func (.func 27) #[] #[.pointer (some ⟨n + 1, 0, none⟩), .pointer (some ⟨n + 5, 0, none⟩), .pointer (some ⟨n, 0, none⟩)]
theorem run_storeF {P : Program} {w : World} (a : Addr) (m : Mode) (f : Fn) (x y : Array Value) : (store a (.func f x y) m).run P w = stored P w a (.func f x y) m := run_store P w a _ m rfl
set_option maxHeartbeats 2000000 in
set_option maxRecDepth 100000 in
theorem gtally_any (k : Int) (w : World) : Calls Tryd.prog 17 #[.int .i64 k] w
    fun e w' => e = .returned (.tuple #[addV w.heap.size, toldV w.heap.size]) ∧ Tallied w' w.heap.size k gnone 0 ∧ Below w.heap.size w w' := by
  obtain ⟨w1, hw1⟩ : ∃ w1, w1 = (w.alloc (.cells #[.int .i64 k] 3)).alloc (.cells #[.int .i64 0, .bool false, .bool true, .int .i64 0, .string ⟨#[]⟩, .bool true, .int .i64 0, .string ⟨#[]⟩, .int .i64 0, .bool false] 28) := ⟨_, rfl⟩
  have z1 : w1.heap.size = w.heap.size + 2 := by rw [hw1]; simp
  have r0 : Row w1 w.heap.size 3 [.int .i64 k] := by rw [hw1]; exact (show Row (w.alloc _) _ _ _ from heap_alloc_new w _).alloc _
  have r1 : Row w1 (w.heap.size + 1) 28 (gcells gnone) := by
    rw [hw1]
    have h := heap_alloc_new (w.alloc (.cells #[.int .i64 k] 3)) (.cells #[.int .i64 0, .bool false, .bool true, .int .i64 0, .string ⟨#[]⟩, .bool true, .int .i64 0, .string ⟨#[]⟩, .int .i64 0, .bool false] 28)
    rw [show (w.alloc (.cells #[.int .i64 k] 3)).heap.size = w.heap.size + 1 by simp] at h
    exact h
  have b1 : Below w.heap.size w w1 := by rw [hw1]; exact ((Below.refl _ _).alloc (Nat.le_refl _) _).alloc (by simp) _
  have HA : Hid (Calls Tryd.prog 24 #[] w1 fun e w' => e = .returned (.tuple #[sumV (w.heap.size + 3) (w.heap.size + 2), totV (w.heap.size + 3) (w.heap.size + 2)]) ∧ Summed w' (w.heap.size + 3) (w.heap.size + 2) 0 ∧ Below w.heap.size w w' ∧ w'.heap.size = w.heap.size + 4 ∧ Row w' w.heap.size 3 [.int .i64 k] ∧ Row w' (w.heap.size + 1) 28 (gcells gnone)) := Lib.hid (by
    refine (gadder_any w1).mono ?_
    rintro e w' ⟨h1, h2, h3, h4⟩
    rw [z1] at h1 h2
    exact ⟨h1, h2, below_then b1 h3, by omega, r0.below h3 r0.lt, r1.below h3 r1.lt⟩)
  have HW := Lib.hid hw1
  clear z1 r0 r1 b1
  subst hw1
  unfold sumV totV at HA
  unfold addV toldV
  go_enter Tryd.func17, Tryd.ntmps17
  go_wp2_with fail
  refine HA.out.mono ?_
  rintro e w2 ⟨rfl, hs2, hb2, hz2, hk2, hg2⟩
  have HS2 := Lib.hid hs2
  have HB2 := Lib.hid hb2
  have HK2 := Lib.hid hk2
  have HG2 := Lib.hid hg2
  have HZ2 := Lib.hid hz2
  clear hs2 hb2 hk2 hg2 hz2
  go_wp2_with (simp [go_sem, run_storeF])
  simp only [HZ2.out]
  go_ret2
  have h4 : Row ((w2.alloc (.cells #[sumV (w.heap.size + 3) (w.heap.size + 2)] 47)).alloc (.cells #[totV (w.heap.size + 3) (w.heap.size + 2)] 48)) (w.heap.size + 4) 47 [sumV (w.heap.size + 3) (w.heap.size + 2)] := by
    rw [← HZ2.out]
    exact (show Row (w2.alloc _) _ _ _ from heap_alloc_new w2 _).alloc _
  have h5 : Row ((w2.alloc (.cells #[sumV (w.heap.size + 3) (w.heap.size + 2)] 47)).alloc (.cells #[totV (w.heap.size + 3) (w.heap.size + 2)] 48)) (w.heap.size + 5) 48 [totV (w.heap.size + 3) (w.heap.size + 2)] := by
    have h := heap_alloc_new (w2.alloc (.cells #[sumV (w.heap.size + 3) (w.heap.size + 2)] 47)) (.cells #[totV (w.heap.size + 3) (w.heap.size + 2)] 48)
    rw [show (w2.alloc (.cells #[sumV (w.heap.size + 3) (w.heap.size + 2)] 47)).heap.size = w.heap.size + 5 by simp [HZ2.out]] at h
    exact h
  exact ⟨rfl, ⟨(HK2.out.alloc _).alloc _, (HG2.out.alloc _).alloc _, ⟨(HS2.out.low.alloc _).alloc _, (HS2.out.high.alloc _).alloc _, HS2.out.ne⟩, h4, h5⟩, (HB2.out.alloc HB2.out.size _).alloc (by have := HB2.out.size; simp; omega) _⟩
/-- A tally lasts where old memory does. -/
theorem Tallied.below {w w' : World} {n B : Nat} {k t : Int} {s : GS} (h : Tallied w n k s t) (hb : Below B w w') (hB : n + 6 ≤ B) : Tallied w' n k s t :=
  ⟨h.kind.below hb (by omega), h.know.below hb (by omega), ⟨h.sums.low.below hb (by omega), h.sums.high.below hb (by omega), h.sums.ne⟩, h.sum.below hb (by omega), h.tot.below hb (by omega)⟩
theorem Tallied.lt {w : World} {n : Nat} {k t : Int} {s : GS} (h : Tallied w n k s t) : n + 6 ≤ w.heap.size := by have := h.tot.lt; omega
end Go.Proofs.YtgbmppdbahjjhaaDoor

/- The program's contracts of layer 17: what a tally adds. Written by gen_gaddc.py. -/





namespace Go.Proofs.YtgbmppdbahjjhaaDoor

open Go.RowKit

/-- What is known stored anew, all else as it was. -/
theorem Tallied.anew {w w' : World} {n : Nat} {k t : Int} {s s' : GS} (h : Tallied w n k s t) (hr : Row w' (n + 1) 28 (gcells s')) (hk : ∀ j ty l, j ≠ n + 1 → Row w j ty l → Row w' j ty l) : Tallied w' n k s' t :=
  ⟨hk _ _ _ (by omega) h.kind, hr, ⟨hk _ _ _ (by omega) h.sums.low, hk _ _ _ (by omega) h.sums.high, h.sums.ne⟩, hk _ _ _ (by omega) h.sum, hk _ _ _ (by omega) h.tot⟩
theorem Tallied.set_ {w : World} {n : Nat} {k t : Int} {s s' : GS} (h : Tallied w n k s t) (i : Nat) (u : Value) (he : (gcells s).set i u = gcells s') : Tallied (w.setCell ⟨n + 1, i, none⟩ u) n k s' t :=
  h.anew (by rw [← he]; exact h.know.set_ i u) fun _ _ _ hj hr => hr.far (p := ⟨n + 1, i, none⟩) hj u
set_option maxHeartbeats 8000000 in
set_option maxRecDepth 100000 in
theorem gaddC_any (n : Nat) (k t : Int) (s p : GS) (w : World) (hT : Tallied w n k s t) (hs : 0 ≤ s.count ∧ s.count ≤ 2000000) (hp : 0 ≤ p.count ∧ p.count ≤ 2000000) (hps : -9223372036854775808 ≤ p.sum ∧ p.sum ≤ 9223372036854775807) :
    Calls Tryd.prog 25 #[gsv p, .pointer (some ⟨n + 1, 0, none⟩), .pointer (some ⟨n + 4, 0, none⟩)] w
      fun e w' => e = .returned (.tuple #[]) ∧ Tallied w' n k (gadd s p) (t + p.sum) ∧ Below n w w' := by
  obtain ⟨sc, sh, ⟨mb, mn, ms⟩, ⟨xb, xn, xs⟩, ss, so⟩ := s
  obtain ⟨pc, ph, ⟨pmb, pmn, pms⟩, ⟨pxb, pxn, pxs⟩, ps, po⟩ := p
  dsimp only at hs hp hps
  have HZ := Lib.hid hT.lt
  have hc1 : sc + pc ≤ 9223372036854775807 := by omega
  have hc2 : -9223372036854775808 ≤ sc + pc := by omega
  have HPS := Lib.hid hps
  obtain ⟨w0, hw0⟩ : ∃ w0, w0 = w.alloc (.cells #[.int .i64 pc, .bool ph, .bool pmb, .int .i64 pmn, .string pms, .bool pxb, .int .i64 pxn, .string pxs, .int .i64 ps, .bool po] 28) := ⟨_, rfl⟩
  have hb0 : Below w.heap.size w w0 := by rw [hw0]; exact (Below.refl _ _).alloc (Nat.le_refl _) _
  have HP0 := Lib.hid (show Row w0 w.heap.size 28 [.int .i64 pc, .bool ph, .bool pmb, .int .i64 pmn, .string pms, .bool pxb, .int .i64 pxn, .string pxs, .int .i64 ps, .bool po] by rw [hw0]; exact heap_alloc_new w _)
  have HB0 := Lib.hid (hb0.mono (show n ≤ w.heap.size by have := HZ.out; omega))
  have HT0 := Lib.hid (hT.below hb0 HZ.out)
  have hset0 := hw0.symm
  have HFM := Lib.hid (fun W => gfarther_any (-1) ⟨mb, mn, ms⟩ ⟨pmb, pmn, pms⟩ W)
  have HFX := Lib.hid (fun W => gfarther_any 1 ⟨xb, xn, xs⟩ ⟨pxb, pxn, pxs⟩ W)
  have HGM := Lib.hid (show gadd ⟨sc, sh, ⟨mb, mn, ms⟩, ⟨xb, xn, xs⟩, ss, so⟩ ⟨pc, ph, ⟨pmb, pmn, pms⟩, ⟨pxb, pxn, pxs⟩, ps, po⟩ = ⟨sc + pc, sh || ph, gfar (-1) ⟨mb, mn, ms⟩ ⟨pmb, pmn, pms⟩, gfar 1 ⟨xb, xn, xs⟩ ⟨pxb, pxn, pxs⟩, ss, so || po⟩ from rfl)
  obtain ⟨lo, hlo⟩ : ∃ x, x = gfar (-1) ⟨mb, mn, ms⟩ ⟨pmb, pmn, pms⟩ := ⟨_, rfl⟩
  obtain ⟨hi, hhi⟩ : ∃ x, x = gfar 1 ⟨xb, xn, xs⟩ ⟨pxb, pxn, pxs⟩ := ⟨_, rfl⟩
  rw [← hlo] at HFM HGM
  rw [← hhi] at HFX HGM
  rw [HGM.out]
  obtain ⟨lb, ln, ls⟩ := lo
  obtain ⟨ub, un, us⟩ := hi
  dsimp only
  clear hT hs hp hps hw0 hb0 hlo hhi HGM
  unfold cv at HFM HFX
  unfold gsv gcells
  go_enter Tryd.func25, Tryd.ntmps25
  cases sh with
  | false =>
    cases so with
    | false =>
      obtain ⟨w1, hw1⟩ : ∃ w1, w1 = w0.setCell ⟨n + 1, 0, none⟩ (.int .i64 (sc + pc)) := ⟨_, rfl⟩
      have hT1 : Tallied w1 n k ⟨(sc + pc), false, ⟨mb, mn, ms⟩, ⟨xb, xn, xs⟩, ss, false⟩ t := by rw [hw1]; exact HT0.out.set_ 0 _ rfl
      have hP1 : Row w1 w.heap.size 28 [.int .i64 pc, .bool ph, .bool pmb, .int .i64 pmn, .string pms, .bool pxb, .int .i64 pxn, .string pxs, .int .i64 ps, .bool po] := by rw [hw1]; exact HP0.out.far (p := ⟨n + 1, 0, none⟩) (by have := HZ.out; show w.heap.size ≠ n + 1; omega) _
      have hB1 : Below n w w1 := by rw [hw1]; exact HB0.out.setCell (p := ⟨n + 1, 0, none⟩) (Nat.le_succ n) _
      obtain ⟨w2, hw2⟩ : ∃ w2, w2 = w1.setCell ⟨n + 1, 1, none⟩ (.bool ph) := ⟨_, rfl⟩
      have hT2 : Tallied w2 n k ⟨(sc + pc), ph, ⟨mb, mn, ms⟩, ⟨xb, xn, xs⟩, ss, false⟩ t := by rw [hw2]; exact hT1.set_ 1 _ rfl
      have hP2 : Row w2 w.heap.size 28 [.int .i64 pc, .bool ph, .bool pmb, .int .i64 pmn, .string pms, .bool pxb, .int .i64 pxn, .string pxs, .int .i64 ps, .bool po] := by rw [hw2]; exact hP1.far (p := ⟨n + 1, 1, none⟩) (by have := HZ.out; show w.heap.size ≠ n + 1; omega) _
      have hB2 : Below n w w2 := by rw [hw2]; exact hB1.setCell (p := ⟨n + 1, 1, none⟩) (Nat.le_succ n) _
      have k0 : w0.cell? ⟨n + 1, 0, none⟩ = some (.int .i64 sc) := HT0.out.know.cell 0
      have g0 : w0.frozen? ⟨n + 1, 0, none⟩ = false := HT0.out.know.free 0
      have p0 : w0.cell? ⟨w.heap.size, 0, none⟩ = some (.int .i64 pc) := HP0.out.cell 0
      have k1 : w1.cell? ⟨n + 1, 1, none⟩ = some (.bool false) := hT1.know.cell 1
      have g1 : w1.frozen? ⟨n + 1, 1, none⟩ = false := hT1.know.free 1
      have p1 : w1.cell? ⟨w.heap.size, 1, none⟩ = some (.bool ph) := hP1.cell 1
      have k2 : w2.cell? ⟨n + 1, 2, none⟩ = some (.bool mb) := hT2.know.cell 2
      have k3 : w2.cell? ⟨n + 1, 3, none⟩ = some (.int .i64 mn) := hT2.know.cell 3
      have k4 : w2.cell? ⟨n + 1, 4, none⟩ = some (.string ms) := hT2.know.cell 4
      have p2 : w2.cell? ⟨w.heap.size, 2, none⟩ = some (.bool pmb) := hP2.cell 2
      have p3 : w2.cell? ⟨w.heap.size, 3, none⟩ = some (.int .i64 pmn) := hP2.cell 3
      have p4 : w2.cell? ⟨w.heap.size, 4, none⟩ = some (.string pms) := hP2.cell 4
      have hset1 := hw1.symm
      have hset2 := hw2.symm
      have HT2 := Lib.hid hT2
      have HP2 := Lib.hid hP2
      have HB2 := Lib.hid hB2
      clear hw1 hw2 hT1 hT2 hP1 hP2 hB1 hB2
      go_wp2_with fail
      refine (HFM.out _).mono ?_
      rintro e w3 ⟨rfl, hb3⟩
      have HT3 := Lib.hid (HT2.out.below hb3 HT2.out.lt)
      have HP3 := Lib.hid (HP2.out.below hb3 HP2.out.lt)
      have HB3 := Lib.hid (HB2.out.trans (hb3.mono (by have := HT2.out.lt; omega)))
      clear hb3 hset1 hset2 k0 g0 p0 k1 g1 p1 k2 k3 k4 p2 p3 p4
      go_wp2_with (refine wpList_storeW rfl _ _ _ rfl (n + 1) 2 28 (gcells ⟨(sc + pc), ph, ⟨mb, mn, ms⟩, ⟨xb, xn, xs⟩, ss, false⟩) (kcells ⟨lb, ln, ls⟩) (gcells ⟨(sc + pc), ph, ⟨lb, ln, ls⟩, ⟨xb, xn, xs⟩, ss, false⟩) rfl rfl rfl HT3.out.know gval_size (by simp [gcells, kcells]) (kcells_one _) w n HB3.out (Nat.le_succ n) ?_)
      intro w4 hr4 hb4 hk4
      have HT4 := Lib.hid (HT3.out.anew hr4 hk4)
      have HP4 := Lib.hid (hk4 _ _ _ (by have := HZ.out; omega) HP3.out)
      have HB4 := Lib.hid hb4
      clear hr4 hb4 hk4
      have k5 : w4.cell? ⟨n + 1, 5, none⟩ = some (.bool xb) := HT4.out.know.cell 5
      have k6 : w4.cell? ⟨n + 1, 6, none⟩ = some (.int .i64 xn) := HT4.out.know.cell 6
      have k7 : w4.cell? ⟨n + 1, 7, none⟩ = some (.string xs) := HT4.out.know.cell 7
      have p5 : w4.cell? ⟨w.heap.size, 5, none⟩ = some (.bool pxb) := HP4.out.cell 5
      have p6 : w4.cell? ⟨w.heap.size, 6, none⟩ = some (.int .i64 pxn) := HP4.out.cell 6
      have p7 : w4.cell? ⟨w.heap.size, 7, none⟩ = some (.string pxs) := HP4.out.cell 7
      go_wp2_with fail
      refine (HFX.out _).mono ?_
      rintro e w5 ⟨rfl, hb5⟩
      have HT5 := Lib.hid (HT4.out.below hb5 HT4.out.lt)
      have HP5 := Lib.hid (HP4.out.below hb5 HP4.out.lt)
      have HB5 := Lib.hid (HB4.out.trans (hb5.mono (by have := HT4.out.lt; omega)))
      clear hb5 k5 k6 k7 p5 p6 p7
      go_wp2_with (refine wpList_storeW rfl _ _ _ rfl (n + 1) 5 28 (gcells ⟨(sc + pc), ph, ⟨lb, ln, ls⟩, ⟨xb, xn, xs⟩, ss, false⟩) (kcells ⟨ub, un, us⟩) (gcells ⟨(sc + pc), ph, ⟨lb, ln, ls⟩, ⟨ub, un, us⟩, ss, false⟩) rfl rfl rfl HT5.out.know gval_size (by simp [gcells, kcells]) (kcells_one _) w n HB5.out (Nat.le_succ n) ?_)
      intro w6 hr6 hb6 hk6
      have HT6 := Lib.hid (HT5.out.anew hr6 hk6)
      have HP6 := Lib.hid (hk6 _ _ _ (by have := HZ.out; omega) HP5.out)
      have HB6 := Lib.hid hb6
      clear hr6 hb6 hk6
      obtain ⟨w7, hw7⟩ : ∃ w7, w7 = w6.setCell ⟨n + 1, 9, none⟩ (.bool po) := ⟨_, rfl⟩
      have HT7 := Lib.hid (show Tallied w7 n k ⟨(sc + pc), ph, ⟨lb, ln, ls⟩, ⟨ub, un, us⟩, ss, po⟩ t by rw [hw7]; exact HT6.out.set_ 9 _ rfl)
      have HP7 := Lib.hid (show Row w7 w.heap.size 28 [.int .i64 pc, .bool ph, .bool pmb, .int .i64 pmn, .string pms, .bool pxb, .int .i64 pxn, .string pxs, .int .i64 ps, .bool po] by rw [hw7]; exact HP6.out.far (p := ⟨n + 1, 9, none⟩) (by have := HZ.out; show w.heap.size ≠ n + 1; omega) _)
      have HB7 := Lib.hid (show Below n w w7 by rw [hw7]; exact HB6.out.setCell (p := ⟨n + 1, 9, none⟩) (Nat.le_succ n) _)
      have k9 : w6.cell? ⟨n + 1, 9, none⟩ = some (.bool false) := HT6.out.know.cell 9
      have g9 : w6.frozen? ⟨n + 1, 9, none⟩ = false := HT6.out.know.free 9
      have p9 : w6.cell? ⟨w.heap.size, 9, none⟩ = some (.bool po) := HP6.out.cell 9
      have p8 : w7.cell? ⟨w.heap.size, 8, none⟩ = some (.int .i64 ps) := HP7.out.cell 8
      have s4 : w7.cell? ⟨n + 4, 0, none⟩ = some (.func (.func 32) #[] #[.pointer (some ⟨n + 3, 0, none⟩), .pointer (some ⟨n + 2, 0, none⟩)]) := HT7.out.sum.cell 0
      have hset7 := hw7.symm
      have HS := Lib.hid (gsum1_any ps t (n + 3) (n + 2) w7 HPS.out HT7.out.sums)
      clear hw7
      go_wp2_with fail
      refine HS.out.mono ?_
      rintro e w8 ⟨rfl, hs8, hk8, hb8⟩
      have HT8 := Lib.hid (Tallied.mk (hk8 _ _ _ (by omega) (by omega) HT7.out.kind) (hk8 _ _ _ (by omega) (by omega) HT7.out.know) hs8 (hk8 _ _ _ (by omega) (by omega) HT7.out.sum) (hk8 _ _ _ (by omega) (by omega) HT7.out.tot))
      have HB8 := Lib.hid (HB7.out.trans (hb8 n (by omega) (by omega) (by have := HT7.out.lt; omega)))
      clear hs8 hk8 hb8 hset7 k9 g9 p9 p8 s4
      go_wp2
      go_end0
      exact ⟨rfl, HT8.out, HB8.out⟩
    | true =>
      obtain ⟨w1, hw1⟩ : ∃ w1, w1 = w0.setCell ⟨n + 1, 0, none⟩ (.int .i64 (sc + pc)) := ⟨_, rfl⟩
      have hT1 : Tallied w1 n k ⟨(sc + pc), false, ⟨mb, mn, ms⟩, ⟨xb, xn, xs⟩, ss, true⟩ t := by rw [hw1]; exact HT0.out.set_ 0 _ rfl
      have hP1 : Row w1 w.heap.size 28 [.int .i64 pc, .bool ph, .bool pmb, .int .i64 pmn, .string pms, .bool pxb, .int .i64 pxn, .string pxs, .int .i64 ps, .bool po] := by rw [hw1]; exact HP0.out.far (p := ⟨n + 1, 0, none⟩) (by have := HZ.out; show w.heap.size ≠ n + 1; omega) _
      have hB1 : Below n w w1 := by rw [hw1]; exact HB0.out.setCell (p := ⟨n + 1, 0, none⟩) (Nat.le_succ n) _
      obtain ⟨w2, hw2⟩ : ∃ w2, w2 = w1.setCell ⟨n + 1, 1, none⟩ (.bool ph) := ⟨_, rfl⟩
      have hT2 : Tallied w2 n k ⟨(sc + pc), ph, ⟨mb, mn, ms⟩, ⟨xb, xn, xs⟩, ss, true⟩ t := by rw [hw2]; exact hT1.set_ 1 _ rfl
      have hP2 : Row w2 w.heap.size 28 [.int .i64 pc, .bool ph, .bool pmb, .int .i64 pmn, .string pms, .bool pxb, .int .i64 pxn, .string pxs, .int .i64 ps, .bool po] := by rw [hw2]; exact hP1.far (p := ⟨n + 1, 1, none⟩) (by have := HZ.out; show w.heap.size ≠ n + 1; omega) _
      have hB2 : Below n w w2 := by rw [hw2]; exact hB1.setCell (p := ⟨n + 1, 1, none⟩) (Nat.le_succ n) _
      have k0 : w0.cell? ⟨n + 1, 0, none⟩ = some (.int .i64 sc) := HT0.out.know.cell 0
      have g0 : w0.frozen? ⟨n + 1, 0, none⟩ = false := HT0.out.know.free 0
      have p0 : w0.cell? ⟨w.heap.size, 0, none⟩ = some (.int .i64 pc) := HP0.out.cell 0
      have k1 : w1.cell? ⟨n + 1, 1, none⟩ = some (.bool false) := hT1.know.cell 1
      have g1 : w1.frozen? ⟨n + 1, 1, none⟩ = false := hT1.know.free 1
      have p1 : w1.cell? ⟨w.heap.size, 1, none⟩ = some (.bool ph) := hP1.cell 1
      have k2 : w2.cell? ⟨n + 1, 2, none⟩ = some (.bool mb) := hT2.know.cell 2
      have k3 : w2.cell? ⟨n + 1, 3, none⟩ = some (.int .i64 mn) := hT2.know.cell 3
      have k4 : w2.cell? ⟨n + 1, 4, none⟩ = some (.string ms) := hT2.know.cell 4
      have p2 : w2.cell? ⟨w.heap.size, 2, none⟩ = some (.bool pmb) := hP2.cell 2
      have p3 : w2.cell? ⟨w.heap.size, 3, none⟩ = some (.int .i64 pmn) := hP2.cell 3
      have p4 : w2.cell? ⟨w.heap.size, 4, none⟩ = some (.string pms) := hP2.cell 4
      have hset1 := hw1.symm
      have hset2 := hw2.symm
      have HT2 := Lib.hid hT2
      have HP2 := Lib.hid hP2
      have HB2 := Lib.hid hB2
      clear hw1 hw2 hT1 hT2 hP1 hP2 hB1 hB2
      go_wp2_with fail
      refine (HFM.out _).mono ?_
      rintro e w3 ⟨rfl, hb3⟩
      have HT3 := Lib.hid (HT2.out.below hb3 HT2.out.lt)
      have HP3 := Lib.hid (HP2.out.below hb3 HP2.out.lt)
      have HB3 := Lib.hid (HB2.out.trans (hb3.mono (by have := HT2.out.lt; omega)))
      clear hb3 hset1 hset2 k0 g0 p0 k1 g1 p1 k2 k3 k4 p2 p3 p4
      go_wp2_with (refine wpList_storeW rfl _ _ _ rfl (n + 1) 2 28 (gcells ⟨(sc + pc), ph, ⟨mb, mn, ms⟩, ⟨xb, xn, xs⟩, ss, true⟩) (kcells ⟨lb, ln, ls⟩) (gcells ⟨(sc + pc), ph, ⟨lb, ln, ls⟩, ⟨xb, xn, xs⟩, ss, true⟩) rfl rfl rfl HT3.out.know gval_size (by simp [gcells, kcells]) (kcells_one _) w n HB3.out (Nat.le_succ n) ?_)
      intro w4 hr4 hb4 hk4
      have HT4 := Lib.hid (HT3.out.anew hr4 hk4)
      have HP4 := Lib.hid (hk4 _ _ _ (by have := HZ.out; omega) HP3.out)
      have HB4 := Lib.hid hb4
      clear hr4 hb4 hk4
      have k5 : w4.cell? ⟨n + 1, 5, none⟩ = some (.bool xb) := HT4.out.know.cell 5
      have k6 : w4.cell? ⟨n + 1, 6, none⟩ = some (.int .i64 xn) := HT4.out.know.cell 6
      have k7 : w4.cell? ⟨n + 1, 7, none⟩ = some (.string xs) := HT4.out.know.cell 7
      have p5 : w4.cell? ⟨w.heap.size, 5, none⟩ = some (.bool pxb) := HP4.out.cell 5
      have p6 : w4.cell? ⟨w.heap.size, 6, none⟩ = some (.int .i64 pxn) := HP4.out.cell 6
      have p7 : w4.cell? ⟨w.heap.size, 7, none⟩ = some (.string pxs) := HP4.out.cell 7
      go_wp2_with fail
      refine (HFX.out _).mono ?_
      rintro e w5 ⟨rfl, hb5⟩
      have HT5 := Lib.hid (HT4.out.below hb5 HT4.out.lt)
      have HP5 := Lib.hid (HP4.out.below hb5 HP4.out.lt)
      have HB5 := Lib.hid (HB4.out.trans (hb5.mono (by have := HT4.out.lt; omega)))
      clear hb5 k5 k6 k7 p5 p6 p7
      go_wp2_with (refine wpList_storeW rfl _ _ _ rfl (n + 1) 5 28 (gcells ⟨(sc + pc), ph, ⟨lb, ln, ls⟩, ⟨xb, xn, xs⟩, ss, true⟩) (kcells ⟨ub, un, us⟩) (gcells ⟨(sc + pc), ph, ⟨lb, ln, ls⟩, ⟨ub, un, us⟩, ss, true⟩) rfl rfl rfl HT5.out.know gval_size (by simp [gcells, kcells]) (kcells_one _) w n HB5.out (Nat.le_succ n) ?_)
      intro w6 hr6 hb6 hk6
      have HT6 := Lib.hid (HT5.out.anew hr6 hk6)
      have HP6 := Lib.hid (hk6 _ _ _ (by have := HZ.out; omega) HP5.out)
      have HB6 := Lib.hid hb6
      clear hr6 hb6 hk6
      obtain ⟨w7, hw7⟩ : ∃ w7, w7 = w6.setCell ⟨n + 1, 9, none⟩ (.bool true) := ⟨_, rfl⟩
      have HT7 := Lib.hid (show Tallied w7 n k ⟨(sc + pc), ph, ⟨lb, ln, ls⟩, ⟨ub, un, us⟩, ss, true⟩ t by rw [hw7]; exact HT6.out.set_ 9 _ rfl)
      have HP7 := Lib.hid (show Row w7 w.heap.size 28 [.int .i64 pc, .bool ph, .bool pmb, .int .i64 pmn, .string pms, .bool pxb, .int .i64 pxn, .string pxs, .int .i64 ps, .bool po] by rw [hw7]; exact HP6.out.far (p := ⟨n + 1, 9, none⟩) (by have := HZ.out; show w.heap.size ≠ n + 1; omega) _)
      have HB7 := Lib.hid (show Below n w w7 by rw [hw7]; exact HB6.out.setCell (p := ⟨n + 1, 9, none⟩) (Nat.le_succ n) _)
      have k9 : w6.cell? ⟨n + 1, 9, none⟩ = some (.bool true) := HT6.out.know.cell 9
      have g9 : w6.frozen? ⟨n + 1, 9, none⟩ = false := HT6.out.know.free 9
      have p9 : w6.cell? ⟨w.heap.size, 9, none⟩ = some (.bool po) := HP6.out.cell 9
      have p8 : w7.cell? ⟨w.heap.size, 8, none⟩ = some (.int .i64 ps) := HP7.out.cell 8
      have s4 : w7.cell? ⟨n + 4, 0, none⟩ = some (.func (.func 32) #[] #[.pointer (some ⟨n + 3, 0, none⟩), .pointer (some ⟨n + 2, 0, none⟩)]) := HT7.out.sum.cell 0
      have hset7 := hw7.symm
      have HS := Lib.hid (gsum1_any ps t (n + 3) (n + 2) w7 HPS.out HT7.out.sums)
      clear hw7
      go_wp2_with fail
      refine HS.out.mono ?_
      rintro e w8 ⟨rfl, hs8, hk8, hb8⟩
      have HT8 := Lib.hid (Tallied.mk (hk8 _ _ _ (by omega) (by omega) HT7.out.kind) (hk8 _ _ _ (by omega) (by omega) HT7.out.know) hs8 (hk8 _ _ _ (by omega) (by omega) HT7.out.sum) (hk8 _ _ _ (by omega) (by omega) HT7.out.tot))
      have HB8 := Lib.hid (HB7.out.trans (hb8 n (by omega) (by omega) (by have := HT7.out.lt; omega)))
      clear hs8 hk8 hb8 hset7 k9 g9 p9 p8 s4
      go_wp2
      go_end0
      exact ⟨rfl, HT8.out, HB8.out⟩
  | true =>
    cases so with
    | false =>
      obtain ⟨w1, hw1⟩ : ∃ w1, w1 = w0.setCell ⟨n + 1, 0, none⟩ (.int .i64 (sc + pc)) := ⟨_, rfl⟩
      have hT1 : Tallied w1 n k ⟨(sc + pc), true, ⟨mb, mn, ms⟩, ⟨xb, xn, xs⟩, ss, false⟩ t := by rw [hw1]; exact HT0.out.set_ 0 _ rfl
      have hP1 : Row w1 w.heap.size 28 [.int .i64 pc, .bool ph, .bool pmb, .int .i64 pmn, .string pms, .bool pxb, .int .i64 pxn, .string pxs, .int .i64 ps, .bool po] := by rw [hw1]; exact HP0.out.far (p := ⟨n + 1, 0, none⟩) (by have := HZ.out; show w.heap.size ≠ n + 1; omega) _
      have hB1 : Below n w w1 := by rw [hw1]; exact HB0.out.setCell (p := ⟨n + 1, 0, none⟩) (Nat.le_succ n) _
      obtain ⟨w2, hw2⟩ : ∃ w2, w2 = w1.setCell ⟨n + 1, 1, none⟩ (.bool true) := ⟨_, rfl⟩
      have hT2 : Tallied w2 n k ⟨(sc + pc), true, ⟨mb, mn, ms⟩, ⟨xb, xn, xs⟩, ss, false⟩ t := by rw [hw2]; exact hT1.set_ 1 _ rfl
      have hP2 : Row w2 w.heap.size 28 [.int .i64 pc, .bool ph, .bool pmb, .int .i64 pmn, .string pms, .bool pxb, .int .i64 pxn, .string pxs, .int .i64 ps, .bool po] := by rw [hw2]; exact hP1.far (p := ⟨n + 1, 1, none⟩) (by have := HZ.out; show w.heap.size ≠ n + 1; omega) _
      have hB2 : Below n w w2 := by rw [hw2]; exact hB1.setCell (p := ⟨n + 1, 1, none⟩) (Nat.le_succ n) _
      have k0 : w0.cell? ⟨n + 1, 0, none⟩ = some (.int .i64 sc) := HT0.out.know.cell 0
      have g0 : w0.frozen? ⟨n + 1, 0, none⟩ = false := HT0.out.know.free 0
      have p0 : w0.cell? ⟨w.heap.size, 0, none⟩ = some (.int .i64 pc) := HP0.out.cell 0
      have k1 : w1.cell? ⟨n + 1, 1, none⟩ = some (.bool true) := hT1.know.cell 1
      have g1 : w1.frozen? ⟨n + 1, 1, none⟩ = false := hT1.know.free 1
      have p1 : w1.cell? ⟨w.heap.size, 1, none⟩ = some (.bool ph) := hP1.cell 1
      have k2 : w2.cell? ⟨n + 1, 2, none⟩ = some (.bool mb) := hT2.know.cell 2
      have k3 : w2.cell? ⟨n + 1, 3, none⟩ = some (.int .i64 mn) := hT2.know.cell 3
      have k4 : w2.cell? ⟨n + 1, 4, none⟩ = some (.string ms) := hT2.know.cell 4
      have p2 : w2.cell? ⟨w.heap.size, 2, none⟩ = some (.bool pmb) := hP2.cell 2
      have p3 : w2.cell? ⟨w.heap.size, 3, none⟩ = some (.int .i64 pmn) := hP2.cell 3
      have p4 : w2.cell? ⟨w.heap.size, 4, none⟩ = some (.string pms) := hP2.cell 4
      have hset1 := hw1.symm
      have hset2 := hw2.symm
      have HT2 := Lib.hid hT2
      have HP2 := Lib.hid hP2
      have HB2 := Lib.hid hB2
      clear hw1 hw2 hT1 hT2 hP1 hP2 hB1 hB2
      go_wp2_with fail
      refine (HFM.out _).mono ?_
      rintro e w3 ⟨rfl, hb3⟩
      have HT3 := Lib.hid (HT2.out.below hb3 HT2.out.lt)
      have HP3 := Lib.hid (HP2.out.below hb3 HP2.out.lt)
      have HB3 := Lib.hid (HB2.out.trans (hb3.mono (by have := HT2.out.lt; omega)))
      clear hb3 hset1 hset2 k0 g0 p0 k1 g1 p1 k2 k3 k4 p2 p3 p4
      go_wp2_with (refine wpList_storeW rfl _ _ _ rfl (n + 1) 2 28 (gcells ⟨(sc + pc), true, ⟨mb, mn, ms⟩, ⟨xb, xn, xs⟩, ss, false⟩) (kcells ⟨lb, ln, ls⟩) (gcells ⟨(sc + pc), true, ⟨lb, ln, ls⟩, ⟨xb, xn, xs⟩, ss, false⟩) rfl rfl rfl HT3.out.know gval_size (by simp [gcells, kcells]) (kcells_one _) w n HB3.out (Nat.le_succ n) ?_)
      intro w4 hr4 hb4 hk4
      have HT4 := Lib.hid (HT3.out.anew hr4 hk4)
      have HP4 := Lib.hid (hk4 _ _ _ (by have := HZ.out; omega) HP3.out)
      have HB4 := Lib.hid hb4
      clear hr4 hb4 hk4
      have k5 : w4.cell? ⟨n + 1, 5, none⟩ = some (.bool xb) := HT4.out.know.cell 5
      have k6 : w4.cell? ⟨n + 1, 6, none⟩ = some (.int .i64 xn) := HT4.out.know.cell 6
      have k7 : w4.cell? ⟨n + 1, 7, none⟩ = some (.string xs) := HT4.out.know.cell 7
      have p5 : w4.cell? ⟨w.heap.size, 5, none⟩ = some (.bool pxb) := HP4.out.cell 5
      have p6 : w4.cell? ⟨w.heap.size, 6, none⟩ = some (.int .i64 pxn) := HP4.out.cell 6
      have p7 : w4.cell? ⟨w.heap.size, 7, none⟩ = some (.string pxs) := HP4.out.cell 7
      go_wp2_with fail
      refine (HFX.out _).mono ?_
      rintro e w5 ⟨rfl, hb5⟩
      have HT5 := Lib.hid (HT4.out.below hb5 HT4.out.lt)
      have HP5 := Lib.hid (HP4.out.below hb5 HP4.out.lt)
      have HB5 := Lib.hid (HB4.out.trans (hb5.mono (by have := HT4.out.lt; omega)))
      clear hb5 k5 k6 k7 p5 p6 p7
      go_wp2_with (refine wpList_storeW rfl _ _ _ rfl (n + 1) 5 28 (gcells ⟨(sc + pc), true, ⟨lb, ln, ls⟩, ⟨xb, xn, xs⟩, ss, false⟩) (kcells ⟨ub, un, us⟩) (gcells ⟨(sc + pc), true, ⟨lb, ln, ls⟩, ⟨ub, un, us⟩, ss, false⟩) rfl rfl rfl HT5.out.know gval_size (by simp [gcells, kcells]) (kcells_one _) w n HB5.out (Nat.le_succ n) ?_)
      intro w6 hr6 hb6 hk6
      have HT6 := Lib.hid (HT5.out.anew hr6 hk6)
      have HP6 := Lib.hid (hk6 _ _ _ (by have := HZ.out; omega) HP5.out)
      have HB6 := Lib.hid hb6
      clear hr6 hb6 hk6
      obtain ⟨w7, hw7⟩ : ∃ w7, w7 = w6.setCell ⟨n + 1, 9, none⟩ (.bool po) := ⟨_, rfl⟩
      have HT7 := Lib.hid (show Tallied w7 n k ⟨(sc + pc), true, ⟨lb, ln, ls⟩, ⟨ub, un, us⟩, ss, po⟩ t by rw [hw7]; exact HT6.out.set_ 9 _ rfl)
      have HP7 := Lib.hid (show Row w7 w.heap.size 28 [.int .i64 pc, .bool ph, .bool pmb, .int .i64 pmn, .string pms, .bool pxb, .int .i64 pxn, .string pxs, .int .i64 ps, .bool po] by rw [hw7]; exact HP6.out.far (p := ⟨n + 1, 9, none⟩) (by have := HZ.out; show w.heap.size ≠ n + 1; omega) _)
      have HB7 := Lib.hid (show Below n w w7 by rw [hw7]; exact HB6.out.setCell (p := ⟨n + 1, 9, none⟩) (Nat.le_succ n) _)
      have k9 : w6.cell? ⟨n + 1, 9, none⟩ = some (.bool false) := HT6.out.know.cell 9
      have g9 : w6.frozen? ⟨n + 1, 9, none⟩ = false := HT6.out.know.free 9
      have p9 : w6.cell? ⟨w.heap.size, 9, none⟩ = some (.bool po) := HP6.out.cell 9
      have p8 : w7.cell? ⟨w.heap.size, 8, none⟩ = some (.int .i64 ps) := HP7.out.cell 8
      have s4 : w7.cell? ⟨n + 4, 0, none⟩ = some (.func (.func 32) #[] #[.pointer (some ⟨n + 3, 0, none⟩), .pointer (some ⟨n + 2, 0, none⟩)]) := HT7.out.sum.cell 0
      have hset7 := hw7.symm
      have HS := Lib.hid (gsum1_any ps t (n + 3) (n + 2) w7 HPS.out HT7.out.sums)
      clear hw7
      go_wp2_with fail
      refine HS.out.mono ?_
      rintro e w8 ⟨rfl, hs8, hk8, hb8⟩
      have HT8 := Lib.hid (Tallied.mk (hk8 _ _ _ (by omega) (by omega) HT7.out.kind) (hk8 _ _ _ (by omega) (by omega) HT7.out.know) hs8 (hk8 _ _ _ (by omega) (by omega) HT7.out.sum) (hk8 _ _ _ (by omega) (by omega) HT7.out.tot))
      have HB8 := Lib.hid (HB7.out.trans (hb8 n (by omega) (by omega) (by have := HT7.out.lt; omega)))
      clear hs8 hk8 hb8 hset7 k9 g9 p9 p8 s4
      go_wp2
      go_end0
      exact ⟨rfl, HT8.out, HB8.out⟩
    | true =>
      obtain ⟨w1, hw1⟩ : ∃ w1, w1 = w0.setCell ⟨n + 1, 0, none⟩ (.int .i64 (sc + pc)) := ⟨_, rfl⟩
      have hT1 : Tallied w1 n k ⟨(sc + pc), true, ⟨mb, mn, ms⟩, ⟨xb, xn, xs⟩, ss, true⟩ t := by rw [hw1]; exact HT0.out.set_ 0 _ rfl
      have hP1 : Row w1 w.heap.size 28 [.int .i64 pc, .bool ph, .bool pmb, .int .i64 pmn, .string pms, .bool pxb, .int .i64 pxn, .string pxs, .int .i64 ps, .bool po] := by rw [hw1]; exact HP0.out.far (p := ⟨n + 1, 0, none⟩) (by have := HZ.out; show w.heap.size ≠ n + 1; omega) _
      have hB1 : Below n w w1 := by rw [hw1]; exact HB0.out.setCell (p := ⟨n + 1, 0, none⟩) (Nat.le_succ n) _
      obtain ⟨w2, hw2⟩ : ∃ w2, w2 = w1.setCell ⟨n + 1, 1, none⟩ (.bool true) := ⟨_, rfl⟩
      have hT2 : Tallied w2 n k ⟨(sc + pc), true, ⟨mb, mn, ms⟩, ⟨xb, xn, xs⟩, ss, true⟩ t := by rw [hw2]; exact hT1.set_ 1 _ rfl
      have hP2 : Row w2 w.heap.size 28 [.int .i64 pc, .bool ph, .bool pmb, .int .i64 pmn, .string pms, .bool pxb, .int .i64 pxn, .string pxs, .int .i64 ps, .bool po] := by rw [hw2]; exact hP1.far (p := ⟨n + 1, 1, none⟩) (by have := HZ.out; show w.heap.size ≠ n + 1; omega) _
      have hB2 : Below n w w2 := by rw [hw2]; exact hB1.setCell (p := ⟨n + 1, 1, none⟩) (Nat.le_succ n) _
      have k0 : w0.cell? ⟨n + 1, 0, none⟩ = some (.int .i64 sc) := HT0.out.know.cell 0
      have g0 : w0.frozen? ⟨n + 1, 0, none⟩ = false := HT0.out.know.free 0
      have p0 : w0.cell? ⟨w.heap.size, 0, none⟩ = some (.int .i64 pc) := HP0.out.cell 0
      have k1 : w1.cell? ⟨n + 1, 1, none⟩ = some (.bool true) := hT1.know.cell 1
      have g1 : w1.frozen? ⟨n + 1, 1, none⟩ = false := hT1.know.free 1
      have p1 : w1.cell? ⟨w.heap.size, 1, none⟩ = some (.bool ph) := hP1.cell 1
      have k2 : w2.cell? ⟨n + 1, 2, none⟩ = some (.bool mb) := hT2.know.cell 2
      have k3 : w2.cell? ⟨n + 1, 3, none⟩ = some (.int .i64 mn) := hT2.know.cell 3
      have k4 : w2.cell? ⟨n + 1, 4, none⟩ = some (.string ms) := hT2.know.cell 4
      have p2 : w2.cell? ⟨w.heap.size, 2, none⟩ = some (.bool pmb) := hP2.cell 2
      have p3 : w2.cell? ⟨w.heap.size, 3, none⟩ = some (.int .i64 pmn) := hP2.cell 3
      have p4 : w2.cell? ⟨w.heap.size, 4, none⟩ = some (.string pms) := hP2.cell 4
      have hset1 := hw1.symm
      have hset2 := hw2.symm
      have HT2 := Lib.hid hT2
      have HP2 := Lib.hid hP2
      have HB2 := Lib.hid hB2
      clear hw1 hw2 hT1 hT2 hP1 hP2 hB1 hB2
      go_wp2_with fail
      refine (HFM.out _).mono ?_
      rintro e w3 ⟨rfl, hb3⟩
      have HT3 := Lib.hid (HT2.out.below hb3 HT2.out.lt)
      have HP3 := Lib.hid (HP2.out.below hb3 HP2.out.lt)
      have HB3 := Lib.hid (HB2.out.trans (hb3.mono (by have := HT2.out.lt; omega)))
      clear hb3 hset1 hset2 k0 g0 p0 k1 g1 p1 k2 k3 k4 p2 p3 p4
      go_wp2_with (refine wpList_storeW rfl _ _ _ rfl (n + 1) 2 28 (gcells ⟨(sc + pc), true, ⟨mb, mn, ms⟩, ⟨xb, xn, xs⟩, ss, true⟩) (kcells ⟨lb, ln, ls⟩) (gcells ⟨(sc + pc), true, ⟨lb, ln, ls⟩, ⟨xb, xn, xs⟩, ss, true⟩) rfl rfl rfl HT3.out.know gval_size (by simp [gcells, kcells]) (kcells_one _) w n HB3.out (Nat.le_succ n) ?_)
      intro w4 hr4 hb4 hk4
      have HT4 := Lib.hid (HT3.out.anew hr4 hk4)
      have HP4 := Lib.hid (hk4 _ _ _ (by have := HZ.out; omega) HP3.out)
      have HB4 := Lib.hid hb4
      clear hr4 hb4 hk4
      have k5 : w4.cell? ⟨n + 1, 5, none⟩ = some (.bool xb) := HT4.out.know.cell 5
      have k6 : w4.cell? ⟨n + 1, 6, none⟩ = some (.int .i64 xn) := HT4.out.know.cell 6
      have k7 : w4.cell? ⟨n + 1, 7, none⟩ = some (.string xs) := HT4.out.know.cell 7
      have p5 : w4.cell? ⟨w.heap.size, 5, none⟩ = some (.bool pxb) := HP4.out.cell 5
      have p6 : w4.cell? ⟨w.heap.size, 6, none⟩ = some (.int .i64 pxn) := HP4.out.cell 6
      have p7 : w4.cell? ⟨w.heap.size, 7, none⟩ = some (.string pxs) := HP4.out.cell 7
      go_wp2_with fail
      refine (HFX.out _).mono ?_
      rintro e w5 ⟨rfl, hb5⟩
      have HT5 := Lib.hid (HT4.out.below hb5 HT4.out.lt)
      have HP5 := Lib.hid (HP4.out.below hb5 HP4.out.lt)
      have HB5 := Lib.hid (HB4.out.trans (hb5.mono (by have := HT4.out.lt; omega)))
      clear hb5 k5 k6 k7 p5 p6 p7
      go_wp2_with (refine wpList_storeW rfl _ _ _ rfl (n + 1) 5 28 (gcells ⟨(sc + pc), true, ⟨lb, ln, ls⟩, ⟨xb, xn, xs⟩, ss, true⟩) (kcells ⟨ub, un, us⟩) (gcells ⟨(sc + pc), true, ⟨lb, ln, ls⟩, ⟨ub, un, us⟩, ss, true⟩) rfl rfl rfl HT5.out.know gval_size (by simp [gcells, kcells]) (kcells_one _) w n HB5.out (Nat.le_succ n) ?_)
      intro w6 hr6 hb6 hk6
      have HT6 := Lib.hid (HT5.out.anew hr6 hk6)
      have HP6 := Lib.hid (hk6 _ _ _ (by have := HZ.out; omega) HP5.out)
      have HB6 := Lib.hid hb6
      clear hr6 hb6 hk6
      obtain ⟨w7, hw7⟩ : ∃ w7, w7 = w6.setCell ⟨n + 1, 9, none⟩ (.bool true) := ⟨_, rfl⟩
      have HT7 := Lib.hid (show Tallied w7 n k ⟨(sc + pc), true, ⟨lb, ln, ls⟩, ⟨ub, un, us⟩, ss, true⟩ t by rw [hw7]; exact HT6.out.set_ 9 _ rfl)
      have HP7 := Lib.hid (show Row w7 w.heap.size 28 [.int .i64 pc, .bool ph, .bool pmb, .int .i64 pmn, .string pms, .bool pxb, .int .i64 pxn, .string pxs, .int .i64 ps, .bool po] by rw [hw7]; exact HP6.out.far (p := ⟨n + 1, 9, none⟩) (by have := HZ.out; show w.heap.size ≠ n + 1; omega) _)
      have HB7 := Lib.hid (show Below n w w7 by rw [hw7]; exact HB6.out.setCell (p := ⟨n + 1, 9, none⟩) (Nat.le_succ n) _)
      have k9 : w6.cell? ⟨n + 1, 9, none⟩ = some (.bool true) := HT6.out.know.cell 9
      have g9 : w6.frozen? ⟨n + 1, 9, none⟩ = false := HT6.out.know.free 9
      have p9 : w6.cell? ⟨w.heap.size, 9, none⟩ = some (.bool po) := HP6.out.cell 9
      have p8 : w7.cell? ⟨w.heap.size, 8, none⟩ = some (.int .i64 ps) := HP7.out.cell 8
      have s4 : w7.cell? ⟨n + 4, 0, none⟩ = some (.func (.func 32) #[] #[.pointer (some ⟨n + 3, 0, none⟩), .pointer (some ⟨n + 2, 0, none⟩)]) := HT7.out.sum.cell 0
      have hset7 := hw7.symm
      have HS := Lib.hid (gsum1_any ps t (n + 3) (n + 2) w7 HPS.out HT7.out.sums)
      clear hw7
      go_wp2_with fail
      refine HS.out.mono ?_
      rintro e w8 ⟨rfl, hs8, hk8, hb8⟩
      have HT8 := Lib.hid (Tallied.mk (hk8 _ _ _ (by omega) (by omega) HT7.out.kind) (hk8 _ _ _ (by omega) (by omega) HT7.out.know) hs8 (hk8 _ _ _ (by omega) (by omega) HT7.out.sum) (hk8 _ _ _ (by omega) (by omega) HT7.out.tot))
      have HB8 := Lib.hid (HB7.out.trans (hb8 n (by omega) (by omega) (by have := HT7.out.lt; omega)))
      clear hs8 hk8 hb8 hset7 k9 g9 p9 p8 s4
      go_wp2
      go_end0
      exact ⟨rfl, HT8.out, HB8.out⟩
end Go.Proofs.YtgbmppdbahjjhaaDoor

/- The program's contracts of layer 17: what a tally tells. Written by gen_gtold.py. -/



namespace Go.Proofs.YtgbmppdbahjjhaaDoor

open Go.RowKit

set_option maxHeartbeats 8000000 in
set_option maxRecDepth 100000 in
theorem gtoldC_any (n : Nat) (k t : Int) (s : GS) (w : World) (hT : Tallied w n k s t) (ht : -85070591730234615865843651857942052864 ≤ t ∧ t ≤ 85070591730234615865843651857942052864) (hk0 : knumber k = false → gfits t = true) :
    Calls Tryd.prog 27 #[.pointer (some ⟨n + 1, 0, none⟩), .pointer (some ⟨n + 5, 0, none⟩), .pointer (some ⟨n, 0, none⟩)] w
      fun e w' => e = .returned (gsv (gtold k s t)) ∧ Below w.heap.size w w' := by
  obtain ⟨sc, sh, ⟨mb, mn, ms⟩, ⟨xb, xn, xs⟩, ss, so⟩ := s
  obtain ⟨w2, hw2⟩ : ∃ w2, w2 = (w.alloc (.cells #[.int .i64 0, .bool false, .bool false, .int .i64 0, .string ⟨#[]⟩, .bool false, .int .i64 0, .string ⟨#[]⟩, .int .i64 0, .bool false] 28)).alloc (.cells #[.int .i64 sc, .bool sh, .bool mb, .int .i64 mn, .string ms, .bool xb, .int .i64 xn, .string xs, .int .i64 ss, .bool so] 28) := ⟨_, rfl⟩
  have hb2 : Below w.heap.size w w2 := by rw [hw2]; exact ((Below.refl _ _).alloc (Nat.le_refl _) _).alloc (by simp) _
  have HB2 := Lib.hid hb2
  have HT2 := Lib.hid (hT.below hb2 hT.lt)
  have HA2 := Lib.hid (show Row w2 w.heap.size 28 [.int .i64 0, .bool false, .bool false, .int .i64 0, .string ⟨#[]⟩, .bool false, .int .i64 0, .string ⟨#[]⟩, .int .i64 0, .bool false] by rw [hw2]; exact (show Row (w.alloc _) _ _ _ from heap_alloc_new w _).alloc _)
  have HG2 := Lib.hid (show Row w2 (w.heap.size + 1) 28 [.int .i64 sc, .bool sh, .bool mb, .int .i64 mn, .string ms, .bool xb, .int .i64 xn, .string xs, .int .i64 ss, .bool so] by
    rw [hw2]
    have h := heap_alloc_new (w.alloc (.cells #[.int .i64 0, .bool false, .bool false, .int .i64 0, .string ⟨#[]⟩, .bool false, .int .i64 0, .string ⟨#[]⟩, .int .i64 0, .bool false] 28)) (.cells #[.int .i64 sc, .bool sh, .bool mb, .int .i64 mn, .string ms, .bool xb, .int .i64 xn, .string xs, .int .i64 ss, .bool so] 28)
    rw [show (w.alloc (.cells #[.int .i64 0, .bool false, .bool false, .int .i64 0, .string ⟨#[]⟩, .bool false, .int .i64 0, .string ⟨#[]⟩, .int .i64 0, .bool false] 28)).heap.size = w.heap.size + 1 by simp] at h
    exact h)
  have HS := Lib.hid (gsum2_any t (n + 3) (n + 2) w2 ht HT2.out.sums)
  have HN := Lib.hid (fun W => knumber_own k W)
  have HT := Lib.hid (fun h : gfits t = true => gint_fits h)
  have HK0 := Lib.hid hk0
  obtain ⟨it, hit⟩ : ∃ it, it = gint t := ⟨_, rfl⟩
  rw [← hit] at HS HT
  have q0 : (w.alloc (.cells #[.int .i64 0, .bool false, .bool false, .int .i64 0, .string ⟨#[]⟩, .bool false, .int .i64 0, .string ⟨#[]⟩, .int .i64 0, .bool false] 28)).cell? ⟨n + 1, 0, none⟩ = some (.int .i64 sc) := (hT.know.alloc _).cell 0
  have q1 : (w.alloc (.cells #[.int .i64 0, .bool false, .bool false, .int .i64 0, .string ⟨#[]⟩, .bool false, .int .i64 0, .string ⟨#[]⟩, .int .i64 0, .bool false] 28)).cell? ⟨n + 1, 1, none⟩ = some (.bool sh) := (hT.know.alloc _).cell 1
  have q2 : (w.alloc (.cells #[.int .i64 0, .bool false, .bool false, .int .i64 0, .string ⟨#[]⟩, .bool false, .int .i64 0, .string ⟨#[]⟩, .int .i64 0, .bool false] 28)).cell? ⟨n + 1, 2, none⟩ = some (.bool mb) := (hT.know.alloc _).cell 2
  have q3 : (w.alloc (.cells #[.int .i64 0, .bool false, .bool false, .int .i64 0, .string ⟨#[]⟩, .bool false, .int .i64 0, .string ⟨#[]⟩, .int .i64 0, .bool false] 28)).cell? ⟨n + 1, 3, none⟩ = some (.int .i64 mn) := (hT.know.alloc _).cell 3
  have q4 : (w.alloc (.cells #[.int .i64 0, .bool false, .bool false, .int .i64 0, .string ⟨#[]⟩, .bool false, .int .i64 0, .string ⟨#[]⟩, .int .i64 0, .bool false] 28)).cell? ⟨n + 1, 4, none⟩ = some (.string ms) := (hT.know.alloc _).cell 4
  have q5 : (w.alloc (.cells #[.int .i64 0, .bool false, .bool false, .int .i64 0, .string ⟨#[]⟩, .bool false, .int .i64 0, .string ⟨#[]⟩, .int .i64 0, .bool false] 28)).cell? ⟨n + 1, 5, none⟩ = some (.bool xb) := (hT.know.alloc _).cell 5
  have q6 : (w.alloc (.cells #[.int .i64 0, .bool false, .bool false, .int .i64 0, .string ⟨#[]⟩, .bool false, .int .i64 0, .string ⟨#[]⟩, .int .i64 0, .bool false] 28)).cell? ⟨n + 1, 6, none⟩ = some (.int .i64 xn) := (hT.know.alloc _).cell 6
  have q7 : (w.alloc (.cells #[.int .i64 0, .bool false, .bool false, .int .i64 0, .string ⟨#[]⟩, .bool false, .int .i64 0, .string ⟨#[]⟩, .int .i64 0, .bool false] 28)).cell? ⟨n + 1, 7, none⟩ = some (.string xs) := (hT.know.alloc _).cell 7
  have q8 : (w.alloc (.cells #[.int .i64 0, .bool false, .bool false, .int .i64 0, .string ⟨#[]⟩, .bool false, .int .i64 0, .string ⟨#[]⟩, .int .i64 0, .bool false] 28)).cell? ⟨n + 1, 8, none⟩ = some (.int .i64 ss) := (hT.know.alloc _).cell 8
  have q9 : (w.alloc (.cells #[.int .i64 0, .bool false, .bool false, .int .i64 0, .string ⟨#[]⟩, .bool false, .int .i64 0, .string ⟨#[]⟩, .int .i64 0, .bool false] 28)).cell? ⟨n + 1, 9, none⟩ = some (.bool so) := (hT.know.alloc _).cell 9
  have q5' : w2.cell? ⟨n + 5, 0, none⟩ = some (.func (.func 34) #[] #[.pointer (some ⟨n + 3, 0, none⟩), .pointer (some ⟨n + 2, 0, none⟩)]) := HT2.out.tot.cell 0
  have hset2 := hw2.symm
  clear hT ht hk0 hit hw2 hb2
  go_enter Tryd.func27, Tryd.ntmps27
  cases so with
  | true =>
    have HE := Lib.hid (show gtold k ⟨sc, sh, ⟨mb, mn, ms⟩, ⟨xb, xn, xs⟩, ss, true⟩ t = ⟨sc, sh, ⟨mb, mn, ms⟩, ⟨xb, xn, xs⟩, ss, true⟩ from by unfold gtold gov; rfl)
    rw [HE.out]
    clear HE
    go_wp2_with fail
    refine HS.out.mono ?_
    rintro e w3 ⟨rfl, hb3⟩
    have HT3 := Lib.hid (HT2.out.below hb3 HT2.out.lt)
    have HA3 := Lib.hid (HA2.out.below hb3 HA2.out.lt)
    have HG3 := Lib.hid (HG2.out.below hb3 HG2.out.lt)
    have HB3 := Lib.hid (below_then HB2.out hb3)
    have k9 : w3.cell? ⟨n + 1, 9, none⟩ = some (.bool true) := HT3.out.know.cell 9
    have kn : w3.cell? ⟨n, 0, none⟩ = some (.int .i64 k) := HT3.out.kind.cell 0
    obtain ⟨w4, hw4⟩ : ∃ w4, w4 = w3.setCell ⟨w.heap.size + 1, 9, none⟩ (.bool true) := ⟨_, rfl⟩
    have hG4 : Row w4 (w.heap.size + 1) 28 [.int .i64 sc, .bool sh, .bool mb, .int .i64 mn, .string ms, .bool xb, .int .i64 xn, .string xs, .int .i64 ss, .bool true] := by rw [hw4]; exact HG3.out.set_ 9 (.bool true)
    have hA4 : Row w4 w.heap.size 28 [.int .i64 0, .bool false, .bool false, .int .i64 0, .string ⟨#[]⟩, .bool false, .int .i64 0, .string ⟨#[]⟩, .int .i64 0, .bool false] := by rw [hw4]; exact HA3.out.far (p := ⟨w.heap.size + 1, 9, none⟩) (by show w.heap.size ≠ w.heap.size + 1; omega) _
    have hB4 : Below w.heap.size w w4 := by rw [hw4]; exact HB3.out.setCell (p := ⟨w.heap.size + 1, 9, none⟩) (Nat.le_succ _) _
    have g9 : w3.cell? ⟨w.heap.size + 1, 9, none⟩ = some (.bool true) := HG3.out.cell 9
    have f9 : w3.frozen? ⟨w.heap.size + 1, 9, none⟩ = false := HG3.out.free 9
    have hset4 := hw4.symm
    have c0 : w4.cell? ⟨w.heap.size + 1, 0, none⟩ = some (.int .i64 sc) := hG4.cell 0
    have c1 : w4.cell? ⟨w.heap.size + 1, 1, none⟩ = some (.bool sh) := hG4.cell 1
    have c2 : w4.cell? ⟨w.heap.size + 1, 2, none⟩ = some (.bool mb) := hG4.cell 2
    have c3 : w4.cell? ⟨w.heap.size + 1, 3, none⟩ = some (.int .i64 mn) := hG4.cell 3
    have c4 : w4.cell? ⟨w.heap.size + 1, 4, none⟩ = some (.string ms) := hG4.cell 4
    have c5 : w4.cell? ⟨w.heap.size + 1, 5, none⟩ = some (.bool xb) := hG4.cell 5
    have c6 : w4.cell? ⟨w.heap.size + 1, 6, none⟩ = some (.int .i64 xn) := hG4.cell 6
    have c7 : w4.cell? ⟨w.heap.size + 1, 7, none⟩ = some (.string xs) := hG4.cell 7
    have c8 : w4.cell? ⟨w.heap.size + 1, 8, none⟩ = some (.int .i64 ss) := hG4.cell 8
    have c9 : w4.cell? ⟨w.heap.size + 1, 9, none⟩ = some (.bool true) := hG4.cell 9
    have HA4 := Lib.hid hA4
    have HB4 := Lib.hid hB4
    clear hb3 hw4 hG4 hA4 hB4
    go_wp2_with (refine wpList_storeW rfl _ _ _ rfl w.heap.size 0 28 [.int .i64 0, .bool false, .bool false, .int .i64 0, .string ⟨#[]⟩, .bool false, .int .i64 0, .string ⟨#[]⟩, .int .i64 0, .bool false] (gcells ⟨sc, sh, ⟨mb, mn, ms⟩, ⟨xb, xn, xs⟩, ss, true⟩) (gcells ⟨sc, sh, ⟨mb, mn, ms⟩, ⟨xb, xn, xs⟩, ss, true⟩) rfl rfl rfl HA4.out gstats_size (by simp [gcells]) (gstats_one _) w w.heap.size HB4.out (Nat.le_refl _) ?_)
    intro w6 hr6 hb6 _
    have HR6 := Lib.hid hr6
    have HB6 := Lib.hid hb6
    clear hr6 hb6 hset4 k9 kn g9 f9 c0 c1 c2 c3 c4 c5 c6 c7 c8 c9
    go_wp2
    refine bodyPost_ret (results_cell_row rfl _ _ w.heap.size 28 (gcells ⟨sc, sh, ⟨mb, mn, ms⟩, ⟨xb, xn, xs⟩, ss, true⟩).toArray (0, 0) _ rfl HR6.out Tryd.underlying28 rfl (by rw [gstats_size]; rfl)) rfl ?_
    exact ⟨rfl, HB6.out⟩
  | false =>
  cases hn : knumber k with
  | false =>
    have HE := Lib.hid (show gtold k ⟨sc, sh, ⟨mb, mn, ms⟩, ⟨xb, xn, xs⟩, ss, false⟩ t = ⟨sc, sh, ⟨mb, mn, ms⟩, ⟨xb, xn, xs⟩, t, false⟩ from by unfold gtold gov; simp only [hn]; rfl)
    rw [HE.out]
    have HIT := Lib.hid (show it = t from HT.out (HK0.out hn))
    rw [hn] at HN
    clear HE
    clear hn
    subst hset2
    go_wp2_with fail
    refine HS.out.mono ?_
    rintro e w3 ⟨rfl, hb3⟩
    have HT3 := Lib.hid (HT2.out.below hb3 HT2.out.lt)
    have HA3 := Lib.hid (HA2.out.below hb3 HA2.out.lt)
    have HG3 := Lib.hid (HG2.out.below hb3 HG2.out.lt)
    have HB3 := Lib.hid (below_then HB2.out hb3)
    have k9 : w3.cell? ⟨n + 1, 9, none⟩ = some (.bool false) := HT3.out.know.cell 9
    have kn : w3.cell? ⟨n, 0, none⟩ = some (.int .i64 k) := HT3.out.kind.cell 0
    obtain ⟨w4, hw4⟩ : ∃ w4, w4 = w3.setCell ⟨w.heap.size + 1, 9, none⟩ (.bool false) := ⟨_, rfl⟩
    have hG4 : Row w4 (w.heap.size + 1) 28 [.int .i64 sc, .bool sh, .bool mb, .int .i64 mn, .string ms, .bool xb, .int .i64 xn, .string xs, .int .i64 ss, .bool false] := by rw [hw4]; exact HG3.out.set_ 9 (.bool false)
    have hA4 : Row w4 w.heap.size 28 [.int .i64 0, .bool false, .bool false, .int .i64 0, .string ⟨#[]⟩, .bool false, .int .i64 0, .string ⟨#[]⟩, .int .i64 0, .bool false] := by rw [hw4]; exact HA3.out.far (p := ⟨w.heap.size + 1, 9, none⟩) (by show w.heap.size ≠ w.heap.size + 1; omega) _
    have hB4 : Below w.heap.size w w4 := by rw [hw4]; exact HB3.out.setCell (p := ⟨w.heap.size + 1, 9, none⟩) (Nat.le_succ _) _
    have g9 : w3.cell? ⟨w.heap.size + 1, 9, none⟩ = some (.bool false) := HG3.out.cell 9
    have f9 : w3.frozen? ⟨w.heap.size + 1, 9, none⟩ = false := HG3.out.free 9
    have hset4 := hw4.symm
    have v9 : w4.cell? ⟨w.heap.size + 1, 9, none⟩ = some (.bool false) := hG4.cell 9
    have v8 : w4.cell? ⟨w.heap.size + 1, 8, none⟩ = some (.int .i64 ss) := hG4.cell 8
    have f8 : w4.frozen? ⟨w.heap.size + 1, 8, none⟩ = false := hG4.free 8
    obtain ⟨w5, hw5⟩ : ∃ w5, w5 = w4.setCell ⟨w.heap.size + 1, 8, none⟩ (.int .i64 it) := ⟨_, rfl⟩
    have hG5 : Row w5 (w.heap.size + 1) 28 [.int .i64 sc, .bool sh, .bool mb, .int .i64 mn, .string ms, .bool xb, .int .i64 xn, .string xs, .int .i64 it, .bool false] := by rw [hw5]; exact hG4.set_ 8 (.int .i64 it)
    have hA5 : Row w5 w.heap.size 28 [.int .i64 0, .bool false, .bool false, .int .i64 0, .string ⟨#[]⟩, .bool false, .int .i64 0, .string ⟨#[]⟩, .int .i64 0, .bool false] := by rw [hw5]; exact hA4.far (p := ⟨w.heap.size + 1, 8, none⟩) (by show w.heap.size ≠ w.heap.size + 1; omega) _
    have hB5 : Below w.heap.size w w5 := by rw [hw5]; exact hB4.setCell (p := ⟨w.heap.size + 1, 8, none⟩) (Nat.le_succ _) _
    have hset5 := hw5.symm
    have c0 : w5.cell? ⟨w.heap.size + 1, 0, none⟩ = some (.int .i64 sc) := hG5.cell 0
    have c1 : w5.cell? ⟨w.heap.size + 1, 1, none⟩ = some (.bool sh) := hG5.cell 1
    have c2 : w5.cell? ⟨w.heap.size + 1, 2, none⟩ = some (.bool mb) := hG5.cell 2
    have c3 : w5.cell? ⟨w.heap.size + 1, 3, none⟩ = some (.int .i64 mn) := hG5.cell 3
    have c4 : w5.cell? ⟨w.heap.size + 1, 4, none⟩ = some (.string ms) := hG5.cell 4
    have c5 : w5.cell? ⟨w.heap.size + 1, 5, none⟩ = some (.bool xb) := hG5.cell 5
    have c6 : w5.cell? ⟨w.heap.size + 1, 6, none⟩ = some (.int .i64 xn) := hG5.cell 6
    have c7 : w5.cell? ⟨w.heap.size + 1, 7, none⟩ = some (.string xs) := hG5.cell 7
    have c8 : w5.cell? ⟨w.heap.size + 1, 8, none⟩ = some (.int .i64 it) := hG5.cell 8
    have c9 : w5.cell? ⟨w.heap.size + 1, 9, none⟩ = some (.bool false) := hG5.cell 9
    have HA5 := Lib.hid hA5
    have HB5 := Lib.hid hB5
    clear hb3 hw4 hG4 hA4 hB4 hw5 hG5 hA5 hB5
    go_wp2_with (first | (go_at_call 28; refine (HN.out _).mono ?_; rintro e w' ⟨rfl, rfl⟩) | (refine wpList_storeW rfl _ _ _ rfl w.heap.size 0 28 [.int .i64 0, .bool false, .bool false, .int .i64 0, .string ⟨#[]⟩, .bool false, .int .i64 0, .string ⟨#[]⟩, .int .i64 0, .bool false] (gcells ⟨sc, sh, ⟨mb, mn, ms⟩, ⟨xb, xn, xs⟩, it, false⟩) (gcells ⟨sc, sh, ⟨mb, mn, ms⟩, ⟨xb, xn, xs⟩, it, false⟩) rfl rfl rfl HA5.out gstats_size (by simp [gcells]) (gstats_one _) w w.heap.size HB5.out (Nat.le_refl _) ?_))
    intro w6 hr6 hb6 _
    have HR6 := Lib.hid hr6
    have HB6 := Lib.hid hb6
    clear hr6 hb6 hset4 k9 kn g9 f9 c0 c1 c2 c3 c4 c5 c6 c7 c8 c9 hset5 v9 v8 f8
    go_wp2
    refine bodyPost_ret (results_cell_row rfl _ _ w.heap.size 28 (gcells ⟨sc, sh, ⟨mb, mn, ms⟩, ⟨xb, xn, xs⟩, it, false⟩).toArray (0, 0) _ rfl HR6.out Tryd.underlying28 rfl (by rw [gstats_size]; rfl)) rfl ?_
    exact ⟨by rw [HIT.out]; rfl, HB6.out⟩
  | true =>
  cases hf : gfits t with
  | true =>
    have HE := Lib.hid (show gtold k ⟨sc, sh, ⟨mb, mn, ms⟩, ⟨xb, xn, xs⟩, ss, false⟩ t = ⟨sc, sh, ⟨mb, mn, ms⟩, ⟨xb, xn, xs⟩, t, false⟩ from by unfold gtold gov; simp only [hn, hf]; rfl)
    rw [HE.out]
    have HIT := Lib.hid (show it = t from HT.out hf)
    rw [hn] at HN
    rw [hf] at HS
    clear HE
    clear hn hf
    subst hset2
    go_wp2_with fail
    refine HS.out.mono ?_
    rintro e w3 ⟨rfl, hb3⟩
    have HT3 := Lib.hid (HT2.out.below hb3 HT2.out.lt)
    have HA3 := Lib.hid (HA2.out.below hb3 HA2.out.lt)
    have HG3 := Lib.hid (HG2.out.below hb3 HG2.out.lt)
    have HB3 := Lib.hid (below_then HB2.out hb3)
    have k9 : w3.cell? ⟨n + 1, 9, none⟩ = some (.bool false) := HT3.out.know.cell 9
    have kn : w3.cell? ⟨n, 0, none⟩ = some (.int .i64 k) := HT3.out.kind.cell 0
    obtain ⟨w4, hw4⟩ : ∃ w4, w4 = w3.setCell ⟨w.heap.size + 1, 9, none⟩ (.bool false) := ⟨_, rfl⟩
    have hG4 : Row w4 (w.heap.size + 1) 28 [.int .i64 sc, .bool sh, .bool mb, .int .i64 mn, .string ms, .bool xb, .int .i64 xn, .string xs, .int .i64 ss, .bool false] := by rw [hw4]; exact HG3.out.set_ 9 (.bool false)
    have hA4 : Row w4 w.heap.size 28 [.int .i64 0, .bool false, .bool false, .int .i64 0, .string ⟨#[]⟩, .bool false, .int .i64 0, .string ⟨#[]⟩, .int .i64 0, .bool false] := by rw [hw4]; exact HA3.out.far (p := ⟨w.heap.size + 1, 9, none⟩) (by show w.heap.size ≠ w.heap.size + 1; omega) _
    have hB4 : Below w.heap.size w w4 := by rw [hw4]; exact HB3.out.setCell (p := ⟨w.heap.size + 1, 9, none⟩) (Nat.le_succ _) _
    have g9 : w3.cell? ⟨w.heap.size + 1, 9, none⟩ = some (.bool false) := HG3.out.cell 9
    have f9 : w3.frozen? ⟨w.heap.size + 1, 9, none⟩ = false := HG3.out.free 9
    have hset4 := hw4.symm
    have v9 : w4.cell? ⟨w.heap.size + 1, 9, none⟩ = some (.bool false) := hG4.cell 9
    have v8 : w4.cell? ⟨w.heap.size + 1, 8, none⟩ = some (.int .i64 ss) := hG4.cell 8
    have f8 : w4.frozen? ⟨w.heap.size + 1, 8, none⟩ = false := hG4.free 8
    obtain ⟨w5, hw5⟩ : ∃ w5, w5 = w4.setCell ⟨w.heap.size + 1, 8, none⟩ (.int .i64 it) := ⟨_, rfl⟩
    have hG5 : Row w5 (w.heap.size + 1) 28 [.int .i64 sc, .bool sh, .bool mb, .int .i64 mn, .string ms, .bool xb, .int .i64 xn, .string xs, .int .i64 it, .bool false] := by rw [hw5]; exact hG4.set_ 8 (.int .i64 it)
    have hA5 : Row w5 w.heap.size 28 [.int .i64 0, .bool false, .bool false, .int .i64 0, .string ⟨#[]⟩, .bool false, .int .i64 0, .string ⟨#[]⟩, .int .i64 0, .bool false] := by rw [hw5]; exact hA4.far (p := ⟨w.heap.size + 1, 8, none⟩) (by show w.heap.size ≠ w.heap.size + 1; omega) _
    have hB5 : Below w.heap.size w w5 := by rw [hw5]; exact hB4.setCell (p := ⟨w.heap.size + 1, 8, none⟩) (Nat.le_succ _) _
    have hset5 := hw5.symm
    have c0 : w5.cell? ⟨w.heap.size + 1, 0, none⟩ = some (.int .i64 sc) := hG5.cell 0
    have c1 : w5.cell? ⟨w.heap.size + 1, 1, none⟩ = some (.bool sh) := hG5.cell 1
    have c2 : w5.cell? ⟨w.heap.size + 1, 2, none⟩ = some (.bool mb) := hG5.cell 2
    have c3 : w5.cell? ⟨w.heap.size + 1, 3, none⟩ = some (.int .i64 mn) := hG5.cell 3
    have c4 : w5.cell? ⟨w.heap.size + 1, 4, none⟩ = some (.string ms) := hG5.cell 4
    have c5 : w5.cell? ⟨w.heap.size + 1, 5, none⟩ = some (.bool xb) := hG5.cell 5
    have c6 : w5.cell? ⟨w.heap.size + 1, 6, none⟩ = some (.int .i64 xn) := hG5.cell 6
    have c7 : w5.cell? ⟨w.heap.size + 1, 7, none⟩ = some (.string xs) := hG5.cell 7
    have c8 : w5.cell? ⟨w.heap.size + 1, 8, none⟩ = some (.int .i64 it) := hG5.cell 8
    have c9 : w5.cell? ⟨w.heap.size + 1, 9, none⟩ = some (.bool false) := hG5.cell 9
    have HA5 := Lib.hid hA5
    have HB5 := Lib.hid hB5
    clear hb3 hw4 hG4 hA4 hB4 hw5 hG5 hA5 hB5
    go_wp2_with (first | (go_at_call 28; refine (HN.out _).mono ?_; rintro e w' ⟨rfl, rfl⟩) | (refine wpList_storeW rfl _ _ _ rfl w.heap.size 0 28 [.int .i64 0, .bool false, .bool false, .int .i64 0, .string ⟨#[]⟩, .bool false, .int .i64 0, .string ⟨#[]⟩, .int .i64 0, .bool false] (gcells ⟨sc, sh, ⟨mb, mn, ms⟩, ⟨xb, xn, xs⟩, it, false⟩) (gcells ⟨sc, sh, ⟨mb, mn, ms⟩, ⟨xb, xn, xs⟩, it, false⟩) rfl rfl rfl HA5.out gstats_size (by simp [gcells]) (gstats_one _) w w.heap.size HB5.out (Nat.le_refl _) ?_))
    intro w6 hr6 hb6 _
    have HR6 := Lib.hid hr6
    have HB6 := Lib.hid hb6
    clear hr6 hb6 hset4 k9 kn g9 f9 c0 c1 c2 c3 c4 c5 c6 c7 c8 c9 hset5 v9 v8 f8
    go_wp2
    refine bodyPost_ret (results_cell_row rfl _ _ w.heap.size 28 (gcells ⟨sc, sh, ⟨mb, mn, ms⟩, ⟨xb, xn, xs⟩, it, false⟩).toArray (0, 0) _ rfl HR6.out Tryd.underlying28 rfl (by rw [gstats_size]; rfl)) rfl ?_
    exact ⟨by rw [HIT.out]; rfl, HB6.out⟩
  | false =>
    have HE := Lib.hid (show gtold k ⟨sc, sh, ⟨mb, mn, ms⟩, ⟨xb, xn, xs⟩, ss, false⟩ t = ⟨sc, sh, ⟨mb, mn, ms⟩, ⟨xb, xn, xs⟩, ss, true⟩ from by unfold gtold gov; simp only [hn, hf]; rfl)
    rw [HE.out]
    rw [hn] at HN
    rw [hf] at HS
    clear HE
    clear hn hf
    subst hset2
    go_wp2_with fail
    refine HS.out.mono ?_
    rintro e w3 ⟨rfl, hb3⟩
    have HT3 := Lib.hid (HT2.out.below hb3 HT2.out.lt)
    have HA3 := Lib.hid (HA2.out.below hb3 HA2.out.lt)
    have HG3 := Lib.hid (HG2.out.below hb3 HG2.out.lt)
    have HB3 := Lib.hid (below_then HB2.out hb3)
    have k9 : w3.cell? ⟨n + 1, 9, none⟩ = some (.bool false) := HT3.out.know.cell 9
    have kn : w3.cell? ⟨n, 0, none⟩ = some (.int .i64 k) := HT3.out.kind.cell 0
    obtain ⟨w4, hw4⟩ : ∃ w4, w4 = w3.setCell ⟨w.heap.size + 1, 9, none⟩ (.bool true) := ⟨_, rfl⟩
    have hG4 : Row w4 (w.heap.size + 1) 28 [.int .i64 sc, .bool sh, .bool mb, .int .i64 mn, .string ms, .bool xb, .int .i64 xn, .string xs, .int .i64 ss, .bool true] := by rw [hw4]; exact HG3.out.set_ 9 (.bool true)
    have hA4 : Row w4 w.heap.size 28 [.int .i64 0, .bool false, .bool false, .int .i64 0, .string ⟨#[]⟩, .bool false, .int .i64 0, .string ⟨#[]⟩, .int .i64 0, .bool false] := by rw [hw4]; exact HA3.out.far (p := ⟨w.heap.size + 1, 9, none⟩) (by show w.heap.size ≠ w.heap.size + 1; omega) _
    have hB4 : Below w.heap.size w w4 := by rw [hw4]; exact HB3.out.setCell (p := ⟨w.heap.size + 1, 9, none⟩) (Nat.le_succ _) _
    have g9 : w3.cell? ⟨w.heap.size + 1, 9, none⟩ = some (.bool false) := HG3.out.cell 9
    have f9 : w3.frozen? ⟨w.heap.size + 1, 9, none⟩ = false := HG3.out.free 9
    have hset4 := hw4.symm
    have c0 : w4.cell? ⟨w.heap.size + 1, 0, none⟩ = some (.int .i64 sc) := hG4.cell 0
    have c1 : w4.cell? ⟨w.heap.size + 1, 1, none⟩ = some (.bool sh) := hG4.cell 1
    have c2 : w4.cell? ⟨w.heap.size + 1, 2, none⟩ = some (.bool mb) := hG4.cell 2
    have c3 : w4.cell? ⟨w.heap.size + 1, 3, none⟩ = some (.int .i64 mn) := hG4.cell 3
    have c4 : w4.cell? ⟨w.heap.size + 1, 4, none⟩ = some (.string ms) := hG4.cell 4
    have c5 : w4.cell? ⟨w.heap.size + 1, 5, none⟩ = some (.bool xb) := hG4.cell 5
    have c6 : w4.cell? ⟨w.heap.size + 1, 6, none⟩ = some (.int .i64 xn) := hG4.cell 6
    have c7 : w4.cell? ⟨w.heap.size + 1, 7, none⟩ = some (.string xs) := hG4.cell 7
    have c8 : w4.cell? ⟨w.heap.size + 1, 8, none⟩ = some (.int .i64 ss) := hG4.cell 8
    have c9 : w4.cell? ⟨w.heap.size + 1, 9, none⟩ = some (.bool true) := hG4.cell 9
    have HA4 := Lib.hid hA4
    have HB4 := Lib.hid hB4
    clear hb3 hw4 hG4 hA4 hB4
    go_wp2_with (first | (go_at_call 28; refine (HN.out _).mono ?_; rintro e w' ⟨rfl, rfl⟩) | (refine wpList_storeW rfl _ _ _ rfl w.heap.size 0 28 [.int .i64 0, .bool false, .bool false, .int .i64 0, .string ⟨#[]⟩, .bool false, .int .i64 0, .string ⟨#[]⟩, .int .i64 0, .bool false] (gcells ⟨sc, sh, ⟨mb, mn, ms⟩, ⟨xb, xn, xs⟩, ss, true⟩) (gcells ⟨sc, sh, ⟨mb, mn, ms⟩, ⟨xb, xn, xs⟩, ss, true⟩) rfl rfl rfl HA4.out gstats_size (by simp [gcells]) (gstats_one _) w w.heap.size HB4.out (Nat.le_refl _) ?_))
    intro w6 hr6 hb6 _
    have HR6 := Lib.hid hr6
    have HB6 := Lib.hid hb6
    clear hr6 hb6 hset4 k9 kn g9 f9 c0 c1 c2 c3 c4 c5 c6 c7 c8 c9
    go_wp2
    refine bodyPost_ret (results_cell_row rfl _ _ w.heap.size 28 (gcells ⟨sc, sh, ⟨mb, mn, ms⟩, ⟨xb, xn, xs⟩, ss, true⟩).toArray (0, 0) _ rfl HR6.out Tryd.underlying28 rfl (by rw [gstats_size]; rfl)) rfl ?_
    exact ⟨rfl, HB6.out⟩
end Go.Proofs.YtgbmppdbahjjhaaDoor

/- The program's contracts of layer 17: Of, Merge. -/







namespace Go.Proofs.YtgbmppdbahjjhaaDoor

open Go.RowKit

def gzero : List Value := [.int .i64 0, .bool false, .bool false, .int .i64 0, .string ⟨#[]⟩, .bool false, .int .i64 0, .string ⟨#[]⟩, .int .i64 0, .bool false]
theorem heap_last (w : World) (o1 o2 : Obj) (cs : Array Value) (ty : TypeId) : (((w.alloc o1).alloc o2).alloc (.cells cs ty)).heap[w.heap.size + 2]? = some (.cells cs ty (0, 0)) := by
  have h := heap_alloc_new ((w.alloc o1).alloc o2) (.cells cs ty)
  rw [show ((w.alloc o1).alloc o2).heap.size = w.heap.size + 2 by simp] at h
  exact h
def GLoop (k : Int) (l : List CV) (w : World) (i : Value) (wr : World) : Prop :=
  ∃ j : Nat, j ≤ l.length ∧ i = .int .i64 (j : Int) ∧ Tallied wr (w.heap.size + 1) k (gpart (l.take j)) (gsums k (l.take j)) ∧ Row wr w.heap.size 28 gzero ∧ Below w.heap.size w wr
theorem gone_count (k : Int) (v : CV) : 0 ≤ (gone k v).count ∧ (gone k v).count ≤ 2000000 := by unfold gone; split <;> exact ⟨by dsimp only; omega, by dsimp only; omega⟩
theorem gone_sum_bd (k : Int) (v : CV) (h : v.inInt) : -9223372036854775808 ≤ (gone k v).sum ∧ (gone k v).sum ≤ 9223372036854775807 := by
  unfold CV.inInt at h
  rw [gone_sum]
  split
  · omega
  · split
    · exact h
    · omega
set_option maxHeartbeats 8000000 in
set_option maxRecDepth 100000 in
theorem gof_own (k : Int) (l : List CV) (v : Value) (w : World) (hv : IsR kcells l v w) (hi : ∀ x ∈ l, x.inInt) (hb : l.length ≤ 1000000) :
    Calls Tryd.prog 9 #[.int .i64 k, v] w fun e w' => e = .returned (gsv (gofE k l)) ∧ Below w.heap.size w w' := by
  obtain ⟨A, n, c, rfl⟩ := hv.shape
  have HN := Lib.hid hv.parts.1
  have HV := Lib.hid hv
  have HI := Lib.hid hi
  have HLB := Lib.hid hb
  have hn6 : n ≤ 1000000 := by have := HN.out; omega
  have HG := Lib.hid (gtold_of k l)
  obtain ⟨w1, hw1⟩ : ∃ w1, w1 = w.alloc (.cells #[.int .i64 0, .bool false, .bool false, .int .i64 0, .string ⟨#[]⟩, .bool false, .int .i64 0, .string ⟨#[]⟩, .int .i64 0, .bool false] 28) := ⟨_, rfl⟩
  have hz1 : w1.heap.size = w.heap.size + 1 := by rw [hw1]; simp
  have hr1 : Row w1 w.heap.size 28 gzero := by rw [hw1]; exact heap_alloc_new w _
  have hb1 : Below w.heap.size w w1 := by rw [hw1]; exact (Below.refl _ _).alloc (Nat.le_refl _) _
  have HTL := Lib.hid ((gtally_any k w1).mono (fun e w' (h : _ ∧ _) => (show e = .returned (.tuple #[addV (w.heap.size + 1), toldV (w.heap.size + 1)]) ∧ GLoop k l w (.int .i64 0) w' from
    ⟨by rw [h.1, hz1], 0, Nat.zero_le _, rfl, by have h2 := h.2.1; rw [hz1] at h2; exact h2, hr1.below h.2.2 hr1.lt, below_then hb1 h.2.2⟩)))
  have hset := hw1.symm
  clear hv hi hb hw1 hz1 hr1 hb1
  unfold addV toldV at HTL
  go_enter Tryd.func9, Tryd.ntmps9
  go_wp2_with fail
  refine HTL.out.mono ?_
  rintro e w2 ⟨rfl, hst⟩
  have HST := Lib.hid hst
  clear hst hset
  go_wp2
  go_loopw [16] (GLoop k l w) (fun i _ => n - (intOf i).toNat)
  case atStart => exact HST.out
  case round =>
    obtain ⟨j, hj, rfl, hT, hz, hbw⟩ := hrel
    have HSTT := HST
    clear HST
    have HT := Lib.hid hT
    have HZ := Lib.hid hz
    have HB := Lib.hid hbw
    have hjn : j ≤ n := by have := HN.out; omega
    have hcb := gpart_count_bd (l.take j)
    rw [List.length_take] at hcb
    have HCB := Lib.hid (show 0 ≤ (gpart (l.take j)).count ∧ (gpart (l.take j)).count ≤ 2000000 by omega)
    clear hT hz hbw hj hcb
    by_cases hlt : j < n
    · have hjl : j < l.length := by have := HN.out; omega
      have hlti : (j : Int) < (n : Int) := by omega
      obtain ⟨ad, rfl, had, hcell⟩ := (HV.out.below HB.out).at (m := 3) (fun _ => rfl) (by omega) hjl
      have HTK := Lib.hid (List.take_succ_eq_append_getElem hjl)
      have HSM := Lib.hid (gsums_next k hjl)
      obtain ⟨x, hx⟩ : ∃ x, x = l[j] := ⟨_, rfl⟩
      have HXI := Lib.hid (show x.inInt by rw [hx]; exact HI.out _ (List.getElem_mem hjl))
      rw [← hx] at hcell
      have HX := Lib.hid hx
      obtain ⟨k0, k1, k2⟩ := cells3 hcell
      obtain ⟨xb8, xn8, xs8⟩ := x
      dsimp only at k0 k1 k2
      obtain ⟨w3, hw3⟩ : ∃ w3, w3 = wr.alloc (.cells #[.bool xb8, .int .i64 xn8, .string xs8] 26) := ⟨_, rfl⟩
      have hb3 : Below wr.heap.size wr w3 := by rw [hw3]; exact (Below.refl _ _).alloc (Nat.le_refl _) _
      have r8 : Row w3 wr.heap.size 26 [.bool xb8, .int .i64 xn8, .string xs8] := by rw [hw3]; exact heap_alloc_new wr _
      have e0 : w3.cell? ⟨wr.heap.size, 0, none⟩ = some (.bool xb8) := r8.cell 0
      have e1 : w3.cell? ⟨wr.heap.size, 1, none⟩ = some (.int .i64 xn8) := r8.cell 1
      have e2 : w3.cell? ⟨wr.heap.size, 2, none⟩ = some (.string xs8) := r8.cell 2
      have HT3 := Lib.hid (HT.out.below hb3 HT.out.lt)
      have HZ3 := Lib.hid (HZ.out.below hb3 HZ.out.lt)
      have HB3 := Lib.hid (below_then HB.out hb3)
      have HO := Lib.hid (gone_any k ⟨xb8, xn8, xs8⟩ w3)
      unfold cv at HO
      have hset := hw3.symm
      clear hb3 r8 hw3 hx hcell
      go_wp2_with fail
      refine HO.out.mono ?_
      rintro e w4 ⟨rfl, hb4⟩
      have HT4 := Lib.hid (HT3.out.below hb4 HT3.out.lt)
      have HZ4 := Lib.hid (HZ3.out.below hb4 HZ3.out.lt)
      have HB4 := Lib.hid (below_then HB3.out hb4)
      have HA := Lib.hid (gaddC_any (w.heap.size + 1) k _ _ (gone k ⟨xb8, xn8, xs8⟩) w4 HT4.out HCB.out (gone_count k _) (gone_sum_bd k _ HXI.out))
      clear hb4 hset e0 e1 e2 k0 k1 k2
      go_wp2_with fail
      refine HA.out.mono ?_
      rintro e w5 ⟨rfl, hT5, hb5⟩
      have HREL := Lib.hid (show GLoop k l w (.int .i64 ((j : Int) + 1)) w5 from ⟨j + 1, hjl, by go_num, by rw [show gpart (l.take (j + 1)) = gadd (gpart (l.take j)) (gone k ⟨xb8, xn8, xs8⟩) by rw [HTK.out, ← HX.out, gadd_part], show gsums k (l.take (j + 1)) = gsums k (l.take j) + (gone k ⟨xb8, xn8, xs8⟩).sum by rw [HSM.out, ← HX.out]]; exact hT5, HZ4.out.below hb5 (Nat.lt_succ_self _), HB4.out.trans (hb5.mono (Nat.le_succ _))⟩)
      clear hT5 hb5
      go_wp2
      go_roundw
      case rel => exact HREL.out
      case measure => simp [intOf]; omega
    · obtain rfl : j = n := by omega
      have hlti : ¬ (j : Int) < (j : Int) := by omega
      have HT3 := Lib.hid (show Tallied wr (w.heap.size + 1) k (gpart l) (gsums k l) by have h := HT.out; rw [List.take_of_length_le (by have := HN.out; omega)] at h; exact h)
      have hsb := gsums_bd k l HI.out
      have HTO := Lib.hid (gtoldC_any (w.heap.size + 1) k _ _ wr HT3.out (by have := HLB.out; omega) (fun h => by rw [gsums_no h]; rfl))
      rw [HG.out] at HTO
      clear hsb
      go_wp2_with fail
      refine HTO.out.mono ?_
      rintro e w5 ⟨rfl, hb5⟩
      have HZ5 := Lib.hid (HZ.out.below hb5 HZ.out.lt)
      have HB5 := Lib.hid (below_then HB.out hb5)
      clear hb5
      go_wp2_with (refine wpList_storeW rfl _ _ _ rfl w.heap.size 0 28 gzero (gcells (gofE k l)) (gcells (gofE k l)) (by simp [gzero, gcells]) rfl rfl HZ5.out gstats_size (by simp [gcells, gzero]) (gstats_one _) w w.heap.size HB5.out (Nat.le_refl _) ?_)
      intro w6 hr6 hb6 _
      have HR6 := Lib.hid hr6
      have HB6 := Lib.hid hb6
      clear hr6 hb6
      go_wp2
      refine bodyPost_ret (results_cell_row rfl _ _ w.heap.size 28 (gcells (gofE k l)).toArray (0, 0) _ rfl HR6.out Tryd.underlying28 rfl (by rw [gstats_size]; rfl)) rfl ?_
      exact ⟨rfl, HB6.out⟩
set_option maxHeartbeats 8000000 in
set_option maxRecDepth 100000 in
theorem gmerge_own (k : Int) (a b : GS) (w : World) (ha : GOk k a) (hb : GOk k b) (hca : 0 ≤ a.count ∧ a.count ≤ 1000000) (hcb : 0 ≤ b.count ∧ b.count ≤ 1000000) (hai : a.inInt) (hbi : b.inInt) :
    Calls Tryd.prog 13 #[.int .i64 k, gsv a, gsv b] w fun e w' => e = .returned (gsv (gmergeE k a b)) ∧ Below w.heap.size w w' := by
  obtain ⟨G, hG⟩ : ∃ G, G = gmergeE k a b := ⟨_, rfl⟩
  have HG := Lib.hid (gtold_merge ha hb)
  rw [← hG] at HG ⊢
  have HK0 := Lib.hid (show knumber k = false → gfits (a.sum + b.sum) = true from fun h => by rw [ha.2.2 h, hb.2.2 h]; rfl)
  obtain ⟨ac, ah, ⟨amb, amn, ams⟩, ⟨axb, axn, axs⟩, asm, ao⟩ := a
  obtain ⟨bc, bh, ⟨bmb, bmn, bms⟩, ⟨bxb, bxn, bxs⟩, bsm, bo⟩ := b
  unfold GS.inInt at hai hbi
  dsimp only at hca hcb hai hbi HK0
  have HAS := Lib.hid hai.2.2.2.2
  have HBS := Lib.hid hbi.2.2.2.2
  have HCA := Lib.hid hca
  have HCB := Lib.hid hcb
  obtain ⟨w1, hw1⟩ : ∃ w1, w1 = ((w.alloc (.cells #[.int .i64 ac, .bool ah, .bool amb, .int .i64 amn, .string ams, .bool axb, .int .i64 axn, .string axs, .int .i64 asm, .bool ao] 28)).alloc (.cells #[.int .i64 bc, .bool bh, .bool bmb, .int .i64 bmn, .string bms, .bool bxb, .int .i64 bxn, .string bxs, .int .i64 bsm, .bool bo] 28)).alloc (.cells #[.int .i64 0, .bool false, .bool false, .int .i64 0, .string ⟨#[]⟩, .bool false, .int .i64 0, .string ⟨#[]⟩, .int .i64 0, .bool false] 28) := ⟨_, rfl⟩
  have hz1 : w1.heap.size = w.heap.size + 3 := by rw [hw1]; simp
  have hrA : Row w1 w.heap.size 28 [.int .i64 ac, .bool ah, .bool amb, .int .i64 amn, .string ams, .bool axb, .int .i64 axn, .string axs, .int .i64 asm, .bool ao] := by rw [hw1]; exact ((show Row (w.alloc _) _ _ _ from heap_alloc_new w _).alloc _).alloc _
  have hrB : Row w1 (w.heap.size + 1) 28 [.int .i64 bc, .bool bh, .bool bmb, .int .i64 bmn, .string bms, .bool bxb, .int .i64 bxn, .string bxs, .int .i64 bsm, .bool bo] := by rw [hw1]; exact heap_mid w _ _ _ _
  have hrZ : Row w1 (w.heap.size + 2) 28 gzero := by rw [hw1]; exact heap_last w _ _ _ _
  have hb1 : Below w.heap.size w w1 := by rw [hw1]; exact below_three w _ _ _
  have HTL := Lib.hid ((gtally_any k w1).mono (fun e w' (h : _ ∧ _) => (show e = .returned (.tuple #[addV (w.heap.size + 3), toldV (w.heap.size + 3)]) ∧ Tallied w' (w.heap.size + 3) k gnone 0 ∧ Row w' w.heap.size 28 [.int .i64 ac, .bool ah, .bool amb, .int .i64 amn, .string ams, .bool axb, .int .i64 axn, .string axs, .int .i64 asm, .bool ao] ∧ Row w' (w.heap.size + 1) 28 [.int .i64 bc, .bool bh, .bool bmb, .int .i64 bmn, .string bms, .bool bxb, .int .i64 bxn, .string bxs, .int .i64 bsm, .bool bo] ∧ Row w' (w.heap.size + 2) 28 gzero ∧ Below w.heap.size w w' from
    ⟨by rw [h.1, hz1], by have h2 := h.2.1; rw [hz1] at h2; exact h2, hrA.below h.2.2 hrA.lt, hrB.below h.2.2 hrB.lt, hrZ.below h.2.2 hrZ.lt, below_then hb1 h.2.2⟩)))
  have hset := hw1.symm
  clear ha hb hca hcb hai hbi hG hw1 hz1 hrA hrB hrZ hb1
  unfold addV toldV at HTL
  unfold gsv gcells
  dsimp only
  go_enter Tryd.func13, Tryd.ntmps13
  go_wp2_with fail
  refine HTL.out.mono ?_
  rintro e w2 ⟨rfl, hT2, hA2, hB2, hZ2, hb2⟩
  have HT2 := Lib.hid hT2
  have HA2 := Lib.hid hA2
  have HB2 := Lib.hid hB2
  have HZ2 := Lib.hid hZ2
  have HW2 := Lib.hid hb2
  clear hT2 hA2 hB2 hZ2 hb2 hset
  have a0 : w2.cell? ⟨w.heap.size, 0, none⟩ = some (.int .i64 ac) := HA2.out.cell 0
  have a1 : w2.cell? ⟨w.heap.size, 1, none⟩ = some (.bool ah) := HA2.out.cell 1
  have a2 : w2.cell? ⟨w.heap.size, 2, none⟩ = some (.bool amb) := HA2.out.cell 2
  have a3 : w2.cell? ⟨w.heap.size, 3, none⟩ = some (.int .i64 amn) := HA2.out.cell 3
  have a4 : w2.cell? ⟨w.heap.size, 4, none⟩ = some (.string ams) := HA2.out.cell 4
  have a5 : w2.cell? ⟨w.heap.size, 5, none⟩ = some (.bool axb) := HA2.out.cell 5
  have a6 : w2.cell? ⟨w.heap.size, 6, none⟩ = some (.int .i64 axn) := HA2.out.cell 6
  have a7 : w2.cell? ⟨w.heap.size, 7, none⟩ = some (.string axs) := HA2.out.cell 7
  have a8 : w2.cell? ⟨w.heap.size, 8, none⟩ = some (.int .i64 asm) := HA2.out.cell 8
  have a9 : w2.cell? ⟨w.heap.size, 9, none⟩ = some (.bool ao) := HA2.out.cell 9
  have HAD := Lib.hid (gaddC_any (w.heap.size + 3) k 0 gnone ⟨ac, ah, ⟨amb, amn, ams⟩, ⟨axb, axn, axs⟩, asm, ao⟩ w2 HT2.out ⟨Int.le_refl _, by decide⟩ (by have := HCA.out; dsimp only; omega) HAS.out)
  unfold gsv gcells at HAD
  dsimp only at HAD
  rw [Int.zero_add] at HAD
  go_wp2_with fail
  refine HAD.out.mono ?_
  rintro e w3 ⟨rfl, hT3, hb3⟩
  have HT3 := Lib.hid hT3
  have HB3 := Lib.hid (HB2.out.below hb3 (by omega))
  have HZ3 := Lib.hid (HZ2.out.below hb3 (by omega))
  have HW3 := Lib.hid (HW2.out.trans (hb3.mono (by omega)))
  clear hT3 hb3 a0 a1 a2 a3 a4 a5 a6 a7 a8 a9
  have b0 : w3.cell? ⟨w.heap.size + 1, 0, none⟩ = some (.int .i64 bc) := HB3.out.cell 0
  have b1 : w3.cell? ⟨w.heap.size + 1, 1, none⟩ = some (.bool bh) := HB3.out.cell 1
  have b2 : w3.cell? ⟨w.heap.size + 1, 2, none⟩ = some (.bool bmb) := HB3.out.cell 2
  have b3 : w3.cell? ⟨w.heap.size + 1, 3, none⟩ = some (.int .i64 bmn) := HB3.out.cell 3
  have b4 : w3.cell? ⟨w.heap.size + 1, 4, none⟩ = some (.string bms) := HB3.out.cell 4
  have b5 : w3.cell? ⟨w.heap.size + 1, 5, none⟩ = some (.bool bxb) := HB3.out.cell 5
  have b6 : w3.cell? ⟨w.heap.size + 1, 6, none⟩ = some (.int .i64 bxn) := HB3.out.cell 6
  have b7 : w3.cell? ⟨w.heap.size + 1, 7, none⟩ = some (.string bxs) := HB3.out.cell 7
  have b8 : w3.cell? ⟨w.heap.size + 1, 8, none⟩ = some (.int .i64 bsm) := HB3.out.cell 8
  have b9 : w3.cell? ⟨w.heap.size + 1, 9, none⟩ = some (.bool bo) := HB3.out.cell 9
  have HBD := Lib.hid (gaddC_any (w.heap.size + 3) k asm (gadd gnone ⟨ac, ah, ⟨amb, amn, ams⟩, ⟨axb, axn, axs⟩, asm, ao⟩) ⟨bc, bh, ⟨bmb, bmn, bms⟩, ⟨bxb, bxn, bxs⟩, bsm, bo⟩ w3 HT3.out (by have := HCA.out; show 0 ≤ 0 + ac ∧ 0 + ac ≤ 2000000; omega) (by have := HCB.out; dsimp only; omega) HBS.out)
  unfold gsv gcells at HBD
  dsimp only at HBD
  go_wp2_with fail
  refine HBD.out.mono ?_
  rintro e w4 ⟨rfl, hT4, hb4⟩
  have HT4 := Lib.hid hT4
  have HZ4 := Lib.hid (HZ3.out.below hb4 (by omega))
  have HW4 := Lib.hid (HW3.out.trans (hb4.mono (by omega)))
  clear hT4 hb4 b0 b1 b2 b3 b4 b5 b6 b7 b8 b9
  have HTO := Lib.hid (gtoldC_any (w.heap.size + 3) k _ _ w4 HT4.out (by have := HAS.out; have := HBS.out; omega) HK0.out)
  try dsimp only at HG
  rw [HG.out] at HTO
  go_wp2_with fail
  refine HTO.out.mono ?_
  rintro e w5 ⟨rfl, hb5⟩
  have HZ5 := Lib.hid (HZ4.out.below hb5 HZ4.out.lt)
  have HB5 := Lib.hid (below_then HW4.out hb5)
  clear hb5
  go_wp2_with (refine wpList_storeW rfl _ _ _ rfl (w.heap.size + 2) 0 28 gzero (gcells G) (gcells G) (by simp [gzero, gcells]) rfl rfl HZ5.out gstats_size (by simp [gcells, gzero]) (gstats_one _) w w.heap.size HB5.out (by omega) ?_)
  intro w6 hr6 hb6 _
  have HR6 := Lib.hid hr6
  have HB6 := Lib.hid hb6
  clear hr6 hb6
  go_wp2
  refine bodyPost_ret (results_cell_row rfl _ _ (w.heap.size + 2) 28 (gcells G).toArray (0, 0) _ rfl HR6.out Tryd.underlying28 rfl (by rw [gstats_size]; rfl)) rfl ?_
  exact ⟨rfl, HB6.out⟩
end Go.Proofs.YtgbmppdbahjjhaaDoor

/- The program's contracts of layer 17: May. Written by gen_gmayo.py. -/



namespace Go.Proofs.YtgbmppdbahjjhaaDoor

open Go.RowKit

def gmayT (k : Int) (s : GS) : Bool := if knumber k = true then ((s.sum == 0) || !s.over) else ((s.sum == 0) && !s.over)
def gmayR (k : Int) (s : GS) : Bool := kmay k s.min && (kmay k s.max && ((s.min.null == (s.count == 0)) && ((s.max.null == (s.count == 0)) && decide (kcmp s.min s.max ≤ 0))))
theorem gmayP_eq (k : Int) (s : GS) : (decide (0 ≤ s.count) && (decide (s.count ≤ 409600) && (gmayR k s && gmayT k s))) = gmayE k s := by
  unfold gmayE
  by_cases h : s.count < 0 ∨ 409600 < s.count ∨ kmay k s.min = false ∨ kmay k s.max = false ∨ s.min.null ≠ decide (s.count = 0) ∨ s.max.null ≠ decide (s.count = 0) ∨ kcmp s.max s.min < 0
  · rw [if_pos h]
    unfold gmayR
    rcases h with h | h | h | h | h | h | h
    · rw [decide_eq_false (show ¬ 0 ≤ s.count by omega)]; rfl
    · rw [decide_eq_false (show ¬ s.count ≤ 409600 by omega)]; simp
    · rw [h]; simp
    · rw [h]; simp
    · rw [show (s.min.null == (s.count == 0)) = false by rw [show (s.count == 0) = decide (s.count = 0) from rfl]; simpa using h]; simp
    · rw [show (s.max.null == (s.count == 0)) = false by rw [show (s.count == 0) = decide (s.count = 0) from rfl]; simpa using h]; simp
    · rw [decide_eq_false (show ¬ kcmp s.min s.max ≤ 0 by have := kcmp_neg s.max s.min; omega)]; simp
  · rw [if_neg h]
    simp only [not_or] at h
    obtain ⟨h1, h2, h3, h4, h5, h6, h7⟩ := h
    unfold gmayR gmayT
    rw [decide_eq_true (show 0 ≤ s.count by omega), decide_eq_true (show s.count ≤ 409600 by omega), show kmay k s.min = true by simpa using h3, show kmay k s.max = true by simpa using h4, show (s.min.null == (s.count == 0)) = true by rw [show (s.count == 0) = decide (s.count = 0) from rfl]; simpa using h5, show (s.max.null == (s.count == 0)) = true by rw [show (s.count == 0) = decide (s.count = 0) from rfl]; simpa using h6, decide_eq_true (show kcmp s.min s.max ≤ 0 by have := kcmp_neg s.max s.min; omega)]
    cases knumber k <;> cases (s.sum == 0) <;> cases s.over <;> rfl
set_option maxHeartbeats 2000000 in
set_option maxRecDepth 100000 in
theorem gmayT_any (k : Int) (s : GS) (w : World) : Calls Tryd.prog 22 #[.int .i64 k, gsv s] w fun e w' => e = .returned (.bool (gmayT k s)) ∧ Below w.heap.size w w' := by
  obtain ⟨ct, hh, ⟨mb, mn, ms⟩, ⟨xb, xn, xs⟩, sm, ov⟩ := s
  obtain ⟨r, hr⟩ : ∃ r, r = gmayT k ⟨ct, hh, ⟨mb, mn, ms⟩, ⟨xb, xn, xs⟩, sm, ov⟩ := ⟨_, rfl⟩
  rw [← hr]
  have HN := Lib.hid (fun W => knumber_own k W)
  obtain ⟨w0, hw0⟩ : ∃ w0, w0 = w.alloc (.cells #[.int .i64 ct, .bool hh, .bool mb, .int .i64 mn, .string ms, .bool xb, .int .i64 xn, .string xs, .int .i64 sm, .bool ov] 28) := ⟨_, rfl⟩
  have hr0 : Row w0 w.heap.size 28 [.int .i64 ct, .bool hh, .bool mb, .int .i64 mn, .string ms, .bool xb, .int .i64 xn, .string xs, .int .i64 sm, .bool ov] := by rw [hw0]; exact heap_alloc_new w _
  have hb0 : Below w.heap.size w w0 := by rw [hw0]; exact (Below.refl _ _).alloc (Nat.le_refl _) _
  have HR0 := Lib.hid hr0
  have HB0 := Lib.hid hb0
  have hset := hw0.symm
  have w0c8 : w0.cell? ⟨w.heap.size, 8, none⟩ = some (.int .i64 sm) := HR0.out.cell 8
  have w0c9 : w0.cell? ⟨w.heap.size, 9, none⟩ = some (.bool ov) := HR0.out.cell 9
  have HE := Lib.hid (show r = if knumber k = true then ((sm == 0) || !ov) else ((sm == 0) && !ov) by rw [hr]; rfl)
  unfold gsv gcells
  dsimp only
  clear hw0 hr0 hb0 hr
  cases hk : knumber k <;> cases hz : (sm == 0) <;> cases ov
  all_goals
    rw [hk] at HN HE
    rw [hz] at HE
    clear hk
    go_enter Tryd.func22, Tryd.ntmps22
    go_wp2_with (go_at_call 28; refine (HN.out _).mono ?_; rintro e w' ⟨rfl, rfl⟩)
    go_ret
    exact ⟨by rw [HE.out]; rfl, HB0.out⟩
set_option maxHeartbeats 4000000 in
set_option maxRecDepth 100000 in
theorem gmayR_any (k : Int) (s : GS) (w : World) (hs1 : s.min.s.size ≤ maxLen) (hs2 : s.max.s.size ≤ maxLen) : Calls Tryd.prog 21 #[.int .i64 k, gsv s] w fun e w' => e = .returned (.bool (gmayR k s)) ∧ Below w.heap.size w w' := by
  obtain ⟨ct, hh, ⟨mb, mn, ms⟩, ⟨xb, xn, xs⟩, sm, ov⟩ := s
  dsimp only at hs1 hs2
  obtain ⟨r, hr⟩ : ∃ r, r = gmayR k ⟨ct, hh, ⟨mb, mn, ms⟩, ⟨xb, xn, xs⟩, sm, ov⟩ := ⟨_, rfl⟩
  rw [← hr]
  have HM1 := Lib.hid (fun W => kmay_free k ⟨mb, mn, ms⟩ W hs1)
  have HM2 := Lib.hid (fun W => kmay_free k ⟨xb, xn, xs⟩ W hs2)
  have HC := Lib.hid (fun W => kcmp_own ⟨mb, mn, ms⟩ ⟨xb, xn, xs⟩ W)
  obtain ⟨m1, h1⟩ : ∃ b, b = kmay k ⟨mb, mn, ms⟩ := ⟨_, rfl⟩
  obtain ⟨m2, h2⟩ : ∃ b, b = kmay k ⟨xb, xn, xs⟩ := ⟨_, rfl⟩
  obtain ⟨c, h3⟩ : ∃ c, c = kcmp ⟨mb, mn, ms⟩ ⟨xb, xn, xs⟩ := ⟨_, rfl⟩
  have HE := Lib.hid (show r = (m1 && (m2 && ((mb == (ct == 0)) && ((xb == (ct == 0)) && decide (c ≤ 0))))) by rw [hr, h1, h2, h3]; rfl)
  rw [← h1] at HM1
  rw [← h2] at HM2
  rw [← h3] at HC
  obtain ⟨w0, hw0⟩ : ∃ w0, w0 = w.alloc (.cells #[.int .i64 ct, .bool hh, .bool mb, .int .i64 mn, .string ms, .bool xb, .int .i64 xn, .string xs, .int .i64 sm, .bool ov] 28) := ⟨_, rfl⟩
  have hr0 : Row w0 w.heap.size 28 [.int .i64 ct, .bool hh, .bool mb, .int .i64 mn, .string ms, .bool xb, .int .i64 xn, .string xs, .int .i64 sm, .bool ov] := by rw [hw0]; exact heap_alloc_new w _
  have hb0 : Below w.heap.size w w0 := by rw [hw0]; exact (Below.refl _ _).alloc (Nat.le_refl _) _
  have HR0 := Lib.hid hr0
  have HB0 := Lib.hid hb0
  have hset := hw0.symm
  have w0c0 : w0.cell? ⟨w.heap.size, 0, none⟩ = some (.int .i64 ct) := HR0.out.cell 0
  have w0c2 : w0.cell? ⟨w.heap.size, 2, none⟩ = some (.bool mb) := HR0.out.cell 2
  have w0c3 : w0.cell? ⟨w.heap.size, 3, none⟩ = some (.int .i64 mn) := HR0.out.cell 3
  have w0c4 : w0.cell? ⟨w.heap.size, 4, none⟩ = some (.string ms) := HR0.out.cell 4
  unfold cv at HM1 HM2 HC
  unfold gsv gcells
  dsimp only
  clear hw0 hr0 hb0 hr h1 h2 h3 hs1 hs2
  obtain ⟨z, hz⟩ : ∃ z, z = (ct == 0) := ⟨_, rfl⟩
  rw [← hz] at HE
  have hz2 := hz.symm
  clear hz
  go_enter Tryd.func21, Tryd.ntmps21
  go_wp2_with fail
  refine (HM1.out _).mono ?_
  rintro e w1 ⟨rfl, hb1⟩
  have HR1 := Lib.hid (HR0.out.below hb1 HR0.out.lt)
  have HB1 := Lib.hid (below_then HB0.out hb1)
  clear hb1 hset w0c0 w0c2 w0c3 w0c4
  cases m1 with
  | false =>
    go_wp2
    go_ret
    exact ⟨by rw [HE.out]; rfl, HB1.out⟩
  | true =>
  have w1c5 : w1.cell? ⟨w.heap.size, 5, none⟩ = some (.bool xb) := HR1.out.cell 5
  have w1c6 : w1.cell? ⟨w.heap.size, 6, none⟩ = some (.int .i64 xn) := HR1.out.cell 6
  have w1c7 : w1.cell? ⟨w.heap.size, 7, none⟩ = some (.string xs) := HR1.out.cell 7
  go_wp2_with fail
  refine (HM2.out _).mono ?_
  rintro e w2 ⟨rfl, hb2⟩
  have HR2 := Lib.hid (HR1.out.below hb2 HR1.out.lt)
  have HB2 := Lib.hid (below_then HB1.out hb2)
  clear hb2 w1c5 w1c6 w1c7
  have w2c2 : w2.cell? ⟨w.heap.size, 2, none⟩ = some (.bool mb) := HR2.out.cell 2
  have w2c3 : w2.cell? ⟨w.heap.size, 3, none⟩ = some (.int .i64 mn) := HR2.out.cell 3
  have w2c4 : w2.cell? ⟨w.heap.size, 4, none⟩ = some (.string ms) := HR2.out.cell 4
  have w2c5 : w2.cell? ⟨w.heap.size, 5, none⟩ = some (.bool xb) := HR2.out.cell 5
  have w2c6 : w2.cell? ⟨w.heap.size, 6, none⟩ = some (.int .i64 xn) := HR2.out.cell 6
  have w2c7 : w2.cell? ⟨w.heap.size, 7, none⟩ = some (.string xs) := HR2.out.cell 7
  cases m2 with
  | false =>
    go_wp2
    go_ret
    exact ⟨by rw [HE.out]; rfl, HB2.out⟩
  | true =>
  cases g1 : (mb == z) with
  | false =>
    rw [g1] at HE
    go_wp2
    go_ret
    exact ⟨by rw [HE.out]; rfl, HB2.out⟩
  | true =>
  cases g2 : (xb == z) with
  | false =>
    rw [g1, g2] at HE
    go_wp2
    go_ret
    exact ⟨by rw [HE.out]; rfl, HB2.out⟩
  | true =>
  rw [g1, g2] at HE
  go_wp2_with fail
  refine (HC.out _).mono ?_
  rintro e w3 ⟨rfl, hb3⟩
  have HB3 := Lib.hid (below_then HB2.out hb3)
  clear hb3
  go_wp2
  go_ret
  exact ⟨by rw [HE.out]; rfl, HB3.out⟩
set_option maxHeartbeats 4000000 in
set_option maxRecDepth 100000 in
theorem gmay_own (k : Int) (s : GS) (w : World) (hs1 : s.min.s.size ≤ maxLen) (hs2 : s.max.s.size ≤ maxLen) :
    Calls Tryd.prog 12 #[.int .i64 k, gsv s] w fun e w' => e = .returned (.bool (gmayE k s)) ∧ Below w.heap.size w w' := by
  obtain ⟨ct, hh, ⟨mb, mn, ms⟩, ⟨xb, xn, xs⟩, sm, ov⟩ := s
  obtain ⟨r, hr⟩ : ∃ r, r = gmayE k ⟨ct, hh, ⟨mb, mn, ms⟩, ⟨xb, xn, xs⟩, sm, ov⟩ := ⟨_, rfl⟩
  rw [← hr]
  have HM1 := Lib.hid (fun W => gmayR_any k ⟨ct, hh, ⟨mb, mn, ms⟩, ⟨xb, xn, xs⟩, sm, ov⟩ W hs1 hs2)
  have HM2 := Lib.hid (fun W => gmayT_any k ⟨ct, hh, ⟨mb, mn, ms⟩, ⟨xb, xn, xs⟩, sm, ov⟩ W)
  obtain ⟨m1, h1⟩ : ∃ b, b = gmayR k ⟨ct, hh, ⟨mb, mn, ms⟩, ⟨xb, xn, xs⟩, sm, ov⟩ := ⟨_, rfl⟩
  obtain ⟨m2, h2⟩ : ∃ b, b = gmayT k ⟨ct, hh, ⟨mb, mn, ms⟩, ⟨xb, xn, xs⟩, sm, ov⟩ := ⟨_, rfl⟩
  have HE := Lib.hid (show r = (decide (0 ≤ ct) && (decide (ct ≤ 409600) && (m1 && m2))) by rw [hr, h1, h2]; exact (gmayP_eq k ⟨ct, hh, ⟨mb, mn, ms⟩, ⟨xb, xn, xs⟩, sm, ov⟩).symm)
  rw [← h1] at HM1
  rw [← h2] at HM2
  obtain ⟨w0, hw0⟩ : ∃ w0, w0 = w.alloc (.cells #[.int .i64 ct, .bool hh, .bool mb, .int .i64 mn, .string ms, .bool xb, .int .i64 xn, .string xs, .int .i64 sm, .bool ov] 28) := ⟨_, rfl⟩
  have hr0 : Row w0 w.heap.size 28 [.int .i64 ct, .bool hh, .bool mb, .int .i64 mn, .string ms, .bool xb, .int .i64 xn, .string xs, .int .i64 sm, .bool ov] := by rw [hw0]; exact heap_alloc_new w _
  have hb0 : Below w.heap.size w w0 := by rw [hw0]; exact (Below.refl _ _).alloc (Nat.le_refl _) _
  have HR0 := Lib.hid hr0
  have HB0 := Lib.hid hb0
  have hset := hw0.symm
  have w0c0 : w0.cell? ⟨w.heap.size, 0, none⟩ = some (.int .i64 ct) := HR0.out.cell 0
  have w0c1 : w0.cell? ⟨w.heap.size, 1, none⟩ = some (.bool hh) := HR0.out.cell 1
  have w0c2 : w0.cell? ⟨w.heap.size, 2, none⟩ = some (.bool mb) := HR0.out.cell 2
  have w0c3 : w0.cell? ⟨w.heap.size, 3, none⟩ = some (.int .i64 mn) := HR0.out.cell 3
  have w0c4 : w0.cell? ⟨w.heap.size, 4, none⟩ = some (.string ms) := HR0.out.cell 4
  have w0c5 : w0.cell? ⟨w.heap.size, 5, none⟩ = some (.bool xb) := HR0.out.cell 5
  have w0c6 : w0.cell? ⟨w.heap.size, 6, none⟩ = some (.int .i64 xn) := HR0.out.cell 6
  have w0c7 : w0.cell? ⟨w.heap.size, 7, none⟩ = some (.string xs) := HR0.out.cell 7
  have w0c8 : w0.cell? ⟨w.heap.size, 8, none⟩ = some (.int .i64 sm) := HR0.out.cell 8
  have w0c9 : w0.cell? ⟨w.heap.size, 9, none⟩ = some (.bool ov) := HR0.out.cell 9
  unfold gsv gcells at HM1 HM2
  unfold gsv gcells
  dsimp only at HM1 HM2 ⊢
  clear hw0 hr0 hb0 hr h1 h2 hs1 hs2
  cases g1 : decide (0 ≤ ct) with
  | false =>
    rw [g1] at HE
    go_enter Tryd.func12, Tryd.ntmps12
    go_wp2
    go_ret
    exact ⟨by rw [HE.out]; rfl, HB0.out⟩
  | true =>
  cases g2 : decide (ct ≤ 409600) with
  | false =>
    rw [g1, g2] at HE
    go_enter Tryd.func12, Tryd.ntmps12
    go_wp2
    go_ret
    exact ⟨by rw [HE.out]; rfl, HB0.out⟩
  | true =>
  rw [g1, g2] at HE
  go_enter Tryd.func12, Tryd.ntmps12
  go_wp2_with fail
  refine (HM1.out _).mono ?_
  rintro e w1 ⟨rfl, hb1⟩
  have HR1 := Lib.hid (HR0.out.below hb1 HR0.out.lt)
  have HB1 := Lib.hid (below_then HB0.out hb1)
  clear hb1 hset w0c0 w0c1 w0c2 w0c3 w0c4 w0c5 w0c6 w0c7 w0c8 w0c9
  cases m1 with
  | false =>
    go_wp2
    go_ret
    exact ⟨by rw [HE.out]; rfl, HB1.out⟩
  | true =>
  have w1c0 : w1.cell? ⟨w.heap.size, 0, none⟩ = some (.int .i64 ct) := HR1.out.cell 0
  have w1c1 : w1.cell? ⟨w.heap.size, 1, none⟩ = some (.bool hh) := HR1.out.cell 1
  have w1c2 : w1.cell? ⟨w.heap.size, 2, none⟩ = some (.bool mb) := HR1.out.cell 2
  have w1c3 : w1.cell? ⟨w.heap.size, 3, none⟩ = some (.int .i64 mn) := HR1.out.cell 3
  have w1c4 : w1.cell? ⟨w.heap.size, 4, none⟩ = some (.string ms) := HR1.out.cell 4
  have w1c5 : w1.cell? ⟨w.heap.size, 5, none⟩ = some (.bool xb) := HR1.out.cell 5
  have w1c6 : w1.cell? ⟨w.heap.size, 6, none⟩ = some (.int .i64 xn) := HR1.out.cell 6
  have w1c7 : w1.cell? ⟨w.heap.size, 7, none⟩ = some (.string xs) := HR1.out.cell 7
  have w1c8 : w1.cell? ⟨w.heap.size, 8, none⟩ = some (.int .i64 sm) := HR1.out.cell 8
  have w1c9 : w1.cell? ⟨w.heap.size, 9, none⟩ = some (.bool ov) := HR1.out.cell 9
  go_wp2_with fail
  refine (HM2.out _).mono ?_
  rintro e w2 ⟨rfl, hb2⟩
  have HB2 := Lib.hid (below_then HB1.out hb2)
  clear hb2 w1c0 w1c1 w1c2 w1c3 w1c4 w1c5 w1c6 w1c7 w1c8 w1c9
  go_wp2
  go_ret
  exact ⟨by rw [HE.out]; rfl, HB2.out⟩
end Go.Proofs.YtgbmppdbahjjhaaDoor

/- The program's contracts of layer 17, as the laws ask them. -/





namespace Go.Proofs.YtgbmppdbahjjhaaDoor

open Go.RowKit
theorem gof_any (k : Int) (l : List CV) (v : Value) (w : World) (_hU : Tryd.U8 w) (hv : IsR kcells l v w) (hi : ∀ x ∈ l, x.inInt) (_hs : ∀ x ∈ l, x.s.size ≤ maxLen) (_hm : ∀ x ∈ l, kmay k x = true) (hb : l.length ≤ 1000) :
    Calls Tryd.prog 9 #[.int .i64 k, v] w fun e w' => e = .returned (gsv (gofE k l)) ∧ Below w.heap.size w w' := gof_own k l v w hv hi (by omega)
theorem gmerge_any (k : Int) (a b : GS) (w : World) (_hU : Tryd.U8 w) (hca : 0 ≤ a.count ∧ a.count ≤ 1000000) (hcb : 0 ≤ b.count ∧ b.count ≤ 1000000) (ha : a.inInt) (hb : b.inInt) (hoa : GOk k a) (hob : GOk k b) :
    Calls Tryd.prog 13 #[.int .i64 k, gsv a, gsv b] w fun e w' => e = .returned (gsv (gmergeE k a b)) ∧ Below w.heap.size w w' := gmerge_own k a b w hoa hob hca hcb ha hb
theorem gmay_any (k : Int) (s : GS) (w : World) (_hU : Tryd.U8 w) (_hi : s.inInt) (hs1 : s.min.s.size ≤ maxLen) (hs2 : s.max.s.size ≤ maxLen) :
    Calls Tryd.prog 12 #[.int .i64 k, gsv s] w fun e w' => e = .returned (.bool (gmayE k s)) ∧ Below w.heap.size w w' := gmay_own k s w hs1 hs2
theorem kmay_null {k : Int} {v : CV} (h : kmay k v = true) (hn : v.null = true) : v = nul := by
  obtain ⟨b, n, s⟩ := v
  dsimp only at hn
  subst hn
  unfold kmay at h
  split at h
  · cases h
  · simp at h
    obtain ⟨h1, h2⟩ := h
    subst h1
    rw [ByteArray.toList_eq] at h2
    obtain ⟨a⟩ := s
    rw [show a = #[] from Array.toList_inj.1 h2]
    rfl
theorem gok_may {k : Int} {s : GS} (h : gmayE k s = true) : GOk k s := by
  rw [← gmayP_eq] at h
  unfold gmayR gmayT at h
  simp only [Bool.and_eq_true] at h
  obtain ⟨_, _, ⟨h1, h2, _⟩, h3⟩ := h
  refine ⟨kmay_null h1, kmay_null h2, fun hk => ?_⟩
  rw [hk] at h3
  simpa using (Bool.and_eq_true_iff.1 h3).1
theorem gok_of (k : Int) (l : List CV) : GOk k (gofE k l) := by
  refine ⟨fun h => ?_, fun h => ?_, fun hk => ?_⟩
  · have h1 := (gleast_null (l := nsome l) nsome_null) ▸ h
    show gleast (nsome l) = nul
    rw [h1]; rfl
  · have h1 := (gmost_null (l := nsome l) nsome_null) ▸ h
    show gmost (nsome l) = nul
    rw [h1]; rfl
  · unfold gofE
    rw [hk]; rfl
end Go.Proofs.YtgbmppdbahjjhaaDoor
