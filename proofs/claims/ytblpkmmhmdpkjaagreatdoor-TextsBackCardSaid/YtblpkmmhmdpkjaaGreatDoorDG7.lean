/- Texts that the claims of this seat share, part 7: PLook PPutO PIs EOwn EIs UPlain. -/
import Derived.Test.YtblpkmmhmdpkjaaGreatDoorDG6
/- patched's own contracts: look. Written by gen_plook.py. -/





namespace Go.Proofs.YtblpkmmhmdpkjaaGreatDoor

open Go.RowKit

theorem shape_info : ∃ i, Tryz.prog.info? 181 = some i ∧ i.zero = some (shv 0 0 0 0 0 0) := by
  have h : (Tryz.prog.info? 181).map (fun i => i.zero) = some (some (shv 0 0 0 0 0 0)) := by kernel_rfl
  cases hi : Tryz.prog.info? 181 with
  | none => rw [hi] at h; cases h
  | some i => rw [hi] at h; injection h with h; exact ⟨i, rfl, h⟩
def Fact.made (B : Nat) : Fact := ⟨fun v W => ∃ h, v = .pointer (some ⟨h, 0, none⟩) ∧ B ≤ h ∧ Row W h 181 (shc 0 0 0 0 0 0), fun _ _ _ ⟨h, h1, h2, h3⟩ hb => ⟨h, h1, h2, h3.below hb h3.lt⟩⟩
theorem wpList_storeWhole {P : Program} {w : World} {ops : Array Oper} {rest : List Oper} {o : Oper} {a : Act} {Q : Exit → Act → World → Prop} (hgd : o.guard = none) (t : TypeId) (x y : Operand) (ho : o.op = .store t x y) (g : Nat) (t' : TypeId) (old cs : List Value)
    (hx : a.eval x = .pointer (some ⟨g, 0, none⟩)) (hy : a.eval y = .agg cs.toArray) (hr : Row w g t' old) (hi : (P.info? t).map (·.size) = some cs.length) (hl : old.length = cs.length) (h1 : ∀ u ∈ cs, u.oneCell' = true)
    (h : ∀ w', w' = w.setRow g cs.toArray → wpList P ops Q rest (a.put o.dst undef) w') : wpList P ops Q (o :: rest) a w := by
  have hrun := run_storeVar_row (P := P) w g t' t old.toArray cs.toArray hr (by simpa using hi) (by simp [hl]) (by simpa using h1)
  refine wpList_plain hgd fun K hK => ?_
  unfold Oper.wp execOp
  simp only [ho, hx, hy, Instr.storeAt, Instr.sureAddr, Sem.run_bind, Sem.run_pure, Result.andThen_ok, hrun]
  exact hK _ _ (h _ rfl)
/-- One row may be written, to what it will hold. -/
def Writes (r : Nat) (T : TypeId) (z cs : List Value) (w w' : World) : Prop := w.grownBy w' (some r) ∧ (Row w r T z → Row w' r T z ∨ Row w' r T cs) ∧ (Row w r T cs → Row w' r T cs)
theorem writes_later (r : Nat) (T : TypeId) (z cs : List Value) : Later (Writes r T z cs) where
  refl := fun _ => ⟨⟨rfl, rfl, rfl, Nat.le_refl _, fun _ _ _ => rfl⟩, .inl, id⟩
  trans := fun ⟨a1, a2, a3⟩ ⟨b1, b2, b3⟩ => ⟨grown_trans a1 b1, fun h => (a2 h).elim b2 (fun h => .inr (b3 h)), fun h => b3 (a3 h)⟩
  draw := fun _ => ⟨⟨rfl, rfl, rfl, Nat.le_refl _, fun _ _ _ => rfl⟩, .inl, id⟩
theorem writes_below {r : Nat} {T : TypeId} {z cs : List Value} {w w' : World} (hr : r < w.heap.size) (h : Below w.heap.size w w') : Writes r T z cs w w' := ⟨grown_below h, fun k => .inl (k.below h hr), fun k => k.below h hr⟩
theorem writes_set {r : Nat} {T : TypeId} {z cs old : List Value} {w : World} (h : Row w r T old) : Writes r T z cs w (w.setRow r cs.toArray) :=
  ⟨⟨rfl, rfl, rfl, by simp [World.setRow], fun k _ hg => setRow_other w r k _ (fun e => hg (by rw [e]))⟩, fun _ => .inr (rowAll_set h), fun _ => rowAll_set h⟩
theorem bv_not (m W n p g t : Int) (b : UInt8) : bv b ∉ shc m W n p g t := by
  intro h
  simp only [shc, List.mem_cons, List.not_mem_nil, or_false] at h
  rcases h with h | h | h | h | h | h <;> cases h
theorem u8_and31 (a : Nat) (h : a < 256) : bits .and .u8 (a : Int) 31 = ((a % 32 : Nat) : Int) := by
  have h1 := u8_and_nat a 31 h (by omega)
  rw [show ((31 : Nat) : Int) = (31 : Int) from rfl] at h1
  rw [h1, show (31 : Nat) = 2 ^ 5 - 1 from rfl, Nat.and_two_pow_sub_one_eq_mod]
set_option maxHeartbeats 4000000 in
set_option maxRecDepth 100000 in
theorem look_no (l : List UInt8) (v : Value) (w : World) (hv : IsB l v w) (hb : l.length ≤ 1000000) (h : (dlook l).2.2.2.2 ≠ 0 ∨ (dlook l).1 ≠ 2 ∨ (dlook l).2.2.2.1.length < 2) :
    Calls Tryz.prog 160 #[v] w fun e w' => e = .returned (.tuple #[shv 0 0 0 0 0 0, .slice none 0 0, .bool false]) ∧ Below w.heap.size w w' := by
  obtain ⟨w1, hw1⟩ : ∃ w1, w1 = w.alloc (.cells (shc 0 0 0 0 0 0).toArray 181) := ⟨_, rfl⟩
  have q1 : Row w1 w.heap.size 181 (shc 0 0 0 0 0 0) := by rw [hw1]; exact heap_alloc_new w _
  have hb1 : Below w.heap.size w w1 := by rw [hw1]; exact (Below.refl _ _).alloc (Nat.le_refl _) _
  have HLK := Lib.hid (dlook_any l v w1 (hv.below hb1) hb)
  have HB1 := Lib.hid hb1
  have HQ1 := Lib.hid q1
  obtain ⟨K, C, M, r, x, hd⟩ : ∃ K C M r x, dlook l = (K, C, M, r, x) := ⟨_, _, _, _, _, rfl⟩
  rw [hd] at HLK h
  dsimp only at h
  obtain ⟨A0, c0, rfl, _⟩ := hv
  unfold shc at hw1
  clear hd q1 hb1
  go_enter Tryz.func160, Tryz.ntmps160
  go_wp2_with fail
  rw [← hw1]
  clear hw1
  refine HLK.out.mono ?_
  rintro e w2 ⟨rv, rfl, hrv, hb2⟩
  obtain ⟨A1, n1, c1, rfl⟩ := IsV.shape (f := bv) hrv
  have hrl : r.length = n1 := (IsV.parts (f := bv) hrv).1
  have HB2 := Lib.hid (HB1.out.trans (hb2.mono HB1.out.size))
  have HR2 := Lib.hid (HQ1.out.below hb2 HQ1.out.lt)
  clear hb2 hrv
  have hcase : (x != 0) = true ∨ ((x != 0) = false ∧ (K != 2) = true) ∨ ((x != 0) = false ∧ (K != 2) = false ∧ decide ((n1 : Int) < 2) = true) := by
    by_cases h0 : x = 0
    · by_cases h1 : K = 2
      · exact .inr (.inr ⟨by simpa using h0, by simpa using h1, decide_eq_true (by omega)⟩)
      · exact .inr (.inl ⟨by simpa using h0, by simpa using h1⟩)
    · exact .inl (by simpa using h0)
  clear h hrl
  rcases hcase with d0 | ⟨d0, d1⟩ | ⟨d0, d1, d2⟩
  all_goals
    go_wp2_with (refine wpList_storeW rfl _ _ _ rfl w.heap.size 0 181 (shc 0 0 0 0 0 0) (shc 0 0 0 0 0 0) (shc 0 0 0 0 0 0) rfl rfl rfl HR2.out shape_size (Nat.le_refl _) (shc_one _ _ _ _ _ _) w w.heap.size HB2.out (Nat.le_refl _) ?_)
    intro w3 hr3 hb3 _
    have HR3 := Lib.hid hr3
    have HB3 := Lib.hid hb3
    clear hr3 hb3
    go_wp2
    refine bodyPost_ret (results_row_tmp2 rfl _ _ _ 181 (shc 0 0 0 0 0 0).toArray (0, 0) _ rfl HR3.out Tryz.underlying181 rfl shape_size) rfl ?_
    exact ⟨rfl, HB3.out⟩
def LookPost (M W : Int) (n p g t : Nat) (r : List UInt8) (w : World) (e : Ending) (w' : World) : Prop :=
  ∃ rv, e = .returned (.tuple #[shv M W n p g t, rv, .bool (decide ((g : Int) + (p : Int) ≤ 64))]) ∧ IsB r rv w' ∧ Below w.heap.size w w'
set_option maxHeartbeats 8000000 in
set_option maxRecDepth 100000 in
theorem look_yes (l r : List UInt8) (v : Value) (w : World) (C M : Int) (b0 b1 n g t p : Nat) (ht : WTab w) (hv : IsB l v w) (hb : l.length ≤ 1000000) (hd : dlook l = (2, C, M, r, 0)) (h2 : 2 ≤ r.length) (hrb : r.length ≤ 1000000) (hC : inInt C)
    (h0 : b0 = r[0].toNat) (h1 : b1 = r[1].toNat) (hn : n = b0 / 32 + 1) (hg : g = b1 / 32 + 1) (htt : t = b1 % 32) (hp : wof ((b0 % 32 : Nat) : Int) = (p : Int)) (hp64 : p ≤ 64) :
    Calls Tryz.prog 160 #[v] w (LookPost M (wof C) n p g t (r.drop 2) w) := by
  obtain ⟨w1, hw1⟩ : ∃ w1, w1 = w.alloc (.cells (shc 0 0 0 0 0 0).toArray 181) := ⟨_, rfl⟩
  have q1 : Row w1 w.heap.size 181 (shc 0 0 0 0 0 0) := by rw [hw1]; exact heap_alloc_new w _
  have hb1 : Below w.heap.size w w1 := by rw [hw1]; exact (Below.refl _ _).alloc (Nat.le_refl _) _
  have HLK := Lib.hid (dlook_any l v w1 (hv.below hb1) hb)
  rw [hd] at HLK
  have HB1 := Lib.hid hb1
  have HQ1 := Lib.hid q1
  have HT0 := Lib.hid ht
  obtain ⟨A0, c0, rfl, _⟩ := hv
  obtain ⟨W, hW⟩ : ∃ W, W = wof C := ⟨_, rfl⟩
  have HOC := Lib.hid (fun X (h : WTab X) => of_any C X h hC.1 hC.2)
  obtain ⟨q, hq⟩ : ∃ q, q = b0 % 32 := ⟨_, rfl⟩
  have HOP := Lib.hid (fun X (h : WTab X) => of_any (q : Int) X h (by omega) (by omega))
  rw [← hW] at HOC ⊢
  rw [← hq] at hp
  rw [hp] at HOP
  have hb08 : b0 < 256 := by rw [h0]; exact UInt8.toNat_lt _
  have hb18 : b1 < 256 := by rw [h1]; exact UInt8.toNat_lt _
  obtain ⟨n0, hn0⟩ : ∃ n0, n0 = b0 / 32 := ⟨_, rfl⟩
  obtain ⟨g0, hg0⟩ : ∃ g0, g0 = b1 / 32 := ⟨_, rfl⟩
  have HS0 := Lib.hid (show (b0 : Int) / 32 = (n0 : Int) by omega)
  have HS1 := Lib.hid (show (b1 : Int) / 32 = (g0 : Int) by omega)
  have HV0 := Lib.hid (show IntKind.i64.wrap (n0 : Int) = (n0 : Int) by rw [IntKind.wrap_i64]; omega)
  have HVG := Lib.hid (show IntKind.i64.wrap (g0 : Int) = (g0 : Int) by rw [IntKind.wrap_i64]; omega)
  have HVQ := Lib.hid (show IntKind.i64.wrap (q : Int) = (q : Int) by rw [IntKind.wrap_i64]; omega)
  have HVT := Lib.hid (show IntKind.i64.wrap (t : Int) = (t : Int) by rw [IntKind.wrap_i64]; omega)
  have HN := Lib.hid (show (n0 : Int) + 1 = (n : Int) by omega)
  have HG := Lib.hid (show (g0 : Int) + 1 = (g : Int) by omega)
  have HA0 := Lib.hid (show bits .and .u8 (b0 : Int) 31 = (q : Int) by rw [u8_and31 b0 hb08, hq])
  have HA1 := Lib.hid (show bits .and .u8 (b1 : Int) 31 = (t : Int) by rw [u8_and31 b1 hb18, htt])
  have hn08 : n0 ≤ 8 := by omega
  have hg08 : g0 ≤ 8 := by omega
  have HRM := Lib.hid (fun X => proom_any M W (n : Int) (p : Int) (g : Int) (t : Int) X ⟨by omega, by omega⟩ ⟨by omega, by omega⟩)
  obtain ⟨d, hdd⟩ : ∃ d, d = decide ((g : Int) + (p : Int) ≤ 64) := ⟨_, rfl⟩
  rw [← hdd] at HRM
  unfold LookPost
  rw [← hdd]
  unfold shc at hw1
  have HH0 := Lib.hid h0
  have HH1 := Lib.hid h1
  clear hd q1 hb1 ht hW hq hn hg htt hp hn0 hg0 hdd hC h0 h1 hb08 hb18
  go_enter Tryz.func160, Tryz.ntmps160
  go_wp2_with fail
  rw [← hw1]
  clear hw1
  refine HLK.out.mono ?_
  rintro e w2 ⟨rv, rfl, hrv, hb2⟩
  have hrv' : IsB r rv w2 := hrv
  clear hrv
  have hrv := isB_iff.1 hrv'
  obtain ⟨A1, n1, c1, rfl⟩ := hrv.shape
  obtain ⟨hrl, hA1, hnc1, hcm1, hlie1⟩ := hrv.parts
  have HB2 := Lib.hid (HB1.out.trans (hb2.mono HB1.out.size))
  have HRZ0 := Lib.hid (HQ1.out.below hb2 HQ1.out.lt)
  have HT := Lib.hid (HT0.out.below HB2.out HT0.out.lt)
  obtain ⟨ad, rfl, had0, hc0⟩ := hrv.at (k := 0) (by omega)
  obtain ⟨ad', had', had1, hc1⟩ := hrv.at (k := 1) (by omega)
  injection had' with had'
  subst had'
  have HCB0 := Lib.hid (show w2.cell? (ad.add 0) = some (.int .u8 (b0 : Int)) by rw [hc0, HH0.out]; rfl)
  have HCB1 := Lib.hid (show w2.cell? (ad.add 1) = some (.int .u8 (b1 : Int)) by rw [hc1, HH1.out]; rfl)
  have HLA0 := Lib.hid (show (ad.add 0).block < w2.heap.size by rw [add_block]; exact had0)
  have HLA1 := Lib.hid (show (ad.add 1).block < w2.heap.size by rw [add_block]; exact had0)
  obtain ⟨v3, hv3, hI3⟩ := from_named (P := Tryz.prog) elemB (k := 2) (by omega) hnc1 hcm1 hrl hlie1 hA1
  rw [show ((2 : Nat) : Int) = 2 from rfl] at hv3
  have HV3 := Lib.hid hv3
  have HI2 := Lib.hid hI3
  have h0n : 0 < n1 := by omega
  have h1n : 1 < n1 := by omega
  have hn2 : decide ((n1 : Int) < 2) = false := decide_eq_false (by omega)
  clear hb2 hrv hrv' hc0 hc1 hv3 hI3 hlie1 hrl hA1 hcm1 had0 had1
  · go_wp2
    refine wp_region_list_tail 28 [.is (.int .i64 M), .is (.int .i64 C), .is (.int .i64 W), .is (.slice (some ad) n1 c1), .is (.pointer (some (ad.add 0))), .is (.int .u8 (b0 : Int)), .is (.int .u8 (n0 : Int)), .is (.int .i64 (n0 : Int)), .is (.int .i64 (n : Int)), .is (.slice (some ad) n1 c1), .is (.pointer (some (ad.add 0))), .is (.int .u8 (b0 : Int)), .is (.int .u8 (q : Int)), .is (.int .i64 (q : Int)), .is (.int .i64 (p : Int)), .is (.slice (some ad) n1 c1), .is (.pointer (some (ad.add 1))), .is (.int .u8 (b1 : Int)), .is (.int .u8 (g0 : Int)), .is (.int .i64 (g0 : Int)), .is (.int .i64 (g : Int)), .is (.slice (some ad) n1 c1), .is (.pointer (some (ad.add 1))), .is (.int .u8 (b1 : Int)), .is (.int .u8 (t : Int)), .is (.int .i64 (t : Int)), .is (shv M W n p g t), .made w2.heap.size] [some 31, some 32, some 33, some 34, some 35, some 36, some 37, some 38, some 39, some 40, some 41, some 42, some 43, some 44, some 45, some 46, some 47, some 48, some 49, some 50, some 51, some 52, some 53, some 54, some 55, some 56, some 57, some 10] (by kernel_rfl) (by kernel_rfl) (by kernel_rfl) (by kernel_rfl) rfl ⟨?_, ?_, ?_, ?_, ?_, ?_, ?_, ?_, ?_, ?_, ?_, ?_, ?_, ?_, ?_, ?_, ?_, ?_, ?_, ?_, ?_, ?_, ?_, ?_, ?_, ?_, ?_, ?_, trivial⟩ ?_
    · intro ρ W1 hb1 H
      exact gives_move rfl (H.old 7 _ (by kernel_rfl) rfl) ⟨rfl, Below.refl _ _⟩
    · intro ρ W1 hb1 H
      exact gives_move rfl (H.old 6 _ (by kernel_rfl) rfl) ⟨rfl, Below.refl _ _⟩
    · intro ρ W1 hb1 H
      have e0 : ρ (.tmp 32) = .int .i64 C := H.new 32 1 (by kernel_rfl)
      refine gives_call rfl (fun _ _ => by kernel_rfl) (H.func _) (args := #[.int .i64 C]) (by simp [e0]) ?_
      exact (HOC.out W1 (HT.out.below hb1 HT.out.lt)).mono fun e w' ⟨h1, h2⟩ => ⟨_, h1, rfl, h2 ▸ Below.refl _ _⟩
    · intro ρ W1 hb1 H
      exact gives_move rfl (H.old 8 _ (by kernel_rfl) rfl) ⟨rfl, Below.refl _ _⟩
    · intro ρ W1 hb1 H
      exact gives_index (k := 0) elemB rfl (H.new 34 3 (by kernel_rfl)) (H.const _) (h0n) ⟨rfl, Below.refl _ _⟩
    · intro ρ W1 hb1 H
      exact gives_load rfl (H.new 35 4 (by kernel_rfl)) Tryz.underlying5 rfl ((hb1.cell HLA0.out).trans HCB0.out) ⟨rfl, Below.refl _ _⟩
    · intro ρ W1 hb1 H
      exact gives_shr5 rfl (H.new 36 5 (by kernel_rfl)) (H.const _) HS0.out ⟨rfl, Below.refl _ _⟩
    · intro ρ W1 hb1 H
      exact gives_conv rfl (H.new 37 6 (by kernel_rfl)) (by kernel_rfl) Tryz.underlying3 HV0.out ⟨rfl, Below.refl _ _⟩
    · intro ρ W1 hb1 H
      exact gives_add rfl (H.new 38 7 (by kernel_rfl)) (H.const _) (by omega) (by omega) ⟨congrArg (Value.int .i64) HN.out, Below.refl _ _⟩
    · intro ρ W1 hb1 H
      exact gives_move rfl (H.old 8 _ (by kernel_rfl) rfl) ⟨rfl, Below.refl _ _⟩
    · intro ρ W1 hb1 H
      exact gives_index (k := 0) elemB rfl (H.new 40 9 (by kernel_rfl)) (H.const _) (h0n) ⟨rfl, Below.refl _ _⟩
    · intro ρ W1 hb1 H
      exact gives_load rfl (H.new 41 10 (by kernel_rfl)) Tryz.underlying5 rfl ((hb1.cell HLA0.out).trans HCB0.out) ⟨rfl, Below.refl _ _⟩
    · intro ρ W1 hb1 H
      exact gives_and8 rfl (H.new 42 11 (by kernel_rfl)) (H.const _) HA0.out ⟨rfl, Below.refl _ _⟩
    · intro ρ W1 hb1 H
      exact gives_conv rfl (H.new 43 12 (by kernel_rfl)) (by kernel_rfl) Tryz.underlying3 HVQ.out ⟨rfl, Below.refl _ _⟩
    · intro ρ W1 hb1 H
      have e0 : ρ (.tmp 44) = .int .i64 (q : Int) := H.new 44 13 (by kernel_rfl)
      refine gives_call rfl (fun _ _ => by kernel_rfl) (H.func _) (args := #[.int .i64 (q : Int)]) (by simp [e0]) ?_
      exact (HOP.out W1 (HT.out.below hb1 HT.out.lt)).mono fun e w' ⟨h1, h2⟩ => ⟨_, h1, rfl, h2 ▸ Below.refl _ _⟩
    · intro ρ W1 hb1 H
      exact gives_move rfl (H.old 8 _ (by kernel_rfl) rfl) ⟨rfl, Below.refl _ _⟩
    · intro ρ W1 hb1 H
      exact gives_index (k := 1) elemB rfl (H.new 46 15 (by kernel_rfl)) (H.const _) (h1n) ⟨rfl, Below.refl _ _⟩
    · intro ρ W1 hb1 H
      exact gives_load rfl (H.new 47 16 (by kernel_rfl)) Tryz.underlying5 rfl ((hb1.cell HLA1.out).trans HCB1.out) ⟨rfl, Below.refl _ _⟩
    · intro ρ W1 hb1 H
      exact gives_shr5 rfl (H.new 48 17 (by kernel_rfl)) (H.const _) HS1.out ⟨rfl, Below.refl _ _⟩
    · intro ρ W1 hb1 H
      exact gives_conv rfl (H.new 49 18 (by kernel_rfl)) (by kernel_rfl) Tryz.underlying3 HVG.out ⟨rfl, Below.refl _ _⟩
    · intro ρ W1 hb1 H
      exact gives_add rfl (H.new 50 19 (by kernel_rfl)) (H.const _) (by omega) (by omega) ⟨congrArg (Value.int .i64) HG.out, Below.refl _ _⟩
    · intro ρ W1 hb1 H
      exact gives_move rfl (H.old 8 _ (by kernel_rfl) rfl) ⟨rfl, Below.refl _ _⟩
    · intro ρ W1 hb1 H
      exact gives_index (k := 1) elemB rfl (H.new 52 21 (by kernel_rfl)) (H.const _) (h1n) ⟨rfl, Below.refl _ _⟩
    · intro ρ W1 hb1 H
      exact gives_load rfl (H.new 53 22 (by kernel_rfl)) Tryz.underlying5 rfl ((hb1.cell HLA1.out).trans HCB1.out) ⟨rfl, Below.refl _ _⟩
    · intro ρ W1 hb1 H
      exact gives_and8 rfl (H.new 54 23 (by kernel_rfl)) (H.const _) HA1.out ⟨rfl, Below.refl _ _⟩
    · intro ρ W1 hb1 H
      exact gives_conv rfl (H.new 55 24 (by kernel_rfl)) (by kernel_rfl) Tryz.underlying3 HVT.out ⟨rfl, Below.refl _ _⟩
    · intro ρ W1 hb1 H
      exact gives_shape rfl (H.new 31 0 (by kernel_rfl)) (H.new 33 2 (by kernel_rfl)) (H.new 39 8 (by kernel_rfl)) (H.new 45 14 (by kernel_rfl)) (H.new 51 20 (by kernel_rfl)) (H.new 56 25 (by kernel_rfl)) ⟨rfl, Below.refl _ _⟩
    · intro ρ W1 hb1 H
      exact gives_alloc shape_info.choose_spec.1 shape_info.choose_spec.2 rfl ⟨⟨_, rfl, hb1.size, heap_alloc_new W1 _⟩, (Below.refl _ _).alloc (Nat.le_refl _) _⟩
    · intro vs W1 hb1 hfs
      have f0 : vs 0 = .int .i64 M := hfs 0 (by decide)
      have f1 : vs 1 = .int .i64 C := hfs 1 (by decide)
      have f2 : vs 2 = .int .i64 W := hfs 2 (by decide)
      have f3 : vs 3 = .slice (some ad) n1 c1 := hfs 3 (by decide)
      have f4 : vs 4 = .pointer (some (ad.add 0)) := hfs 4 (by decide)
      have f5 : vs 5 = .int .u8 (b0 : Int) := hfs 5 (by decide)
      have f6 : vs 6 = .int .u8 (n0 : Int) := hfs 6 (by decide)
      have f7 : vs 7 = .int .i64 (n0 : Int) := hfs 7 (by decide)
      have f8 : vs 8 = .int .i64 (n : Int) := hfs 8 (by decide)
      have f9 : vs 9 = .slice (some ad) n1 c1 := hfs 9 (by decide)
      have f10 : vs 10 = .pointer (some (ad.add 0)) := hfs 10 (by decide)
      have f11 : vs 11 = .int .u8 (b0 : Int) := hfs 11 (by decide)
      have f12 : vs 12 = .int .u8 (q : Int) := hfs 12 (by decide)
      have f13 : vs 13 = .int .i64 (q : Int) := hfs 13 (by decide)
      have f14 : vs 14 = .int .i64 (p : Int) := hfs 14 (by decide)
      have f15 : vs 15 = .slice (some ad) n1 c1 := hfs 15 (by decide)
      have f16 : vs 16 = .pointer (some (ad.add 1)) := hfs 16 (by decide)
      have f17 : vs 17 = .int .u8 (b1 : Int) := hfs 17 (by decide)
      have f18 : vs 18 = .int .u8 (g0 : Int) := hfs 18 (by decide)
      have f19 : vs 19 = .int .i64 (g0 : Int) := hfs 19 (by decide)
      have f20 : vs 20 = .int .i64 (g : Int) := hfs 20 (by decide)
      have f21 : vs 21 = .slice (some ad) n1 c1 := hfs 21 (by decide)
      have f22 : vs 22 = .pointer (some (ad.add 1)) := hfs 22 (by decide)
      have f23 : vs 23 = .int .u8 (b1 : Int) := hfs 23 (by decide)
      have f24 : vs 24 = .int .u8 (t : Int) := hfs 24 (by decide)
      have f25 : vs 25 = .int .i64 (t : Int) := hfs 25 (by decide)
      have f26 : vs 26 = shv M W n p g t := hfs 26 (by decide)
      have f27 : ∃ h, vs 27 = .pointer (some ⟨h, 0, none⟩) ∧ w2.heap.size ≤ h ∧ Row W1 h 181 (shc 0 0 0 0 0 0) := hfs 27 (by decide)
      clear hfs
      simp only [putAll, Nat.zero_add, Nat.reduceAdd, List.drop_succ_cons, List.drop_zero]
      generalize vs 27 = z27 at f27 ⊢
      simp only [f0, f1, f2, f3, f4, f5, f6, f7, f8, f9, f10, f11, f12, f13, f14, f15, f16, f17, f18, f19, f20, f21, f22, f23, f24, f25, f26, Act.put, List.setIfInBounds_toArray, List.set_cons_succ, List.set_cons_zero]
      clear f0 f1 f2 f3 f4 f5 f6 f7 f8 f9 f10 f11 f12 f13 f14 f15 f16 f17 f18 f19 f20 f21 f22 f23 f24 f25 f26
      obtain ⟨h, f27, hBh, hrow⟩ := f27
      subst f27
      have hne : w.heap.size ≠ h := by have := HB2.out.size; have := HRZ0.out.lt; omega
      have hrz := HRZ0.out.below hb1 HRZ0.out.lt
      refine wpList_storeWhole rfl _ _ _ rfl h 181 (shc 0 0 0 0 0 0) (shc M W n p g t) rfl rfl hrow shape_size rfl (shc_one _ _ _ _ _ _) ?_
      intro w3 hw3
      have HRH : Hid (Row w3 h 181 (shc M W n p g t)) := Lib.hid (by rw [hw3]; exact rowAll_set hrow)
      have HB23 := Lib.hid (show Below w2.heap.size w2 w3 by rw [hw3]; exact below_setRow hb1 hBh _)
      have HB3 := Lib.hid (HB2.out.trans (HB23.out.mono HB2.out.size))
      have HI3 := Lib.hid (HI2.out.below HB23.out)
      have HRZ : Hid (Row w3 w.heap.size 181 (shc 0 0 0 0 0 0)) := Lib.hid (by rw [hw3]; exact rowAll_far hne hrz)
      clear hrz hrow hw3 hb1
      go_wp2
      refine wp_region_listR (writes_later w.heap.size 181 (shc 0 0 0 0 0 0) (shc M W n p g t)) [.is (shv M W n p g t), .is (.slice (some ad) n1 c1), .is v3, .is (shv M W n p g t), .is (.bool d), .of (fun _ X => Row X w.heap.size 181 (shc M W n p g t)) (fun _ _ _ h hk => hk.2.2 h), .is v3, .is (.bool d)]
        [some 58, some 59, some 60, some 61, some 62, none, some 3, some 4] (by kernel_rfl) (by kernel_rfl) (by kernel_rfl) (by kernel_rfl) rfl ⟨?_, ?_, ?_, ?_, ?_, ?_, ?_, ?_, trivial⟩ ?_
      · intro ρ vs W1 hb1 H
        exact gives_load_row (cs := shc M W n p g t) rfl (H.old 10 _ (by kernel_rfl) rfl) Tryz.underlying181 rfl shape_size (row_grown HRH.out hb1.1 (Ne.symm hne)) ⟨upd_at _ _ _, (writes_later _ _ _ _).refl _⟩
      · intro ρ vs W1 hb1 H
        exact gives_move rfl (H.old 8 _ (by kernel_rfl) rfl) ⟨upd_at _ _ _, (writes_later _ _ _ _).refl _⟩
      · intro ρ vs W1 hb1 H
        have e1 : ρ (.tmp 59) = .slice (some ad) n1 c1 := H.holds 59 1 (by kernel_rfl)
        exact gives_slice rfl e1 rfl rfl rfl (by simpa [H.const] using HV3.out W1) ⟨upd_at _ _ _, (writes_later _ _ _ _).refl _⟩
      · intro ρ vs W1 hb1 H
        exact gives_load_row (cs := shc M W n p g t) rfl (H.old 10 _ (by kernel_rfl) rfl) Tryz.underlying181 rfl shape_size (row_grown HRH.out hb1.1 (Ne.symm hne)) ⟨upd_at _ _ _, (writes_later _ _ _ _).refl _⟩
      · intro ρ vs W1 hb1 H
        have e0 : ρ (.tmp 61) = shv M W n p g t := H.holds 61 3 (by kernel_rfl)
        refine gives_call rfl (fun _ _ => by kernel_rfl) (H.func _) (args := #[shv M W n p g t]) (by simp [e0]) ?_
        exact (HRM.out W1).mono fun e w' ⟨h1, h2⟩ => ⟨_, h1, upd_at _ _ _, writes_below (Nat.lt_of_lt_of_le HRZ.out.lt hb1.1.size) h2⟩
      · intro ρ vs W1 hb1 H
        rcases hb1.2.1 HRZ.out with h5 | h5
        · exact gives_store_row rfl (H.old 2 _ (by kernel_rfl) rfl) (H.holds 58 0 (by kernel_rfl)) h5 shape_size rfl (shc_one _ _ _ _ _ _) ⟨rowAll_set h5, writes_set h5⟩
        · exact gives_store_row rfl (H.old 2 _ (by kernel_rfl) rfl) (H.holds 58 0 (by kernel_rfl)) h5 shape_size rfl (shc_one _ _ _ _ _ _) ⟨rowAll_set h5, writes_set h5⟩
      · intro ρ vs W1 hb1 H
        exact gives_assign rfl (H.holds 60 2 (by kernel_rfl)) ⟨upd_at _ _ _, (writes_later _ _ _ _).refl _⟩
      · intro ρ vs W1 hb1 H
        exact gives_assign rfl (H.holds 62 4 (by kernel_rfl)) ⟨upd_at _ _ _, (writes_later _ _ _ _).refl _⟩
      · intro vs W1 hb1 hfs
        have f5 : Row W1 w.heap.size 181 (shc M W n p g t) := hfs 5 (by decide)
        have f6 : vs 6 = v3 := hfs 6 (by decide)
        have f7 : vs 7 = .bool d := hfs 7 (by decide)
        clear hfs
        simp only [putAll, Nat.zero_add, Nat.reduceAdd]
        generalize vs 0 = z0
        generalize vs 1 = z1
        generalize vs 2 = z2
        generalize vs 3 = z3
        generalize vs 4 = z4
        generalize vs 5 = z5
        simp only [f6, f7, Act.put, List.setIfInBounds_toArray, List.set_cons_succ, List.set_cons_zero]
        clear f6 f7
        have HR6 := Lib.hid f5
        have HB6 := Lib.hid (below_grownR HB3.out hb1.1 (Nat.le_refl _) HB3.out.size)
        have HI6 := Lib.hid (isB_grown HI3.out HRZ.out (bv_not _ _ _ _ _ _) hb1.1)
        clear f5 hb1
        go_wp2
        refine bodyPost_ret (results_row_tmp2 rfl _ _ _ 181 (shc M W n p g t).toArray (0, 0) _ rfl HR6.out Tryz.underlying181 rfl shape_size) rfl ?_
        exact ⟨_, rfl, HI6.out, HB6.out⟩
end Go.Proofs.YtblpkmmhmdpkjaaGreatDoor

/- patched's own contract of Put. Written by gen_pput.py. -/









namespace Go.Proofs.YtblpkmmhmdpkjaaGreatDoor

open Go.RowKit

theorem lmin_pbase {l : List Int} (h : 1 ≤ l.length) : lmin l = pbase l := by
  cases l with
  | nil => simp at h
  | cons x l =>
    show l.foldl min x = (x :: l).foldl min x
    rw [List.foldl_cons, Int.min_self]
theorem pplain_neg {l : List Int} (h1 : 1 ≤ l.length) (h : pbase l < 0) : dplain l false = none := omap_none (pbase_mem h1) (by unfold eplain; rw [if_neg (by decide), if_neg (by omega)])
theorem pplain_some {l : List Int} {s : Bool} (h : s = true ∨ ∀ x ∈ l, 0 ≤ x) : dplain l s ≠ none := by
  unfold dplain
  induction l with
  | nil => simp [omap]
  | cons x l ih =>
    have h1 : ∃ u, eplain x s = some u := by
      unfold eplain
      rcases h with h | h
      · rw [if_pos h]; exact ⟨_, rfl⟩
      · have := h x List.mem_cons_self
        split
        · exact ⟨_, rfl⟩
        · first | exact ⟨_, rfl⟩ | (rw [if_pos this]; exact ⟨_, rfl⟩)
    obtain ⟨u, hu⟩ := h1
    have h2 := ih (h.imp id fun h y hy => h y (List.mem_cons_of_mem _ hy))
    rw [omap, hu]
    dsimp only
    cases hr : omap (eplain · s) l with
    | none => exact absurd hr h2
    | some r => simp
theorem wclose_one (n : Nat) : wclosest (n : Int) = wclosest ((max 1 n : Nat) : Int) := by
  by_cases h : n = 0
  · subst h; decide
  · rw [show max 1 n = n by omega]
def Fact.packed (l : List UInt8) : Fact := ⟨fun v w => ∃ b, v = .tuple #[b, .int .i64 0] ∧ IsB l b w, fun _ _ _ ⟨b, h1, h2⟩ hb => ⟨b, h1, h2.below hb⟩⟩
set_option maxHeartbeats 16000000 in
set_option maxRecDepth 100000 in
theorem pput_own (l : List Int) (v : Value) (Wi : Int) (s : Bool) (w : World) (ht : WTab w) (hv : IsV iv l v w) (hl : ∀ x ∈ l, inInt x) (hb : l.length ≤ 1000000) :
    Calls Tryz.prog 159 #[v, .int .i64 Wi, .bool s] w (RetEO w (pputE l Wi s)) := by
  obtain ⟨A, n, c, rfl⟩ := hv.shape
  have hn := hv.parts.1
  have HN := Lib.hid hn
  have HV := Lib.hid hv
  have HL := Lib.hid hl
  have HT := Lib.hid ht
  by_cases hc : 1 ≤ n ∧ n ≤ 512
  case neg =>
    have hE := Lib.hid (pputE_no (l := l) (W := Wi) (s := s) (by omega))
    have HC := Lib.hid (pcount_no (n : Int) w (by omega))
    clear hv hn hl hb ht hc
    go_enter Tryz.func159, Tryz.ntmps159
    go_wp2_with (go_at_call 185; refine HC.out.mono ?_; rintro e w' ⟨rfl, rfl⟩)
    go_ret2
    rw [hE.out]
    exact RetEO.nil _ (Below.refl _ _)
  case pos =>
  obtain ⟨hn1, hn5⟩ := hc
  have HC := Lib.hid (pcount_yes (n : Int) w (by omega) (by omega))
  have HI := Lib.hid (pisw_any Wi w ht)
  by_cases hwd : Wi < 64 ∧ 0 ≤ wcode Wi
  case neg =>
    have hE := Lib.hid (pputE_no (l := l) (W := Wi) (s := s) (by omega))
    rw [show (decide (Wi < 64) && decide (0 ≤ wcode Wi)) = false by simpa using hwd] at HI
    clear hv hn hl hb ht hwd
    go_enter Tryz.func159, Tryz.ntmps159
    go_wp2_with (first | (go_at_call 185; refine HC.out.mono ?_; rintro e w' ⟨rfl, rfl⟩) | (go_at_call 186; refine HI.out.mono ?_; rintro e w' ⟨rfl, rfl⟩))
    go_ret2
    rw [hE.out]
    exact RetEO.nil _ (Below.refl _ _)
  case pos =>
  rw [show (decide (Wi < 64) && decide (0 ≤ wcode Wi)) = true by simpa using hwd] at HI
  obtain ⟨W, rfl⟩ : ∃ W : Nat, Wi = (W : Int) := ⟨Wi.toNat, by have := wcode_range hwd.2; omega⟩
  have HMI := Lib.hid (min_any l _ w hv (by omega) hb)
  rw [lmin_pbase (by omega)] at HMI
  have hbi : inInt (pbase l) := hl _ (pbase_mem (by omega))
  have hW64 : W < 64 := by omega
  have HWC := Lib.hid (pcode_back hwd.2)
  have HW0 := Lib.hid hwd.2
  obtain ⟨base, hba⟩ : ∃ base, base = pbase l := ⟨_, rfl⟩
  by_cases hne : base = -9223372036854775808
  case pos =>
    have hE : Hid (pputE l (W : Int) s = ([], 1)) := Lib.hid (by
      unfold pputE
      split
      · rfl
      · split
        · rfl
        · rw [if_pos (.inl (by rw [← hba]; exact hne))])
    rw [← hba, hne] at HMI
    have HD := Lib.hid (fun X => digits_no X)
    clear hv hn hl hb ht hwd hbi hba hne
    go_enter Tryz.func159, Tryz.ntmps159
    go_wp2_with (first | (go_at_call 185; refine HC.out.mono ?_; rintro e w' ⟨rfl, rfl⟩) | (go_at_call 186; refine HI.out.mono ?_; rintro e w' ⟨rfl, rfl⟩) | (go_at_call 148; refine HMI.out.mono ?_; rintro e w' ⟨rfl, rfl⟩))
    refine (HD.out _).mono ?_
    rintro e w1 ⟨rfl, hb1⟩
    go_wp2
    go_ret2
    rw [hE.out]
    exact RetEO.nil _ hb1
  case neg =>
  have HD := Lib.hid (fun X => digits_yes base X (by rw [hba]; exact hbi) hne)
  have HBI := Lib.hid (show inInt base by rw [hba]; exact hbi)
  obtain ⟨hm1, hm8, _⟩ := pn_bd (psize_base HBI.out hne).2
  rw [← hba] at HMI
  by_cases hng : base < 0 ∧ s = false
  case pos =>
    obtain ⟨hng, rfl⟩ := hng
    have hE := Lib.hid (pputE_no (l := l) (W := (W : Int)) (s := false) (.inl (pplain_neg (by omega) (by rw [← hba]; exact hng))))
    have d1 : decide (base < 0) = true := decide_eq_true hng
    clear hv hn hl hb ht hwd hbi hba hne hng
    go_enter Tryz.func159, Tryz.ntmps159
    go_wp2_with (first | (go_at_call 185; refine HC.out.mono ?_; rintro e w' ⟨rfl, rfl⟩) | (go_at_call 186; refine HI.out.mono ?_; rintro e w' ⟨rfl, rfl⟩) | (go_at_call 148; refine HMI.out.mono ?_; rintro e w' ⟨rfl, rfl⟩))
    refine (HD.out _).mono ?_
    rintro e w1 ⟨g1, rfl, hg1, hr1, hb1⟩
    go_wp2
    go_ret2
    rw [hE.out]
    exact RetEO.nil _ hb1
  case neg =>
  have HNE := Lib.hid hne
  have hcase : decide (base < 0) = false ∨ (decide (base < 0) = true ∧ s = true) := by
    by_cases h : base < 0
    · exact .inr ⟨decide_eq_true h, by cases s with | true => rfl | false => exact absurd ⟨h, rfl⟩ hng⟩
    · exact .inl (decide_eq_false h)
  have HPL := Lib.hid (show dplain l s ≠ none from pplain_some (by
    rcases hcase with h | ⟨_, h⟩
    · exact .inr fun x hx => by have h1 := pbase_le hx; rw [← hba] at h1; have h2 := of_decide_eq_false h; omega
    · exact .inl h))
  have HSZ := Lib.hid (fun X (h : IsV iv l (.slice A n c) X) => sizes_any base l _ X h HBI.out hl hb)
  rw [show omap (pone base) l = pups l by rw [hba]; rfl] at HSZ
  cases hu : pups l with
  | none =>
    have hE := Lib.hid (pputE_ups (W := (W : Int)) (s := s) hu)
    rw [hu] at HSZ
    clear hv hn hl hb ht hwd hbi hba hne hng hu
    rcases hcase with d1 | ⟨d1, rfl⟩
    all_goals
      go_enter Tryz.func159, Tryz.ntmps159
      go_wp2_with (first | (go_at_call 185; refine HC.out.mono ?_; rintro e w' ⟨rfl, rfl⟩) | (go_at_call 186; refine HI.out.mono ?_; rintro e w' ⟨rfl, rfl⟩) | (go_at_call 148; refine HMI.out.mono ?_; rintro e w' ⟨rfl, rfl⟩))
      refine (HD.out _).mono ?_
      rintro e w1 ⟨g1, rfl, hg1, hr1, hb1⟩
      have HB1 := Lib.hid hb1
      clear hr1
      go_wp2_with fail
      refine (HSZ.out _ (HV.out.below hb1)).mono ?_
      rintro e w2 ⟨rfl, hb2⟩
      go_wp2
      go_ret2
      rw [hE.out]
      exact RetEO.nil _ (below_then HB1.out hb2)
  | some us =>
  have HES := Lib.hid (pputE_some (s := s) HPL.out (by omega) (by omega) hwd.2 hW64 hu)
  have HUL := Lib.hid (show us.length = n by rw [pups_len hu]; exact hn)
  have H64 : Hid (∀ u ∈ us, u < 2 ^ 64) := Lib.hid fun u h => by have := pups_lt hl hu u h; show u < 18446744073709551616; omega
  rw [← hba] at HES
  rw [hu] at HSZ
  obtain ⟨g1', g8', p1', p64', pc, pcc, p31', _, hq⟩ := ppairs_ok (w := W) H64.out
  have hq2 := (ppw_ok (w := W) H64.out).2.2
  have hpl := pst_len W us us.length
  have hpl2 := pst_last W us us.length
  obtain ⟨ps, hps⟩ : ∃ ps, ps = ppairs W us := ⟨_, rfl⟩
  rw [show (pst W us us.length).1 = ps from hps.symm] at hpl
  rw [← hps] at g1' g8' p1' p64' pc pcc p31' hq hq2 HES
  have HCUT := Lib.hid (fun X g (h : Row X g 101 (us.map uv)) => cut_any us W g n X h HUL.out H64.out (by omega) (by omega))
  unfold CutPost at HCUT
  rw [← hps] at HCUT
  obtain ⟨t, htl⟩ : ∃ t, t = ps.length := ⟨_, rfl⟩
  have ht1030 : t ≤ 1030 := by have := HUL.out; omega
  obtain ⟨m, hm⟩ : ∃ m, m = pn base := ⟨_, rfl⟩
  have HSO := Lib.hid (fun X vg vp (h : WTab X) (h1 : IsV uv (ps.map (·.1)) vg X) (h2 : IsV uv (ps.map (·.2)) vp X) => shapeof_any (n : Int) (W : Int) (m : Int) vg vp ps X h h1 h2 (fun q h => Nat.lt_of_le_of_lt (hq2 q h).1 (by decide)) (fun q h => (hq2 q h).2) (by omega))
  rw [wclose_one, pc] at HSO
  obtain ⟨G, hG⟩ : ∃ G, G = pgw ps := ⟨_, rfl⟩
  obtain ⟨P, hP⟩ : ∃ P, P = ppw ps := ⟨_, rfl⟩
  rw [← hG] at g1' g8' HES HSO hq
  rw [← hP] at p1' p64' pcc p31' HES HSO hq
  rw [← htl] at HES HSO
  have HPC := Lib.hid pcc
  have HQ := Lib.hid hq
  have HTL := Lib.hid htl
  have HPS := Lib.hid hps
  have HGE := Lib.hid hG
  have HPE := Lib.hid hP
  have HME := Lib.hid hm
  unfold RetDg at HD
  rw [← hm] at hm1 hm8 HD
  unfold pairsV at HSO
  clear hv hn hl hb ht hwd hbi hba hne hng hu hpl hpl2 hq hq2 htl hps hG hP hm pc pcc
  rcases hcase with d1 | ⟨d1, rfl⟩
  all_goals
    go_enter Tryz.func159, Tryz.ntmps159
    go_wp2_with (first | (go_at_call 185; refine HC.out.mono ?_; rintro e w' ⟨rfl, rfl⟩) | (go_at_call 186; refine HI.out.mono ?_; rintro e w' ⟨rfl, rfl⟩) | (go_at_call 148; refine HMI.out.mono ?_; rintro e w' ⟨rfl, rfl⟩))
    refine (HD.out _).mono ?_
    rintro e w1 ⟨gd, rfl, hgd, hr1, hb1⟩
    have HB1 := Lib.hid hb1
    have HR1 := Lib.hid hr1
    have HV1 := Lib.hid (HV.out.below hb1)
    clear hr1 hb1
    go_wp2_with fail
    refine (HSZ.out _ HV1.out).mono ?_
    rintro e w2 ⟨g2, rfl, hg2, hr2, hb2⟩
    rw [HUL.out]
    have HB2 := Lib.hid (HB1.out.trans (hb2.mono HB1.out.size))
    have HR2 := Lib.hid hr2
    have HDL := Lib.hid (show gd < g2 from Nat.lt_of_lt_of_le HR1.out.lt hg2)
    have HD2 := Lib.hid (HR1.out.below hb2 HR1.out.lt)
    have HG2 := Lib.hid (show w.heap.size ≤ g2 from Nat.le_trans HB1.out.size hg2)
    clear hr2 hb2
    go_wp2_with fail
    refine (HCUT.out _ _ HR2.out).mono ?_
    rintro e w3 ⟨u3, v3, rfl, hu3, hv3, hr3, hb3⟩
    obtain ⟨Ag, t1, cg, rfl⟩ := hu3.shape
    obtain ⟨Ap, t2, cp, rfl⟩ := hv3.shape
    obtain rfl : t = t1 := by have := hu3.parts.1; rw [List.length_map] at this; have := HTL.out; omega
    obtain rfl : t = t2 := by have := hv3.parts.1; rw [List.length_map] at this; have := HTL.out; omega
    have HB3 := Lib.hid (HB2.out.trans (hb3.mono HG2.out))
    have HD3 := Lib.hid (HD2.out.below hb3 HDL.out)
    have HS3 := Lib.hid hr3
    have HT3 := Lib.hid (HT.out.below HB3.out HT.out.lt)
    have HU3 := Lib.hid hu3
    have HV3 := Lib.hid hv3
    clear hr3 hu3 hv3 hb3
    obtain ⟨pb, hpb⟩ : ∃ pb, pb = w3.heap.size := ⟨_, rfl⟩
    obtain ⟨w4, hw4⟩ : ∃ w4, w4 = w3.alloc (.cells #[.slice Ag t cg, .slice Ap t cp] 209) := ⟨_, rfl⟩
    have hb4 : Below w3.heap.size w3 w4 := by rw [hw4]; exact (Below.refl _ _).alloc (Nat.le_refl _) _
    have hrp4 : Row w4 pb 209 [.slice Ag t cg, .slice Ap t cp] := by rw [hw4, hpb]; exact heap_alloc_new w3 _
    unfold pairsV
    have hset4 := hw4.symm
    have HB4 := Lib.hid (HB3.out.trans (hb4.mono HB3.out.size))
    have HD4 := Lib.hid (HD3.out.below hb4 HD3.out.lt)
    have HS4 := Lib.hid (HS3.out.below hb4 HS3.out.lt)
    have HU4 := Lib.hid (HU3.out.below hb4)
    have HV4 := Lib.hid (HV3.out.below hb4)
    have HRP4 := Lib.hid hrp4
    have hp0 : w4.cell? ⟨w3.heap.size, 0, none⟩ = some (.slice Ag t cg) := by rw [← hpb]; exact hrp4.cell 0
    have hp1 : w4.cell? ⟨w3.heap.size, 1, none⟩ = some (.slice Ap t cp) := by rw [← hpb]; exact hrp4.cell 1
    have HPB := Lib.hid hpb
    clear hb4 hrp4 hw4 hpb
    go_wp2_with fail
    refine (HSO.out w4 _ _ (HT.out.below HB4.out HT.out.lt) HU4.out HV4.out).mono ?_
    rintro e w5 ⟨rfl, hb5⟩
    rw [← HPB.out]
    clear hp0 hp1 hset4
    have HB5 := Lib.hid (HB4.out.trans (hb5.mono HB4.out.size))
    obtain ⟨sb, hsb⟩ : ∃ sb, sb = w5.heap.size := ⟨_, rfl⟩
    obtain ⟨w6, hw6⟩ : ∃ w6, w6 = w5.alloc (.cells (shc (n : Int) (W : Int) (m : Int) (P : Int) (G : Int) (t : Int)).toArray 181) := ⟨_, rfl⟩
    have hb6 : Below w4.heap.size w4 w6 := by rw [hw6]; exact hb5.alloc hb5.size _
    have hrs6 : Row w6 sb 181 (shc (n : Int) (W : Int) (m : Int) (P : Int) (G : Int) (t : Int)) := by rw [hw6, hsb]; exact heap_alloc_new w5 _
    have hset6 := hw6.symm
    unfold shc at hset6
    have HB6 := Lib.hid (HB4.out.trans (hb6.mono HB4.out.size))
    have HD6 := Lib.hid (HD4.out.below hb6 HD4.out.lt)
    have HS6 := Lib.hid (HS4.out.below hb6 HS4.out.lt)
    have HU6 := Lib.hid (HU4.out.below hb6)
    have HV6 := Lib.hid (HV4.out.below hb6)
    have HRP6 := Lib.hid (HRP4.out.below hb6 HRP4.out.lt)
    have HRS6 := Lib.hid hrs6
    have hc0 : w6.cell? ⟨sb, 0, none⟩ = some (.int .i64 (n : Int)) := hrs6.cell 0
    have hc1 : w6.cell? ⟨sb, 1, none⟩ = some (.int .i64 (W : Int)) := hrs6.cell 1
    have hc2 : w6.cell? ⟨sb, 2, none⟩ = some (.int .i64 (m : Int)) := hrs6.cell 2
    have hc3 : w6.cell? ⟨sb, 3, none⟩ = some (.int .i64 (P : Int)) := hrs6.cell 3
    have hc4 : w6.cell? ⟨sb, 4, none⟩ = some (.int .i64 (G : Int)) := hrs6.cell 4
    have hc5 : w6.cell? ⟨sb, 5, none⟩ = some (.int .i64 (t : Int)) := hrs6.cell 5
    rw [hsb] at hc0 hc1 hc2 hc3 hc4 hc5
    have HSB := Lib.hid hsb
    unfold shv shc
    clear hb5 hb6 hrs6 hw6 hsb
    by_cases h31 : 31 < t
    case pos =>
      have hE : Hid (pputE l (W : Int) _ = ([], 1)) := Lib.hid (by rw [HES.out, if_pos (.inr (.inl h31))])
      have d5 : decide ((31 : Int) < (t : Int)) = true := decide_eq_true (by omega)
      go_wp2
      go_ret2
      rw [hE.out]
      exact RetEO.nil _ HB6.out
    case neg =>
    have d5 : decide ((31 : Int) < (t : Int)) = false := decide_eq_false (by omega)
    have HRM := Lib.hid (proom_any (n : Int) (W : Int) (m : Int) (P : Int) (G : Int) (t : Int) w6 ⟨by omega, by omega⟩ ⟨by omega, by omega⟩)
    unfold shv shc at HRM
    by_cases hgp : 64 < G + P
    case pos =>
      have hE : Hid (pputE l (W : Int) _ = ([], 1)) := Lib.hid (by rw [HES.out, if_pos (.inr (.inr (.inl hgp)))])
      rw [decide_eq_false (by omega : ¬ ((G : Int) + (P : Int) ≤ 64))] at HRM
      go_wp2_with fail
      refine HRM.out.mono ?_
      rintro e w7 ⟨rfl, hb7⟩
      go_wp2
      go_ret2
      rw [hE.out]
      exact RetEO.nil _ (below_then HB6.out hb7)
    case neg =>
    rw [decide_eq_true (by omega : (G : Int) + (P : Int) ≤ 64)] at HRM
    go_wp2_with fail
    refine HRM.out.mono ?_
    rintro e w7 ⟨rfl, hb7⟩
    rw [← HSB.out]
    have hrs7 := HRS6.out.below hb7 HRS6.out.lt
    clear hc0 hc1 hc2 hc3 hc4 hc5
    have hc1 : w7.cell? ⟨sb, 1, none⟩ = some (.int .i64 (W : Int)) := hrs7.cell 1
    have hc3 : w7.cell? ⟨sb, 3, none⟩ = some (.int .i64 (P : Int)) := hrs7.cell 3
    have HB7 := Lib.hid (HB6.out.trans (hb7.mono HB6.out.size))
    have HD7 := Lib.hid (HD6.out.below hb7 HD6.out.lt)
    have HS7 := Lib.hid (HS6.out.below hb7 HS6.out.lt)
    have HU7 := Lib.hid (HU6.out.below hb7)
    have HV7 := Lib.hid (HV6.out.below hb7)
    have HRP7 := Lib.hid (HRP6.out.below hb7 HRP6.out.lt)
    have HRS7 := Lib.hid hrs7
    clear hb7 hrs7
    have hWPi : IntKind.i64.wrap ((W : Int) + (P : Int)) = (W : Int) + (P : Int) := by rw [IntKind.wrap_i64]; omega
    by_cases hwp : 64 < W + P
    case pos =>
      have hE : Hid (pputE l (W : Int) _ = ([], 1)) := Lib.hid (by rw [HES.out, if_pos (.inr (.inr (.inr hwp)))])
      have d6 : decide ((64 : Int) < (W : Int) + (P : Int)) = true := decide_eq_true (by omega)
      go_wp2
      go_ret2
      rw [hE.out]
      exact RetEO.nil _ HB7.out
    case neg =>
    have d6 : decide ((64 : Int) < (W : Int) + (P : Int)) = false := decide_eq_false (by omega)
    have hE : Hid (pputE l (W : Int) _ = (play base us W, 0)) := Lib.hid (by rw [HES.out, if_neg (by rintro (h | h | h | h) <;> first | exact HNE.out h | omega)])
    obtain ⟨pk, hpk⟩ : ∃ pk, pk = bpack (plow us W) W := ⟨_, rfl⟩
    have hplen : (plow us W).length = n := by unfold plow; rw [List.length_map, HUL.out]
    have hplt : ∀ x ∈ plow us W, x < 2 ^ W := fun x hx => by
      obtain ⟨u, _, rfl⟩ := List.mem_map.1 hx
      exact Nat.mod_lt _ (Nat.two_pow_pos W)
    have HPK := Lib.hid (pack_isO (W : Int) (show IsU (plow us W) (.slice (some ⟨g2, 0, none⟩) n n) w7 from isV_row HS7.out hplen (by omega)) (by omega) (fun x hx => Nat.lt_of_lt_of_le (hplt x hx) (Nat.pow_le_pow_right (by omega) (by omega))))
    rw [packsAny_in _ _ (by omega), packs_ok hplt, ← hpk] at HPK
    have HPKE := Lib.hid hpk
    have HPLN := Lib.hid hplen
    clear hpk hplen hplt
    go_wp2_with fail
    refine HPK.out.mono ?_
    rintro e w8 ⟨v8, rfl, ho8, hb8⟩
    have HB8 := Lib.hid (HB7.out.trans (hb8.mono HB7.out.size))
    have HK8 := Lib.hid (isB_own ho8)
    have HD8 := Lib.hid (HD7.out.below hb8 HD7.out.lt)
    have HGA := Lib.hid (HU7.out.below hb8)
    have HPA := Lib.hid (HV7.out.below hb8)
    have HRP := Lib.hid (HRP7.out.below hb8 HRP7.out.lt)
    have HRS := Lib.hid (HRS7.out.below hb8 HRS7.out.lt)
    have HT8 := Lib.hid (HT.out.below HB8.out HT.out.lt)
    have HLS := Lib.hid HRS.out.lt
    have HC3 := Lib.hid (show w8.cell? ⟨sb, 3, none⟩ = some (.int .i64 (P : Int)) from HRS.out.cell 3)
    clear ho8 hb8 hc1 hc3
    obtain ⟨V, hV⟩ : ∃ V, V = (wclosest ((G + P : Nat) : Int)).toNat := ⟨_, rfl⟩
    obtain ⟨_, V64, VGP, _, _, VE, _⟩ := pclose (n := G + P) (by omega)
    rw [← hV] at V64 VGP VE
    obtain ⟨jn, hjn⟩ : ∃ jn, jn = pboth ps P := ⟨_, rfl⟩
    obtain ⟨pj, hpj⟩ : ∃ pj, pj = bpack jn V := ⟨_, rfl⟩
    have hjl : jn.length = t := by rw [hjn]; unfold pboth; rw [List.length_map, HTL.out]
    have hjlt : ∀ x ∈ jn, x < 2 ^ V := fun x hx => Nat.lt_of_lt_of_le (pboth_lt HQ.out x (by rw [← hjn]; exact hx)) (Nat.pow_le_pow_right (by omega) VGP)
    have HJN := Lib.hid (fun X (h1 : IsV uv (ps.map (·.1)) (.slice Ag t cg) X) (h2 : IsV uv (ps.map (·.2)) (.slice Ap t cp) X) => joined_any (.slice Ag t cg) (.slice Ap t cp) ps P X h1 h2 (fun q h => by
      have h3 : q.1 * 2 ^ P < 2 ^ G * 2 ^ P := Nat.mul_lt_mul_of_pos_right (HQ.out q h).1 (Nat.two_pow_pos P)
      rw [← Nat.pow_add] at h3
      exact Nat.lt_of_lt_of_le h3 (Nat.pow_le_pow_right (by omega) (by omega))) (fun q h => (HQ.out q h).2) (by omega) (by have := HTL.out; omega))
    rw [← hjn] at HJN
    have HPW := Lib.hid (fun X (h : WTab X) => ppair_any (n : Int) (W : Int) (m : Int) (P : Int) (G : Int) (t : Int) X h ⟨by omega, by omega⟩ ⟨by omega, by omega⟩)
    rw [show wclosest ((G : Int) + (P : Int)) = (V : Int) by rw [← VE]; congr 1] at HPW
    have HPJ := Lib.hid (fun u X (h : IsV uv jn u X) => pack_is (V : Int) (show IsU jn u X from h) (by omega) (fun x hx => Nat.lt_of_lt_of_le (hjlt x hx) (Nat.pow_le_pow_right (by omega) V64)))
    rw [packsAny_in _ _ V64, packs_ok hjlt, ← hpj] at HPJ
    have HPJE := Lib.hid hpj
    have HJNE := Lib.hid hjn
    have HVE := Lib.hid hV
    have HJL := Lib.hid hjl
    clear hV hjn hpj hjl hjlt VE
    go_wp2
    refine wp_region_list [.is (pairsV (.slice Ag t cg) (.slice Ap t cp)), .is (.pointer (some ⟨sb, 3, none⟩)), .is (.int .i64 (P : Int)), .vals uv jn, .is (shv (n : Int) (W : Int) (m : Int) (P : Int) (G : Int) (t : Int)), .is (.int .i64 (V : Int)), .packed pj, .packed pj, .bytes (pj), .is (.int .i64 0), .bytes (pj), .is (.int .i64 0)] [some 87, some 88, some 89, some 90, some 91, some 92, some 93, some 86, some 94, some 95, some 16, some 15] (by kernel_rfl) (by kernel_rfl) (by kernel_rfl) rfl ⟨?_, ?_, ?_, ?_, ?_, ?_, ?_, ?_, ?_, ?_, ?_, ?_, trivial⟩ ?_
    · intro ρ W1 hb1 H
      exact gives_load_row (cs := [.slice Ag t cg, .slice Ap t cp]) rfl (H.old 12 _ (by kernel_rfl) rfl) Tryz.underlying209 rfl pairs_size (HRP.out.below hb1 HRP.out.lt) ⟨rfl, Below.refl _ _⟩
    · intro ρ W1 hb1 H
      exact gives_field rfl (H.old 13 _ (by kernel_rfl) rfl) (fun W => shape_at3 W _) ⟨rfl, Below.refl _ _⟩
    · intro ρ W1 hb1 H
      exact gives_load rfl (H.new 88 1 (by kernel_rfl)) Tryz.underlying3 rfl ((hb1.cell HLS.out).trans HC3.out) ⟨rfl, Below.refl _ _⟩
    · intro ρ W1 hb1 H
      have e0 : ρ (.tmp 87) = pairsV (.slice Ag t cg) (.slice Ap t cp) := H.new 87 0 (by kernel_rfl)
      have e1 : ρ (.tmp 89) = .int .i64 (P : Int) := H.new 89 2 (by kernel_rfl)
      refine gives_call rfl (fun _ _ => by kernel_rfl) (H.func _) (args := #[pairsV (.slice Ag t cg) (.slice Ap t cp), .int .i64 (P : Int)]) (by simp [e0, e1]) ?_
      exact (HJN.out W1 (HGA.out.below hb1) (HPA.out.below hb1)).mono fun e w' ⟨v, h1, h2, h3⟩ => ⟨v, h1, h2, h3⟩
    · intro ρ W1 hb1 H
      exact gives_load_row (cs := shc (n : Int) (W : Int) (m : Int) (P : Int) (G : Int) (t : Int)) rfl (H.old 13 _ (by kernel_rfl) rfl) Tryz.underlying181 rfl shape_size (HRS.out.below hb1 HRS.out.lt) ⟨rfl, Below.refl _ _⟩
    · intro ρ W1 hb1 H
      have e0 : ρ (.tmp 91) = shv (n : Int) (W : Int) (m : Int) (P : Int) (G : Int) (t : Int) := H.new 91 4 (by kernel_rfl)
      refine gives_call rfl (fun _ _ => by kernel_rfl) (H.func _) (args := #[shv (n : Int) (W : Int) (m : Int) (P : Int) (G : Int) (t : Int)]) (by simp [e0]) ?_
      exact (HPW.out W1 (HT8.out.below hb1 HT8.out.lt)).mono fun e w' ⟨h1, h2⟩ => ⟨_, h1, rfl, h2⟩
    · intro ρ W1 hb1 H
      have e0 : IsV uv jn (ρ (.tmp 90)) W1 := H.new 90 3 (by kernel_rfl)
      have e1 : ρ (.tmp 92) = .int .i64 (V : Int) := H.new 92 5 (by kernel_rfl)
      refine gives_call rfl (fun _ _ => by kernel_rfl) (H.func _) (args := #[ρ (.tmp 90), .int .i64 (V : Int)]) (by simp [e1]) ?_
      exact (HPJ.out _ W1 e0).mono fun e w' ⟨v, h1, h2, h3⟩ => ⟨_, h1, ⟨v, rfl, h2⟩, h3⟩
    · intro ρ W1 hb1 H
      exact gives_move rfl rfl ⟨H.new 93 6 (by kernel_rfl), Below.refl _ _⟩
    · intro ρ W1 hb1 H
      have h86 : ∃ b, ρ (.tmp 86) = .tuple #[b, .int .i64 0] ∧ IsB pj b W1 := H.new 86 7 (by kernel_rfl)
      obtain ⟨b, h1, h2⟩ := h86
      exact gives_extract rfl h1 rfl ⟨h2, Below.refl _ _⟩
    · intro ρ W1 hb1 H
      have h86 : ∃ b, ρ (.tmp 86) = .tuple #[b, .int .i64 0] ∧ IsB pj b W1 := H.new 86 7 (by kernel_rfl)
      obtain ⟨b, h1, h2⟩ := h86
      exact gives_extract rfl h1 rfl ⟨rfl, Below.refl _ _⟩
    · intro ρ W1 hb1 H
      exact gives_assign rfl rfl ⟨H.new 94 8 (by kernel_rfl), Below.refl _ _⟩
    · intro ρ W1 hb1 H
      exact gives_assign rfl (H.new 95 9 (by kernel_rfl)) ⟨rfl, Below.refl _ _⟩
    · intro vs W1 hb1 hfs
      have f10 : IsB (pj) (vs 10) W1 := hfs 10 (by decide)
      have f11 : vs 11 = .int .i64 0 := hfs 11 (by decide)
      clear hfs
      simp only [putAll, Nat.zero_add, Nat.reduceAdd]
      generalize vs 0 = z0
      generalize vs 1 = z1
      generalize vs 2 = z2
      generalize vs 3 = z3
      generalize vs 4 = z4
      generalize vs 5 = z5
      generalize vs 6 = z6
      generalize vs 7 = z7
      generalize vs 8 = z8
      generalize vs 9 = z9
      generalize vs 10 = z10 at f10 ⊢
      simp only [f11, Act.put, List.setIfInBounds_toArray, List.set_cons_succ, List.set_cons_zero]
      clear f11
      have HBJ := Lib.hid f10
      have hrow9 := HRS.out.below hb1 HRS.out.lt
      have hc0 : W1.cell? ⟨sb, 0, none⟩ = some (.int .i64 (n : Int)) := hrow9.cell 0
      have hc1 : W1.cell? ⟨sb, 1, none⟩ = some (.int .i64 (W : Int)) := hrow9.cell 1
      have hc2 : W1.cell? ⟨sb, 2, none⟩ = some (.int .i64 (m : Int)) := hrow9.cell 2
      have hc3 : W1.cell? ⟨sb, 3, none⟩ = some (.int .i64 (P : Int)) := hrow9.cell 3
      have hc4 : W1.cell? ⟨sb, 4, none⟩ = some (.int .i64 (G : Int)) := hrow9.cell 4
      have hc5 : W1.cell? ⟨sb, 5, none⟩ = some (.int .i64 (t : Int)) := hrow9.cell 5
      have HB9 := Lib.hid (HB8.out.trans (hb1.mono HB8.out.size))
      have HD9 := Lib.hid (HD8.out.below hb1 HD8.out.lt)
      have HK9 := Lib.hid (HK8.out.below hb1)
      have HT9 := Lib.hid (HT8.out.below hb1 HT8.out.lt)
      clear hrow9 f10 hb1
      have HHE := Lib.hid (head_own n W m P G t W1 HT9.out hn1 hn5 HWC.out.2.2 HWC.out.2.1 hm1 hm8 HPC.out p31' g1' g8' (by omega))
      unfold shv shc at HHE
      go_wp2_with fail
      refine HHE.out.mono ?_
      rintro e w10 ⟨v10, rfl, ho10, hb10⟩
      have HB10 := Lib.hid (HB9.out.trans (hb10.mono HB9.out.size))
      have HH10 := Lib.hid (isB_own ho10)
      have HD10 := Lib.hid (HD9.out.below hb10 HD9.out.lt)
      have HK10 := Lib.hid (HK9.out.below hb10)
      have HJ10 := Lib.hid (HBJ.out.below hb10)
      clear ho10 hb10 hc0 hc1 hc2 hc3 hc4 hc5
      obtain ⟨hd, hhd⟩ : ∃ hd, hd = dheadN 2 (pcode W) n ++ [UInt8.ofNat (32 * (m - 1) + pcode P), UInt8.ofNat (32 * (G - 1) + t)] := ⟨_, rfl⟩
      rw [← hhd] at HH10
      have HHL := Lib.hid (show hd.length = 4 by rw [hhd, List.length_append, dheadN_len]; rfl)
      have HHD := Lib.hid hhd
      clear hhd
      obtain ⟨A10, n10, c10, h10⟩ := (isB_iff.1 HH10.out).shape
      obtain ⟨A8, n8, c8, h8⟩ := (isB_iff.1 HK10.out).shape
      obtain ⟨Az, nz, cz, hz⟩ := (isB_iff.1 HJ10.out).shape
      subst h10 h8 hz
      obtain ⟨xs, hxs⟩ : ∃ xs : List (Value × List UInt8), xs = [(.slice A10 n10 c10, hd), (.slice (some ⟨gd, 0, none⟩) m m, pbased base), (.slice A8 n8 c8, pk), (.slice Az nz cz, pj)] := ⟨_, rfl⟩
      obtain ⟨w11, hw11⟩ : ∃ w11, w11 = w10.alloc (.cells #[.slice A10 n10 c10, .slice (some ⟨gd, 0, none⟩) m m, .slice A8 n8 c8, .slice Az nz cz] 38) := ⟨_, rfl⟩
      have hb11 : Below w10.heap.size w10 w11 := by rw [hw11]; exact (Below.refl _ _).alloc (Nat.le_refl _) _
      have hpkl : pk.length ≤ 5000 := by
        rw [HPKE.out, bpack_len]
        unfold bsize
        rw [HPLN.out]
        have : n * W ≤ 512 * 64 := Nat.mul_le_mul hn5 (by omega)
        omega
      have hpjl : pj.length ≤ 5000 := by
        rw [HPJE.out, bpack_len]
        unfold bsize
        rw [HJL.out]
        have : t * V ≤ 31 * 64 := Nat.mul_le_mul (by omega) V64
        omega
      have hdl : (pbased base).length = m := by rw [pbased_len, HME.out]
      have HCC := Lib.hid (concat_own xs (.slice (some ⟨w10.heap.size, 0, none⟩) 4 4) w11 (by rw [hw11, hxs]; exact isV_new (fun x : Value × List UInt8 => x.1) w10 38 _ 4 rfl (by omega)) (by
        intro x hx
        rw [hxs] at hx
        simp only [List.mem_cons, List.not_mem_nil, or_false] at hx
        rcases hx with h | h | h | h <;> subst h
        · exact HH10.out.below hb11
        · exact (isB_row HD10.out hdl (by omega)).below hb11
        · exact HK10.out.below hb11
        · exact HJ10.out.below hb11) (by rw [hxs]; simp) (by rw [hxs]; simp only [List.flatMap_cons, List.flatMap_nil, List.length_append, List.length_nil]; have := HHL.out; omega))
      have HPLAY := Lib.hid (show xs.flatMap (·.2) = play base us W by
        rw [hxs]
        simp only [List.flatMap_cons, List.flatMap_nil, List.append_nil]
        unfold play pheadb
        rw [← HPS.out, ← HPE.out, ← HGE.out, ← HME.out, ← HTL.out, HUL.out, ← HVE.out, ← HJNE.out, ← HPJE.out, ← HPKE.out, HHD.out]
        simp only [List.append_assoc])
      rw [HPLAY.out] at HCC
      have HB11 := Lib.hid (HB10.out.trans (hb11.mono HB10.out.size))
      have HW11 := Lib.hid hw11
      clear hxs hpkl hpjl hdl hb11 hw11
      go_wp2_with fail
      rw [← HW11.out]
      refine HCC.out.mono ?_
      rintro e w12 ⟨v12, rfl, ho12, hb12⟩
      have HO12 := Lib.hid ho12
      have HB12 := Lib.hid (below_then HB11.out hb12)
      clear ho12 hb12
      go_wp2
      go_ret2
      rw [hE.out]
      exact ⟨_, rfl, own_base HB11.out.size HO12.out, HB12.out⟩
      
end Go.Proofs.YtblpkmmhmdpkjaaGreatDoor

/- patched's own contracts: Take; Put. Written by gen_pis.py. -/



namespace Go.Proofs.YtblpkmmhmdpkjaaGreatDoor

open Go.RowKit

def Fact.ownU (w0 : World) (us : List Nat) : Fact := ⟨fun v w => w.ownsRow w0.heap.size 101 1 v us.length (us.map uv), fun _ _ _ h hb => own_below h hb⟩
def Fact.takenO (w0 : World) (us : List Nat) (q : List UInt8) (y : Int) : Fact := ⟨fun v w => ∃ u r, v = .tuple #[u, r, .int .i64 y] ∧ w.ownsRow w0.heap.size 101 1 u us.length (us.map uv) ∧ OwnB w0 q r w, fun _ _ _ ⟨u, r, h1, h2, h3⟩ hb => ⟨u, r, h1, own_below h2 hb, h3.below hb⟩⟩
theorem pput_any (l : List Int) (v : Value) (W : Int) (s : Bool) (w : World) (ht : WTab w) (hv : IsV iv l v w) (hl : ∀ x ∈ l, inInt x) (hb : l.length ≤ 1000000) (_hW : inInt W) : Calls Tryz.prog 159 #[v, .int .i64 W, .bool s] w (RetE w (pputE l W s)) :=
  (pput_own l v W s w ht hv hl hb).mono fun _ _ h => h.e
set_option maxHeartbeats 16000000 in
set_option maxRecDepth 100000 in
theorem ptake_own (l : List UInt8) (v : Value) (s : Bool) (w : World) (ht : WTab w) (hv : IsB l v w) (hb : l.length ≤ 1000000) :
    Calls Tryz.prog 129 #[v, .bool s] w (RetIO w (ptakeE l s)) := by
  by_cases hbad : (dlook l).2.2.2.2 ≠ 0 ∨ (dlook l).1 ≠ 2 ∨ (dlook l).2.2.2.1.length < 2
  case pos =>
    have HLN := Lib.hid (look_no l v w hv hb hbad)
    have hE : Hid (ptakeE l s = ([], [], 2)) := Lib.hid (by
      by_cases h : (dlook l).2.2.2.2 ≠ 0 ∨ (dlook l).1 ≠ 2
      · exact ptakeE_head h
      · have h1 : (dlook l).2.2.2.2 = 0 := Classical.byContradiction fun k => h (.inl k)
        have h2 : (dlook l).1 = 2 := Classical.byContradiction fun k => h (.inr k)
        have h3 : (dlook l).2.2.2.1.length < 2 := hbad.elim (fun k => absurd h1 k) (fun k => k.elim (fun k => absurd h2 k) id)
        obtain ⟨K, C, M, r, x, hd⟩ : ∃ K C M r x, dlook l = (K, C, M, r, x) := ⟨_, _, _, _, _, rfl⟩
        rw [hd] at h1 h2 h3
        dsimp only at h1 h2 h3
        subst h1 h2
        rw [ptakeE_in hd, pbody_short h3])
    obtain ⟨A0, c0, rfl, _⟩ := hv
    unfold shv shc at HLN
    clear hbad
    go_enter Tryz.func129, Tryz.ntmps129
    go_wp2_with fail
    refine HLN.out.mono ?_
    rintro e w1 ⟨rfl, hb1⟩
    go_wp2
    go_ret3
    rw [hE.out]
    exact RetIO.nil _ (hb1.alloc hb1.size _)
  case neg =>
  obtain ⟨hx0, hK2, hr2⟩ : (dlook l).2.2.2.2 = 0 ∧ (dlook l).1 = 2 ∧ 2 ≤ (dlook l).2.2.2.1.length :=
    ⟨Classical.byContradiction fun k => hbad (.inl k), Classical.byContradiction fun k => hbad (.inr (.inl k)), Nat.not_lt.1 fun k => hbad (.inr (.inr k))⟩
  rcases dlook_or l with ⟨_, hd⟩ | ⟨_, K, C, m, _, hC, hm1, hm5, hd⟩
  · rw [hd] at hx0; cases hx0
  rw [hd] at hK2 hr2
  dsimp only at hK2 hr2
  obtain ⟨r, hr⟩ : ∃ r, r = l.drop 2 := ⟨_, rfl⟩
  rw [← hr] at hd hr2
  rw [hK2] at hd
  have hrl : r.length ≤ 1000000 := by rw [hr, List.length_drop]; omega
  obtain ⟨b0, hb0⟩ : ∃ b : Nat, b = r[0].toNat := ⟨_, rfl⟩
  obtain ⟨b1, hb1'⟩ : ∃ b : Nat, b = r[1].toNat := ⟨_, rfl⟩
  have hb08 : b0 < 256 := by rw [hb0]; exact UInt8.toNat_lt _
  have hb18 : b1 < 256 := by rw [hb1']; exact UInt8.toNat_lt _
  obtain ⟨n, hn⟩ : ∃ n, n = b0 / 32 + 1 := ⟨_, rfl⟩
  obtain ⟨g, hg⟩ : ∃ g, g = b1 / 32 + 1 := ⟨_, rfl⟩
  obtain ⟨t, htt⟩ : ∃ t, t = b1 % 32 := ⟨_, rfl⟩
  obtain ⟨p, hp⟩ : ∃ p : Nat, wof ((b0 % 32 : Nat) : Int) = (p : Int) := ⟨(wof ((b0 % 32 : Nat) : Int)).toNat, by have := wof_bd ((b0 % 32 : Nat) : Int); omega⟩
  have hp64 : p ≤ 64 := by have := wof_bd ((b0 % 32 : Nat) : Int); omega
  obtain ⟨W, hW⟩ : ∃ W : Nat, wof (C : Int) = (W : Int) := ⟨(wof (C : Int)).toNat, by have := wof_bd (C : Int); omega⟩
  have hW64 : W ≤ 64 := by have := wof_bd (C : Int); omega
  have HLK := Lib.hid (look_yes l r v w (C : Int) (m : Int) b0 b1 n g t p ht hv hb hd hr2 hrl (by unfold inInt; omega) hb0 hb1' hn hg htt hp hp64)
  rw [hW] at HLK
  unfold LookPost at HLK
  obtain ⟨d, hdd⟩ : ∃ d, d = r.drop 2 := ⟨_, rfl⟩
  have HPB := Lib.hid (pbody_eq (s := s) (c := (C : Int)) (m := (m : Int)) hr2 hb0 hb1' hn hg htt hp hdd)
  have HE0 := Lib.hid (ptakeE_in (s := s) hd)
  rw [← hdd] at HLK
  have hd6 : d.length ≤ 1000000 := by rw [hdd, List.length_drop]; omega
  have HWC := Lib.hid hW
  have HT := Lib.hid ht
  have hn1 : 1 ≤ n := by omega
  have hn8 : n ≤ 8 := by omega
  have hg8 : g ≤ 8 := by omega
  have ht31 : t ≤ 31 := by omega
  obtain ⟨A0, c0, rfl, _⟩ := hv
  clear ht hbad hx0 hd hr hb0 hb1' hn hg htt hp hW hdd hrl hr2
  unfold shv shc at HLK
  obtain ⟨rm, hrm⟩ : ∃ rm, rm = decide ((g : Int) + (p : Int) ≤ 64) := ⟨_, rfl⟩
  rw [← hrm] at HLK
  by_cases hgp : 64 < g + p
  case pos =>
    have hE : Hid (ptakeE l s = ([], [], 2)) := Lib.hid (by rw [HE0.out, HPB.out, if_pos (.inl hgp)])
    obtain rfl : rm = false := by rw [hrm]; exact decide_eq_false (by omega)
    clear hrm
    go_enter Tryz.func129, Tryz.ntmps129
    go_wp2_with fail
    refine HLK.out.mono ?_
    rintro e w1 ⟨rv, rfl, hrv, hb1⟩
    obtain ⟨A1, n1, c1, rfl⟩ := (isB_iff.1 hrv).shape
    clear hrv
    go_wp2
    go_ret3
    rw [hE.out]
    exact RetIO.nil _ (hb1.alloc hb1.size _)
  case neg =>
  obtain rfl : rm = true := by rw [hrm]; exact decide_eq_true (by omega)
  clear hrm
  go_enter Tryz.func129, Tryz.ntmps129
  go_wp2_with fail
  refine HLK.out.mono ?_
  rintro e w1 ⟨rv, rfl, hrv, hb1⟩
  obtain ⟨A1, n1, c1, rfl⟩ := (isB_iff.1 hrv).shape
  have hn1d : d.length = n1 := (isB_iff.1 hrv).parts.1
  obtain ⟨sb, hsb⟩ : ∃ sb, sb = w1.heap.size := ⟨_, rfl⟩
  obtain ⟨w2, hw2⟩ : ∃ w2, w2 = w1.alloc (.cells (shc (m : Int) (W : Int) (n : Int) (p : Int) (g : Int) (t : Int)).toArray 181) := ⟨_, rfl⟩
  have hb2 : Below w1.heap.size w1 w2 := by rw [hw2]; exact (Below.refl _ _).alloc (Nat.le_refl _) _
  have hrs2 : Row w2 sb 181 (shc (m : Int) (W : Int) (n : Int) (p : Int) (g : Int) (t : Int)) := by rw [hw2, hsb]; exact heap_alloc_new w1 _
  have HB2 := Lib.hid (hb1.trans (hb2.mono hb1.size))
  have HR2 := Lib.hid (hrv.below hb2)
  have HRS2 := Lib.hid hrs2
  have HN1 := Lib.hid hn1d
  have hset2 := hw2.symm
  unfold shc at hset2
  have hc0 : w2.cell? ⟨sb, 0, none⟩ = some (.int .i64 (m : Int)) := hrs2.cell 0
  have hc1 : w2.cell? ⟨sb, 1, none⟩ = some (.int .i64 (W : Int)) := hrs2.cell 1
  have hc2 : w2.cell? ⟨sb, 2, none⟩ = some (.int .i64 (n : Int)) := hrs2.cell 2
  have hc3 : w2.cell? ⟨sb, 3, none⟩ = some (.int .i64 (p : Int)) := hrs2.cell 3
  have hc4 : w2.cell? ⟨sb, 4, none⟩ = some (.int .i64 (g : Int)) := hrs2.cell 4
  have hc5 : w2.cell? ⟨sb, 5, none⟩ = some (.int .i64 (t : Int)) := hrs2.cell 5
  rw [hsb] at hc0 hc1 hc2 hc3 hc4 hc5
  have HSB := Lib.hid hsb
  clear hrv hb1 hb2 hrs2 hw2 hn1d hsb
  by_cases hdn : n1 < n
  case pos =>
    have hE : Hid (ptakeE l s = ([], [], 2)) := Lib.hid (by rw [HE0.out, HPB.out, if_pos (.inr (by rw [HN1.out]; exact hdn))])
    have d1 : decide ((n1 : Int) < (n : Int)) = true := decide_eq_true (by omega)
    go_wp2
    go_ret3
    rw [hE.out]
    exact RetIO.nil _ HB2.out
  case neg =>
  have d1 : decide ((n1 : Int) < (n : Int)) = false := decide_eq_false (by omega)
  have HE1 := Lib.hid (show ptakeE l s = pbits s (pmade (d.take n)) (C : Int) (m : Int) g p t (d.drop n) by rw [HE0.out, HPB.out, if_neg (by have := HN1.out; omega)])
  obtain ⟨BA, hBA⟩ : ∃ BA, BA = pmade (d.take n) := ⟨_, rfl⟩
  have HNB := Lib.hid (number_any (d.take n) (.slice A1 n c1) w2 (isB_iff.2 ((isB_iff.1 HR2.out).take (by omega))) (by rw [List.length_take]; have := HN1.out; omega) (by rw [List.length_take]; omega))
  have HBI := Lib.hid (pmade_sign (x := d.take n) (by rw [List.length_take]; have := HN1.out; omega) (by rw [List.length_take]; omega) rfl rfl).2.1
  rw [← hBA] at HNB HE1 HBI
  clear hBA
  have hnc1 : n ≤ c1 := by have := (isB_iff.1 HR2.out).parts.2.2.1; omega
  have hci : (c1 : Int) ≤ 9223372036854775807 := by have := (isB_iff.1 HR2.out).parts.2.2.2.1; unfold maxLen at this; omega
  go_wp2_with fail
  refine HNB.out.mono ?_
  rintro e w3 ⟨rfl, hb3⟩
  rw [← HSB.out]
  have HB3 := Lib.hid (HB2.out.trans (hb3.mono HB2.out.size))
  have HRS := Lib.hid (HRS2.out.below hb3 HRS2.out.lt)
  have HLS := Lib.hid HRS.out.lt
  have HR3 := Lib.hid (HR2.out.below hb3)
  clear hb3 hc0 hc1 hc2 hc3 hc4 hc5 hset2
  obtain ⟨hp1, hp2, hp3, hp4, hp5⟩ := (isB_iff.1 HR3.out).parts
  obtain ⟨v3, hv3, hI3⟩ := from_named (P := Tryz.prog) (w := w3) elemB (k := n) (by omega) hp3 hp4 hp1 hp5 hp2
  have HI3 := Lib.hid hI3
  have HV3 := Lib.hid hv3
  clear hp1 hp2 hp3 hp4 hp5 hv3 hI3
  obtain ⟨us, q, e1, hu⟩ : ∃ us q y, unpacksAny (d.drop n) (m : Int) (W : Int) = (us, q, y) := ⟨_, _, _, rfl⟩
  have HUN := Lib.hid (fun X (h : IsB (d.drop n) v3 X) => unpack_isO (m : Int) (W : Int) h (by rw [List.length_drop]; omega))
  rw [hu] at HUN
  have hlt := (unpacksAny_lt (l := d.drop n) (M := (m : Int)) (W := (W : Int))).1
  rw [hu] at hlt
  dsimp only at hlt
  have HLT := Lib.hid hlt
  have HUE := Lib.hid hu
  clear hlt hu
  go_wp2
  refine wp_region_list [.is (.slice A1 n1 c1), .is (.pointer (some ⟨sb, 2, none⟩)), .is (.int .i64 (n : Int)), .is (v3), .is (.pointer (some ⟨sb, 0, none⟩)), .is (.int .i64 (m : Int)), .is (.pointer (some ⟨sb, 1, none⟩)), .is (.int .i64 (W : Int)), .takenO w3 us q e1, .takenO w3 us q e1, .ownU w3 us, .ownB w3 q, .is (.int .i64 e1), .ownU w3 us, .ownB w3 q, .is (.int .i64 e1)] [some 36, some 37, some 38, some 39, some 40, some 41, some 42, some 43, some 44, some 35, some 45, some 46, some 47, some 11, some 8, some 12] (by kernel_rfl) (by kernel_rfl) (by kernel_rfl) rfl ⟨?_, ?_, ?_, ?_, ?_, ?_, ?_, ?_, ?_, ?_, ?_, ?_, ?_, ?_, ?_, ?_, trivial⟩ ?_
  · intro ρ W1 hb1 H
    exact gives_move rfl (H.old 8 _ (by kernel_rfl) rfl) ⟨rfl, Below.refl _ _⟩
  · intro ρ W1 hb1 H
    exact gives_field rfl (H.old 7 _ (by kernel_rfl) rfl) (fun W => shape_at2 W _) ⟨rfl, Below.refl _ _⟩
  · intro ρ W1 hb1 H
    exact gives_load rfl (H.new 37 1 (by kernel_rfl)) Tryz.underlying3 rfl ((hb1.cell HLS.out).trans (HRS.out.cell 2)) ⟨rfl, Below.refl _ _⟩
  · intro ρ W1 hb1 H
    have e1 : ρ (.tmp 38) = .int .i64 (n : Int) := H.new 38 2 (by kernel_rfl)
    exact gives_slice rfl (H.new 36 0 (by kernel_rfl)) (by simp only [Option.map_some]; rw [e1]) rfl rfl (HV3.out W1) ⟨rfl, Below.refl _ _⟩
  · intro ρ W1 hb1 H
    exact gives_field rfl (H.old 7 _ (by kernel_rfl) rfl) (fun W => shape_at0 W _) ⟨rfl, Below.refl _ _⟩
  · intro ρ W1 hb1 H
    exact gives_load rfl (H.new 40 4 (by kernel_rfl)) Tryz.underlying3 rfl ((hb1.cell HLS.out).trans (HRS.out.cell 0)) ⟨rfl, Below.refl _ _⟩
  · intro ρ W1 hb1 H
    exact gives_field rfl (H.old 7 _ (by kernel_rfl) rfl) (fun W => shape_at1 W _) ⟨rfl, Below.refl _ _⟩
  · intro ρ W1 hb1 H
    exact gives_load rfl (H.new 42 6 (by kernel_rfl)) Tryz.underlying3 rfl ((hb1.cell HLS.out).trans (HRS.out.cell 1)) ⟨rfl, Below.refl _ _⟩
  · intro ρ W1 hb1 H
    have e0 : ρ (.tmp 39) = v3 := H.new 39 3 (by kernel_rfl)
    have e1 : ρ (.tmp 41) = .int .i64 (m : Int) := H.new 41 5 (by kernel_rfl)
    have e2 : ρ (.tmp 43) = .int .i64 (W : Int) := H.new 43 7 (by kernel_rfl)
    refine gives_call rfl (fun _ _ => by kernel_rfl) (H.func _) (args := #[v3, .int .i64 (m : Int), .int .i64 (W : Int)]) (by simp [e0, e1, e2]) ?_
    exact (HUN.out W1 (HI3.out.below hb1)).mono fun e w' ⟨u, r, h1, h2, h3, h4⟩ => ⟨_, h1, ⟨u, r, rfl, own_base hb1.size h2, OwnB.base hb1.size h3⟩, h4⟩
  · intro ρ W1 hb1 H
    exact gives_move rfl rfl ⟨H.new 44 8 (by kernel_rfl), Below.refl _ _⟩
  · intro ρ W1 hb1 H
    have h : ∃ u r, ρ (.tmp 35) = .tuple #[u, r, .int .i64 e1] ∧ W1.ownsRow w3.heap.size 101 1 u us.length (us.map uv) ∧ OwnB w3 q r W1 := H.new 35 9 (by kernel_rfl)
    obtain ⟨u, r, h1, h2, h3⟩ := h
    exact gives_extract rfl h1 rfl ⟨h2, Below.refl _ _⟩
  · intro ρ W1 hb1 H
    have h : ∃ u r, ρ (.tmp 35) = .tuple #[u, r, .int .i64 e1] ∧ W1.ownsRow w3.heap.size 101 1 u us.length (us.map uv) ∧ OwnB w3 q r W1 := H.new 35 9 (by kernel_rfl)
    obtain ⟨u, r, h1, h2, h3⟩ := h
    exact gives_extract rfl h1 rfl ⟨h3, Below.refl _ _⟩
  · intro ρ W1 hb1 H
    have h : ∃ u r, ρ (.tmp 35) = .tuple #[u, r, .int .i64 e1] ∧ W1.ownsRow w3.heap.size 101 1 u us.length (us.map uv) ∧ OwnB w3 q r W1 := H.new 35 9 (by kernel_rfl)
    obtain ⟨u, r, h1, h2, h3⟩ := h
    exact gives_extract rfl h1 rfl ⟨rfl, Below.refl _ _⟩
  · intro ρ W1 hb1 H
    exact gives_assign rfl rfl ⟨H.new 45 10 (by kernel_rfl), Below.refl _ _⟩
  · intro ρ W1 hb1 H
    exact gives_assign rfl rfl ⟨H.new 46 11 (by kernel_rfl), Below.refl _ _⟩
  · intro ρ W1 hb1 H
    exact gives_assign rfl (H.new 47 12 (by kernel_rfl)) ⟨rfl, Below.refl _ _⟩
  · intro vs W1 hb1 hfs
    have f13 : W1.ownsRow w3.heap.size 101 1 (vs 13) us.length (us.map uv) := hfs 13 (by decide)
    have f14 : OwnB w3 q (vs 14) W1 := hfs 14 (by decide)
    have f15 : vs 15 = .int .i64 e1 := hfs 15 (by decide)
    clear hfs
    simp only [putAll, Nat.zero_add, Nat.reduceAdd]
    generalize vs 0 = z0
    generalize vs 1 = z1
    generalize vs 2 = z2
    generalize vs 3 = z3
    generalize vs 4 = z4
    generalize vs 5 = z5
    generalize vs 6 = z6
    generalize vs 7 = z7
    generalize vs 8 = z8
    generalize vs 9 = z9
    generalize vs 10 = z10
    generalize vs 11 = z11
    generalize vs 12 = z12
    generalize vs 13 = z13 at f13 ⊢
    generalize vs 14 = z14 at f14 ⊢
    simp only [f15, Act.put, List.setIfInBounds_toArray, List.set_cons_succ, List.set_cons_zero]
    clear f15
    have HB4 := Lib.hid (HB3.out.trans (hb1.mono HB3.out.size))
    have hrs4 := HRS.out.below hb1 HRS.out.lt
    have HZ4 := Lib.hid hb1.size
    clear HRS HLS
    have HRS := Lib.hid hrs4
    have HLS := Lib.hid HRS.out.lt
    have HU4 := Lib.hid f13
    have HQ4' := Lib.hid f14
    have HQ4 := Lib.hid f14.isB
    clear f13 f14 hb1 hrs4
    by_cases he1 : e1 = 0
    case neg =>
      have hE : Hid (ptakeE l s = ([], [], 2)) := Lib.hid (by rw [HE1.out, pbits_cut (by rw [HWC.out]; exact HUE.out) he1])
      have d3 : (e1 != 0) = true := by simpa using he1
      obtain ⟨Aq, nq, cq, hq0⟩ := (isB_iff.1 HQ4.out).shape
      obtain ⟨Au, cu, hu0, _⟩ := own_shape HU4.out
      subst hq0 hu0
      go_wp2
      go_ret3
      rw [hE.out]
      exact RetIO.nil _ HB4.out
    case pos =>
    subst he1
    obtain ⟨hul, hql⟩ := unpacksAny_len HUE.out
    have hq6 : q.length ≤ 1000000 := by rw [List.length_drop] at hql; omega
    have HUL := Lib.hid hul
    have hu4 := HU4.out
    rw [hul] at hu4
    obtain ⟨g0, cu, hz13, hg0, hg4, hmc0, hc0m⟩ := own_block hu4 hm1
    subst hz13
    have HG4 := Lib.hid hg4
    have HG0 := Lib.hid (show w.heap.size ≤ g0 by have := HB3.out.size; omega)
    have HOW4 := Lib.hid hu4
    have HT4 := Lib.hid (HT.out.below HB4.out HT.out.lt)
    obtain ⟨V, hV⟩ : ∃ V : Nat, wclosest ((g + p : Nat) : Int) = (V : Int) := ⟨(wclosest ((g + p : Nat) : Int)).toNat, (pclose (by omega)).2.2.2.2.2.1⟩
    have HPW := Lib.hid (fun X (h : WTab X) => ppair_any (m : Int) (W : Int) (n : Int) (p : Int) (g : Int) (t : Int) X h ⟨by omega, by omega⟩ ⟨by omega, by omega⟩)
    rw [show wclosest ((g : Int) + (p : Int)) = (V : Int) by rw [← hV]; congr 1] at HPW
    have HVC := Lib.hid hV
    obtain ⟨bs, q2, e2, hv⟩ : ∃ us r y, unpacksAny q (t : Int) (V : Int) = (us, r, y) := ⟨_, _, _, rfl⟩
    have HUN2 := Lib.hid (fun u X (h : IsB q u X) => unpack_isO (t : Int) (V : Int) h hq6)
    rw [hv] at HUN2
    have hlt := (unpacksAny_lt (l := q) (M := (t : Int)) (W := (V : Int))).1
    rw [hv] at hlt
    dsimp only at hlt
    have HLT2 := Lib.hid hlt
    have HVE := Lib.hid hv
    generalize W1 = w4 at *
    clear hlt hv hV hul hql hu4 hg0 hg4 hc0m HU4
    obtain ⟨Aq, nq, cq, hq0⟩ := (isB_iff.1 HQ4.out).shape
    subst hq0
    go_wp2
    refine wp_region_list [.bytes (q), .is (.pointer (some ⟨sb, 5, none⟩)), .is (.int .i64 (t : Int)), .is (shv (m : Int) (W : Int) (n : Int) (p : Int) (g : Int) (t : Int)), .is (.int .i64 (V : Int)), .takenO w4 bs q2 e2, .takenO w4 bs q2 e2, .ownU w4 bs, .ownB w4 q2, .is (.int .i64 e2), .ownU w4 bs, .ownB w4 q2, .is (.int .i64 e2)] [some 51, some 52, some 53, some 54, some 55, some 56, some 50, some 57, some 58, some 59, some 13, some 8, some 12] (by kernel_rfl) (by kernel_rfl) (by kernel_rfl) rfl ⟨?_, ?_, ?_, ?_, ?_, ?_, ?_, ?_, ?_, ?_, ?_, ?_, ?_, trivial⟩ ?_
    · intro ρ W1 hb1 H
      exact gives_move rfl (H.old 8 _ (by kernel_rfl) rfl) ⟨HQ4.out.below hb1, Below.refl _ _⟩
    · intro ρ W1 hb1 H
      exact gives_field rfl (H.old 7 _ (by kernel_rfl) rfl) (fun W => shape_at5 W _) ⟨rfl, Below.refl _ _⟩
    · intro ρ W1 hb1 H
      exact gives_load rfl (H.new 52 1 (by kernel_rfl)) Tryz.underlying3 rfl ((hb1.cell HLS.out).trans (HRS.out.cell 5)) ⟨rfl, Below.refl _ _⟩
    · intro ρ W1 hb1 H
      exact gives_load_row (cs := shc (m : Int) (W : Int) (n : Int) (p : Int) (g : Int) (t : Int)) rfl (H.old 7 _ (by kernel_rfl) rfl) Tryz.underlying181 rfl shape_size (HRS.out.below hb1 HRS.out.lt) ⟨rfl, Below.refl _ _⟩
    · intro ρ W1 hb1 H
      have e0 : ρ (.tmp 54) = shv (m : Int) (W : Int) (n : Int) (p : Int) (g : Int) (t : Int) := H.new 54 3 (by kernel_rfl)
      refine gives_call rfl (fun _ _ => by kernel_rfl) (H.func _) (args := #[shv (m : Int) (W : Int) (n : Int) (p : Int) (g : Int) (t : Int)]) (by simp [e0]) ?_
      exact (HPW.out W1 (HT4.out.below hb1 HT4.out.lt)).mono fun e w' ⟨h1, h2⟩ => ⟨_, h1, rfl, h2⟩
    · intro ρ W1 hb1 H
      have e0 : IsB (q) (ρ (.tmp 51)) W1 := H.new 51 0 (by kernel_rfl)
      have e1 : ρ (.tmp 53) = .int .i64 (t : Int) := H.new 53 2 (by kernel_rfl)
      have e2 : ρ (.tmp 55) = .int .i64 (V : Int) := H.new 55 4 (by kernel_rfl)
      refine gives_call rfl (fun _ _ => by kernel_rfl) (H.func _) (args := #[ρ (.tmp 51), .int .i64 (t : Int), .int .i64 (V : Int)]) (by simp [e1, e2]) ?_
      exact (HUN2.out _ W1 e0).mono fun e w' ⟨u, r, h1, h2, h3, h4⟩ => ⟨_, h1, ⟨u, r, rfl, own_base hb1.size h2, OwnB.base hb1.size h3⟩, h4⟩
    · intro ρ W1 hb1 H
      exact gives_move rfl rfl ⟨H.new 56 5 (by kernel_rfl), Below.refl _ _⟩
    · intro ρ W1 hb1 H
      have h : ∃ u r, ρ (.tmp 50) = .tuple #[u, r, .int .i64 e2] ∧ W1.ownsRow w4.heap.size 101 1 u bs.length (bs.map uv) ∧ OwnB w4 q2 r W1 := H.new 50 6 (by kernel_rfl)
      obtain ⟨u, r, h1, h2, h3⟩ := h
      exact gives_extract rfl h1 rfl ⟨h2, Below.refl _ _⟩
    · intro ρ W1 hb1 H
      have h : ∃ u r, ρ (.tmp 50) = .tuple #[u, r, .int .i64 e2] ∧ W1.ownsRow w4.heap.size 101 1 u bs.length (bs.map uv) ∧ OwnB w4 q2 r W1 := H.new 50 6 (by kernel_rfl)
      obtain ⟨u, r, h1, h2, h3⟩ := h
      exact gives_extract rfl h1 rfl ⟨h3, Below.refl _ _⟩
    · intro ρ W1 hb1 H
      have h : ∃ u r, ρ (.tmp 50) = .tuple #[u, r, .int .i64 e2] ∧ W1.ownsRow w4.heap.size 101 1 u bs.length (bs.map uv) ∧ OwnB w4 q2 r W1 := H.new 50 6 (by kernel_rfl)
      obtain ⟨u, r, h1, h2, h3⟩ := h
      exact gives_extract rfl h1 rfl ⟨rfl, Below.refl _ _⟩
    · intro ρ W1 hb1 H
      exact gives_assign rfl rfl ⟨H.new 57 7 (by kernel_rfl), Below.refl _ _⟩
    · intro ρ W1 hb1 H
      exact gives_assign rfl rfl ⟨H.new 58 8 (by kernel_rfl), Below.refl _ _⟩
    · intro ρ W1 hb1 H
      exact gives_assign rfl (H.new 59 9 (by kernel_rfl)) ⟨rfl, Below.refl _ _⟩
    · intro vs W1 hb1 hfs
      have f10 : W1.ownsRow w4.heap.size 101 1 (vs 10) bs.length (bs.map uv) := hfs 10 (by decide)
      have f11 : OwnB w4 q2 (vs 11) W1 := hfs 11 (by decide)
      have f12 : vs 12 = .int .i64 e2 := hfs 12 (by decide)
      clear hfs
      simp only [putAll, Nat.zero_add, Nat.reduceAdd]
      generalize vs 0 = z0
      generalize vs 1 = z1
      generalize vs 2 = z2
      generalize vs 3 = z3
      generalize vs 4 = z4
      generalize vs 5 = z5
      generalize vs 6 = z6
      generalize vs 7 = z7
      generalize vs 8 = z8
      generalize vs 9 = z9
      generalize vs 10 = z10 at f10 ⊢
      generalize vs 11 = z11 at f11 ⊢
      simp only [f12, Act.put, List.setIfInBounds_toArray, List.set_cons_succ, List.set_cons_zero]
      clear f12
      have HB5 := Lib.hid (HB4.out.trans (hb1.mono HB4.out.size))
      have hrs5 := HRS.out.below hb1 HRS.out.lt
      have hc0 : W1.cell? ⟨sb, 0, none⟩ = some (.int .i64 (m : Int)) := hrs5.cell 0
      have hc1 : W1.cell? ⟨sb, 1, none⟩ = some (.int .i64 (W : Int)) := hrs5.cell 1
      have hc2 : W1.cell? ⟨sb, 2, none⟩ = some (.int .i64 (n : Int)) := hrs5.cell 2
      have hc3 : W1.cell? ⟨sb, 3, none⟩ = some (.int .i64 (p : Int)) := hrs5.cell 3
      have hc4 : W1.cell? ⟨sb, 4, none⟩ = some (.int .i64 (g : Int)) := hrs5.cell 4
      have hc5 : W1.cell? ⟨sb, 5, none⟩ = some (.int .i64 (t : Int)) := hrs5.cell 5
      have HV5 := Lib.hid f10
      have HQ5 := Lib.hid f11
      have HOW5 := Lib.hid (own_below HOW4.out hb1)
      have HGZ := Lib.hid (show g0 < W1.heap.size from Nat.lt_of_lt_of_le HG4.out hb1.size)
      have HBG := Lib.hid hb1
      clear f10 f11 hb1 hrs5
      obtain ⟨A6, n6, c6, hq6'⟩ := (isB_iff.1 HQ5.out.isB).shape
      obtain ⟨Av, cv, hv0, _⟩ := own_shape HV5.out
      subst hq6' hv0
      by_cases he2 : e2 = 0
      case neg =>
        have hE : Hid (ptakeE l s = ([], [], 2)) := Lib.hid (by rw [HE1.out, pbits_cut2 (by rw [HWC.out]; exact HUE.out) (by rw [HVC.out]; exact HVE.out) he2])
        have d4 : (e2 != 0) = true := by simpa using he2
        go_wp2
        go_ret3
        rw [hE.out]
        exact RetIO.nil _ HB5.out
      case pos =>
      subst he2
      have HVL := Lib.hid (unpacksAny_len HVE.out).1
      have HPA := Lib.hid (patch_any g0 m w3.heap.size w4.heap.size W cu p g (m : Int) (n : Int) (t : Int) us bs (.slice Av bs.length cv) W1 HOW5.out HGZ.out HV5.out HG4.out HUL.out HLT.out HLT2.out hm1 hm5 (by have := HVL.out; omega) hW64 hp64 hg8)
      unfold shv shc at HPA
      have HE2 := Lib.hid (show ptakeE l s = pend s BA W g p m us bs q2 by
        rw [HE1.out, pbits_in (by rw [HWC.out]; exact HUE.out) (by rw [HVC.out]; exact HVE.out), HWC.out]; rfl)
      cases hpa : pall W g p m (0, us) bs with
      | none =>
        have hE := Lib.hid (show ptakeE l s = ([], [], 2) by rw [HE2.out, pend_none hpa])
        rw [hpa] at HPA
        clear hpa
        go_wp2_with fail
        refine HPA.out.mono ?_
        rintro e w6 ⟨rfl, hg6⟩
        go_wp2
        go_ret3
        rw [hE.out]
        exact RetIO.nil _ (below_grownR HB5.out hg6 HG0.out HB5.out.size)
      | some st =>
        obtain ⟨a, low⟩ := st
        rw [hpa] at HPA
        have HE3 := Lib.hid (pend_some (s := s) (base := BA) (q := q2) hpa)
        clear hpa
        go_wp2_with fail
        refine HPA.out.mono ?_
        rintro e w6 ⟨rfl, ho6, hl6, hl64, hg6⟩
        have HB6 := Lib.hid (below_grownR HB5.out hg6 HG0.out HB5.out.size)
        have HQ6 : Hid (OwnB w q2 (.slice A6 n6 c6) w6) := Lib.hid (OwnB.base HB4.out.size (HQ5.out.elim fun _ h => ⟨_, h.kept hg6 (own_not h HG4.out)⟩))
        have HNF := Lib.hid (numbers_from BA low _ s w6 (isV_own (f := uv) ho6) HBI.out hl64 (by dsimp only at hl6; omega))
        clear ho6 hl6 hl64 hg6 hc0 hc1 hc2 hc3 hc4 hc5
        cases hom : omap (gnext s false BA) low with
        | none =>
          rw [hom] at HNF
          have hE := Lib.hid (show ptakeE l s = ([], [], 2) by rw [HE2.out, HE3.out, hom])
          go_wp2_with fail
          refine HNF.out.mono ?_
          rintro e w7 ⟨rfl, hb7⟩
          go_wp2
          go_ret3
          rw [hE.out]
          exact RetIO.nil _ (below_then HB6.out hb7)
        | some xs =>
          rw [hom] at HNF
          have hE := Lib.hid (show ptakeE l s = (xs, q2, 0) by rw [HE2.out, HE3.out, hom])
          go_wp2_with fail
          refine HNF.out.mono ?_
          rintro e w7 ⟨v7, rfl, hv7, hb7⟩
          have HV7 := Lib.hid hv7
          have HQ7 := Lib.hid (HQ6.out.below hb7)
          have HB7 := Lib.hid (below_then HB6.out hb7)
          clear hv7 hb7
          go_wp2
          go_ret3
          rw [hE.out]
          exact ⟨_, _, rfl, HV7.out, HQ7.out, HB7.out⟩
end Go.Proofs.YtblpkmmhmdpkjaaGreatDoor

/- repeat's own contracts, but Take's. -/







namespace Go.Proofs.YtblpkmmhmdpkjaaGreatDoor

open Go.RowKit

theorem ebytes_or1 {u : Nat} (h : u < 2 ^ 64) : (wbits (u ||| 1) + 7) / 8 = ebytes u := by
  rw [wbits_or h (by decide), show wbits 1 = 1 from rfl]
  unfold ebytes
  omega
theorem esize_any (u : Nat) (w : World) (h : u < 2 ^ 64) :
    Calls Tryz.prog 198 #[.int .u64 (u : Int)] w fun e w' => e = .returned (.int .i64 (ebytes u : Int)) ∧ w = w' := by
  have hor := u64_or1 (u : Int) (by omega) (by omega)
  rw [Int.toNat_natCast] at hor
  obtain ⟨y, hy⟩ : ∃ y, y = u ||| 1 := ⟨_, rfl⟩
  have hy64 : y < 2 ^ 64 := by rw [hy]; exact Nat.or_lt_two_pow h (by decide)
  obtain ⟨b, hb⟩ : ∃ b, b = wbits y := ⟨_, rfl⟩
  have hb64 : b ≤ 64 := by rw [hb]; exact wbits_64 hy64
  have HE : Hid ((b + 7) / 8 = ebytes u) := Lib.hid (by rw [hb, hy]; exact ebytes_or1 h)
  have HB := Lib.hid (fun W => bits_any y W hy64)
  rw [← hb] at HB
  rw [← hy] at hor
  clear hy hb h hy64
  go_enter Tryz.func198, Tryz.ntmps198
  go_wp2_with (go_at_call 171; refine (HB.out _).mono ?_; rintro e w' ⟨rfl, rfl⟩)
  go_ret
  exact ⟨ret_int (by have := HE.out; omega), rfl⟩

/-- A number's bytes from the last to the first, in a loop. -/
def EDigRel (u n : Nat) (w : World) (i : Value) (wr : World) : Prop :=
  ∃ (k : Nat) (o : List UInt8), k ≤ n ∧ i = .int .i64 (k : Int) ∧ o.length = n ∧ o.drop (n - k) = be k u ∧ Row wr w.heap.size 5 (o.map bv) ∧ Below w.heap.size w wr
theorem edig_step {o : List UInt8} {n k j u z : Nat} (ho : o.length = n) (hj : n = j + k + 1) (hz : z = u / 256 ^ k % 256) (hd : o.drop (n - k) = be k u) : (o.set j (UInt8.ofNat z)).drop (n - (k + 1)) = be (k + 1) u := by
  rw [show n - (k + 1) = j by omega, List.drop_eq_getElem_cons (by rw [List.length_set]; omega), List.getElem_set_self, List.drop_set_of_lt (by omega), be, ← hz, ← hd, show n - k = j + 1 by omega]
set_option maxHeartbeats 1000000 in
theorem edigits_any (u : Nat) (w : World) (h : u < 2 ^ 64) :
    Calls Tryz.prog 167 #[.int .u64 (u : Int)] w fun e w' => ∃ v, e = .returned v ∧ IsB (be (ebytes u) u) v w' ∧ Below w.heap.size w w' := by
  obtain ⟨n, hn⟩ : ∃ n, n = ebytes u := ⟨_, rfl⟩
  have hn8 : n ≤ 8 := by rw [hn]; exact ebytes_8 h
  have HS := Lib.hid (fun W => esize_any u W h)
  rw [← hn] at HS ⊢
  have HU := Lib.hid h
  clear hn h
  go_enter Tryz.func167, Tryz.ntmps167
  go_wp2_with (first | (go_at_call 198; refine (HS.out _).mono ?_; rintro e w' ⟨rfl, rfl⟩) | (refine wpList_make elemB rfl _ _ rfl _ _ _ _ n w w.heap.size rfl rfl rfl rfl (by omega) (by omega) (Below.refl _ _) (Nat.le_refl _) ?_))
  intro w1 hr1 hb1
  have hst : EDigRel u n w (.int .i64 0) w1 := ⟨0, List.replicate n 0, by omega, rfl, by simp, by simp [be], by simpa using hr1, hb1⟩
  clear hr1 hb1
  go_wp2
  go_loopw [10] (EDigRel u n w) (fun i _ => n - (intOf i).toNat)
  case atStart => exact hst
  case round =>
    obtain ⟨k, o, hk, rfl, ho, hok, hr, hbr⟩ := hrel
    have HO := Lib.hid ho
    have HOK := Lib.hid hok
    clear ho hok hst
    by_cases hlt : k < n
    · have hlt2 : (k : Int) < (n : Int) := by omega
      obtain ⟨j, hj⟩ : ∃ j, n = j + k + 1 := ⟨n - 1 - k, by omega⟩
      have hji : (n : Int) - 1 - (k : Int) = (j : Int) := by omega
      have hjn : (j : Int) < (n : Int) := by omega
      have hjo : j < o.length := by have := HO.out; omega
      obtain ⟨d, hd⟩ : ∃ d, d = 8 * k := ⟨_, rfl⟩
      have hdi : 8 * (k : Int) = (d : Int) := by omega
      have hd64 : d ≤ 64 := by omega
      obtain ⟨y, hy⟩ : ∃ y, y = u / 256 ^ k := ⟨_, rfl⟩
      have hyi : (u : Int) / 2 ^ d = (y : Int) := by
        rw [hy, p256, ← hd]; simp
      obtain ⟨z, hz⟩ : ∃ z, z = y % 256 := ⟨_, rfl⟩
      have hz256 : z < 256 := by omega
      have hzw : IntKind.u8.wrap (y : Int) = (z : Int) := by rw [IntKind.wrap_u8]; omega
      have hzu : z = u / 256 ^ k % 256 := by rw [hz, hy]
      have HN := Lib.hid (edig_step HO.out hj hzu HOK.out)
      have hgr := hr.lt
      have hcx : wr.cell? ⟨w.heap.size, j, none⟩ = some (bv o[j]) := by rw [hr.cell, List.getElem?_map, List.getElem?_eq_getElem hjo]; rfl
      have hfx := hr.free j
      have hr2 := hr.set_ j (bv (UInt8.ofNat z))
      rw [← List.map_set, ← bv_low7 hz256] at hr2
      have HR2 := Lib.hid hr2
      have HBW := Lib.hid hbr
      clear hr2 hr hbr hj hd hy hz hzu
      go_wp2
      go_roundw
      case rel =>
        exact ⟨k + 1, o.set j (UInt8.ofNat z), by omega, by go_num, by rw [List.length_set]; exact HO.out, HN.out, HR2.out, HBW.out.setCell (Nat.le_refl _) _⟩
      case measure => simp [intOf]; omega
    · obtain rfl : k = n := by omega
      have hlt2 : ¬ (k : Int) < (k : Int) := by omega
      have hT : o = be k u := by
        have h1 := HOK.out
        rw [Nat.sub_self, List.drop_zero] at h1
        exact h1
      have HT := Lib.hid hT
      have HR := Lib.hid hr
      have HBR := Lib.hid hbr
      clear hT hr hbr
      go_wp2
      go_ret
      refine ⟨_, rfl, ?_, HBR.out⟩
      rw [← HT.out]
      exact isV_row HR.out HO.out (by omega)

/-- A repeat out of a number's bytes. -/
theorem elaid_any (T : Nat) (l : List UInt8) (v : Value) (w : World) (hv : IsB l v w) (h3 : 3 ≤ T) (h10 : T ≤ 10) (h1 : 1 ≤ l.length) (h8 : l.length ≤ 8) :
    Calls Tryz.prog 166 #[.int .i64 (T : Int), v] w (RetOwn w (UInt8.ofNat (8 * (l.length - 1) + (T - 3)) :: l)) := by
  obtain ⟨A, c, rfl, hA, hnc, hcm, hl⟩ := hv
  obtain ⟨n, hn⟩ : ∃ n, n = l.length := ⟨_, rfl⟩
  rw [← hn] at hA hnc h1 h8 ⊢
  obtain ⟨c0, hc0⟩ : ∃ c0, c0 = 8 * (n - 1) + (T - 3) := ⟨_, rfl⟩
  have hc64 : c0 < 64 := by omega
  rw [← hc0]
  have hci : 8 * ((n : Int) - 1) + (T : Int) - 3 = (c0 : Int) := by omega
  have hci2 : 8 * ((n : Int) - 1) + (T : Int) = (c0 : Int) + 3 := by omega
  have hc256 : c0 < 256 := by omega
  have hown := own_one w 5 (.int .u8 (c0 : Int)) (Nat.le_refl _)
  rw [bv_low7 hc256] at hown
  have hb1 : Below w.heap.size w (w.alloc (.cells #[bv (UInt8.ofNat c0)] 5)) := (Below.refl _ _).alloc (Nat.le_refl _) _
  have hz1 := hb1.size
  have hl1 := hl.below hb1
  have HN := Lib.hid hn
  clear hn hc0 hl hcm
  go_enter Tryz.func166, Tryz.ntmps166
  go_wp2_with (at_builtin; rw [bv_low7 hc256]; refine wpList_join elemB rfl _ _ rfl w.heap.size _ _ _ _ _ _ (l.map bv) w rfl rfl hA (by rw [List.length_map]; exact HN.out.symm) hl1 (bv_one l) hown hb1 hz1 (by omega) (by omega) ?_)
  intro v2 w2 hown2 hb2 _ _
  go_wp2
  go_ret
  refine ⟨v2, rfl, ?_, hb2⟩
  rw [List.length_cons, ← HN.out, Nat.add_comm n 1]
  exact hown2
theorem elay_any (u T : Nat) (v : Value) (w : World) (hu : u < 2 ^ 64) (hv : IsB (be (ebytes u) u) v w) (h3 : 3 ≤ T) (h10 : T ≤ 10) :
    Calls Tryz.prog 166 #[.int .i64 (T : Int), v] w (RetOwn w (elay u T)) := by
  have h := elaid_any T _ v w hv h3 h10 (by rw [be_len]; exact ebytes_pos u) (by rw [be_len]; exact ebytes_8 hu)
  rw [be_len] at h
  exact h
theorem RetOwn.e {w w' : World} {l : List UInt8} {v : Value} (h : w'.ownsRow w.heap.size 5 1 v l.length (l.map bv)) (hb : Below w.heap.size w w') : RetE w (l, 0) (.returned (.tuple #[v, .int .i64 0])) w' :=
  ⟨v, rfl, isB_own h, hb⟩
set_option maxHeartbeats 1000000 in
theorem eput_any (x t : Int) (s : Bool) (w : World) (h0 : -9223372036854775808 ≤ x) (h1 : x ≤ 9223372036854775807) :
    Calls Tryz.prog 133 #[.int .i64 x, .int .i64 t, .bool s] w (RetE w (eput x t s)) := by
  by_cases ht : t < 3
  · have hE := Lib.hid (eput_times (x := x) (s := s) (.inl ht))
    have d1 : decide (t < 3) = true := decide_eq_true ht
    go_enter Tryz.func133, Tryz.ntmps133
    go_wp2
    go_ret2
    rw [hE.out]
    exact RetE.nil _ (Below.refl _ _)
  · have d1 : decide (t < 3) = false := decide_eq_false ht
    by_cases ht2 : 10 < t
    · have hE := Lib.hid (eput_times (x := x) (s := s) (.inr ht2))
      have d2 : decide (10 < t) = true := decide_eq_true ht2
      go_enter Tryz.func133, Tryz.ntmps133
      go_wp2
      go_ret2
      rw [hE.out]
      exact RetE.nil _ (Below.refl _ _)
    · have d2 : decide (10 < t) = false := decide_eq_false ht2
      obtain ⟨T, rfl⟩ := Int.eq_ofNat_of_zero_le (show 0 ≤ t by omega)
      have h3 : 3 ≤ T := by omega
      have h10 : T ≤ 10 := by omega
      cases s with
      | false =>
        by_cases hx : x < 0
        · have hE := Lib.hid (eput_not (x := x) (s := false) (t := (T : Int)) (by unfold eplain; rw [if_neg (by simp), if_neg (by omega)]))
          have d3 : decide (x < 0) = true := decide_eq_true hx
          go_enter Tryz.func133, Tryz.ntmps133
          go_wp2
          go_ret2
          rw [hE.out]
          exact RetE.nil _ (Below.refl _ _)
        · have d3 : decide (x < 0) = false := decide_eq_false hx
          obtain ⟨u, rfl⟩ := Int.eq_ofNat_of_zero_le (show 0 ≤ x by omega)
          have hw : IntKind.u64.wrap (u : Int) = (u : Int) := by rw [IntKind.wrap_u64]; omega
          have hu64 : u < 2 ^ 64 := by omega
          have hE := Lib.hid (eput_ok (x := (u : Int)) (s := false) h3 h10 (by unfold eplain; rw [if_neg (by simp), if_pos (by omega), Int.toNat_natCast]))
          have HD := Lib.hid (edigits_any u w hu64)
          have HL := Lib.hid (fun v W hv => elay_any u T v W hu64 hv h3 h10)
          clear h0 h1 hx hu64
          go_enter Tryz.func133, Tryz.ntmps133
          go_wp2_with fail
          refine HD.out.mono ?_
          rintro e w2 ⟨v2, rfl, hv2, hb2⟩
          have HV2 := Lib.hid hv2
          have HB2 := Lib.hid hb2
          clear hv2 hb2
          go_wp2_with (go_at_call 166; refine (HL.out _ _ HV2.out).mono ?_)
          rintro e w3 ⟨v3, rfl, hv3, hb3⟩
          have HV3 := Lib.hid (isB_own hv3)
          have HB3 := Lib.hid (below_then HB2.out hb3)
          clear hv3 hb3
          go_wp2
          go_ret2
          rw [hE.out]
          exact ⟨_, rfl, HV3.out, HB3.out⟩
      | true =>
        have hz := vzig_bd h0 h1
        obtain ⟨u, hu⟩ : ∃ u, u = (vzig x).toNat := ⟨_, rfl⟩
        have hui : vzig x = (u : Int) := by omega
        have hu64 : u < 2 ^ 64 := by omega
        have hE := Lib.hid (eput_ok (x := x) (s := true) h3 h10 (by unfold eplain; rw [if_pos rfl, ← hu]))
        have HZ := Lib.hid (zig_any x w h0 h1)
        rw [hui] at HZ
        have HD := Lib.hid (edigits_any u w hu64)
        have HL := Lib.hid (fun v W hv => elay_any u T v W hu64 hv h3 h10)
        clear h0 h1 hz hu hui hu64
        rcases Bool.eq_false_or_eq_true (decide (x < 0)) with d3 | d3
        all_goals
          go_enter Tryz.func133, Tryz.ntmps133
          go_wp2_with (first | (go_at_call 165; refine HZ.out.mono ?_; rintro e w' ⟨rfl, rfl⟩) | (go_at_call 167; refine HD.out.mono ?_))
          rintro e w2 ⟨v2, rfl, hv2, hb2⟩
          have HV2 := Lib.hid hv2
          have HB2 := Lib.hid hb2
          clear hv2 hb2
          go_wp2_with (go_at_call 166; refine (HL.out _ _ HV2.out).mono ?_)
          rintro e w3 ⟨v3, rfl, hv3, hb3⟩
          have HV3 := Lib.hid (isB_own hv3)
          have HB3 := Lib.hid (below_then HB2.out hb3)
          clear hv3 hb3
          go_wp2
          go_ret2
          rw [hE.out]
          exact ⟨_, rfl, HV3.out, HB3.out⟩

theorem elook_none (A : Option Addr) (c : Nat) (w : World) : Calls Tryz.prog 168 #[.slice A 0 c] w fun e w' => e = .returned (.tuple #[.int .i64 0, .int .i64 0, .bool false]) ∧ w = w' := by
  go_enter Tryz.func168, Tryz.ntmps168
  go_wp2
  go_ret3
  exact ⟨rfl, rfl⟩
theorem elook_any (ad : Addr) (n c B K T : Nat) (ok : Bool) (w : World) (hc0 : w.cell? ad = some (.int .u8 (B : Int))) (hB : B < 256) (hn0 : 0 < n) (hn : n ≤ 1000000) (hK : K = B / 8 + 1) (hT : T = B % 8 + 3) (hok : ok = decide (K ≤ 8 ∧ K < n)) :
    Calls Tryz.prog 168 #[.slice (some ad) n c] w fun e w' => e = .returned (.tuple #[.int .i64 (K : Int), .int .i64 (T : Int), .bool ok]) ∧ Below w.heap.size w w' := by
  have hKi : (B : Int) / 8 + 1 = (K : Int) := by omega
  have hTi : (B : Int) % 8 + 3 = (T : Int) := by omega
  have hni : ((n : Int) == 0) = false := by simp; omega
  have hn0i : (0 : Int) < (n : Int) := by omega
  have hK32 : K ≤ 32 := by omega
  have hT10 : T ≤ 10 := by omega
  by_cases h8 : K ≤ 8
  · have d8 : decide ((K : Int) ≤ 8) = true := decide_eq_true (by omega)
    by_cases hl : K < n
    · have dl : decide ((K : Int) < (n : Int)) = true := decide_eq_true (by omega)
      rw [decide_eq_true (show K ≤ 8 ∧ K < n from ⟨h8, hl⟩)] at hok
      subst hok
      clear hK hT hn
      go_enter Tryz.func168, Tryz.ntmps168
      go_wp2
      go_quiet (fail)
      go_wp2
      go_ret3
      exact ⟨rfl, below_drewN (Below.refl _ _) nq⟩
    · have dl : decide ((K : Int) < (n : Int)) = false := decide_eq_false (by omega)
      rw [decide_eq_false (show ¬ (K ≤ 8 ∧ K < n) by omega)] at hok
      subst hok
      clear hK hT hn
      go_enter Tryz.func168, Tryz.ntmps168
      go_wp2
      go_quiet (fail)
      go_wp2
      go_ret3
      exact ⟨rfl, below_drewN (Below.refl _ _) nq⟩
  · have d8 : decide ((K : Int) ≤ 8) = false := decide_eq_false (by omega)
    rw [decide_eq_false (show ¬ (K ≤ 8 ∧ K < n) by omega)] at hok
    subst hok
    clear hK hT hn
    go_enter Tryz.func168, Tryz.ntmps168
    go_wp2
    go_quiet (fail)
    go_wp2
    go_ret3
    exact ⟨rfl, below_drewN (Below.refl _ _) nq⟩

/-- A number out of its bytes: as few as it needs, and with room. -/
def enum (l : List UInt8) (s : Bool) : Option Int := if ebytes (bval l) = l.length then emade (bval l) s else none
def ENumRel (l : List UInt8) (n : Nat) (v i : Value) : Prop := ∃ (k : Nat) (U : Int), k ≤ n ∧ i = .int .i64 (k : Int) ∧ v = .int .u64 U ∧ U = ((bval (l.take k) : Nat) : Int)
set_option maxHeartbeats 1000000 in
theorem enumber_any (s : Bool) (l : List UInt8) (v : Value) (w : World) (hv : IsB l v w) (h8 : l.length ≤ 8) :
    Calls Tryz.prog 169 #[.bool s, v] w fun e w' => e = .returned (.tuple #[.int .i64 ((enum l s).getD 0), .bool (enum l s).isSome]) ∧ w = w' := by
  obtain ⟨A, c, rfl, hA, hnc, hcm, hl⟩ := hv
  obtain ⟨n, hn⟩ : ∃ n, n = l.length := ⟨_, rfl⟩
  rw [← hn] at hA hnc h8 ⊢
  have HN := Lib.hid hn
  have HLi := Lib.hid hl
  clear hn hl hA hnc hcm
  go_enter Tryz.func169, Tryz.ntmps169
  go_wp2
  go_loop [6, 11] (ENumRel l n) (fun _ i => n - (intOf i).toNat)
  case atStart => exact ⟨0, 0, by omega, rfl, rfl, by simp [bval]⟩
  case round =>
    obtain ⟨k, U, hk, rfl, rfl, hU⟩ := hrel
    have HU := Lib.hid hU
    by_cases hlt : k < n
    · have hlt2 : (k : Int) < (n : Int) := by omega
      have hkl : k < l.length := by have := HN.out; omega
      obtain ⟨ad, rfl, _, hcell⟩ := HLi.out.cell (k := k) (by rw [List.length_map]; exact hkl)
      obtain ⟨y, hy⟩ : ∃ y : Nat, y = l[k].toNat := ⟨_, rfl⟩
      have hy8 : y < 256 := by rw [hy]; exact UInt8.toNat_lt _
      have hcy : w.cell? (ad.add k) = some (.int .u8 (y : Int)) := by rw [hcell, List.getElem_map, hy]; rfl
      obtain ⟨X, hX⟩ : ∃ X, X = bval (l.take k) := ⟨_, rfl⟩
      rw [← hX] at hU
      subst hU
      have hX7 : (X : Int) < 72057594037927936 := by rw [hX]; exact bval_seven _ (by omega)
      obtain ⟨Y, hY⟩ : ∃ Y, Y = X * 2 ^ 8 := ⟨_, rfl⟩
      have hsh : IntKind.u64.wrap ((X : Int) * 2 ^ 8) = (Y : Int) := by rw [IntKind.wrap_u64]; omega
      have hsh2 : IntKind.u64.wrap ((X : Int) * 256) = (Y : Int) := by rw [IntKind.wrap_u64]; omega
      have hyw : IntKind.u64.wrap (y : Int) = (y : Int) := by rw [IntKind.wrap_u64]; omega
      have hor := or_word 8 Y y (by rw [hY]; exact Nat.mul_mod_left _ _) (by omega) (by omega)
      obtain ⟨Z, hZ⟩ : ∃ Z, Z = Y + y := ⟨_, rfl⟩
      rw [← hZ] at hor
      have HZ : Hid (Z = bval (l.take (k + 1))) := Lib.hid (by rw [hZ, hY, bval_at _ _ hkl, ← hX, ← hy]; omega)
      clear hcell hy hX hX7 hY hZ HU
      go_wp2
      go_round
      case rel => exact ⟨k + 1, Z, by omega, by go_num, rfl, by rw [HZ.out]⟩
      case measure => simp [intOf]; omega
    · obtain rfl : k = n := by omega
      have hlt2 : ¬ (k : Int) < (k : Int) := by omega
      obtain ⟨u, hu⟩ : ∃ u, u = bval l := ⟨_, rfl⟩
      have hUu : U = (u : Int) := by rw [hU, List.take_of_length_le (by have := HN.out; omega), hu]
      have hu64 : u < 2 ^ 64 := by
        rw [hu, ← List.take_length (l := l)]
        exact bval_eight _ (by have := HN.out; omega)
      obtain ⟨m, hm⟩ : ∃ m, m = ebytes u := ⟨_, rfl⟩
      have HS := Lib.hid (fun W => esize_any u W hu64)
      rw [← hm] at HS
      by_cases hs : m = k
      · have hsi : ((k : Int) != (m : Int)) = false := by rw [hs]; simp
        have HE := Lib.hid (show enum l s = emade u s by unfold enum; rw [← hu, ← hm, ← HN.out, if_pos hs])
        cases s with
        | true =>
          have HZ := Lib.hid (fun W => zag_any (u : Int) W (by omega) (by omega))
          have HM := Lib.hid (emade_true u)
          subst hUu
          clear hu hu64 hm hU HU
          go_wp2_with (first | (go_at_call 198; refine (HS.out _).mono ?_; rintro e w' ⟨rfl, rfl⟩) | (go_at_call 177; refine (HZ.out _).mono ?_; rintro e w' ⟨rfl, rfl⟩))
          go_ret2
          rw [HE.out, HM.out]
          exact ⟨rfl, rfl⟩
        | false =>
          by_cases hx : U < 9223372036854775808
          · have HM := Lib.hid (emade_low (by omega) hx)
            have hmx : decide ((9223372036854775807 : Int) < U) = false := decide_eq_false (by omega)
            have hU0 : 0 ≤ U := by omega
            have hUw : IntKind.i64.wrap U = U := by rw [IntKind.wrap_i64]; omega
            rw [← hUu] at HS
            have HT : Hid (U.toNat = u) := Lib.hid (by omega)
            clear hu hu64 hm hU HU hUu
            go_wp2_with (go_at_call 198; refine (HS.out _).mono ?_; rintro e w' ⟨rfl, rfl⟩)
            go_ret2
            rw [HE.out, ← HT.out, HM.out]
            exact ⟨rfl, rfl⟩
          · have HM := Lib.hid (emade_high (U := U) (by omega))
            have hmx : decide ((9223372036854775807 : Int) < U) = true := decide_eq_true (by omega)
            rw [← hUu] at HS
            have HT : Hid (U.toNat = u) := Lib.hid (by omega)
            clear hu hu64 hm hU HU hUu hx
            go_wp2_with (go_at_call 198; refine (HS.out _).mono ?_; rintro e w' ⟨rfl, rfl⟩)
            go_ret2
            rw [HE.out, ← HT.out, HM.out]
            exact ⟨rfl, rfl⟩
      · have hsi : ((k : Int) != (m : Int)) = true := by simp; omega
        have HE := Lib.hid (show enum l s = none by unfold enum; rw [← hu, ← hm, ← HN.out, if_neg hs])
        subst hUu
        clear hu hu64 hm hU HU
        go_wp2_with (go_at_call 198; refine (HS.out _).mono ?_; rintro e w' ⟨rfl, rfl⟩)
        go_ret2
        rw [HE.out]
        exact ⟨rfl, rfl⟩

end Go.Proofs.YtblpkmmhmdpkjaaGreatDoor

/- repeat's Take. -/





namespace Go.Proofs.YtblpkmmhmdpkjaaGreatDoor

open Go.RowKit

set_option maxHeartbeats 1000000 in
set_option maxRecDepth 100000 in
theorem etake_own (l : List UInt8) (v : Value) (s : Bool) (w : World) (hv : IsB l v w) (hb : l.length ≤ 1000000) :
    Calls Tryz.prog 134 #[v, .bool s] w (RetT7O w (etake l s)) := by
  obtain ⟨A, c, rfl, hA, hnc, hcm, hl⟩ := hv
  obtain ⟨n, hn⟩ : ∃ n, n = l.length := ⟨_, rfl⟩
  rw [← hn] at hA hnc hb ⊢
  have hci : (c : Int) ≤ 9223372036854775807 := by unfold maxLen at hcm; omega
  have HN := Lib.hid hn
  by_cases h0 : n = 0
  · subst h0
    obtain rfl : l = [] := List.eq_nil_of_length_eq_zero hn.symm
    have hE := Lib.hid (etake_nil s)
    clear hn hl hcm hA hnc
    go_enter Tryz.func134, Tryz.ntmps134
    go_wp2_with (go_at_call 168; refine (elook_none _ _ _).mono ?_; rintro e w' ⟨rfl, rfl⟩)
    try simp only [Exit.inBlock, Exit.then]
    refine bodyPost_ret (results_tmp4 rfl _ _ _) rfl ?_
    rw [hE.out]
    exact RetT7O.no (Below.refl _ _)
  · have h0l : 0 < l.length := by omega
    obtain ⟨ad, rfl, hadlt, hcell⟩ := hl.cell (k := 0) (by rw [List.length_map]; exact h0l)
    obtain ⟨B, hB⟩ : ∃ B : Nat, B = l[0].toNat := ⟨_, rfl⟩
    have hB8 : B < 256 := by rw [hB]; exact UInt8.toNat_lt _
    have hc0 : w.cell? ad = some (.int .u8 (B : Int)) := by
      have h1 : ad.add 0 = ad := by unfold Addr.add; split <;> simp_all
      rw [← h1, hcell, List.getElem_map, hB]; rfl
    have HB := Lib.hid hB
    obtain ⟨K, hK⟩ : ∃ K, K = B / 8 + 1 := ⟨_, rfl⟩
    obtain ⟨T, hT⟩ : ∃ T, T = B % 8 + 3 := ⟨_, rfl⟩
    obtain ⟨ok, hok⟩ : ∃ ok, ok = decide (K ≤ 8 ∧ K < n) := ⟨_, rfl⟩
    have HLk := Lib.hid (elook_any ad n c B K T ok w hc0 hB8 (by omega) hb hK hT hok)
    have HK := Lib.hid (show K = l[0].toNat / 8 + 1 by rw [← HB.out]; exact hK)
    have hT10 : T ≤ 10 := by omega
    have hK32 : K ≤ 32 := by omega
    cases ok with
    | false =>
      have hE : Hid (etake l s = (0, 0, [], 2)) := by
        by_cases h64 : 64 ≤ B
        · exact Lib.hid (etake_big h0l (by rw [← HB.out]; exact h64))
        · exact Lib.hid (etake_short h0l HK.out (by have := of_decide_eq_false hok.symm; omega))
      clear hn hl hcm hA hnc hok hK hT hB hcell hc0
      go_enter Tryz.func134, Tryz.ntmps134
      go_wp2_with (go_at_call 168; refine HLk.out.mono ?_)
      rintro e w2 ⟨rfl, hb2⟩
      have HB2 := Lib.hid hb2
      clear hb2
      go_wp2
      try simp only [Exit.inBlock, Exit.then]
      refine bodyPost_ret (results_tmp4 rfl _ _ _) rfl ?_
      rw [hE.out]
      exact RetT7O.no HB2.out
    | true =>
      obtain ⟨hK8, hKn⟩ := of_decide_eq_true hok.symm
      have h64 : B < 64 := by omega
      obtain ⟨j, hj⟩ : ∃ j, j = K + 1 := ⟨_, rfl⟩
      have hji : 1 + (K : Int) = (j : Int) := by omega
      obtain ⟨d, hd⟩ : ∃ d, d = (l.drop 1).take K := ⟨_, rfl⟩
      have hdl : d.length = K := by rw [hd, List.length_take, List.length_drop, ← hn]; omega
      have HP := Lib.hid fun (W : World) (h : Below w.heap.size w W) => piece_named (P := Tryz.prog) elemB (i := 1) (k := j) (by omega) (by omega) hnc hcm hn.symm (hl.below h) hA
      rw [show j - 1 = K by omega, show ((1 : Nat) : Int) = 1 from rfl, ← hji, ← hd] at HP
      have HF := Lib.hid fun (W : World) (h : Below w.heap.size w W) => from_named (P := Tryz.prog) elemB (k := j) (by omega) hnc hcm hn.symm (hl.below h) hA
      rw [← hji] at HF
      have HNm := Lib.hid (fun v W (hv : IsB d v W) => enumber_any s d v W hv (by omega))
      obtain ⟨X, hX⟩ : ∃ X, X = (enum d s).getD 0 := ⟨_, rfl⟩
      obtain ⟨ok2, hok2⟩ : ∃ ok, ok = (enum d s).isSome := ⟨_, rfl⟩
      rw [← hX, ← hok2] at HNm
      have HT := Lib.hid (show T = l[0].toNat % 8 + 3 by rw [← HB.out]; exact hT)
      have HLen : Hid ((l.drop j).length ≤ 1000000) := Lib.hid (by rw [List.length_drop]; omega)
      clear hji
      cases ok2 with
      | false =>
        have hE : Hid (etake l s = (0, 0, [], 2)) := Lib.hid (etake_none (u := bval d) h0l HK.out (by rw [hd]) (by
          unfold enum at hok2
          split at hok2
          · exact .inl (by simpa using hok2.symm)
          · rename_i h; exact .inr (by rwa [hdl] at h)))
        clear hn hl hcm hA hnc hok hK hT hB hcell hc0 hX hok2 hd hdl
        go_enter Tryz.func134, Tryz.ntmps134
        go_wp2_with (go_at_call 168; refine HLk.out.mono ?_)
        rintro e w2 ⟨rfl, hb2⟩
        have HB2 := Lib.hid hb2
        obtain ⟨v3, hv3, hI3⟩ := HP.out w2 hb2
        have HI3 := Lib.hid hI3
        clear hb2 hI3
        go_wp2_with (first | (go_at_call 169; refine (HNm.out _ _ HI3.out).mono ?_; rintro e w' ⟨rfl, rfl⟩) | (refine wpList_sliced rfl _ _ _ _ rfl v3 (hv3 _) ?_))
        try simp only [Exit.inBlock, Exit.then]
        refine bodyPost_ret (results_tmp4 rfl _ _ _) rfl ?_
        rw [hE.out]
        exact RetT7O.no HB2.out
      | true =>
        have hE : Hid (etake l s = (X, (T : Int), l.drop j, 0)) := Lib.hid (by
          have h1 : ebytes (bval d) = K ∧ emade (bval d) s = some X := by
            unfold enum at hok2 hX
            split at hok2
            · rename_i h
              rw [if_pos h] at hX
              refine ⟨by rw [h, hdl], ?_⟩
              cases he : emade (bval d) s with
              | none => rw [he] at hok2; simp at hok2
              | some y => rw [he] at hX; simp at hX; rw [hX]
            · simp at hok2
          rw [etake_some (u := bval d) h0l HK.out (by rw [← HB.out]; exact h64) (by omega) (by rw [hd]) h1.2 h1.1, HT.out, hj])
        clear hn hl hcm hA hnc hok hK hT hB hcell hc0 hX hok2 hd hdl
        go_enter Tryz.func134, Tryz.ntmps134
        go_wp2_with (go_at_call 168; refine HLk.out.mono ?_)
        rintro e w2 ⟨rfl, hb2⟩
        have HB2 := Lib.hid hb2
        obtain ⟨v3, hv3, hI3⟩ := HP.out w2 hb2
        have HI3 := Lib.hid hI3
        obtain ⟨v4, hv4, hI4⟩ := HF.out w2 hb2
        have HI4 := Lib.hid hI4
        obtain ⟨A4, c4, hs4, hA4, _, _, hl4⟩ := hI4
        obtain ⟨n4, hn4⟩ : ∃ n, n = (l.drop j).length := ⟨_, rfl⟩
        rw [← hn4] at hs4 hA4
        subst hs4
        have hn46 : n4 ≤ 1000000 := by rw [hn4]; exact HLen.out
        have HN4 : Hid (((l.drop j).map bv).length = n4) := Lib.hid (by rw [List.length_map, hn4])
        clear hb2 hI3 hn4 hj
        go_wp2_with (first | (go_at_call 169; refine (HNm.out _ _ HI3.out).mono ?_; rintro e w' ⟨rfl, rfl⟩) | (refine wpList_sliced rfl _ _ _ _ rfl v3 (hv3 _) ?_) | (refine wpList_slicedL rfl _ _ _ rfl _ (hv4 _) ?_) | (at_builtin; refine wpList_join elemB rfl _ _ rfl w2.heap.size _ _ _ _ _ _ ((l.drop j).map bv) w2 rfl rfl hA4 HN4.out hl4 (bv_one _) (World.ownsRow_nil _ _ _ _) (Below.refl _ _) (Nat.le_refl _) (by omega) (by omega) ?_))
        intro v5 w5 hown5 hb5 _ _
        rw [← List.map_drop] at hown5
        have HV5 : Hid (OwnB w (l.drop j) v5 w5) := Lib.hid (OwnB.base HB2.out.size ⟨_, hown5⟩)
        have HB5 := Lib.hid (below_then HB2.out hb5)
        clear hown5 hb5
        go_wp2
        try simp only [Exit.inBlock, Exit.then]
        refine bodyPost_ret (results_tmp4 rfl _ _ _) rfl ?_
        rw [hE.out]
        exact ⟨_, rfl, HV5.out, HB5.out⟩
end Go.Proofs.YtblpkmmhmdpkjaaGreatDoor

/- Numbers in the runs that are shortest (layer 11), as plain mathematics. -/





namespace Go.Proofs.YtblpkmmhmdpkjaaGreatDoor

/-- How many numbers from the first one on are the same. -/
def usame (l : List Int) : Nat := match l with | [] => 0 | x :: r => 1 + (r.takeWhile (· == x)).length
theorem usame_cons (x : Int) (r : List Int) : usame (x :: r) = 1 + (r.takeWhile (· == x)).length := rfl
theorem usame_le (l : List Int) : usame l ≤ l.length := by
  cases l with
  | nil => exact Nat.le_refl _
  | cons x r =>
    have := (List.takeWhile_prefix (l := r) (· == x)).length_le
    rw [usame_cons, List.length_cons]
    omega
theorem usame_pos {l : List Int} (h : 1 ≤ l.length) : 1 ≤ usame l := by
  cases l with
  | nil => simp at h
  | cons x r => rw [usame_cons]; omega
theorem takeWhile_all {α : Type} {p : α → Bool} {l : List α} {k : Nat} (h : k ≤ (l.takeWhile p).length) : ∀ x ∈ l.take k, p x = true := by
  induction l generalizing k with
  | nil => simp
  | cons y l ih =>
    cases k with
    | zero => simp
    | succ k =>
      rw [List.takeWhile_cons] at h
      by_cases hy : p y = true
      · rw [if_pos hy, List.length_cons] at h
        intro x hx
        rw [List.take_succ_cons] at hx
        rcases List.mem_cons.1 hx with rfl | hx
        · exact hy
        · exact ih (by omega) x hx
      · rw [if_neg hy] at h; simp at h
/-- The first so many are the first one. -/
theorem usame_take {x : Int} {r : List Int} {k : Nat} (h : k ≤ usame (x :: r)) : (x :: r).take k = List.replicate k x := by
  cases k with
  | zero => rfl
  | succ k =>
    rw [List.take_succ_cons, List.replicate_succ]
    congr 1
    have h1 : k ≤ (r.takeWhile (· == x)).length := by rw [usame_cons] at h; omega
    refine List.eq_replicate_iff.2 ⟨?_, fun y hy => by simpa using takeWhile_all h1 y hy⟩
    have := (List.takeWhile_prefix (l := r) (· == x)).length_le
    rw [List.length_take]
    omega
/-- So many are the same just if each of them is the first one. -/
theorem usame_iff {l : List Int} {k : Nat} (hk : k < l.length) (h : k ≤ usame l) : k < usame l ↔ l[k] = l[0] := by
  cases l with
  | nil => simp at hk
  | cons x r =>
    cases k with
    | zero => simp; exact usame_pos (by simp)
    | succ k =>
      have h1 : k ≤ (r.takeWhile (· == x)).length := by rw [usame_cons] at h; omega
      rw [List.getElem_cons_succ, List.getElem_cons_zero]
      rw [List.length_cons] at hk
      have key : ∀ (r : List Int) (k : Nat) (hk : k < r.length), k ≤ (r.takeWhile (· == x)).length → (k < (r.takeWhile (· == x)).length ↔ r[k] = x) := by
        intro r
        induction r with
        | nil => intro k hk; simp at hk
        | cons y r ih =>
          intro k hk h
          rw [List.takeWhile_cons] at h ⊢
          by_cases hy : (y == x) = true
          · rw [if_pos hy, List.length_cons] at h ⊢
            cases k with
            | zero => simp; simpa using hy
            | succ k =>
              rw [List.getElem_cons_succ, ← ih k (by rw [List.length_cons] at hk; omega) (by omega)]
              omega
          · rw [if_neg hy] at h ⊢
            simp at h
            subst h
            simp
            simpa using hy
      rw [← key r k (by omega) h1, usame_cons]
      omega
/-- The shorter one of two runs, of which the second may be none. -/
def ushorter (a : List UInt8) (p : List UInt8 × Int) : List UInt8 := if p.2 = 0 ∧ (a.length = 0 ∨ p.1.length < a.length) then p.1 else a
def ucands0 (l : List Int) (s : Bool) : List (List UInt8 × Int) := (if usame l = l.length then [eput (l.headD 0) l.length s] else []) ++ [dputE l s, gputE l s]
def ucands (l : List Int) (s : Bool) : List (List UInt8 × Int) := ucands0 l s ++ (List.range 31).map fun c : Nat => pputE l (wof (c : Int)) s
/-- What Run answers. -/
def urunE (l : List Int) (s : Bool) : List UInt8 × Int := if dplain l s = none ∨ l.length < 1 ∨ 512 < l.length then ([], 1) else ((ucands l s).foldl ushorter [], 0)
/-- What Cut answers. -/
def ufind (l : List Int) (n : Nat) : Bool := decide (5 ≤ usame (l.drop n))
def ucut (l : List Int) : Nat := if 3 ≤ usame l then min (usame l) 512 else ((List.range' 1 (min l.length 512 - 1)).find? (ufind l)).getD (min l.length 512)
theorem ucut_bd {l : List Int} (h : 1 ≤ l.length) : 1 ≤ ucut l ∧ ucut l ≤ l.length ∧ ucut l ≤ 512 := by
  have h1 := usame_le l
  unfold ucut
  split
  · omega
  · cases hf : (List.range' 1 (min l.length 512 - 1)).find? (ufind l) with
    | none => rw [Option.getD_none]; omega
    | some n =>
      have := List.mem_range'_1.1 (List.mem_of_find?_eq_some hf)
      rw [Option.getD_some]
      omega
/-- What Put answers. -/
def uputN (s : Bool) : Nat → List Int → List UInt8 × Int
  | 0, _ => ([], 0)
  | k + 1, l =>
    if l.length = 0 then ([], 0)
    else if (urunE (l.take (ucut l)) s).2 ≠ 0 then ([], (urunE (l.take (ucut l)) s).2)
    else if (uputN s k (l.drop (ucut l))).2 ≠ 0 then ([], (uputN s k (l.drop (ucut l))).2)
    else ((urunE (l.take (ucut l)) s).1 ++ (uputN s k (l.drop (ucut l))).1, 0)
def uputE (l : List Int) (s : Bool) : List UInt8 × Int := if 4096 < l.length then ([], 3) else uputN s l.length l
/-- The run that bytes begin with. -/
def uone (b : List UInt8) (s : Bool) : List Int × List UInt8 × Int :=
  match b with
  | [] => ([], [], 2)
  | x :: _ => if x.toNat / 64 = 1 then dtakeE b s else if x.toNat / 64 = 2 then ptakeE b s else if x.toNat / 64 = 3 then gtakeE b s
    else (List.replicate (etake b s).2.1.toNat (etake b s).1, (etake b s).2.2.1, (etake b s).2.2.2)
def utakeN (s : Bool) (many : Nat) : Nat → List Int → List UInt8 → List Int × List UInt8 × Int
  | 0, _, _ => gbad
  | k + 1, out, rest =>
    if many ≤ out.length then (if many < out.length then gbad else (out, rest, 0))
    else if (uone rest s).2.2 ≠ 0 then gbad
    else utakeN s many k (out ++ (uone rest s).1) (uone rest s).2.1
/-- What Take answers. -/
def utakeE (b : List UInt8) (many : Int) (s : Bool) : List Int × List UInt8 × Int := if many < 0 ∨ 4096 < many then ([], [], 1) else utakeN s many.toNat (many.toNat + 1) [] b

/-- A run is one of those that may be. -/
theorem ushort_mem {cs : List (List UInt8 × Int)} : ∀ {a : List UInt8}, cs.foldl ushorter a = a ∨ (cs.foldl ushorter a, 0) ∈ cs := by
  induction cs with
  | nil => intro a; exact .inl rfl
  | cons c cs ih =>
    intro a
    rw [List.foldl_cons]
    rcases ih (a := ushorter a c) with h | h
    · rw [h]
      unfold ushorter
      split
      · rename_i hc
        right
        rw [show (c.1, (0 : Int)) = c from by rw [← hc.1]]
        exact List.mem_cons_self
      · exact .inl rfl
    · exact .inr (List.mem_cons_of_mem _ h)
/-- No longer than each that may be, and than what was there (if that is something). -/
theorem ushort_le {cs : List (List UInt8 × Int)} : ∀ {a : List UInt8}, (∀ p ∈ cs, p.2 = 0 → p.1.length ≠ 0) → ((1 ≤ a.length → 1 ≤ (cs.foldl ushorter a).length ∧ (cs.foldl ushorter a).length ≤ a.length) ∧ ∀ p ∈ cs, p.2 = 0 → 1 ≤ (cs.foldl ushorter a).length ∧ (cs.foldl ushorter a).length ≤ p.1.length) := by
  induction cs with
  | nil => intro a _; exact ⟨fun h => ⟨h, Nat.le_refl _⟩, fun _ h => by cases h⟩
  | cons c cs ih =>
    intro a hne
    rw [List.foldl_cons]
    obtain ⟨h1, h2⟩ := ih (a := ushorter a c) fun p hp => hne p (List.mem_cons_of_mem _ hp)
    have hc := hne c List.mem_cons_self
    refine ⟨fun ha => ?_, fun p hp h0 => ?_⟩
    · have h3 : 1 ≤ (ushorter a c).length ∧ (ushorter a c).length ≤ a.length := by
        unfold ushorter
        split
        · rename_i h; have := hc h.1; omega
        · exact ⟨ha, Nat.le_refl _⟩
      have := h1 h3.1
      omega
    · rcases List.mem_cons.1 hp with rfl | hp
      · have h4 := hc h0
        have h3 : 1 ≤ (ushorter a p).length ∧ (ushorter a p).length ≤ p.1.length := by
          unfold ushorter
          by_cases h : a.length = 0 ∨ p.1.length < a.length
          · rw [if_pos ⟨h0, h⟩]; omega
          · rw [if_neg fun h5 => h h5.2]; omega
        have := h1 h3.1
        omega
      · exact h2 p hp h0
end Go.Proofs.YtblpkmmhmdpkjaaGreatDoor
