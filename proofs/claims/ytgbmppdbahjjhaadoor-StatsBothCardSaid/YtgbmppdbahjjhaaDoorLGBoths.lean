
/- The statement StatsBoth: for any kind and any two rows of values the law answers true. No condition. Written by gen_gboths.py. -/

import Derived.StillTailTactics
import Derived.Test.YtgbmppdbahjjhaaDoorG4
namespace Go.Proofs.YtgbmppdbahjjhaaDoor

open Go.RowKit Go.ChangeShapes Go.WideShapes Go.ChangeAt

theorem gof_end {k : Int} {l : List CV} (P : CV → Prop) (h0 : P nul) (hi : ∀ x ∈ l, P x) : P (gofE k l).min ∧ P (gofE k l).max := by
  unfold gofE
  dsimp only
  by_cases h : nsome l = []
  · rw [h]; exact ⟨h0, h0⟩
  · have hin : ∀ x ∈ nsome l, P x := fun x hx => hi x (by unfold nsome at hx; exact (List.mem_filter.1 hx).1)
    exact ⟨hin _ (gleast_is h).1, hin _ (gmost_is h).1⟩
theorem gof_in {k : Int} {l : List CV} (hi : ∀ x ∈ l, x.inInt) (hl : l.length ≤ 1000000) : (gofE k l).inInt ∧ 0 ≤ (gofE k l).count ∧ (gofE k l).count ≤ 1000000 := by
  have h1 := nsome_len l
  obtain ⟨e1, e2⟩ := gof_end (k := k) CV.inInt (by unfold CV.inInt nul; dsimp only; omega) hi
  refine ⟨⟨?_, ?_, e1, e2, ?_⟩, ?_, ?_⟩
  · unfold gofE; dsimp only; omega
  · unfold gofE; dsimp only; omega
  · unfold gofE gsumE
    dsimp only
    split
    · split
      · rename_i h; exact h
      · omega
    · omega
  · unfold gofE; dsimp only; omega
  · unfold gofE; dsimp only; omega
theorem gof_size {k : Int} {l : List CV} (hs : ∀ x ∈ l, x.s.size ≤ maxLen) : (gofE k l).min.s.size ≤ maxLen ∧ (gofE k l).max.s.size ≤ maxLen :=
  gof_end (fun x => x.s.size ≤ maxLen) (by simp [nul, ByteArray.size]) hs
set_option maxHeartbeats 8000000 in
set_option maxRecDepth 100000 in
theorem StatsBoth_walk (w : World) (hU : Tryd.U8 w) (k : Int) (_hk0 : -9223372036854775808 ≤ k) (_hk1 : k ≤ 9223372036854775807) (v1 : Value) (l1 : List CV) (hI1 : IsR kcells l1 v1 w) (hi1 : ∀ x ∈ l1, x.inInt) (hs1 : ∀ x ∈ l1, x.s.size ≤ maxLen) (v2 : Value) (l2 : List CV) (hI2 : IsR kcells l2 v2 w) (hi2 : ∀ x ∈ l2, x.inInt) (hs2 : ∀ x ∈ l2, x.s.size ≤ maxLen) :
    Calls Tryd.prog 5 #[.int .i64 k, v1, v2] w fun e w' => e = .returned (.bool true) ∧ Below w.heap.size w w' := by
  have HU := Lib.hid hU
  have HV := Lib.hid hI1
  have HX := Lib.hid hI2
  have HS1 := Lib.hid hs1
  have HS2 := Lib.hid hs2
  obtain ⟨m, hm⟩ : ∃ m, m = gfew k (l1.take 300) := ⟨_, rfl⟩
  obtain ⟨n, hn⟩ : ∃ n, n = gfew k (l2.take 300) := ⟨_, rfl⟩
  have mi : ∀ x ∈ m, x.inInt := fun x hx => hi1 x (gfew_mem (by rw [← hm]; exact hx)).1
  have ms : ∀ x ∈ m, x.s.size ≤ maxLen := fun x hx => hs1 x (gfew_mem (by rw [← hm]; exact hx)).1
  have mm : ∀ x ∈ m, kmay k x = true := fun x hx => (gfew_mem (by rw [← hm]; exact hx)).2
  have ml : m.length ≤ 300 := by rw [hm]; exact gfew_len k l1
  have ni : ∀ x ∈ n, x.inInt := fun x hx => hi2 x (gfew_mem (by rw [← hn]; exact hx)).1
  have ns : ∀ x ∈ n, x.s.size ≤ maxLen := fun x hx => hs2 x (gfew_mem (by rw [← hn]; exact hx)).1
  have nm : ∀ x ∈ n, kmay k x = true := fun x hx => (gfew_mem (by rw [← hn]; exact hx)).2
  have nl : n.length ≤ 300 := by rw [hn]; exact gfew_len k l2
  have bi : ∀ x ∈ m ++ n, x.inInt := fun x hx => (List.mem_append.1 hx).elim (mi x) (ni x)
  have bs : ∀ x ∈ m ++ n, x.s.size ≤ maxLen := fun x hx => (List.mem_append.1 hx).elim (ms x) (ns x)
  have bm : ∀ x ∈ m ++ n, kmay k x = true := fun x hx => (List.mem_append.1 hx).elim (mm x) (nm x)
  have bl : (m ++ n).length ≤ 600 := by rw [List.length_append]; omega
  have HF1 := Lib.hid (fun X (hX : Tryd.U8 X) (h : IsR kcells l1 v1 X) => few17_any k l1 v1 X hX h hs1)
  have HF2 := Lib.hid (fun X (hX : Tryd.U8 X) (h : IsR kcells l2 v2 X) => few17_any k l2 v2 X hX h hs2)
  rw [← hm] at HF1
  rw [← hn] at HF2
  have HA := Lib.hid (fun u X (hX : Tryd.U8 X) (h : IsR kcells m u X) => gof_any k m u X hX h mi ms mm (by omega))
  have HB := Lib.hid (fun u X (hX : Tryd.U8 X) (h : IsR kcells n u X) => gof_any k n u X hX h ni ns nm (by omega))
  have HD := Lib.hid (fun u X (hX : Tryd.U8 X) (h : IsR kcells (m ++ n) u X) => gof_any k (m ++ n) u X hX h bi bs bm (by omega))
  obtain ⟨ga1, ga2, ga3⟩ := gof_in (k := k) mi (by omega)
  obtain ⟨gb1, gb2, gb3⟩ := gof_in (k := k) ni (by omega)
  obtain ⟨gd1, gd2, gd3⟩ := gof_in (k := k) bi (by omega)
  have HC := Lib.hid (fun X (hX : Tryd.U8 X) => gmerge_any k (gofE k m) (gofE k n) X hX ⟨ga2, ga3⟩ ⟨gb2, gb3⟩ ga1 gb1 (gok_of k m) (gok_of k n))
  have HMA := Lib.hid (fun (h1 : 1 ≤ k) (h7 : k ≤ 7) X (hX : Tryd.U8 X) => gmay_any k (gofE k m) X hX ga1 (gof_size ms).1 (gof_size ms).2)
  have HMD := Lib.hid (fun (h1 : 1 ≤ k) (h7 : k ≤ 7) X (hX : Tryd.U8 X) => gmay_any k (gofE k (m ++ n)) X hX gd1 (gof_size bs).1 (gof_size bs).2)
  have HGA := Lib.hid (fun (h1 : 1 ≤ k) (h7 : k ≤ 7) => gmay_gof (kmay_nul h1 h7) mm (by omega))
  have HGD := Lib.hid (fun (h1 : 1 ≤ k) (h7 : k ≤ 7) => gmay_gof (kmay_nul h1 h7) bm (by omega))
  obtain ⟨s, o, hC, hso⟩ := gboth k m n
  have HML := Lib.hid ml
  have HNL := Lib.hid nl
  rw [hC] at HC
  obtain ⟨D, hD⟩ : ∃ D, D = gofE k (m ++ n) := ⟨_, rfl⟩
  obtain ⟨A, hA⟩ : ∃ A, A = gofE k m := ⟨_, rfl⟩
  obtain ⟨B, hB⟩ : ∃ B, B = gofE k n := ⟨_, rfl⟩
  rw [← hA] at HA HC HMA HGA
  rw [← hB] at HB HC
  rw [← hD] at HD HC HMD HGD hso
  clear hA hB hD hC mi ms mm ml ni ns nm nl bi bs bm bl ga1 ga2 ga3 gb1 gb2 gb3 gd1 gd2 gd3 hm hn hI1 hI2 hi1 hi2 hs1 hs2 hU _hk0 _hk1
  have HQ := Lib.hid (eqS_run D)
  have HQG := Lib.hid (eqS_guard D D)
  obtain ⟨ac, ah, ⟨amb, amn, ams⟩, ⟨axb, axn, axs⟩, asm, ao⟩ := A
  obtain ⟨bc, bh, ⟨bmb, bmn, bms⟩, ⟨bxb, bxn, bxs⟩, bsm, bo⟩ := B
  obtain ⟨gc, gh, ⟨gmb, gmn, gms⟩, ⟨gxb, gxn, gxs⟩, gsm, go⟩ := D
  have HSO := Lib.hid hso
  dsimp only at HC HSO
  unfold gsv gcells at HA HB HC HD HMA HMD HQ HQG
  dsimp only at HA HB HC HD HMA HMD HQ HQG
  clear hso
  have HS0 := Lib.hid (shown17_any w HU.out)
  go_enter Tryd.func5, Tryd.ntmps5
  go_wp2_with fail
  refine HS0.out.mono ?_
  rintro e w1 ⟨rfl, hb1⟩
  have HB1 := Lib.hid hb1
  have HU1 := Lib.hid (Utf8Tabs_below HU.out hb1)
  have HV1 := Lib.hid (HV.out.below hb1)
  have HX1 := Lib.hid (HX.out.below hb1)
  clear hb1
  go_wp2_with fail
  refine (HF1.out w1 HU1.out HV1.out).mono ?_
  rintro e w2 ⟨⟨u1, rfl, hu1⟩, hb2⟩
  have HB2 := Lib.hid (below_then HB1.out hb2)
  have HU2 := Lib.hid (Utf8Tabs_below HU1.out hb2)
  have HX2 := Lib.hid (HX1.out.below hb2)
  have HW2 := Lib.hid hu1
  clear hu1 hb2
  go_wp2_with fail
  refine (HF2.out w2 HU2.out HX2.out).mono ?_
  rintro e w3 ⟨⟨u2, rfl, hu2⟩, hb3⟩
  have HB3 := Lib.hid (below_then HB2.out hb3)
  have HU3 := Lib.hid (Utf8Tabs_below HU2.out hb3)
  have HW3 := Lib.hid (HW2.out.below hb3)
  have HY3 := Lib.hid hu2
  clear hu2 hb3
  go_wp2_with fail
  refine (HA.out u1 w3 HU3.out HW3.out).mono ?_
  rintro e w4 ⟨rfl, hb4⟩
  have HB4 := Lib.hid (below_then HB3.out hb4)
  have HW4 := Lib.hid (HW3.out.below hb4)
  have HY4 := Lib.hid (HY3.out.below hb4)
  clear hb4
  obtain ⟨X4, hX4⟩ : ∃ X4, X4 = w4.alloc (.cells #[.int .i64 ac, .bool ah, .bool amb, .int .i64 amn, .string ams, .bool axb, .int .i64 axn, .string axs, .int .i64 asm, .bool ao] 28) := ⟨_, rfl⟩
  have hbn4 : Below w4.heap.size w4 X4 := by rw [hX4]; exact (Below.refl _ _).alloc (Nat.le_refl _) _
  have RA4 : Hid (Row X4 w4.heap.size 28 [.int .i64 ac, .bool ah, .bool amb, .int .i64 amn, .string ams, .bool axb, .int .i64 axn, .string axs, .int .i64 asm, .bool ao]) := Lib.hid (by rw [hX4]; exact heap_alloc_new w4 _)
  have HBX4 := Lib.hid (below_then HB4.out hbn4)
  have HU4 := Lib.hid (Utf8Tabs_below HU.out HBX4.out)
  have HWX4 := Lib.hid (HW4.out.below hbn4)
  have HYX4 := Lib.hid (HY4.out.below hbn4)
  have HCB := Lib.hid (HB.out u2 X4 HU4.out HYX4.out)
  clear hbn4
  subst hX4
  go_wp2_with fail
  refine HCB.out.mono ?_
  rintro e w5 ⟨rfl, hb5⟩
  have HB5 := Lib.hid (below_then HBX4.out hb5)
  have RA5 := Lib.hid (RA4.out.below hb5 RA4.out.lt)
  have HW5 := Lib.hid (HWX4.out.below hb5)
  have HY5 := Lib.hid (HYX4.out.below hb5)
  clear hb5
  obtain ⟨X5, hX5⟩ : ∃ X5, X5 = w5.alloc (.cells #[.int .i64 bc, .bool bh, .bool bmb, .int .i64 bmn, .string bms, .bool bxb, .int .i64 bxn, .string bxs, .int .i64 bsm, .bool bo] 28) := ⟨_, rfl⟩
  have hbn5 : Below w5.heap.size w5 X5 := by rw [hX5]; exact (Below.refl _ _).alloc (Nat.le_refl _) _
  have RB5 : Hid (Row X5 w5.heap.size 28 [.int .i64 bc, .bool bh, .bool bmb, .int .i64 bmn, .string bms, .bool bxb, .int .i64 bxn, .string bxs, .int .i64 bsm, .bool bo]) := Lib.hid (by rw [hX5]; exact heap_alloc_new w5 _)
  have RAX5 := Lib.hid (RA5.out.below hbn5 RA5.out.lt)
  have HBX5 := Lib.hid (below_then HB5.out hbn5)
  have HU5 := Lib.hid (Utf8Tabs_below HU.out HBX5.out)
  have HWX5 := Lib.hid (HW5.out.below hbn5)
  have HYX5 := Lib.hid (HY5.out.below hbn5)
  have HCC := Lib.hid (HC.out X5 HU5.out)
  clear hbn5
  subst hX5
  have a0 := RAX5.out.cell 0
  have a1 := RAX5.out.cell 1
  have a2 := RAX5.out.cell 2
  have a3 := RAX5.out.cell 3
  have a4 := RAX5.out.cell 4
  have a5 := RAX5.out.cell 5
  have a6 := RAX5.out.cell 6
  have a7 := RAX5.out.cell 7
  have a8 := RAX5.out.cell 8
  have a9 := RAX5.out.cell 9
  have b0 := RB5.out.cell 0
  have b1 := RB5.out.cell 1
  have b2 := RB5.out.cell 2
  have b3 := RB5.out.cell 3
  have b4 := RB5.out.cell 4
  have b5 := RB5.out.cell 5
  have b6 := RB5.out.cell 6
  have b7 := RB5.out.cell 7
  have b8 := RB5.out.cell 8
  have b9 := RB5.out.cell 9
  go_wp2_with fail
  refine HCC.out.mono ?_
  rintro e w6 ⟨rfl, hb6⟩
  clear a0 a1 a2 a3 a4 a5 a6 a7 a8 a9 b0 b1 b2 b3 b4 b5 b6 b7 b8 b9
  have HB6 := Lib.hid (below_then HBX5.out hb6)
  have RA6 := Lib.hid (RAX5.out.below hb6 RAX5.out.lt)
  have HW6 := Lib.hid (HWX5.out.below hb6)
  have HY6 := Lib.hid (HYX5.out.below hb6)
  clear hb6
  obtain ⟨X6, hX6⟩ : ∃ X6, X6 = w6.alloc (.cells #[.int .i64 gc, .bool gh, .bool gmb, .int .i64 gmn, .string gms, .bool gxb, .int .i64 gxn, .string gxs, .int .i64 s, .bool o] 28) := ⟨_, rfl⟩
  have hbn6 : Below w6.heap.size w6 X6 := by rw [hX6]; exact (Below.refl _ _).alloc (Nat.le_refl _) _
  have RC6 : Hid (Row X6 w6.heap.size 28 [.int .i64 gc, .bool gh, .bool gmb, .int .i64 gmn, .string gms, .bool gxb, .int .i64 gxn, .string gxs, .int .i64 s, .bool o]) := Lib.hid (by rw [hX6]; exact heap_alloc_new w6 _)
  have RAX6 := Lib.hid (RA6.out.below hbn6 RA6.out.lt)
  have HBX6 := Lib.hid (below_then HB6.out hbn6)
  have HZ6 : Hid (X6.heap.size = w6.heap.size + 1) := Lib.hid (by rw [hX6]; simp)
  obtain ⟨X7, hX7⟩ : ∃ X7, X7 = X6.alloc (.cells #[] 26) := ⟨_, rfl⟩
  have hbn7 : Below X6.heap.size X6 X7 := by rw [hX7]; exact (Below.refl _ _).alloc (Nat.le_refl _) _
  have RC7 := Lib.hid (RC6.out.below hbn7 RC6.out.lt)
  have RA7 := Lib.hid (RAX6.out.below hbn7 RAX6.out.lt)
  have HB7 := Lib.hid (below_then HBX6.out hbn7)
  have HZB7 := Lib.hid hbn7
  have hown7 : X7.ownsRow X6.heap.size 26 3 (.slice (some ⟨X6.heap.size, 0, none⟩) 0 0) 0 [] := by rw [hX7]; exact ownW_made X6 _ 3
  have HW7 := Lib.hid ((HW6.out.below hbn6).below hbn7)
  have HY7 := Lib.hid ((HY6.out.below hbn6).below hbn7)
  obtain ⟨M1, n1, c1, rfl⟩ := HW7.out.shape
  obtain ⟨M2, n2, c2, rfl⟩ := HY7.out.shape
  obtain ⟨hn1, hA1, -, -, hl1⟩ := HW7.out.parts
  have HN1 : Hid ((m.flatMap kcells).length = n1 * 3) := Lib.hid (by rw [flat_len (m := 3) (fun _ => rfl), hn1])
  have HN1L : Hid (n1 ≤ 300) := Lib.hid (by rw [← hn1]; exact HML.out)
  have hn16 : n1 ≤ 300 := HN1L.out
  have hz7 := hbn7.size
  have hbb7 : Below X6.heap.size X6 X7 := hbn7
  rw [HZ6.out] at hown7 hbb7 hz7
  have HYX6 := Lib.hid (HY6.out.below hbn6)
  have hn2 := HY7.out.parts.1
  have HN2 : Hid ((n.flatMap kcells).length = n2 * 3) := Lib.hid (by rw [flat_len (m := 3) (fun _ => rfl), hn2])
  have hn26 : n2 ≤ 300 := by rw [← hn2]; exact HNL.out
  clear hbn6 hbn7 hn1 hn2
  subst hX7
  subst hX6
  go_wp2_with (at_builtin; refine wpList_joinW elemW rfl _ _ rfl (w6.heap.size + 1) _ _ _ _ _ _ (m.flatMap kcells) _ rfl rfl hA1 HN1.out hl1 (flat_one _) hown7 hbb7 hz7 (by omega) (by omega) ?_)
  intro v8 w8 hown8 hb8 hg8 _
  have HB8 : Hid (Below (w6.heap.size + 1) (w6.alloc (.cells #[.int .i64 gc, .bool gh, .bool gmb, .int .i64 gmn, .string gms, .bool gxb, .int .i64 gxn, .string gxs, .int .i64 s, .bool o] 28)) w8) := Lib.hid hb8
  have hb8' : Below (w6.alloc (.cells #[.int .i64 gc, .bool gh, .bool gmb, .int .i64 gmn, .string gms, .bool gxb, .int .i64 gxn, .string gxs, .int .i64 s, .bool o] 28)).heap.size (w6.alloc (.cells #[.int .i64 gc, .bool gh, .bool gmb, .int .i64 gmn, .string gms, .bool gxb, .int .i64 gxn, .string gxs, .int .i64 s, .bool o] 28)) w8 := by rw [HZ6.out]; exact hb8
  have HY8 := HYX6.out.below hb8'
  obtain ⟨-, hA2, -, -, hl2⟩ := HY8.parts
  have hz8 : w6.heap.size + 1 ≤ w8.heap.size := by have h := hb8.size; rw [HZ6.out] at h; exact h
  clear hg8 hown7 hbb7 hz7 hl1 hA1 HY8 hb8'
  go_wp2_with (at_builtin; refine wpList_joinW elemW rfl _ _ rfl (w6.heap.size + 1) _ _ _ _ _ _ (n.flatMap kcells) _ rfl rfl hA2 HN2.out hl2 (flat_one _) hown8 hb8 hz8 (by omega) (by omega) ?_)
  intro v9 w9 hown9 hb9 _ _
  have hb9' : Below (w6.alloc (.cells #[.int .i64 gc, .bool gh, .bool gmb, .int .i64 gmn, .string gms, .bool gxb, .int .i64 gxn, .string gxs, .int .i64 s, .bool o] 28)).heap.size (w6.alloc (.cells #[.int .i64 gc, .bool gh, .bool gmb, .int .i64 gmn, .string gms, .bool gxb, .int .i64 gxn, .string gxs, .int .i64 s, .bool o] 28)) w9 := by rw [HZ6.out]; exact hb9
  have HB9 := Lib.hid (below_then HBX6.out hb9')
  have HU9 := Lib.hid (Utf8Tabs_below HU.out HB9.out)
  have RC9 := Lib.hid (RC6.out.below hb9' RC6.out.lt)
  have RA9 := Lib.hid (RAX6.out.below hb9' RAX6.out.lt)
  have HI9 : Hid (IsR kcells (m ++ n) v9 w9) := Lib.hid (isR_own (m := 3) (fun _ => rfl) (by omega) (by rw [List.flatMap_append]; simpa using hown9))
  have HCD := Lib.hid (HD.out v9 w9 HU9.out HI9.out)
  clear hown9 hb9 hb9' hown8 hb8 hz8 hl2 hA2
  go_wp2_with fail
  refine HCD.out.mono ?_
  rintro e w10 ⟨rfl, hb10⟩
  have HB10 := Lib.hid (below_then HB9.out hb10)
  have RC10 := Lib.hid (RC9.out.below hb10 RC9.out.lt)
  have RA10 := Lib.hid (RA9.out.below hb10 RA9.out.lt)
  clear hb10
  obtain ⟨X10, hX10⟩ : ∃ X10, X10 = w10.alloc (.cells #[.int .i64 gc, .bool gh, .bool gmb, .int .i64 gmn, .string gms, .bool gxb, .int .i64 gxn, .string gxs, .int .i64 gsm, .bool go] 28) := ⟨_, rfl⟩
  have hbn10 : Below w10.heap.size w10 X10 := by rw [hX10]; exact (Below.refl _ _).alloc (Nat.le_refl _) _
  have RD11 : Hid (Row X10 w10.heap.size 28 [.int .i64 gc, .bool gh, .bool gmb, .int .i64 gmn, .string gms, .bool gxb, .int .i64 gxn, .string gxs, .int .i64 gsm, .bool go]) := Lib.hid (by rw [hX10]; exact heap_alloc_new w10 _)
  have RC11 := Lib.hid (RC10.out.below hbn10 RC10.out.lt)
  have RA11 := Lib.hid (RA10.out.below hbn10 RA10.out.lt)
  have HB11 := Lib.hid (below_then HB10.out hbn10)
  have HU11 := Lib.hid (Utf8Tabs_below HU.out HB11.out)
  have HNE : Hid (w6.heap.size ≠ w10.heap.size) := Lib.hid (by have := RC10.out.lt; omega)
  have HLC : Hid (w.heap.size ≤ w6.heap.size) := Lib.hid (HB6.out.size)
  clear hbn10
  cases o with
  | false =>
    obtain ⟨rfl, rfl⟩ := HSO.out rfl
    have hq := HQ.out
    have hqg := HQG.out
    have HMA11 := Lib.hid (fun h1 h7 => HMA.out h1 h7 X10 HU11.out)
    have HMD11 := Lib.hid (fun h1 h7 X (hX : Tryd.U8 X) => HMD.out h1 h7 X hX)
    subst hX10
    have a0 := RA11.out.cell 0
    have a1 := RA11.out.cell 1
    have a2 := RA11.out.cell 2
    have a3 := RA11.out.cell 3
    have a4 := RA11.out.cell 4
    have a5 := RA11.out.cell 5
    have a6 := RA11.out.cell 6
    have a7 := RA11.out.cell 7
    have a8 := RA11.out.cell 8
    have a9 := RA11.out.cell 9
    have x0 := RC11.out.cell 0
    have x1 := RC11.out.cell 1
    have x2 := RC11.out.cell 2
    have x3 := RC11.out.cell 3
    have x4 := RC11.out.cell 4
    have x5 := RC11.out.cell 5
    have x6 := RC11.out.cell 6
    have x7 := RC11.out.cell 7
    have x8 := RC11.out.cell 8
    have x9 := RC11.out.cell 9
    have y0 := RD11.out.cell 0
    have y1 := RD11.out.cell 1
    have y2 := RD11.out.cell 2
    have y3 := RD11.out.cell 3
    have y4 := RD11.out.cell 4
    have y5 := RD11.out.cell 5
    have y6 := RD11.out.cell 6
    have y7 := RD11.out.cell 7
    have y8 := RD11.out.cell 8
    have y9 := RD11.out.cell 9
    rcases (by omega : k < 1 ∨ (1 ≤ k ∧ 7 < k) ∨ (1 ≤ k ∧ k ≤ 7)) with h | ⟨h1, h⟩ | ⟨h1, h7⟩
    · have d1 : decide (k < 1) = true := decide_eq_true h
      go_wp2
      go_ret
      exact ⟨rfl, HB11.out⟩
    · have d1 : decide (k < 1) = false := decide_eq_false (by omega)
      have d2 : decide (7 < k) = true := decide_eq_true h
      go_wp2
      go_ret
      exact ⟨rfl, HB11.out⟩
    · have d1 : decide (k < 1) = false := decide_eq_false (by omega)
      have d2 : decide (7 < k) = false := decide_eq_false (by omega)
      have HM1 := HMA11.out h1 h7
      rw [HGA.out h1 h7] at HM1
      have HM1H := Lib.hid HM1
      clear HM1
      go_wp2_with fail
      refine HM1H.out.mono ?_
      rintro e w12 ⟨rfl, hb12⟩
      have HB12 := Lib.hid (below_then HB11.out hb12)
      have RC12 := Lib.hid (RC11.out.below hb12 RC11.out.lt)
      have HM2 := HMD11.out h1 h7 w12 (Utf8Tabs_below HU.out HB12.out)
      rw [HGD.out h1 h7] at HM2
      have HM2H := Lib.hid HM2
      clear HM2 hb12
      clear a0 a1 a2 a3 a4 a5 a6 a7 a8 a9 x0 x1 x2 x3 x4 x5 x6 x7 x8 x9 y0 y1 y2 y3 y4 y5 y6 y7 y8 y9
      have x0 := RC12.out.cell 0
      have x1 := RC12.out.cell 1
      have x2 := RC12.out.cell 2
      have x3 := RC12.out.cell 3
      have x4 := RC12.out.cell 4
      have x5 := RC12.out.cell 5
      have x6 := RC12.out.cell 6
      have x7 := RC12.out.cell 7
      have x8 := RC12.out.cell 8
      have x9 := RC12.out.cell 9
      go_wp2_with fail
      refine HM2H.out.mono ?_
      rintro e w13 ⟨rfl, hb13⟩
      have HB13 := Lib.hid (below_then HB12.out hb13)
      clear hb13
      go_wp2
      go_ret
      exact ⟨rfl, HB13.out⟩
  | true =>
    have hq := HQ.out
    have hqg := HQG.out
    obtain ⟨X11, hX11⟩ : ∃ X11, X11 = X10.setCell ⟨w6.heap.size, 9, none⟩ (.bool go) := ⟨_, rfl⟩
    have RC12 : Hid (Row X11 w6.heap.size 28 [.int .i64 gc, .bool gh, .bool gmb, .int .i64 gmn, .string gms, .bool gxb, .int .i64 gxn, .string gxs, .int .i64 s, .bool go]) := Lib.hid (by rw [hX11]; exact RC11.out.set_ 9 _)
    have RD12 := Lib.hid (RD11.out.far (p := ⟨w6.heap.size, 9, none⟩) HNE.out.symm (.bool go))
    have HB12 := Lib.hid (HB11.out.setCell (p := ⟨w6.heap.size, 9, none⟩) HLC.out (.bool go))
    rw [← hX11] at RD12 HB12
    obtain ⟨X12, hX12⟩ : ∃ X12, X12 = X11.setCell ⟨w6.heap.size, 8, none⟩ (.int .i64 gsm) := ⟨_, rfl⟩
    have RC13 : Hid (Row X12 w6.heap.size 28 [.int .i64 gc, .bool gh, .bool gmb, .int .i64 gmn, .string gms, .bool gxb, .int .i64 gxn, .string gxs, .int .i64 gsm, .bool go]) := Lib.hid (by rw [hX12]; exact RC12.out.set_ 8 _)
    have RD13 := Lib.hid (RD12.out.far (p := ⟨w6.heap.size, 8, none⟩) HNE.out.symm (.int .i64 gsm))
    have HB13 := Lib.hid (HB12.out.setCell (p := ⟨w6.heap.size, 8, none⟩) HLC.out (.int .i64 gsm))
    rw [← hX12] at RD13 HB13
    have f9 := RC11.out.free 9
    have f8 := RC12.out.free 8
    have x0 := RC11.out.cell 0
    have x1 := RC11.out.cell 1
    have x2 := RC11.out.cell 2
    have x3 := RC11.out.cell 3
    have x4 := RC11.out.cell 4
    have x5 := RC11.out.cell 5
    have x6 := RC11.out.cell 6
    have x7 := RC11.out.cell 7
    have x8 := RC11.out.cell 8
    have x9 := RC11.out.cell 9
    have y0 := RD11.out.cell 0
    have y1 := RD11.out.cell 1
    have y2 := RD11.out.cell 2
    have y3 := RD11.out.cell 3
    have y4 := RD11.out.cell 4
    have y5 := RD11.out.cell 5
    have y6 := RD11.out.cell 6
    have y7 := RD11.out.cell 7
    have y8 := RD11.out.cell 8
    have y9 := RD11.out.cell 9
    have r0 := RC12.out.cell 0
    have r1 := RC12.out.cell 1
    have r2 := RC12.out.cell 2
    have r3 := RC12.out.cell 3
    have r4 := RC12.out.cell 4
    have r5 := RC12.out.cell 5
    have r6 := RC12.out.cell 6
    have r7 := RC12.out.cell 7
    have r8 := RC12.out.cell 8
    have r9 := RC12.out.cell 9
    have t0 := RD12.out.cell 0
    have t1 := RD12.out.cell 1
    have t2 := RD12.out.cell 2
    have t3 := RD12.out.cell 3
    have t4 := RD12.out.cell 4
    have t5 := RD12.out.cell 5
    have t6 := RD12.out.cell 6
    have t7 := RD12.out.cell 7
    have t8 := RD12.out.cell 8
    have t9 := RD12.out.cell 9
    have p0 := RC13.out.cell 0
    have p1 := RC13.out.cell 1
    have p2 := RC13.out.cell 2
    have p3 := RC13.out.cell 3
    have p4 := RC13.out.cell 4
    have p5 := RC13.out.cell 5
    have p6 := RC13.out.cell 6
    have p7 := RC13.out.cell 7
    have p8 := RC13.out.cell 8
    have p9 := RC13.out.cell 9
    have q0 := RD13.out.cell 0
    have q1 := RD13.out.cell 1
    have q2 := RD13.out.cell 2
    have q3 := RD13.out.cell 3
    have q4 := RD13.out.cell 4
    have q5 := RD13.out.cell 5
    have q6 := RD13.out.cell 6
    have q7 := RD13.out.cell 7
    have q8 := RD13.out.cell 8
    have q9 := RD13.out.cell 9
    subst hX12
    subst hX11
    subst hX10
    go_wp2
    go_ret
    exact ⟨rfl, HB13.out⟩

set_option maxRecDepth 100000 in
theorem StatsBoth_lifted (os : Os) (started : os.Started) (H : Type) (enc : TypeId × Value → H) :
    ReturnsInHanded {} Tryd.checked os 5 .any (fun w args => (Rows.statsBothSpec.pre enc Tryd.prog Tryd.f5 [] false w args ∧ laidMetH Tryd.prog [("unicode/utf8.acceptRanges", Rows.laid_unicode_utf8_acceptRanges), ("unicode/utf8.first", Rows.laid_unicode_utf8_first)] w) ∧ sizedMet enc Tryd.prog Tryd.f5 (OpenSpec.ofChange Rows.statsBothSpec) false w args) (Rows.statsBothSpec.post enc Tryd.prog Tryd.f5 false true false false) := by
  refine returnsInHanded_of_change_and (C := Tryd.checked) (X := fun w _ => laidMetH Tryd.prog [("unicode/utf8.acceptRanges", Rows.laid_unicode_utf8_acceptRanges), ("unicode/utf8.first", Rows.laid_unicode_utf8_first)] w) (fun _ _ _ hh h => h.of_heap hh) own started (by kernel_rfl) Tryd.func5
    (ChangeSpec.witness_shaped (enc := enc) (C := Tryd.checked) (os := os) (X := fun w _ => laidMetH Tryd.prog [("unicode/utf8.acceptRanges", Rows.laid_unicode_utf8_acceptRanges), ("unicode/utf8.first", Rows.laid_unicode_utf8_first)] w) false (World.laidAll Tryd.prog os [("unicode/utf8.acceptRanges", Rows.laid_unicode_utf8_acceptRanges), ("unicode/utf8.first", Rows.laid_unicode_utf8_first)]) #[.int .i64 0, .slice none 0 0, .slice none 0 0] 8 (World.laidAll_os _ _ _) (World.shaped_of_ZipB (by kernel_rfl) (by kernel_rfl)) (by kernel_rfl) (by kernel_rfl) (by kernel_rfl) (by rw [MakeChecks.laidMetH_plain _ _ _ (by kernel_rfl)]; exact laidMet_laidAll _ (by kernel_rfl) (by kernel_rfl))) ?_
  intro W base args ds gs before hval0 hW _ _ hL _
  have hT := u8_of hL
  clear hL
  have hval : ∀ (j : Nat) t v, Tryd.f5.params[j]? = some t → args[j]? = some v → Value.okWide Tryd.prog W .any base t v := hval0
  have hW' := hW
  obtain ⟨p, q, hT0, hV, rfl, hfz, hnd⟩ := hW
  have hA : DataW.TrodAll enc Tryd.prog W 0 (fun _ => true) true Tryd.f5.params.toList args.toList ds p := hT0
  rw [Tryd.params5] at hA hval
  obtain ⟨v0, vs0, d0, ds0, p0, q0, hargs, rfl, rfl, h0, r0⟩ := trodAll_cons hA
  obtain ⟨v1, vs1, d1, ds1, p1, q1, rfl, rfl, rfl, h1, r1⟩ := trodAll_cons r0
  obtain ⟨v2, vs2, d2, ds2, p2, q2, rfl, rfl, rfl, h2, r2⟩ := trodAll_cons r1
  obtain ⟨rfl, rfl, rfl⟩ := trodAll_nil r2
  obtain rfl : args = #[v0, v1, v2] := by cases args; simp_all
  obtain ⟨rfl, rfl⟩ := trodVars_none hV
  obtain ⟨a0, rfl, rfl, rfl, w0⟩ := open_int Tryd.underlying3 (hval 0 3 v0 rfl rfl) h0
  have hlt1 : ∀ x ∈ p1, x.block < W.heap.size := fun x hx => hW'.lt x (by simp [hx])
  obtain ⟨l1, hl1, hp1, hq1⟩ := open_vals (hval 1 22 v1 rfl rfl) h1 hlt1
  have hlt2 : ∀ x ∈ p2, x.block < W.heap.size := fun x hx => hW'.lt x (by simp [hx])
  obtain ⟨l2, hl2, hp2, hq2⟩ := open_vals (hval 2 22 v2 rfl rfl) h2 hlt2
  clear hT0 hval0
  refine (StatsBoth_walk W hT a0 (wf_i64 w0).1 (wf_i64 w0).2 v1 l1 hl1 hp1 hq1 v2 l2 hl2 hp2 hq2).mono fun e W' ⟨he, hb⟩ => ?_
  subst he
  exact ⟨_, rfl, law_post laidOut Tryd.underlying4 (by kernel_rfl) (by kernel_rfl) rfl hW' rfl hb⟩

theorem StatsBoth_over : Rows.statsBothRow.holds Tryd.pinned (OpenSpec.ofChange Rows.statsBothSpec) :=
  OpenClaim.holds_of_wide 5 Tryd.f5 rfl rfl rfl rfl rfl rfl rfl ⟨rfl, rfl, rfl, rfl, rfl⟩ rfl rfl rfl rfl rfl (by kernel_rfl) Tryd.func5 (by kernel_rfl)
    (of_decide_eq_true (by kernel_rfl)) (by unfold Func.isWrapper; first | (rw [if_pos (by decide +kernel)]; kernel_rfl) | (rw [if_neg (by decide +kernel)]; exact ⟨rfl, rfl⟩))
    (fun os started H enc _ => StatsBoth_lifted os started H enc)

theorem StatsBoth_holds : Rows.StatsBothCardSaid :=
  Claim7.holds_tied_plain_at .later [] _ true _ _ StatsBoth_over (fun _ h => by cases h) (by kernel_rfl) (fun _ h => by cases h) statsBoth_row_tie rfl ⟨rfl, rfl⟩ (by kernel_rfl) rfl
    (fun f fn hf hfn => by
      obtain rfl : f = 5 := Option.some.inj ((show Tryd.prog.funcNamed "pilaster/pilasterlaw17.StatsBoth" = some 5 by kernel_rfl).symm.trans hf) |>.symm
      obtain rfl : fn = Tryd.f5 := (Option.some.inj (Tryd.func5.symm.trans hfn)).symm
      exact ⟨by kernel_rfl, fun j t ht => stand_ins (by kernel_rfl) ht⟩)
    (by kernel_rfl)
#print axioms StatsBoth_holds

end Go.Proofs.YtgbmppdbahjjhaaDoor
