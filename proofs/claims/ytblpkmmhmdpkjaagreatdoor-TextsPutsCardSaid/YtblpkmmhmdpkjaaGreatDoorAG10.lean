/- Texts that the claims of this seat share, part 10: JLayD JTk JSp JIs JShown. -/
import Derived.Test.YtblpkmmhmdpkjaaGreatDoorAG9
/- texts' own contracts: Put's closure with slices.IndexFunc and slices.ContainsFunc; layPlain, layDictionary; Put. -/



namespace Go.Proofs.YtblpkmmhmdpkjaaGreatDoor

open Go.RowKit Go.Maps

theorem results_row1 {P : Program} {fn : Func} {p : Tmp} {ty : TypeId} (h : fn.results = #[.cell p ty]) (tmps : Array Value) (w : World) (g : Nat) (t : TypeId) (cs : Array Value) (fr : Nat × Nat) (d : TypeDesc)
    (hp : tmps.getD p undef = .pointer (some ⟨g, 0, none⟩)) (hg : w.heap[g]? = some (.cells cs t fr))
    (hu : P.underlying ty = some d) (hd : (match d with | .struct _ | .array _ _ => true | _ => false) = true) (hi : (P.info? ty).map (·.size) = some cs.size) :
    (results fn tmps).run P w = .ok (.agg cs) w := by
  have hp' : tmps[p]?.getD undef = Value.pointer (some ⟨g, 0, none⟩) := by simpa using hp
  simp only [results, h]
  simp [hp', asAddr, run_loadVar_row w g t ty cs fr d hg hu hd hi]
def jbig (s : ByteArray) : Bool := decide (300 < s.size)
theorem jbig_any (s : ByteArray) (w : World) : Calls Tryz.prog 20 #[.string s] w fun e w' => e = .returned (.bool (jbig s)) ∧ w = w' := by
  have hd : decide ((300 : Int) < (s.size : Int)) = jbig s := by unfold jbig; rw [decide_eq_decide]; omega
  obtain ⟨q, hq⟩ : ∃ q, q = jbig s := ⟨_, rfl⟩
  rw [← hq] at hd ⊢
  clear hq
  go_enter Tryz.func20, Tryz.ntmps20
  go_wp2
  go_ret
  exact ⟨rfl, rfl⟩
def JIdxRel (l : List ByteArray) (w : World) (i : Value) (wr : World) : Prop := ∃ k : Nat, k ≤ l.length ∧ i = .int .i64 (k : Int) ∧ (l.take k).any jbig = false ∧ wr = w
set_option maxHeartbeats 1000000 in
set_option maxRecDepth 100000 in
theorem jindex_any (l : List ByteArray) (v : Value) (w : World) (hv : IsV Value.string l v w) (hb : l.length ≤ 1000000) :
    Calls Tryz.prog 32 #[v, .func (.func 20) #[] #[]] w
      fun e w' => (∃ r : Int, e = .returned (.int .i64 r) ∧ decide (0 ≤ r) = l.any jbig) ∧ w = w' := by
  obtain ⟨A, n, c, rfl⟩ := hv.shape
  have HN := Lib.hid hv.parts.1
  have HV := Lib.hid hv
  have hn6 : n ≤ 1000000 := by have := HN.out; omega
  clear hv hb
  go_enter Tryz.func32, Tryz.ntmps32
  go_wp2
  go_loopw [8] (JIdxRel l w) (fun i _ => n - (intOf i).toNat)
  case atStart => exact ⟨0, Nat.zero_le _, rfl, rfl, rfl⟩
  case round =>
    obtain ⟨k, hk, rfl, hs, hw⟩ := hrel
    subst hw
    have HSM := Lib.hid hs
    have hkn : k ≤ n := by have := HN.out; omega
    clear hs hk
    by_cases hlt : k < n
    · have hkl : k < l.length := by have := HN.out; omega
      have hlti : (k : Int) < (n : Int) := by omega
      obtain ⟨ad, rfl, had, hcell⟩ := HV.out.at hkl
      obtain ⟨x, hx⟩ : ∃ x, x = l[k] := ⟨_, rfl⟩
      rw [← hx] at hcell
      have hxm : x ∈ l := by rw [hx]; exact List.getElem_mem hkl
      have HL := Lib.hid (jbig_any x wr)
      have HSN := Lib.hid (show (l.take (k + 1)).any jbig = jbig x by rw [List.take_succ_eq_append_getElem hkl, List.any_append, HSM.out, hx]; simp)
      have HAL := Lib.hid (show jbig x = true → l.any jbig = true from fun h => List.any_eq_true.2 ⟨x, hxm, h⟩)
      clear hx hxm had
      generalize hq : jbig x = p at HL HSN HAL
      clear hq
      cases p with
      | true =>
        have HA := Lib.hid (HAL.out rfl)
        go_wp2_with fail
        refine HL.out.mono ?_
        rintro e w1 ⟨rfl, rfl⟩
        go_wp2
        go_ret
        exact ⟨⟨_, rfl, by rw [HA.out]; exact decide_eq_true (by omega)⟩, rfl⟩
      | false =>
        go_wp2_with fail
        refine HL.out.mono ?_
        rintro e w1 ⟨rfl, rfl⟩
        go_wp2
        go_roundw
        case rel => exact ⟨k + 1, hkl, by go_num, HSN.out, rfl⟩
        case measure => simp [intOf]; omega
    · obtain rfl : k = n := by omega
      have hlti : ¬ (k : Int) < (k : Int) := by omega
      have HA := Lib.hid HSM.out
      rw [List.take_of_length_le (by have := HN.out; omega)] at HA
      go_wp2
      go_ret
      exact ⟨⟨_, rfl, by rw [HA.out]; rfl⟩, rfl⟩
theorem jcontains_any (l : List ByteArray) (v : Value) (w : World) (hv : IsV Value.string l v w) (hb : l.length ≤ 1000000) :
    Calls Tryz.prog 19 #[v, .func (.func 20) #[] #[]] w
      fun e w' => e = .returned (.bool (l.any jbig)) ∧ w = w' := by
  have HI := Lib.hid (jindex_any l v w hv hb)
  clear hv hb
  go_enter Tryz.func19, Tryz.ntmps19
  go_wp2_with fail
  refine HI.out.mono ?_
  rintro e w1 ⟨⟨r, rfl, hr⟩, rfl⟩
  go_wp2
  go_ret
  exact ⟨rfl, rfl⟩
/-- A column that a call answers, its streams in a block that the call made. -/
def RetCol (w : World) (c : JC) (e : Ending) (w' : World) : Prop := ∃ k n m, e = .returned (colv c (.slice (some ⟨k, 0, none⟩) n m)) ∧ w.heap.size ≤ k ∧ IsCol c (colv c (.slice (some ⟨k, 0, none⟩) n m)) w' ∧ Below w.heap.size w w'
theorem IsCol.laid {c : JC} {A : Option Addr} {n k : Nat} {w : World} (h : IsCol c (colv c (.slice A n k)) w) : ∃ L : List (Int × List UInt8 × Value), IsR scells L (.slice A n k) w ∧ (∀ p ∈ L, IsB p.2.1 p.2.2 w) ∧ c.streams = L.map (fun p => (p.1, p.2.1)) := by
  obtain ⟨L, s, h1, h, h3, h2⟩ := h
  unfold colv at h1
  simp only [Value.agg.injEq, Array.mk.injEq, List.cons.injEq] at h1
  have h4 := h1.2.2.2.1
  rw [← h4] at h
  exact ⟨L, h, h3, h2⟩
set_option maxHeartbeats 2000000 in
set_option maxRecDepth 100000 in
theorem jlayplain_any (l : List ByteArray) (v : Value) (w : World) (ht : WTab w) (hv : IsV Value.string l v w) (hb : l.length ≤ 4096) (hs : ∀ s ∈ l, s.size ≤ 300) :
    Calls Tryz.prog 21 #[v] w (RetCol w ⟨(l.length : Int), 1, 0, [(2, jbytes l), (3, (uputE (jlens l) false).1)]⟩) := by
  obtain ⟨w0, hw0⟩ : ∃ w0, w0 = w.alloc (.cells #[.int .i64 0, .int .i64 0, .int .i64 0, .slice none 0 0] 27) := ⟨_, rfl⟩
  have HB0 := Lib.hid (show Below w.heap.size w w0 by rw [hw0]; exact (Below.refl _ _).alloc (Nat.le_refl _) _)
  have HR0 := Lib.hid (show Row w0 w.heap.size 27 [.int .i64 0, .int .i64 0, .int .i64 0, .slice none 0 0] by rw [hw0]; exact heap_alloc_new w _)
  have HJ := Lib.hid (jjoined_any l v w0 (hv.below HB0.out) hb hs)
  have HW := Lib.hid (fun X (h : Below w.heap.size w X) => jrowsize_any l v X (ht.below h ht.lt) (hv.below h) hb hs)
  obtain ⟨A, n, c, rfl⟩ := hv.shape
  have hln := hv.parts.1
  rw [hln]
  clear hv hb hs ht hln
  go_enter Tryz.func21, Tryz.ntmps21
  go_wp2_with fail
  rw [← hw0]
  clear hw0
  refine HJ.out.mono ?_
  rintro e w1 ⟨u1, rfl, hu1, hb1⟩
  obtain ⟨A1, n1, c1, rfl⟩ := IsV.shape (f := bv) hu1
  have HB1 := Lib.hid (below_then HB0.out hb1)
  have HR1 := Lib.hid (HR0.out.below hb1 HR0.out.lt)
  have HU1 := Lib.hid hu1
  clear hu1 hb1
  go_wp2_with fail
  refine (HW.out w1 HB1.out).mono ?_
  rintro e w2 ⟨u2, rfl, hu2, hb2⟩
  obtain ⟨A2, n2, c2, rfl⟩ := IsV.shape (f := bv) hu2
  have HB2 := Lib.hid (below_then HB1.out hb2)
  have HR2 := Lib.hid (HR1.out.below hb2 HR1.out.lt)
  have HX1 := Lib.hid (HU1.out.below hb2)
  have HX2 := Lib.hid hu2
  have ha := (Below.refl w2.heap.size w2).alloc (Nat.le_refl _) (.cells #[.int .i64 2, .slice A1 n1 c1, .int .i64 3, .slice A2 n2 c2] 40)
  have HA := Lib.hid ha
  have HBA := Lib.hid (below_then HB2.out ha)
  have HRA := Lib.hid (HR2.out.below ha HR2.out.lt)
  have HK2 := Lib.hid (show w2.heap.size ≠ w.heap.size by have := HR2.out.lt; omega)
  have HI := Lib.hid (isR_two w2 (2, jbytes l, .slice A1 n1 c1) (3, (uputE (jlens l) false).1, .slice A2 n2 c2))
  clear hu2 hb2 ha
  go_wp2_with (refine wpList_storeRow colSize rfl _ _ rfl w.heap.size _ _ [.int .i64 (n : Int), .int .i64 1, .int .i64 0, .slice (some ⟨w2.heap.size, 0, none⟩) 2 2] rfl rfl HRA.out rfl rfl (by simp [Value.oneCell']) w w.heap.size HBA.out (Nat.le_refl _) ?_)
  intro w5 hr5 hb5 hs5
  have HR5 := Lib.hid hr5
  have HB5 := Lib.hid hb5
  have HC := Lib.hid (isCol_stored (c := ⟨(n : Int), 1, 0, [(2, jbytes l), (3, (uputE (jlens l) false).1)]⟩) (L := [(2, jbytes l, .slice A1 n1 c1), (3, (uputE (jlens l) false).1, .slice A2 n2 c2)]) hs5 HK2.out HRA.out (zero_col _ (fun _ h => by cases h) _ _ _) HI.out (by intro p hp; simp at hp; rcases hp with rfl | rfl; exact HX1.out.below HA.out; exact HX2.out.below HA.out) rfl)
  clear hr5 hb5 hs5
  go_wp2
  refine bodyPost_ret (results_row1 rfl _ _ w.heap.size _ _ (0, 0) _ rfl HR5.out Tryz.underlying27 rfl (by kernel_rfl)) rfl ?_
  exact ⟨_, _, _, rfl, by have := HB2.out.size; omega, HC.out, HB5.out⟩
theorem run_makeMap_hint (n : Int) (w : World) : (Instr.makeMap 67 (some (.int .i64 n))).run Tryz.prog w = .ok (.map (some w.heap.size)) (w.alloc (.map #[] 0)) := by
  simp [Instr.makeMap, run_underlying Tryz.underlying67, Result.andThen, asInt, asIntOf]
def JDRel (ws : List ByteArray) (w : World) (i : Value) (wr : World) : Prop :=
  ∃ k : Nat, k ≤ ws.length ∧ i = .int .i64 (k : Int) ∧ wr.ownsMap Tryz.prog 9 (plainElem Tryz.prog 3) (w.heap.size + 1) k (jmap ws k) ∧ Row wr (w.heap.size + 2) 67 [.map (some (w.heap.size + 1))] ∧
    Row wr w.heap.size 27 [.int .i64 0, .int .i64 0, .int .i64 0, .slice none 0 0] ∧ Below w.heap.size w wr
theorem jd_start (ws : List ByteArray) (w : World) : JDRel ws w (.int .i64 0) (((w.alloc (.cells #[.int .i64 0, .int .i64 0, .int .i64 0, .slice none 0 0] 27)).alloc (.map #[] 0)).alloc (.cells #[.map (some (w.heap.size + 1))] 67)) := by
  obtain ⟨w0, hw0⟩ : ∃ w0, w0 = w.alloc (.cells #[.int .i64 0, .int .i64 0, .int .i64 0, .slice none 0 0] 27) := ⟨_, rfl⟩
  have h0 : w0.heap.size = w.heap.size + 1 := by rw [hw0]; simp
  have hr : Row w0 w.heap.size 27 [.int .i64 0, .int .i64 0, .int .i64 0, .slice none 0 0] := by rw [hw0]; exact heap_alloc_new w _
  have hb : Below w.heap.size w w0 := by rw [hw0]; exact (Below.refl _ _).alloc (Nat.le_refl _) _
  rw [← hw0]
  clear hw0
  have ho := (World.ownsMap_made w0 Tryz.prog 9 (plainElem (H := Unit) Tryz.prog 3)).alloc (.cells #[.map (some (w.heap.size + 1))] 67)
  rw [h0] at ho
  have hx : Row ((w0.alloc (.map #[] 0)).alloc (.cells #[.map (some (w.heap.size + 1))] 67)) (w0.alloc (.map #[] 0)).heap.size 67 [.map (some (w.heap.size + 1))] := heap_alloc_new _ _
  rw [show (w0.alloc (.map #[] 0)).heap.size = w.heap.size + 2 by simp [h0]] at hx
  exact ⟨0, Nat.zero_le _, rfl, ho, hx, (hr.alloc _).alloc _, (hb.alloc (by omega) _).alloc (by simp; omega) _⟩
theorem jrow_grown {w w' : World} {g b : Nat} {t : TypeId} {cs : List Value} (h : Row w g t cs) (hg : w.grownBy w' (some b)) (hne : g ≠ b) : Row w' g t cs := (hg.block g h.lt (fun e => hne (Option.some.inj e))).trans h
set_option maxHeartbeats 4000000 in
set_option maxRecDepth 100000 in
theorem jlaydict_any (l ws : List ByteArray) (v u : Value) (w : World) (ht : WTab w) (hv : IsV Value.string l v w) (hu : IsV Value.string ws u w) (hb : l.length ≤ 4096) (hs : ∀ s ∈ l, s.size ≤ 300)
    (hwl : ws.length ≤ 4096) (hws : ∀ s ∈ ws, s.size ≤ 300) (hri : Rises ws) (hmm : ∀ s ∈ l, s ∈ ws) :
    Calls Tryz.prog 22 #[v, u] w (RetCol w ⟨(l.length : Int), 2, (ws.length : Int), [(2, (uputE (jplaces ws l) false).1), (3, (uputE (jlens ws) false).1), (4, jbytes ws)]⟩) := by
  have HJ := Lib.hid (fun X (h : Below w.heap.size w X) => jjoined_any ws u X (hu.below h) hwl hws)
  have HW := Lib.hid (fun X (h : Below w.heap.size w X) => jrowsize_any ws u X (ht.below h ht.lt) (hu.below h) hwl hws)
  have HP := Lib.hid (fun X (h : Below w.heap.size w X) b B (hp : PlaceMap ws b B X) => jrowplace_any ws l b B v X (ht.below h ht.lt) (hv.below h) hb hs hp hri hmm hwl)
  obtain ⟨A, n, c, rfl⟩ := hv.shape
  obtain ⟨C, m, d, rfl⟩ := hu.shape
  have hln := hv.parts.1
  have HM := Lib.hid hu.parts.1
  have HU := Lib.hid hu
  have HWS := Lib.hid hws
  have hm6 : m ≤ 4096 := by have := HM.out; omega
  have hmm2 := run_makeMap_hint (m : Int)
  rw [hln, HM.out]
  clear hv hb hs ht hln hu hwl hws hri hmm
  go_enter Tryz.func22, Tryz.ntmps22
  go_wp2
  go_loopw [13] (JDRel ws w) (fun i _ => m - (intOf i).toNat)
  case atStart =>
    exact jd_start ws w
  case round =>
    obtain ⟨k, hk, rfl, hown, hbx, hrw, hbw⟩ := hrel
    clear hmm2
    have hkm : k ≤ m := by have := HM.out; omega
    by_cases hlt : k < m
    · have hkl : k < ws.length := by have := HM.out; omega
      have hlti : (k : Int) < (m : Int) := by omega
      obtain ⟨ad, rfl, had, hcell⟩ := (HU.out.below hbw).at hkl
      obtain ⟨x, hx⟩ : ∃ x, x = ws[k] := ⟨_, rfl⟩
      rw [← hx] at hcell
      have hkey : keyOf Tryz.prog 9 (.string x) = some (jkey x) := Go.WideMaps.keyOf_string_mk Tryz.underlying9 (by rw [hx]; have := HWS.out _ (List.getElem_mem hkl); unfold maxLen; omega)
      have HNX := Lib.hid (jmap_next ws k)
      rw [List.getD_eq_getElem?_getD, List.getElem?_eq_getElem hkl, Option.getD_some, ← hx] at HNX
      have hc2 : wr.cell? ⟨w.heap.size + 2, 0, none⟩ = some (.map (some (w.heap.size + 1))) := hbx.cell 0
      have HBX := Lib.hid hbx
      have HRW := Lib.hid hrw
      clear hx had hbx hrw
      go_wp2_with (first | (at_mapUpdate; refine wpList_mapUpdate_own _ rfl _ _ _ 67 rfl 9 3 Tryz.keyS Tryz.underlying67 _ (w.heap.size + 1) k _ rfl hown (by unfold maxLen; omega) _ _ _ rfl rfl hkey _ [] (plainElem_int Tryz.underlying3 (WalkArith.wf_i64 (by omega))) ?_) | go_in)
      intro w1 hown1 hgrow1
      have HO := Lib.hid hown1
      rw [← HNX.out] at HO
      have HB := Lib.hid (hbw.grown hgrow1 hbw.size (fun j hj => by cases hj; exact Nat.le_succ _))
      have HX := Lib.hid (jrow_grown HBX.out hgrow1 (by omega))
      have HR := Lib.hid (jrow_grown HRW.out hgrow1 (by omega))
      clear hown1 hgrow1 hown hcell hc2
      go_wp2
      go_roundw
      case rel => exact ⟨k + 1, hkl, by go_num, HO.out, HX.out, HR.out, HB.out⟩
      case measure => simp [intOf]; omega
    · obtain rfl : k = m := by omega
      have hlti : ¬ (k : Int) < (k : Int) := by omega
      have HPM := Lib.hid (show PlaceMap ws (w.heap.size + 2) (w.heap.size + 1) wr from ⟨hbx, by rw [HM.out]; exact hown⟩)
      have HC1 := Lib.hid (HP.out wr hbw _ _ HPM.out)
      have HRW := Lib.hid hrw
      have HB0 := Lib.hid hbw
      clear hown hbx hrw hbw
      go_wp2_with fail
      refine HC1.out.mono ?_
      rintro e w1 ⟨u3, rfl, hu3, hb1⟩
      obtain ⟨A3, n3, c3, rfl⟩ := IsV.shape (f := bv) hu3
      have HB1 := Lib.hid (below_then HB0.out hb1)
      have HR1 := Lib.hid (HRW.out.below hb1 HRW.out.lt)
      have HU3 := Lib.hid hu3
      clear hu3 hb1
      go_wp2_with fail
      refine (HW.out w1 HB1.out).mono ?_
      rintro e w2 ⟨u2, rfl, hu2, hb2⟩
      obtain ⟨A2, n2, c2, rfl⟩ := IsV.shape (f := bv) hu2
      have HB2 := Lib.hid (below_then HB1.out hb2)
      have HR2 := Lib.hid (HR1.out.below hb2 HR1.out.lt)
      have HV3 := Lib.hid (HU3.out.below hb2)
      have HU2 := Lib.hid hu2
      clear hu2 hb2
      go_wp2_with fail
      refine (HJ.out w2 HB2.out).mono ?_
      rintro e w3 ⟨u1, rfl, hu1, hb3⟩
      obtain ⟨A1, n1, c1, rfl⟩ := IsV.shape (f := bv) hu1
      have HB3 := Lib.hid (below_then HB2.out hb3)
      have HR3 := Lib.hid (HR2.out.below hb3 HR2.out.lt)
      have HX3 := Lib.hid (HV3.out.below hb3)
      have HX2 := Lib.hid (HU2.out.below hb3)
      have HX1 := Lib.hid hu1
      have ha := (Below.refl w3.heap.size w3).alloc (Nat.le_refl _) (.cells #[.int .i64 2, .slice A3 n3 c3, .int .i64 3, .slice A2 n2 c2, .int .i64 4, .slice A1 n1 c1] 40)
      have HA := Lib.hid ha
      have HBA := Lib.hid (below_then HB3.out ha)
      have HRA := Lib.hid (HR3.out.below ha HR3.out.lt)
      have HK2 := Lib.hid (show w3.heap.size ≠ w.heap.size by have := HR3.out.lt; omega)
      have HI := Lib.hid (isR_three w3 (2, (uputE (jplaces ws l) false).1, .slice A3 n3 c3) (3, (uputE (jlens ws) false).1, .slice A2 n2 c2) (4, jbytes ws, .slice A1 n1 c1))
      clear hu1 hb3 ha
      go_wp2_with (refine wpList_storeRow colSize rfl _ _ rfl w.heap.size _ _ [.int .i64 (n : Int), .int .i64 2, .int .i64 (k : Int), .slice (some ⟨w3.heap.size, 0, none⟩) 3 3] rfl rfl HRA.out rfl rfl (by simp [Value.oneCell']) w w.heap.size HBA.out (Nat.le_refl _) ?_)
      intro w5 hr5 hb5 hs5
      have HR5 := Lib.hid hr5
      have HB5 := Lib.hid hb5
      have HC := Lib.hid (isCol_stored (c := ⟨(n : Int), 2, (k : Int), [(2, (uputE (jplaces ws l) false).1), (3, (uputE (jlens ws) false).1), (4, jbytes ws)]⟩) (L := [(2, (uputE (jplaces ws l) false).1, .slice A3 n3 c3), (3, (uputE (jlens ws) false).1, .slice A2 n2 c2), (4, jbytes ws, .slice A1 n1 c1)]) hs5 HK2.out HRA.out (zero_col _ (fun _ h => by cases h) _ _ _) HI.out (by
        intro p hp
        simp at hp
        rcases hp with rfl | rfl | rfl
        · exact HX3.out.below HA.out
        · exact HX2.out.below HA.out
        · exact HX1.out.below HA.out) rfl)
      clear hr5 hb5 hs5
      go_wp2
      refine bodyPost_ret (results_row1 rfl _ _ w.heap.size _ _ (0, 0) _ rfl HR5.out Tryz.underlying27 rfl (by kernel_rfl)) rfl ?_
      exact ⟨_, _, _, rfl, by have := HB3.out.size; omega, HC.out, HB5.out⟩
set_option maxHeartbeats 4000000 in
set_option maxRecDepth 100000 in
theorem jput_any (l : List ByteArray) (v : Value) (w : World) (ht : WTab w) (hv : IsV Value.string l v w) (hb : l.length ≤ 1000000) : Calls Tryz.prog 10 #[v] w (RetCE w (jputE l)) := by
  have HRX := Lib.hid (show Row (w.alloc (.cells #[.int .i64 0, .int .i64 0, .int .i64 0, .slice none 0 0] 27)) w.heap.size 27 [.int .i64 0, .int .i64 0, .int .i64 0, .slice none 0 0] from heap_alloc_new w _)
  have HBX := Lib.hid (show Below w.heap.size w (w.alloc (.cells #[.int .i64 0, .int .i64 0, .int .i64 0, .slice none 0 0] 27)) from (Below.refl _ _).alloc (Nat.le_refl _) _)
  obtain ⟨w0, hw0⟩ : ∃ w0, w0 = w.alloc (.cells #[.int .i64 0, .int .i64 0, .int .i64 0, .slice none 0 0] 27) := ⟨_, rfl⟩
  have HB0 := HBX
  have HR0 := HRX
  rw [← hw0] at HB0 HR0
  have HV0 := Lib.hid (hv.below HB0.out)
  have HT0 := Lib.hid (ht.below HB0.out ht.lt)
  have HCO := Lib.hid (jcontains_any l v w0 HV0.out hb)
  obtain ⟨A, n, c, rfl⟩ := hv.shape
  have HN := Lib.hid hv.parts.1
  clear hv ht hb
  by_cases h4 : 4096 < n
  · have HE := Lib.hid (jputE_big (l := l) (.inl (by have := HN.out; omega)))
    have d1 : decide ((4096 : Int) < (n : Int)) = true := decide_eq_true (by omega)
    clear hw0 h4
    go_enter Tryz.func10, Tryz.ntmps10
    go_wp2_with (refine wpList_storeRow colSize rfl _ _ rfl w.heap.size _ _ [.int .i64 0, .int .i64 0, .int .i64 0, .slice none 0 0] rfl rfl HRX.out rfl rfl (by simp [Value.oneCell']) w w.heap.size HBX.out (Nat.le_refl _) ?_)
    intro w5 hr5 hb5 _
    have HR5 := Lib.hid hr5
    have HB5 := Lib.hid hb5
    clear hr5 hb5
    go_wp2
    refine bodyPost_ret (results_row_tmp rfl _ _ w.heap.size _ _ (0, 0) _ _ rfl HR5.out Tryz.underlying27 rfl (by kernel_rfl) rfl) rfl ?_
    rw [HE.out]
    exact ⟨_, rfl, isCol_bad _, HB5.out⟩
  have d1 : decide ((4096 : Int) < (n : Int)) = false := decide_eq_false (by omega)
  have hn4 : n ≤ 4096 := by omega
  obtain ⟨q, hq⟩ : ∃ q, q = l.any jbig := ⟨_, rfl⟩
  rw [← hq] at HCO
  cases q with
  | true =>
    obtain ⟨s, h1, h2⟩ := List.any_eq_true.1 hq.symm
    have HE := Lib.hid (jputE_big (l := l) (.inr ⟨s, h1, of_decide_eq_true h2⟩))
    clear h1 h2 hq h4
    go_enter Tryz.func10, Tryz.ntmps10
    go_wp2_with fail
    rw [← hw0]
    refine HCO.out.mono ?_
    rintro e w' ⟨rfl, rfl⟩
    clear hw0
    go_wp2_with (refine wpList_storeRow colSize rfl _ _ rfl w.heap.size _ _ [.int .i64 0, .int .i64 0, .int .i64 0, .slice none 0 0] rfl rfl HR0.out rfl rfl (by simp [Value.oneCell']) w w.heap.size HB0.out (Nat.le_refl _) ?_)
    intro w5 hr5 hb5 _
    have HR5 := Lib.hid hr5
    have HB5 := Lib.hid hb5
    clear hr5 hb5
    go_wp2
    refine bodyPost_ret (results_row_tmp rfl _ _ w.heap.size _ _ (0, 0) _ _ rfl HR5.out Tryz.underlying27 rfl (by kernel_rfl) rfl) rfl ?_
    rw [HE.out]
    exact ⟨_, rfl, isCol_bad _, HB5.out⟩
  | false =>
    have HS := Lib.hid (show ∀ s ∈ l, s.size ≤ 300 from fun s hs => by
      have h := List.any_eq_false.1 hq.symm s hs
      unfold jbig at h
      simp at h
      omega)
    have HWS := Lib.hid (show ∀ s ∈ jwords l, s.size ≤ 300 from fun s hs => HS.out s (jwords_mem.1 hs))
    have HLE := Lib.hid (jwords_len l)
    have HEE := Lib.hid (jputE_in (l := l) (by have := HN.out; omega) HS.out)
    have HWD := Lib.hid (jwords_own l _ w0 HV0.out (fun s hs => by have := HS.out s hs; unfold maxLen; omega) (by have := HN.out; omega))
    clear hq h4
    go_enter Tryz.func10, Tryz.ntmps10
    go_wp2_with fail
    rw [← hw0]
    refine HCO.out.mono ?_
    rintro e w' ⟨rfl, rfl⟩
    clear hw0
    go_wp2_with fail
    refine HWD.out.mono ?_
    rintro e w1 ⟨wv, rfl, hwv, hb1⟩
    have HB1 := Lib.hid (below_then HB0.out hb1)
    have HR1 := Lib.hid (HR0.out.below hb1 HR0.out.lt)
    have HV1 := Lib.hid (HV0.out.below hb1)
    have HT1 := Lib.hid (HT0.out.below hb1 HT0.out.lt)
    have HWV := Lib.hid hwv.isV
    obtain ⟨Bw, m, mc, rfl⟩ := hwv.isV.shape
    have hwn : (jwords l).length = m := hwv.isV.parts.1
    have hml : m ≤ n := by rw [← hwn, ← HN.out]; exact HLE.out
    have HWN := Lib.hid hwn
    have hE := HEE.out
    rw [hwn, HN.out] at hE
    clear hwv hb1 hwn
    by_cases hpl : n < 2 * m
    · rw [if_pos hpl] at hE
      have HE := Lib.hid hE
      have d2 : decide (n < 2 * m) = true := decide_eq_true hpl
      have d3 : decide ((n : Int) < 2 * (m : Int)) = true := decide_eq_true (by omega)
      have HLP := jlayplain_any l _ w1 HT1.out HV1.out (by have := HN.out; omega) HS.out
      rw [HN.out] at HLP
      obtain ⟨cc, hcc⟩ : ∃ cc : JC, cc = ⟨(n : Int), 1, 0, [(2, jbytes l), (3, (uputE (jlens l) false).1)]⟩ := ⟨_, rfl⟩
      rw [← hcc] at HLP HE
      have HL2 := Lib.hid HLP
      clear hE HLP hcc hpl
      go_wp2_with fail
      refine HL2.out.mono ?_
      rintro e w2 ⟨k, x, y, rfl, hk, hc, hb2⟩
      have HC := Lib.hid hc
      have HB2 := Lib.hid (below_then HB1.out hb2)
      have HR2 := Lib.hid (HR1.out.below hb2 HR1.out.lt)
      have HK := Lib.hid (show k ≠ w.heap.size by have := HR1.out.lt; omega)
      clear hc hb2 hk
      unfold colv at HC ⊢
      go_wp2_with (refine wpList_storeRow colSize rfl _ _ rfl w.heap.size _ _ [.int .i64 cc.many, .int .i64 cc.enc, .int .i64 cc.texts, .slice (some ⟨k, 0, none⟩) x y] rfl rfl HR2.out rfl rfl (by simp [Value.oneCell']) w w.heap.size HB2.out (Nat.le_refl _) ?_)
      intro w5 hr5 hb5 hs5
      have HR5 := Lib.hid hr5
      have HB5 := Lib.hid hb5
      obtain ⟨L, l1, l2, l3⟩ := IsCol.laid (c := cc) HC.out
      have HF := Lib.hid (isCol_stored (c := cc) (L := L) hs5 HK.out HR2.out (zero_col _ (fun _ h => by cases h) _ _ _) l1 l2 l3)
      clear hr5 hb5 hs5 l1 l2 l3
      go_wp2
      refine bodyPost_ret (results_row_tmp rfl _ _ w.heap.size _ _ (0, 0) _ _ rfl HR5.out Tryz.underlying27 rfl (by kernel_rfl) rfl) rfl ?_
      rw [HE.out]
      exact ⟨_, rfl, HF.out, HB5.out⟩
    · rw [if_neg hpl] at hE
      have HE := Lib.hid hE
      have d2 : decide (n < 2 * m) = false := decide_eq_false hpl
      have d3 : decide ((n : Int) < 2 * (m : Int)) = false := decide_eq_false (by omega)
      have HLP := jlaydict_any l (jwords l) _ _ w1 HT1.out HV1.out HWV.out (by have := HN.out; omega) HS.out (by have := HWN.out; omega) HWS.out (jwords_rises l) (fun s hs => jwords_mem.2 hs)
      rw [HN.out, HWN.out] at HLP
      obtain ⟨cc, hcc⟩ : ∃ cc : JC, cc = ⟨(n : Int), 2, (m : Int), [(2, (uputE (jplaces (jwords l) l) false).1), (3, (uputE (jlens (jwords l)) false).1), (4, jbytes (jwords l))]⟩ := ⟨_, rfl⟩
      rw [← hcc] at HLP HE
      have HL2 := Lib.hid HLP
      clear hE HLP hcc hpl
      go_wp2_with fail
      refine HL2.out.mono ?_
      rintro e w2 ⟨k, x, y, rfl, hk, hc, hb2⟩
      have HC := Lib.hid hc
      have HB2 := Lib.hid (below_then HB1.out hb2)
      have HR2 := Lib.hid (HR1.out.below hb2 HR1.out.lt)
      have HK := Lib.hid (show k ≠ w.heap.size by have := HR1.out.lt; omega)
      clear hc hb2 hk
      unfold colv at HC ⊢
      go_wp2_with (refine wpList_storeRow colSize rfl _ _ rfl w.heap.size _ _ [.int .i64 cc.many, .int .i64 cc.enc, .int .i64 cc.texts, .slice (some ⟨k, 0, none⟩) x y] rfl rfl HR2.out rfl rfl (by simp [Value.oneCell']) w w.heap.size HB2.out (Nat.le_refl _) ?_)
      intro w5 hr5 hb5 hs5
      have HR5 := Lib.hid hr5
      have HB5 := Lib.hid hb5
      obtain ⟨L, l1, l2, l3⟩ := IsCol.laid (c := cc) HC.out
      have HF := Lib.hid (isCol_stored (c := cc) (L := L) hs5 HK.out HR2.out (zero_col _ (fun _ h => by cases h) _ _ _) l1 l2 l3)
      clear hr5 hb5 hs5 l1 l2 l3
      go_wp2
      refine bodyPost_ret (results_row_tmp rfl _ _ w.heap.size _ _ (0, 0) _ _ rfl HR5.out Tryz.underlying27 rfl (by kernel_rfl) rfl) rfl ?_
      rw [HE.out]
      exact ⟨_, rfl, HF.out, HB5.out⟩
end Go.Proofs.YtblpkmmhmdpkjaaGreatDoor

/- texts' own contracts: numbers, split, rise, chosen, just (slices.EqualFunc with its closure). -/







namespace Go.Proofs.YtblpkmmhmdpkjaaGreatDoor

open Go.RowKit

/-- Texts and whether they are what was asked, that a call answers. -/
def RetTB (w : World) (o : Option (List ByteArray)) (e : Ending) (w' : World) : Prop := ∃ v, e = .returned (.tuple #[v, .bool o.isSome]) ∧ (∀ l, o = some l → OwnV Value.string 9 w l v w') ∧ Below w.heap.size w w'
theorem RetTB.none {w w' : World} (v : Value) (hb : Below w.heap.size w w') : RetTB w none (.returned (.tuple #[v, .bool false])) w' := ⟨_, rfl, fun _ h => (by cases h), hb⟩
end Go.Proofs.YtblpkmmhmdpkjaaGreatDoor

/- texts' own contracts: split, chosen. -/





namespace Go.Proofs.YtblpkmmhmdpkjaaGreatDoor

open Go.RowKit

section

variable {P : Program} {o : Oper} {ρ : Operand → Value} {w : World} {R : Value → World → Prop}
end
end Go.Proofs.YtblpkmmhmdpkjaaGreatDoor

/- texts' own contracts: taken, Take. Written by gen_jis.py. -/





namespace Go.Proofs.YtblpkmmhmdpkjaaGreatDoor

open Go.RowKit

end Go.Proofs.YtblpkmmhmdpkjaaGreatDoor

/- The contract of what stands at the head of the statements of layer 15. -/





namespace Go.Proofs.YtblpkmmhmdpkjaaGreatDoor

open Go.RowKit

theorem js1 : jputE [⟨#[97, 98]⟩, ⟨#[99]⟩] = (⟨2, 1, 0, [(2, [97, 98, 99]), (3, [66, 1, 144])]⟩, 0) := by kernel_rfl
theorem js2 : jputE [⟨#[98]⟩, ⟨#[97]⟩, ⟨#[98]⟩, ⟨#[98]⟩] = (⟨4, 2, 2, [(2, [64, 3, 176]), (3, [64, 1, 192]), (4, [97, 98])]⟩, 0) := by kernel_rfl
theorem pair_two {L : List (Int × List UInt8 × Value)} {p q : Int × List UInt8} (h : [p, q] = L.map fun x => (x.1, x.2.1)) : ∃ u v, L = [(p.1, p.2, u), (q.1, q.2, v)] := by
  rcases L with _ | ⟨⟨x, b0, v0⟩, _ | ⟨⟨y, b1, v1⟩, _ | ⟨r, L⟩⟩⟩
  · cases h
  · simp at h
  · injection h with h1 h2
    injection h2 with h2 _
    subst h1 h2
    exact ⟨v0, v1, rfl⟩
  · simp at h
theorem pair_three {L : List (Int × List UInt8 × Value)} {p q r : Int × List UInt8} (h : [p, q, r] = L.map fun x => (x.1, x.2.1)) : ∃ u v z, L = [(p.1, p.2, u), (q.1, q.2, v), (r.1, r.2, z)] := by
  rcases L with _ | ⟨⟨x, b0, v0⟩, _ | ⟨⟨y, b1, v1⟩, _ | ⟨⟨z, b2, v2⟩, _ | ⟨r, L⟩⟩⟩⟩
  · cases h
  · simp at h
  · simp at h
  · injection h with h1 h2
    injection h2 with h2 h3
    injection h3 with h3 _
    subst h1 h2 h3
    exact ⟨v0, v1, v2, rfl⟩
  · simp at h
/-- The places of a column's streams. -/
theorem streams_at {L : List (Int × List UInt8 × Value)} {v : Value} {w : World} (h : IsR scells L v w) (h0 : 0 < L.length) : ∃ g o c, v = .slice (some ⟨g, o, none⟩) L.length c ∧ g < w.heap.size ∧ ∀ k, (hk : k < L.length) → w.cell? ⟨g, o + (k * 2 + 1), none⟩ = some L[k].2.2 := by
  obtain ⟨A, n, c, rfl⟩ := h.shape
  obtain ⟨ad, hA, hlt, hc⟩ := h.at (m := 2) (fun _ => rfl) (by omega) h0
  subst hA
  have hs := World.cell?_spot (hc 0 (by omega))
  obtain ⟨g, o, sp⟩ := ad
  have hsp : sp = none := by simpa [Addr.add] using hs
  subst hsp
  refine ⟨g, o, c, by rw [h.parts.1], hlt, fun k hk => ?_⟩
  obtain ⟨ad2, hA2, _, hc2⟩ := h.at (m := 2) (fun _ => rfl) (by omega) hk
  injection hA2 with hA2
  subst hA2
  exact hc2 1 (by omega)
set_option maxHeartbeats 2000000 in
set_option maxRecDepth 100000 in
theorem shown_any (w : World) (ht : WTab w) : Calls Tryz.prog 8 #[] w fun e w' => e = .returned (.bool true) ∧ Below w.heap.size w w' := by
  have HT := Lib.hid ht
  have h1 := jput_any [⟨#[97, 98]⟩, ⟨#[99]⟩] _ _ (ht.below ((Below.refl _ w).alloc (Nat.le_refl _) _) ht.lt) (isV_new Value.string w 9 [⟨#[97, 98]⟩, ⟨#[99]⟩] 2 rfl (by omega)) (by simp)
  rw [js1] at h1
  have H1 := Lib.hid h1
  have H2 := Lib.hid (fun (W : World) (ht : WTab W) => jput_any [⟨#[98]⟩, ⟨#[97]⟩, ⟨#[98]⟩, ⟨#[98]⟩] _ _ (ht.below ((Below.refl _ W).alloc (Nat.le_refl _) _) ht.lt) (isV_new Value.string W 9 [⟨#[98]⟩, ⟨#[97]⟩, ⟨#[98]⟩, ⟨#[98]⟩] 4 rfl (by omega)) (by simp))
  rw [js2] at H2
  clear ht h1
  go_enter Tryz.func8, Tryz.ntmps8
  go_wp2_with fail
  refine H1.out.mono ?_
  rintro e w1 ⟨v1, rfl, ⟨L1, s1, rfl, hI1, hB1, hS1⟩, hb1⟩
  obtain ⟨u0, u1, rfl⟩ := pair_two hS1
  obtain ⟨g1, o1, c1, rfl, hg1, hc1⟩ := streams_at hI1 (by simp)
  have hb01 := below_then ((Below.refl w.heap.size w).alloc (Nat.le_refl _) _) hb1
  have HB1 := Lib.hid hb01
  have HT1 := Lib.hid (HT.out.below hb01 HT.out.lt)
  have HC1 := Lib.hid hc1
  have HG1 := Lib.hid hg1
  have HBB1 := Lib.hid hB1
  clear hS1 hI1 hb1 hc1 hg1 hB1 hb01
  unfold colv
  dsimp only [List.length_cons, List.length_nil]
  obtain ⟨wb, hwb⟩ : ∃ wb, wb = w1.alloc (.cells #[.int .i64 2, .int .i64 1, .int .i64 0, .slice (some ⟨g1, o1, none⟩) 2 c1] 27) := ⟨_, rfl⟩
  have hrb : Row wb w1.heap.size 27 [.int .i64 2, .int .i64 1, .int .i64 0, .slice (some ⟨g1, o1, none⟩) 2 c1] := by rw [hwb]; exact heap_alloc_new w1 _
  have hbb : Below w1.heap.size w1 wb := by rw [hwb]; exact (Below.refl _ _).alloc (Nat.le_refl _) _
  have HRB := Lib.hid hrb
  have HBB := Lib.hid hbb
  have HTB := Lib.hid (HT1.out.below hbb HT1.out.lt)
  have h2 := H2.out wb HTB.out
  rw [show wb.heap.size = w1.heap.size + 1 by rw [hwb]; simp] at h2
  have H2B := Lib.hid h2
  clear hrb hbb h2
  go_wp2_with fail
  rw [← hwb]
  refine H2B.out.mono ?_
  rintro e w2 ⟨v2, rfl, ⟨L2, s2, rfl, hI2, hB2, hS2⟩, hb2⟩
  obtain ⟨z0, z1, z2, rfl⟩ := pair_three hS2
  obtain ⟨g2, o2, c2, rfl, hg2, hc2⟩ := streams_at hI2 (by simp)
  have hb12 := below_then ((Below.refl wb.heap.size wb).alloc (Nat.le_refl _) _) hb2
  have hb02 := below_then HBB.out hb12
  unfold colv
  dsimp only [List.length_cons, List.length_nil]
  have hX : Below w2.heap.size w2 (w2.alloc (.cells #[.int .i64 4, .int .i64 2, .int .i64 2, .slice (some ⟨g2, o2, none⟩) 3 c2] 27)) := (Below.refl _ _).alloc (Nat.le_refl _) _
  have hX1 : Below w1.heap.size w1 (w2.alloc (.cells #[.int .i64 4, .int .i64 2, .int .i64 2, .slice (some ⟨g2, o2, none⟩) 3 c2] 27)) := below_then hb02 hX
  have r1 : Row (w2.alloc (.cells #[.int .i64 4, .int .i64 2, .int .i64 2, .slice (some ⟨g2, o2, none⟩) 3 c2] 27)) w1.heap.size 27 [.int .i64 2, .int .i64 1, .int .i64 0, .slice (some ⟨g1, o1, none⟩) 2 c1] := (HRB.out.below hb12 HRB.out.lt).below hX (HRB.out.below hb12 HRB.out.lt).lt
  have r2 : Row (w2.alloc (.cells #[.int .i64 4, .int .i64 2, .int .i64 2, .slice (some ⟨g2, o2, none⟩) 3 c2] 27)) w2.heap.size 27 [.int .i64 4, .int .i64 2, .int .i64 2, .slice (some ⟨g2, o2, none⟩) 3 c2] := heap_alloc_new w2 _
  have a0 := r1.cell 0
  have a1 := r1.cell 1
  have a3 := r1.cell 3
  have b1 := r2.cell 1
  have b2 := r2.cell 2
  have b3 := r2.cell 3
  simp only [List.getElem?_cons_zero, List.getElem?_cons_succ] at a0 a1 a3 b1 b2 b3
  have m0 : (w2.alloc (.cells #[.int .i64 4, .int .i64 2, .int .i64 2, .slice (some ⟨g2, o2, none⟩) 3 c2] 27)).cell? ⟨g1, o1 + 1, none⟩ = some u0 := (hX1.cell (p := ⟨g1, o1 + 1, none⟩) HG1.out).trans (HC1.out 0 (by simp))
  have m1 : (w2.alloc (.cells #[.int .i64 4, .int .i64 2, .int .i64 2, .slice (some ⟨g2, o2, none⟩) 3 c2] 27)).cell? ⟨g1, o1 + 1 * 2 + 1, none⟩ = some u1 := (hX1.cell (p := ⟨g1, o1 + 3, none⟩) HG1.out).trans (HC1.out 1 (by simp))
  have n0 : (w2.alloc (.cells #[.int .i64 4, .int .i64 2, .int .i64 2, .slice (some ⟨g2, o2, none⟩) 3 c2] 27)).cell? ⟨g2, o2 + 1, none⟩ = some z0 := (hX.cell (p := ⟨g2, o2 + 1, none⟩) hg2).trans (hc2 0 (by simp))
  have n1 : (w2.alloc (.cells #[.int .i64 4, .int .i64 2, .int .i64 2, .slice (some ⟨g2, o2, none⟩) 3 c2] 27)).cell? ⟨g2, o2 + 1 * 2 + 1, none⟩ = some z1 := (hX.cell (p := ⟨g2, o2 + 3, none⟩) hg2).trans (hc2 1 (by simp))
  have n2 : (w2.alloc (.cells #[.int .i64 4, .int .i64 2, .int .i64 2, .slice (some ⟨g2, o2, none⟩) 3 c2] 27)).cell? ⟨g2, o2 + 2 * 2 + 1, none⟩ = some z2 := (hX.cell (p := ⟨g2, o2 + 5, none⟩) hg2).trans (hc2 2 (by simp))
  have t0 := textB ((HBB1.out _ List.mem_cons_self).below hX1)
  have t1 := textB ((HBB1.out _ (List.mem_cons_of_mem _ List.mem_cons_self)).below hX1)
  have q0 := textB ((hB2 _ List.mem_cons_self).below hX)
  have q1 := textB ((hB2 _ (List.mem_cons_of_mem _ List.mem_cons_self)).below hX)
  have q2 := textB ((hB2 _ (List.mem_cons_of_mem _ (List.mem_cons_of_mem _ List.mem_cons_self))).below hX)
  dsimp only at t0 t1 q0 q1 q2
  have HE := Lib.hid (below_then HB1.out hX1)
  clear hX hX1 r1 r2 hI2 hB2 hS2 hb2 hg2 hc2 hb12 hb02 hwb
  go_wp2
  go_ret
  exact ⟨rfl, HE.out⟩
theorem IsCol.shape {c : JC} {v : Value} {w : World} (h : IsCol c v w) : ∃ A n k, v = colv c (.slice A n k) := by
  obtain ⟨L, s, rfl, h, _⟩ := h
  obtain ⟨A, n, k, rfl⟩ := h.shape
  exact ⟨A, n, k, rfl⟩
theorem jputE_many (l : List ByteArray) : (jputE l).1.streams.length ≤ 1000000 := by
  unfold jputE
  split
  · simp [jcBad]
  · split <;> simp
end Go.Proofs.YtblpkmmhmdpkjaaGreatDoor
