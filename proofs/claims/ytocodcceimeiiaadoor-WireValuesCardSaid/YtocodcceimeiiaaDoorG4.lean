/- Texts that the claims of this seat share, part 4: FFirst FRTake FTakeO FTurnO FValO FRVal FStatO FKit FFew FShown FLaw. -/
import Derived.Lib.ConvBytes
import Derived.Test.YtocodcceimeiiaaDoorG3
/- wire's own contracts: first. Written by gen_ftake.py. -/





namespace Go.Proofs.YtocodcceimeiiaaDoor

open Go.RowKit Go.ChangeShapes Go.WideShapes Go.ChangeAt

theorem u64_and7 (K : Nat) (h : K < 18446744073709551616) : bits .and .u64 (K : Int) 7 = ((K % 8 : Nat) : Int) := by
  rw [u64_and _ _ (by omega) (by omega) (by omega) (by omega), Int.toNat_natCast, show ((7 : Int)).toNat = 2 ^ 3 - 1 from rfl, Nat.and_two_pow_sub_one_eq_mod]
/-- What first answers: a field, and the piece behind it. -/
def RetFirst (l : List UInt8) (v : Value) (w : World) (o : Option (WF × List UInt8)) (e : Ending) (w' : World) : Prop :=
  match o with
  | none => e = .returned (.tuple #[.agg #[.int .i64 0, .bool false, .int .u64 0, .slice none 0 0], .slice none 0 0, .bool false]) ∧ Below w.heap.size w w'
  | some p => ∃ lv u, e = .returned (.tuple #[fval ⟨p.1.tag, p.1.bytes, p.1.n, p.1.b, lv⟩, u, .bool true]) ∧ (∀ W, IsB l v W → IsB p.2 u W) ∧ (∃ n, w'.ownsRow w.heap.size 5 1 lv n (p.1.b.map bv)) ∧ Below w.heap.size w w'
/-- The block that first's field lies in, with bytes of the call's own. -/
def FGot (g : Nat) (T : Int) (bs : List UInt8) (W : World) : Prop := ∃ lv, (∃ n, W.ownsRow (g + 1) 5 1 lv n (bs.map bv)) ∧ Row W g 49 [.int .i64 T, .bool true, .int .u64 0, lv]
theorem fgot_below {g : Nat} {T : Int} {bs : List UInt8} {w w' : World} (hb : Below w.heap.size w w') (h : FGot g T bs w) : FGot g T bs w' := by
  obtain ⟨lv, ⟨n, h1⟩, h2⟩ := h
  exact ⟨lv, ⟨n, own_below h1 hb⟩, h2.below hb h2.lt⟩
theorem fgot_row {g : Nat} {T : Int} {bs : List UInt8} {w : World} (h : Row w g 49 [.int .i64 0, .bool false, .int .u64 0, .slice none 0 0] ∨ FGot g T bs w) : ∃ old : List Value, old.length = 4 ∧ Row w g 49 old := by
  rcases h with h | ⟨lv, _, h⟩
  · exact ⟨_, rfl, h⟩
  · exact ⟨_, rfl, h⟩
/-- Bytes in a block of bytes stay where a block of another type changes. -/
theorem isB_spared {l : List UInt8} {v : Value} {w w' : World} {g : Nat} {t : TypeId} {cs : List Value} (h : IsB l v w) (hr : Row w g t cs) (hcs : ∀ b : UInt8, bv b ∉ cs) (hg : w.grownBy w' (some g)) : IsB l v w' := by
  obtain ⟨A, c, rfl, hA, hnc, hcm, hl⟩ := h
  refine ⟨A, c, rfl, hA, hnc, hcm, ?_⟩
  rcases hl with h0 | ⟨ad, rfl, hlt, hc⟩
  · exact .inl h0
  · cases l with
    | nil => exact .inl rfl
    | cons x l =>
      have hne : ad.block ≠ g := by
        intro e
        have h3 := hc 0 (bv x) rfl
        unfold Row at hr
        unfold World.cell? at h3
        rw [add_block, e, hr] at h3
        dsimp only at h3
        split at h3
        · cases h3
        · rw [List.getElem?_toArray] at h3
          exact hcs x (List.mem_of_getElem? h3)
      refine .inr ⟨ad, rfl, Nat.lt_of_lt_of_le hlt hg.size, fun j u hj => ?_⟩
      have h2 := hc j u hj
      unfold World.cell? at h2 ⊢
      rw [add_block] at h2 ⊢
      rw [hg.block ad.block hlt (by intro e; injection e with e; exact hne e)]
      exact h2
theorem build_byt (T : Int) (A : Option Addr) (n c : Nat) (W : World) : (Instr.build 49 #[(0, .int .i64 T), (1, .bool true), (3, .slice A n c)]).run Tryd.prog W = .ok (.agg #[.int .i64 T, .bool true, .int .u64 0, .slice A n c]) W := by kernel_rfl
theorem fzero_none (b : UInt8) : bv b ∉ [Value.int .i64 0, .bool false, .int .u64 0, .slice none 0 0] := by
  intro h
  simp only [List.mem_cons, List.not_mem_nil, or_false] at h
  rcases h with h | h | h | h <;> cases h
theorem getsTo_grown (w : World) (g : Nat) (cs : Array Value) : w.grownBy (w.setRow g cs) (some g) := ⟨rfl, rfl, rfl, by simp [World.setRow], fun k _ hg => setRow_other w g k _ (fun e => hg (by rw [e]))⟩
def fFOwn (g : Nat) (T : Int) (bs : List UInt8) : FactR (GetsTo g (fun W => Row W g 49 [.int .i64 0, .bool false, .int .u64 0, .slice none 0 0]) (FGot g T bs)) :=
  .of (fun v W => ∃ n, W.ownsRow (g + 1) 5 1 v n (bs.map bv)) (fun _ _ _ h hk => h.elim fun n h => ⟨n, own_past h hk.1 (Nat.lt_succ_self _)⟩)
def fFBuilt (g : Nat) (T : Int) (bs : List UInt8) : FactR (GetsTo g (fun W => Row W g 49 [.int .i64 0, .bool false, .int .u64 0, .slice none 0 0]) (FGot g T bs)) :=
  .of (fun v W => ∃ lv, v = .agg #[.int .i64 T, .bool true, .int .u64 0, lv] ∧ (∃ A n c, lv = .slice A n c) ∧ ∃ n, W.ownsRow (g + 1) 5 1 lv n (bs.map bv)) (fun _ _ _ h hk => h.elim fun lv ⟨h1, h2, n, h3⟩ => ⟨lv, h1, h2, n, own_past h3 hk.1 (Nat.lt_succ_self _)⟩)
def fFGot (g : Nat) (T : Int) (bs : List UInt8) : FactR (GetsTo g (fun W => Row W g 49 [.int .i64 0, .bool false, .int .u64 0, .slice none 0 0]) (FGot g T bs)) := .of (fun _ W => FGot g T bs W) (fun _ _ _ h hk => hk.2.2 h)
theorem fgets_later (g : Nat) (T : Int) (bs : List UInt8) : Later (GetsTo g (fun W => Row W g 49 [.int .i64 0, .bool false, .int .u64 0, .slice none 0 0]) (FGot g T bs)) := getsTo_later _ _ _ (fun _ h => h) (fun _ h => h)
theorem fgets_below {g : Nat} {T : Int} {bs : List UInt8} {w w' : World} (h : Below w.heap.size w w') : GetsTo g (fun W => Row W g 49 [.int .i64 0, .bool false, .int .u64 0, .slice none 0 0]) (FGot g T bs) w w' := getsTo_below (fun _ _ hb hr => hr.below hb hr.lt) (fun _ _ hb hg => fgot_below hb hg) h
theorem own_slice {w : World} {base s n : Nat} {e : TypeId} {v : Value} {xs : List Value} (h : w.ownsRow base e s v n xs) : ∃ A n c, v = .slice A n c := by
  rcases h.2 with ⟨rfl, _⟩ | ⟨g, cap, cur, rfl, _⟩
  · exact ⟨_, _, _, rfl⟩
  · exact ⟨_, _, _, rfl⟩
set_option maxHeartbeats 16000000 in
set_option maxRecDepth 100000 in
theorem ffirst_any (l : List UInt8) (v : Value) (w : World) (h : IsB l v w) (hlen : l.length ≤ 1000000000) : Calls Tryd.prog 19 #[v] w (RetFirst l v w (ftake1 l)) := by
  obtain ⟨w1, hw1⟩ : ∃ x, x = w.alloc (.cells #[.int .i64 0, .bool false, .int .u64 0, .slice none 0 0] 49) := ⟨_, rfl⟩
  have hr : Row w1 w.heap.size 49 [.int .i64 0, .bool false, .int .u64 0, .slice none 0 0] := by rw [hw1]; exact heap_alloc_new w _
  have hb : Below w.heap.size w w1 := by rw [hw1]; exact (Below.refl _ _).alloc (Nat.le_refl _) _
  have HR1 := Lib.hid hr
  have HB1 := Lib.hid hb
  have HL1 := Lib.hid (fleading_any l v w1 (h.below hb))
  have HV := Lib.hid h
  clear hr hb h
  obtain ⟨vA, vn, vc, rfl⟩ := IsV.shape (f := bv) HV.out
  cases h1 : vtake l with
  | none =>
    rw [h1] at HL1
    go_enter Tryd.func19, Tryd.ntmps19
    go_wp2_with fail
    rw [← hw1]
    clear hw1
    refine (HL1.out).mono ?_
    rintro e w2 ⟨rfl, hb2⟩
    have HB2 := Lib.hid (below_then HB1.out hb2)
    have HR2 := Lib.hid (HR1.out.below hb2 HR1.out.lt)
    clear hb2
    have HE := Lib.hid (ftake1_nk h1)
    clear h1
    go_wp2_with (refine wpList_storeW rfl _ _ _ rfl w.heap.size 0 49 [.int .i64 0, .bool false, .int .u64 0, .slice none 0 0] [.int .i64 0, .bool false, .int .u64 0, .slice none 0 0] [.int .i64 0, .bool false, .int .u64 0, .slice none 0 0] rfl rfl rfl HR2.out field_size (Nat.le_refl _) (by decide) w w.heap.size HB2.out (Nat.le_refl _) ?_)
    intro w9 hr9 hb9 _
    have HR9 := Lib.hid hr9
    have HB9 := Lib.hid hb9
    clear hr9 hb9
    go_wp2
    refine bodyPost_ret (results_rowF3 rfl _ _ w.heap.size _ _ (0, 0) _ rfl HR9.out Tryd.underlying49 rfl field_size) rfl ?_
    rw [HE.out]
    exact ⟨rfl, HB9.out⟩
  | some p =>
    obtain ⟨K, more⟩ := p
    rw [h1] at HL1
    have hK := (vtake_some h1).2
    have hml : more.length ≤ 1000000000 := by have := vtake_len h1; omega
    have H1 := Lib.hid h1
    obtain ⟨q, hq⟩ : ∃ q : Nat, q = K % 8 := ⟨_, rfl⟩
    obtain ⟨T, hT⟩ : ∃ T : Nat, T = K / 8 := ⟨_, rfl⟩
    have hand := u64_and7 K hK
    rw [← hq] at hand
    have hdiv : (K : Int) / 8 = (T : Int) := by omega
    have HQ := Lib.hid hq
    have HT := Lib.hid hT
    have HAND := Lib.hid hand
    have HDIV := Lib.hid hdiv
    have HK := Lib.hid hK
    clear h1 hq hT hand hdiv hK
    go_enter Tryd.func19, Tryd.ntmps19
    go_wp2_with fail
    rw [← hw1]
    clear hw1
    refine (HL1.out).mono ?_
    rintro e w2 ⟨u1, rfl, hu1, hb2⟩
    dsimp only at hu1 ⊢
    have HB2 := Lib.hid (below_then HB1.out hb2)
    have HR2 := Lib.hid (HR1.out.below hb2 HR1.out.lt)
    have HU1 := Lib.hid hu1
    have HM2 := Lib.hid (hu1 w2 (HV.out.below HB2.out))
    clear hb2 hu1 HL1
    have hand := HAND.out
    have hdiv := HDIV.out
    obtain ⟨mA, mn, mc, rfl⟩ := IsV.shape (f := bv) HM2.out
    by_cases k1 : T < 1
    · have k1i : (T : Int) < 1 := by omega
      have k1b : decide ((T : Int) < 1) = true := decide_eq_true k1i
      have HE := Lib.hid (ftake1_bad H1.out (.inl (by have := HT.out; omega)))
      go_wp2_with (refine wpList_storeW rfl _ _ _ rfl w.heap.size 0 49 [.int .i64 0, .bool false, .int .u64 0, .slice none 0 0] [.int .i64 0, .bool false, .int .u64 0, .slice none 0 0] [.int .i64 0, .bool false, .int .u64 0, .slice none 0 0] rfl rfl rfl HR2.out field_size (Nat.le_refl _) (by decide) w w.heap.size HB2.out (Nat.le_refl _) ?_)
      intro w9 hr9 hb9 _
      have HR9 := Lib.hid hr9
      have HB9 := Lib.hid hb9
      clear hr9 hb9
      go_wp2
      refine bodyPost_ret (results_rowF3 rfl _ _ w.heap.size _ _ (0, 0) _ rfl HR9.out Tryd.underlying49 rfl field_size) rfl ?_
      rw [HE.out]
      exact ⟨rfl, HB9.out⟩
    by_cases k2 : 100 < T
    · have k1i : ¬ (T : Int) < 1 := by omega
      have k2i : (100 : Int) < (T : Int) := by omega
      have HE := Lib.hid (ftake1_bad H1.out (.inr (.inl (by have := HT.out; omega))))
      go_wp2_with (refine wpList_storeW rfl _ _ _ rfl w.heap.size 0 49 [.int .i64 0, .bool false, .int .u64 0, .slice none 0 0] [.int .i64 0, .bool false, .int .u64 0, .slice none 0 0] [.int .i64 0, .bool false, .int .u64 0, .slice none 0 0] rfl rfl rfl HR2.out field_size (Nat.le_refl _) (by decide) w w.heap.size HB2.out (Nat.le_refl _) ?_)
      intro w9 hr9 hb9 _
      have HR9 := Lib.hid hr9
      have HB9 := Lib.hid hb9
      clear hr9 hb9
      go_wp2
      refine bodyPost_ret (results_rowF3 rfl _ _ w.heap.size _ _ (0, 0) _ rfl HR9.out Tryd.underlying49 rfl field_size) rfl ?_
      rw [HE.out]
      exact ⟨rfl, HB9.out⟩
    have k1i : ¬ (T : Int) < 1 := by omega
    have k2i : ¬ (100 : Int) < (T : Int) := by omega
    have hvt : (T : Int) ≤ 100 := by omega
    have HL2 := Lib.hid (fleading_any more (.slice mA mn mc) w2 HM2.out)
    cases h2 : vtake more with
    | none =>
      rw [h2] at HL2
      have HX := Lib.hid (ftake1_nn H1.out h2)
      clear h2
      go_wp2_with fail
      refine (HL2.out).mono ?_
      rintro e w3 ⟨rfl, hb3⟩
      have HB3 := Lib.hid (below_then HB2.out hb3)
      have HR3 := Lib.hid (HR2.out.below hb3 HR2.out.lt)
      clear hb3
      have HE := Lib.hid (HX.out)
      go_wp2_with (refine wpList_storeW rfl _ _ _ rfl w.heap.size 0 49 [.int .i64 0, .bool false, .int .u64 0, .slice none 0 0] [.int .i64 0, .bool false, .int .u64 0, .slice none 0 0] [.int .i64 0, .bool false, .int .u64 0, .slice none 0 0] rfl rfl rfl HR3.out field_size (Nat.le_refl _) (by decide) w w.heap.size HB3.out (Nat.le_refl _) ?_)
      intro w9 hr9 hb9 _
      have HR9 := Lib.hid hr9
      have HB9 := Lib.hid hb9
      clear hr9 hb9
      go_wp2
      refine bodyPost_ret (results_rowF3 rfl _ _ w.heap.size _ _ (0, 0) _ rfl HR9.out Tryd.underlying49 rfl field_size) rfl ?_
      rw [HE.out]
      exact ⟨rfl, HB9.out⟩
    | some p =>
      obtain ⟨N, behind⟩ := p
      rw [h2] at HL2
      have hN := (vtake_some h2).2
      have hbl : behind.length ≤ 1000000000 := by have := vtake_len h2; omega
      have H2 := Lib.hid h2
      have HN := Lib.hid hN
      clear h2 hN
      go_wp2_with fail
      refine (HL2.out).mono ?_
      rintro e w3 ⟨u2, rfl, hu2, hb3⟩
      dsimp only at hu2 ⊢
      have HB3 := Lib.hid (below_then HB2.out hb3)
      have HR3 := Lib.hid (HR2.out.below hb3 HR2.out.lt)
      have HU2 := Lib.hid (fun W (hW : IsB l (.slice vA vn vc) W) => hu2 W (HU1.out W hW))
      have HM3 := Lib.hid (hu2 w3 (HM2.out.below hb3))
      clear hb3 hu2 HL2
      obtain ⟨bA, bn, bc, rfl⟩ := IsV.shape (f := bv) HM3.out
      have HBN := Lib.hid (IsV.parts (f := bv) HM3.out).1
      have hbnm : (bn : Int) ≤ 1000000000 := by have := HBN.out; omega
      by_cases k8 : q = 0
      · have HE := Lib.hid (ftake1_number H1.out (by have := HT.out; have := HQ.out; omega) H2.out (by have := HQ.out; omega))
        subst k8
        obtain ⟨row, hrow⟩ : ∃ row : List Value, row = [.int .i64 (T : Int), .bool false, .int .u64 (N : Int), .slice none 0 0] := ⟨_, rfl⟩
        have HONE : Hid (∀ u ∈ [Value.int .i64 (T : Int), .bool false, .int .u64 (N : Int), .slice none 0 0], u.oneCell' = true) := Lib.hid (by intro x hx; simp only [List.mem_cons, List.not_mem_nil, or_false] at hx; rcases hx with rfl | rfl | rfl | rfl <;> rfl)
        go_wp2_with (refine wpList_storeW rfl _ _ _ rfl w.heap.size 0 49 [.int .i64 0, .bool false, .int .u64 0, .slice none 0 0] [.int .i64 (T : Int), .bool false, .int .u64 (N : Int), .slice none 0 0] [.int .i64 (T : Int), .bool false, .int .u64 (N : Int), .slice none 0 0] rfl rfl rfl HR3.out field_size (Nat.le_refl _) HONE.out w w.heap.size HB3.out (Nat.le_refl _) ?_)
        intro w9 hr9 hb9 _
        have HR9 := Lib.hid hr9
        have HB9 := Lib.hid hb9
        clear hr9 hb9
        go_wp2
        refine bodyPost_ret (results_rowF3 rfl _ _ w.heap.size _ _ (0, 0) _ rfl HR9.out Tryd.underlying49 rfl field_size) rfl ?_
        rw [HE.out]
        exact ⟨.slice none 0 0, .slice bA bn bc, by rw [show ((K / 8 : Nat) : Int) = (T : Int) by rw [HT.out]]; rfl, HU2.out, ⟨0, World.ownsRow_nil _ _ _ _⟩, HB9.out⟩
      · by_cases k9 : q = 2
        · by_cases k10 : behind.length < N
          · have k10i : ¬ (N : Int) ≤ (bn : Int) := by have := HBN.out; omega
            subst k9
            have HE := Lib.hid (ftake1_short H1.out H2.out (by have := HQ.out; omega) k10)
            go_wp2_with (refine wpList_storeW rfl _ _ _ rfl w.heap.size 0 49 [.int .i64 0, .bool false, .int .u64 0, .slice none 0 0] [.int .i64 0, .bool false, .int .u64 0, .slice none 0 0] [.int .i64 0, .bool false, .int .u64 0, .slice none 0 0] rfl rfl rfl HR3.out field_size (Nat.le_refl _) (by decide) w w.heap.size HB3.out (Nat.le_refl _) ?_)
            intro w9 hr9 hb9 _
            have HR9 := Lib.hid hr9
            have HB9 := Lib.hid hb9
            clear hr9 hb9
            go_wp2
            refine bodyPost_ret (results_rowF3 rfl _ _ w.heap.size _ _ (0, 0) _ rfl HR9.out Tryd.underlying49 rfl field_size) rfl ?_
            rw [HE.out]
            exact ⟨rfl, HB9.out⟩
          · have k10i : (N : Int) ≤ (bn : Int) := by have := HBN.out; omega
            subst k9
            have HE := Lib.hid (ftake1_bytes H1.out (by have := HT.out; have := HQ.out; omega) H2.out (by have := HQ.out; omega) k10)
            obtain ⟨u3, hu3, hi3⟩ := from_all (P := Tryd.prog) (l := behind) .u64 elemB (A := bA) (n := bn) (c := bc) (k := N) (by have := HBN.out; omega) (IsV.parts (f := bv) HM3.out).2.2.1
            have HU3 := Lib.hid hu3
            have HI3 := Lib.hid hi3
            have hNc : N ≤ bc := by have := (IsV.parts (f := bv) HM3.out).2.2.1; omega
            obtain ⟨bs, hbs⟩ : ∃ bs, bs = behind.take N := ⟨_, rfl⟩
            rw [← hbs] at HE
            have HBS := Lib.hid (show IsB bs (.slice bA N bc) w3 by rw [hbs]; exact IsV.take (f := bv) HM3.out (by have := HBN.out; omega))
            have hbsl : bs.length ≤ 1000000000 := by rw [hbs, List.length_take]; omega
            obtain ⟨g, hg⟩ : ∃ g, g = w.heap.size := ⟨_, rfl⟩
            rw [← hg] at HR3
            have HG := Lib.hid hg
            have HBL := Lib.hid hbsl
            clear hu3 hi3 hbs hbsl
            go_wp2_with fail
            rw [← hg]
            clear hg
            refine wp_region_listR (fgets_later g (T : Int) bs) [.is (.int .u64 (T : Int)), .is (.int .i64 (T : Int)), .is (.slice bA bn bc), .is (.int .u64 (N : Int)), .is (.slice bA N bc), fFOwn g (T : Int) bs, fFBuilt g (T : Int) bs, .is (.slice bA bn bc), .is (.int .u64 (N : Int)), .is u3, fFGot g (T : Int) bs, .is u3, .is (.bool true)]
              [some 60, some 61, some 62, some 63, some 64, some 65, some 66, some 67, some 68, some 69, none, some 3, some 4] (by kernel_rfl) (by kernel_rfl) (by kernel_rfl) (by kernel_rfl) rfl ⟨?_, ?_, ?_, ?_, ?_, ?_, ?_, ?_, ?_, ?_, ?_, ?_, ?_, trivial⟩ ?_
            · intro ρ vs W1 hb1 H
              exact gives_move rfl (H.old 6 _ (by kernel_rfl) rfl) ⟨upd_at _ _ _, (fgets_later _ _ _).refl _⟩
            · intro ρ vs W1 hb1 H
              exact gives_conv rfl (H.holds 60 0 (by kernel_rfl)) (by kernel_rfl) Tryd.underlying3 (by rw [IntKind.wrap_i64]; omega) ⟨upd_at _ _ _, (fgets_later _ _ _).refl _⟩
            · intro ρ vs W1 hb1 H
              exact gives_move rfl (H.old 0 _ (by kernel_rfl) rfl) ⟨upd_at _ _ _, (fgets_later _ _ _).refl _⟩
            · intro ρ vs W1 hb1 H
              exact gives_move rfl (H.old 8 _ (by kernel_rfl) rfl) ⟨upd_at _ _ _, (fgets_later _ _ _).refl _⟩
            · intro ρ vs W1 hb1 H
              exact gives_uptoK .u64 elemB rfl (H.holds 62 2 (by kernel_rfl)) (H.holds 63 3 (by kernel_rfl)) hNc ⟨upd_at _ _ _, (fgets_later _ _ _).refl _⟩
            · intro ρ vs W1 hb1 H
              have hrow := (fgot_row (hb1.2.1 (.inl HR3.out)))
              refine gives_copyO elemB rfl (H.const _) (H.holds 64 4 (by kernel_rfl)) (isB_spared HBS.out HR3.out fzero_none hb1.1) HBL.out ?_
              intro v' w' ho hb
              exact ⟨by
                show ∃ n, w'.ownsRow (g + 1) 5 1 (upd vs 5 v' 5) n (bs.map bv)
                rw [upd_at]
                exact ⟨_, ownW_base (by obtain ⟨old, _, h⟩ := hrow; exact h.lt) ho⟩, fgets_below hb⟩
            · intro ρ vs W1 hb1 H
              obtain ⟨n, ho⟩ := H.holds 65 5 (by kernel_rfl)
              have e1 : ρ (.tmp 61) = .int .i64 (T : Int) := H.holds 61 1 (by kernel_rfl)
              obtain ⟨A', n', c', e2⟩ := own_slice ho
              refine gives_of (v := .agg #[.int .i64 (T : Int), .bool true, .int .u64 0, .slice A' n' c']) (w' := W1) ?_ ⟨?_, (fgets_later _ _ _).refl _⟩
              · simp [execOp, e1, e2, H.const, build_byt]
              · show ∃ lv, upd vs 6 _ 6 = _ ∧ _ ∧ _
                rw [upd_at]
                exact ⟨_, rfl, ⟨_, _, _, rfl⟩, n, by rw [← e2]; exact ho⟩
            · intro ρ vs W1 hb1 H
              exact gives_move rfl (H.old 0 _ (by kernel_rfl) rfl) ⟨upd_at _ _ _, (fgets_later _ _ _).refl _⟩
            · intro ρ vs W1 hb1 H
              exact gives_move rfl (H.old 8 _ (by kernel_rfl) rfl) ⟨upd_at _ _ _, (fgets_later _ _ _).refl _⟩
            · intro ρ vs W1 hb1 H
              have e1 : ρ (.tmp 68) = .int .u64 (N : Int) := H.holds 68 8 (by kernel_rfl)
              exact gives_slice rfl (H.holds 67 7 (by kernel_rfl)) (by simp only [Option.map_some]; rw [e1]) rfl rfl (HU3.out W1) ⟨upd_at _ _ _, (fgets_later _ _ _).refl _⟩
            · intro ρ vs W1 hb1 H
              obtain ⟨lv, e1, ⟨A', n', c', e2⟩, n, ho⟩ := H.holds 66 6 (by kernel_rfl)
              obtain ⟨old, hol, hro⟩ := fgot_row (hb1.2.1 (.inl HR3.out))
              have hgot : FGot g (T : Int) bs (W1.setRow g #[.int .i64 (T : Int), .bool true, .int .u64 0, lv]) := ⟨lv, ⟨n, own_past ho (getsTo_grown W1 g _) (Nat.lt_succ_self _)⟩, rowAll_set hro⟩
              exact gives_store_row (cs := [.int .i64 (T : Int), .bool true, .int .u64 0, lv]) rfl (H.old 2 _ (by kernel_rfl) rfl) e1 hro field_size hol (by subst e2; intro x hx; simp only [List.mem_cons, List.not_mem_nil, or_false] at hx; rcases hx with rfl | rfl | rfl | rfl <;> rfl) ⟨hgot, getsTo_set hgot⟩
            · intro ρ vs W1 hb1 H
              exact gives_assign rfl (H.holds 69 9 (by kernel_rfl)) ⟨upd_at _ _ _, (fgets_later _ _ _).refl _⟩
            · intro ρ vs W1 hb1 H
              exact gives_assign rfl (H.const _) ⟨upd_at _ _ _, (fgets_later _ _ _).refl _⟩
            · intro vs W1 hb1 hfs
              have f10 : FGot g (T : Int) bs W1 := hfs 10 (by decide)
              have f11 : vs 11 = u3 := hfs 11 (by decide)
              have f12 : vs 12 = .bool true := hfs 12 (by decide)
              clear hfs
              simp only [putAll, Nat.zero_add, Nat.reduceAdd]
              generalize vs 0 = z0
              generalize vs 1 = z1
              generalize vs 2 = z2
              generalize vs 3 = z3
              generalize vs 4 = z4
              generalize vs 5 = z5
              generalize vs 6 = z6
              generalize vs 7 = z7
              generalize vs 8 = z8
              generalize vs 9 = z9
              generalize vs 10 = z10
              simp only [f11, f12, Act.put, List.setIfInBounds_toArray, List.set_cons_succ, List.set_cons_zero]
              obtain ⟨lv, ⟨n, ho⟩, hro⟩ := f10
              have HO := Lib.hid ho
              have HRO := Lib.hid hro
              have HBW := Lib.hid (show Below w.heap.size w W1 from HB3.out.grown hb1.1 HB3.out.size fun k hk => by injection hk with hk; rw [← hk, HG.out]; exact Nat.le_refl _)
              clear ho hro hb1 f11 f12
              go_wp2
              refine bodyPost_ret (results_rowF3 rfl _ _ g _ _ (0, 0) _ rfl HRO.out Tryd.underlying49 rfl field_size) rfl ?_
              rw [HE.out]
              exact ⟨lv, u3, by rw [show ((K / 8 : Nat) : Int) = (T : Int) by rw [HT.out]]; rfl, fun W hW => HI3.out W (HU2.out W hW), ⟨n, ownW_base (by rw [HG.out]; omega) HO.out⟩, HBW.out⟩
        · have k8i : ((q : Int) == 0) = false := by simpa using (by omega : ¬ (q : Int) = 0)
          have k9i : ((q : Int) == 2) = false := by simpa using (by omega : ¬ (q : Int) = 2)
          have HE := Lib.hid (ftake1_bad H1.out (.inr (.inr (by have := HQ.out; omega))))
          go_wp2_with (refine wpList_storeW rfl _ _ _ rfl w.heap.size 0 49 [.int .i64 0, .bool false, .int .u64 0, .slice none 0 0] [.int .i64 0, .bool false, .int .u64 0, .slice none 0 0] [.int .i64 0, .bool false, .int .u64 0, .slice none 0 0] rfl rfl rfl HR3.out field_size (Nat.le_refl _) (by decide) w w.heap.size HB3.out (Nat.le_refl _) ?_)
          intro w9 hr9 hb9 _
          have HR9 := Lib.hid hr9
          have HB9 := Lib.hid hb9
          clear hr9 hb9
          go_wp2
          refine bodyPost_ret (results_rowF3 rfl _ _ w.heap.size _ _ (0, 0) _ rfl HR9.out Tryd.underlying49 rfl field_size) rfl ?_
          rw [HE.out]
          exact ⟨rfl, HB9.out⟩
end Go.Proofs.YtocodcceimeiiaaDoor

/- The contract of layer 19's reference: Take. Written by gen_frtake.py. -/





namespace Go.Proofs.YtocodcceimeiiaaDoor

open Go.RowKit Go.ChangeShapes Go.WideShapes Go.ChangeAt

theorem fcells_oneR {tag : Int} {bytes : Bool} {n : Int} {A : Option Addr} {k c : Nat} : ∀ u ∈ [Value.int .i64 tag, .bool bytes, .int .u64 n, .slice A k c], u.oneCell' = true := by
  intro x hx
  simp only [List.mem_cons, List.not_mem_nil, or_false] at hx
  rcases hx with rfl | rfl | rfl | rfl <;> rfl
theorem ftakeE_nextR {b rest r : List UInt8} {f : WF} {fs : List WF} (h : ftakeE b = (ftakeE rest).map (fs ++ ·)) (h1 : ftake1 rest = some (f, r)) : ftakeE b = (ftakeE r).map ((fs ++ [f]) ++ ·) := by
  rw [h, ftakeE_some h1, Option.map_map]
  congr 1
  funext z
  simp
/-- x[k:], as one equation, in whatever world; in the same block. -/
theorem from_allT {P : Program} {t e : TypeId} {bytes : Nat} {z : Value} (kd : IntKind) (E : Elem P t e bytes z) {A : Option Addr} {n c k : Nat} {l : List UInt8} (hk : k ≤ n) (hnc : n ≤ c) :
    ∃ v, (∀ W, (Instr.sliceAt t (.slice A n c) (some (.int kd (k : Int))) none none).run P W = .ok v W) ∧ ∀ W, IsBT l (.slice A n c) W → IsBT (l.drop k) v W := by
  have ht := E.under
  have he : P.elem t = e := by simp [Program.elem, ht]
  refine ⟨.slice (if c = k then A else A.map (·.add k)) (n - k) (c - k), fun W => ?_, fun W hT => ⟨?_, fun ad m d h => ?_⟩⟩
  · rw [run_sliceAt_slice W t _ _ _ _ (by rw [he]; exact ht), run_slice_l W t A n c (by rw [he]; exact ht) kd (k : Int) (by omega) (by omega), he, E.size_]
    simp [sliced]
  · obtain ⟨hxs, hA, _, hcm, hl⟩ := IsV.parts (f := bv) hT.1
    refine ⟨if c = k then A else A.map (·.add k), c - k, ?_, ?_, ?_, by omega, ?_⟩
    · rw [List.length_drop, hxs]
    · intro hB
      have : A = none := by
        split at hB
        · exact hB
        · cases A with
          | none => rfl
          | some ad => simp at hB
      have := hA this
      rw [List.length_drop, hxs]
      omega
    · rw [List.length_drop, hxs]; omega
    · rw [List.map_drop]; exact hl.drop (by rw [List.length_map]; omega)
  · injection h with h _ _
    split at h
    · exact hT.2 ad n c (by rw [h])
    · cases A with
      | none => cases h
      | some a =>
        injection h with h
        obtain ⟨cs, hc⟩ := hT.2 a n c rfl
        exact ⟨cs, by rw [← h, add_block]; exact hc⟩
/-- Bytes in a block of bytes stay where a block of another type changes. -/
theorem IsBT.spared {l : List UInt8} {v : Value} {w w' : World} {g : Nat} {t : TypeId} {cs : List Value} (h : IsBT l v w) (hr : Row w g t cs) (hne : t ≠ 5) (hg : w.grownBy w' (some g)) : IsBT l v w' := by
  have key : ∀ ad n c, v = .slice (some ad) n c → w'.heap[ad.block]? = w.heap[ad.block]? := fun ad n c hv => by
    obtain ⟨cs2, hc⟩ := h.2 ad n c hv
    refine hg.block _ (Array.getElem?_eq_some_iff.1 hc).1 fun he => ?_
    injection he with he
    unfold Row at hr
    rw [he, hr] at hc
    injection hc with hc
    injection hc with _ h3
    exact hne h3
  obtain ⟨A, c, e1, h2, h3, h4, h5⟩ := h.1
  refine ⟨⟨A, c, e1, h2, h3, h4, ?_⟩, fun ad n c hv => ?_⟩
  · rcases h5 with h5 | ⟨ad, hA, hlt, hcell⟩
    · exact .inl h5
    · subst hA
      exact .inr ⟨ad, rfl, Nat.lt_of_lt_of_le hlt hg.size, fun j u hu => (World.cell?_of_block (by rw [add_block]; exact key ad _ _ e1)).trans (hcell j u hu)⟩
  · obtain ⟨cs2, hc⟩ := h.2 ad n c hv
    exact ⟨cs2, (key ad n c hv).trans hc⟩
theorem own_setF {w : World} {base s n g : Nat} {e : TypeId} {v : Value} {xs : List Value} (h : w.ownsRow base e s v n xs) (hg : ∀ k, v.ownBlock = some k → k ≠ g) (i : Nat) (u : Value) : (w.setCell ⟨g, i, none⟩ u).ownsRow base e s v n xs := by
  refine h.kept (grown_set w g i u) ?_
  rcases h.2 with ⟨rfl, _⟩ | ⟨g2, cap, cur, rfl, _⟩
  · exact .inl rfl
  · exact .inr fun he => hg g2 rfl (by injection he)
set_option maxHeartbeats 16000000 in
set_option maxRecDepth 100000 in
theorem rftake_any (b : List UInt8) (v : Value) (w : World) (h : IsB b v w) (hl : b.length ≤ 100000) :
    Calls Tryd.prog 7 #[v] w (RetFX 54 w (ftakeE b)) := by
  obtain ⟨eb, heb, hE⟩ := elemFN
  have HEB := Lib.hid hE
  obtain ⟨A, n, c, rfl⟩ := IsV.shape (f := bv) h
  obtain ⟨hn, hA, _, _, hlies⟩ := IsV.parts (f := bv) h
  obtain ⟨w1, hw1⟩ : ∃ x, x = w.alloc (.cells #[] 54) := ⟨_, rfl⟩
  have hb1 : Below w.heap.size w w1 := by rw [hw1]; exact (Below.refl _ _).alloc (Nat.le_refl _) _
  have ho1 : w1.ownsRow w.heap.size 54 4 (.slice (some ⟨w.heap.size, 0, none⟩) 0 0) 0 [] := by rw [hw1]; exact ownW_made w _ 4
  have hz1 : w.heap.size + 1 = w1.heap.size := by rw [hw1]; simp
  have hb2 : Below w1.heap.size w1 (w1.alloc (.cells #[] 5)) := (Below.refl _ _).alloc (Nat.le_refl _) _
  have hob : (w1.alloc (.cells #[] 5)).ownsRow w1.heap.size 5 1 (.slice (some ⟨w1.heap.size, 0, none⟩) 0 0) 0 [] := ownW_made w1 _ 1
  have HOB := Lib.hid hob
  have HL2 := Lib.hid ((hlies.below hb1).below hb2)
  have HB2 := Lib.hid hb2
  have HB1 := Lib.hid hb1
  have HO1 := Lib.hid ho1
  have HZ := Lib.hid hz1
  have HZZ := Lib.hid hb2.size
  have HBM := Lib.hid (show (b.map bv).length = n by rw [List.length_map]; exact hn)
  have HA := Lib.hid hA
  have hn1 : n ≤ 100000 := by omega
  have HBL0 := Lib.hid hl
  have hw1' := hw1.symm
  clear hE h hn hA hlies hw1 hb1 ho1 hz1 hb2 hob hl
  go_enter Tryd.func7, Tryd.ntmps7
  have hzz := HZ.out
  go_wp2_with (at_builtin; refine wpList_join elemB rfl _ _ rfl w1.heap.size _ 0 [] A n c (b.map bv) w1 (by rw [← HZ.out]; rfl) rfl HA.out HBM.out HL2.out (bv_one b) HOB.out HB2.out HZZ.out (by omega) (by omega) ?_)
  intro v3 w3 ho3 hb3 hg3 _
  have HST := Lib.hid (show FTakeRel b w (.slice (some ⟨w.heap.size, 0, none⟩) 0 0) v3 w3 from ⟨[], b, by simp, by simp, own_below HO1.out hb3, by simp, isBT_own (by simpa using ho3), below_then HB1.out hb3⟩)
  clear ho3 hb3 hg3 hw1' hzz
  go_wp2
  go_loopw [4, 5] (FTakeRel b w) (fun _ rv _ => match rv with | .slice _ n _ => n | _ => 0)
  case atStart => exact HST.out
  case round =>
    obtain ⟨fs, rest, hft, hlen, how, hfs, hrest, hbw⟩ := hrel
    clear HST
    obtain ⟨rA, rn, rc, rfl⟩ := IsV.shape (f := bv) hrest.1
    have HRN := Lib.hid (IsV.parts (f := bv) hrest.1).1
    have HRS := Lib.hid hrest
    have HOW := Lib.hid how
    have HFS := Lib.hid hfs
    have HBW := Lib.hid hbw
    have HFT := Lib.hid hft
    have HLN := Lib.hid hlen
    have hr1 : rest.length ≤ 100000 := by have := HBL0.out; omega
    clear how hfs hbw hft hlen hrest
    by_cases h0 : rn = 0
    · subst h0
      have h0i : ¬ (0 : Int) < ((0 : Nat) : Int) := by omega
      have h0n : decide ((0 : Nat) < 0) = false := rfl
      have hE : rest = [] := List.eq_nil_of_length_eq_zero HRN.out
      have HR := Lib.hid (show RetFX 54 w (ftakeE b) (.returned (.tuple #[u4, .int .i64 0])) wr by
        rw [HFT.out, hE, ftakeE_nil]
        exact ⟨fs, _, rfl, by simp, HOW.out, HFS.out, HBW.out⟩)
      clear hE
      go_wp2
      go_ret2
      exact HR.out
    · have h0i : (0 : Int) < (rn : Int) := by omega
      have h0n : 0 < rn := by omega
      have HNE := Lib.hid (show rest ≠ [] from fun h => h0 (by rw [← HRN.out, h]; rfl))
      have htk := rtake_isB HRS.out.1 (by omega)
      cases h1 : vtake rest with
      | none =>
        rw [h1] at htk
        have HTK := Lib.hid htk
        have HX := Lib.hid (ftake1_nk h1)
        clear htk h1
        go_wp2_with fail
        refine HTK.out.mono ?_
        rintro e w4 ⟨rfl, hb4⟩
        have HB4 := Lib.hid (below_then HBW.out hb4)
        clear hb4
        have HE := Lib.hid (HX.out)
        go_wp2
        go_ret2
        rw [HFT.out, ftakeE_none HE.out HNE.out]
        exact ⟨rfl, HB4.out⟩
      | some p =>
        obtain ⟨K, more⟩ := p
        rw [h1] at htk
        have HTK := Lib.hid htk
        have hK := (vtake_some h1).2
        have hml1 := vtake_len h1
        have hml : more.length ≤ 1000000 := by omega
        have H1 := Lib.hid h1
        have HML := Lib.hid hml1
        obtain ⟨q, hq⟩ : ∃ q : Nat, q = K % 8 := ⟨_, rfl⟩
        obtain ⟨T, hT⟩ : ∃ T : Nat, T = K / 8 := ⟨_, rfl⟩
        have hmod : (K : Int) % 8 = (q : Int) := by omega
        have hdiv : (K : Int) / 8 = (T : Int) := by omega
        have HQ := Lib.hid hq
        have HT := Lib.hid hT
        have HMOD := Lib.hid hmod
        have HDIV := Lib.hid hdiv
        have hq8 : q < 8 := by omega
        clear htk h1 hml1 hq hT hmod hdiv
        go_wp2_with fail
        refine HTK.out.mono ?_
        rintro e w4 ⟨A4, c4, rfl, g1, g2, g3, ⟨n4, ho4⟩, hb4⟩
        dsimp only at ho4 ⊢
        have HM4 := Lib.hid (isBT_own ho4)
        have HB4 := Lib.hid (below_then HBW.out hb4)
        have HO4 := Lib.hid (own_below HOW.out hb4)
        have HFS4 := Lib.hid (fun f hf => (HFS.out f hf).below hb4)
        obtain ⟨m4, hm4⟩ : ∃ m4, m4 = more.length := ⟨_, rfl⟩
        rw [← hm4] at HM4 ⊢
        clear ho4 hb4 g1 g2 g3 hm4
        by_cases k1 : K < 8
        · have k1i : (K : Int) < 8 := by omega
          have HE := Lib.hid (ftake1_bad H1.out (.inl k1))
          go_wp2
          go_ret2
          rw [HFT.out, ftakeE_none HE.out HNE.out]
          exact ⟨rfl, HB4.out⟩
        by_cases k2 : 802 < K
        · have k1i : ¬ (K : Int) < 8 := by omega
          have k2i : (802 : Int) < (K : Int) := by omega
          have HE := Lib.hid (ftake1_bad H1.out (.inr (.inl k2)))
          go_wp2
          go_ret2
          rw [HFT.out, ftakeE_none HE.out HNE.out]
          exact ⟨rfl, HB4.out⟩
        have k1i : ¬ (K : Int) < 8 := by omega
        have k2i : ¬ (802 : Int) < (K : Int) := by omega
        have hTm : (T : Int) ≤ 100 := by have := HT.out; omega
        have hmod := HMOD.out
        have hdiv := HDIV.out
        by_cases k3 : q = 0
        · subst k3
          have HKK := Lib.hid (show ¬ (K < 8 ∨ 802 < K ∨ (K % 8 ≠ 0 ∧ K % 8 ≠ 2)) by have := HQ.out; omega)
          have htk := rtake_isB HM4.out.1 hml
          cases h2 : vtake more with
          | none =>
            rw [h2] at htk
            have HTK2 := Lib.hid htk
            have HX := Lib.hid (ftake1_nn H1.out h2)
            clear htk h2
            go_wp2_with fail
            refine HTK2.out.mono ?_
            rintro e w5 ⟨rfl, hb5⟩
            have HB5 := Lib.hid (below_then HB4.out hb5)
            clear hb5
            have HE := Lib.hid (HX.out)
            go_wp2
            go_ret2
            rw [HFT.out, ftakeE_none HE.out HNE.out]
            exact ⟨rfl, HB5.out⟩
          | some p =>
            obtain ⟨N, behind⟩ := p
            rw [h2] at htk
            have HTK2 := Lib.hid htk
            have hN := (vtake_some h2).2
            have hbl := vtake_len h2
            have H2 := Lib.hid h2
            have HBL := Lib.hid hbl
            have HN := Lib.hid hN
            clear htk h2 hbl hN
            go_wp2_with fail
            refine HTK2.out.mono ?_
            rintro e w5 ⟨A5, c5, rfl, g1, g2, g3, ⟨n5, ho5⟩, hb5⟩
            dsimp only at ho5 g1 g2 ⊢
            have HM5 := Lib.hid (isBT_own ho5)
            obtain ⟨b5, hb5n⟩ : ∃ b5, b5 = behind.length := ⟨_, rfl⟩
            rw [← hb5n] at HM5 g1 g2 ⊢
            have HBN := Lib.hid hb5n
            have HB5 := Lib.hid (below_then HB4.out hb5)
            have HO5 := Lib.hid (own_below HO4.out hb5)
            have HFS5 := Lib.hid (fun f hf => (HFS4.out f hf).below hb5)
            have hb5m : (b5 : Int) ≤ 1000000000 := by have := HBN.out; have := HBL.out; omega
            have hc5 : (c5 : Int) ≤ 9223372036854775807 := by unfold maxLen at g3; omega
            clear ho5 hb5 g1 g3 hb5n
            have HNX := Lib.hid (ftakeE_nextR HFT.out (ftake1_number H1.out HKK.out H2.out (by have := HQ.out; omega)))
            have hbA : Below w5.heap.size w5 (w5.alloc (.cells #[.int .i64 (T : Int), .bool false, .int .u64 (N : Int), .slice none 0 0] 54)) := (Below.refl _ _).alloc (Nat.le_refl _) _
            have hzA : w5.heap.size + 1 = (w5.alloc (.cells #[.int .i64 (T : Int), .bool false, .int .u64 (N : Int), .slice none 0 0] 54)).heap.size := by simp
            have HO6 := Lib.hid (own_below HO5.out hbA)
            have HB6 := Lib.hid (below_then HB5.out hbA)
            have HZ6 := Lib.hid HB6.out.size
            have HM6 := Lib.hid (HM5.out.below hbA)
            have HFS6 := Lib.hid (fun f hf => (HFS5.out f hf).below hbA)
            have HZA := Lib.hid hzA
            have hfl : fs.length ≤ 1000000000 := by have := HLN.out; have := HBL0.out; omega
            clear hbA hzA
            go_wp2_with (at_builtin; refine wpList_pushG HEB.out rfl _ _ rfl w.heap.size _ _ _ [.int .i64 (T : Int), .bool false, .int .u64 (N : Int), .slice none 0 0] _ w _ HZA.out rfl rfl rfl rfl fcells_oneR HO6.out HB6.out HZ6.out hfl heb ?_)
            intro v7 w7 ho7 hb7 hg7 _
            have HREL := Lib.hid (show FTakeRel b w v7 (.slice A5 b5 c5) w7 from ⟨fs ++ [⟨(T : Int), false, N, [], .slice none 0 0⟩], behind, by rw [List.map_append]; rw [HT.out]; exact HNX.out, by have := HLN.out; have := HBL.out; have := HML.out; rw [List.length_append, List.length_singleton]; omega, by rw [List.flatMap_append, List.length_append]; exact ho7, fun f hf => by
              rcases List.mem_append.1 hf with hf | hf
              · exact (HFS6.out f hf).grown HO6.out (by decide) hg7
              · rw [List.mem_singleton.1 hf]; exact isBT_nil w7, HM6.out.grown HO6.out (by decide) hg7, hb7⟩)
            have hme : b5 < rn := by have := HBL.out; have := HBN.out; have := HRN.out; have := HML.out; omega
            clear ho7 hb7 hg7
            go_wp2
            go_roundw
            case rel => exact HREL.out
            case measure => simp only []; omega
        by_cases k4 : q = 2
        · subst k4
          have HKK := Lib.hid (show ¬ (K < 8 ∨ 802 < K ∨ (K % 8 ≠ 0 ∧ K % 8 ≠ 2)) by have := HQ.out; omega)
          have htk := rtake_isB HM4.out.1 hml
          cases h2 : vtake more with
          | none =>
            rw [h2] at htk
            have HTK2 := Lib.hid htk
            have HX := Lib.hid (ftake1_nn H1.out h2)
            clear htk h2
            go_wp2_with fail
            refine HTK2.out.mono ?_
            rintro e w5 ⟨rfl, hb5⟩
            have HB5 := Lib.hid (below_then HB4.out hb5)
            clear hb5
            have HE := Lib.hid (HX.out)
            go_wp2
            go_ret2
            rw [HFT.out, ftakeE_none HE.out HNE.out]
            exact ⟨rfl, HB5.out⟩
          | some p =>
            obtain ⟨N, behind⟩ := p
            rw [h2] at htk
            have HTK2 := Lib.hid htk
            have hN := (vtake_some h2).2
            have hbl := vtake_len h2
            have H2 := Lib.hid h2
            have HBL := Lib.hid hbl
            have HN := Lib.hid hN
            clear htk h2 hbl hN
            go_wp2_with fail
            refine HTK2.out.mono ?_
            rintro e w5 ⟨A5, c5, rfl, g1, g2, g3, ⟨n5, ho5⟩, hb5⟩
            dsimp only at ho5 g1 g2 ⊢
            have HM5 := Lib.hid (isBT_own ho5)
            obtain ⟨b5, hb5n⟩ : ∃ b5, b5 = behind.length := ⟨_, rfl⟩
            rw [← hb5n] at HM5 g1 g2 ⊢
            have HBN := Lib.hid hb5n
            have HB5 := Lib.hid (below_then HB4.out hb5)
            have HO5 := Lib.hid (own_below HO4.out hb5)
            have HFS5 := Lib.hid (fun f hf => (HFS4.out f hf).below hb5)
            have hb5m : (b5 : Int) ≤ 1000000000 := by have := HBN.out; have := HBL.out; omega
            have hc5 : (c5 : Int) ≤ 9223372036854775807 := by unfold maxLen at g3; omega
            clear ho5 hb5 g1 g3 hb5n
            by_cases k9 : b5 < N
            · have k9i : (b5 : Int) < (N : Int) := by omega
              have HX := Lib.hid (ftake1_short H1.out H2.out (by have := HQ.out; omega) (by have := HBN.out; omega))
              have HE := Lib.hid (HX.out)
              go_wp2
              go_ret2
              rw [HFT.out, ftakeE_none HE.out HNE.out]
              exact ⟨rfl, HB5.out.alloc HB5.out.size _⟩
            have k9i : ¬ (b5 : Int) < (N : Int) := by omega
            have HNX := Lib.hid (ftakeE_nextR HFT.out (ftake1_bytes H1.out HKK.out H2.out (by have := HQ.out; omega) (by have := HBN.out; omega)))
            obtain ⟨u5, hu1, hu2⟩ := from_allT (P := Tryd.prog) (l := behind) .u64 elemB (A := A5) (n := b5) (c := c5) (k := N) (by omega) g2
            obtain ⟨bs, hbs⟩ : ∃ bs, bs = behind.take N := ⟨_, rfl⟩
            have hbsl : bs.length = N := by rw [hbs, List.length_take]; have := HBN.out; omega
            rw [← hbs] at HNX
            have HBS := Lib.hid (show IsB bs (.slice A5 N c5) w5 by rw [hbs]; exact IsV.take (f := bv) HM5.out.1 (by omega))
            have HU1 := Lib.hid hu1
            have HU2 := Lib.hid hu2
            have HSL := Lib.hid hbsl
            have hNm : (N : Int) ≤ 1000000000 := by omega
            have hNc : (N : Int) ≤ (c5 : Int) := by omega
            have hNc2 : N ≤ c5 := by omega
            obtain ⟨w6, hw6⟩ : ∃ x, x = w5.alloc (.cells #[.int .i64 (T : Int), .bool true, .int .u64 0, .slice none 0 0] 54) := ⟨_, rfl⟩
            have hb6 : Below w5.heap.size w5 w6 := by rw [hw6]; exact (Below.refl _ _).alloc (Nat.le_refl _) _
            have hr6 : Row w6 w5.heap.size 54 [.int .i64 (T : Int), .bool true, .int .u64 0, .slice none 0 0] := by rw [hw6]; exact heap_alloc_new w5 _
            have hz6 : w6.heap.size = w5.heap.size + 1 := by rw [hw6]; simp
            have hze : (w6.alloc (.cells #[] 5)).ownsRow (w5.heap.size + 1) 5 1 (.slice (some ⟨w5.heap.size + 1, 0, none⟩) 0 0) 0 [] := by rw [← hz6]; exact ownW_made w6 _ 1
            have hb7 : Below w6.heap.size w6 (w6.alloc (.cells #[] 5)) := (Below.refl _ _).alloc (Nat.le_refl _) _
            have hz7 := hb7.size
            obtain ⟨_, hA5, _, _, hl5⟩ := IsV.parts (f := bv) ((HBS.out.below hb6).below hb7)
            rw [hz6] at hb7 hz7
            have HE7 := Lib.hid hze
            have HB7 := Lib.hid hb7
            have HA5 := Lib.hid hA5
            have HL5 := Lib.hid hl5
            have HR6 := Lib.hid hr6
            have HB6 := Lib.hid hb6
            have HZ7 := Lib.hid hz7
            have HZ6 := Lib.hid hz6
            have HSLM := Lib.hid (show (bs.map bv).length = N by rw [List.length_map]; exact HSL.out)
            clear hu1 hu2 hbs hbsl hb6 hr6 hz6 hze hb7 hz7 hA5 hl5 g2
            subst hw6
            go_wp2_with (at_builtin; refine wpList_join elemB rfl _ _ rfl (w5.heap.size + 1) _ 0 [] A5 N c5 (bs.map bv) _ rfl rfl HA5.out HSLM.out HL5.out (bv_one bs) HE7.out HB7.out HZ7.out (by omega) (by omega) ?_)
            intro v8 w8 ho8 hb8 _ _
            have hr8 : Row w8 w5.heap.size 54 [.int .i64 (T : Int), .bool true, .int .u64 0, .slice none 0 0] := HR6.out.below hb8 (by omega)
            have hb58 : Below w5.heap.size w5 w8 := HB6.out.trans (hb8.mono (by omega))
            obtain ⟨vA, vn, vc, rfl⟩ := own_slice ho8
            have hbt8 : IsBT bs (.slice vA vn vc) w8 := isBT_own (by simpa using ho8)
            have hgr := grown_set w8 w5.heap.size 3 (.slice vA vn vc)
            have hne : 54 ≠ 5 := by decide
            have HBT9 := Lib.hid (hbt8.spared hr8 hne hgr)
            have HFS9 := Lib.hid (fun f hf => ((HFS5.out f hf).below hb58).spared hr8 hne hgr)
            have HM9 := Lib.hid (HU2.out _ ((HM5.out.below hb58).spared hr8 hne hgr))
            have HO9 := Lib.hid (own_setF (own_below HO5.out hb58) (fun k hk => by have h1 := (ownW_lt HO5.out hk).2; exact Nat.ne_of_lt h1) 3 (.slice vA vn vc))
            have HB9 := Lib.hid (show Below w.heap.size w (w8.setCell ⟨w5.heap.size, 3, none⟩ (.slice vA vn vc)) from (below_then HB5.out hb58).setCell (p := ⟨w5.heap.size, 3, none⟩) HB5.out.size _)
            have HZ9 := Lib.hid HB9.out.size
            have k3 : w8.cell? ⟨w5.heap.size, 3, none⟩ = some (.slice none 0 0) := hr8.cell 3
            have k3f := hr8.free 3
            have hr9 : Row (w8.setCell ⟨w5.heap.size, 3, none⟩ (.slice vA vn vc)) w5.heap.size 54 [.int .i64 (T : Int), .bool true, .int .u64 0, .slice vA vn vc] := hr8.set_ 3 _
            have e0 : (w8.setCell ⟨w5.heap.size, 3, none⟩ (.slice vA vn vc)).cell? ⟨w5.heap.size, 0, none⟩ = some (.int .i64 (T : Int)) := hr9.cell 0
            have e1 : (w8.setCell ⟨w5.heap.size, 3, none⟩ (.slice vA vn vc)).cell? ⟨w5.heap.size, 1, none⟩ = some (.bool true) := hr9.cell 1
            have e2 : (w8.setCell ⟨w5.heap.size, 3, none⟩ (.slice vA vn vc)).cell? ⟨w5.heap.size, 2, none⟩ = some (.int .u64 0) := hr9.cell 2
            have e3 : (w8.setCell ⟨w5.heap.size, 3, none⟩ (.slice vA vn vc)).cell? ⟨w5.heap.size, 3, none⟩ = some (.slice vA vn vc) := hr9.cell 3
            have hsl := HU1.out
            have d0 : w8.cell? ⟨w5.heap.size, 0, none⟩ = some (.int .i64 (T : Int)) := hr8.cell 0
            have d1 : w8.cell? ⟨w5.heap.size, 1, none⟩ = some (.bool true) := hr8.cell 1
            have d2 : w8.cell? ⟨w5.heap.size, 2, none⟩ = some (.int .u64 0) := hr8.cell 2
            have hfl : fs.length ≤ 1000000000 := by have := HLN.out; have := HBL0.out; omega
            have HZS := Lib.hid (show w8.heap.size = (w8.setCell ⟨w5.heap.size, 3, none⟩ (.slice vA vn vc)).heap.size by rw [World.size_setCell])
            obtain ⟨uA, un, uc, hue⟩ := IsV.shape (f := bv) HM9.out.1
            clear hr8 hb58 hbt8 hgr hne hr9 ho8 hb8
            subst hue
            go_wp2_with (at_builtin; refine wpList_pushG HEB.out rfl _ _ rfl w.heap.size _ _ _ [.int .i64 (T : Int), .bool true, .int .u64 0, .slice vA vn vc] _ w _ HZS.out rfl rfl rfl rfl fcells_oneR HO9.out HB9.out HZ9.out hfl heb ?_)
            intro v7 w7 ho7 hb7 hg7 _
            have HREL := Lib.hid (show FTakeRel b w v7 (.slice uA un uc) w7 from ⟨fs ++ [⟨(T : Int), true, 0, bs, .slice vA vn vc⟩], behind.drop N, by rw [List.map_append]; rw [HT.out]; exact HNX.out, by have := HLN.out; have := HBL.out; have := HML.out; rw [List.length_append, List.length_singleton, List.length_drop]; omega, by rw [List.flatMap_append, List.length_append]; exact ho7, fun f hf => by
              rcases List.mem_append.1 hf with hf | hf
              · exact (HFS9.out f hf).grown HO9.out (by decide) hg7
              · rw [List.mem_singleton.1 hf]; exact HBT9.out.grown HO9.out (by decide) hg7, HM9.out.grown HO9.out (by decide) hg7, hb7⟩)
            have hme : un < rn := by have h1 := (IsV.parts (f := bv) HM9.out.1).1; rw [List.length_drop] at h1; have := HBL.out; have := HBN.out; have := HRN.out; have := HML.out; omega
            clear ho7 hb7 hg7 hsl e0 e1 e2 e3 d0 d1 d2 k3 k3f
            go_wp2
            go_roundw
            case rel => exact HREL.out
            case measure => simp only []; omega
        · have k3b : ((q : Int) != 0) = true := by simpa using (by omega : ¬ (q : Int) = 0)
          have k4b : ((q : Int) != 2) = true := by simpa using (by omega : ¬ (q : Int) = 2)
          have HE := Lib.hid (ftake1_bad H1.out (.inr (.inr (by have := HQ.out; omega))))
          go_wp2
          go_ret2
          rw [HFT.out, ftakeE_none HE.out HNE.out]
          exact ⟨rfl, HB4.out⟩
end Go.Proofs.YtocodcceimeiiaaDoor

/- wire's own contracts: Take. -/



namespace Go.Proofs.YtocodcceimeiiaaDoor

open Go.RowKit Go.ChangeShapes Go.WideShapes Go.ChangeAt

theorem elemFO : ∃ b, b ≤ 100 ∧ ElemW Tryd.prog 24 49 b 4 (.agg (fcells ⟨0, false, 0, [], .slice none 0 0⟩).toArray) := by
  have h : (Tryd.prog.info? 49).map (fun i => (i.zero, i.size, decide (i.bytes ≤ 100))) = some (some (.agg (fcells ⟨0, false, 0, [], .slice none 0 0⟩).toArray), 4, true) := by kernel_rfl
  cases hi : Tryd.prog.info? 49 with
  | none => rw [hi] at h; cases h
  | some i =>
    rw [hi] at h
    injection h with h
    injection h with h1 h
    injection h with h2 h3
    exact ⟨i.bytes, of_decide_eq_true h3, Tryd.underlying24, rfl, by omega, i, hi, h1, h2, rfl⟩
def FTkRelO (b : List UInt8) (w : World) (rv ov : Value) (wr : World) : Prop :=
  ∃ (fs : List FN) (rest : List UInt8), ftakeE b = (ftakeE rest).map (fs.map FN.wf ++ ·) ∧ fs.length + rest.length ≤ b.length ∧ wr.ownsRow w.heap.size 49 4 ov fs.length (fs.flatMap fcells) ∧ (∀ f ∈ fs, IsBT f.b f.lv wr) ∧ IsB rest rv w ∧ Below w.heap.size w wr
theorem fcells_one {tag : Int} {bytes : Bool} {n : Int} {A : Option Addr} {k c : Nat} : ∀ u ∈ [Value.int .i64 tag, .bool bytes, .int .u64 n, .slice A k c], u.oneCell' = true := by
  intro x hx
  simp only [List.mem_cons, List.not_mem_nil, or_false] at hx
  rcases hx with rfl | rfl | rfl | rfl <;> rfl
theorem ftakeE_next {b rest r : List UInt8} {f : WF} {fs : List WF} (h : ftakeE b = (ftakeE rest).map (fs ++ ·)) (h1 : ftake1 rest = some (f, r)) : ftakeE b = (ftakeE r).map ((fs ++ [f]) ++ ·) := by
  rw [h, ftakeE_some h1, Option.map_map]
  congr 1
  funext z
  simp
set_option maxHeartbeats 8000000 in
set_option maxRecDepth 100000 in
theorem ftake_own (b : List UInt8) (v : Value) (w : World) (h : IsB b v w) (hl : b.length ≤ 1000000000) :
    Calls Tryd.prog 6 #[v] w (RetFX 49 w (ftakeE b)) := by
  obtain ⟨eb, heb, hE⟩ := elemFO
  have HEB := Lib.hid hE
  have HST := Lib.hid (show FTkRelO b w v (.slice none 0 0) w from ⟨[], b, by simp, by simp, World.ownsRow_nil _ _ _ _, by simp, h, Below.refl _ _⟩)
  clear hE h
  go_enter Tryd.func6, Tryd.ntmps6
  go_wp2
  go_loopw [0, 4] (FTkRelO b w) (fun rv _ _ => match rv with | .slice _ n _ => n | _ => 0)
  case atStart => exact HST.out
  case round =>
    obtain ⟨fs, rest, hft, hlen, how, hfs, hrest, hbw⟩ := hrel
    clear HST
    obtain ⟨rA, rn, rc, rfl⟩ := IsV.shape (f := bv) hrest
    have HRN := Lib.hid (IsV.parts (f := bv) hrest).1
    have HRS := Lib.hid hrest
    have HOW := Lib.hid how
    have HFS := Lib.hid hfs
    have HBW := Lib.hid hbw
    have HFT := Lib.hid hft
    have HLN := Lib.hid hlen
    have hr1 : rest.length ≤ 1000000000 := by omega
    clear how hfs hbw hft hlen hrest
    by_cases h0 : rn = 0
    · subst h0
      have h0i : ¬ (0 : Int) < ((0 : Nat) : Int) := by omega
      have h0n : decide ((0 : Nat) < 0) = false := rfl
      have hE : rest = [] := List.eq_nil_of_length_eq_zero HRN.out
      have HR := Lib.hid (show RetFX 49 w (ftakeE b) (.returned (.tuple #[u4, .int .i64 0])) wr by
        rw [HFT.out, hE, ftakeE_nil]
        exact ⟨fs, _, rfl, by simp, HOW.out, HFS.out, HBW.out⟩)
      clear hE
      go_wp2
      go_ret2
      exact HR.out
    · have h0i : (0 : Int) < (rn : Int) := by omega
      have h0n : 0 < rn := by omega
      have hne : rest ≠ [] := fun h => h0 (by rw [← HRN.out, h]; rfl)
      have HNE := Lib.hid hne
      have HF := Lib.hid (ffirst_any rest _ wr (HRS.out.below HBW.out) hr1)
      clear hne
      cases h1 : ftake1 rest with
      | none =>
        rw [h1] at HF
        have H1 := Lib.hid h1
        clear h1
        go_wp2_with fail
        refine (HF.out).mono ?_
        rintro e w4 ⟨rfl, hb4⟩
        have HB4 := Lib.hid (below_then HBW.out hb4)
        clear hb4
        go_wp2
        go_ret2
        rw [HFT.out, ftakeE_none H1.out HNE.out]
        exact ⟨rfl, HB4.out.alloc HB4.out.size _⟩
      | some p =>
        obtain ⟨f, r⟩ := p
        rw [h1] at HF
        have H1 := Lib.hid h1
        have hrl := ftake1_len h1
        have HRL := Lib.hid hrl
        clear h1 hrl
        go_wp2_with fail
        refine (HF.out).mono ?_
        rintro e w4 ⟨lv, u, rfl, hu, ⟨ln, hlo⟩, hb4⟩
        dsimp only at hu ⊢
        obtain ⟨tag, bytes, nn, bs⟩ := f
        dsimp only [fval, fcells] at hlo ⊢
        have HB4 := Lib.hid (below_then HBW.out hb4)
        have HO4 := Lib.hid (own_below HOW.out hb4)
        have HFS4 := Lib.hid (fun f hf => (HFS.out f hf).below hb4)
        have HM4 := Lib.hid (isBT_own hlo)
        have HU := Lib.hid (hu w HRS.out)
        obtain ⟨uA, un, uc, rfl⟩ := IsV.shape (f := bv) HU.out
        have HUN := Lib.hid (IsV.parts (f := bv) HU.out).1
        obtain ⟨lA, lk, lc, rfl⟩ := own_slice hlo
        have HNX := Lib.hid (ftakeE_next HFT.out H1.out)
        clear hb4 hu hlo HF
        have hbA : Below w4.heap.size w4 (w4.alloc (.cells #[.int .i64 tag, .bool bytes, .int .u64 (nn : Int), .slice lA lk lc] 49)) := (Below.refl _ _).alloc (Nat.le_refl _) _
        have hzA : w4.heap.size + 1 = (w4.alloc (.cells #[.int .i64 tag, .bool bytes, .int .u64 (nn : Int), .slice lA lk lc] 49)).heap.size := by simp
        have ho6 := own_below HO4.out hbA
        have hb6 := below_then HB4.out hbA
        have hz6 := hb6.size
        have hfl : fs.length ≤ 1000000000 := by have := HLN.out; omega
        have HO6 := Lib.hid ho6
        have HM6 := Lib.hid (HM4.out.below hbA)
        have HFS6 := Lib.hid (fun f hf => (HFS4.out f hf).below hbA)
        have HZA := Lib.hid hzA
        have HB6 := Lib.hid hb6
        have HZ6 := Lib.hid hz6
        clear hbA hzA ho6 hb6 hz6
        go_wp2_with (at_builtin; refine wpList_pushG HEB.out rfl _ _ rfl w.heap.size _ _ _ [.int .i64 tag, .bool bytes, .int .u64 (nn : Int), .slice lA lk lc] _ w _ HZA.out rfl rfl rfl rfl fcells_one HO6.out HB6.out HZ6.out hfl heb ?_)
        intro v7 w7 ho7 hb7 hg7 _
        have HREL := Lib.hid (show FTkRelO b w (.slice uA un uc) v7 w7 from ⟨fs ++ [⟨tag, bytes, nn, bs, .slice lA lk lc⟩], r, by rw [List.map_append]; exact HNX.out, by have := HLN.out; have := HRL.out; rw [List.length_append, List.length_singleton]; omega, by rw [List.flatMap_append, List.length_append]; exact ho7, fun f hf => by
          rcases List.mem_append.1 hf with hf | hf
          · exact (HFS6.out f hf).grown HO6.out (by decide) hg7
          · rw [List.mem_singleton.1 hf]; exact HM6.out.grown HO6.out (by decide) hg7, HU.out, hb7⟩)
        have hme : un < rn := by have := HRL.out; have := HUN.out; have := HRN.out; omega
        clear ho7 hb7 hg7
        go_wp2
        go_roundw
        case rel => exact HREL.out
        case measure => simp only []; omega
end Go.Proofs.YtocodcceimeiiaaDoor

/- wire's own contracts: inTurn. -/



namespace Go.Proofs.YtocodcceimeiiaaDoor

open Go.RowKit Go.ChangeShapes Go.WideShapes Go.ChangeAt

/-- The first k fields with the tags 1, 2, 3 and so on. -/
def ftagd (k : Nat) (l : List FN) : List FN := l.mapIdx fun i f => if i < k then ⟨(i : Int) + 1, f.bytes, f.n, f.b, f.lv⟩ else f
theorem ftagd_len (k : Nat) (l : List FN) : (ftagd k l).length = l.length := by unfold ftagd; simp
theorem ftagd_zero (l : List FN) : ftagd 0 l = l := by
  refine List.ext_getElem (by simp [ftagd]) fun i h1 h2 => ?_
  simp [ftagd]
theorem ftagd_at {k i : Nat} {l : List FN} (h : i < l.length) : (ftagd k l)[i]'(by rw [ftagd_len]; exact h) = if i < k then ⟨(i : Int) + 1, l[i].bytes, l[i].n, l[i].b, l[i].lv⟩ else l[i] := by simp [ftagd]
theorem ftagd_next {k : Nat} {l : List FN} (h : k < l.length) : ftagd (k + 1) l = (ftagd k l).set k ⟨(k : Int) + 1, l[k].bytes, l[k].n, l[k].b, l[k].lv⟩ := by
  refine List.ext_getElem (by rw [List.length_set, ftagd_len, ftagd_len]) fun i h1 h2 => ?_
  rw [List.getElem_set, ftagd_at (by rw [ftagd_len] at h1; exact h1)]
  rw [ftagd_len] at h1
  by_cases hik : k = i
  · subst hik
    rw [if_pos rfl, if_pos (by omega)]
  · rw [if_neg hik, ftagd_at h1]
    by_cases hlt : i < k
    · rw [if_pos hlt, if_pos (by omega)]
    · rw [if_neg hlt, if_neg (by omega)]
theorem fset_tag : ∀ (l : List FN) (k : Nat) (f : FN) (t : Int) (hk : k < l.length), l[k] = f → (l.flatMap fcells).set (k * 4) (.int .i64 t) = (l.set k ⟨t, f.bytes, f.n, f.b, f.lv⟩).flatMap fcells
  | [], _, _, _, h, _ => absurd h (Nat.not_lt_zero _)
  | x :: l, 0, f, t, _, h => by
    obtain rfl : x = f := h
    rw [List.flatMap_cons, List.set_cons_zero, List.flatMap_cons]
    rfl
  | x :: l, k + 1, f, t, hk, h => by
    have h1 := fset_tag l k f t (by simpa using hk) (by simpa using h)
    rw [List.flatMap_cons, List.set_cons_succ, List.flatMap_cons, ← h1, List.set_append_right _ _ (by show (4 : Nat) ≤ _; omega)]
    congr 2
    show (k + 1) * 4 - 4 = _
    omega
theorem fcells_no {l : List FN} {w : World} (h : ∀ f ∈ l, FAt f w) (b : UInt8) : bv b ∉ l.flatMap fcells := by
  intro hm
  obtain ⟨f, hf, hm⟩ := List.mem_flatMap.1 hm
  obtain ⟨A, c, e, _⟩ := (h f hf).byt
  simp only [fcells, List.mem_cons, List.not_mem_nil, or_false, e] at hm
  rcases hm with h | h | h | h <;> cases h
/-- What inTurn answers: bytes of the call's own; block g alone changes. -/
def RetIT (g : Nat) (w : World) (b : List UInt8) (e : Ending) (w' : World) : Prop := ∃ v, e = .returned v ∧ w'.ownsRow w.heap.size 5 1 v b.length (b.map bv) ∧ w.grownBy w' (some g)
def FITRel (l : List FN) (g n : Nat) (w : World) (i : Value) (wr : World) : Prop := ∃ k : Nat, k ≤ n ∧ i = .int .i64 (k : Int) ∧ Row wr g 49 ((ftagd k l).flatMap fcells) ∧ w.grownBy wr (some g)
theorem grown_transF {a b c : World} {g : Option Nat} (h1 : a.grownBy b g) (h2 : b.grownBy c g) : a.grownBy c g :=
  ⟨h2.os.trans h1.os, h2.tape.trans h1.tape, h2.output.trans h1.output, Nat.le_trans h1.size h2.size, fun k hk hne => (h2.block k (Nat.lt_of_lt_of_le hk h1.size) hne).trans (h1.block k hk hne)⟩
theorem grown_belowF {a b : World} {g : Option Nat} (h : Below a.heap.size a b) : a.grownBy b g := ⟨h.os, h.tape, h.output, h.size, fun k hk _ => h.block k hk⟩
theorem ftagd_in {k : Nat} {l : List FN} {P : FN → Prop} (h : ∀ f ∈ l, ∀ t : Int, 0 ≤ t → t ≤ 1000 → P ⟨t, f.bytes, f.n, f.b, f.lv⟩) (h0 : ∀ f ∈ l, P f) (hl : l.length ≤ 100) : ∀ f ∈ ftagd k l, P f := by
  intro f hf
  obtain ⟨i, hi, rfl⟩ := List.mem_iff_getElem.1 hf
  rw [ftagd_len] at hi
  rw [ftagd_at hi]
  split
  · exact h _ (List.getElem_mem hi) _ (by omega) (by omega)
  · exact h0 _ (List.getElem_mem hi)
theorem ftagd_all {l : List FN} (hl : l.length ≤ 100) : ∀ f ∈ ftagd l.length l, ftag f.wf := by
  intro f hf
  obtain ⟨i, hi, rfl⟩ := List.mem_iff_getElem.1 hf
  rw [ftagd_len] at hi
  rw [ftagd_at hi, if_pos hi]
  show 1 ≤ (i : Int) + 1 ∧ (i : Int) + 1 ≤ 100
  omega
set_option maxHeartbeats 4000000 in
set_option maxRecDepth 100000 in
theorem finTurn_any (l : List FN) (g n : Nat) (w : World) (hr : Row w g 49 (l.flatMap fcells)) (hn : l.length = n) (hl : n ≤ 100) (hat : ∀ f ∈ l, FAt f w) :
    Calls Tryd.prog 30 #[.slice (some ⟨g, 0, none⟩) n n] w (RetIT g w (fbs (ftagd n l))) := by
  have HN := Lib.hid hn
  have HAT := Lib.hid hat
  have HST := Lib.hid (show FITRel l g n w (.int .i64 0) w from ⟨0, Nat.zero_le _, rfl, by rw [ftagd_zero]; exact hr, ⟨rfl, rfl, rfl, Nat.le_refl _, fun _ _ _ => rfl⟩⟩)
  have HR := Lib.hid hr
  have hnm : (n : Int) ≤ 100 := by omega
  clear hr hat hn
  go_enter Tryd.func30, Tryd.ntmps30
  go_wp2
  go_loopw [8] (FITRel l g n w) (fun i _ => n - (intOf i).toNat)
  case atStart => exact HST.out
  case round =>
    obtain ⟨k, hk, rfl, hrr, hgw⟩ := hrel
    clear HST
    have HGW := Lib.hid hgw
    have HRR := Lib.hid hrr
    clear hgw hrr
    by_cases hlt : k < n
    · have hlti : (k : Int) < (n : Int) := by omega
      have hkl : k < l.length := by have := HN.out; omega
      have hkt : k < (ftagd k l).length := by rw [ftagd_len]; exact hkl
      have hc : wr.cell? ⟨g, k * 4, none⟩ = some (.int .i64 (l[k]).tag) := by
        rw [HRR.out.cell]
        have h1 := flat_at (f := fcells) (m := 4) (fun _ => rfl) (ftagd k l) k hkt 0 (by omega)
        rw [Nat.add_zero] at h1
        rw [h1, ftagd_at hkl, if_neg (by omega)]
        rfl
      have hf := HRR.out.free (k * 4)
      have h2 := HRR.out.set_ (k * 4) (.int .i64 ((k : Int) + 1))
      rw [fset_tag (ftagd k l) k l[k] _ hkt (by rw [ftagd_at hkl, if_neg (by omega)]), ← ftagd_next hkl] at h2
      have HREL := Lib.hid (show FITRel l g n w (.int .i64 ((k + 1 : Nat) : Int)) (wr.setCell ⟨g, k * 4, none⟩ (.int .i64 ((k : Int) + 1))) from ⟨k + 1, hlt, rfl, h2, grown_transF HGW.out (grown_set wr g (k * 4) _)⟩)
      obtain ⟨tg, htg⟩ : ∃ tg, tg = (l[k]).tag := ⟨_, rfl⟩
      rw [← htg] at hc
      clear h2 hkt htg hkl hk
      go_wp2
      go_roundw
      case rel => exact HREL.out
      case measure => simp [intOf]; omega
    · have hlti : ¬ (k : Int) < (n : Int) := by omega
      obtain rfl : k = n := by omega
      have hal : ∀ f ∈ ftagd k l, FAt f wr := ftagd_in (fun f hf t h0 h1 => by
        have ha := HAT.out f hf
        exact ⟨isB_spared ha.byt HR.out (fcells_no HAT.out) HGW.out, by unfold inInt; dsimp only; omega, ha.n, ha.len⟩) (fun f hf => by
        have ha := HAT.out f hf
        exact ⟨isB_spared ha.byt HR.out (fcells_no HAT.out) HGW.out, ha.tag, ha.n, ha.len⟩) (by have := HN.out; omega)
      have hlen : (ftagd k l).length = k := by rw [ftagd_len]; exact HN.out
      have hput := fput_own (ftagd k l) (.slice (some ⟨g, 0, none⟩) k k) wr ⟨isR_row HRR.out hlen (by omega), hal⟩ (by omega)
      rw [fputP_ok (by have h := ftagd_all (l := l) (by have := HN.out; omega); rw [HN.out] at h; exact h)] at hput
      have HP := Lib.hid hput
      clear hal hlen hput hk
      go_wp2_with fail
      refine (HP.out).mono ?_
      rintro e w2 ⟨v2, rfl, ho2, hb2⟩
      dsimp only at ho2 ⊢
      have HO := Lib.hid (ownW_base HGW.out.size ho2)
      have HG2 := Lib.hid (grown_transF HGW.out (grown_belowF hb2))
      clear ho2 hb2
      go_wp2
      go_ret
      exact ⟨_, rfl, HO.out, HG2.out⟩
end Go.Proofs.YtocodcceimeiiaaDoor

/- wire's own contracts: PutValue. Written by gen_fval.py. -/









namespace Go.Proofs.YtocodcceimeiiaaDoor

open Go.RowKit Go.ChangeShapes Go.WideShapes Go.ChangeAt

theorem isB_convF (s : ByteArray) (w : World) (e : TypeId) (hs : s.size ≤ maxLen) : IsB s.data.toList (.slice (some ⟨w.heap.size, 0, none⟩) s.size (grownCap w s.size 0 e)) (Lib.bytesWorld w e s) := by
  refine ⟨_, _, rfl, by simp, ?_, grownCap_le_maxLen _ _ _ _ hs, .inr ⟨_, rfl, by simp [Lib.bytesWorld_size], fun j u hu => ?_⟩⟩
  · show s.data.toList.length ≤ _
    rw [Array.length_toList]
    exact grownCap_ge _ _ _ _
  · rw [List.getElem?_map, Option.map_eq_some_iff] at hu
    obtain ⟨y, hy, rfl⟩ := hu
    have hj : j < s.size := by
      have h := (List.getElem?_eq_some_iff.1 hy).1
      rwa [Array.length_toList] at h
    have he : (⟨w.heap.size, 0, none⟩ : Addr).add j = ⟨w.heap.size, j, none⟩ := by unfold Addr.add; split <;> simp_all
    rw [he, Lib.bytesWorld_cell w e s j hj, List.getD_eq_getElem?_getD, hy]
    rfl
theorem below_convF (s : ByteArray) (w : World) (e : TypeId) : Below w.heap.size w (Lib.bytesWorld w e s) := ⟨rfl, rfl, rfl, by rw [Lib.bytesWorld_size]; omega, fun k hk => Lib.bytesWorld_at_old w e s k hk⟩
theorem fval_at0 (W : World) (g : Nat) : (Instr.fieldAt 32 (.pointer (some ⟨g, 0, none⟩)) 0).run Tryd.prog W = .ok (.pointer (some ⟨g, 0, none⟩)) W := by kernel_rfl
theorem fval_at1 (W : World) (g : Nat) : (Instr.fieldAt 32 (.pointer (some ⟨g, 0, none⟩)) 1).run Tryd.prog W = .ok (.pointer (some ⟨g, 1, none⟩)) W := by kernel_rfl
theorem fval_at2 (W : World) (g : Nat) : (Instr.fieldAt 32 (.pointer (some ⟨g, 0, none⟩)) 2).run Tryd.prog W = .ok (.pointer (some ⟨g, 2, none⟩)) W := by kernel_rfl
/-- A field of bytes. -/
def Fact.bulk (l : List UInt8) : Fact := ⟨fun v W => ∃ lv, v = .agg #[.int .i64 0, .bool true, .int .u64 0, lv] ∧ IsB l lv W, fun _ _ _ ⟨lv, h1, h2⟩ hb => ⟨lv, h1, h2.below hb⟩⟩
/-- A value's three fields, without tags. -/
def fval3 (b : Bool) (n : Int) (s : ByteArray) (lv : Value) : List FN := [⟨0, false, fbit b, [], .slice none 0 0⟩, ⟨0, false, (vzig n).toNat, [], .slice none 0 0⟩, ⟨0, true, 0, s.toList, lv⟩]
theorem fval3_put (b : Bool) (n : Int) (s : ByteArray) (lv : Value) : fbs (ftagd 3 (fval3 b n s lv)) = fputV ⟨b, n, s⟩ := by
  simp [fbs, ftagd, fval3, fputV, fvalue, FN.wf, fnum, fbyt]
theorem fval3_at {b : Bool} {n : Int} {s : ByteArray} {lv : Value} {w : World} (hz : vzig n < 18446744073709551616) (hs : s.size ≤ 4000) (h : IsB s.toList lv w) : ∀ f ∈ fval3 b n s lv, FAt f w := by
  intro f hf
  simp only [fval3, List.mem_cons, List.not_mem_nil, or_false] at hf
  rcases hf with rfl | rfl | rfl
  · exact ⟨isB_nil w, by unfold inInt; dsimp only; omega, fbit_lt b, by simp⟩
  · exact ⟨isB_nil w, by unfold inInt; dsimp only; omega, by dsimp only; omega, by simp⟩
  · exact ⟨h, by unfold inInt; dsimp only; omega, by dsimp only; omega, by rw [toList_lenF]; exact hs⟩
set_option maxHeartbeats 4000000 in
set_option maxRecDepth 100000 in
theorem fputV_own (v : CV) (w : World) (hi : v.inInt) (hs : v.s.size ≤ 4000) : Calls Tryd.prog 13 #[cv v] w (RetOwn w (fputV v)) := by
  obtain ⟨vb, vn, vs_⟩ := v
  obtain ⟨hi0, hi1⟩ := hi
  dsimp only at hi0 hi1 hs
  have hsz : vs_.size ≤ maxLen := by unfold maxLen; omega
  unfold cv
  dsimp only
  have HZ := Lib.hid (vzig_bd hi0 hi1)
  have HS := Lib.hid hs
  have HRB := Lib.hid (show Row (w.alloc (.cells #[.bool vb, .int .i64 vn, .string vs_] 32)) w.heap.size 32 [.bool vb, .int .i64 vn, .string vs_] from heap_alloc_new w _)
  go_enter Tryd.func13, Tryd.ntmps13
  go_wp2_with fail
  refine wp_region_list_tail 11 [.is (.pointer (some ⟨w.heap.size, 0, none⟩)), .is (.bool vb), .is (.agg #[.int .i64 0, .bool false, .int .u64 ((fbit vb : Nat) : Int), .slice none 0 0]), .is (.pointer (some ⟨w.heap.size, 1, none⟩)), .is (.int .i64 vn), .is (.int .u64 (vzig vn)), .is (.agg #[.int .i64 0, .bool false, .int .u64 (vzig vn), .slice none 0 0]), .is (.pointer (some ⟨w.heap.size, 2, none⟩)), .is (.string vs_), .bytes (vs_.toList), Fact.bulk vs_.toList] [some 3, some 4, some 5, some 6, some 7, some 8, some 9, some 10, some 11, some 12, some 13] (by kernel_rfl) (by kernel_rfl) (by kernel_rfl) (by kernel_rfl) rfl ⟨?_, ?_, ?_, ?_, ?_, ?_, ?_, ?_, ?_, ?_, ?_, trivial⟩ ?_
  · intro ρ W1 hb1 H
    exact gives_field rfl (H.old 1 _ (by kernel_rfl) rfl) (fun W => fval_at0 W w.heap.size) ⟨rfl, Below.refl _ _⟩
  · intro ρ W1 hb1 H
    exact gives_load rfl (H.new 3 0 (by kernel_rfl)) Tryd.underlying4 rfl ((HRB.out.below hb1 HRB.out.lt).cell 0) ⟨rfl, Below.refl _ _⟩
  · intro ρ W1 hb1 H
    have e0 : ρ (.tmp 4) = .bool vb := H.new 4 1 (by kernel_rfl)
    refine gives_call rfl (fun _ _ => by kernel_rfl) (H.func _) (args := #[.bool vb]) (by simp [e0]) ?_
    exact (ftruth_any vb W1).mono fun e w' ⟨h1, h2⟩ => ⟨_, h1, rfl, h2⟩
  · intro ρ W1 hb1 H
    exact gives_field rfl (H.old 1 _ (by kernel_rfl) rfl) (fun W => fval_at1 W w.heap.size) ⟨rfl, Below.refl _ _⟩
  · intro ρ W1 hb1 H
    exact gives_load rfl (H.new 6 3 (by kernel_rfl)) Tryd.underlying3 rfl ((HRB.out.below hb1 HRB.out.lt).cell 1) ⟨rfl, Below.refl _ _⟩
  · intro ρ W1 hb1 H
    have e0 : ρ (.tmp 7) = .int .i64 vn := H.new 7 4 (by kernel_rfl)
    refine gives_call rfl (fun _ _ => by kernel_rfl) (H.func _) (args := #[.int .i64 vn]) (by simp [e0]) ?_
    exact (zig_any vn W1 hi0 hi1).mono fun e w' ⟨h1, h2⟩ => ⟨_, h1, rfl, h2 ▸ Below.refl _ _⟩
  · intro ρ W1 hb1 H
    have e0 : ρ (.tmp 8) = .int .u64 (vzig vn) := H.new 8 5 (by kernel_rfl)
    refine gives_call rfl (fun _ _ => by kernel_rfl) (H.func _) (args := #[.int .u64 (vzig vn)]) (by simp [e0]) ?_
    exact (fnumber_any (vzig vn) W1).mono fun e w' ⟨h1, h2⟩ => ⟨_, h1, rfl, h2⟩
  · intro ρ W1 hb1 H
    exact gives_field rfl (H.old 1 _ (by kernel_rfl) rfl) (fun W => fval_at2 W w.heap.size) ⟨rfl, Below.refl _ _⟩
  · intro ρ W1 hb1 H
    exact gives_load rfl (H.new 10 7 (by kernel_rfl)) Tryd.underlying9 rfl ((HRB.out.below hb1 HRB.out.lt).cell 2) ⟨rfl, Below.refl _ _⟩
  · intro ρ W1 hb1 H
    exact gives_convert rfl (H.new 11 8 (by kernel_rfl)) (Lib.run_convert_string_bytes (P := Tryd.prog) W1 9 22 5 vs_ Tryd.underlying9 Tryd.underlying22 Tryd.underlying5) ⟨by rw [ByteArray.toList_eq]; exact isB_convF vs_ W1 5 hsz, below_convF vs_ W1 5⟩
  · intro ρ W1 hb1 H
    have e0 : IsB vs_.toList (ρ (.tmp 12)) W1 := (H.new 12 9 (by kernel_rfl))
    obtain ⟨A, n, c, e1⟩ := IsV.shape (f := bv) e0
    rw [e1] at e0
    refine gives_call rfl (fun _ _ => by kernel_rfl) (H.func _) (args := #[.slice A n c]) (by simp [e1]) ?_
    exact (fbulk_any A n c W1).mono fun e w' ⟨h1, h2⟩ => ⟨_, h1, ⟨_, rfl, e0.below h2⟩, h2⟩
  · intro vs W1 hb1 hfs
    have f2 : vs 2 = .agg #[.int .i64 0, .bool false, .int .u64 ((fbit vb : Nat) : Int), .slice none 0 0] := hfs 2 (by decide)
    have f6 : vs 6 = .agg #[.int .i64 0, .bool false, .int .u64 (vzig vn), .slice none 0 0] := hfs 6 (by decide)
    have f10 : ∃ lv, vs 10 = .agg #[.int .i64 0, .bool true, .int .u64 0, lv] ∧ IsB vs_.toList lv W1 := hfs 10 (by decide)
    clear hfs
    simp only [putAll, Nat.zero_add, Nat.reduceAdd, List.drop_succ_cons, List.drop_zero]
    generalize vs 0 = z0
    generalize vs 1 = z1
    generalize vs 3 = z3
    generalize vs 4 = z4
    generalize vs 5 = z5
    generalize vs 7 = z7
    generalize vs 8 = z8
    generalize vs 9 = z9
    generalize vs 10 = z10 at f10 ⊢
    simp only [f2, f6, Act.put, List.setIfInBounds_toArray, List.set_cons_succ, List.set_cons_zero]
    clear f2 f6
    skip
    obtain ⟨lv, rfl, hlv⟩ := f10
    obtain ⟨A, n, c, rfl⟩ := IsV.shape (f := bv) hlv
    have HLV := Lib.hid hlv
    have HB1 := Lib.hid (below_then ((Below.refl _ _).alloc (Nat.le_refl _) _) hb1)
    clear hlv hb1
    go_wp2_with fail
    obtain ⟨W2, hW2⟩ : ∃ x, x = W1.alloc (.cells #[.int .i64 0, .bool false, .int .u64 ((fbit vb : Nat) : Int), .slice none 0 0, .int .i64 0, .bool false, .int .u64 (vzig vn), .slice none 0 0, .int .i64 0, .bool true, .int .u64 0, .slice A n c] 49) := ⟨_, rfl⟩
    have hbW : Below W1.heap.size W1 W2 := by rw [hW2]; exact (Below.refl _ _).alloc (Nat.le_refl _) _
    have hrow : Row W2 W1.heap.size 49 ((fval3 vb vn vs_ (.slice A n c)).flatMap fcells) := by
      show Row W2 _ _ [.int .i64 0, .bool false, .int .u64 ((fbit vb : Nat) : Int), .slice none 0 0, .int .i64 0, .bool false, .int .u64 (((vzig vn).toNat : Nat) : Int), .slice none 0 0, .int .i64 0, .bool true, .int .u64 ((0 : Nat) : Int), .slice A n c]
      rw [Int.toNat_of_nonneg HZ.out.1, hW2]
      exact heap_alloc_new W1 _
    have hat : ∀ f ∈ fval3 vb vn vs_ (.slice A n c), FAt f W2 := fval3_at HZ.out.2 HS.out (HLV.out.below hbW)
    rw [← hW2]
    clear hW2
    refine (finTurn_any _ _ 3 W2 hrow rfl (by omega) hat).mono ?_
    rintro e w3 ⟨v3, rfl, ho3, hg3⟩
    rw [fval3_put] at ho3
    have HO := Lib.hid (ownW_base (Nat.le_trans HB1.out.size hbW.size) ho3)
    have HB3 := Lib.hid ((below_then HB1.out hbW).grown hg3 (Nat.le_trans HB1.out.size hbW.size) fun k hk => by injection hk with hk; rw [← hk]; exact HB1.out.size)
    clear ho3 hg3 hat hrow hbW
    go_wp2
    go_ret
    exact ⟨_, rfl, HO.out, HB3.out⟩
end Go.Proofs.YtocodcceimeiiaaDoor

/- Contracts of layer 19's reference: bit, num, PutValue, PutStats. Written by gen_fstat.py. -/











namespace Go.Proofs.YtocodcceimeiiaaDoor

open Go.RowKit Go.ChangeShapes Go.WideShapes Go.ChangeAt

theorem fcv_size : ∀ W, (sizeOf 32).run Tryd.prog W = .ok 3 W := Tryd.sizeOf32
theorem frow_at {W : World} {g : Nat} {t : TypeId} {cs : List Value} {x : CV} (h : Row W g t cs) (off : Nat) (hx : ∀ q, q < 3 → cs[off + q]? = (kcells x)[q]?) : ∀ q v, (kcells x)[q]? = some v → W.cell? ((⟨g, off, none⟩ : Addr).add q) = some v := by
  intro q v hq
  have hq3 : q < 3 := (List.getElem?_eq_some_iff.1 hq).1
  have ha : (⟨g, off, none⟩ : Addr).add q = ⟨g, off + q, none⟩ := by
    unfold Addr.add
    split
    · rename_i h0; subst h0; rfl
    · rfl
  rw [ha, h.cell, hx q hq3]
  exact hq
theorem fstat_at0 (W : World) (g : Nat) : (Instr.fieldAt 36 (.pointer (some ⟨g, 0, none⟩)) 0).run Tryd.prog W = .ok (.pointer (some ⟨g, 0, none⟩)) W := by kernel_rfl
theorem fstat_at1 (W : World) (g : Nat) : (Instr.fieldAt 36 (.pointer (some ⟨g, 0, none⟩)) 1).run Tryd.prog W = .ok (.pointer (some ⟨g, 1, none⟩)) W := by kernel_rfl
theorem fstat_at2 (W : World) (g : Nat) : (Instr.fieldAt 36 (.pointer (some ⟨g, 0, none⟩)) 2).run Tryd.prog W = .ok (.pointer (some ⟨g, 2, none⟩)) W := by kernel_rfl
theorem fstat_at3 (W : World) (g : Nat) : (Instr.fieldAt 36 (.pointer (some ⟨g, 0, none⟩)) 3).run Tryd.prog W = .ok (.pointer (some ⟨g, 5, none⟩)) W := by kernel_rfl
theorem fstat_at4 (W : World) (g : Nat) : (Instr.fieldAt 36 (.pointer (some ⟨g, 0, none⟩)) 4).run Tryd.prog W = .ok (.pointer (some ⟨g, 8, none⟩)) W := by kernel_rfl
theorem fstat_at5 (W : World) (g : Nat) : (Instr.fieldAt 36 (.pointer (some ⟨g, 0, none⟩)) 5).run Tryd.prog W = .ok (.pointer (some ⟨g, 9, none⟩)) W := by kernel_rfl
/-- A field of bytes, with a tag. -/
def Fact.bulkT (t : Int) (l : List UInt8) : Fact := ⟨fun v W => ∃ lv, v = .agg #[.int .i64 t, .bool true, .int .u64 0, lv] ∧ IsB l lv W, fun _ _ _ ⟨lv, h1, h2⟩ hb => ⟨lv, h1, h2.below hb⟩⟩
theorem rbuild_byt (T : Int) (A : Option Addr) (n c : Nat) (W : World) : (Instr.build 54 #[(0, .int .i64 T), (1, .bool true), (3, .slice A n c)]).run Tryd.prog W = .ok (.agg #[.int .i64 T, .bool true, .int .u64 0, .slice A n c]) W := by kernel_rfl
theorem rfieldI_size : (Tryd.prog.info? 54).map (·.size) = some 4 := by kernel_rfl
theorem rbit_any (b : Bool) (w : World) : Calls Tryd.prog 40 #[.bool b] w fun e w' => e = .returned (.int .u64 ((fbit b : Nat) : Int)) ∧ w = w' := by
  cases b with
  | true =>
    go_enter Tryd.func40, Tryd.ntmps40
    go_wp2
    go_ret
    exact ⟨rfl, rfl⟩
  | false =>
    go_enter Tryd.func40, Tryd.ntmps40
    go_wp2
    go_ret
    exact ⟨rfl, rfl⟩
set_option maxRecDepth 100000 in
theorem rnum_any (t x : Int) (w : World) : Calls Tryd.prog 39 #[.int .i64 t, .int .u64 x] w fun e w' => e = .returned (.agg #[.int .i64 t, .bool false, .int .u64 x, .slice none 0 0]) ∧ Below w.heap.size w w' := by
  have hr : Row (w.alloc (.cells #[.int .i64 t, .bool false, .int .u64 x, .slice none 0 0] 54)) w.heap.size 54 [.int .i64 t, .bool false, .int .u64 x, .slice none 0 0] := heap_alloc_new w _
  have HR := Lib.hid hr
  clear hr
  go_enter Tryd.func39, Tryd.ntmps39
  go_wp2
  refine bodyPost_ret (results_rowF rfl _ _ w.heap.size _ _ (0, 0) _ rfl HR.out Tryd.underlying54 rfl rfieldI_size) rfl ?_
  exact ⟨rfl, (Below.refl _ _).alloc (Nat.le_refl _) _⟩
theorem rlit_three (a0 a1 a2 a3 a4 a5 a6 a7 a8 a9 a10 a11 : Value) (W : World) : (Instr.buildSlice 28 3 #[(0, .agg #[a0, a1, a2, a3]), (1, .agg #[a4, a5, a6, a7]), (2, .agg #[a8, a9, a10, a11])]).run Tryd.prog W = .ok (.slice (some ⟨W.heap.size, 0, none⟩) 3 3) (W.alloc (.cells #[a0, a1, a2, a3, a4, a5, a6, a7, a8, a9, a10, a11] 54)) := by kernel_rfl
theorem rlit_six (a0 a1 a2 a3 a4 a5 a6 a7 a8 a9 a10 a11 a12 a13 a14 a15 a16 a17 a18 a19 a20 a21 a22 a23 : Value) (W : World) : (Instr.buildSlice 28 6 #[(0, .agg #[a0, a1, a2, a3]), (1, .agg #[a4, a5, a6, a7]), (2, .agg #[a8, a9, a10, a11]), (3, .agg #[a12, a13, a14, a15]), (4, .agg #[a16, a17, a18, a19]), (5, .agg #[a20, a21, a22, a23])]).run Tryd.prog W = .ok (.slice (some ⟨W.heap.size, 0, none⟩) 6 6) (W.alloc (.cells #[a0, a1, a2, a3, a4, a5, a6, a7, a8, a9, a10, a11, a12, a13, a14, a15, a16, a17, a18, a19, a20, a21, a22, a23] 54)) := by kernel_rfl
/-- Bytes and no error. -/
def Fact.tup (l : List UInt8) : Fact := ⟨fun v W => ∃ x, v = .tuple #[x, .int .i64 0] ∧ IsB l x W, fun _ _ _ ⟨x, h1, h2⟩ hb => ⟨x, h1, h2.below hb⟩⟩
def Fact.lit3 (vb : Bool) (vn : Int) (vs_ : ByteArray) : Fact := ⟨fun v W => ∃ g A n c, v = .slice (some ⟨g, 0, none⟩) 3 3 ∧ Row W g 54 [.int .i64 1, .bool false, .int .u64 ((fbit vb : Nat) : Int), .slice none 0 0, .int .i64 2, .bool false, .int .u64 (vzig vn), .slice none 0 0, .int .i64 3, .bool true, .int .u64 0, .slice A n c] ∧ IsB vs_.toList (.slice A n c) W, fun _ _ _ ⟨g, A, n, c, h1, h2, h3⟩ hb => ⟨g, A, n, c, h1, h2.below hb h2.lt, h3.below hb⟩⟩
def rfval3 (b : Bool) (n : Int) (s : ByteArray) (lv : Value) : List FN := [⟨1, false, fbit b, [], .slice none 0 0⟩, ⟨2, false, (vzig n).toNat, [], .slice none 0 0⟩, ⟨3, true, 0, s.toList, lv⟩]
theorem rfval3_put {b : Bool} {n : Int} {s : ByteArray} {lv : Value} (_hz : vzig n < 18446744073709551616) (_hs : s.size ≤ 3000) : fputP (rfval3 b n s lv) = (fputV ⟨b, n, s⟩, 0) := by
  rw [fputP_ok (by
    intro f hf
    simp only [rfval3, List.mem_cons, List.not_mem_nil, or_false] at hf
    rcases hf with rfl | rfl | rfl <;> (unfold ftag FN.wf; dsimp only; omega))]
  simp [fbs, rfval3, fputV, fvalue, FN.wf, fnum, fbyt]
theorem rfval3_at {b : Bool} {n : Int} {s : ByteArray} {lv : Value} {w : World} (hz : vzig n < 18446744073709551616) (hs : s.size ≤ 3000) (h : IsB s.toList lv w) : ∀ f ∈ rfval3 b n s lv, FAt f w := by
  intro f hf
  simp only [rfval3, List.mem_cons, List.not_mem_nil, or_false] at hf
  rcases hf with rfl | rfl | rfl
  · exact ⟨isB_nil w, by unfold inInt; dsimp only; omega, fbit_lt b, by simp⟩
  · exact ⟨isB_nil w, by unfold inInt; dsimp only; omega, by dsimp only; omega, by simp⟩
  · exact ⟨h, by unfold inInt; dsimp only; omega, by dsimp only; omega, by rw [toList_lenF]; omega⟩
set_option maxHeartbeats 8000000 in
set_option maxRecDepth 100000 in
theorem rputV_any (v : CV) (w : World) (hi : v.inInt) (hs : v.s.size ≤ 3000) : Calls Tryd.prog 16 #[cv v] w fun e w' => ∃ u, e = .returned u ∧ IsB (fputV v) u w' ∧ Below w.heap.size w w' := by
  obtain ⟨vb, vn, vs_⟩ := v
  obtain ⟨hi0, hi1⟩ := hi
  dsimp only at hi0 hi1 hs
  have hsz : vs_.size ≤ maxLen := by unfold maxLen; omega
  unfold cv
  dsimp only
  have HZ := Lib.hid (vzig_bd hi0 hi1)
  have HS := Lib.hid hs
  have HRB := Lib.hid (show Row (w.alloc (.cells #[.bool vb, .int .i64 vn, .string vs_] 32)) w.heap.size 32 [.bool vb, .int .i64 vn, .string vs_] from heap_alloc_new w _)
  go_enter Tryd.func16, Tryd.ntmps16
  go_wp2_with fail
  refine wp_region_list [.is (.pointer (some ⟨w.heap.size, 0, none⟩)), .is (.bool vb), .is (.int .u64 ((fbit vb : Nat) : Int)), .is (.agg #[.int .i64 1, .bool false, .int .u64 ((fbit vb : Nat) : Int), .slice none 0 0]), .is (.pointer (some ⟨w.heap.size, 1, none⟩)), .is (.int .i64 vn), .is (.int .u64 (vzig vn)), .is (.agg #[.int .i64 2, .bool false, .int .u64 (vzig vn), .slice none 0 0]), .is (.pointer (some ⟨w.heap.size, 2, none⟩)), .is (.string vs_), .bytes (vs_.toList), Fact.bulkT 3 (vs_.toList), Fact.lit3 vb vn vs_, Fact.tup (fputV ⟨vb, vn, vs_⟩), Fact.tup (fputV ⟨vb, vn, vs_⟩), .bytes (fputV ⟨vb, vn, vs_⟩), .is (.int .i64 0), .bytes (fputV ⟨vb, vn, vs_⟩), .is (.int .i64 0)] [some 6, some 7, some 8, some 9, some 10, some 11, some 12, some 13, some 14, some 15, some 16, some 17, some 18, some 19, some 5, some 20, some 21, some 3, some 4] (by kernel_rfl) (by kernel_rfl) (by kernel_rfl) rfl ⟨?_, ?_, ?_, ?_, ?_, ?_, ?_, ?_, ?_, ?_, ?_, ?_, ?_, ?_, ?_, ?_, ?_, ?_, ?_, trivial⟩ ?_
  · intro ρ W1 hb1 H
    exact gives_field rfl (H.old 1 _ (by kernel_rfl) rfl) (fun W => fval_at0 W w.heap.size) ⟨rfl, Below.refl _ _⟩
  · intro ρ W1 hb1 H
    exact gives_load rfl (H.new 6 0 (by kernel_rfl)) Tryd.underlying4 rfl ((HRB.out.below hb1 HRB.out.lt).cell 0) ⟨rfl, Below.refl _ _⟩
  · intro ρ W1 hb1 H
    have e0 : ρ (.tmp 7) = .bool vb := H.new 7 1 (by kernel_rfl)
    refine gives_call rfl (fun _ _ => by kernel_rfl) (H.func _) (args := #[.bool vb]) (by simp [e0]) ?_
    exact (rbit_any vb W1).mono fun e w' ⟨h1, h2⟩ => ⟨_, h1, rfl, h2 ▸ Below.refl _ _⟩
  · intro ρ W1 hb1 H
    have e1 : ρ (.tmp 8) = .int .u64 ((fbit vb : Nat) : Int) := H.new 8 2 (by kernel_rfl)
    refine gives_call rfl (fun _ _ => by kernel_rfl) (H.func _) (args := #[.int .i64 1, .int .u64 ((fbit vb : Nat) : Int)]) (by simp [H.const, e1]) ?_
    exact (rnum_any 1 ((fbit vb : Nat) : Int) W1).mono fun e w' ⟨h1, h2⟩ => ⟨_, h1, rfl, h2⟩
  · intro ρ W1 hb1 H
    exact gives_field rfl (H.old 1 _ (by kernel_rfl) rfl) (fun W => fval_at1 W w.heap.size) ⟨rfl, Below.refl _ _⟩
  · intro ρ W1 hb1 H
    exact gives_load rfl (H.new 10 4 (by kernel_rfl)) Tryd.underlying3 rfl ((HRB.out.below hb1 HRB.out.lt).cell 1) ⟨rfl, Below.refl _ _⟩
  · intro ρ W1 hb1 H
    have e0 : ρ (.tmp 11) = .int .i64 vn := H.new 11 5 (by kernel_rfl)
    refine gives_call rfl (fun _ _ => by kernel_rfl) (H.func _) (args := #[.int .i64 vn]) (by simp [e0]) ?_
    exact (rzig_any vn W1 hi0 hi1).mono fun e w' ⟨h1, h2⟩ => ⟨_, h1, rfl, h2 ▸ Below.refl _ _⟩
  · intro ρ W1 hb1 H
    have e1 : ρ (.tmp 12) = .int .u64 (vzig vn) := H.new 12 6 (by kernel_rfl)
    refine gives_call rfl (fun _ _ => by kernel_rfl) (H.func _) (args := #[.int .i64 2, .int .u64 (vzig vn)]) (by simp [H.const, e1]) ?_
    exact (rnum_any 2 (vzig vn) W1).mono fun e w' ⟨h1, h2⟩ => ⟨_, h1, rfl, h2⟩
  · intro ρ W1 hb1 H
    exact gives_field rfl (H.old 1 _ (by kernel_rfl) rfl) (fun W => fval_at2 W w.heap.size) ⟨rfl, Below.refl _ _⟩
  · intro ρ W1 hb1 H
    exact gives_load rfl (H.new 14 8 (by kernel_rfl)) Tryd.underlying9 rfl ((HRB.out.below hb1 HRB.out.lt).cell 2) ⟨rfl, Below.refl _ _⟩
  · intro ρ W1 hb1 H
    exact gives_convert rfl (H.new 15 9 (by kernel_rfl)) (Lib.run_convert_string_bytes (P := Tryd.prog) W1 9 22 5 vs_ Tryd.underlying9 Tryd.underlying22 Tryd.underlying5) ⟨by rw [ByteArray.toList_eq]; exact isB_convF vs_ W1 5 hsz, below_convF vs_ W1 5⟩
  · intro ρ W1 hb1 H
    have e0 : IsB (vs_.toList) (ρ (.tmp 16)) W1 := (H.new 16 10 (by kernel_rfl))
    obtain ⟨A, n, c, e1⟩ := IsV.shape (f := bv) e0
    rw [e1] at e0
    refine gives_of (v := .agg #[.int .i64 3, .bool true, .int .u64 0, .slice A n c]) (w' := W1) ?_ ⟨⟨_, rfl, e0⟩, Below.refl _ _⟩
    simp [execOp, e1, H.const, rbuild_byt]
  · intro ρ W1 hb1 H
    have e1 : ρ (.tmp 9) = .agg #[.int .i64 1, .bool false, .int .u64 ((fbit vb : Nat) : Int), .slice none 0 0] := (H.new 9 3 (by kernel_rfl))
    have e2 : ρ (.tmp 13) = .agg #[.int .i64 2, .bool false, .int .u64 (vzig vn), .slice none 0 0] := (H.new 13 7 (by kernel_rfl))
    obtain ⟨lv, e3, h3⟩ : ∃ lv, ρ (.tmp 17) = .agg #[.int .i64 3, .bool true, .int .u64 0, lv] ∧ IsB (vs_.toList) lv W1 := (H.new 17 11 (by kernel_rfl))
    obtain ⟨A, n, c, rfl⟩ := IsV.shape (f := bv) h3
    refine gives_of (v := .slice (some ⟨W1.heap.size, 0, none⟩) 3 3) (w' := W1.alloc (.cells #[.int .i64 1, .bool false, .int .u64 ((fbit vb : Nat) : Int), .slice none 0 0, .int .i64 2, .bool false, .int .u64 (vzig vn), .slice none 0 0, .int .i64 3, .bool true, .int .u64 0, .slice A n c] 54)) ?_ ⟨⟨_, A, n, c, rfl, heap_alloc_new W1 _, h3.below ((Below.refl _ _).alloc (Nat.le_refl _) _)⟩, (Below.refl _ _).alloc (Nat.le_refl _) _⟩
    simp [execOp, e1, e2, e3, rlit_three]
  · intro ρ W1 hb1 H
    obtain ⟨g, A, n, c, e1, hr, hI⟩ : ∃ g A n c, ρ (.tmp 18) = .slice (some ⟨g, 0, none⟩) 3 3 ∧ Row W1 g 54 [.int .i64 1, .bool false, .int .u64 ((fbit vb : Nat) : Int), .slice none 0 0, .int .i64 2, .bool false, .int .u64 (vzig vn), .slice none 0 0, .int .i64 3, .bool true, .int .u64 0, .slice A n c] ∧ IsB vs_.toList (.slice A n c) W1 := (H.new 18 12 (by kernel_rfl))
    have hrow : Row W1 g 54 ((rfval3 vb vn vs_ (.slice A n c)).flatMap fcells) := by
      show Row W1 _ _ [.int .i64 1, .bool false, .int .u64 ((fbit vb : Nat) : Int), .slice none 0 0, .int .i64 2, .bool false, .int .u64 (((vzig vn).toNat : Nat) : Int), .slice none 0 0, .int .i64 3, .bool true, .int .u64 ((0 : Nat) : Int), .slice A n c]
      rw [Int.toNat_of_nonneg HZ.out.1]
      exact hr
    have hp := rfput_any (rfval3 vb vn vs_ (.slice A n c)) (.slice (some ⟨g, 0, none⟩) 3 3) W1 ⟨isR_row hrow rfl (by omega), rfval3_at HZ.out.2 HS.out hI⟩ (by simp [rfval3])
    rw [rfval3_put HZ.out.2 HS.out] at hp
    refine gives_call rfl (fun _ _ => by kernel_rfl) (H.func _) (args := #[.slice (some ⟨g, 0, none⟩) 3 3]) (by simp [e1]) ?_
    exact hp.mono fun e w' ⟨v, h1, h2, h3⟩ => ⟨_, h1, ⟨v, rfl, h2⟩, h3⟩
  · intro ρ W1 hb1 H
    exact gives_move rfl rfl ⟨H.new 19 13 (by kernel_rfl), Below.refl _ _⟩
  · intro ρ W1 hb1 H
    obtain ⟨x, e0, h0⟩ : ∃ x, ρ (.tmp 5) = .tuple #[x, .int .i64 0] ∧ IsB (fputV ⟨vb, vn, vs_⟩) x W1 := (H.new 5 14 (by kernel_rfl))
    exact gives_extract rfl e0 rfl ⟨h0, Below.refl _ _⟩
  · intro ρ W1 hb1 H
    obtain ⟨x, e0, h0⟩ : ∃ x, ρ (.tmp 5) = .tuple #[x, .int .i64 0] ∧ IsB (fputV ⟨vb, vn, vs_⟩) x W1 := (H.new 5 14 (by kernel_rfl))
    exact gives_extract rfl e0 rfl ⟨rfl, Below.refl _ _⟩
  · intro ρ W1 hb1 H
    exact gives_assign rfl rfl ⟨H.new 20 15 (by kernel_rfl), Below.refl _ _⟩
  · intro ρ W1 hb1 H
    exact gives_assign rfl (H.new 21 16 (by kernel_rfl)) ⟨rfl, Below.refl _ _⟩
  · intro vs W1 hb1 hfs
    have f17 : IsB (fputV ⟨vb, vn, vs_⟩) (vs 17) W1 := hfs 17 (by decide)
    have f18 : vs 18 = .int .i64 0 := hfs 18 (by decide)
    clear hfs
    simp only [putAll, Nat.zero_add, Nat.reduceAdd]
    generalize vs 0 = z0
    generalize vs 1 = z1
    generalize vs 2 = z2
    generalize vs 3 = z3
    generalize vs 4 = z4
    generalize vs 5 = z5
    generalize vs 6 = z6
    generalize vs 7 = z7
    generalize vs 8 = z8
    generalize vs 9 = z9
    generalize vs 10 = z10
    generalize vs 11 = z11
    generalize vs 12 = z12
    generalize vs 13 = z13
    generalize vs 14 = z14
    generalize vs 15 = z15
    generalize vs 16 = z16
    generalize vs 17 = z17 at f17 ⊢
    simp only [f18, Act.put, List.setIfInBounds_toArray, List.set_cons_succ, List.set_cons_zero]
    clear f18
    have HI := Lib.hid f17
    have HB1 := Lib.hid (below_then ((Below.refl _ _).alloc (Nat.le_refl _) _) hb1)
    clear f17 hb1
    go_wp2
    go_ret
    exact ⟨_, rfl, HI.out, HB1.out⟩
def rfstat6 (s : GS) (lv lv2 : Value) : List FN := [⟨1, false, u64n s.count, [], .slice none 0 0⟩, ⟨2, false, fbit s.has, [], .slice none 0 0⟩, ⟨3, true, 0, fputV s.min, lv⟩, ⟨4, true, 0, fputV s.max, lv2⟩, ⟨5, false, (vzig s.sum).toNat, [], .slice none 0 0⟩, ⟨6, false, fbit s.over, [], .slice none 0 0⟩]
theorem rfstat6_at {s : GS} {lv lv2 : Value} {w : World} (hz : vzig s.sum < 18446744073709551616) (h1 : (fputV s.min).length ≤ 4000) (h2 : (fputV s.max).length ≤ 4000) (hl : IsB (fputV s.min) lv w) (hl2 : IsB (fputV s.max) lv2 w) : ∀ f ∈ rfstat6 s lv lv2, FAt f w := by
  intro f hf
  simp only [rfstat6, List.mem_cons, List.not_mem_nil, or_false] at hf
  rcases hf with rfl | rfl | rfl | rfl | rfl | rfl
  · exact ⟨isB_nil w, by unfold inInt; dsimp only; omega, u64n_lt _, by simp⟩
  · exact ⟨isB_nil w, by unfold inInt; dsimp only; omega, fbit_lt _, by simp⟩
  · exact ⟨hl, by unfold inInt; dsimp only; omega, by dsimp only; omega, h1⟩
  · exact ⟨hl2, by unfold inInt; dsimp only; omega, by dsimp only; omega, h2⟩
  · exact ⟨isB_nil w, by unfold inInt; dsimp only; omega, by dsimp only; omega, by simp⟩
  · exact ⟨isB_nil w, by unfold inInt; dsimp only; omega, fbit_lt _, by simp⟩
def Fact.lit6 (s : GS) : Fact := ⟨fun v W => ∃ g A n c A2 n2 c2, v = .slice (some ⟨g, 0, none⟩) 6 6 ∧ Row W g 54 [.int .i64 1, .bool false, .int .u64 ((u64n s.count : Nat) : Int), .slice none 0 0, .int .i64 2, .bool false, .int .u64 ((fbit s.has : Nat) : Int), .slice none 0 0, .int .i64 3, .bool true, .int .u64 0, .slice A n c, .int .i64 4, .bool true, .int .u64 0, .slice A2 n2 c2, .int .i64 5, .bool false, .int .u64 (vzig s.sum), .slice none 0 0, .int .i64 6, .bool false, .int .u64 ((fbit s.over : Nat) : Int), .slice none 0 0] ∧ IsB (fputV s.min) (.slice A n c) W ∧ IsB (fputV s.max) (.slice A2 n2 c2) W, fun _ _ _ ⟨g, A, n, c, A2, n2, c2, h1, h2, h3, h4⟩ hb => ⟨g, A, n, c, A2, n2, c2, h1, h2.below hb h2.lt, h3.below hb, h4.below hb⟩⟩
theorem rfstat6_put {s : GS} {lv lv2 : Value} : fputP (rfstat6 s lv lv2) = (fputG s, 0) := by
  rw [fputP_ok (by
    intro f hf
    simp only [rfstat6, List.mem_cons, List.not_mem_nil, or_false] at hf
    rcases hf with rfl | rfl | rfl | rfl | rfl | rfl <;> (unfold ftag FN.wf; dsimp only; omega))]
  simp [fbs, rfstat6, fputG, fstats, FN.wf, fnum, fbyt]
set_option maxHeartbeats 8000000 in
set_option maxRecDepth 100000 in
theorem rputG_any (s : GS) (w : World) (hi : s.inInt) (hs1 : s.min.s.size ≤ 3000) (hs2 : s.max.s.size ≤ 3000) : Calls Tryd.prog 17 #[gsv s] w fun e w' => ∃ u, e = .returned u ∧ IsB (fputG s) u w' ∧ Below w.heap.size w w' := by
  obtain ⟨gc, gh, ⟨gmb, gmn, gms⟩, ⟨gxb, gxn, gxs⟩, gsm, go⟩ := s
  obtain ⟨_, _, him, hix, hg0, hg1⟩ := hi
  dsimp only at him hix hg0 hg1 hs1 hs2
  have hsm_ : (CV.mk gmb gmn gms).s.size ≤ 3000 := hs1
  have hsx : (CV.mk gxb gxn gxs).s.size ≤ 3000 := hs2
  unfold gsv gcells
  dsimp only
  have HZ := Lib.hid (vzig_bd hg0 hg1)
  have HLM := Lib.hid (show (fputV ⟨gmb, gmn, gms⟩).length ≤ 4000 by have := fputV_len him (by omega); dsimp only at this; omega)
  have HLX := Lib.hid (show (fputV ⟨gxb, gxn, gxs⟩).length ≤ 4000 by have := fputV_len hix (by omega); dsimp only at this; omega)
  have HRB := Lib.hid (show Row (w.alloc (.cells #[.int .i64 gc, .bool gh, .bool gmb, .int .i64 gmn, .string gms, .bool gxb, .int .i64 gxn, .string gxs, .int .i64 gsm, .bool go] 36)) w.heap.size 36 [.int .i64 gc, .bool gh, .bool gmb, .int .i64 gmn, .string gms, .bool gxb, .int .i64 gxn, .string gxs, .int .i64 gsm, .bool go] from heap_alloc_new w _)
  go_enter Tryd.func17, Tryd.ntmps17
  go_wp2_with fail
  refine wp_region_list [.is (.pointer (some ⟨w.heap.size, 0, none⟩)), .is (.int .i64 gc), .is (.int .u64 ((u64n gc : Nat) : Int)), .is (.agg #[.int .i64 1, .bool false, .int .u64 ((u64n gc : Nat) : Int), .slice none 0 0]), .is (.pointer (some ⟨w.heap.size, 1, none⟩)), .is (.bool gh), .is (.int .u64 ((fbit gh : Nat) : Int)), .is (.agg #[.int .i64 2, .bool false, .int .u64 ((fbit gh : Nat) : Int), .slice none 0 0]), .is (.pointer (some ⟨w.heap.size, 2, none⟩)), .is (cv ⟨gmb, gmn, gms⟩), .bytes (fputV ⟨gmb, gmn, gms⟩), Fact.bulkT 3 (fputV ⟨gmb, gmn, gms⟩), .is (.pointer (some ⟨w.heap.size, 5, none⟩)), .is (cv ⟨gxb, gxn, gxs⟩), .bytes (fputV ⟨gxb, gxn, gxs⟩), Fact.bulkT 4 (fputV ⟨gxb, gxn, gxs⟩), .is (.pointer (some ⟨w.heap.size, 8, none⟩)), .is (.int .i64 gsm), .is (.int .u64 (vzig gsm)), .is (.agg #[.int .i64 5, .bool false, .int .u64 (vzig gsm), .slice none 0 0]), .is (.pointer (some ⟨w.heap.size, 9, none⟩)), .is (.bool go), .is (.int .u64 ((fbit go : Nat) : Int)), .is (.agg #[.int .i64 6, .bool false, .int .u64 ((fbit go : Nat) : Int), .slice none 0 0]), Fact.lit6 ⟨gc, gh, ⟨gmb, gmn, gms⟩, ⟨gxb, gxn, gxs⟩, gsm, go⟩, Fact.tup (fputG ⟨gc, gh, ⟨gmb, gmn, gms⟩, ⟨gxb, gxn, gxs⟩, gsm, go⟩), Fact.tup (fputG ⟨gc, gh, ⟨gmb, gmn, gms⟩, ⟨gxb, gxn, gxs⟩, gsm, go⟩), .bytes (fputG ⟨gc, gh, ⟨gmb, gmn, gms⟩, ⟨gxb, gxn, gxs⟩, gsm, go⟩), .is (.int .i64 0), .bytes (fputG ⟨gc, gh, ⟨gmb, gmn, gms⟩, ⟨gxb, gxn, gxs⟩, gsm, go⟩), .is (.int .i64 0)] [some 6, some 7, some 8, some 9, some 10, some 11, some 12, some 13, some 14, some 15, some 16, some 17, some 18, some 19, some 20, some 21, some 22, some 23, some 24, some 25, some 26, some 27, some 28, some 29, some 30, some 31, some 5, some 32, some 33, some 3, some 4] (by kernel_rfl) (by kernel_rfl) (by kernel_rfl) rfl ⟨?_, ?_, ?_, ?_, ?_, ?_, ?_, ?_, ?_, ?_, ?_, ?_, ?_, ?_, ?_, ?_, ?_, ?_, ?_, ?_, ?_, ?_, ?_, ?_, ?_, ?_, ?_, ?_, ?_, ?_, ?_, trivial⟩ ?_
  · intro ρ W1 hb1 H
    exact gives_field rfl (H.old 1 _ (by kernel_rfl) rfl) (fun W => fstat_at0 W w.heap.size) ⟨rfl, Below.refl _ _⟩
  · intro ρ W1 hb1 H
    exact gives_load rfl (H.new 6 0 (by kernel_rfl)) Tryd.underlying3 rfl ((HRB.out.below hb1 HRB.out.lt).cell 0) ⟨rfl, Below.refl _ _⟩
  · intro ρ W1 hb1 H
    exact gives_conv rfl (H.new 7 1 (by kernel_rfl)) (by kernel_rfl) Tryd.underlying47 (by rw [IntKind.wrap_u64]; unfold u64n; omega) ⟨rfl, Below.refl _ _⟩
  · intro ρ W1 hb1 H
    have e1 : ρ (.tmp 8) = .int .u64 ((u64n gc : Nat) : Int) := H.new 8 2 (by kernel_rfl)
    refine gives_call rfl (fun _ _ => by kernel_rfl) (H.func _) (args := #[.int .i64 1, .int .u64 ((u64n gc : Nat) : Int)]) (by simp [H.const, e1]) ?_
    exact (rnum_any 1 ((u64n gc : Nat) : Int) W1).mono fun e w' ⟨h1, h2⟩ => ⟨_, h1, rfl, h2⟩
  · intro ρ W1 hb1 H
    exact gives_field rfl (H.old 1 _ (by kernel_rfl) rfl) (fun W => fstat_at1 W w.heap.size) ⟨rfl, Below.refl _ _⟩
  · intro ρ W1 hb1 H
    exact gives_load rfl (H.new 10 4 (by kernel_rfl)) Tryd.underlying4 rfl ((HRB.out.below hb1 HRB.out.lt).cell 1) ⟨rfl, Below.refl _ _⟩
  · intro ρ W1 hb1 H
    have e0 : ρ (.tmp 11) = .bool gh := H.new 11 5 (by kernel_rfl)
    refine gives_call rfl (fun _ _ => by kernel_rfl) (H.func _) (args := #[.bool gh]) (by simp [e0]) ?_
    exact (rbit_any gh W1).mono fun e w' ⟨h1, h2⟩ => ⟨_, h1, rfl, h2 ▸ Below.refl _ _⟩
  · intro ρ W1 hb1 H
    have e1 : ρ (.tmp 12) = .int .u64 ((fbit gh : Nat) : Int) := H.new 12 6 (by kernel_rfl)
    refine gives_call rfl (fun _ _ => by kernel_rfl) (H.func _) (args := #[.int .i64 2, .int .u64 ((fbit gh : Nat) : Int)]) (by simp [H.const, e1]) ?_
    exact (rnum_any 2 ((fbit gh : Nat) : Int) W1).mono fun e w' ⟨h1, h2⟩ => ⟨_, h1, rfl, h2⟩
  · intro ρ W1 hb1 H
    exact gives_field rfl (H.old 1 _ (by kernel_rfl) rfl) (fun W => fstat_at2 W w.heap.size) ⟨rfl, Below.refl _ _⟩
  · intro ρ W1 hb1 H
    exact gives_load_wide (cs := kcells ⟨gmb, gmn, gms⟩) rfl (H.new 14 8 (by kernel_rfl)) Tryd.underlying32 rfl fcv_size (frow_at (HRB.out.below hb1 HRB.out.lt) 2 (by intro q hq; rcases (by omega : q = 0 ∨ q = 1 ∨ q = 2) with rfl | rfl | rfl <;> rfl)) ⟨rfl, Below.refl _ _⟩
  · intro ρ W1 hb1 H
    have e0 : ρ (.tmp 15) = cv ⟨gmb, gmn, gms⟩ := H.new 15 9 (by kernel_rfl)
    refine gives_call rfl (fun _ _ => by kernel_rfl) (H.func _) (args := #[cv ⟨gmb, gmn, gms⟩]) (by simp [e0]) ?_
    exact (rputV_any ⟨gmb, gmn, gms⟩ W1 him hsm_).mono fun e w' ⟨v, h1, h2, h3⟩ => ⟨v, h1, h2, h3⟩
  · intro ρ W1 hb1 H
    have e0 : IsB (fputV ⟨gmb, gmn, gms⟩) (ρ (.tmp 16)) W1 := (H.new 16 10 (by kernel_rfl))
    obtain ⟨A, n, c, e1⟩ := IsV.shape (f := bv) e0
    rw [e1] at e0
    refine gives_of (v := .agg #[.int .i64 3, .bool true, .int .u64 0, .slice A n c]) (w' := W1) ?_ ⟨⟨_, rfl, e0⟩, Below.refl _ _⟩
    simp [execOp, e1, H.const, rbuild_byt]
  · intro ρ W1 hb1 H
    exact gives_field rfl (H.old 1 _ (by kernel_rfl) rfl) (fun W => fstat_at3 W w.heap.size) ⟨rfl, Below.refl _ _⟩
  · intro ρ W1 hb1 H
    exact gives_load_wide (cs := kcells ⟨gxb, gxn, gxs⟩) rfl (H.new 18 12 (by kernel_rfl)) Tryd.underlying32 rfl fcv_size (frow_at (HRB.out.below hb1 HRB.out.lt) 5 (by intro q hq; rcases (by omega : q = 0 ∨ q = 1 ∨ q = 2) with rfl | rfl | rfl <;> rfl)) ⟨rfl, Below.refl _ _⟩
  · intro ρ W1 hb1 H
    have e0 : ρ (.tmp 19) = cv ⟨gxb, gxn, gxs⟩ := H.new 19 13 (by kernel_rfl)
    refine gives_call rfl (fun _ _ => by kernel_rfl) (H.func _) (args := #[cv ⟨gxb, gxn, gxs⟩]) (by simp [e0]) ?_
    exact (rputV_any ⟨gxb, gxn, gxs⟩ W1 hix hsx).mono fun e w' ⟨v, h1, h2, h3⟩ => ⟨v, h1, h2, h3⟩
  · intro ρ W1 hb1 H
    have e0 : IsB (fputV ⟨gxb, gxn, gxs⟩) (ρ (.tmp 20)) W1 := (H.new 20 14 (by kernel_rfl))
    obtain ⟨A, n, c, e1⟩ := IsV.shape (f := bv) e0
    rw [e1] at e0
    refine gives_of (v := .agg #[.int .i64 4, .bool true, .int .u64 0, .slice A n c]) (w' := W1) ?_ ⟨⟨_, rfl, e0⟩, Below.refl _ _⟩
    simp [execOp, e1, H.const, rbuild_byt]
  · intro ρ W1 hb1 H
    exact gives_field rfl (H.old 1 _ (by kernel_rfl) rfl) (fun W => fstat_at4 W w.heap.size) ⟨rfl, Below.refl _ _⟩
  · intro ρ W1 hb1 H
    exact gives_load rfl (H.new 22 16 (by kernel_rfl)) Tryd.underlying3 rfl ((HRB.out.below hb1 HRB.out.lt).cell 8) ⟨rfl, Below.refl _ _⟩
  · intro ρ W1 hb1 H
    have e0 : ρ (.tmp 23) = .int .i64 gsm := H.new 23 17 (by kernel_rfl)
    refine gives_call rfl (fun _ _ => by kernel_rfl) (H.func _) (args := #[.int .i64 gsm]) (by simp [e0]) ?_
    exact (rzig_any gsm W1 hg0 hg1).mono fun e w' ⟨h1, h2⟩ => ⟨_, h1, rfl, h2 ▸ Below.refl _ _⟩
  · intro ρ W1 hb1 H
    have e1 : ρ (.tmp 24) = .int .u64 (vzig gsm) := H.new 24 18 (by kernel_rfl)
    refine gives_call rfl (fun _ _ => by kernel_rfl) (H.func _) (args := #[.int .i64 5, .int .u64 (vzig gsm)]) (by simp [H.const, e1]) ?_
    exact (rnum_any 5 (vzig gsm) W1).mono fun e w' ⟨h1, h2⟩ => ⟨_, h1, rfl, h2⟩
  · intro ρ W1 hb1 H
    exact gives_field rfl (H.old 1 _ (by kernel_rfl) rfl) (fun W => fstat_at5 W w.heap.size) ⟨rfl, Below.refl _ _⟩
  · intro ρ W1 hb1 H
    exact gives_load rfl (H.new 26 20 (by kernel_rfl)) Tryd.underlying4 rfl ((HRB.out.below hb1 HRB.out.lt).cell 9) ⟨rfl, Below.refl _ _⟩
  · intro ρ W1 hb1 H
    have e0 : ρ (.tmp 27) = .bool go := H.new 27 21 (by kernel_rfl)
    refine gives_call rfl (fun _ _ => by kernel_rfl) (H.func _) (args := #[.bool go]) (by simp [e0]) ?_
    exact (rbit_any go W1).mono fun e w' ⟨h1, h2⟩ => ⟨_, h1, rfl, h2 ▸ Below.refl _ _⟩
  · intro ρ W1 hb1 H
    have e1 : ρ (.tmp 28) = .int .u64 ((fbit go : Nat) : Int) := H.new 28 22 (by kernel_rfl)
    refine gives_call rfl (fun _ _ => by kernel_rfl) (H.func _) (args := #[.int .i64 6, .int .u64 ((fbit go : Nat) : Int)]) (by simp [H.const, e1]) ?_
    exact (rnum_any 6 ((fbit go : Nat) : Int) W1).mono fun e w' ⟨h1, h2⟩ => ⟨_, h1, rfl, h2⟩
  · intro ρ W1 hb1 H
    have e1 : ρ (.tmp 9) = .agg #[.int .i64 1, .bool false, .int .u64 ((u64n gc : Nat) : Int), .slice none 0 0] := (H.new 9 3 (by kernel_rfl))
    have e2 : ρ (.tmp 13) = .agg #[.int .i64 2, .bool false, .int .u64 ((fbit gh : Nat) : Int), .slice none 0 0] := (H.new 13 7 (by kernel_rfl))
    obtain ⟨lv, e3, h3⟩ : ∃ lv, ρ (.tmp 17) = .agg #[.int .i64 3, .bool true, .int .u64 0, lv] ∧ IsB (fputV ⟨gmb, gmn, gms⟩) lv W1 := (H.new 17 11 (by kernel_rfl))
    obtain ⟨lv2, e4, h4⟩ : ∃ lv, ρ (.tmp 21) = .agg #[.int .i64 4, .bool true, .int .u64 0, lv] ∧ IsB (fputV ⟨gxb, gxn, gxs⟩) lv W1 := (H.new 21 15 (by kernel_rfl))
    have e5 : ρ (.tmp 25) = .agg #[.int .i64 5, .bool false, .int .u64 (vzig gsm), .slice none 0 0] := (H.new 25 19 (by kernel_rfl))
    have e6 : ρ (.tmp 29) = .agg #[.int .i64 6, .bool false, .int .u64 ((fbit go : Nat) : Int), .slice none 0 0] := (H.new 29 23 (by kernel_rfl))
    obtain ⟨A, n, c, rfl⟩ := IsV.shape (f := bv) h3
    obtain ⟨A2, n2, c2, rfl⟩ := IsV.shape (f := bv) h4
    refine gives_of (v := .slice (some ⟨W1.heap.size, 0, none⟩) 6 6) (w' := W1.alloc (.cells #[.int .i64 1, .bool false, .int .u64 ((u64n gc : Nat) : Int), .slice none 0 0, .int .i64 2, .bool false, .int .u64 ((fbit gh : Nat) : Int), .slice none 0 0, .int .i64 3, .bool true, .int .u64 0, .slice A n c, .int .i64 4, .bool true, .int .u64 0, .slice A2 n2 c2, .int .i64 5, .bool false, .int .u64 (vzig gsm), .slice none 0 0, .int .i64 6, .bool false, .int .u64 ((fbit go : Nat) : Int), .slice none 0 0] 54)) ?_ ⟨⟨_, A, n, c, A2, n2, c2, rfl, heap_alloc_new W1 _, h3.below ((Below.refl _ _).alloc (Nat.le_refl _) _), h4.below ((Below.refl _ _).alloc (Nat.le_refl _) _)⟩, (Below.refl _ _).alloc (Nat.le_refl _) _⟩
    simp [execOp, e1, e2, e3, e4, e5, e6, rlit_six]
  · intro ρ W1 hb1 H
    obtain ⟨g, A, n, c, A2, n2, c2, e1, hr, hI, hI2⟩ : ∃ g A n c A2 n2 c2, ρ (.tmp 30) = .slice (some ⟨g, 0, none⟩) 6 6 ∧ Row W1 g 54 [.int .i64 1, .bool false, .int .u64 ((u64n gc : Nat) : Int), .slice none 0 0, .int .i64 2, .bool false, .int .u64 ((fbit gh : Nat) : Int), .slice none 0 0, .int .i64 3, .bool true, .int .u64 0, .slice A n c, .int .i64 4, .bool true, .int .u64 0, .slice A2 n2 c2, .int .i64 5, .bool false, .int .u64 (vzig gsm), .slice none 0 0, .int .i64 6, .bool false, .int .u64 ((fbit go : Nat) : Int), .slice none 0 0] ∧ IsB (fputV ⟨gmb, gmn, gms⟩) (.slice A n c) W1 ∧ IsB (fputV ⟨gxb, gxn, gxs⟩) (.slice A2 n2 c2) W1 := (H.new 30 24 (by kernel_rfl))
    have hrow : Row W1 g 54 ((rfstat6 ⟨gc, gh, ⟨gmb, gmn, gms⟩, ⟨gxb, gxn, gxs⟩, gsm, go⟩ (.slice A n c) (.slice A2 n2 c2)).flatMap fcells) := by
      show Row W1 _ _ [.int .i64 1, .bool false, .int .u64 ((u64n gc : Nat) : Int), .slice none 0 0, .int .i64 2, .bool false, .int .u64 ((fbit gh : Nat) : Int), .slice none 0 0, .int .i64 3, .bool true, .int .u64 ((0 : Nat) : Int), .slice A n c, .int .i64 4, .bool true, .int .u64 ((0 : Nat) : Int), .slice A2 n2 c2, .int .i64 5, .bool false, .int .u64 (((vzig gsm).toNat : Nat) : Int), .slice none 0 0, .int .i64 6, .bool false, .int .u64 ((fbit go : Nat) : Int), .slice none 0 0]
      rw [Int.toNat_of_nonneg HZ.out.1]
      exact hr
    have hp := rfput_any (rfstat6 ⟨gc, gh, ⟨gmb, gmn, gms⟩, ⟨gxb, gxn, gxs⟩, gsm, go⟩ (.slice A n c) (.slice A2 n2 c2)) (.slice (some ⟨g, 0, none⟩) 6 6) W1 ⟨isR_row hrow rfl (by omega), rfstat6_at HZ.out.2 HLM.out HLX.out hI hI2⟩ (by simp [rfstat6])
    rw [rfstat6_put] at hp
    refine gives_call rfl (fun _ _ => by kernel_rfl) (H.func _) (args := #[.slice (some ⟨g, 0, none⟩) 6 6]) (by simp [e1]) ?_
    exact hp.mono fun e w' ⟨v, h1, h2, h3⟩ => ⟨_, h1, ⟨v, rfl, h2⟩, h3⟩
  · intro ρ W1 hb1 H
    exact gives_move rfl rfl ⟨H.new 31 25 (by kernel_rfl), Below.refl _ _⟩
  · intro ρ W1 hb1 H
    obtain ⟨x, e0, h0⟩ : ∃ x, ρ (.tmp 5) = .tuple #[x, .int .i64 0] ∧ IsB (fputG ⟨gc, gh, ⟨gmb, gmn, gms⟩, ⟨gxb, gxn, gxs⟩, gsm, go⟩) x W1 := (H.new 5 26 (by kernel_rfl))
    exact gives_extract rfl e0 rfl ⟨h0, Below.refl _ _⟩
  · intro ρ W1 hb1 H
    obtain ⟨x, e0, h0⟩ : ∃ x, ρ (.tmp 5) = .tuple #[x, .int .i64 0] ∧ IsB (fputG ⟨gc, gh, ⟨gmb, gmn, gms⟩, ⟨gxb, gxn, gxs⟩, gsm, go⟩) x W1 := (H.new 5 26 (by kernel_rfl))
    exact gives_extract rfl e0 rfl ⟨rfl, Below.refl _ _⟩
  · intro ρ W1 hb1 H
    exact gives_assign rfl rfl ⟨H.new 32 27 (by kernel_rfl), Below.refl _ _⟩
  · intro ρ W1 hb1 H
    exact gives_assign rfl (H.new 33 28 (by kernel_rfl)) ⟨rfl, Below.refl _ _⟩
  · intro vs W1 hb1 hfs
    have f29 : IsB (fputG ⟨gc, gh, ⟨gmb, gmn, gms⟩, ⟨gxb, gxn, gxs⟩, gsm, go⟩) (vs 29) W1 := hfs 29 (by decide)
    have f30 : vs 30 = .int .i64 0 := hfs 30 (by decide)
    clear hfs
    simp only [putAll, Nat.zero_add, Nat.reduceAdd]
    generalize vs 0 = z0
    generalize vs 1 = z1
    generalize vs 2 = z2
    generalize vs 3 = z3
    generalize vs 4 = z4
    generalize vs 5 = z5
    generalize vs 6 = z6
    generalize vs 7 = z7
    generalize vs 8 = z8
    generalize vs 9 = z9
    generalize vs 10 = z10
    generalize vs 11 = z11
    generalize vs 12 = z12
    generalize vs 13 = z13
    generalize vs 14 = z14
    generalize vs 15 = z15
    generalize vs 16 = z16
    generalize vs 17 = z17
    generalize vs 18 = z18
    generalize vs 19 = z19
    generalize vs 20 = z20
    generalize vs 21 = z21
    generalize vs 22 = z22
    generalize vs 23 = z23
    generalize vs 24 = z24
    generalize vs 25 = z25
    generalize vs 26 = z26
    generalize vs 27 = z27
    generalize vs 28 = z28
    generalize vs 29 = z29 at f29 ⊢
    simp only [f30, Act.put, List.setIfInBounds_toArray, List.set_cons_succ, List.set_cons_zero]
    clear f30
    have HI := Lib.hid f29
    have HB1 := Lib.hid (below_then ((Below.refl _ _).alloc (Nat.le_refl _) _) hb1)
    clear f29 hb1
    go_wp2
    go_ret
    exact ⟨_, rfl, HI.out, HB1.out⟩
end Go.Proofs.YtocodcceimeiiaaDoor

/- wire's own contracts: PutStats. Written by gen_fstat.py. -/



namespace Go.Proofs.YtocodcceimeiiaaDoor

open Go.RowKit Go.ChangeShapes Go.WideShapes Go.ChangeAt

def fstat6 (s : GS) (lv lv2 : Value) : List FN := [⟨0, false, u64n s.count, [], .slice none 0 0⟩, ⟨0, false, fbit s.has, [], .slice none 0 0⟩, ⟨0, true, 0, fputV s.min, lv⟩, ⟨0, true, 0, fputV s.max, lv2⟩, ⟨0, false, (vzig s.sum).toNat, [], .slice none 0 0⟩, ⟨0, false, fbit s.over, [], .slice none 0 0⟩]
theorem fstat6_at {s : GS} {lv lv2 : Value} {w : World} (hz : vzig s.sum < 18446744073709551616) (h1 : (fputV s.min).length ≤ 4000) (h2 : (fputV s.max).length ≤ 4000) (hl : IsB (fputV s.min) lv w) (hl2 : IsB (fputV s.max) lv2 w) : ∀ f ∈ fstat6 s lv lv2, FAt f w := by
  intro f hf
  simp only [fstat6, List.mem_cons, List.not_mem_nil, or_false] at hf
  rcases hf with rfl | rfl | rfl | rfl | rfl | rfl
  · exact ⟨isB_nil w, by unfold inInt; dsimp only; omega, u64n_lt _, by simp⟩
  · exact ⟨isB_nil w, by unfold inInt; dsimp only; omega, fbit_lt _, by simp⟩
  · exact ⟨hl, by unfold inInt; dsimp only; omega, by dsimp only; omega, h1⟩
  · exact ⟨hl2, by unfold inInt; dsimp only; omega, by dsimp only; omega, h2⟩
  · exact ⟨isB_nil w, by unfold inInt; dsimp only; omega, by dsimp only; omega, by simp⟩
  · exact ⟨isB_nil w, by unfold inInt; dsimp only; omega, fbit_lt _, by simp⟩
theorem fstat6_put {s : GS} {lv lv2 : Value} : fbs (ftagd 6 (fstat6 s lv lv2)) = fputG s := by
  simp [fbs, ftagd, fstat6, fputG, fstats, FN.wf, fnum, fbyt]
set_option maxHeartbeats 8000000 in
set_option maxRecDepth 100000 in
theorem fputG_own (s : GS) (w : World) (hi : s.inInt) (hs1 : s.min.s.size ≤ 3000) (hs2 : s.max.s.size ≤ 3000) : Calls Tryd.prog 14 #[gsv s] w (RetOwn w (fputG s)) := by
  obtain ⟨gc, gh, ⟨gmb, gmn, gms⟩, ⟨gxb, gxn, gxs⟩, gsm, go⟩ := s
  obtain ⟨_, _, him, hix, hg0, hg1⟩ := hi
  dsimp only at him hix hg0 hg1 hs1 hs2
  have hsm_ : (CV.mk gmb gmn gms).s.size ≤ 3000 := hs1
  have hsx : (CV.mk gxb gxn gxs).s.size ≤ 3000 := hs2
  unfold gsv gcells
  dsimp only
  have HZ := Lib.hid (vzig_bd hg0 hg1)
  have HLM := Lib.hid (show (fputV ⟨gmb, gmn, gms⟩).length ≤ 4000 by have := fputV_len him (by omega); dsimp only at this; omega)
  have HLX := Lib.hid (show (fputV ⟨gxb, gxn, gxs⟩).length ≤ 4000 by have := fputV_len hix (by omega); dsimp only at this; omega)
  have HRB := Lib.hid (show Row (w.alloc (.cells #[.int .i64 gc, .bool gh, .bool gmb, .int .i64 gmn, .string gms, .bool gxb, .int .i64 gxn, .string gxs, .int .i64 gsm, .bool go] 36)) w.heap.size 36 [.int .i64 gc, .bool gh, .bool gmb, .int .i64 gmn, .string gms, .bool gxb, .int .i64 gxn, .string gxs, .int .i64 gsm, .bool go] from heap_alloc_new w _)
  go_enter Tryd.func14, Tryd.ntmps14
  go_wp2_with fail
  refine wp_region_list_tail 22 [.is (.pointer (some ⟨w.heap.size, 0, none⟩)), .is (.int .i64 gc), .is (.int .u64 ((u64n gc : Nat) : Int)), .is (.agg #[.int .i64 0, .bool false, .int .u64 ((u64n gc : Nat) : Int), .slice none 0 0]), .is (.pointer (some ⟨w.heap.size, 1, none⟩)), .is (.bool gh), .is (.agg #[.int .i64 0, .bool false, .int .u64 ((fbit gh : Nat) : Int), .slice none 0 0]), .is (.pointer (some ⟨w.heap.size, 2, none⟩)), .is (cv ⟨gmb, gmn, gms⟩), .bytes (fputV ⟨gmb, gmn, gms⟩), Fact.bulkT 0 (fputV ⟨gmb, gmn, gms⟩), .is (.pointer (some ⟨w.heap.size, 5, none⟩)), .is (cv ⟨gxb, gxn, gxs⟩), .bytes (fputV ⟨gxb, gxn, gxs⟩), Fact.bulkT 0 (fputV ⟨gxb, gxn, gxs⟩), .is (.pointer (some ⟨w.heap.size, 8, none⟩)), .is (.int .i64 gsm), .is (.int .u64 (vzig gsm)), .is (.agg #[.int .i64 0, .bool false, .int .u64 (vzig gsm), .slice none 0 0]), .is (.pointer (some ⟨w.heap.size, 9, none⟩)), .is (.bool go), .is (.agg #[.int .i64 0, .bool false, .int .u64 ((fbit go : Nat) : Int), .slice none 0 0])] [some 3, some 4, some 5, some 6, some 7, some 8, some 9, some 10, some 11, some 12, some 13, some 14, some 15, some 16, some 17, some 18, some 19, some 20, some 21, some 22, some 23, some 24] (by kernel_rfl) (by kernel_rfl) (by kernel_rfl) (by kernel_rfl) rfl ⟨?_, ?_, ?_, ?_, ?_, ?_, ?_, ?_, ?_, ?_, ?_, ?_, ?_, ?_, ?_, ?_, ?_, ?_, ?_, ?_, ?_, ?_, trivial⟩ ?_
  · intro ρ W1 hb1 H
    exact gives_field rfl (H.old 1 _ (by kernel_rfl) rfl) (fun W => fstat_at0 W w.heap.size) ⟨rfl, Below.refl _ _⟩
  · intro ρ W1 hb1 H
    exact gives_load rfl (H.new 3 0 (by kernel_rfl)) Tryd.underlying3 rfl ((HRB.out.below hb1 HRB.out.lt).cell 0) ⟨rfl, Below.refl _ _⟩
  · intro ρ W1 hb1 H
    exact gives_conv rfl (H.new 4 1 (by kernel_rfl)) (by kernel_rfl) Tryd.underlying47 (by rw [IntKind.wrap_u64]; unfold u64n; omega) ⟨rfl, Below.refl _ _⟩
  · intro ρ W1 hb1 H
    have e0 : ρ (.tmp 5) = .int .u64 ((u64n gc : Nat) : Int) := H.new 5 2 (by kernel_rfl)
    refine gives_call rfl (fun _ _ => by kernel_rfl) (H.func _) (args := #[.int .u64 ((u64n gc : Nat) : Int)]) (by simp [e0]) ?_
    exact (fnumber_any ((u64n gc : Nat) : Int) W1).mono fun e w' ⟨h1, h2⟩ => ⟨_, h1, rfl, h2⟩
  · intro ρ W1 hb1 H
    exact gives_field rfl (H.old 1 _ (by kernel_rfl) rfl) (fun W => fstat_at1 W w.heap.size) ⟨rfl, Below.refl _ _⟩
  · intro ρ W1 hb1 H
    exact gives_load rfl (H.new 7 4 (by kernel_rfl)) Tryd.underlying4 rfl ((HRB.out.below hb1 HRB.out.lt).cell 1) ⟨rfl, Below.refl _ _⟩
  · intro ρ W1 hb1 H
    have e0 : ρ (.tmp 8) = .bool gh := H.new 8 5 (by kernel_rfl)
    refine gives_call rfl (fun _ _ => by kernel_rfl) (H.func _) (args := #[.bool gh]) (by simp [e0]) ?_
    exact (ftruth_any gh W1).mono fun e w' ⟨h1, h2⟩ => ⟨_, h1, rfl, h2⟩
  · intro ρ W1 hb1 H
    exact gives_field rfl (H.old 1 _ (by kernel_rfl) rfl) (fun W => fstat_at2 W w.heap.size) ⟨rfl, Below.refl _ _⟩
  · intro ρ W1 hb1 H
    exact gives_load_wide (cs := kcells ⟨gmb, gmn, gms⟩) rfl (H.new 10 7 (by kernel_rfl)) Tryd.underlying32 rfl fcv_size (frow_at (HRB.out.below hb1 HRB.out.lt) 2 (by intro q hq; rcases (by omega : q = 0 ∨ q = 1 ∨ q = 2) with rfl | rfl | rfl <;> rfl)) ⟨rfl, Below.refl _ _⟩
  · intro ρ W1 hb1 H
    have e0 : ρ (.tmp 11) = cv ⟨gmb, gmn, gms⟩ := H.new 11 8 (by kernel_rfl)
    refine gives_call rfl (fun _ _ => by kernel_rfl) (H.func _) (args := #[cv ⟨gmb, gmn, gms⟩]) (by simp [e0]) ?_
    exact (fputV_own ⟨gmb, gmn, gms⟩ W1 him (Nat.le_trans hsm_ (by omega))).mono fun e w' ⟨v, h1, h2, h3⟩ => ⟨v, h1, isB_own h2, h3⟩
  · intro ρ W1 hb1 H
    have e0 : IsB (fputV ⟨gmb, gmn, gms⟩) (ρ (.tmp 12)) W1 := (H.new 12 9 (by kernel_rfl))
    obtain ⟨A, n, c, e1⟩ := IsV.shape (f := bv) e0
    rw [e1] at e0
    refine gives_call rfl (fun _ _ => by kernel_rfl) (H.func _) (args := #[.slice A n c]) (by simp [e1]) ?_
    exact (fbulk_any A n c W1).mono fun e w' ⟨h1, h2⟩ => ⟨_, h1, ⟨_, rfl, e0.below h2⟩, h2⟩
  · intro ρ W1 hb1 H
    exact gives_field rfl (H.old 1 _ (by kernel_rfl) rfl) (fun W => fstat_at3 W w.heap.size) ⟨rfl, Below.refl _ _⟩
  · intro ρ W1 hb1 H
    exact gives_load_wide (cs := kcells ⟨gxb, gxn, gxs⟩) rfl (H.new 14 11 (by kernel_rfl)) Tryd.underlying32 rfl fcv_size (frow_at (HRB.out.below hb1 HRB.out.lt) 5 (by intro q hq; rcases (by omega : q = 0 ∨ q = 1 ∨ q = 2) with rfl | rfl | rfl <;> rfl)) ⟨rfl, Below.refl _ _⟩
  · intro ρ W1 hb1 H
    have e0 : ρ (.tmp 15) = cv ⟨gxb, gxn, gxs⟩ := H.new 15 12 (by kernel_rfl)
    refine gives_call rfl (fun _ _ => by kernel_rfl) (H.func _) (args := #[cv ⟨gxb, gxn, gxs⟩]) (by simp [e0]) ?_
    exact (fputV_own ⟨gxb, gxn, gxs⟩ W1 hix (Nat.le_trans hsx (by omega))).mono fun e w' ⟨v, h1, h2, h3⟩ => ⟨v, h1, isB_own h2, h3⟩
  · intro ρ W1 hb1 H
    have e0 : IsB (fputV ⟨gxb, gxn, gxs⟩) (ρ (.tmp 16)) W1 := (H.new 16 13 (by kernel_rfl))
    obtain ⟨A, n, c, e1⟩ := IsV.shape (f := bv) e0
    rw [e1] at e0
    refine gives_call rfl (fun _ _ => by kernel_rfl) (H.func _) (args := #[.slice A n c]) (by simp [e1]) ?_
    exact (fbulk_any A n c W1).mono fun e w' ⟨h1, h2⟩ => ⟨_, h1, ⟨_, rfl, e0.below h2⟩, h2⟩
  · intro ρ W1 hb1 H
    exact gives_field rfl (H.old 1 _ (by kernel_rfl) rfl) (fun W => fstat_at4 W w.heap.size) ⟨rfl, Below.refl _ _⟩
  · intro ρ W1 hb1 H
    exact gives_load rfl (H.new 18 15 (by kernel_rfl)) Tryd.underlying3 rfl ((HRB.out.below hb1 HRB.out.lt).cell 8) ⟨rfl, Below.refl _ _⟩
  · intro ρ W1 hb1 H
    have e0 : ρ (.tmp 19) = .int .i64 gsm := H.new 19 16 (by kernel_rfl)
    refine gives_call rfl (fun _ _ => by kernel_rfl) (H.func _) (args := #[.int .i64 gsm]) (by simp [e0]) ?_
    exact (zig_any gsm W1 hg0 hg1).mono fun e w' ⟨h1, h2⟩ => ⟨_, h1, rfl, h2 ▸ Below.refl _ _⟩
  · intro ρ W1 hb1 H
    have e0 : ρ (.tmp 20) = .int .u64 (vzig gsm) := H.new 20 17 (by kernel_rfl)
    refine gives_call rfl (fun _ _ => by kernel_rfl) (H.func _) (args := #[.int .u64 (vzig gsm)]) (by simp [e0]) ?_
    exact (fnumber_any (vzig gsm) W1).mono fun e w' ⟨h1, h2⟩ => ⟨_, h1, rfl, h2⟩
  · intro ρ W1 hb1 H
    exact gives_field rfl (H.old 1 _ (by kernel_rfl) rfl) (fun W => fstat_at5 W w.heap.size) ⟨rfl, Below.refl _ _⟩
  · intro ρ W1 hb1 H
    exact gives_load rfl (H.new 22 19 (by kernel_rfl)) Tryd.underlying4 rfl ((HRB.out.below hb1 HRB.out.lt).cell 9) ⟨rfl, Below.refl _ _⟩
  · intro ρ W1 hb1 H
    have e0 : ρ (.tmp 23) = .bool go := H.new 23 20 (by kernel_rfl)
    refine gives_call rfl (fun _ _ => by kernel_rfl) (H.func _) (args := #[.bool go]) (by simp [e0]) ?_
    exact (ftruth_any go W1).mono fun e w' ⟨h1, h2⟩ => ⟨_, h1, rfl, h2⟩
  · intro vs W1 hb1 hfs
    have f3 : vs 3 = .agg #[.int .i64 0, .bool false, .int .u64 ((u64n gc : Nat) : Int), .slice none 0 0] := hfs 3 (by decide)
    have f6 : vs 6 = .agg #[.int .i64 0, .bool false, .int .u64 ((fbit gh : Nat) : Int), .slice none 0 0] := hfs 6 (by decide)
    have f10 : ∃ lv, vs 10 = .agg #[.int .i64 0, .bool true, .int .u64 0, lv] ∧ IsB (fputV ⟨gmb, gmn, gms⟩) lv W1 := hfs 10 (by decide)
    have f14 : ∃ lv, vs 14 = .agg #[.int .i64 0, .bool true, .int .u64 0, lv] ∧ IsB (fputV ⟨gxb, gxn, gxs⟩) lv W1 := hfs 14 (by decide)
    have f18 : vs 18 = .agg #[.int .i64 0, .bool false, .int .u64 (vzig gsm), .slice none 0 0] := hfs 18 (by decide)
    have f21 : vs 21 = .agg #[.int .i64 0, .bool false, .int .u64 ((fbit go : Nat) : Int), .slice none 0 0] := hfs 21 (by decide)
    clear hfs
    simp only [putAll, Nat.zero_add, Nat.reduceAdd, List.drop_succ_cons, List.drop_zero]
    generalize vs 0 = z0
    generalize vs 1 = z1
    generalize vs 2 = z2
    generalize vs 4 = z4
    generalize vs 5 = z5
    generalize vs 7 = z7
    generalize vs 8 = z8
    generalize vs 9 = z9
    generalize vs 10 = z10 at f10 ⊢
    generalize vs 11 = z11
    generalize vs 12 = z12
    generalize vs 13 = z13
    generalize vs 14 = z14 at f14 ⊢
    generalize vs 15 = z15
    generalize vs 16 = z16
    generalize vs 17 = z17
    generalize vs 19 = z19
    generalize vs 20 = z20
    simp only [f3, f6, f18, f21, Act.put, List.setIfInBounds_toArray, List.set_cons_succ, List.set_cons_zero]
    clear f3 f6 f18 f21
    obtain ⟨lv, rfl, hlv⟩ := f10
    obtain ⟨lv2, rfl, hlv2⟩ := f14
    obtain ⟨A, n, c, rfl⟩ := IsV.shape (f := bv) hlv
    obtain ⟨A2, n2, c2, rfl⟩ := IsV.shape (f := bv) hlv2
    have HLV := Lib.hid hlv
    have HLV2 := Lib.hid hlv2
    have HB1 := Lib.hid (below_then ((Below.refl _ _).alloc (Nat.le_refl _) _) hb1)
    clear hlv hlv2 hb1
    go_wp2_with fail
    obtain ⟨W2, hW2⟩ : ∃ x, x = W1.alloc (.cells #[.int .i64 0, .bool false, .int .u64 ((u64n gc : Nat) : Int), .slice none 0 0, .int .i64 0, .bool false, .int .u64 ((fbit gh : Nat) : Int), .slice none 0 0, .int .i64 0, .bool true, .int .u64 0, .slice A n c, .int .i64 0, .bool true, .int .u64 0, .slice A2 n2 c2, .int .i64 0, .bool false, .int .u64 (vzig gsm), .slice none 0 0, .int .i64 0, .bool false, .int .u64 ((fbit go : Nat) : Int), .slice none 0 0] 49) := ⟨_, rfl⟩
    have hbW : Below W1.heap.size W1 W2 := by rw [hW2]; exact (Below.refl _ _).alloc (Nat.le_refl _) _
    have hrow : Row W2 W1.heap.size 49 ((fstat6 ⟨gc, gh, ⟨gmb, gmn, gms⟩, ⟨gxb, gxn, gxs⟩, gsm, go⟩ (.slice A n c) (.slice A2 n2 c2)).flatMap fcells) := by
      show Row W2 _ _ [.int .i64 0, .bool false, .int .u64 ((u64n gc : Nat) : Int), .slice none 0 0, .int .i64 0, .bool false, .int .u64 ((fbit gh : Nat) : Int), .slice none 0 0, .int .i64 0, .bool true, .int .u64 ((0 : Nat) : Int), .slice A n c, .int .i64 0, .bool true, .int .u64 ((0 : Nat) : Int), .slice A2 n2 c2, .int .i64 0, .bool false, .int .u64 (((vzig gsm).toNat : Nat) : Int), .slice none 0 0, .int .i64 0, .bool false, .int .u64 ((fbit go : Nat) : Int), .slice none 0 0]
      rw [Int.toNat_of_nonneg HZ.out.1, hW2]
      exact heap_alloc_new W1 _
    have hat : ∀ f ∈ fstat6 ⟨gc, gh, ⟨gmb, gmn, gms⟩, ⟨gxb, gxn, gxs⟩, gsm, go⟩ (.slice A n c) (.slice A2 n2 c2), FAt f W2 := fstat6_at HZ.out.2 HLM.out HLX.out (HLV.out.below hbW) (HLV2.out.below hbW)
    rw [← hW2]
    clear hW2
    refine (finTurn_any _ _ 6 W2 hrow rfl (by omega) hat).mono ?_
    rintro e w3 ⟨v3, rfl, ho3, hg3⟩
    rw [fstat6_put] at ho3
    have HO := Lib.hid (ownW_base (Nat.le_trans HB1.out.size hbW.size) ho3)
    have HB3 := Lib.hid ((below_then HB1.out hbW).grown hg3 (Nat.le_trans HB1.out.size hbW.size) fun k hk => by injection hk with hk; rw [← hk]; exact HB1.out.size)
    clear ho3 hg3 hat hrow hbW
    go_wp2
    go_ret
    exact ⟨_, rfl, HO.out, HB3.out⟩
end Go.Proofs.YtocodcceimeiiaaDoor

/- The statements' own and same of layer 19; the contract of the reference's Same. Written by gen_fkit.py. -/



namespace Go.Proofs.YtocodcceimeiiaaDoor

open Go.RowKit Go.ChangeShapes Go.WideShapes Go.ChangeAt

theorem rfield_size : ∀ W, (sizeOf 54).run Tryd.prog W = .ok 4 W := Tryd.sizeOf54
theorem ofield_size : ∀ W, (sizeOf 49).run Tryd.prog W = .ok 4 W := Tryd.sizeOf49
theorem rfield_at2 (W : World) (a : Addr) : (Instr.fieldAt 54 (.pointer (some a)) 2).run Tryd.prog W = .ok (.pointer (some ⟨a.block, a.off + 2, none⟩)) W := by simp [Instr.fieldAt, run_underlying Tryd.underlying54, Instr.sureAddr, fieldPlace, Addr.add]
theorem rfield_at3 (W : World) (a : Addr) : (Instr.fieldAt 54 (.pointer (some a)) 3).run Tryd.prog W = .ok (.pointer (some ⟨a.block, a.off + 3, none⟩)) W := by simp [Instr.fieldAt, run_underlying Tryd.underlying54, Instr.sureAddr, fieldPlace, Addr.add]
theorem ofield_at0 (W : World) (a : Addr) : (Instr.fieldAt 49 (.pointer (some a)) 0).run Tryd.prog W = .ok (.pointer (some a)) W := by simp [Instr.fieldAt, run_underlying Tryd.underlying49, Instr.sureAddr, fieldPlace, Addr.add]
theorem ofield_at1 (W : World) (a : Addr) : (Instr.fieldAt 49 (.pointer (some a)) 1).run Tryd.prog W = .ok (.pointer (some ⟨a.block, a.off + 1, none⟩)) W := by simp [Instr.fieldAt, run_underlying Tryd.underlying49, Instr.sureAddr, fieldPlace, Addr.add]
theorem ofield_at2 (W : World) (a : Addr) : (Instr.fieldAt 49 (.pointer (some a)) 2).run Tryd.prog W = .ok (.pointer (some ⟨a.block, a.off + 2, none⟩)) W := by simp [Instr.fieldAt, run_underlying Tryd.underlying49, Instr.sureAddr, fieldPlace, Addr.add]
theorem ofield_at3 (W : World) (a : Addr) : (Instr.fieldAt 49 (.pointer (some a)) 3).run Tryd.prog W = .ok (.pointer (some ⟨a.block, a.off + 3, none⟩)) W := by simp [Instr.fieldAt, run_underlying Tryd.underlying49, Instr.sureAddr, fieldPlace, Addr.add]
theorem rbuild_all (t : Int) (b : Bool) (x : Int) (A : Option Addr) (n c : Nat) (W : World) : (Instr.build 54 #[(0, .int .i64 t), (1, .bool b), (2, .int .u64 x), (3, .slice A n c)]).run Tryd.prog W = .ok (.agg #[.int .i64 t, .bool b, .int .u64 x, .slice A n c]) W := by kernel_rfl
theorem rlit_one (a b c d : Value) (W : World) : (Instr.buildSlice 28 1 #[(0, .agg #[a, b, c, d])]).run Tryd.prog W = .ok (.slice (some ⟨W.heap.size, 0, none⟩) 1 1) (W.alloc (.cells #[a, b, c, d] 54)) := by kernel_rfl
/-- A slice literal of one struct; of nothing; bytes in a block of bytes; a field with such; a literal of it. -/
def Fact.lit (e : TypeId) (cs : List Value) : Fact := ⟨fun v W => ∃ g, v = .slice (some ⟨g, 0, none⟩) 1 1 ∧ Row W g e cs, fun _ _ _ ⟨g, h1, h2⟩ hb => ⟨g, h1, h2.below hb h2.lt⟩⟩
def Fact.none : Fact := ⟨fun v W => ∃ g, v = .slice (some ⟨g, 0, Option.none⟩) 0 0 ∧ Row W g 5 [], fun _ _ _ ⟨g, h1, h2⟩ hb => ⟨g, h1, h2.below hb h2.lt⟩⟩
def Fact.bt (l : List UInt8) : Fact := ⟨IsBT l, fun _ _ _ h hb => h.below hb⟩
def FSm (l : List FN) (w : World) (i : Value) (wr : World) : Prop := ∃ k : Nat, k ≤ l.length ∧ i = .int .i64 (k : Int) ∧ Below w.heap.size w wr
theorem isFields_own {T : TypeId} {w' : World} {fs : List FN} {v : Value} {base n : Nat} (ho : w'.ownsRow base T 4 v n (fs.flatMap fcells)) (hf : ∀ f ∈ fs, FAt f w') : IsFields fs v w' := ⟨isR_own (m := 4) (fun _ => rfl) (by omega) ho, hf⟩
def FSameRel (l : List FN) (w : World) (out i : Value) (wr : World) : Prop := ∃ k : Nat, k ≤ l.length ∧ i = .int .i64 (k : Int) ∧ wr.ownsRow w.heap.size 54 4 out k ((l.take k).flatMap fcells) ∧ Below w.heap.size w wr
theorem flat_next {l : List FN} {k : Nat} (h : k < l.length) : (l.take (k + 1)).flatMap fcells = (l.take k).flatMap fcells ++ fcells l[k] := by
  rw [List.take_succ_eq_append_getElem h, List.flatMap_append]
  simp
set_option maxHeartbeats 8000000 in
set_option maxRecDepth 100000 in
theorem fsameK_any (l m : List FN) (v u : Value) (w : World) (h : IsFields l v w) (hm : IsFields m u w) (hl : l.length ≤ 1000)
    (HSA : ∀ (k : Value) (W : World), IsFields l k W → IsFields m u W → Calls Tryd.prog 29 #[k, u] W fun e w' => e = .returned (.bool true) ∧ Below W.heap.size W w') :
    Calls Tryd.prog 12 #[v, u] w fun e w' => e = .returned (.bool true) ∧ Below w.heap.size w w' := by
  obtain ⟨A, n, c, rfl⟩ := h.1.shape
  obtain ⟨eb, heb, hE⟩ := elemFN
  have HEB := Lib.hid hE
  have HF := Lib.hid h
  have HM := Lib.hid hm
  have HS := Lib.hid HSA
  have HN := Lib.hid h.1.parts.1
  have hn2 : (n : Int) ≤ 1000 := by have := HN.out; omega
  have HST : Hid (FSameRel l w (.slice (some ⟨w.heap.size, 0, none⟩) 0 0) (.int .i64 0) (w.alloc (.cells #[] 54))) := Lib.hid ⟨0, Nat.zero_le _, rfl, by simpa using ownW_made w 54 4, (Below.refl _ _).alloc (Nat.le_refl _) _⟩
  clear h hm hE HSA
  go_enter Tryd.func12, Tryd.ntmps12
  go_wp2
  go_loopw [5, 6] (FSameRel l w) (fun _ i _ => n - (intOf i).toNat)
  case atStart => exact HST.out
  case round =>
    obtain ⟨k, hk, rfl, how, hbw⟩ := hrel
    clear HST
    by_cases hlt : k < n
    case neg =>
      have hlti : ¬ (k : Int) < (n : Int) := by omega
      obtain rfl : k = l.length := by have := HN.out; omega
      rw [List.take_length] at how
      have HIF := Lib.hid (show IsFields l u5 wr from isFields_own how fun f hf => (HF.out.2 f hf).below hbw)
      have HBW := Lib.hid hbw
      clear how hbw
      go_wp2_with fail
      refine (HS.out u5 wr HIF.out (HM.out.below HBW.out)).mono ?_
      rintro e w2 ⟨rfl, hb2⟩
      have HB2 := Lib.hid (below_then HBW.out hb2)
      clear hb2
      go_wp2
      go_ret
      exact ⟨rfl, HB2.out⟩
    have hlti : (k : Int) < (n : Int) := by omega
    have hkl : k < l.length := by have := HN.out; omega
    obtain ⟨ad, rfl, had, hcell⟩ := ((HF.out.below hbw).1).at (m := 4) (fun _ => rfl) (by omega) hkl
    have hat := HF.out.2 _ (List.getElem_mem hkl)
    have hsn := flat_next hkl
    have hk1 : k + 1 ≤ 1000000000 := by omega
    obtain ⟨x, hx⟩ : ∃ x, x = l[k] := ⟨_, rfl⟩
    rw [← hx] at hcell hat hsn
    obtain ⟨c0, c1, c2, c3⟩ := cells4 hcell
    obtain ⟨tag, bytes, nn, bs, lv⟩ := x
    obtain ⟨bA, bc, e, h5A, _, _, h5L⟩ := hat.byt
    dsimp only at c0 c1 c2 c3 e
    obtain ⟨bn, hbn⟩ : ∃ bn, bn = bs.length := ⟨_, rfl⟩
    rw [← hbn] at e
    subst e
    have HSN := Lib.hid hsn
    have HOW := Lib.hid how
    have HBW := Lib.hid hbw
    have HKL := Lib.hid hkl
    have HLT := Lib.hid (show (ad.add (k * 4)).block < wr.heap.size by rw [add_block]; exact had)
    clear hcell hat hsn how hbw hx hkl h5A h5L hbn hk had
    go_wp2_with fail
    refine wp_region_list_tail 23 [.is (u5), .is (.slice (some ad) n c), .is (.int .i64 (k : Int)), .is (.pointer (some (ad.add (k * 4)))), .is (.pointer (some (ad.add (k * 4)))), .is (.int .i64 tag), .is (.slice (some ad) n c), .is (.int .i64 (k : Int)), .is (.pointer (some (ad.add (k * 4)))), .is (.pointer (some ⟨(ad.add (k * 4)).block, (ad.add (k * 4)).off + 1, none⟩)), .is (.bool bytes), .is (.slice (some ad) n c), .is (.int .i64 (k : Int)), .is (.pointer (some (ad.add (k * 4)))), .is (.pointer (some ⟨(ad.add (k * 4)).block, (ad.add (k * 4)).off + 2, none⟩)), .is (.int .u64 (nn : Int)), .is (.slice (some ad) n c), .is (.int .i64 (k : Int)), .is (.pointer (some (ad.add (k * 4)))), .is (.pointer (some ⟨(ad.add (k * 4)).block, (ad.add (k * 4)).off + 3, none⟩)), .is (.slice bA bn bc), .is (.agg #[.int .i64 tag, .bool bytes, .int .u64 (nn : Int), .slice bA bn bc]), Fact.lit 54 [.int .i64 tag, .bool bytes, .int .u64 (nn : Int), .slice bA bn bc]] [some 14, some 15, some 16, some 17, some 18, some 19, some 20, some 21, some 22, some 23, some 24, some 25, some 26, some 27, some 28, some 29, some 30, some 31, some 32, some 33, some 34, some 35, some 36] (by kernel_rfl) (by kernel_rfl) (by kernel_rfl) (by kernel_rfl) rfl ⟨?_, ?_, ?_, ?_, ?_, ?_, ?_, ?_, ?_, ?_, ?_, ?_, ?_, ?_, ?_, ?_, ?_, ?_, ?_, ?_, ?_, ?_, ?_, trivial⟩ ?_
    · intro ρ W1 hb1 H
      exact gives_move rfl (H.old 5 _ (by kernel_rfl) rfl) ⟨rfl, Below.refl _ _⟩
    · intro ρ W1 hb1 H
      exact gives_move rfl (H.old 0 _ (by kernel_rfl) rfl) ⟨rfl, Below.refl _ _⟩
    · intro ρ W1 hb1 H
      exact gives_move rfl (H.old 6 _ (by kernel_rfl) rfl) ⟨rfl, Below.refl _ _⟩
    · intro ρ W1 hb1 H
      exact gives_index_wide (k := k) Tryd.underlying24 ofield_size rfl (H.new 15 1 (by kernel_rfl)) (H.new 16 2 (by kernel_rfl)) hlt ⟨rfl, Below.refl _ _⟩
    · intro ρ W1 hb1 H
      exact gives_field rfl (H.new 17 3 (by kernel_rfl)) (fun W => ofield_at0 W (ad.add (k * 4))) ⟨rfl, Below.refl _ _⟩
    · intro ρ W1 hb1 H
      exact gives_load rfl (H.new 18 4 (by kernel_rfl)) Tryd.underlying3 rfl ((hb1.cell (by first | exact HLT.out | (rw [show _ = (ad.add (k * 4)).block from rfl]; exact HLT.out))).trans c0) ⟨rfl, Below.refl _ _⟩
    · intro ρ W1 hb1 H
      exact gives_move rfl (H.old 0 _ (by kernel_rfl) rfl) ⟨rfl, Below.refl _ _⟩
    · intro ρ W1 hb1 H
      exact gives_move rfl (H.old 6 _ (by kernel_rfl) rfl) ⟨rfl, Below.refl _ _⟩
    · intro ρ W1 hb1 H
      exact gives_index_wide (k := k) Tryd.underlying24 ofield_size rfl (H.new 20 6 (by kernel_rfl)) (H.new 21 7 (by kernel_rfl)) hlt ⟨rfl, Below.refl _ _⟩
    · intro ρ W1 hb1 H
      exact gives_field rfl (H.new 22 8 (by kernel_rfl)) (fun W => ofield_at1 W (ad.add (k * 4))) ⟨rfl, Below.refl _ _⟩
    · intro ρ W1 hb1 H
      exact gives_load rfl (H.new 23 9 (by kernel_rfl)) Tryd.underlying4 rfl ((hb1.cell (by first | exact HLT.out | (rw [show _ = (ad.add (k * 4)).block from rfl]; exact HLT.out))).trans c1) ⟨rfl, Below.refl _ _⟩
    · intro ρ W1 hb1 H
      exact gives_move rfl (H.old 0 _ (by kernel_rfl) rfl) ⟨rfl, Below.refl _ _⟩
    · intro ρ W1 hb1 H
      exact gives_move rfl (H.old 6 _ (by kernel_rfl) rfl) ⟨rfl, Below.refl _ _⟩
    · intro ρ W1 hb1 H
      exact gives_index_wide (k := k) Tryd.underlying24 ofield_size rfl (H.new 25 11 (by kernel_rfl)) (H.new 26 12 (by kernel_rfl)) hlt ⟨rfl, Below.refl _ _⟩
    · intro ρ W1 hb1 H
      exact gives_field rfl (H.new 27 13 (by kernel_rfl)) (fun W => ofield_at2 W (ad.add (k * 4))) ⟨rfl, Below.refl _ _⟩
    · intro ρ W1 hb1 H
      exact gives_load rfl (H.new 28 14 (by kernel_rfl)) Tryd.underlying47 rfl ((hb1.cell (by first | exact HLT.out | (rw [show _ = (ad.add (k * 4)).block from rfl]; exact HLT.out))).trans c2) ⟨rfl, Below.refl _ _⟩
    · intro ρ W1 hb1 H
      exact gives_move rfl (H.old 0 _ (by kernel_rfl) rfl) ⟨rfl, Below.refl _ _⟩
    · intro ρ W1 hb1 H
      exact gives_move rfl (H.old 6 _ (by kernel_rfl) rfl) ⟨rfl, Below.refl _ _⟩
    · intro ρ W1 hb1 H
      exact gives_index_wide (k := k) Tryd.underlying24 ofield_size rfl (H.new 30 16 (by kernel_rfl)) (H.new 31 17 (by kernel_rfl)) hlt ⟨rfl, Below.refl _ _⟩
    · intro ρ W1 hb1 H
      exact gives_field rfl (H.new 32 18 (by kernel_rfl)) (fun W => ofield_at3 W (ad.add (k * 4))) ⟨rfl, Below.refl _ _⟩
    · intro ρ W1 hb1 H
      exact gives_load rfl (H.new 33 19 (by kernel_rfl)) Tryd.underlying22 rfl ((hb1.cell (by first | exact HLT.out | (rw [show _ = (ad.add (k * 4)).block from rfl]; exact HLT.out))).trans c3) ⟨rfl, Below.refl _ _⟩
    · intro ρ W1 hb1 H
      have e1 : ρ (.tmp 19) = .int .i64 tag := (H.new 19 5 (by kernel_rfl))
      have e2 : ρ (.tmp 24) = .bool bytes := (H.new 24 10 (by kernel_rfl))
      have e3 : ρ (.tmp 29) = .int .u64 (nn : Int) := (H.new 29 15 (by kernel_rfl))
      have e4 : ρ (.tmp 34) = .slice bA bn bc := (H.new 34 20 (by kernel_rfl))
      refine gives_of (v := .agg #[.int .i64 tag, .bool bytes, .int .u64 (nn : Int), .slice bA bn bc]) (w' := W1) ?_ ⟨rfl, Below.refl _ _⟩
      simp [execOp, e1, e2, e3, e4, rbuild_all]
    · intro ρ W1 hb1 H
      have e1 : ρ (.tmp 35) = .agg #[.int .i64 tag, .bool bytes, .int .u64 (nn : Int), .slice bA bn bc] := (H.new 35 21 (by kernel_rfl))
      refine gives_of (v := .slice (some ⟨W1.heap.size, 0, none⟩) 1 1) (w' := W1.alloc (.cells #[.int .i64 tag, .bool bytes, .int .u64 (nn : Int), .slice bA bn bc] 54)) ?_ ⟨⟨_, rfl, heap_alloc_new W1 _⟩, (Below.refl _ _).alloc (Nat.le_refl _) _⟩
      simp [execOp, e1, rlit_one]
    · intro vs W1 hb1 hfs
      have f0 : vs 0 = u5 := hfs 0 (by decide)
      have f22 : ∃ g, vs 22 = .slice (some ⟨g, 0, none⟩) 1 1 ∧ Row W1 g 54 [.int .i64 tag, .bool bytes, .int .u64 (nn : Int), .slice bA bn bc] := hfs 22 (by decide)
      clear hfs
      simp only [putAll, Nat.zero_add, Nat.reduceAdd, List.drop_succ_cons, List.drop_zero]
      generalize vs 1 = z1
      generalize vs 2 = z2
      generalize vs 3 = z3
      generalize vs 4 = z4
      generalize vs 5 = z5
      generalize vs 6 = z6
      generalize vs 7 = z7
      generalize vs 8 = z8
      generalize vs 9 = z9
      generalize vs 10 = z10
      generalize vs 11 = z11
      generalize vs 12 = z12
      generalize vs 13 = z13
      generalize vs 14 = z14
      generalize vs 15 = z15
      generalize vs 16 = z16
      generalize vs 17 = z17
      generalize vs 18 = z18
      generalize vs 19 = z19
      generalize vs 20 = z20
      generalize vs 21 = z21
      generalize vs 22 = z22 at f22 ⊢
      simp only [f0, Act.put, List.setIfInBounds_toArray, List.set_cons_succ, List.set_cons_zero]
      clear f0
      obtain ⟨g, rfl, hlit⟩ := f22
      have hb2 : Below w.heap.size w W1 := below_then HBW.out hb1
      have ho2 := own_below HOW.out hb1
      have hz2 := hb2.size
      have hll := hlit.lies 0
      rw [List.drop_zero] at hll
      have HB2 := Lib.hid hb2
      have HO2 := Lib.hid ho2
      have HZ2 := Lib.hid hz2
      have HLL := Lib.hid hll
      clear hlit hb1 hb2 ho2 hz2 hll
      go_wp2_with (at_builtin; refine wpList_joinW HEB.out rfl _ _ rfl w.heap.size _ _ _ _ 1 1 _ w rfl rfl (by simp) rfl HLL.out fcells_one HO2.out HB2.out HZ2.out hk1 heb ?_)
      intro v7 w7 ho7 hb7 _ _
      have HREL := Lib.hid (show FSameRel l w v7 (.int .i64 ((k + 1 : Nat) : Int)) w7 from ⟨k + 1, HKL.out, rfl, by rw [HSN.out]; exact ho7, hb7⟩)
      clear ho7 hb7
      go_wp2
      go_roundw
      case rel => exact HREL.out
      case measure => simp [intOf]; omega
set_option maxHeartbeats 8000000 in
set_option maxRecDepth 100000 in
theorem rfsame_any (l m : List FN) (v u : Value) (w : World) (h : IsFields l v w) (hm : IsFields m u w) (he : l.map FN.wf = m.map FN.wf) (hl : l.length ≤ 1000) :
    Calls Tryd.prog 29 #[v, u] w fun e w' => e = .returned (.bool true) ∧ Below w.heap.size w w' := by
  obtain ⟨A, n, c, rfl⟩ := h.1.shape
  obtain ⟨A2, n2, c2', rfl⟩ := hm.1.shape
  have HF := Lib.hid h
  have HM := Lib.hid hm
  have HE := Lib.hid he
  have HN := Lib.hid h.1.parts.1
  have hn2 : (n : Int) ≤ 1000 := by have := HN.out; omega
  have HL2 := Lib.hid (show l.length = m.length by have := congrArg List.length he; simpa using this)
  obtain rfl : n2 = n := by have := hm.1.parts.1; have := HL2.out; have := HN.out; omega
  have HST : Hid (FSm l w (.int .i64 0) w) := Lib.hid ⟨0, Nat.zero_le _, rfl, Below.refl _ _⟩
  clear h hm he
  go_enter Tryd.func29, Tryd.ntmps29
  go_wp2
  go_loopw [5] (FSm l w) (fun i _ => n2 - (intOf i).toNat)
  case atStart => exact HST.out
  case round =>
    obtain ⟨k, hk, rfl, hbw⟩ := hrel
    clear HST
    by_cases hlt : k < n2
    case neg =>
      have hlti : ¬ (k : Int) < (n2 : Int) := by omega
      obtain rfl : k = l.length := by have := HN.out; omega
      have HBW := Lib.hid hbw
      clear hbw
      go_wp2
      go_ret
      exact ⟨rfl, HBW.out⟩
    have hlti : (k : Int) < (n2 : Int) := by omega
    have hkl : k < l.length := by have := HN.out; omega
    have hkm : k < m.length := by have := HL2.out; omega
    obtain ⟨ad, rfl, had, hcell⟩ := ((HF.out.below hbw).1).at (m := 4) (fun _ => rfl) (by omega) hkl
    obtain ⟨ae, rfl, hae, hcelm⟩ := ((HM.out.below hbw).1).at (m := 4) (fun _ => rfl) (by omega) hkm
    have hat := (HF.out.below hbw).2 _ (List.getElem_mem hkl)
    have ham := (HM.out.below hbw).2 _ (List.getElem_mem hkm)
    have hww : l[k].wf = m[k].wf := by
      have h1 : (l.map FN.wf)[k]'(by simpa using hkl) = (m.map FN.wf)[k]'(by simpa using hkm) := by simp only [HE.out]
      simpa using h1
    obtain ⟨x, hx⟩ : ∃ x, x = l[k] := ⟨_, rfl⟩
    obtain ⟨y, hy⟩ : ∃ y, y = m[k] := ⟨_, rfl⟩
    rw [← hx] at hcell hat hww
    rw [← hy] at hcelm ham hww
    obtain ⟨c0, c1, c2, c3⟩ := cells4 hcell
    obtain ⟨e0, e1, e2, e3⟩ := cells4 hcelm
    obtain ⟨tag, bytes, nn, bs, lv⟩ := x
    obtain ⟨tag2, bytes2, nn2, bs2, lv2⟩ := y
    unfold FN.wf at hww
    injection hww with q1 q2 q3 q4
    dsimp only at q1 q2 q3 q4
    subst q1 q2 q3 q4
    have hbt := hat.byt
    have hbm := ham.byt
    dsimp only at c0 c1 c2 c3 e0 e1 e2 e3 hbt hbm
    have HT1 := Lib.hid (fun q : Nat => textB (w := wr.drewN q) (l := bs) (v := lv) (hbt.below (Go.below_drewN (Below.refl _ _) _)))
    have HT2 := Lib.hid (fun q : Nat => textB (w := wr.drewN q) (l := bs) (v := lv2) (hbm.below (Go.below_drewN (Below.refl _ _) _)))
    obtain ⟨bA, bn, bc, rfl⟩ := IsV.shape (f := bv) hbt
    obtain ⟨dA, dn, dc, rfl⟩ := IsV.shape (f := bv) hbm
    have HBW := Lib.hid hbw
    have HKL := Lib.hid hkl
    have d1 : (tag != tag) = false := by simp
    have d2 : (!(bytes == bytes)) = false := by cases bytes <;> rfl
    have d3 : ((nn : Int) != (nn : Int)) = false := by simp
    have d4 : (!(bs == bs)) = false := by simp
    have ht1 := HT1.out
    have ht2 := HT2.out
    clear hcell hcelm hat ham hbw hx hy hkl hkm hbt hbm hk had hae
    go_wp2
    go_quiet (fail)
    have HBQ := Lib.hid (show Below w.heap.size w (wr.drewN nq) from Go.below_drewN HBW.out _)
    have HREL := Lib.hid (show FSm l w (.int .i64 ((k + 1 : Nat) : Int)) (wr.drewN nq) from ⟨k + 1, HKL.out, rfl, HBQ.out⟩)
    clear c0 c1 c2 c3 e0 e1 e2 e3 ht1 ht2
    go_wp2
    go_roundw
    case rel => exact HREL.out
    case measure => simp [intOf]; omega
end Go.Proofs.YtocodcceimeiiaaDoor

/- Fields that come in; the statements' few of layer 19: at most 60 fields, of 300 bytes each. -/





namespace Go.Proofs.YtocodcceimeiiaaDoor

open Go.RowKit Go.ChangeShapes Go.WideShapes Go.ChangeAt

structure FIn (f : FN) (w : World) : Prop where
  byt : IsB f.b f.lv w
  tag : inInt f.tag
  n : f.n < 18446744073709551616
theorem FIn.below {f : FN} {w w' : World} (h : FIn f w) (hb : Below w.heap.size w w') : FIn f w' := ⟨h.byt.below hb, h.tag, h.n⟩
/-- Fields that came in, of any length. -/
def IsFieldsIn (l : List FN) (v : Value) (w : World) : Prop := IsR fcells l v w ∧ ∀ f ∈ l, FIn f w
theorem IsFieldsIn.below {l : List FN} {v : Value} {w w' : World} (h : IsFieldsIn l v w) (hb : Below w.heap.size w w') : IsFieldsIn l v w' := ⟨h.1.below hb, fun f hf => (h.2 f hf).below hb⟩
instance : Inhabited FN := ⟨⟨0, false, 0, [], .slice none 0 0⟩⟩
section

variable {H : Type} {enc : TypeId × Value → H} {W : World} {v : Value} {d : DataW H} {ps : List MemPlace} {base : Nat}
end
end Go.Proofs.YtocodcceimeiiaaDoor

/- The head of layer 19's statements: the document's examples. -/



namespace Go.Proofs.YtocodcceimeiiaaDoor

open Go.RowKit Go.ChangeShapes Go.WideShapes Go.ChangeAt

def fshow2 (g : Nat) : List FN := [⟨1, false, 300, [], .slice none 0 0⟩, ⟨2, true, 0, [97, 98], .slice (some ⟨g, 0, none⟩) 2 2⟩]
theorem fshow_put (g : Nat) : fputP (fshow2 g) = ([8, 172, 2, 18, 2, 97, 98], 0) := by
  show fputP (fshow2 0) = _
  decide +kernel
theorem fshow_at (w : World) (g : Nat) (h : IsB [97, 98] (.slice (some ⟨g, 0, none⟩) 2 2) w) : ∀ f ∈ fshow2 g, FAt f w := by
  intro f hf
  simp only [fshow2, List.mem_cons, List.not_mem_nil, or_false] at hf
  rcases hf with rfl | rfl
  · exact ⟨isB_nil w, by unfold inInt; dsimp only; omega, by dsimp only; omega, by simp⟩
  · exact ⟨h, by unfold inInt; dsimp only; omega, by dsimp only; omega, by simp⟩
theorem fshow_val : fputV ⟨false, -1, ⟨#[]⟩⟩ = [8, 0, 16, 1, 26, 0] := by
  unfold fputV fvalue
  rw [show (⟨#[]⟩ : ByteArray).toList = [] by rw [ByteArray.toList_eq]]
  decide +kernel
set_option maxHeartbeats 4000000 in
set_option maxRecDepth 100000 in
theorem shown19_any (w : World) : Calls Tryd.prog 5 #[] w fun e w' => e = .returned (.bool true) ∧ Below w.heap.size w w' := by
  go_enter Tryd.func5, Tryd.ntmps5
  have kc := fun (w : World) (C : Array Value) (n c : Nat) => Lib.run_convert_bytes_const (P := Tryd.prog) w 22 5 C n c Tryd.underlying22 Tryd.underlying5
  go_wp2_with fail
  clear kc
  obtain ⟨W1, hW1⟩ : ∃ x, x = w.alloc (.cells #[.int .u8 97, .int .u8 98] 5 (2, 3)) := ⟨_, rfl⟩
  have hb1 : Below w.heap.size w W1 := by rw [hW1]; exact (Below.refl _ _).alloc (Nat.le_refl _) _
  have hr1 : IsB [97, 98] (.slice (some ⟨w.heap.size, 0, none⟩) 2 2) W1 := by rw [hW1]; exact isB_mark w 5 (2, 3) [97, 98] 2 rfl (by omega)
  have hz1 : w.heap.size + 1 = W1.heap.size := by rw [hW1]; simp
  rw [← hW1, hz1]
  obtain ⟨W2, hW2⟩ : ∃ x, x = W1.alloc (.cells #[.int .i64 1, .bool false, .int .u64 300, .slice none 0 0, .int .i64 2, .bool true, .int .u64 0, .slice (some ⟨w.heap.size, 0, none⟩) 2 2] 49) := ⟨_, rfl⟩
  have hb2 : Below W1.heap.size W1 W2 := by rw [hW2]; exact (Below.refl _ _).alloc (Nat.le_refl _) _
  have hr2 : Row W2 W1.heap.size 49 ((fshow2 w.heap.size).flatMap fcells) := by rw [hW2]; exact heap_alloc_new W1 _
  have hat := fshow_at W2 w.heap.size (hr1.below hb2)
  rw [← hW2]
  have HB2 := Lib.hid (below_then hb1 hb2)
  have hput := fput_own (fshow2 w.heap.size) (.slice (some ⟨W1.heap.size, 0, none⟩) 2 2) W2 ⟨isR_row hr2 rfl (by omega), hat⟩ (by simp [fshow2])
  rw [fshow_put] at hput
  clear hW1 hW2 hb1 hb2 hr1 hr2 hz1 hat
  refine hput.mono ?_
  rintro e w3 ⟨v3, rfl, ho3, hb3⟩
  dsimp only at ho3 ⊢
  have HB3 := Lib.hid (below_then HB2.out hb3)
  have hI3 := isB_own ho3
  have ht3 := textB hI3
  have HV := Lib.hid (fun W => fputV_own ⟨false, -1, ⟨#[]⟩⟩ W (by unfold CV.inInt; dsimp only; omega) (by simp [ByteArray.size]))
  rw [fshow_val] at HV
  clear ho3 hb3 hI3 hput
  go_wp2_with fail
  refine (HV.out w3).mono ?_
  rintro e w4 ⟨v4, rfl, ho4, hb4⟩
  have HB4 := Lib.hid (below_then HB3.out hb4)
  have ht4 := textB (isB_own ho4)
  clear ho4 hb4 ht3
  go_wp2
  go_ret
  exact ⟨rfl, HB4.out⟩
end Go.Proofs.YtocodcceimeiiaaDoor

/- What layer 19's laws share. Written by gen_wire_laws.py. -/







namespace Go.Proofs.YtocodcceimeiiaaDoor

open Go.RowKit Go.ChangeShapes Go.WideShapes Go.ChangeAt

end Go.Proofs.YtocodcceimeiiaaDoor
