
/- wire's own contracts: first. Written by gen_ftake.py. -/

import Derived.Test.YtocodcceimeiiaaFPutO

import Derived.Test.YtocodcceimeiiaaRegG

namespace Go.Proofs.Ytocodcceimeiiaa

open Go.RowKit Go.ChangeShapes Go.WideShapes Go.ChangeAt

theorem u64_and7 (K : Nat) (h : K < 18446744073709551616) : bits .and .u64 (K : Int) 7 = ((K % 8 : Nat) : Int) := by
  rw [u64_and _ _ (by omega) (by omega) (by omega) (by omega), Int.toNat_natCast, show ((7 : Int)).toNat = 2 ^ 3 - 1 from rfl, Nat.and_two_pow_sub_one_eq_mod]
/-- What first answers: a field, and the piece behind it. -/
def RetFirst (l : List UInt8) (v : Value) (w : World) (o : Option (WF × List UInt8)) (e : Ending) (w' : World) : Prop :=
  match o with
  | none => e = .returned (.tuple #[.agg #[.int .i64 0, .bool false, .int .u64 0, .slice none 0 0], .slice none 0 0, .bool false]) ∧ Below w.heap.size w w'
  | some p => ∃ lv u, e = .returned (.tuple #[fval ⟨p.1.tag, p.1.bytes, p.1.n, p.1.b, lv⟩, u, .bool true]) ∧ (∀ W, IsB l v W → IsB p.2 u W) ∧ (∃ n, w'.ownsRow w.heap.size 5 1 lv n (p.1.b.map bv)) ∧ Below w.heap.size w w'
/-- The block that first's field lies in, with bytes of the call's own. -/
def FGot (g : Nat) (T : Int) (bs : List UInt8) (W : World) : Prop := ∃ lv, (∃ n, W.ownsRow (g + 1) 5 1 lv n (bs.map bv)) ∧ Row W g 41 [.int .i64 T, .bool true, .int .u64 0, lv]
theorem fgot_below {g : Nat} {T : Int} {bs : List UInt8} {w w' : World} (hb : Below w.heap.size w w') (h : FGot g T bs w) : FGot g T bs w' := by
  obtain ⟨lv, ⟨n, h1⟩, h2⟩ := h
  exact ⟨lv, ⟨n, own_below h1 hb⟩, h2.below hb h2.lt⟩
theorem fgot_row {g : Nat} {T : Int} {bs : List UInt8} {w : World} (h : Row w g 41 [.int .i64 0, .bool false, .int .u64 0, .slice none 0 0] ∨ FGot g T bs w) : ∃ old : List Value, old.length = 4 ∧ Row w g 41 old := by
  rcases h with h | ⟨lv, _, h⟩
  · exact ⟨_, rfl, h⟩
  · exact ⟨_, rfl, h⟩
/-- Bytes in a block of bytes stay where a block of another type changes. -/
theorem isB_spared {l : List UInt8} {v : Value} {w w' : World} {g : Nat} {t : TypeId} {cs : List Value} (h : IsB l v w) (hr : Row w g t cs) (hcs : ∀ b : UInt8, bv b ∉ cs) (hg : w.grownBy w' (some g)) : IsB l v w' := by
  obtain ⟨A, c, rfl, hA, hnc, hcm, hl⟩ := h
  refine ⟨A, c, rfl, hA, hnc, hcm, ?_⟩
  rcases hl with h0 | ⟨ad, rfl, hlt, hc⟩
  · exact .inl h0
  · cases l with
    | nil => exact .inl rfl
    | cons x l =>
      have hne : ad.block ≠ g := by
        intro e
        have h3 := hc 0 (bv x) rfl
        unfold Row at hr
        unfold World.cell? at h3
        rw [add_block, e, hr] at h3
        dsimp only at h3
        split at h3
        · cases h3
        · rw [List.getElem?_toArray] at h3
          exact hcs x (List.mem_of_getElem? h3)
      refine .inr ⟨ad, rfl, Nat.lt_of_lt_of_le hlt hg.size, fun j u hj => ?_⟩
      have h2 := hc j u hj
      unfold World.cell? at h2 ⊢
      rw [add_block] at h2 ⊢
      rw [hg.block ad.block hlt (by intro e; injection e with e; exact hne e)]
      exact h2
theorem build_byt (T : Int) (A : Option Addr) (n c : Nat) (W : World) : (Instr.build 41 #[(0, .int .i64 T), (1, .bool true), (3, .slice A n c)]).run Try.prog W = .ok (.agg #[.int .i64 T, .bool true, .int .u64 0, .slice A n c]) W := by kernel_rfl
theorem fzero_none (b : UInt8) : bv b ∉ [Value.int .i64 0, .bool false, .int .u64 0, .slice none 0 0] := by
  intro h
  simp only [List.mem_cons, List.not_mem_nil, or_false] at h
  rcases h with h | h | h | h <;> cases h
theorem getsTo_grown (w : World) (g : Nat) (cs : Array Value) : w.grownBy (w.setRow g cs) (some g) := ⟨rfl, rfl, rfl, by simp [World.setRow], fun k _ hg => setRow_other w g k _ (fun e => hg (by rw [e]))⟩
def fFOwn (g : Nat) (T : Int) (bs : List UInt8) : FactR (GetsTo g (fun W => Row W g 41 [.int .i64 0, .bool false, .int .u64 0, .slice none 0 0]) (FGot g T bs)) :=
  .of (fun v W => ∃ n, W.ownsRow (g + 1) 5 1 v n (bs.map bv)) (fun _ _ _ h hk => h.elim fun n h => ⟨n, own_past h hk.1 (Nat.lt_succ_self _)⟩)
def fFBuilt (g : Nat) (T : Int) (bs : List UInt8) : FactR (GetsTo g (fun W => Row W g 41 [.int .i64 0, .bool false, .int .u64 0, .slice none 0 0]) (FGot g T bs)) :=
  .of (fun v W => ∃ lv, v = .agg #[.int .i64 T, .bool true, .int .u64 0, lv] ∧ (∃ A n c, lv = .slice A n c) ∧ ∃ n, W.ownsRow (g + 1) 5 1 lv n (bs.map bv)) (fun _ _ _ h hk => h.elim fun lv ⟨h1, h2, n, h3⟩ => ⟨lv, h1, h2, n, own_past h3 hk.1 (Nat.lt_succ_self _)⟩)
def fFGot (g : Nat) (T : Int) (bs : List UInt8) : FactR (GetsTo g (fun W => Row W g 41 [.int .i64 0, .bool false, .int .u64 0, .slice none 0 0]) (FGot g T bs)) := .of (fun _ W => FGot g T bs W) (fun _ _ _ h hk => hk.2.2 h)
theorem fgets_later (g : Nat) (T : Int) (bs : List UInt8) : Later (GetsTo g (fun W => Row W g 41 [.int .i64 0, .bool false, .int .u64 0, .slice none 0 0]) (FGot g T bs)) := getsTo_later _ _ _ (fun _ h => h) (fun _ h => h)
theorem fgets_below {g : Nat} {T : Int} {bs : List UInt8} {w w' : World} (h : Below w.heap.size w w') : GetsTo g (fun W => Row W g 41 [.int .i64 0, .bool false, .int .u64 0, .slice none 0 0]) (FGot g T bs) w w' := getsTo_below (fun _ _ hb hr => hr.below hb hr.lt) (fun _ _ hb hg => fgot_below hb hg) h
theorem own_slice {w : World} {base s n : Nat} {e : TypeId} {v : Value} {xs : List Value} (h : w.ownsRow base e s v n xs) : ∃ A n c, v = .slice A n c := by
  rcases h.2 with ⟨rfl, _⟩ | ⟨g, cap, cur, rfl, _⟩
  · exact ⟨_, _, _, rfl⟩
  · exact ⟨_, _, _, rfl⟩
set_option maxHeartbeats 16000000 in
set_option maxRecDepth 100000 in
theorem ffirst_any (l : List UInt8) (v : Value) (w : World) (h : IsB l v w) (hlen : l.length ≤ 1000000000) : Calls Try.prog 16 #[v] w (RetFirst l v w (ftake1 l)) := by
  obtain ⟨w1, hw1⟩ : ∃ x, x = w.alloc (.cells #[.int .i64 0, .bool false, .int .u64 0, .slice none 0 0] 41) := ⟨_, rfl⟩
  have hr : Row w1 w.heap.size 41 [.int .i64 0, .bool false, .int .u64 0, .slice none 0 0] := by rw [hw1]; exact heap_alloc_new w _
  have hb : Below w.heap.size w w1 := by rw [hw1]; exact (Below.refl _ _).alloc (Nat.le_refl _) _
  have HR1 := Lib.hid hr
  have HB1 := Lib.hid hb
  have HL1 := Lib.hid (fleading_any l v w1 (h.below hb))
  have HV := Lib.hid h
  clear hr hb h
  obtain ⟨vA, vn, vc, rfl⟩ := IsV.shape (f := bv) HV.out
  cases h1 : vtake l with
  | none =>
    rw [h1] at HL1
    go_enter Try.func16, Try.ntmps16
    go_wp2_with fail
    rw [← hw1]
    clear hw1
    refine (HL1.out).mono ?_
    rintro e w2 ⟨rfl, hb2⟩
    have HB2 := Lib.hid (below_then HB1.out hb2)
    have HR2 := Lib.hid (HR1.out.below hb2 HR1.out.lt)
    clear hb2
    have HE := Lib.hid (ftake1_nk h1)
    clear h1
    go_wp2_with (refine wpList_storeW rfl _ _ _ rfl w.heap.size 0 41 [.int .i64 0, .bool false, .int .u64 0, .slice none 0 0] [.int .i64 0, .bool false, .int .u64 0, .slice none 0 0] [.int .i64 0, .bool false, .int .u64 0, .slice none 0 0] rfl rfl rfl HR2.out field_size (Nat.le_refl _) (by decide) w w.heap.size HB2.out (Nat.le_refl _) ?_)
    intro w9 hr9 hb9 _
    have HR9 := Lib.hid hr9
    have HB9 := Lib.hid hb9
    clear hr9 hb9
    go_wp2
    refine bodyPost_ret (results_rowF3 rfl _ _ w.heap.size _ _ (0, 0) _ rfl HR9.out Try.underlying41 rfl field_size) rfl ?_
    rw [HE.out]
    exact ⟨rfl, HB9.out⟩
  | some p =>
    obtain ⟨K, more⟩ := p
    rw [h1] at HL1
    have hK := (vtake_some h1).2
    have hml : more.length ≤ 1000000000 := by have := vtake_len h1; omega
    have H1 := Lib.hid h1
    obtain ⟨q, hq⟩ : ∃ q : Nat, q = K % 8 := ⟨_, rfl⟩
    obtain ⟨T, hT⟩ : ∃ T : Nat, T = K / 8 := ⟨_, rfl⟩
    have hand := u64_and7 K hK
    rw [← hq] at hand
    have hdiv : (K : Int) / 8 = (T : Int) := by omega
    have HQ := Lib.hid hq
    have HT := Lib.hid hT
    have HAND := Lib.hid hand
    have HDIV := Lib.hid hdiv
    have HK := Lib.hid hK
    clear h1 hq hT hand hdiv hK
    go_enter Try.func16, Try.ntmps16
    go_wp2_with fail
    rw [← hw1]
    clear hw1
    refine (HL1.out).mono ?_
    rintro e w2 ⟨u1, rfl, hu1, hb2⟩
    dsimp only at hu1 ⊢
    have HB2 := Lib.hid (below_then HB1.out hb2)
    have HR2 := Lib.hid (HR1.out.below hb2 HR1.out.lt)
    have HU1 := Lib.hid hu1
    have HM2 := Lib.hid (hu1 w2 (HV.out.below HB2.out))
    clear hb2 hu1 HL1
    have hand := HAND.out
    have hdiv := HDIV.out
    obtain ⟨mA, mn, mc, rfl⟩ := IsV.shape (f := bv) HM2.out
    by_cases k1 : T < 1
    · have k1i : (T : Int) < 1 := by omega
      have k1b : decide ((T : Int) < 1) = true := decide_eq_true k1i
      have HE := Lib.hid (ftake1_bad H1.out (.inl (by have := HT.out; omega)))
      go_wp2_with (refine wpList_storeW rfl _ _ _ rfl w.heap.size 0 41 [.int .i64 0, .bool false, .int .u64 0, .slice none 0 0] [.int .i64 0, .bool false, .int .u64 0, .slice none 0 0] [.int .i64 0, .bool false, .int .u64 0, .slice none 0 0] rfl rfl rfl HR2.out field_size (Nat.le_refl _) (by decide) w w.heap.size HB2.out (Nat.le_refl _) ?_)
      intro w9 hr9 hb9 _
      have HR9 := Lib.hid hr9
      have HB9 := Lib.hid hb9
      clear hr9 hb9
      go_wp2
      refine bodyPost_ret (results_rowF3 rfl _ _ w.heap.size _ _ (0, 0) _ rfl HR9.out Try.underlying41 rfl field_size) rfl ?_
      rw [HE.out]
      exact ⟨rfl, HB9.out⟩
    by_cases k2 : 100 < T
    · have k1i : ¬ (T : Int) < 1 := by omega
      have k2i : (100 : Int) < (T : Int) := by omega
      have HE := Lib.hid (ftake1_bad H1.out (.inr (.inl (by have := HT.out; omega))))
      go_wp2_with (refine wpList_storeW rfl _ _ _ rfl w.heap.size 0 41 [.int .i64 0, .bool false, .int .u64 0, .slice none 0 0] [.int .i64 0, .bool false, .int .u64 0, .slice none 0 0] [.int .i64 0, .bool false, .int .u64 0, .slice none 0 0] rfl rfl rfl HR2.out field_size (Nat.le_refl _) (by decide) w w.heap.size HB2.out (Nat.le_refl _) ?_)
      intro w9 hr9 hb9 _
      have HR9 := Lib.hid hr9
      have HB9 := Lib.hid hb9
      clear hr9 hb9
      go_wp2
      refine bodyPost_ret (results_rowF3 rfl _ _ w.heap.size _ _ (0, 0) _ rfl HR9.out Try.underlying41 rfl field_size) rfl ?_
      rw [HE.out]
      exact ⟨rfl, HB9.out⟩
    have k1i : ¬ (T : Int) < 1 := by omega
    have k2i : ¬ (100 : Int) < (T : Int) := by omega
    have hvt : (T : Int) ≤ 100 := by omega
    have HL2 := Lib.hid (fleading_any more (.slice mA mn mc) w2 HM2.out)
    cases h2 : vtake more with
    | none =>
      rw [h2] at HL2
      have HX := Lib.hid (ftake1_nn H1.out h2)
      clear h2
      go_wp2_with fail
      refine (HL2.out).mono ?_
      rintro e w3 ⟨rfl, hb3⟩
      have HB3 := Lib.hid (below_then HB2.out hb3)
      have HR3 := Lib.hid (HR2.out.below hb3 HR2.out.lt)
      clear hb3
      have HE := Lib.hid (HX.out)
      go_wp2_with (refine wpList_storeW rfl _ _ _ rfl w.heap.size 0 41 [.int .i64 0, .bool false, .int .u64 0, .slice none 0 0] [.int .i64 0, .bool false, .int .u64 0, .slice none 0 0] [.int .i64 0, .bool false, .int .u64 0, .slice none 0 0] rfl rfl rfl HR3.out field_size (Nat.le_refl _) (by decide) w w.heap.size HB3.out (Nat.le_refl _) ?_)
      intro w9 hr9 hb9 _
      have HR9 := Lib.hid hr9
      have HB9 := Lib.hid hb9
      clear hr9 hb9
      go_wp2
      refine bodyPost_ret (results_rowF3 rfl _ _ w.heap.size _ _ (0, 0) _ rfl HR9.out Try.underlying41 rfl field_size) rfl ?_
      rw [HE.out]
      exact ⟨rfl, HB9.out⟩
    | some p =>
      obtain ⟨N, behind⟩ := p
      rw [h2] at HL2
      have hN := (vtake_some h2).2
      have hbl : behind.length ≤ 1000000000 := by have := vtake_len h2; omega
      have H2 := Lib.hid h2
      have HN := Lib.hid hN
      clear h2 hN
      go_wp2_with fail
      refine (HL2.out).mono ?_
      rintro e w3 ⟨u2, rfl, hu2, hb3⟩
      dsimp only at hu2 ⊢
      have HB3 := Lib.hid (below_then HB2.out hb3)
      have HR3 := Lib.hid (HR2.out.below hb3 HR2.out.lt)
      have HU2 := Lib.hid (fun W (hW : IsB l (.slice vA vn vc) W) => hu2 W (HU1.out W hW))
      have HM3 := Lib.hid (hu2 w3 (HM2.out.below hb3))
      clear hb3 hu2 HL2
      obtain ⟨bA, bn, bc, rfl⟩ := IsV.shape (f := bv) HM3.out
      have HBN := Lib.hid (IsV.parts (f := bv) HM3.out).1
      have hbnm : (bn : Int) ≤ 1000000000 := by have := HBN.out; omega
      by_cases k8 : q = 0
      · have HE := Lib.hid (ftake1_number H1.out (by have := HT.out; have := HQ.out; omega) H2.out (by have := HQ.out; omega))
        subst k8
        obtain ⟨row, hrow⟩ : ∃ row : List Value, row = [.int .i64 (T : Int), .bool false, .int .u64 (N : Int), .slice none 0 0] := ⟨_, rfl⟩
        have HONE : Hid (∀ u ∈ [Value.int .i64 (T : Int), .bool false, .int .u64 (N : Int), .slice none 0 0], u.oneCell' = true) := Lib.hid (by intro x hx; simp only [List.mem_cons, List.not_mem_nil, or_false] at hx; rcases hx with rfl | rfl | rfl | rfl <;> rfl)
        go_wp2_with (refine wpList_storeW rfl _ _ _ rfl w.heap.size 0 41 [.int .i64 0, .bool false, .int .u64 0, .slice none 0 0] [.int .i64 (T : Int), .bool false, .int .u64 (N : Int), .slice none 0 0] [.int .i64 (T : Int), .bool false, .int .u64 (N : Int), .slice none 0 0] rfl rfl rfl HR3.out field_size (Nat.le_refl _) HONE.out w w.heap.size HB3.out (Nat.le_refl _) ?_)
        intro w9 hr9 hb9 _
        have HR9 := Lib.hid hr9
        have HB9 := Lib.hid hb9
        clear hr9 hb9
        go_wp2
        refine bodyPost_ret (results_rowF3 rfl _ _ w.heap.size _ _ (0, 0) _ rfl HR9.out Try.underlying41 rfl field_size) rfl ?_
        rw [HE.out]
        exact ⟨.slice none 0 0, .slice bA bn bc, by rw [show ((K / 8 : Nat) : Int) = (T : Int) by rw [HT.out]]; rfl, HU2.out, ⟨0, World.ownsRow_nil _ _ _ _⟩, HB9.out⟩
      · by_cases k9 : q = 2
        · by_cases k10 : behind.length < N
          · have k10i : ¬ (N : Int) ≤ (bn : Int) := by have := HBN.out; omega
            subst k9
            have HE := Lib.hid (ftake1_short H1.out H2.out (by have := HQ.out; omega) k10)
            go_wp2_with (refine wpList_storeW rfl _ _ _ rfl w.heap.size 0 41 [.int .i64 0, .bool false, .int .u64 0, .slice none 0 0] [.int .i64 0, .bool false, .int .u64 0, .slice none 0 0] [.int .i64 0, .bool false, .int .u64 0, .slice none 0 0] rfl rfl rfl HR3.out field_size (Nat.le_refl _) (by decide) w w.heap.size HB3.out (Nat.le_refl _) ?_)
            intro w9 hr9 hb9 _
            have HR9 := Lib.hid hr9
            have HB9 := Lib.hid hb9
            clear hr9 hb9
            go_wp2
            refine bodyPost_ret (results_rowF3 rfl _ _ w.heap.size _ _ (0, 0) _ rfl HR9.out Try.underlying41 rfl field_size) rfl ?_
            rw [HE.out]
            exact ⟨rfl, HB9.out⟩
          · have k10i : (N : Int) ≤ (bn : Int) := by have := HBN.out; omega
            subst k9
            have HE := Lib.hid (ftake1_bytes H1.out (by have := HT.out; have := HQ.out; omega) H2.out (by have := HQ.out; omega) k10)
            obtain ⟨u3, hu3, hi3⟩ := from_all (P := Try.prog) (l := behind) .u64 elemB (A := bA) (n := bn) (c := bc) (k := N) (by have := HBN.out; omega) (IsV.parts (f := bv) HM3.out).2.2.1
            have HU3 := Lib.hid hu3
            have HI3 := Lib.hid hi3
            have hNc : N ≤ bc := by have := (IsV.parts (f := bv) HM3.out).2.2.1; omega
            obtain ⟨bs, hbs⟩ : ∃ bs, bs = behind.take N := ⟨_, rfl⟩
            rw [← hbs] at HE
            have HBS := Lib.hid (show IsB bs (.slice bA N bc) w3 by rw [hbs]; exact IsV.take (f := bv) HM3.out (by have := HBN.out; omega))
            have hbsl : bs.length ≤ 1000000000 := by rw [hbs, List.length_take]; omega
            obtain ⟨g, hg⟩ : ∃ g, g = w.heap.size := ⟨_, rfl⟩
            rw [← hg] at HR3
            have HG := Lib.hid hg
            have HBL := Lib.hid hbsl
            clear hu3 hi3 hbs hbsl
            go_wp2_with fail
            rw [← hg]
            clear hg
            refine wp_region_listR (fgets_later g (T : Int) bs) [.is (.int .u64 (T : Int)), .is (.int .i64 (T : Int)), .is (.slice bA bn bc), .is (.int .u64 (N : Int)), .is (.slice bA N bc), fFOwn g (T : Int) bs, fFBuilt g (T : Int) bs, .is (.slice bA bn bc), .is (.int .u64 (N : Int)), .is u3, fFGot g (T : Int) bs, .is u3, .is (.bool true)]
              [some 60, some 61, some 62, some 63, some 64, some 65, some 66, some 67, some 68, some 69, none, some 3, some 4] (by kernel_rfl) (by kernel_rfl) (by kernel_rfl) (by kernel_rfl) rfl ⟨?_, ?_, ?_, ?_, ?_, ?_, ?_, ?_, ?_, ?_, ?_, ?_, ?_, trivial⟩ ?_
            · intro ρ vs W1 hb1 H
              exact gives_move rfl (H.old 6 _ (by kernel_rfl) rfl) ⟨upd_at _ _ _, (fgets_later _ _ _).refl _⟩
            · intro ρ vs W1 hb1 H
              exact gives_conv rfl (H.holds 60 0 (by kernel_rfl)) (by kernel_rfl) Try.underlying3 (by rw [IntKind.wrap_i64]; omega) ⟨upd_at _ _ _, (fgets_later _ _ _).refl _⟩
            · intro ρ vs W1 hb1 H
              exact gives_move rfl (H.old 0 _ (by kernel_rfl) rfl) ⟨upd_at _ _ _, (fgets_later _ _ _).refl _⟩
            · intro ρ vs W1 hb1 H
              exact gives_move rfl (H.old 8 _ (by kernel_rfl) rfl) ⟨upd_at _ _ _, (fgets_later _ _ _).refl _⟩
            · intro ρ vs W1 hb1 H
              exact gives_uptoK .u64 elemB rfl (H.holds 62 2 (by kernel_rfl)) (H.holds 63 3 (by kernel_rfl)) hNc ⟨upd_at _ _ _, (fgets_later _ _ _).refl _⟩
            · intro ρ vs W1 hb1 H
              have hrow := (fgot_row (hb1.2.1 (.inl HR3.out)))
              refine gives_copyO elemB rfl (H.const _) (H.holds 64 4 (by kernel_rfl)) (isB_spared HBS.out HR3.out fzero_none hb1.1) HBL.out ?_
              intro v' w' ho hb
              exact ⟨by
                show ∃ n, w'.ownsRow (g + 1) 5 1 (upd vs 5 v' 5) n (bs.map bv)
                rw [upd_at]
                exact ⟨_, ownW_base (by obtain ⟨old, _, h⟩ := hrow; exact h.lt) ho⟩, fgets_below hb⟩
            · intro ρ vs W1 hb1 H
              obtain ⟨n, ho⟩ := H.holds 65 5 (by kernel_rfl)
              have e1 : ρ (.tmp 61) = .int .i64 (T : Int) := H.holds 61 1 (by kernel_rfl)
              obtain ⟨A', n', c', e2⟩ := own_slice ho
              refine gives_of (v := .agg #[.int .i64 (T : Int), .bool true, .int .u64 0, .slice A' n' c']) (w' := W1) ?_ ⟨?_, (fgets_later _ _ _).refl _⟩
              · simp [execOp, e1, e2, H.const, build_byt]
              · show ∃ lv, upd vs 6 _ 6 = _ ∧ _ ∧ _
                rw [upd_at]
                exact ⟨_, rfl, ⟨_, _, _, rfl⟩, n, by rw [← e2]; exact ho⟩
            · intro ρ vs W1 hb1 H
              exact gives_move rfl (H.old 0 _ (by kernel_rfl) rfl) ⟨upd_at _ _ _, (fgets_later _ _ _).refl _⟩
            · intro ρ vs W1 hb1 H
              exact gives_move rfl (H.old 8 _ (by kernel_rfl) rfl) ⟨upd_at _ _ _, (fgets_later _ _ _).refl _⟩
            · intro ρ vs W1 hb1 H
              have e1 : ρ (.tmp 68) = .int .u64 (N : Int) := H.holds 68 8 (by kernel_rfl)
              exact gives_slice rfl (H.holds 67 7 (by kernel_rfl)) (by simp only [Option.map_some]; rw [e1]) rfl rfl (HU3.out W1) ⟨upd_at _ _ _, (fgets_later _ _ _).refl _⟩
            · intro ρ vs W1 hb1 H
              obtain ⟨lv, e1, ⟨A', n', c', e2⟩, n, ho⟩ := H.holds 66 6 (by kernel_rfl)
              obtain ⟨old, hol, hro⟩ := fgot_row (hb1.2.1 (.inl HR3.out))
              have hgot : FGot g (T : Int) bs (W1.setRow g #[.int .i64 (T : Int), .bool true, .int .u64 0, lv]) := ⟨lv, ⟨n, own_past ho (getsTo_grown W1 g _) (Nat.lt_succ_self _)⟩, rowAll_set hro⟩
              exact gives_store_row (cs := [.int .i64 (T : Int), .bool true, .int .u64 0, lv]) rfl (H.old 2 _ (by kernel_rfl) rfl) e1 hro field_size hol (by subst e2; intro x hx; simp only [List.mem_cons, List.not_mem_nil, or_false] at hx; rcases hx with rfl | rfl | rfl | rfl <;> rfl) ⟨hgot, getsTo_set hgot⟩
            · intro ρ vs W1 hb1 H
              exact gives_assign rfl (H.holds 69 9 (by kernel_rfl)) ⟨upd_at _ _ _, (fgets_later _ _ _).refl _⟩
            · intro ρ vs W1 hb1 H
              exact gives_assign rfl (H.const _) ⟨upd_at _ _ _, (fgets_later _ _ _).refl _⟩
            · intro vs W1 hb1 hfs
              have f10 : FGot g (T : Int) bs W1 := hfs 10 (by decide)
              have f11 : vs 11 = u3 := hfs 11 (by decide)
              have f12 : vs 12 = .bool true := hfs 12 (by decide)
              clear hfs
              simp only [putAll, Nat.zero_add, Nat.reduceAdd]
              generalize vs 0 = z0
              generalize vs 1 = z1
              generalize vs 2 = z2
              generalize vs 3 = z3
              generalize vs 4 = z4
              generalize vs 5 = z5
              generalize vs 6 = z6
              generalize vs 7 = z7
              generalize vs 8 = z8
              generalize vs 9 = z9
              generalize vs 10 = z10
              simp only [f11, f12, Act.put, List.setIfInBounds_toArray, List.set_cons_succ, List.set_cons_zero]
              obtain ⟨lv, ⟨n, ho⟩, hro⟩ := f10
              have HO := Lib.hid ho
              have HRO := Lib.hid hro
              have HBW := Lib.hid (show Below w.heap.size w W1 from HB3.out.grown hb1.1 HB3.out.size fun k hk => by injection hk with hk; rw [← hk, HG.out]; exact Nat.le_refl _)
              clear ho hro hb1 f11 f12
              go_wp2
              refine bodyPost_ret (results_rowF3 rfl _ _ g _ _ (0, 0) _ rfl HRO.out Try.underlying41 rfl field_size) rfl ?_
              rw [HE.out]
              exact ⟨lv, u3, by rw [show ((K / 8 : Nat) : Int) = (T : Int) by rw [HT.out]]; rfl, fun W hW => HI3.out W (HU2.out W hW), ⟨n, ownW_base (by rw [HG.out]; omega) HO.out⟩, HBW.out⟩
        · have k8i : ((q : Int) == 0) = false := by simpa using (by omega : ¬ (q : Int) = 0)
          have k9i : ((q : Int) == 2) = false := by simpa using (by omega : ¬ (q : Int) = 2)
          have HE := Lib.hid (ftake1_bad H1.out (.inr (.inr (by have := HQ.out; omega))))
          go_wp2_with (refine wpList_storeW rfl _ _ _ rfl w.heap.size 0 41 [.int .i64 0, .bool false, .int .u64 0, .slice none 0 0] [.int .i64 0, .bool false, .int .u64 0, .slice none 0 0] [.int .i64 0, .bool false, .int .u64 0, .slice none 0 0] rfl rfl rfl HR3.out field_size (Nat.le_refl _) (by decide) w w.heap.size HB3.out (Nat.le_refl _) ?_)
          intro w9 hr9 hb9 _
          have HR9 := Lib.hid hr9
          have HB9 := Lib.hid hb9
          clear hr9 hb9
          go_wp2
          refine bodyPost_ret (results_rowF3 rfl _ _ w.heap.size _ _ (0, 0) _ rfl HR9.out Try.underlying41 rfl field_size) rfl ?_
          rw [HE.out]
          exact ⟨rfl, HB9.out⟩
end Go.Proofs.Ytocodcceimeiiaa
