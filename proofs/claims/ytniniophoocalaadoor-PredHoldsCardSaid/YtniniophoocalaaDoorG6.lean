/- Texts that the claims of this seat share, part 6: HJn HArr HEch HExt. -/
import Derived.Test.YtniniophoocalaaDoorG5
/- Predicates' own contracts: joined, with min and with max. Written by gen_hpred.py. -/







namespace Go.Proofs.YtniniophoocalaaDoor

open Go.RowKit

theorem hidx3 (a b c : Bool) (W : World) : (Instr.index 44 (.agg #[.bool a, .bool b, .bool c]) (.int .i64 0)).run Tryd.prog W = .ok (.bool a) W ∧ (Instr.index 44 (.agg #[.bool a, .bool b, .bool c]) (.int .i64 1)).run Tryd.prog W = .ok (.bool b) W ∧ (Instr.index 44 (.agg #[.bool a, .bool b, .bool c]) (.int .i64 2)).run Tryd.prog W = .ok (.bool c) W := by
  have h := fun (k : Nat) (hk : k < 3) v (hv : [Value.bool a, .bool b, .bool c][k]? = some v) => run_index_array (P := Tryd.prog) W 44 4 3 [.bool a, .bool b, .bool c] .i64 k Tryd.underlying44 hk (fun _ => by kernel_rfl) (fun _ => by kernel_rfl) v hv
  exact ⟨h 0 (by omega) _ rfl, h 1 (by omega) _ rfl, h 2 (by omega) _ rfl⟩
theorem T3.put_at (t : T3) (c : Int) : t.put c (t.at_ c) = t := by
  unfold T3.put T3.at_
  by_cases h0 : c = 0
  · rw [if_pos h0, if_pos h0]
  · rw [if_neg h0, if_neg h0]
    by_cases h1 : c = 1
    · rw [if_pos h1, if_pos h1]
    · rw [if_neg h1, if_neg h1]
theorem hppart_skip (f : Int → Int → Int) (x y : T3) {a b : Nat} (ha : a < 3) (hb : b < 3) (h : (x.at_ (a : Int) && y.at_ (b : Int)) = false) : hppart f x y (3 * a + (b + 1)) = hppart f x y (3 * a + b) := by
  rw [← Nat.add_assoc, hppart_next f x y ha hb]
  unfold hpstep
  dsimp only
  rw [h, Bool.or_false, T3.put_at]
theorem hppart_hit (f : Int → Int → Int) (x y : T3) {a b : Nat} {c : Int} (ha : a < 3) (hb : b < 3) (h : (x.at_ (a : Int) && y.at_ (b : Int)) = true) (hc : f (a : Int) (b : Int) = c) : hppart f x y (3 * a + (b + 1)) = (hppart f x y (3 * a + b)).put c true := by
  rw [← Nat.add_assoc, hppart_next f x y ha hb]
  unfold hpstep
  dsimp only
  rw [h, hc, Bool.or_true]
theorem hmin_fn (a b c : Int) (w : World) (h : min a b = c) : Calls Tryd.prog 39 #[.int .i64 a, .int .i64 b] w fun e w' => e = .returned (.int .i64 c) ∧ w = w' := by
  have HH := Lib.hid h
  clear h
  go_enter Tryd.func39, Tryd.ntmps39
  go_wp2
  go_ret
  exact ⟨by rw [← HH.out]; try rfl, rfl⟩
theorem hmax_fn (a b c : Int) (w : World) (h : max a b = c) : Calls Tryd.prog 40 #[.int .i64 a, .int .i64 b] w fun e w' => e = .returned (.int .i64 c) ∧ w = w' := by
  have HH := Lib.hid h
  clear h
  go_enter Tryd.func40, Tryd.ntmps40
  go_wp2
  go_ret
  exact ⟨by rw [← HH.out]; try rfl, rfl⟩
/-- What each round keeps: old memory, the answer's block, what is so far. -/
structure HJKeep (w0 : World) (X : T3) (w : World) : Prop where
  old : Below w0.heap.size w0 w
  ans : Row w w0.heap.size 44 (t3c hpno3)
  cur : Row w (w0.heap.size + 1) 44 (t3c X)
/-- And the next one, in h, and what becomes of both, in g. -/
structure HJKeep2 (w0 : World) (X Y T : T3) (h g : Nat) (w : World) : Prop where
  keep : HJKeep w0 X w
  far : w0.heap.size + 1 < h
  apart : h < g
  nxt : Row w h 44 (t3c Y)
  new : Row w g 44 (t3c T)
theorem HJKeep2.put {w0 w : World} {X Y T : T3} {h g : Nat} (k : HJKeep2 w0 X Y T h g w) {c : Nat} (hc : c < 3) (b : Bool) : HJKeep2 w0 X Y (T.put (c : Int) b) h g (w.setCell ⟨g, c, none⟩ (.bool b)) := by
  have hf := k.far
  have ha := k.apart
  refine ⟨⟨k.keep.old.setCell (p := ⟨g, c, none⟩) (by show w0.heap.size ≤ g; omega) _, k.keep.ans.far (p := ⟨g, c, none⟩) (by show w0.heap.size ≠ g; omega) _, k.keep.cur.far (p := ⟨g, c, none⟩) (by show w0.heap.size + 1 ≠ g; omega) _⟩, hf, ha, k.nxt.far (p := ⟨g, c, none⟩) (by show h ≠ g; omega) _, ?_⟩
  have h1 := k.new.set_ c (.bool b)
  rwa [t3c_set _ hc] at h1
def HJBRel (w0 : World) (f : Int → Int → Int) (X Y : T3) (h g a : Nat) (i : Value) (w : World) : Prop := ∃ b : Nat, b ≤ 3 ∧ i = .int .i64 (b : Int) ∧ HJKeep2 w0 X Y (hppart f X Y (3 * a + b)) h g w
def HJARel (w0 : World) (f : Int → Int → Int) (X Y : T3) (h g : Nat) (i : Value) (w : World) : Prop := ∃ a : Nat, a ≤ 3 ∧ i = .int .i64 (a : Int) ∧ HJKeep2 w0 X Y (hppart f X Y (3 * a)) h g w
def HJRel (w0 : World) (f : T3 → T3 → T3) (x : T3) (xs : List T3) (k : Value) (wr : World) : Prop := ∃ m : Nat, m ≤ xs.length ∧ k = .int .i64 (m : Int) ∧ HJKeep w0 ((xs.take m).foldl f x) wr
set_option maxHeartbeats 16000000 in
set_option maxRecDepth 100000 in
theorem hjoinedAnd_any (x : T3) (xs : List T3) (bv_ : Value) (w : World) (hb : IsR t3c (x :: xs) bv_ w) : Calls Tryd.prog 38 #[bv_, .func (.func 39) #[] #[]] w fun e w' => e = .returned (t3v (xs.foldl hpboth x)) ∧ Below w.heap.size w w' := by
  obtain ⟨A, n, c, rfl⟩ := hb.shape
  have hn1 : 1 ≤ n := by have := hb.parts.1; simp at this; omega
  obtain ⟨v17, hv17, hi17⟩ := fromR_named elemT3 (m := 3) (fun _ => rfl) (k := 1) hn1 hb
  obtain ⟨A17, n17, c17, rfl⟩ := hi17.shape
  have HXS := Lib.hid (show IsR t3c xs (.slice A17 n17 c17) w from hi17)
  have HN17 := Lib.hid HXS.out.parts.1
  have hni : (n17 : Int) ≤ 9223372036854775807 := by have h := hi17.parts; have h2 := h.2.2.1; have h3 := h.2.2.2.1; unfold maxLen at h3; omega
  have hw1 : (w.alloc (.cells #[.bool false, .bool false, .bool false] 44)).heap.size = w.heap.size + 1 := by simp
  have hba : Below w.heap.size w (w.alloc (.cells #[.bool false, .bool false, .bool false] 44)) := (Below.refl _ _).alloc (Nat.le_refl _) _
  obtain ⟨ad, rfl, had, hcell⟩ := (hb.below hba).at (m := 3) (fun _ => rfl) (by omega) (k := 0) (by simp)
  rw [show ((x :: xs)[0]'(by simp)) = x from rfl] at hcell
  obtain ⟨k0, k1, k2⟩ := cells3T hcell
  rw [Nat.zero_mul, show ad.add 0 = ad by unfold Addr.add; split <;> simp_all] at k0 k1 k2
  have hadi : (0 : Int) < (n : Int) := by omega
  have HST : Hid (HJRel w hpboth x xs (.int .i64 0) ((w.alloc (.cells #[.bool false, .bool false, .bool false] 44)).alloc (.cells #[.bool x.no, .bool x.un, .bool x.yes] 44))) := Lib.hid ⟨0, Nat.zero_le _, rfl, hba.alloc (by omega) _, (show Row (w.alloc (.cells #[.bool false, .bool false, .bool false] 44)) w.heap.size 44 [.bool false, .bool false, .bool false] from heap_alloc_new w _).alloc _, by rw [← hw1]; exact heap_alloc_new _ _⟩
  clear hb hi17 hw1 hba hcell had
  go_enter Tryd.func38, Tryd.ntmps38
  go_wp2_with (refine wpList_slicedL rfl _ _ _ rfl _ (hv17 _) ?_)
  clear k0 k1 k2
  go_wp2
  go_loopw [19] (HJRel w hpboth x xs) (fun i _ => n17 - (intOf i).toNat)
  case atStart => exact HST.out
  case round =>
    obtain ⟨m, hm, rfl, hk⟩ := hrel
    obtain ⟨w1, rfl⟩ : ∃ x, x = wr := ⟨wr, rfl⟩
    obtain ⟨w0, rfl⟩ : ∃ x, x = w := ⟨w, rfl⟩
    have HK := Lib.hid hk
    have hmn : m ≤ n17 := by have := HN17.out; omega
    obtain ⟨X, hX⟩ : ∃ X, X = (xs.take m).foldl hpboth x := ⟨_, rfl⟩
    rw [← hX] at HK
    have HXX := Lib.hid hX
    clear hk hX hm
    by_cases hlt : m < n17
    · have hml : m < xs.length := by have := HN17.out; omega
      have hlti : (m : Int) < (n17 : Int) := by omega
      obtain ⟨Y, hY⟩ : ∃ Y, Y = xs[m] := ⟨_, rfl⟩
      obtain ⟨ya, hYA, _, hcy⟩ := (HXS.out.below HK.out.old).at (m := 3) (fun _ => rfl) (by omega) hml
      subst hYA
      rw [← hY] at hcy
      obtain ⟨y0, y1, y2⟩ := cells3T hcy
      have HFN : Hid ((xs.take (m + 1)).foldl hpboth x = hpboth X Y) := Lib.hid (by rw [List.take_succ_eq_append_getElem hml, List.foldl_append, ← HXX.out, ← hY]; rfl)
      clear hcy hY
      obtain ⟨X0, X1, X2⟩ := X
      obtain ⟨Y0, Y1, Y2⟩ := Y
      dsimp only at y0 y1 y2
      obtain ⟨h, hh⟩ : ∃ h, h = w1.heap.size := ⟨_, rfl⟩
      obtain ⟨g, hg⟩ : ∃ g, g = w1.heap.size + 1 := ⟨_, rfl⟩
      have HH := Lib.hid hh
      have HG := Lib.hid hg
      have hz1 : (w1.alloc (.cells #[.bool Y0, .bool Y1, .bool Y2] 44)).heap.size = w1.heap.size + 1 := by simp
      have HKA : Hid (HJKeep2 w0 ⟨X0, X1, X2⟩ ⟨Y0, Y1, Y2⟩ (hppart min ⟨X0, X1, X2⟩ ⟨Y0, Y1, Y2⟩ 0) h g ((w1.alloc (.cells #[.bool Y0, .bool Y1, .bool Y2] 44)).alloc (.cells #[.bool false, .bool false, .bool false] 44))) := Lib.hid ⟨⟨(HK.out.old.alloc HK.out.old.size _).alloc (by have := HK.out.old.size; simp; omega) _, (HK.out.ans.alloc _).alloc _, (HK.out.cur.alloc _).alloc _⟩, by rw [hh]; exact HK.out.cur.lt, by omega, by rw [hh]; exact (show Row (w1.alloc (.cells #[.bool Y0, .bool Y1, .bool Y2] 44)) w1.heap.size 44 [.bool Y0, .bool Y1, .bool Y2] from heap_alloc_new w1 _).alloc _, by rw [hg, ← hz1]; exact heap_alloc_new _ _⟩
      have HSA := Lib.hid (show HJARel w0 min ⟨X0, X1, X2⟩ ⟨Y0, Y1, Y2⟩ h g (.int .i64 0) _ from ⟨0, by omega, rfl, HKA.out⟩)
      have c0 : ((w1.alloc (.cells #[.bool Y0, .bool Y1, .bool Y2] 44)).alloc (.cells #[.bool false, .bool false, .bool false] 44)).cell? ⟨w0.heap.size + 1, 0, none⟩ = some (.bool X0) := HKA.out.keep.cur.cell 0
      have c1 : ((w1.alloc (.cells #[.bool Y0, .bool Y1, .bool Y2] 44)).alloc (.cells #[.bool false, .bool false, .bool false] 44)).cell? ⟨w0.heap.size + 1, 1, none⟩ = some (.bool X1) := HKA.out.keep.cur.cell 1
      have c2 : ((w1.alloc (.cells #[.bool Y0, .bool Y1, .bool Y2] 44)).alloc (.cells #[.bool false, .bool false, .bool false] 44)).cell? ⟨w0.heap.size + 1, 2, none⟩ = some (.bool X2) := HKA.out.keep.cur.cell 2
      clear hh hg hz1
      go_wp2
      rw [← HG.out, ← HH.out]
      clear c0 c1 c2 y0 y1 y2
      go_loopw [24] (HJARel w0 min ⟨X0, X1, X2⟩ ⟨Y0, Y1, Y2⟩ h g) (fun i _ => 3 - (intOf i).toNat)
      case atStart => exact HSA.out
      case round =>
        obtain ⟨a, ha, rfl, hka⟩ := hrel
        obtain ⟨w2, rfl⟩ : ∃ x, x = wr := ⟨wr, rfl⟩
        have HK2 := Lib.hid hka
        clear hka
        rcases (by omega : a = 0 ∨ a = 1 ∨ a = 2 ∨ a = 3) with rfl | rfl | rfl | rfl
        · clear ha
          rw [show (((0 : Nat) : Int)) = 0 from rfl]
          have HSB := Lib.hid (show HJBRel w0 min ⟨X0, X1, X2⟩ ⟨Y0, Y1, Y2⟩ h g 0 (.int .i64 0) w2 from ⟨0, by omega, rfl, HK2.out⟩)
          have hI := (hidx3 X0 X1 X2 w2).1
          have hn3 : Row w2 h 44 [.bool Y0, .bool Y1, .bool Y2] := HK2.out.nxt
          have n0 := hn3.cell 0
          have n1 := hn3.cell 1
          have n2 := hn3.cell 2
          clear hn3
          go_wp2
          go_loopw [29] (HJBRel w0 min ⟨X0, X1, X2⟩ ⟨Y0, Y1, Y2⟩ h g 0) (fun i _ => 3 - (intOf i).toNat)
          case atStart => exact HSB.out
          case round =>
            obtain ⟨b, hb, rfl, hkb⟩ := hrel
            obtain ⟨w3, rfl⟩ : ∃ x, x = wr := ⟨wr, rfl⟩
            have HK3 := Lib.hid hkb
            clear hkb n0 n1 n2 hI
            rcases (by omega : b = 0 ∨ b = 1 ∨ b = 2 ∨ b = 3) with rfl | rfl | rfl | rfl
            · clear hb
              rw [show (((0 : Nat) : Int)) = 0 from rfl]
              have hJ := (hidx3 Y0 Y1 Y2 w3).1
              cases X0 with
              | false =>
                have HEQ : Hid (hppart min ⟨false, X1, X2⟩ ⟨Y0, Y1, Y2⟩ (3 * 0 + (0 + 1)) = hppart min ⟨false, X1, X2⟩ ⟨Y0, Y1, Y2⟩ (3 * 0 + 0)) := Lib.hid (hppart_skip min _ _ (a := 0) (b := 0) (by omega) (by omega) (by rfl))
                go_wp2
                go_roundw
                case rel => exact ⟨0 + 1, by omega, by first | rfl | go_num, by rw [HEQ.out]; exact HK3.out⟩
                case measure => simp [intOf]
              | true =>
                cases Y0 with
                | false =>
                  have HEQ : Hid (hppart min ⟨true, X1, X2⟩ ⟨false, Y1, Y2⟩ (3 * 0 + (0 + 1)) = hppart min ⟨true, X1, X2⟩ ⟨false, Y1, Y2⟩ (3 * 0 + 0)) := Lib.hid (hppart_skip min _ _ (a := 0) (b := 0) (by omega) (by omega) (by rfl))
                  go_wp2
                  go_roundw
                  case rel => exact ⟨0 + 1, by omega, by first | rfl | go_num, by rw [HEQ.out]; exact HK3.out⟩
                  case measure => simp [intOf]
                | true =>
                  have HEQ : Hid (hppart min ⟨true, X1, X2⟩ ⟨true, Y1, Y2⟩ (3 * 0 + (0 + 1)) = (hppart min ⟨true, X1, X2⟩ ⟨true, Y1, Y2⟩ (3 * 0 + 0)).put ((0 : Nat) : Int) true) := Lib.hid (hppart_hit min _ _ (a := 0) (b := 0) (by omega) (by omega) (by rfl) (by decide))
                  have HPUT := Lib.hid (HK3.out.put (c := 0) (by omega) true)
                  rw [← HEQ.out] at HPUT
                  obtain ⟨tb, htb⟩ : ∃ tb, tb = (hppart min ⟨true, X1, X2⟩ ⟨true, Y1, Y2⟩ (3 * 0 + 0)).at_ ((0 : Nat) : Int) := ⟨_, rfl⟩
                  have e1 : w3.cell? ⟨g, 0, none⟩ = some (.bool tb) := by rw [HK3.out.new.cell, t3c_at _ (by omega), htb]
                  have fr := HK3.out.new.free 0
                  clear htb
                  go_wp2_with fail
                  refine (hmin_fn 0 0 0 _ (by decide)).mono ?_
                  rintro e w4 ⟨rfl, rfl⟩
                  go_wp2
                  go_roundw
                  case rel => exact ⟨0 + 1, by omega, by first | rfl | go_num, HPUT.out⟩
                  case measure => simp [intOf]
            · clear hb
              rw [show (((1 : Nat) : Int)) = 1 from rfl]
              have hJ := (hidx3 Y0 Y1 Y2 w3).2.1
              cases X0 with
              | false =>
                have HEQ : Hid (hppart min ⟨false, X1, X2⟩ ⟨Y0, Y1, Y2⟩ (3 * 0 + (1 + 1)) = hppart min ⟨false, X1, X2⟩ ⟨Y0, Y1, Y2⟩ (3 * 0 + 1)) := Lib.hid (hppart_skip min _ _ (a := 0) (b := 1) (by omega) (by omega) (by rfl))
                go_wp2
                go_roundw
                case rel => exact ⟨1 + 1, by omega, by first | rfl | go_num, by rw [HEQ.out]; exact HK3.out⟩
                case measure => simp [intOf]
              | true =>
                cases Y1 with
                | false =>
                  have HEQ : Hid (hppart min ⟨true, X1, X2⟩ ⟨Y0, false, Y2⟩ (3 * 0 + (1 + 1)) = hppart min ⟨true, X1, X2⟩ ⟨Y0, false, Y2⟩ (3 * 0 + 1)) := Lib.hid (hppart_skip min _ _ (a := 0) (b := 1) (by omega) (by omega) (by rfl))
                  go_wp2
                  go_roundw
                  case rel => exact ⟨1 + 1, by omega, by first | rfl | go_num, by rw [HEQ.out]; exact HK3.out⟩
                  case measure => simp [intOf]
                | true =>
                  have HEQ : Hid (hppart min ⟨true, X1, X2⟩ ⟨Y0, true, Y2⟩ (3 * 0 + (1 + 1)) = (hppart min ⟨true, X1, X2⟩ ⟨Y0, true, Y2⟩ (3 * 0 + 1)).put ((0 : Nat) : Int) true) := Lib.hid (hppart_hit min _ _ (a := 0) (b := 1) (by omega) (by omega) (by rfl) (by decide))
                  have HPUT := Lib.hid (HK3.out.put (c := 0) (by omega) true)
                  rw [← HEQ.out] at HPUT
                  obtain ⟨tb, htb⟩ : ∃ tb, tb = (hppart min ⟨true, X1, X2⟩ ⟨Y0, true, Y2⟩ (3 * 0 + 1)).at_ ((0 : Nat) : Int) := ⟨_, rfl⟩
                  have e1 : w3.cell? ⟨g, 0, none⟩ = some (.bool tb) := by rw [HK3.out.new.cell, t3c_at _ (by omega), htb]
                  have fr := HK3.out.new.free 0
                  clear htb
                  go_wp2_with fail
                  refine (hmin_fn 0 1 0 _ (by decide)).mono ?_
                  rintro e w4 ⟨rfl, rfl⟩
                  go_wp2
                  go_roundw
                  case rel => exact ⟨1 + 1, by omega, by first | rfl | go_num, HPUT.out⟩
                  case measure => simp [intOf]
            · clear hb
              rw [show (((2 : Nat) : Int)) = 2 from rfl]
              have hJ := (hidx3 Y0 Y1 Y2 w3).2.2
              cases X0 with
              | false =>
                have HEQ : Hid (hppart min ⟨false, X1, X2⟩ ⟨Y0, Y1, Y2⟩ (3 * 0 + (2 + 1)) = hppart min ⟨false, X1, X2⟩ ⟨Y0, Y1, Y2⟩ (3 * 0 + 2)) := Lib.hid (hppart_skip min _ _ (a := 0) (b := 2) (by omega) (by omega) (by rfl))
                go_wp2
                go_roundw
                case rel => exact ⟨2 + 1, by omega, by first | rfl | go_num, by rw [HEQ.out]; exact HK3.out⟩
                case measure => simp [intOf]
              | true =>
                cases Y2 with
                | false =>
                  have HEQ : Hid (hppart min ⟨true, X1, X2⟩ ⟨Y0, Y1, false⟩ (3 * 0 + (2 + 1)) = hppart min ⟨true, X1, X2⟩ ⟨Y0, Y1, false⟩ (3 * 0 + 2)) := Lib.hid (hppart_skip min _ _ (a := 0) (b := 2) (by omega) (by omega) (by rfl))
                  go_wp2
                  go_roundw
                  case rel => exact ⟨2 + 1, by omega, by first | rfl | go_num, by rw [HEQ.out]; exact HK3.out⟩
                  case measure => simp [intOf]
                | true =>
                  have HEQ : Hid (hppart min ⟨true, X1, X2⟩ ⟨Y0, Y1, true⟩ (3 * 0 + (2 + 1)) = (hppart min ⟨true, X1, X2⟩ ⟨Y0, Y1, true⟩ (3 * 0 + 2)).put ((0 : Nat) : Int) true) := Lib.hid (hppart_hit min _ _ (a := 0) (b := 2) (by omega) (by omega) (by rfl) (by decide))
                  have HPUT := Lib.hid (HK3.out.put (c := 0) (by omega) true)
                  rw [← HEQ.out] at HPUT
                  obtain ⟨tb, htb⟩ : ∃ tb, tb = (hppart min ⟨true, X1, X2⟩ ⟨Y0, Y1, true⟩ (3 * 0 + 2)).at_ ((0 : Nat) : Int) := ⟨_, rfl⟩
                  have e1 : w3.cell? ⟨g, 0, none⟩ = some (.bool tb) := by rw [HK3.out.new.cell, t3c_at _ (by omega), htb]
                  have fr := HK3.out.new.free 0
                  clear htb
                  go_wp2_with fail
                  refine (hmin_fn 0 2 0 _ (by decide)).mono ?_
                  rintro e w4 ⟨rfl, rfl⟩
                  go_wp2
                  go_roundw
                  case rel => exact ⟨2 + 1, by omega, by first | rfl | go_num, HPUT.out⟩
                  case measure => simp [intOf]
            · have HEND : Hid (HJARel w0 min ⟨X0, X1, X2⟩ ⟨Y0, Y1, Y2⟩ h g (.int .i64 1) w3) := Lib.hid ⟨1, by omega, rfl, HK3.out⟩
              go_wp2
              go_roundw
              case rel => exact HEND.out
              case measure => simp [intOf]
        · clear ha
          rw [show (((1 : Nat) : Int)) = 1 from rfl]
          have HSB := Lib.hid (show HJBRel w0 min ⟨X0, X1, X2⟩ ⟨Y0, Y1, Y2⟩ h g 1 (.int .i64 0) w2 from ⟨0, by omega, rfl, HK2.out⟩)
          have hI := (hidx3 X0 X1 X2 w2).2.1
          have hn3 : Row w2 h 44 [.bool Y0, .bool Y1, .bool Y2] := HK2.out.nxt
          have n0 := hn3.cell 0
          have n1 := hn3.cell 1
          have n2 := hn3.cell 2
          clear hn3
          go_wp2
          go_loopw [29] (HJBRel w0 min ⟨X0, X1, X2⟩ ⟨Y0, Y1, Y2⟩ h g 1) (fun i _ => 3 - (intOf i).toNat)
          case atStart => exact HSB.out
          case round =>
            obtain ⟨b, hb, rfl, hkb⟩ := hrel
            obtain ⟨w3, rfl⟩ : ∃ x, x = wr := ⟨wr, rfl⟩
            have HK3 := Lib.hid hkb
            clear hkb n0 n1 n2 hI
            rcases (by omega : b = 0 ∨ b = 1 ∨ b = 2 ∨ b = 3) with rfl | rfl | rfl | rfl
            · clear hb
              rw [show (((0 : Nat) : Int)) = 0 from rfl]
              have hJ := (hidx3 Y0 Y1 Y2 w3).1
              cases X1 with
              | false =>
                have HEQ : Hid (hppart min ⟨X0, false, X2⟩ ⟨Y0, Y1, Y2⟩ (3 * 1 + (0 + 1)) = hppart min ⟨X0, false, X2⟩ ⟨Y0, Y1, Y2⟩ (3 * 1 + 0)) := Lib.hid (hppart_skip min _ _ (a := 1) (b := 0) (by omega) (by omega) (by rfl))
                go_wp2
                go_roundw
                case rel => exact ⟨0 + 1, by omega, by first | rfl | go_num, by rw [HEQ.out]; exact HK3.out⟩
                case measure => simp [intOf]
              | true =>
                cases Y0 with
                | false =>
                  have HEQ : Hid (hppart min ⟨X0, true, X2⟩ ⟨false, Y1, Y2⟩ (3 * 1 + (0 + 1)) = hppart min ⟨X0, true, X2⟩ ⟨false, Y1, Y2⟩ (3 * 1 + 0)) := Lib.hid (hppart_skip min _ _ (a := 1) (b := 0) (by omega) (by omega) (by rfl))
                  go_wp2
                  go_roundw
                  case rel => exact ⟨0 + 1, by omega, by first | rfl | go_num, by rw [HEQ.out]; exact HK3.out⟩
                  case measure => simp [intOf]
                | true =>
                  have HEQ : Hid (hppart min ⟨X0, true, X2⟩ ⟨true, Y1, Y2⟩ (3 * 1 + (0 + 1)) = (hppart min ⟨X0, true, X2⟩ ⟨true, Y1, Y2⟩ (3 * 1 + 0)).put ((0 : Nat) : Int) true) := Lib.hid (hppart_hit min _ _ (a := 1) (b := 0) (by omega) (by omega) (by rfl) (by decide))
                  have HPUT := Lib.hid (HK3.out.put (c := 0) (by omega) true)
                  rw [← HEQ.out] at HPUT
                  obtain ⟨tb, htb⟩ : ∃ tb, tb = (hppart min ⟨X0, true, X2⟩ ⟨true, Y1, Y2⟩ (3 * 1 + 0)).at_ ((0 : Nat) : Int) := ⟨_, rfl⟩
                  have e1 : w3.cell? ⟨g, 0, none⟩ = some (.bool tb) := by rw [HK3.out.new.cell, t3c_at _ (by omega), htb]
                  have fr := HK3.out.new.free 0
                  clear htb
                  go_wp2_with fail
                  refine (hmin_fn 1 0 0 _ (by decide)).mono ?_
                  rintro e w4 ⟨rfl, rfl⟩
                  go_wp2
                  go_roundw
                  case rel => exact ⟨0 + 1, by omega, by first | rfl | go_num, HPUT.out⟩
                  case measure => simp [intOf]
            · clear hb
              rw [show (((1 : Nat) : Int)) = 1 from rfl]
              have hJ := (hidx3 Y0 Y1 Y2 w3).2.1
              cases X1 with
              | false =>
                have HEQ : Hid (hppart min ⟨X0, false, X2⟩ ⟨Y0, Y1, Y2⟩ (3 * 1 + (1 + 1)) = hppart min ⟨X0, false, X2⟩ ⟨Y0, Y1, Y2⟩ (3 * 1 + 1)) := Lib.hid (hppart_skip min _ _ (a := 1) (b := 1) (by omega) (by omega) (by rfl))
                go_wp2
                go_roundw
                case rel => exact ⟨1 + 1, by omega, by first | rfl | go_num, by rw [HEQ.out]; exact HK3.out⟩
                case measure => simp [intOf]
              | true =>
                cases Y1 with
                | false =>
                  have HEQ : Hid (hppart min ⟨X0, true, X2⟩ ⟨Y0, false, Y2⟩ (3 * 1 + (1 + 1)) = hppart min ⟨X0, true, X2⟩ ⟨Y0, false, Y2⟩ (3 * 1 + 1)) := Lib.hid (hppart_skip min _ _ (a := 1) (b := 1) (by omega) (by omega) (by rfl))
                  go_wp2
                  go_roundw
                  case rel => exact ⟨1 + 1, by omega, by first | rfl | go_num, by rw [HEQ.out]; exact HK3.out⟩
                  case measure => simp [intOf]
                | true =>
                  have HEQ : Hid (hppart min ⟨X0, true, X2⟩ ⟨Y0, true, Y2⟩ (3 * 1 + (1 + 1)) = (hppart min ⟨X0, true, X2⟩ ⟨Y0, true, Y2⟩ (3 * 1 + 1)).put ((1 : Nat) : Int) true) := Lib.hid (hppart_hit min _ _ (a := 1) (b := 1) (by omega) (by omega) (by rfl) (by decide))
                  have HPUT := Lib.hid (HK3.out.put (c := 1) (by omega) true)
                  rw [← HEQ.out] at HPUT
                  obtain ⟨tb, htb⟩ : ∃ tb, tb = (hppart min ⟨X0, true, X2⟩ ⟨Y0, true, Y2⟩ (3 * 1 + 1)).at_ ((1 : Nat) : Int) := ⟨_, rfl⟩
                  have e1 : w3.cell? ⟨g, 1, none⟩ = some (.bool tb) := by rw [HK3.out.new.cell, t3c_at _ (by omega), htb]
                  have fr := HK3.out.new.free 1
                  clear htb
                  go_wp2_with fail
                  refine (hmin_fn 1 1 1 _ (by decide)).mono ?_
                  rintro e w4 ⟨rfl, rfl⟩
                  go_wp2
                  go_roundw
                  case rel => exact ⟨1 + 1, by omega, by first | rfl | go_num, HPUT.out⟩
                  case measure => simp [intOf]
            · clear hb
              rw [show (((2 : Nat) : Int)) = 2 from rfl]
              have hJ := (hidx3 Y0 Y1 Y2 w3).2.2
              cases X1 with
              | false =>
                have HEQ : Hid (hppart min ⟨X0, false, X2⟩ ⟨Y0, Y1, Y2⟩ (3 * 1 + (2 + 1)) = hppart min ⟨X0, false, X2⟩ ⟨Y0, Y1, Y2⟩ (3 * 1 + 2)) := Lib.hid (hppart_skip min _ _ (a := 1) (b := 2) (by omega) (by omega) (by rfl))
                go_wp2
                go_roundw
                case rel => exact ⟨2 + 1, by omega, by first | rfl | go_num, by rw [HEQ.out]; exact HK3.out⟩
                case measure => simp [intOf]
              | true =>
                cases Y2 with
                | false =>
                  have HEQ : Hid (hppart min ⟨X0, true, X2⟩ ⟨Y0, Y1, false⟩ (3 * 1 + (2 + 1)) = hppart min ⟨X0, true, X2⟩ ⟨Y0, Y1, false⟩ (3 * 1 + 2)) := Lib.hid (hppart_skip min _ _ (a := 1) (b := 2) (by omega) (by omega) (by rfl))
                  go_wp2
                  go_roundw
                  case rel => exact ⟨2 + 1, by omega, by first | rfl | go_num, by rw [HEQ.out]; exact HK3.out⟩
                  case measure => simp [intOf]
                | true =>
                  have HEQ : Hid (hppart min ⟨X0, true, X2⟩ ⟨Y0, Y1, true⟩ (3 * 1 + (2 + 1)) = (hppart min ⟨X0, true, X2⟩ ⟨Y0, Y1, true⟩ (3 * 1 + 2)).put ((1 : Nat) : Int) true) := Lib.hid (hppart_hit min _ _ (a := 1) (b := 2) (by omega) (by omega) (by rfl) (by decide))
                  have HPUT := Lib.hid (HK3.out.put (c := 1) (by omega) true)
                  rw [← HEQ.out] at HPUT
                  obtain ⟨tb, htb⟩ : ∃ tb, tb = (hppart min ⟨X0, true, X2⟩ ⟨Y0, Y1, true⟩ (3 * 1 + 2)).at_ ((1 : Nat) : Int) := ⟨_, rfl⟩
                  have e1 : w3.cell? ⟨g, 1, none⟩ = some (.bool tb) := by rw [HK3.out.new.cell, t3c_at _ (by omega), htb]
                  have fr := HK3.out.new.free 1
                  clear htb
                  go_wp2_with fail
                  refine (hmin_fn 1 2 1 _ (by decide)).mono ?_
                  rintro e w4 ⟨rfl, rfl⟩
                  go_wp2
                  go_roundw
                  case rel => exact ⟨2 + 1, by omega, by first | rfl | go_num, HPUT.out⟩
                  case measure => simp [intOf]
            · have HEND : Hid (HJARel w0 min ⟨X0, X1, X2⟩ ⟨Y0, Y1, Y2⟩ h g (.int .i64 2) w3) := Lib.hid ⟨2, by omega, rfl, HK3.out⟩
              go_wp2
              go_roundw
              case rel => exact HEND.out
              case measure => simp [intOf]
        · clear ha
          rw [show (((2 : Nat) : Int)) = 2 from rfl]
          have HSB := Lib.hid (show HJBRel w0 min ⟨X0, X1, X2⟩ ⟨Y0, Y1, Y2⟩ h g 2 (.int .i64 0) w2 from ⟨0, by omega, rfl, HK2.out⟩)
          have hI := (hidx3 X0 X1 X2 w2).2.2
          have hn3 : Row w2 h 44 [.bool Y0, .bool Y1, .bool Y2] := HK2.out.nxt
          have n0 := hn3.cell 0
          have n1 := hn3.cell 1
          have n2 := hn3.cell 2
          clear hn3
          go_wp2
          go_loopw [29] (HJBRel w0 min ⟨X0, X1, X2⟩ ⟨Y0, Y1, Y2⟩ h g 2) (fun i _ => 3 - (intOf i).toNat)
          case atStart => exact HSB.out
          case round =>
            obtain ⟨b, hb, rfl, hkb⟩ := hrel
            obtain ⟨w3, rfl⟩ : ∃ x, x = wr := ⟨wr, rfl⟩
            have HK3 := Lib.hid hkb
            clear hkb n0 n1 n2 hI
            rcases (by omega : b = 0 ∨ b = 1 ∨ b = 2 ∨ b = 3) with rfl | rfl | rfl | rfl
            · clear hb
              rw [show (((0 : Nat) : Int)) = 0 from rfl]
              have hJ := (hidx3 Y0 Y1 Y2 w3).1
              cases X2 with
              | false =>
                have HEQ : Hid (hppart min ⟨X0, X1, false⟩ ⟨Y0, Y1, Y2⟩ (3 * 2 + (0 + 1)) = hppart min ⟨X0, X1, false⟩ ⟨Y0, Y1, Y2⟩ (3 * 2 + 0)) := Lib.hid (hppart_skip min _ _ (a := 2) (b := 0) (by omega) (by omega) (by rfl))
                go_wp2
                go_roundw
                case rel => exact ⟨0 + 1, by omega, by first | rfl | go_num, by rw [HEQ.out]; exact HK3.out⟩
                case measure => simp [intOf]
              | true =>
                cases Y0 with
                | false =>
                  have HEQ : Hid (hppart min ⟨X0, X1, true⟩ ⟨false, Y1, Y2⟩ (3 * 2 + (0 + 1)) = hppart min ⟨X0, X1, true⟩ ⟨false, Y1, Y2⟩ (3 * 2 + 0)) := Lib.hid (hppart_skip min _ _ (a := 2) (b := 0) (by omega) (by omega) (by rfl))
                  go_wp2
                  go_roundw
                  case rel => exact ⟨0 + 1, by omega, by first | rfl | go_num, by rw [HEQ.out]; exact HK3.out⟩
                  case measure => simp [intOf]
                | true =>
                  have HEQ : Hid (hppart min ⟨X0, X1, true⟩ ⟨true, Y1, Y2⟩ (3 * 2 + (0 + 1)) = (hppart min ⟨X0, X1, true⟩ ⟨true, Y1, Y2⟩ (3 * 2 + 0)).put ((0 : Nat) : Int) true) := Lib.hid (hppart_hit min _ _ (a := 2) (b := 0) (by omega) (by omega) (by rfl) (by decide))
                  have HPUT := Lib.hid (HK3.out.put (c := 0) (by omega) true)
                  rw [← HEQ.out] at HPUT
                  obtain ⟨tb, htb⟩ : ∃ tb, tb = (hppart min ⟨X0, X1, true⟩ ⟨true, Y1, Y2⟩ (3 * 2 + 0)).at_ ((0 : Nat) : Int) := ⟨_, rfl⟩
                  have e1 : w3.cell? ⟨g, 0, none⟩ = some (.bool tb) := by rw [HK3.out.new.cell, t3c_at _ (by omega), htb]
                  have fr := HK3.out.new.free 0
                  clear htb
                  go_wp2_with fail
                  refine (hmin_fn 2 0 0 _ (by decide)).mono ?_
                  rintro e w4 ⟨rfl, rfl⟩
                  go_wp2
                  go_roundw
                  case rel => exact ⟨0 + 1, by omega, by first | rfl | go_num, HPUT.out⟩
                  case measure => simp [intOf]
            · clear hb
              rw [show (((1 : Nat) : Int)) = 1 from rfl]
              have hJ := (hidx3 Y0 Y1 Y2 w3).2.1
              cases X2 with
              | false =>
                have HEQ : Hid (hppart min ⟨X0, X1, false⟩ ⟨Y0, Y1, Y2⟩ (3 * 2 + (1 + 1)) = hppart min ⟨X0, X1, false⟩ ⟨Y0, Y1, Y2⟩ (3 * 2 + 1)) := Lib.hid (hppart_skip min _ _ (a := 2) (b := 1) (by omega) (by omega) (by rfl))
                go_wp2
                go_roundw
                case rel => exact ⟨1 + 1, by omega, by first | rfl | go_num, by rw [HEQ.out]; exact HK3.out⟩
                case measure => simp [intOf]
              | true =>
                cases Y1 with
                | false =>
                  have HEQ : Hid (hppart min ⟨X0, X1, true⟩ ⟨Y0, false, Y2⟩ (3 * 2 + (1 + 1)) = hppart min ⟨X0, X1, true⟩ ⟨Y0, false, Y2⟩ (3 * 2 + 1)) := Lib.hid (hppart_skip min _ _ (a := 2) (b := 1) (by omega) (by omega) (by rfl))
                  go_wp2
                  go_roundw
                  case rel => exact ⟨1 + 1, by omega, by first | rfl | go_num, by rw [HEQ.out]; exact HK3.out⟩
                  case measure => simp [intOf]
                | true =>
                  have HEQ : Hid (hppart min ⟨X0, X1, true⟩ ⟨Y0, true, Y2⟩ (3 * 2 + (1 + 1)) = (hppart min ⟨X0, X1, true⟩ ⟨Y0, true, Y2⟩ (3 * 2 + 1)).put ((1 : Nat) : Int) true) := Lib.hid (hppart_hit min _ _ (a := 2) (b := 1) (by omega) (by omega) (by rfl) (by decide))
                  have HPUT := Lib.hid (HK3.out.put (c := 1) (by omega) true)
                  rw [← HEQ.out] at HPUT
                  obtain ⟨tb, htb⟩ : ∃ tb, tb = (hppart min ⟨X0, X1, true⟩ ⟨Y0, true, Y2⟩ (3 * 2 + 1)).at_ ((1 : Nat) : Int) := ⟨_, rfl⟩
                  have e1 : w3.cell? ⟨g, 1, none⟩ = some (.bool tb) := by rw [HK3.out.new.cell, t3c_at _ (by omega), htb]
                  have fr := HK3.out.new.free 1
                  clear htb
                  go_wp2_with fail
                  refine (hmin_fn 2 1 1 _ (by decide)).mono ?_
                  rintro e w4 ⟨rfl, rfl⟩
                  go_wp2
                  go_roundw
                  case rel => exact ⟨1 + 1, by omega, by first | rfl | go_num, HPUT.out⟩
                  case measure => simp [intOf]
            · clear hb
              rw [show (((2 : Nat) : Int)) = 2 from rfl]
              have hJ := (hidx3 Y0 Y1 Y2 w3).2.2
              cases X2 with
              | false =>
                have HEQ : Hid (hppart min ⟨X0, X1, false⟩ ⟨Y0, Y1, Y2⟩ (3 * 2 + (2 + 1)) = hppart min ⟨X0, X1, false⟩ ⟨Y0, Y1, Y2⟩ (3 * 2 + 2)) := Lib.hid (hppart_skip min _ _ (a := 2) (b := 2) (by omega) (by omega) (by rfl))
                go_wp2
                go_roundw
                case rel => exact ⟨2 + 1, by omega, by first | rfl | go_num, by rw [HEQ.out]; exact HK3.out⟩
                case measure => simp [intOf]
              | true =>
                cases Y2 with
                | false =>
                  have HEQ : Hid (hppart min ⟨X0, X1, true⟩ ⟨Y0, Y1, false⟩ (3 * 2 + (2 + 1)) = hppart min ⟨X0, X1, true⟩ ⟨Y0, Y1, false⟩ (3 * 2 + 2)) := Lib.hid (hppart_skip min _ _ (a := 2) (b := 2) (by omega) (by omega) (by rfl))
                  go_wp2
                  go_roundw
                  case rel => exact ⟨2 + 1, by omega, by first | rfl | go_num, by rw [HEQ.out]; exact HK3.out⟩
                  case measure => simp [intOf]
                | true =>
                  have HEQ : Hid (hppart min ⟨X0, X1, true⟩ ⟨Y0, Y1, true⟩ (3 * 2 + (2 + 1)) = (hppart min ⟨X0, X1, true⟩ ⟨Y0, Y1, true⟩ (3 * 2 + 2)).put ((2 : Nat) : Int) true) := Lib.hid (hppart_hit min _ _ (a := 2) (b := 2) (by omega) (by omega) (by rfl) (by decide))
                  have HPUT := Lib.hid (HK3.out.put (c := 2) (by omega) true)
                  rw [← HEQ.out] at HPUT
                  obtain ⟨tb, htb⟩ : ∃ tb, tb = (hppart min ⟨X0, X1, true⟩ ⟨Y0, Y1, true⟩ (3 * 2 + 2)).at_ ((2 : Nat) : Int) := ⟨_, rfl⟩
                  have e1 : w3.cell? ⟨g, 2, none⟩ = some (.bool tb) := by rw [HK3.out.new.cell, t3c_at _ (by omega), htb]
                  have fr := HK3.out.new.free 2
                  clear htb
                  go_wp2_with fail
                  refine (hmin_fn 2 2 2 _ (by decide)).mono ?_
                  rintro e w4 ⟨rfl, rfl⟩
                  go_wp2
                  go_roundw
                  case rel => exact ⟨2 + 1, by omega, by first | rfl | go_num, HPUT.out⟩
                  case measure => simp [intOf]
            · have HEND : Hid (HJARel w0 min ⟨X0, X1, X2⟩ ⟨Y0, Y1, Y2⟩ h g (.int .i64 3) w3) := Lib.hid ⟨3, by omega, rfl, HK3.out⟩
              go_wp2
              go_roundw
              case rel => exact HEND.out
              case measure => simp [intOf]
        · have HFULL : Hid (hppart min ⟨X0, X1, X2⟩ ⟨Y0, Y1, Y2⟩ (3 * 3) = hpboth ⟨X0, X1, X2⟩ ⟨Y0, Y1, Y2⟩) := Lib.hid (hppart_and ⟨X0, X1, X2⟩ ⟨Y0, Y1, Y2⟩)
          have hnew := HK2.out.new
          have hcur := HK2.out.keep.cur
          rw [HFULL.out] at hnew
          have hold := HK2.out.keep.old
          obtain ⟨Z, hZ⟩ : ∃ Z, Z = hpboth ⟨X0, X1, X2⟩ ⟨Y0, Y1, Y2⟩ := ⟨_, rfl⟩
          rw [← hZ] at hnew
          have HZZ := Lib.hid hZ
          have HANS := Lib.hid HK2.out.keep.ans
          have hnew3 : Row w2 g 44 [.bool Z.no, .bool Z.un, .bool Z.yes] := hnew
          have z0 := hnew3.cell 0
          have z1 := hnew3.cell 1
          have z2 := hnew3.cell 2
          clear hZ hnew3 ha
          go_wp2_with (refine wpList_storeW rfl _ _ _ rfl (w0.heap.size + 1) 0 44 (t3c ⟨X0, X1, X2⟩) (t3c Z) (t3c Z) rfl rfl rfl hcur infoA_size (Nat.le_refl _) (t3_one _ _ _) w0 w0.heap.size hold (by omega) ?_)
          intro w4 hr4 hb4 hk4
          have HEND : Hid (HJRel w0 hpboth x xs (.int .i64 ((m : Int) + 1)) w4) := Lib.hid ⟨m + 1, by omega, by go_num, by rw [HFN.out, ← HZZ.out]; exact ⟨hb4, hk4 _ _ _ (by omega) HANS.out, by simpa using hr4⟩⟩
          clear hr4 hb4 hk4 hnew hcur hold
          go_wp2
          go_roundw
          case rel => exact HEND.out
          case measure => simp [intOf]; omega
    · obtain rfl : m = n17 := by omega
      have hlti : ¬ (m : Int) < (m : Int) := by omega
      have HXE : Hid (xs.foldl hpboth x = X) := Lib.hid (by
        have h := HXX.out
        rw [List.take_of_length_le (by have := HN17.out; omega)] at h
        exact h.symm)
      have hans := HK.out.ans
      have hold := HK.out.old
      have hcur3 : Row w1 (w0.heap.size + 1) 44 [.bool X.no, .bool X.un, .bool X.yes] := HK.out.cur
      have c0 := hcur3.cell 0
      have c1 := hcur3.cell 1
      have c2 := hcur3.cell 2
      clear hcur3
      go_wp2_with (refine wpList_storeW rfl _ _ _ rfl w0.heap.size 0 44 (t3c hpno3) (t3c X) (t3c X) rfl rfl rfl hans infoA_size (Nat.le_refl _) (t3_one _ _ _) w0 w0.heap.size hold (Nat.le_refl _) ?_)
      intro wF hrF hbF _
      have HR : Hid (Row wF w0.heap.size 44 [.bool X.no, .bool X.un, .bool X.yes]) := Lib.hid (by simpa [t3c] using hrF)
      have HBF := Lib.hid hbF
      clear hrF hbF hans hold c0 c1 c2
      go_wp2
      refine bodyPost_ret (v := .agg #[.bool X.no, .bool X.un, .bool X.yes]) (results_cell_row rfl _ _ w0.heap.size _ _ (0, 0) _ rfl HR.out Tryd.underlying44 rfl (by kernel_rfl)) rfl ?_
      exact ⟨by rw [HXE.out]; rfl, HBF.out⟩
set_option maxHeartbeats 16000000 in
set_option maxRecDepth 100000 in
theorem hjoinedOr_any (x : T3) (xs : List T3) (bv_ : Value) (w : World) (hb : IsR t3c (x :: xs) bv_ w) : Calls Tryd.prog 38 #[bv_, .func (.func 40) #[] #[]] w fun e w' => e = .returned (t3v (xs.foldl hpone x)) ∧ Below w.heap.size w w' := by
  obtain ⟨A, n, c, rfl⟩ := hb.shape
  have hn1 : 1 ≤ n := by have := hb.parts.1; simp at this; omega
  obtain ⟨v17, hv17, hi17⟩ := fromR_named elemT3 (m := 3) (fun _ => rfl) (k := 1) hn1 hb
  obtain ⟨A17, n17, c17, rfl⟩ := hi17.shape
  have HXS := Lib.hid (show IsR t3c xs (.slice A17 n17 c17) w from hi17)
  have HN17 := Lib.hid HXS.out.parts.1
  have hni : (n17 : Int) ≤ 9223372036854775807 := by have h := hi17.parts; have h2 := h.2.2.1; have h3 := h.2.2.2.1; unfold maxLen at h3; omega
  have hw1 : (w.alloc (.cells #[.bool false, .bool false, .bool false] 44)).heap.size = w.heap.size + 1 := by simp
  have hba : Below w.heap.size w (w.alloc (.cells #[.bool false, .bool false, .bool false] 44)) := (Below.refl _ _).alloc (Nat.le_refl _) _
  obtain ⟨ad, rfl, had, hcell⟩ := (hb.below hba).at (m := 3) (fun _ => rfl) (by omega) (k := 0) (by simp)
  rw [show ((x :: xs)[0]'(by simp)) = x from rfl] at hcell
  obtain ⟨k0, k1, k2⟩ := cells3T hcell
  rw [Nat.zero_mul, show ad.add 0 = ad by unfold Addr.add; split <;> simp_all] at k0 k1 k2
  have hadi : (0 : Int) < (n : Int) := by omega
  have HST : Hid (HJRel w hpone x xs (.int .i64 0) ((w.alloc (.cells #[.bool false, .bool false, .bool false] 44)).alloc (.cells #[.bool x.no, .bool x.un, .bool x.yes] 44))) := Lib.hid ⟨0, Nat.zero_le _, rfl, hba.alloc (by omega) _, (show Row (w.alloc (.cells #[.bool false, .bool false, .bool false] 44)) w.heap.size 44 [.bool false, .bool false, .bool false] from heap_alloc_new w _).alloc _, by rw [← hw1]; exact heap_alloc_new _ _⟩
  clear hb hi17 hw1 hba hcell had
  go_enter Tryd.func38, Tryd.ntmps38
  go_wp2_with (refine wpList_slicedL rfl _ _ _ rfl _ (hv17 _) ?_)
  clear k0 k1 k2
  go_wp2
  go_loopw [19] (HJRel w hpone x xs) (fun i _ => n17 - (intOf i).toNat)
  case atStart => exact HST.out
  case round =>
    obtain ⟨m, hm, rfl, hk⟩ := hrel
    obtain ⟨w1, rfl⟩ : ∃ x, x = wr := ⟨wr, rfl⟩
    obtain ⟨w0, rfl⟩ : ∃ x, x = w := ⟨w, rfl⟩
    have HK := Lib.hid hk
    have hmn : m ≤ n17 := by have := HN17.out; omega
    obtain ⟨X, hX⟩ : ∃ X, X = (xs.take m).foldl hpone x := ⟨_, rfl⟩
    rw [← hX] at HK
    have HXX := Lib.hid hX
    clear hk hX hm
    by_cases hlt : m < n17
    · have hml : m < xs.length := by have := HN17.out; omega
      have hlti : (m : Int) < (n17 : Int) := by omega
      obtain ⟨Y, hY⟩ : ∃ Y, Y = xs[m] := ⟨_, rfl⟩
      obtain ⟨ya, hYA, _, hcy⟩ := (HXS.out.below HK.out.old).at (m := 3) (fun _ => rfl) (by omega) hml
      subst hYA
      rw [← hY] at hcy
      obtain ⟨y0, y1, y2⟩ := cells3T hcy
      have HFN : Hid ((xs.take (m + 1)).foldl hpone x = hpone X Y) := Lib.hid (by rw [List.take_succ_eq_append_getElem hml, List.foldl_append, ← HXX.out, ← hY]; rfl)
      clear hcy hY
      obtain ⟨X0, X1, X2⟩ := X
      obtain ⟨Y0, Y1, Y2⟩ := Y
      dsimp only at y0 y1 y2
      obtain ⟨h, hh⟩ : ∃ h, h = w1.heap.size := ⟨_, rfl⟩
      obtain ⟨g, hg⟩ : ∃ g, g = w1.heap.size + 1 := ⟨_, rfl⟩
      have HH := Lib.hid hh
      have HG := Lib.hid hg
      have hz1 : (w1.alloc (.cells #[.bool Y0, .bool Y1, .bool Y2] 44)).heap.size = w1.heap.size + 1 := by simp
      have HKA : Hid (HJKeep2 w0 ⟨X0, X1, X2⟩ ⟨Y0, Y1, Y2⟩ (hppart max ⟨X0, X1, X2⟩ ⟨Y0, Y1, Y2⟩ 0) h g ((w1.alloc (.cells #[.bool Y0, .bool Y1, .bool Y2] 44)).alloc (.cells #[.bool false, .bool false, .bool false] 44))) := Lib.hid ⟨⟨(HK.out.old.alloc HK.out.old.size _).alloc (by have := HK.out.old.size; simp; omega) _, (HK.out.ans.alloc _).alloc _, (HK.out.cur.alloc _).alloc _⟩, by rw [hh]; exact HK.out.cur.lt, by omega, by rw [hh]; exact (show Row (w1.alloc (.cells #[.bool Y0, .bool Y1, .bool Y2] 44)) w1.heap.size 44 [.bool Y0, .bool Y1, .bool Y2] from heap_alloc_new w1 _).alloc _, by rw [hg, ← hz1]; exact heap_alloc_new _ _⟩
      have HSA := Lib.hid (show HJARel w0 max ⟨X0, X1, X2⟩ ⟨Y0, Y1, Y2⟩ h g (.int .i64 0) _ from ⟨0, by omega, rfl, HKA.out⟩)
      have c0 : ((w1.alloc (.cells #[.bool Y0, .bool Y1, .bool Y2] 44)).alloc (.cells #[.bool false, .bool false, .bool false] 44)).cell? ⟨w0.heap.size + 1, 0, none⟩ = some (.bool X0) := HKA.out.keep.cur.cell 0
      have c1 : ((w1.alloc (.cells #[.bool Y0, .bool Y1, .bool Y2] 44)).alloc (.cells #[.bool false, .bool false, .bool false] 44)).cell? ⟨w0.heap.size + 1, 1, none⟩ = some (.bool X1) := HKA.out.keep.cur.cell 1
      have c2 : ((w1.alloc (.cells #[.bool Y0, .bool Y1, .bool Y2] 44)).alloc (.cells #[.bool false, .bool false, .bool false] 44)).cell? ⟨w0.heap.size + 1, 2, none⟩ = some (.bool X2) := HKA.out.keep.cur.cell 2
      clear hh hg hz1
      go_wp2
      rw [← HG.out, ← HH.out]
      clear c0 c1 c2 y0 y1 y2
      go_loopw [24] (HJARel w0 max ⟨X0, X1, X2⟩ ⟨Y0, Y1, Y2⟩ h g) (fun i _ => 3 - (intOf i).toNat)
      case atStart => exact HSA.out
      case round =>
        obtain ⟨a, ha, rfl, hka⟩ := hrel
        obtain ⟨w2, rfl⟩ : ∃ x, x = wr := ⟨wr, rfl⟩
        have HK2 := Lib.hid hka
        clear hka
        rcases (by omega : a = 0 ∨ a = 1 ∨ a = 2 ∨ a = 3) with rfl | rfl | rfl | rfl
        · clear ha
          rw [show (((0 : Nat) : Int)) = 0 from rfl]
          have HSB := Lib.hid (show HJBRel w0 max ⟨X0, X1, X2⟩ ⟨Y0, Y1, Y2⟩ h g 0 (.int .i64 0) w2 from ⟨0, by omega, rfl, HK2.out⟩)
          have hI := (hidx3 X0 X1 X2 w2).1
          have hn3 : Row w2 h 44 [.bool Y0, .bool Y1, .bool Y2] := HK2.out.nxt
          have n0 := hn3.cell 0
          have n1 := hn3.cell 1
          have n2 := hn3.cell 2
          clear hn3
          go_wp2
          go_loopw [29] (HJBRel w0 max ⟨X0, X1, X2⟩ ⟨Y0, Y1, Y2⟩ h g 0) (fun i _ => 3 - (intOf i).toNat)
          case atStart => exact HSB.out
          case round =>
            obtain ⟨b, hb, rfl, hkb⟩ := hrel
            obtain ⟨w3, rfl⟩ : ∃ x, x = wr := ⟨wr, rfl⟩
            have HK3 := Lib.hid hkb
            clear hkb n0 n1 n2 hI
            rcases (by omega : b = 0 ∨ b = 1 ∨ b = 2 ∨ b = 3) with rfl | rfl | rfl | rfl
            · clear hb
              rw [show (((0 : Nat) : Int)) = 0 from rfl]
              have hJ := (hidx3 Y0 Y1 Y2 w3).1
              cases X0 with
              | false =>
                have HEQ : Hid (hppart max ⟨false, X1, X2⟩ ⟨Y0, Y1, Y2⟩ (3 * 0 + (0 + 1)) = hppart max ⟨false, X1, X2⟩ ⟨Y0, Y1, Y2⟩ (3 * 0 + 0)) := Lib.hid (hppart_skip max _ _ (a := 0) (b := 0) (by omega) (by omega) (by rfl))
                go_wp2
                go_roundw
                case rel => exact ⟨0 + 1, by omega, by first | rfl | go_num, by rw [HEQ.out]; exact HK3.out⟩
                case measure => simp [intOf]
              | true =>
                cases Y0 with
                | false =>
                  have HEQ : Hid (hppart max ⟨true, X1, X2⟩ ⟨false, Y1, Y2⟩ (3 * 0 + (0 + 1)) = hppart max ⟨true, X1, X2⟩ ⟨false, Y1, Y2⟩ (3 * 0 + 0)) := Lib.hid (hppart_skip max _ _ (a := 0) (b := 0) (by omega) (by omega) (by rfl))
                  go_wp2
                  go_roundw
                  case rel => exact ⟨0 + 1, by omega, by first | rfl | go_num, by rw [HEQ.out]; exact HK3.out⟩
                  case measure => simp [intOf]
                | true =>
                  have HEQ : Hid (hppart max ⟨true, X1, X2⟩ ⟨true, Y1, Y2⟩ (3 * 0 + (0 + 1)) = (hppart max ⟨true, X1, X2⟩ ⟨true, Y1, Y2⟩ (3 * 0 + 0)).put ((0 : Nat) : Int) true) := Lib.hid (hppart_hit max _ _ (a := 0) (b := 0) (by omega) (by omega) (by rfl) (by decide))
                  have HPUT := Lib.hid (HK3.out.put (c := 0) (by omega) true)
                  rw [← HEQ.out] at HPUT
                  obtain ⟨tb, htb⟩ : ∃ tb, tb = (hppart max ⟨true, X1, X2⟩ ⟨true, Y1, Y2⟩ (3 * 0 + 0)).at_ ((0 : Nat) : Int) := ⟨_, rfl⟩
                  have e1 : w3.cell? ⟨g, 0, none⟩ = some (.bool tb) := by rw [HK3.out.new.cell, t3c_at _ (by omega), htb]
                  have fr := HK3.out.new.free 0
                  clear htb
                  go_wp2_with fail
                  refine (hmax_fn 0 0 0 _ (by decide)).mono ?_
                  rintro e w4 ⟨rfl, rfl⟩
                  go_wp2
                  go_roundw
                  case rel => exact ⟨0 + 1, by omega, by first | rfl | go_num, HPUT.out⟩
                  case measure => simp [intOf]
            · clear hb
              rw [show (((1 : Nat) : Int)) = 1 from rfl]
              have hJ := (hidx3 Y0 Y1 Y2 w3).2.1
              cases X0 with
              | false =>
                have HEQ : Hid (hppart max ⟨false, X1, X2⟩ ⟨Y0, Y1, Y2⟩ (3 * 0 + (1 + 1)) = hppart max ⟨false, X1, X2⟩ ⟨Y0, Y1, Y2⟩ (3 * 0 + 1)) := Lib.hid (hppart_skip max _ _ (a := 0) (b := 1) (by omega) (by omega) (by rfl))
                go_wp2
                go_roundw
                case rel => exact ⟨1 + 1, by omega, by first | rfl | go_num, by rw [HEQ.out]; exact HK3.out⟩
                case measure => simp [intOf]
              | true =>
                cases Y1 with
                | false =>
                  have HEQ : Hid (hppart max ⟨true, X1, X2⟩ ⟨Y0, false, Y2⟩ (3 * 0 + (1 + 1)) = hppart max ⟨true, X1, X2⟩ ⟨Y0, false, Y2⟩ (3 * 0 + 1)) := Lib.hid (hppart_skip max _ _ (a := 0) (b := 1) (by omega) (by omega) (by rfl))
                  go_wp2
                  go_roundw
                  case rel => exact ⟨1 + 1, by omega, by first | rfl | go_num, by rw [HEQ.out]; exact HK3.out⟩
                  case measure => simp [intOf]
                | true =>
                  have HEQ : Hid (hppart max ⟨true, X1, X2⟩ ⟨Y0, true, Y2⟩ (3 * 0 + (1 + 1)) = (hppart max ⟨true, X1, X2⟩ ⟨Y0, true, Y2⟩ (3 * 0 + 1)).put ((1 : Nat) : Int) true) := Lib.hid (hppart_hit max _ _ (a := 0) (b := 1) (by omega) (by omega) (by rfl) (by decide))
                  have HPUT := Lib.hid (HK3.out.put (c := 1) (by omega) true)
                  rw [← HEQ.out] at HPUT
                  obtain ⟨tb, htb⟩ : ∃ tb, tb = (hppart max ⟨true, X1, X2⟩ ⟨Y0, true, Y2⟩ (3 * 0 + 1)).at_ ((1 : Nat) : Int) := ⟨_, rfl⟩
                  have e1 : w3.cell? ⟨g, 1, none⟩ = some (.bool tb) := by rw [HK3.out.new.cell, t3c_at _ (by omega), htb]
                  have fr := HK3.out.new.free 1
                  clear htb
                  go_wp2_with fail
                  refine (hmax_fn 0 1 1 _ (by decide)).mono ?_
                  rintro e w4 ⟨rfl, rfl⟩
                  go_wp2
                  go_roundw
                  case rel => exact ⟨1 + 1, by omega, by first | rfl | go_num, HPUT.out⟩
                  case measure => simp [intOf]
            · clear hb
              rw [show (((2 : Nat) : Int)) = 2 from rfl]
              have hJ := (hidx3 Y0 Y1 Y2 w3).2.2
              cases X0 with
              | false =>
                have HEQ : Hid (hppart max ⟨false, X1, X2⟩ ⟨Y0, Y1, Y2⟩ (3 * 0 + (2 + 1)) = hppart max ⟨false, X1, X2⟩ ⟨Y0, Y1, Y2⟩ (3 * 0 + 2)) := Lib.hid (hppart_skip max _ _ (a := 0) (b := 2) (by omega) (by omega) (by rfl))
                go_wp2
                go_roundw
                case rel => exact ⟨2 + 1, by omega, by first | rfl | go_num, by rw [HEQ.out]; exact HK3.out⟩
                case measure => simp [intOf]
              | true =>
                cases Y2 with
                | false =>
                  have HEQ : Hid (hppart max ⟨true, X1, X2⟩ ⟨Y0, Y1, false⟩ (3 * 0 + (2 + 1)) = hppart max ⟨true, X1, X2⟩ ⟨Y0, Y1, false⟩ (3 * 0 + 2)) := Lib.hid (hppart_skip max _ _ (a := 0) (b := 2) (by omega) (by omega) (by rfl))
                  go_wp2
                  go_roundw
                  case rel => exact ⟨2 + 1, by omega, by first | rfl | go_num, by rw [HEQ.out]; exact HK3.out⟩
                  case measure => simp [intOf]
                | true =>
                  have HEQ : Hid (hppart max ⟨true, X1, X2⟩ ⟨Y0, Y1, true⟩ (3 * 0 + (2 + 1)) = (hppart max ⟨true, X1, X2⟩ ⟨Y0, Y1, true⟩ (3 * 0 + 2)).put ((2 : Nat) : Int) true) := Lib.hid (hppart_hit max _ _ (a := 0) (b := 2) (by omega) (by omega) (by rfl) (by decide))
                  have HPUT := Lib.hid (HK3.out.put (c := 2) (by omega) true)
                  rw [← HEQ.out] at HPUT
                  obtain ⟨tb, htb⟩ : ∃ tb, tb = (hppart max ⟨true, X1, X2⟩ ⟨Y0, Y1, true⟩ (3 * 0 + 2)).at_ ((2 : Nat) : Int) := ⟨_, rfl⟩
                  have e1 : w3.cell? ⟨g, 2, none⟩ = some (.bool tb) := by rw [HK3.out.new.cell, t3c_at _ (by omega), htb]
                  have fr := HK3.out.new.free 2
                  clear htb
                  go_wp2_with fail
                  refine (hmax_fn 0 2 2 _ (by decide)).mono ?_
                  rintro e w4 ⟨rfl, rfl⟩
                  go_wp2
                  go_roundw
                  case rel => exact ⟨2 + 1, by omega, by first | rfl | go_num, HPUT.out⟩
                  case measure => simp [intOf]
            · have HEND : Hid (HJARel w0 max ⟨X0, X1, X2⟩ ⟨Y0, Y1, Y2⟩ h g (.int .i64 1) w3) := Lib.hid ⟨1, by omega, rfl, HK3.out⟩
              go_wp2
              go_roundw
              case rel => exact HEND.out
              case measure => simp [intOf]
        · clear ha
          rw [show (((1 : Nat) : Int)) = 1 from rfl]
          have HSB := Lib.hid (show HJBRel w0 max ⟨X0, X1, X2⟩ ⟨Y0, Y1, Y2⟩ h g 1 (.int .i64 0) w2 from ⟨0, by omega, rfl, HK2.out⟩)
          have hI := (hidx3 X0 X1 X2 w2).2.1
          have hn3 : Row w2 h 44 [.bool Y0, .bool Y1, .bool Y2] := HK2.out.nxt
          have n0 := hn3.cell 0
          have n1 := hn3.cell 1
          have n2 := hn3.cell 2
          clear hn3
          go_wp2
          go_loopw [29] (HJBRel w0 max ⟨X0, X1, X2⟩ ⟨Y0, Y1, Y2⟩ h g 1) (fun i _ => 3 - (intOf i).toNat)
          case atStart => exact HSB.out
          case round =>
            obtain ⟨b, hb, rfl, hkb⟩ := hrel
            obtain ⟨w3, rfl⟩ : ∃ x, x = wr := ⟨wr, rfl⟩
            have HK3 := Lib.hid hkb
            clear hkb n0 n1 n2 hI
            rcases (by omega : b = 0 ∨ b = 1 ∨ b = 2 ∨ b = 3) with rfl | rfl | rfl | rfl
            · clear hb
              rw [show (((0 : Nat) : Int)) = 0 from rfl]
              have hJ := (hidx3 Y0 Y1 Y2 w3).1
              cases X1 with
              | false =>
                have HEQ : Hid (hppart max ⟨X0, false, X2⟩ ⟨Y0, Y1, Y2⟩ (3 * 1 + (0 + 1)) = hppart max ⟨X0, false, X2⟩ ⟨Y0, Y1, Y2⟩ (3 * 1 + 0)) := Lib.hid (hppart_skip max _ _ (a := 1) (b := 0) (by omega) (by omega) (by rfl))
                go_wp2
                go_roundw
                case rel => exact ⟨0 + 1, by omega, by first | rfl | go_num, by rw [HEQ.out]; exact HK3.out⟩
                case measure => simp [intOf]
              | true =>
                cases Y0 with
                | false =>
                  have HEQ : Hid (hppart max ⟨X0, true, X2⟩ ⟨false, Y1, Y2⟩ (3 * 1 + (0 + 1)) = hppart max ⟨X0, true, X2⟩ ⟨false, Y1, Y2⟩ (3 * 1 + 0)) := Lib.hid (hppart_skip max _ _ (a := 1) (b := 0) (by omega) (by omega) (by rfl))
                  go_wp2
                  go_roundw
                  case rel => exact ⟨0 + 1, by omega, by first | rfl | go_num, by rw [HEQ.out]; exact HK3.out⟩
                  case measure => simp [intOf]
                | true =>
                  have HEQ : Hid (hppart max ⟨X0, true, X2⟩ ⟨true, Y1, Y2⟩ (3 * 1 + (0 + 1)) = (hppart max ⟨X0, true, X2⟩ ⟨true, Y1, Y2⟩ (3 * 1 + 0)).put ((1 : Nat) : Int) true) := Lib.hid (hppart_hit max _ _ (a := 1) (b := 0) (by omega) (by omega) (by rfl) (by decide))
                  have HPUT := Lib.hid (HK3.out.put (c := 1) (by omega) true)
                  rw [← HEQ.out] at HPUT
                  obtain ⟨tb, htb⟩ : ∃ tb, tb = (hppart max ⟨X0, true, X2⟩ ⟨true, Y1, Y2⟩ (3 * 1 + 0)).at_ ((1 : Nat) : Int) := ⟨_, rfl⟩
                  have e1 : w3.cell? ⟨g, 1, none⟩ = some (.bool tb) := by rw [HK3.out.new.cell, t3c_at _ (by omega), htb]
                  have fr := HK3.out.new.free 1
                  clear htb
                  go_wp2_with fail
                  refine (hmax_fn 1 0 1 _ (by decide)).mono ?_
                  rintro e w4 ⟨rfl, rfl⟩
                  go_wp2
                  go_roundw
                  case rel => exact ⟨0 + 1, by omega, by first | rfl | go_num, HPUT.out⟩
                  case measure => simp [intOf]
            · clear hb
              rw [show (((1 : Nat) : Int)) = 1 from rfl]
              have hJ := (hidx3 Y0 Y1 Y2 w3).2.1
              cases X1 with
              | false =>
                have HEQ : Hid (hppart max ⟨X0, false, X2⟩ ⟨Y0, Y1, Y2⟩ (3 * 1 + (1 + 1)) = hppart max ⟨X0, false, X2⟩ ⟨Y0, Y1, Y2⟩ (3 * 1 + 1)) := Lib.hid (hppart_skip max _ _ (a := 1) (b := 1) (by omega) (by omega) (by rfl))
                go_wp2
                go_roundw
                case rel => exact ⟨1 + 1, by omega, by first | rfl | go_num, by rw [HEQ.out]; exact HK3.out⟩
                case measure => simp [intOf]
              | true =>
                cases Y1 with
                | false =>
                  have HEQ : Hid (hppart max ⟨X0, true, X2⟩ ⟨Y0, false, Y2⟩ (3 * 1 + (1 + 1)) = hppart max ⟨X0, true, X2⟩ ⟨Y0, false, Y2⟩ (3 * 1 + 1)) := Lib.hid (hppart_skip max _ _ (a := 1) (b := 1) (by omega) (by omega) (by rfl))
                  go_wp2
                  go_roundw
                  case rel => exact ⟨1 + 1, by omega, by first | rfl | go_num, by rw [HEQ.out]; exact HK3.out⟩
                  case measure => simp [intOf]
                | true =>
                  have HEQ : Hid (hppart max ⟨X0, true, X2⟩ ⟨Y0, true, Y2⟩ (3 * 1 + (1 + 1)) = (hppart max ⟨X0, true, X2⟩ ⟨Y0, true, Y2⟩ (3 * 1 + 1)).put ((1 : Nat) : Int) true) := Lib.hid (hppart_hit max _ _ (a := 1) (b := 1) (by omega) (by omega) (by rfl) (by decide))
                  have HPUT := Lib.hid (HK3.out.put (c := 1) (by omega) true)
                  rw [← HEQ.out] at HPUT
                  obtain ⟨tb, htb⟩ : ∃ tb, tb = (hppart max ⟨X0, true, X2⟩ ⟨Y0, true, Y2⟩ (3 * 1 + 1)).at_ ((1 : Nat) : Int) := ⟨_, rfl⟩
                  have e1 : w3.cell? ⟨g, 1, none⟩ = some (.bool tb) := by rw [HK3.out.new.cell, t3c_at _ (by omega), htb]
                  have fr := HK3.out.new.free 1
                  clear htb
                  go_wp2_with fail
                  refine (hmax_fn 1 1 1 _ (by decide)).mono ?_
                  rintro e w4 ⟨rfl, rfl⟩
                  go_wp2
                  go_roundw
                  case rel => exact ⟨1 + 1, by omega, by first | rfl | go_num, HPUT.out⟩
                  case measure => simp [intOf]
            · clear hb
              rw [show (((2 : Nat) : Int)) = 2 from rfl]
              have hJ := (hidx3 Y0 Y1 Y2 w3).2.2
              cases X1 with
              | false =>
                have HEQ : Hid (hppart max ⟨X0, false, X2⟩ ⟨Y0, Y1, Y2⟩ (3 * 1 + (2 + 1)) = hppart max ⟨X0, false, X2⟩ ⟨Y0, Y1, Y2⟩ (3 * 1 + 2)) := Lib.hid (hppart_skip max _ _ (a := 1) (b := 2) (by omega) (by omega) (by rfl))
                go_wp2
                go_roundw
                case rel => exact ⟨2 + 1, by omega, by first | rfl | go_num, by rw [HEQ.out]; exact HK3.out⟩
                case measure => simp [intOf]
              | true =>
                cases Y2 with
                | false =>
                  have HEQ : Hid (hppart max ⟨X0, true, X2⟩ ⟨Y0, Y1, false⟩ (3 * 1 + (2 + 1)) = hppart max ⟨X0, true, X2⟩ ⟨Y0, Y1, false⟩ (3 * 1 + 2)) := Lib.hid (hppart_skip max _ _ (a := 1) (b := 2) (by omega) (by omega) (by rfl))
                  go_wp2
                  go_roundw
                  case rel => exact ⟨2 + 1, by omega, by first | rfl | go_num, by rw [HEQ.out]; exact HK3.out⟩
                  case measure => simp [intOf]
                | true =>
                  have HEQ : Hid (hppart max ⟨X0, true, X2⟩ ⟨Y0, Y1, true⟩ (3 * 1 + (2 + 1)) = (hppart max ⟨X0, true, X2⟩ ⟨Y0, Y1, true⟩ (3 * 1 + 2)).put ((2 : Nat) : Int) true) := Lib.hid (hppart_hit max _ _ (a := 1) (b := 2) (by omega) (by omega) (by rfl) (by decide))
                  have HPUT := Lib.hid (HK3.out.put (c := 2) (by omega) true)
                  rw [← HEQ.out] at HPUT
                  obtain ⟨tb, htb⟩ : ∃ tb, tb = (hppart max ⟨X0, true, X2⟩ ⟨Y0, Y1, true⟩ (3 * 1 + 2)).at_ ((2 : Nat) : Int) := ⟨_, rfl⟩
                  have e1 : w3.cell? ⟨g, 2, none⟩ = some (.bool tb) := by rw [HK3.out.new.cell, t3c_at _ (by omega), htb]
                  have fr := HK3.out.new.free 2
                  clear htb
                  go_wp2_with fail
                  refine (hmax_fn 1 2 2 _ (by decide)).mono ?_
                  rintro e w4 ⟨rfl, rfl⟩
                  go_wp2
                  go_roundw
                  case rel => exact ⟨2 + 1, by omega, by first | rfl | go_num, HPUT.out⟩
                  case measure => simp [intOf]
            · have HEND : Hid (HJARel w0 max ⟨X0, X1, X2⟩ ⟨Y0, Y1, Y2⟩ h g (.int .i64 2) w3) := Lib.hid ⟨2, by omega, rfl, HK3.out⟩
              go_wp2
              go_roundw
              case rel => exact HEND.out
              case measure => simp [intOf]
        · clear ha
          rw [show (((2 : Nat) : Int)) = 2 from rfl]
          have HSB := Lib.hid (show HJBRel w0 max ⟨X0, X1, X2⟩ ⟨Y0, Y1, Y2⟩ h g 2 (.int .i64 0) w2 from ⟨0, by omega, rfl, HK2.out⟩)
          have hI := (hidx3 X0 X1 X2 w2).2.2
          have hn3 : Row w2 h 44 [.bool Y0, .bool Y1, .bool Y2] := HK2.out.nxt
          have n0 := hn3.cell 0
          have n1 := hn3.cell 1
          have n2 := hn3.cell 2
          clear hn3
          go_wp2
          go_loopw [29] (HJBRel w0 max ⟨X0, X1, X2⟩ ⟨Y0, Y1, Y2⟩ h g 2) (fun i _ => 3 - (intOf i).toNat)
          case atStart => exact HSB.out
          case round =>
            obtain ⟨b, hb, rfl, hkb⟩ := hrel
            obtain ⟨w3, rfl⟩ : ∃ x, x = wr := ⟨wr, rfl⟩
            have HK3 := Lib.hid hkb
            clear hkb n0 n1 n2 hI
            rcases (by omega : b = 0 ∨ b = 1 ∨ b = 2 ∨ b = 3) with rfl | rfl | rfl | rfl
            · clear hb
              rw [show (((0 : Nat) : Int)) = 0 from rfl]
              have hJ := (hidx3 Y0 Y1 Y2 w3).1
              cases X2 with
              | false =>
                have HEQ : Hid (hppart max ⟨X0, X1, false⟩ ⟨Y0, Y1, Y2⟩ (3 * 2 + (0 + 1)) = hppart max ⟨X0, X1, false⟩ ⟨Y0, Y1, Y2⟩ (3 * 2 + 0)) := Lib.hid (hppart_skip max _ _ (a := 2) (b := 0) (by omega) (by omega) (by rfl))
                go_wp2
                go_roundw
                case rel => exact ⟨0 + 1, by omega, by first | rfl | go_num, by rw [HEQ.out]; exact HK3.out⟩
                case measure => simp [intOf]
              | true =>
                cases Y0 with
                | false =>
                  have HEQ : Hid (hppart max ⟨X0, X1, true⟩ ⟨false, Y1, Y2⟩ (3 * 2 + (0 + 1)) = hppart max ⟨X0, X1, true⟩ ⟨false, Y1, Y2⟩ (3 * 2 + 0)) := Lib.hid (hppart_skip max _ _ (a := 2) (b := 0) (by omega) (by omega) (by rfl))
                  go_wp2
                  go_roundw
                  case rel => exact ⟨0 + 1, by omega, by first | rfl | go_num, by rw [HEQ.out]; exact HK3.out⟩
                  case measure => simp [intOf]
                | true =>
                  have HEQ : Hid (hppart max ⟨X0, X1, true⟩ ⟨true, Y1, Y2⟩ (3 * 2 + (0 + 1)) = (hppart max ⟨X0, X1, true⟩ ⟨true, Y1, Y2⟩ (3 * 2 + 0)).put ((2 : Nat) : Int) true) := Lib.hid (hppart_hit max _ _ (a := 2) (b := 0) (by omega) (by omega) (by rfl) (by decide))
                  have HPUT := Lib.hid (HK3.out.put (c := 2) (by omega) true)
                  rw [← HEQ.out] at HPUT
                  obtain ⟨tb, htb⟩ : ∃ tb, tb = (hppart max ⟨X0, X1, true⟩ ⟨true, Y1, Y2⟩ (3 * 2 + 0)).at_ ((2 : Nat) : Int) := ⟨_, rfl⟩
                  have e1 : w3.cell? ⟨g, 2, none⟩ = some (.bool tb) := by rw [HK3.out.new.cell, t3c_at _ (by omega), htb]
                  have fr := HK3.out.new.free 2
                  clear htb
                  go_wp2_with fail
                  refine (hmax_fn 2 0 2 _ (by decide)).mono ?_
                  rintro e w4 ⟨rfl, rfl⟩
                  go_wp2
                  go_roundw
                  case rel => exact ⟨0 + 1, by omega, by first | rfl | go_num, HPUT.out⟩
                  case measure => simp [intOf]
            · clear hb
              rw [show (((1 : Nat) : Int)) = 1 from rfl]
              have hJ := (hidx3 Y0 Y1 Y2 w3).2.1
              cases X2 with
              | false =>
                have HEQ : Hid (hppart max ⟨X0, X1, false⟩ ⟨Y0, Y1, Y2⟩ (3 * 2 + (1 + 1)) = hppart max ⟨X0, X1, false⟩ ⟨Y0, Y1, Y2⟩ (3 * 2 + 1)) := Lib.hid (hppart_skip max _ _ (a := 2) (b := 1) (by omega) (by omega) (by rfl))
                go_wp2
                go_roundw
                case rel => exact ⟨1 + 1, by omega, by first | rfl | go_num, by rw [HEQ.out]; exact HK3.out⟩
                case measure => simp [intOf]
              | true =>
                cases Y1 with
                | false =>
                  have HEQ : Hid (hppart max ⟨X0, X1, true⟩ ⟨Y0, false, Y2⟩ (3 * 2 + (1 + 1)) = hppart max ⟨X0, X1, true⟩ ⟨Y0, false, Y2⟩ (3 * 2 + 1)) := Lib.hid (hppart_skip max _ _ (a := 2) (b := 1) (by omega) (by omega) (by rfl))
                  go_wp2
                  go_roundw
                  case rel => exact ⟨1 + 1, by omega, by first | rfl | go_num, by rw [HEQ.out]; exact HK3.out⟩
                  case measure => simp [intOf]
                | true =>
                  have HEQ : Hid (hppart max ⟨X0, X1, true⟩ ⟨Y0, true, Y2⟩ (3 * 2 + (1 + 1)) = (hppart max ⟨X0, X1, true⟩ ⟨Y0, true, Y2⟩ (3 * 2 + 1)).put ((2 : Nat) : Int) true) := Lib.hid (hppart_hit max _ _ (a := 2) (b := 1) (by omega) (by omega) (by rfl) (by decide))
                  have HPUT := Lib.hid (HK3.out.put (c := 2) (by omega) true)
                  rw [← HEQ.out] at HPUT
                  obtain ⟨tb, htb⟩ : ∃ tb, tb = (hppart max ⟨X0, X1, true⟩ ⟨Y0, true, Y2⟩ (3 * 2 + 1)).at_ ((2 : Nat) : Int) := ⟨_, rfl⟩
                  have e1 : w3.cell? ⟨g, 2, none⟩ = some (.bool tb) := by rw [HK3.out.new.cell, t3c_at _ (by omega), htb]
                  have fr := HK3.out.new.free 2
                  clear htb
                  go_wp2_with fail
                  refine (hmax_fn 2 1 2 _ (by decide)).mono ?_
                  rintro e w4 ⟨rfl, rfl⟩
                  go_wp2
                  go_roundw
                  case rel => exact ⟨1 + 1, by omega, by first | rfl | go_num, HPUT.out⟩
                  case measure => simp [intOf]
            · clear hb
              rw [show (((2 : Nat) : Int)) = 2 from rfl]
              have hJ := (hidx3 Y0 Y1 Y2 w3).2.2
              cases X2 with
              | false =>
                have HEQ : Hid (hppart max ⟨X0, X1, false⟩ ⟨Y0, Y1, Y2⟩ (3 * 2 + (2 + 1)) = hppart max ⟨X0, X1, false⟩ ⟨Y0, Y1, Y2⟩ (3 * 2 + 2)) := Lib.hid (hppart_skip max _ _ (a := 2) (b := 2) (by omega) (by omega) (by rfl))
                go_wp2
                go_roundw
                case rel => exact ⟨2 + 1, by omega, by first | rfl | go_num, by rw [HEQ.out]; exact HK3.out⟩
                case measure => simp [intOf]
              | true =>
                cases Y2 with
                | false =>
                  have HEQ : Hid (hppart max ⟨X0, X1, true⟩ ⟨Y0, Y1, false⟩ (3 * 2 + (2 + 1)) = hppart max ⟨X0, X1, true⟩ ⟨Y0, Y1, false⟩ (3 * 2 + 2)) := Lib.hid (hppart_skip max _ _ (a := 2) (b := 2) (by omega) (by omega) (by rfl))
                  go_wp2
                  go_roundw
                  case rel => exact ⟨2 + 1, by omega, by first | rfl | go_num, by rw [HEQ.out]; exact HK3.out⟩
                  case measure => simp [intOf]
                | true =>
                  have HEQ : Hid (hppart max ⟨X0, X1, true⟩ ⟨Y0, Y1, true⟩ (3 * 2 + (2 + 1)) = (hppart max ⟨X0, X1, true⟩ ⟨Y0, Y1, true⟩ (3 * 2 + 2)).put ((2 : Nat) : Int) true) := Lib.hid (hppart_hit max _ _ (a := 2) (b := 2) (by omega) (by omega) (by rfl) (by decide))
                  have HPUT := Lib.hid (HK3.out.put (c := 2) (by omega) true)
                  rw [← HEQ.out] at HPUT
                  obtain ⟨tb, htb⟩ : ∃ tb, tb = (hppart max ⟨X0, X1, true⟩ ⟨Y0, Y1, true⟩ (3 * 2 + 2)).at_ ((2 : Nat) : Int) := ⟨_, rfl⟩
                  have e1 : w3.cell? ⟨g, 2, none⟩ = some (.bool tb) := by rw [HK3.out.new.cell, t3c_at _ (by omega), htb]
                  have fr := HK3.out.new.free 2
                  clear htb
                  go_wp2_with fail
                  refine (hmax_fn 2 2 2 _ (by decide)).mono ?_
                  rintro e w4 ⟨rfl, rfl⟩
                  go_wp2
                  go_roundw
                  case rel => exact ⟨2 + 1, by omega, by first | rfl | go_num, HPUT.out⟩
                  case measure => simp [intOf]
            · have HEND : Hid (HJARel w0 max ⟨X0, X1, X2⟩ ⟨Y0, Y1, Y2⟩ h g (.int .i64 3) w3) := Lib.hid ⟨3, by omega, rfl, HK3.out⟩
              go_wp2
              go_roundw
              case rel => exact HEND.out
              case measure => simp [intOf]
        · have HFULL : Hid (hppart max ⟨X0, X1, X2⟩ ⟨Y0, Y1, Y2⟩ (3 * 3) = hpone ⟨X0, X1, X2⟩ ⟨Y0, Y1, Y2⟩) := Lib.hid (hppart_or ⟨X0, X1, X2⟩ ⟨Y0, Y1, Y2⟩)
          have hnew := HK2.out.new
          have hcur := HK2.out.keep.cur
          rw [HFULL.out] at hnew
          have hold := HK2.out.keep.old
          obtain ⟨Z, hZ⟩ : ∃ Z, Z = hpone ⟨X0, X1, X2⟩ ⟨Y0, Y1, Y2⟩ := ⟨_, rfl⟩
          rw [← hZ] at hnew
          have HZZ := Lib.hid hZ
          have HANS := Lib.hid HK2.out.keep.ans
          have hnew3 : Row w2 g 44 [.bool Z.no, .bool Z.un, .bool Z.yes] := hnew
          have z0 := hnew3.cell 0
          have z1 := hnew3.cell 1
          have z2 := hnew3.cell 2
          clear hZ hnew3 ha
          go_wp2_with (refine wpList_storeW rfl _ _ _ rfl (w0.heap.size + 1) 0 44 (t3c ⟨X0, X1, X2⟩) (t3c Z) (t3c Z) rfl rfl rfl hcur infoA_size (Nat.le_refl _) (t3_one _ _ _) w0 w0.heap.size hold (by omega) ?_)
          intro w4 hr4 hb4 hk4
          have HEND : Hid (HJRel w0 hpone x xs (.int .i64 ((m : Int) + 1)) w4) := Lib.hid ⟨m + 1, by omega, by go_num, by rw [HFN.out, ← HZZ.out]; exact ⟨hb4, hk4 _ _ _ (by omega) HANS.out, by simpa using hr4⟩⟩
          clear hr4 hb4 hk4 hnew hcur hold
          go_wp2
          go_roundw
          case rel => exact HEND.out
          case measure => simp [intOf]; omega
    · obtain rfl : m = n17 := by omega
      have hlti : ¬ (m : Int) < (m : Int) := by omega
      have HXE : Hid (xs.foldl hpone x = X) := Lib.hid (by
        have h := HXX.out
        rw [List.take_of_length_le (by have := HN17.out; omega)] at h
        exact h.symm)
      have hans := HK.out.ans
      have hold := HK.out.old
      have hcur3 : Row w1 (w0.heap.size + 1) 44 [.bool X.no, .bool X.un, .bool X.yes] := HK.out.cur
      have c0 := hcur3.cell 0
      have c1 := hcur3.cell 1
      have c2 := hcur3.cell 2
      clear hcur3
      go_wp2_with (refine wpList_storeW rfl _ _ _ rfl w0.heap.size 0 44 (t3c hpno3) (t3c X) (t3c X) rfl rfl rfl hans infoA_size (Nat.le_refl _) (t3_one _ _ _) w0 w0.heap.size hold (Nat.le_refl _) ?_)
      intro wF hrF hbF _
      have HR : Hid (Row wF w0.heap.size 44 [.bool X.no, .bool X.un, .bool X.yes]) := Lib.hid (by simpa [t3c] using hrF)
      have HBF := Lib.hid hbF
      clear hrF hbF hans hold c0 c1 c2
      go_wp2
      refine bodyPost_ret (v := .agg #[.bool X.no, .bool X.un, .bool X.yes]) (results_cell_row rfl _ _ w0.heap.size _ _ (0, 0) _ rfl HR.out Tryd.underlying44 rfl (by kernel_rfl)) rfl ?_
      exact ⟨by rw [HXE.out]; rfl, HBF.out⟩
end Go.Proofs.YtniniophoocalaaDoor

/- Arrays by value of any elements: a block that is made, loaded and stored whole; rows of 40 of which the first are filled. Written by gen_hpred.py. -/







namespace Go.Proofs.YtniniophoocalaaDoor

open Go.RowKit

/-- The facts on an array type of k elements and n cells. -/
structure ArrG (P : Program) (t e : TypeId) (k n : Nat) (z : Value) : Prop where
  under : P.underlying t = some (.array k e)
  info : (P.info? t).map (fun i => (i.zero, i.size)) = some (some (.agg (zeroRow n z).toArray), n)
theorem ArrG.size_ {P : Program} {t e : TypeId} {k n : Nat} {z : Value} (E : ArrG P t e k n z) : (P.info? t).map (·.size) = some n := (zero_of_info E.info).2
section

variable {P : Program} {w : World} {ops : Array Oper} {rest : List Oper} {o : Oper} {a : Act} {Q : Exit → Act → World → Prop} {t e : TypeId} {k n : Nat} {z : Value}
theorem wpList_allocG (E : ArrG P t e k n z) (hgd : o.guard = none) (ho : o.op = .alloc t)
    (h : ∀ w', Row w' w.heap.size t (zeroRow n z) → Below w.heap.size w w' → wpList P ops Q rest (a.put o.dst (.pointer (some ⟨w.heap.size, 0, none⟩))) w') : wpList P ops Q (o :: rest) a w := by
  have hz := (zero_of_info E.info).1
  refine wpList_plain hgd fun K hK => ?_
  unfold Oper.wp execOp
  simp only [ho, Instr.alloc, newVar, newRow, Sem.run_bind, Sem.run_pure, hz, Result.andThen_ok, run_newObj]
  refine hK _ _ (h _ ?_ ((Below.refl _ _).alloc (Nat.le_refl _) _))
  exact heap_alloc_new w _
theorem wpList_loadG (E : ArrG P t e k n z) (hgd : o.guard = none) (x : Operand) (ho : o.op = .load t x) (g : Nat) (t' : TypeId) (cs : List Value) (hx : a.eval x = .pointer (some ⟨g, 0, none⟩)) (hr : Row w g t' cs) (hl : cs.length = n)
    (h : wpList P ops Q rest (a.put o.dst (.agg cs.toArray)) w) : wpList P ops Q (o :: rest) a w :=
  wpList_load_row hgd t x ho g hx t' cs.toArray (0, 0) _ hr E.under rfl (by rw [E.size_, ← hl]; simp) h
theorem wpList_storeWholeG (E : ArrG P t e k n z) (hgd : o.guard = none) (x y : Operand) (ho : o.op = .store t x y) (g : Nat) (t' : TypeId) (old cs : List Value) (hx : a.eval x = .pointer (some ⟨g, 0, none⟩)) (hy : a.eval y = .agg cs.toArray) (hr : Row w g t' old)
    (hl : cs.length = n) (hl' : old.length = n) (h1 : ∀ u ∈ cs, u.oneCell' = true) (w0 : World) (B : Nat) (hb : Below B w0 w) (hB : B ≤ g)
    (h : ∀ w', Row w' g t' cs → Below B w0 w' → (∀ k ty l, k ≠ g → Row w k ty l → Row w' k ty l) → wpList P ops Q rest (a.put o.dst undef) w') : wpList P ops Q (o :: rest) a w := by
  have hrun := run_storeVar_row (P := P) w g t' t old.toArray cs.toArray hr (by rw [E.size_, ← hl]; simp) (by simp [hl, hl']) (by simpa using h1)
  refine wpList_plain hgd fun K hK => ?_
  unfold Oper.wp execOp
  simp only [ho, hx, hy, Instr.storeAt, Instr.sureAddr, Sem.run_bind, Sem.run_pure, Result.andThen_ok, hrun]
  refine hK _ _ (h _ (setRow_heap w g old.toArray cs.toArray t' (0, 0) hr) ?_ ?_)
  · exact below_setRow hb hB _
  · intro k ty l hk hrk
    exact (setRow_other w g k cs.toArray hk).trans hrk
end
theorem ret_arrG {P : Program} {f : Func} {p : Tmp} {t e : TypeId} {k n : Nat} {z : Value} (E : ArrG P t e k n z) {K : Ending → World → Prop} {a : Act} {w : World} {g : Nat} {t' : TypeId} {cs : List Value} (hf : f.results = #[.cell p t])
    (hp : a.tmps.getD p undef = .pointer (some ⟨g, 0, none⟩)) (hr : Row w g t' cs) (hl : cs.length = n) (hd : a.defers = []) (hK : K (.returned (.agg cs.toArray)) w) : bodyPost P f K .ret a w :=
  bodyPost_ret (v := .agg cs.toArray) (results_cell_row hf a.tmps w g t' cs.toArray (0, 0) _ hp hr E.under rfl (by rw [E.size_, ← hl]; simp)) hd hK
/-- append of one value, as long as memory serves. -/
theorem wpList_pushBig {P : Program} {W : World} {ops : Array Oper} {rest : List Oper} {o : Oper} {a : Act} {Q : Exit → Act → World → Prop} {t e : TypeId} {bytes : Nat} {z : Value} (E : Elem P t e bytes z)
    (hgd : o.guard = none) (s x : Operand) (ho : o.op = .call { callee := .builtin .append, args := #[s, x], argTypes := #[t, t] })
    (base : Nat) (v : Value) (n : Nat) (xs : List Value) (u : Value) (w w0 : World) (hs : a.eval s = v) (hx : a.eval x = .slice (some ⟨w.heap.size, 0, none⟩) 1 1) (hW : W = w.alloc (.cells #[u] e))
    (hu : u.oneCell' = true) (hown : w.ownsRow base e 1 v n xs) (hb : Below base w0 w) (hbase : base ≤ w.heap.size) (hn : n ≤ 9000000000000000000) (hby : (n + 1) * bytes ≤ 140737488355328)
    (h : ∀ v' w', w'.ownsRow base e 1 v' (n + 1) (xs ++ [u]) → Below base w0 w' → w.grownBy w' v.ownBlock → (v'.ownBlock = v.ownBlock ∨ v'.ownBlock = some (w.heap.size + 1)) → wpList P ops Q rest (a.put o.dst v') w') : wpList P ops Q (o :: rest) a W := by
  obtain ⟨i, h1, h2, h3, h4⟩ := E.info
  have h5 : z.cells.size = 1 := by rw [E.one]; rfl
  subst hW
  refine wpList_append_lies _ hgd s x t ho base e i z bytes E.under h1 h2 h3 h4 h5 v n xs hs (hown.alloc _) _ _ _ hx (by simp) [u] rfl (cell_new w u e) (by simpa using hu) (by unfold maxLen; omega) hby (by simp; omega) ?_
  intro v' w' hown' hg hq
  refine h v' w' hown' (below_append (hb.alloc hbase _) (hown.alloc _) (by simp; omega) hg) ⟨hg.os, hg.tape, hg.output, Nat.le_trans (by simp) hg.size, fun k hk hne => (hg.block k (by simp; omega) hne).trans (Below.heap_alloc w _ k hk)⟩ (by simpa using hq)
theorem wpList_pushBigW {P : Program} {W : World} {ops : Array Oper} {rest : List Oper} {o : Oper} {a : Act} {Q : Exit → Act → World → Prop} {t e : TypeId} {bytes m : Nat} {z : Value} (E : ElemW P t e bytes m z)
    (hgd : o.guard = none) (s x : Operand) (ho : o.op = .call { callee := .builtin .append, args := #[s, x], argTypes := #[t, t] })
    (base : Nat) (v : Value) (n : Nat) (xs cs : List Value) (w w0 : World) (hs : a.eval s = v) (hx : a.eval x = .slice (some ⟨w.heap.size, 0, none⟩) 1 1) (hW : W = w.alloc (.cells cs.toArray e)) (hm : cs.length = m)
    (hu : ∀ u ∈ cs, u.oneCell' = true) (hown : w.ownsRow base e m v n xs) (hb : Below base w0 w) (hbase : base ≤ w.heap.size) (hn : n ≤ 9000000000000000000) (hby : (n + 1) * bytes ≤ 140737488355328)
    (h : ∀ v' w', w'.ownsRow base e m v' (n + 1) (xs ++ cs) → Below base w0 w' → w.grownBy w' v.ownBlock → wpList P ops Q rest (a.put o.dst v') w') : wpList P ops Q (o :: rest) a W := by
  obtain ⟨i, h1, h2, h3, h4⟩ := E.info
  subst hW
  refine wpListW_append _ hgd s x t ho base e i z m bytes E.under h1 h2 h3 h4 E.cells E.pos v n xs hs (ownW_alloc hown _) _ _ _ hx (by simp) cs (by rw [hm, Nat.one_mul]) (cells_new w cs e) hu (by unfold maxLen; omega) hby (by simp; omega) ?_
  intro v' w' hown' hg hq
  exact h v' w' hown' (belowW_append (hb.alloc hbase _) (ownW_alloc hown _) (by simp; omega) hg) ⟨hg.os, hg.tape, hg.output, Nat.le_trans (by simp) hg.size, fun k hk hne => (hg.block k (by simp; omega) hne).trans (Below.heap_alloc w _ k hk)⟩
theorem arrI : ArrG Tryd.prog 55 3 40 40 (.int .i64 0) := ⟨Tryd.underlying55, by kernel_rfl⟩
theorem arrT : ArrG Tryd.prog 67 44 40 120 (.bool false) := ⟨Tryd.underlying67, by kernel_rfl⟩
/-- 40 numbers of which the first are filled. -/
def hpadI (O : List Int) : List Value := O.map iv ++ List.replicate (40 - O.length) (.int .i64 0)
theorem hpadI_nil : hpadI [] = zeroRow 40 (.int .i64 0) := by simp [hpadI, zeroRow]
theorem hpadI_len {O : List Int} (h : O.length ≤ 40) : (hpadI O).length = 40 := by simp [hpadI]; omega
theorem hpadI_at {O : List Int} {q : Nat} (h : q < O.length) : (hpadI O)[q]? = some (.int .i64 (O.getD q 0)) := by
  unfold hpadI
  rw [List.getElem?_append_left (by simpa using h), List.getElem?_map, List.getElem?_eq_getElem h, getD_lt h]
  rfl
theorem hpadI_free {O : List Int} {j : Nat} (hj : O.length = j) (h : j < 40) : (hpadI O)[j]? = some (.int .i64 0) := by
  unfold hpadI
  rw [List.getElem?_append_right (by simp; omega), List.getElem?_replicate, if_pos (by simp; omega)]
theorem hpadI_set {O : List Int} {j : Nat} (hj : O.length = j) (h : j < 40) (x : Int) : (hpadI O).set j (.int .i64 x) = hpadI (O ++ [x]) := by
  unfold hpadI
  obtain ⟨m, hm⟩ : ∃ m, 40 - O.length = m + 1 := ⟨40 - O.length - 1, by omega⟩
  rw [List.set_append_right _ _ (by simp; omega), List.length_map, hj, Nat.sub_self, ← hj, hm, List.replicate_succ, List.set_cons_zero, List.map_append, List.append_assoc, List.length_append, List.length_singleton, show 40 - (O.length + 1) = m by omega]
  rfl
theorem hpadI_one (O : List Int) : ∀ u ∈ hpadI O, u.oneCell' = true := by
  intro u hu
  rcases List.mem_append.1 hu with h | h
  · obtain ⟨x, _, rfl⟩ := List.mem_map.1 h; rfl
  · rw [(List.mem_replicate.1 h).2]; rfl
def hpadT (O : List T3) : List Value := O.flatMap t3c ++ List.replicate (120 - O.length * 3) (.bool false)
theorem t3flat_len (O : List T3) : (O.flatMap t3c).length = O.length * 3 := flat_len (m := 3) (fun _ => rfl) O
theorem hpadT_nil : hpadT [] = zeroRow 120 (.bool false) := by simp [hpadT, zeroRow]
theorem hpadT_len {O : List T3} (h : O.length ≤ 40) : (hpadT O).length = 120 := by simp only [hpadT, List.length_append, t3flat_len, List.length_replicate]; omega
theorem hpadT_at {O : List T3} {q i : Nat} (h : q < O.length) (hi : i < 3) : (hpadT O)[q * 3 + i]? = (t3c (O.getD q hpno3))[i]? := by
  unfold hpadT
  rw [List.getElem?_append_left (by rw [t3flat_len]; omega), flat_at (m := 3) (fun _ => rfl) O q h i hi, getD_lt h]
theorem hpadT_put {O : List T3} {j : Nat} (hj : O.length = j) (h : j < 40) (x : T3) : (hpadT O).take (j * 3) ++ t3c x ++ (hpadT O).drop (j * 3 + (t3c x).length) = hpadT (O ++ [x]) := by
  have h3 : (t3c x).length = 3 := rfl
  have hf := t3flat_len O
  unfold hpadT
  rw [List.take_append, List.take_of_length_le (by omega), hf, hj, Nat.sub_self, List.take_zero, List.append_nil, List.drop_append, List.drop_of_length_le (by omega), List.nil_append, hf, hj, h3, show j * 3 + 3 - j * 3 = 3 by omega, List.drop_replicate, flat_snoc, List.length_append, List.length_singleton, hj]
  congr 2
  omega
theorem hpadT_one (O : List T3) : ∀ u ∈ hpadT O, u.oneCell' = true := by
  intro u hu
  rcases List.mem_append.1 hu with h | h
  · obtain ⟨x, _, hx⟩ := List.mem_flatMap.1 h
    simp only [t3c, List.mem_cons, List.not_mem_nil, or_false] at hx
    rcases hx with rfl | rfl | rfl <;> rfl
  · rw [(List.mem_replicate.1 h).2]; rfl
/-- What a node is handed of those that it names. -/
def hbel {T : Type} (d : T) (O : List T) (n : HN) : List T := (hpnm n).map fun q => O.getD q.toNat d
end Go.Proofs.YtniniophoocalaaDoor

/- Predicates' own contracts: each, with depth, with Eval's closure, with Outcomes's closure. Written by gen_hpred.py. -/



namespace Go.Proofs.YtniniophoocalaaDoor

open Go.RowKit

def HEachRelD (F : HN → List Int → Int) (l : List HN) (g : Nat) (w : World) (i : Value) (wr : World) : Prop :=
  ∃ j : Nat, j ≤ l.length ∧ i = .int .i64 (j : Int) ∧ Row wr w.heap.size 55 (zeroRow 40 (.int .i64 0)) ∧ Row wr g 55 (hpadI (heach (0 : Int) F (l.take j) [])) ∧ Below w.heap.size w wr
def hbelowD (nm : List Int) (O : List Int) (m : Nat) : List Value := ((nm.take m).map fun q => O.getD q.toNat 0).map iv
def HBelRelD (nm : List Int) (O : List Int) (W : World) (bv k : Value) (wr : World) : Prop :=
  ∃ m : Nat, m ≤ nm.length ∧ k = .int .i64 (m : Int) ∧ wr.ownsRow W.heap.size 3 1 bv m (hbelowD nm O m) ∧ Below W.heap.size W wr
set_option maxHeartbeats 16000000 in
set_option maxRecDepth 100000 in
theorem heachD_any (F : HN → List Int → Int) (l : List HN) (lvv : Value) (w : World) (hl : IsPreds l lvv w) (h40 : l.length ≤ 40) (hnm : ∀ j (h : j < l.length), ∀ q ∈ hpnm l[j], 0 ≤ q ∧ q < (j : Int))
    (hF : ∀ j (h : j < l.length) (bs : Value) (W : World), Below w.heap.size w W → IsV iv (hbel (0 : Int) (heach (0 : Int) F (l.take j) []) l[j]) bs W → Calls Tryd.prog 24 #[hpv l[j], bs] W fun e w' => e = .returned (.int .i64 (F l[j] (hbel (0 : Int) (heach (0 : Int) F (l.take j) []) l[j]))) ∧ Below W.heap.size W w') :
    Calls Tryd.prog 23 #[lvv, .func (.func 24) #[] #[]] w fun e w' => e = .returned (.agg (hpadI (heach (0 : Int) F l [])).toArray) ∧ Below w.heap.size w w' := by
  have HL := Lib.hid hl
  have HFF := Lib.hid hF
  have HNMQ := Lib.hid hnm
  obtain ⟨A, n, c, rfl⟩ := hl.1.shape
  have HN := Lib.hid hl.1.parts.1
  have hn40 : n ≤ 40 := by have := HN.out; omega
  clear hl h40 hF hnm
  go_enter Tryd.func23, Tryd.ntmps23
  go_wp2_with (refine wpList_allocG arrI rfl rfl ?_)
  intro w1 hr1 hb1
  have hz1 := hr1.lt
  go_wp2_with (refine wpList_allocG arrI rfl rfl ?_)
  intro w2 hr2 hb2
  obtain ⟨g, hg⟩ : ∃ g, g = w1.heap.size := ⟨_, rfl⟩
  rw [← hg] at hr2 ⊢
  have HST : Hid (HEachRelD F l g w (.int .i64 0) w2) := Lib.hid ⟨0, Nat.zero_le _, rfl, hr1.below hb2 hr1.lt, by show Row w2 g _ (hpadI []); rw [hpadI_nil]; exact hr2, below_then hb1 hb2⟩
  have hgw : w.heap.size < g := by omega
  clear hr1 hb1 hz1 hr2 hb2 hg
  go_wp2
  go_loopw [13] (HEachRelD F l g w) (fun i _ => n - (intOf i).toNat)
  case atStart => exact HST.out
  case round =>
    obtain ⟨j, hj, rfl, hra, hrg, hbw⟩ := hrel
    obtain ⟨w2, rfl⟩ : ∃ x, x = wr := ⟨wr, rfl⟩
    have hjn : j ≤ n := by have := HN.out; omega
    have HRA := Lib.hid hra
    have HRG := Lib.hid hrg
    have HBW := Lib.hid hbw
    have HGL := Lib.hid hrg.lt
    obtain ⟨O, hO⟩ : ∃ O, O = heach (0 : Int) F (l.take j) [] := ⟨_, rfl⟩
    rw [← hO] at HRG
    have HOE := Lib.hid hO
    have HOL : Hid (O.length = j) := Lib.hid (by rw [hO, heach_len, List.length_take, Nat.min_eq_left hj]; simp)
    clear hj hra hrg hbw hO
    by_cases hlt : j < n
    · have hjl : j < l.length := by have := HN.out; omega
      have hj40 : j < 40 := by omega
      have hj40i : (j : Int) < 40 := by omega
      have hlti : (j : Int) < (n : Int) := by omega
      obtain ⟨ad, rfl, had, hcell⟩ := (HL.out.1.below HBW.out).at (m := 7) (fun _ => rfl) (by omega) hjl
      have HAT0 := Lib.hid ((HL.out.2 l[j] (List.getElem_mem hjl)).below HBW.out)
      have HFJ := Lib.hid (HFF.out j hjl)
      have HQ := Lib.hid (HNMQ.out j hjl)
      have HNX0 := Lib.hid (heach_next (0 : Int) F hjl)
      rw [← HOE.out] at HNX0 HFJ
      obtain ⟨y, hy⟩ : ∃ y, y = l[j] := ⟨_, rfl⟩
      rw [← hy] at hcell HAT0 HFJ HQ HNX0
      have HLB : Hid ((hpnm y).length ≤ 17592186044415) := Lib.hid (by unfold hpnm; split; · exact HAT0.out.lls
                                                                       · simp)
      obtain ⟨v, hv⟩ : ∃ v, v = F y (hbel (0 : Int) O y) := ⟨_, rfl⟩
      rw [← hv] at HFJ
      have HNX : Hid (heach (0 : Int) F (l.take (j + 1)) [] = O ++ [v]) := Lib.hid (by rw [HNX0.out, hv]; rfl)
      have HNM := Lib.hid (fun W => hnamed_any y W)
      obtain ⟨nm, hnm⟩ : ∃ nm, nm = hpnm y := ⟨_, rfl⟩
      have HBL0 : Hid (hbel (0 : Int) O y = nm.map fun q => O.getD q.toNat (0 : Int)) := Lib.hid (by rw [hnm]; rfl)
      rw [← hnm] at HNM HQ HLB
      rw [HBL0.out] at HFJ
      clear HNX0 hv hnm hy had
      obtain ⟨k0, k1, k2, k3, k4, k5, k6⟩ := cells7 hcell
      obtain ⟨op, col, ⟨nb, nn, ns⟩, vals, ls, vv, lv⟩ := y
      dsimp only at k0 k1 k2 k3 k4 k5 k6
      obtain ⟨vA, vm, vc, rfl⟩ := HAT0.out.vals.shape
      obtain ⟨lA, lm, lc, rfl⟩ := HAT0.out.ls.shape
      unfold hpv hpcells at HNM HFJ
      dsimp only at HNM HFJ
      clear hcell
      obtain ⟨nb7, hnb7⟩ : ∃ x, x = w2.heap.size := ⟨_, rfl⟩
      have hb7 : Below w2.heap.size w2 (w2.alloc (.cells #[.int .i64 op, .int .i64 col, .bool nb, .int .i64 nn, .string ns, .slice vA vm vc, .slice lA lm lc] 51)) := (Below.refl _ _).alloc (Nat.le_refl _) _
      have RN := Lib.hid (box_rowP op col nb nn ns (.slice vA vm vc) (.slice lA lm lc) w2)
      have HB7 := Lib.hid hb7
      have HCN := Lib.hid (HNM.out (w2.alloc (.cells #[.int .i64 op, .int .i64 col, .bool nb, .int .i64 nn, .string ns, .slice vA vm vc, .slice lA lm lc] 51)))
      have b0 := RN.out.cell 0
      have b1 := RN.out.cell 1
      have b2 := RN.out.cell 2
      have b3 := RN.out.cell 3
      have b4 := RN.out.cell 4
      have b5 := RN.out.cell 5
      have b6 := RN.out.cell 6
      clear hb7 HNM
      go_wp2_with fail
      refine HCN.out.mono ?_
      rintro e w3 ⟨⟨nv, rfl, hnv⟩, hb3⟩
      have hnv3 := hnv w3 ((HAT0.out.below HB7.out).below hb3)
      obtain ⟨nA, nmm, nc, rfl⟩ := hnv3.shape
      have HNV := Lib.hid hnv3
      have HNVL := Lib.hid hnv3.parts.1
      have hnmI : (nmm : Int) ≤ 9223372036854775807 := by have h := hnv3.parts; have h2 := h.2.2.1; have h3 := h.2.2.2.1; unfold maxLen at h3; omega
      have HB3 := Lib.hid (HB7.out.trans (hb3.mono HB7.out.size))
      have RN3 := Lib.hid (RN.out.below hb3 RN.out.lt)
      rw [← hnb7] at RN3
      have HRA3 := Lib.hid (HRA.out.below HB3.out HRA.out.lt)
      have HRG3 := Lib.hid (HRG.out.below HB3.out HRG.out.lt)
      have HBW3 := Lib.hid (below_then HBW.out HB3.out)
      have HSTB := Lib.hid (show HBelRelD nm O w3 (.slice none 0 0) (.int .i64 0) w3 from ⟨0, Nat.zero_le _, rfl, World.ownsRow_nil _ _ _ _, Below.refl _ _⟩)
      clear hnv hnv3 hb3 b0 b1 b2 b3 b4 b5 b6 k0 k1 k2 k3 k4 k5 k6
      go_wp2
      rw [← hnb7]
      clear hnb7
      go_loopw [8, 21] (HBelRelD nm O w3) (fun _ i _ => nmm - (intOf i).toNat)
      case atStart => exact HSTB.out
      case round =>
        obtain ⟨m, hm, rfl, hown, hbl⟩ := hrel
        obtain ⟨w4, rfl⟩ : ∃ x, x = wr := ⟨wr, rfl⟩
        have HOW := Lib.hid hown
        have HBL := Lib.hid hbl
        have hmn : m ≤ nmm := by have := HNVL.out; omega
        have HRG4 := Lib.hid (HRG3.out.below hbl HRG3.out.lt)
        have HMB : Hid (m ≤ 17592186044415) := Lib.hid (Nat.le_trans hm HLB.out)
        clear hm hown hbl
        by_cases hlt2 : m < nmm
        · have hml : m < nm.length := by have := HNVL.out; omega
          have hlti2 : (m : Int) < (nmm : Int) := by omega
          obtain ⟨a2, rfl, _, hc2⟩ := (HNV.out.below HBL.out).at hml
          obtain ⟨q, hq⟩ : ∃ q, q = nm[m] := ⟨_, rfl⟩
          have hqr := HQ.out q (by rw [hq]; exact List.getElem_mem hml)
          rw [← hq] at hc2
          obtain ⟨qn, rfl⟩ := Int.eq_ofNat_of_zero_le hqr.1
          have hqn : qn < j := by omega
          have hq40 : (qn : Int) < 40 := by omega
          have hc3 : w4.cell? (a2.add m) = some (.int .i64 (qn : Int)) := hc2
          obtain ⟨x, hx⟩ : ∃ x, x = O.getD qn (0 : Int) := ⟨_, rfl⟩
          have hx0 : w4.cell? ⟨g, qn, none⟩ = some (.int .i64 x) := by rw [HRG4.out.cell, hpadI_at (by have := HOL.out; omega), hx]; try rfl
          have HSN : Hid (hbelowD nm O (m + 1) = hbelowD nm O m ++ [iv x]) := Lib.hid (by unfold hbelowD; rw [List.take_succ_eq_append_getElem hml, List.map_append, List.map_append, ← hq, hx]; try rfl)
          clear hc2 hq hqr hx
          obtain ⟨W2, hW2⟩ : ∃ W2, W2 = w4 := ⟨_, rfl⟩
          have hown2 := HOW.out
          have hbw2 := HBL.out
          have hz2 := HBL.out.size
          have hmb : m < 17592186044415 := Nat.lt_of_lt_of_le hml HLB.out
          go_wp2_with (at_builtin; refine wpList_pushBig elemI rfl _ _ rfl w3.heap.size _ _ _ (iv x) w4 w3 rfl rfl rfl rfl hown2 hbw2 hz2 (by omega) (by omega) ?_)
          intro v7 w7 hown7 hb7 _ _
          have HREL : Hid (HBelRelD nm O w3 v7 (.int .i64 ((m : Int) + 1)) w7) := Lib.hid ⟨m + 1, hml, by go_num, by rw [HSN.out]; exact hown7, hb7⟩
          clear hown7 hb7 hown2 hbw2 hz2 hmb
          go_wp2
          go_roundw
          case rel => exact HREL.out
          case measure => simp [intOf]; omega
        · obtain rfl : m = nmm := by omega
          have hlti2 : ¬ (m : Int) < (m : Int) := by omega
          have hown3 := HOW.out
          unfold hbelowD at hown3
          rw [List.take_of_length_le (by have := HNVL.out; omega)] at hown3
          have HBV := Lib.hid (isV_own (f := iv) hown3)
          have HRA4 := Lib.hid (HRA3.out.below HBL.out HRA3.out.lt)
          have RN4 := Lib.hid (RN3.out.below HBL.out RN3.out.lt)
          have HBW4 := Lib.hid (below_then HBW3.out HBL.out)
          have HCF := Lib.hid (HFJ.out _ w4 HBW4.out HBV.out)
          have b0 := RN4.out.cell 0
          have b1 := RN4.out.cell 1
          have b2 := RN4.out.cell 2
          have b3 := RN4.out.cell 3
          have b4 := RN4.out.cell 4
          have b5 := RN4.out.cell 5
          have b6 := RN4.out.cell 6
          clear hown3
          go_wp2_with fail
          refine HCF.out.mono ?_
          rintro e w5 ⟨rfl, hb5⟩
          have HRA5 := Lib.hid (HRA4.out.below hb5 HRA4.out.lt)
          have HRG5 := Lib.hid (HRG4.out.below hb5 HRG4.out.lt)
          have HB5 := Lib.hid (below_then HBW4.out hb5)
          clear hb5 b0 b1 b2 b3 b4 b5 b6
          have e1 : w5.cell? ⟨g, j, none⟩ = some (.int .i64 0) := by rw [HRG5.out.cell, hpadI_free HOL.out hj40]
          have fr := HRG5.out.free j
          go_wp2
          go_roundw
          case rel =>
            refine ⟨j + 1, hjl, by go_num, HRA5.out.far (p := ⟨g, j, none⟩) (by show w.heap.size ≠ g; omega) _, ?_, HB5.out.setCell (p := ⟨g, j, none⟩) (by show w.heap.size ≤ g; omega) _⟩
            have h := HRG5.out.set_ j (.int .i64 v)
            rw [hpadI_set HOL.out hj40] at h
            rw [HNX.out]
            exact h
          case measure => simp [intOf]; omega
    · obtain rfl : j = n := by omega
      have hlti : ¬ (j : Int) < (j : Int) := by omega
      have HE : Hid (heach (0 : Int) F l [] = O) := Lib.hid (by rw [HOE.out, List.take_of_length_le (by have := HN.out; omega)])
      have h1 := HRA.out
      have h3 := HRG.out
      have hb := HBW.out
      have hlen : (hpadI O).length = 40 := hpadI_len (by have := HOL.out; omega)
      go_wp2_with (refine wpList_loadG arrI rfl _ rfl g _ _ rfl h3 hlen ?_; refine wpList_storeWholeG arrI rfl _ _ rfl w.heap.size _ _ (hpadI O) rfl rfl h1 hlen (zeroRow_len _ _) (hpadI_one _) w w.heap.size hb (Nat.le_refl _) ?_)
      intro w6 hr6 hb6 _
      go_wp2
      exact ret_arrG arrI rfl rfl hr6 hlen rfl ⟨by rw [HE.out], hb6⟩
def HEachRelE (F : HN → List Int → Int) (l : List HN) (g : Nat) (w : World) (i : Value) (wr : World) : Prop :=
  ∃ j : Nat, j ≤ l.length ∧ i = .int .i64 (j : Int) ∧ Row wr w.heap.size 55 (zeroRow 40 (.int .i64 0)) ∧ Row wr g 55 (hpadI (heach (0 : Int) F (l.take j) [])) ∧ Below w.heap.size w wr
def hbelowE (nm : List Int) (O : List Int) (m : Nat) : List Value := ((nm.take m).map fun q => O.getD q.toNat 0).map iv
def HBelRelE (nm : List Int) (O : List Int) (W : World) (bv k : Value) (wr : World) : Prop :=
  ∃ m : Nat, m ≤ nm.length ∧ k = .int .i64 (m : Int) ∧ wr.ownsRow W.heap.size 3 1 bv m (hbelowE nm O m) ∧ Below W.heap.size W wr
set_option maxHeartbeats 16000000 in
set_option maxRecDepth 100000 in
theorem heachE_any (F : HN → List Int → Int) (l : List HN) (lvv : Value) (b : Nat) (w : World) (hl : IsPreds l lvv w) (h40 : l.length ≤ 40) (hnm : ∀ j (h : j < l.length), ∀ q ∈ hpnm l[j], 0 ≤ q ∧ q < (j : Int))
    (hF : ∀ j (h : j < l.length) (bs : Value) (W : World), Below w.heap.size w W → IsV iv (hbel (0 : Int) (heach (0 : Int) F (l.take j) []) l[j]) bs W → Calls Tryd.prog 29 #[hpv l[j], bs, .pointer (some ⟨b, 0, none⟩)] W fun e w' => e = .returned (.int .i64 (F l[j] (hbel (0 : Int) (heach (0 : Int) F (l.take j) []) l[j]))) ∧ Below W.heap.size W w') :
    Calls Tryd.prog 23 #[lvv, .func (.func 29) #[] #[.pointer (some ⟨b, 0, none⟩)]] w fun e w' => e = .returned (.agg (hpadI (heach (0 : Int) F l [])).toArray) ∧ Below w.heap.size w w' := by
  have HL := Lib.hid hl
  have HFF := Lib.hid hF
  have HNMQ := Lib.hid hnm
  obtain ⟨A, n, c, rfl⟩ := hl.1.shape
  have HN := Lib.hid hl.1.parts.1
  have hn40 : n ≤ 40 := by have := HN.out; omega
  clear hl h40 hF hnm
  go_enter Tryd.func23, Tryd.ntmps23
  go_wp2_with (refine wpList_allocG arrI rfl rfl ?_)
  intro w1 hr1 hb1
  have hz1 := hr1.lt
  go_wp2_with (refine wpList_allocG arrI rfl rfl ?_)
  intro w2 hr2 hb2
  obtain ⟨g, hg⟩ : ∃ g, g = w1.heap.size := ⟨_, rfl⟩
  rw [← hg] at hr2 ⊢
  have HST : Hid (HEachRelE F l g w (.int .i64 0) w2) := Lib.hid ⟨0, Nat.zero_le _, rfl, hr1.below hb2 hr1.lt, by show Row w2 g _ (hpadI []); rw [hpadI_nil]; exact hr2, below_then hb1 hb2⟩
  have hgw : w.heap.size < g := by omega
  clear hr1 hb1 hz1 hr2 hb2 hg
  go_wp2
  go_loopw [13] (HEachRelE F l g w) (fun i _ => n - (intOf i).toNat)
  case atStart => exact HST.out
  case round =>
    obtain ⟨j, hj, rfl, hra, hrg, hbw⟩ := hrel
    obtain ⟨w2, rfl⟩ : ∃ x, x = wr := ⟨wr, rfl⟩
    have hjn : j ≤ n := by have := HN.out; omega
    have HRA := Lib.hid hra
    have HRG := Lib.hid hrg
    have HBW := Lib.hid hbw
    have HGL := Lib.hid hrg.lt
    obtain ⟨O, hO⟩ : ∃ O, O = heach (0 : Int) F (l.take j) [] := ⟨_, rfl⟩
    rw [← hO] at HRG
    have HOE := Lib.hid hO
    have HOL : Hid (O.length = j) := Lib.hid (by rw [hO, heach_len, List.length_take, Nat.min_eq_left hj]; simp)
    clear hj hra hrg hbw hO
    by_cases hlt : j < n
    · have hjl : j < l.length := by have := HN.out; omega
      have hj40 : j < 40 := by omega
      have hj40i : (j : Int) < 40 := by omega
      have hlti : (j : Int) < (n : Int) := by omega
      obtain ⟨ad, rfl, had, hcell⟩ := (HL.out.1.below HBW.out).at (m := 7) (fun _ => rfl) (by omega) hjl
      have HAT0 := Lib.hid ((HL.out.2 l[j] (List.getElem_mem hjl)).below HBW.out)
      have HFJ := Lib.hid (HFF.out j hjl)
      have HQ := Lib.hid (HNMQ.out j hjl)
      have HNX0 := Lib.hid (heach_next (0 : Int) F hjl)
      rw [← HOE.out] at HNX0 HFJ
      obtain ⟨y, hy⟩ : ∃ y, y = l[j] := ⟨_, rfl⟩
      rw [← hy] at hcell HAT0 HFJ HQ HNX0
      have HLB : Hid ((hpnm y).length ≤ 17592186044415) := Lib.hid (by unfold hpnm; split; · exact HAT0.out.lls
                                                                       · simp)
      obtain ⟨v, hv⟩ : ∃ v, v = F y (hbel (0 : Int) O y) := ⟨_, rfl⟩
      rw [← hv] at HFJ
      have HNX : Hid (heach (0 : Int) F (l.take (j + 1)) [] = O ++ [v]) := Lib.hid (by rw [HNX0.out, hv]; rfl)
      have HNM := Lib.hid (fun W => hnamed_any y W)
      obtain ⟨nm, hnm⟩ : ∃ nm, nm = hpnm y := ⟨_, rfl⟩
      have HBL0 : Hid (hbel (0 : Int) O y = nm.map fun q => O.getD q.toNat (0 : Int)) := Lib.hid (by rw [hnm]; rfl)
      rw [← hnm] at HNM HQ HLB
      rw [HBL0.out] at HFJ
      clear HNX0 hv hnm hy had
      obtain ⟨k0, k1, k2, k3, k4, k5, k6⟩ := cells7 hcell
      obtain ⟨op, col, ⟨nb, nn, ns⟩, vals, ls, vv, lv⟩ := y
      dsimp only at k0 k1 k2 k3 k4 k5 k6
      obtain ⟨vA, vm, vc, rfl⟩ := HAT0.out.vals.shape
      obtain ⟨lA, lm, lc, rfl⟩ := HAT0.out.ls.shape
      unfold hpv hpcells at HNM HFJ
      dsimp only at HNM HFJ
      clear hcell
      obtain ⟨nb7, hnb7⟩ : ∃ x, x = w2.heap.size := ⟨_, rfl⟩
      have hb7 : Below w2.heap.size w2 (w2.alloc (.cells #[.int .i64 op, .int .i64 col, .bool nb, .int .i64 nn, .string ns, .slice vA vm vc, .slice lA lm lc] 51)) := (Below.refl _ _).alloc (Nat.le_refl _) _
      have RN := Lib.hid (box_rowP op col nb nn ns (.slice vA vm vc) (.slice lA lm lc) w2)
      have HB7 := Lib.hid hb7
      have HCN := Lib.hid (HNM.out (w2.alloc (.cells #[.int .i64 op, .int .i64 col, .bool nb, .int .i64 nn, .string ns, .slice vA vm vc, .slice lA lm lc] 51)))
      have b0 := RN.out.cell 0
      have b1 := RN.out.cell 1
      have b2 := RN.out.cell 2
      have b3 := RN.out.cell 3
      have b4 := RN.out.cell 4
      have b5 := RN.out.cell 5
      have b6 := RN.out.cell 6
      clear hb7 HNM
      go_wp2_with fail
      refine HCN.out.mono ?_
      rintro e w3 ⟨⟨nv, rfl, hnv⟩, hb3⟩
      have hnv3 := hnv w3 ((HAT0.out.below HB7.out).below hb3)
      obtain ⟨nA, nmm, nc, rfl⟩ := hnv3.shape
      have HNV := Lib.hid hnv3
      have HNVL := Lib.hid hnv3.parts.1
      have hnmI : (nmm : Int) ≤ 9223372036854775807 := by have h := hnv3.parts; have h2 := h.2.2.1; have h3 := h.2.2.2.1; unfold maxLen at h3; omega
      have HB3 := Lib.hid (HB7.out.trans (hb3.mono HB7.out.size))
      have RN3 := Lib.hid (RN.out.below hb3 RN.out.lt)
      rw [← hnb7] at RN3
      have HRA3 := Lib.hid (HRA.out.below HB3.out HRA.out.lt)
      have HRG3 := Lib.hid (HRG.out.below HB3.out HRG.out.lt)
      have HBW3 := Lib.hid (below_then HBW.out HB3.out)
      have HSTB := Lib.hid (show HBelRelE nm O w3 (.slice none 0 0) (.int .i64 0) w3 from ⟨0, Nat.zero_le _, rfl, World.ownsRow_nil _ _ _ _, Below.refl _ _⟩)
      clear hnv hnv3 hb3 b0 b1 b2 b3 b4 b5 b6 k0 k1 k2 k3 k4 k5 k6
      go_wp2
      rw [← hnb7]
      clear hnb7
      go_loopw [8, 21] (HBelRelE nm O w3) (fun _ i _ => nmm - (intOf i).toNat)
      case atStart => exact HSTB.out
      case round =>
        obtain ⟨m, hm, rfl, hown, hbl⟩ := hrel
        obtain ⟨w4, rfl⟩ : ∃ x, x = wr := ⟨wr, rfl⟩
        have HOW := Lib.hid hown
        have HBL := Lib.hid hbl
        have hmn : m ≤ nmm := by have := HNVL.out; omega
        have HRG4 := Lib.hid (HRG3.out.below hbl HRG3.out.lt)
        have HMB : Hid (m ≤ 17592186044415) := Lib.hid (Nat.le_trans hm HLB.out)
        clear hm hown hbl
        by_cases hlt2 : m < nmm
        · have hml : m < nm.length := by have := HNVL.out; omega
          have hlti2 : (m : Int) < (nmm : Int) := by omega
          obtain ⟨a2, rfl, _, hc2⟩ := (HNV.out.below HBL.out).at hml
          obtain ⟨q, hq⟩ : ∃ q, q = nm[m] := ⟨_, rfl⟩
          have hqr := HQ.out q (by rw [hq]; exact List.getElem_mem hml)
          rw [← hq] at hc2
          obtain ⟨qn, rfl⟩ := Int.eq_ofNat_of_zero_le hqr.1
          have hqn : qn < j := by omega
          have hq40 : (qn : Int) < 40 := by omega
          have hc3 : w4.cell? (a2.add m) = some (.int .i64 (qn : Int)) := hc2
          obtain ⟨x, hx⟩ : ∃ x, x = O.getD qn (0 : Int) := ⟨_, rfl⟩
          have hx0 : w4.cell? ⟨g, qn, none⟩ = some (.int .i64 x) := by rw [HRG4.out.cell, hpadI_at (by have := HOL.out; omega), hx]; try rfl
          have HSN : Hid (hbelowE nm O (m + 1) = hbelowE nm O m ++ [iv x]) := Lib.hid (by unfold hbelowE; rw [List.take_succ_eq_append_getElem hml, List.map_append, List.map_append, ← hq, hx]; try rfl)
          clear hc2 hq hqr hx
          obtain ⟨W2, hW2⟩ : ∃ W2, W2 = w4 := ⟨_, rfl⟩
          have hown2 := HOW.out
          have hbw2 := HBL.out
          have hz2 := HBL.out.size
          have hmb : m < 17592186044415 := Nat.lt_of_lt_of_le hml HLB.out
          go_wp2_with (at_builtin; refine wpList_pushBig elemI rfl _ _ rfl w3.heap.size _ _ _ (iv x) w4 w3 rfl rfl rfl rfl hown2 hbw2 hz2 (by omega) (by omega) ?_)
          intro v7 w7 hown7 hb7 _ _
          have HREL : Hid (HBelRelE nm O w3 v7 (.int .i64 ((m : Int) + 1)) w7) := Lib.hid ⟨m + 1, hml, by go_num, by rw [HSN.out]; exact hown7, hb7⟩
          clear hown7 hb7 hown2 hbw2 hz2 hmb
          go_wp2
          go_roundw
          case rel => exact HREL.out
          case measure => simp [intOf]; omega
        · obtain rfl : m = nmm := by omega
          have hlti2 : ¬ (m : Int) < (m : Int) := by omega
          have hown3 := HOW.out
          unfold hbelowE at hown3
          rw [List.take_of_length_le (by have := HNVL.out; omega)] at hown3
          have HBV := Lib.hid (isV_own (f := iv) hown3)
          have HRA4 := Lib.hid (HRA3.out.below HBL.out HRA3.out.lt)
          have RN4 := Lib.hid (RN3.out.below HBL.out RN3.out.lt)
          have HBW4 := Lib.hid (below_then HBW3.out HBL.out)
          have HCF := Lib.hid (HFJ.out _ w4 HBW4.out HBV.out)
          have b0 := RN4.out.cell 0
          have b1 := RN4.out.cell 1
          have b2 := RN4.out.cell 2
          have b3 := RN4.out.cell 3
          have b4 := RN4.out.cell 4
          have b5 := RN4.out.cell 5
          have b6 := RN4.out.cell 6
          clear hown3
          go_wp2_with fail
          refine HCF.out.mono ?_
          rintro e w5 ⟨rfl, hb5⟩
          have HRA5 := Lib.hid (HRA4.out.below hb5 HRA4.out.lt)
          have HRG5 := Lib.hid (HRG4.out.below hb5 HRG4.out.lt)
          have HB5 := Lib.hid (below_then HBW4.out hb5)
          clear hb5 b0 b1 b2 b3 b4 b5 b6
          have e1 : w5.cell? ⟨g, j, none⟩ = some (.int .i64 0) := by rw [HRG5.out.cell, hpadI_free HOL.out hj40]
          have fr := HRG5.out.free j
          go_wp2
          go_roundw
          case rel =>
            refine ⟨j + 1, hjl, by go_num, HRA5.out.far (p := ⟨g, j, none⟩) (by show w.heap.size ≠ g; omega) _, ?_, HB5.out.setCell (p := ⟨g, j, none⟩) (by show w.heap.size ≤ g; omega) _⟩
            have h := HRG5.out.set_ j (.int .i64 v)
            rw [hpadI_set HOL.out hj40] at h
            rw [HNX.out]
            exact h
          case measure => simp [intOf]; omega
    · obtain rfl : j = n := by omega
      have hlti : ¬ (j : Int) < (j : Int) := by omega
      have HE : Hid (heach (0 : Int) F l [] = O) := Lib.hid (by rw [HOE.out, List.take_of_length_le (by have := HN.out; omega)])
      have h1 := HRA.out
      have h3 := HRG.out
      have hb := HBW.out
      have hlen : (hpadI O).length = 40 := hpadI_len (by have := HOL.out; omega)
      go_wp2_with (refine wpList_loadG arrI rfl _ rfl g _ _ rfl h3 hlen ?_; refine wpList_storeWholeG arrI rfl _ _ rfl w.heap.size _ _ (hpadI O) rfl rfl h1 hlen (zeroRow_len _ _) (hpadI_one _) w w.heap.size hb (Nat.le_refl _) ?_)
      intro w6 hr6 hb6 _
      go_wp2
      exact ret_arrG arrI rfl rfl hr6 hlen rfl ⟨by rw [HE.out], hb6⟩
def HEachRelO (F : HN → List T3 → T3) (l : List HN) (g : Nat) (w : World) (i : Value) (wr : World) : Prop :=
  ∃ j : Nat, j ≤ l.length ∧ i = .int .i64 (j : Int) ∧ Row wr w.heap.size 67 (zeroRow 120 (.bool false)) ∧ Row wr g 67 (hpadT (heach hpno3 F (l.take j) [])) ∧ Below w.heap.size w wr
def hbelowO (nm : List Int) (O : List T3) (m : Nat) : List Value := ((nm.take m).map fun q => O.getD q.toNat hpno3).flatMap t3c
def HBelRelO (nm : List Int) (O : List T3) (W : World) (bv k : Value) (wr : World) : Prop :=
  ∃ m : Nat, m ≤ nm.length ∧ k = .int .i64 (m : Int) ∧ wr.ownsRow W.heap.size 44 3 bv m (hbelowO nm O m) ∧ Below W.heap.size W wr
set_option maxHeartbeats 16000000 in
set_option maxRecDepth 100000 in
theorem heachO_any (F : HN → List T3 → T3) (l : List HN) (lvv : Value) (b : Nat) (w : World) (hl : IsPreds l lvv w) (h40 : l.length ≤ 40) (hnm : ∀ j (h : j < l.length), ∀ q ∈ hpnm l[j], 0 ≤ q ∧ q < (j : Int))
    (hF : ∀ j (h : j < l.length) (bs : Value) (W : World), Below w.heap.size w W → IsR t3c (hbel hpno3 (heach hpno3 F (l.take j) []) l[j]) bs W → Calls Tryd.prog 37 #[hpv l[j], bs, .pointer (some ⟨b, 0, none⟩)] W fun e w' => e = .returned (t3v (F l[j] (hbel hpno3 (heach hpno3 F (l.take j) []) l[j]))) ∧ Below W.heap.size W w') :
    Calls Tryd.prog 36 #[lvv, .func (.func 37) #[] #[.pointer (some ⟨b, 0, none⟩)]] w fun e w' => e = .returned (.agg (hpadT (heach hpno3 F l [])).toArray) ∧ Below w.heap.size w w' := by
  have HL := Lib.hid hl
  have HFF := Lib.hid hF
  have HNMQ := Lib.hid hnm
  obtain ⟨A, n, c, rfl⟩ := hl.1.shape
  have HN := Lib.hid hl.1.parts.1
  have hn40 : n ≤ 40 := by have := HN.out; omega
  clear hl h40 hF hnm
  go_enter Tryd.func36, Tryd.ntmps36
  go_wp2_with (refine wpList_allocG arrT rfl rfl ?_)
  intro w1 hr1 hb1
  have hz1 := hr1.lt
  go_wp2_with (refine wpList_allocG arrT rfl rfl ?_)
  intro w2 hr2 hb2
  obtain ⟨g, hg⟩ : ∃ g, g = w1.heap.size := ⟨_, rfl⟩
  rw [← hg] at hr2 ⊢
  have HST : Hid (HEachRelO F l g w (.int .i64 0) w2) := Lib.hid ⟨0, Nat.zero_le _, rfl, hr1.below hb2 hr1.lt, by show Row w2 g _ (hpadT []); rw [hpadT_nil]; exact hr2, below_then hb1 hb2⟩
  have hgw : w.heap.size < g := by omega
  clear hr1 hb1 hz1 hr2 hb2 hg
  go_wp2
  go_loopw [13] (HEachRelO F l g w) (fun i _ => n - (intOf i).toNat)
  case atStart => exact HST.out
  case round =>
    obtain ⟨j, hj, rfl, hra, hrg, hbw⟩ := hrel
    obtain ⟨w2, rfl⟩ : ∃ x, x = wr := ⟨wr, rfl⟩
    have hjn : j ≤ n := by have := HN.out; omega
    have HRA := Lib.hid hra
    have HRG := Lib.hid hrg
    have HBW := Lib.hid hbw
    have HGL := Lib.hid hrg.lt
    obtain ⟨O, hO⟩ : ∃ O, O = heach hpno3 F (l.take j) [] := ⟨_, rfl⟩
    rw [← hO] at HRG
    have HOE := Lib.hid hO
    have HOL : Hid (O.length = j) := Lib.hid (by rw [hO, heach_len, List.length_take, Nat.min_eq_left hj]; simp)
    clear hj hra hrg hbw hO
    by_cases hlt : j < n
    · have hjl : j < l.length := by have := HN.out; omega
      have hj40 : j < 40 := by omega
      have hj40i : (j : Int) < 40 := by omega
      have hlti : (j : Int) < (n : Int) := by omega
      obtain ⟨ad, rfl, had, hcell⟩ := (HL.out.1.below HBW.out).at (m := 7) (fun _ => rfl) (by omega) hjl
      have HAT0 := Lib.hid ((HL.out.2 l[j] (List.getElem_mem hjl)).below HBW.out)
      have HFJ := Lib.hid (HFF.out j hjl)
      have HQ := Lib.hid (HNMQ.out j hjl)
      have HNX0 := Lib.hid (heach_next hpno3 F hjl)
      rw [← HOE.out] at HNX0 HFJ
      obtain ⟨y, hy⟩ : ∃ y, y = l[j] := ⟨_, rfl⟩
      rw [← hy] at hcell HAT0 HFJ HQ HNX0
      have HLB : Hid ((hpnm y).length ≤ 17592186044415) := Lib.hid (by unfold hpnm; split; · exact HAT0.out.lls
                                                                       · simp)
      obtain ⟨v, hv⟩ : ∃ v, v = F y (hbel hpno3 O y) := ⟨_, rfl⟩
      rw [← hv] at HFJ
      have HNX : Hid (heach hpno3 F (l.take (j + 1)) [] = O ++ [v]) := Lib.hid (by rw [HNX0.out, hv]; rfl)
      have HNM := Lib.hid (fun W => hnamed_any y W)
      obtain ⟨nm, hnm⟩ : ∃ nm, nm = hpnm y := ⟨_, rfl⟩
      have HBL0 : Hid (hbel hpno3 O y = nm.map fun q => O.getD q.toNat hpno3) := Lib.hid (by rw [hnm]; rfl)
      rw [← hnm] at HNM HQ HLB
      rw [HBL0.out] at HFJ
      clear HNX0 hv hnm hy had
      obtain ⟨k0, k1, k2, k3, k4, k5, k6⟩ := cells7 hcell
      obtain ⟨op, col, ⟨nb, nn, ns⟩, vals, ls, vv, lv⟩ := y
      dsimp only at k0 k1 k2 k3 k4 k5 k6
      obtain ⟨vA, vm, vc, rfl⟩ := HAT0.out.vals.shape
      obtain ⟨lA, lm, lc, rfl⟩ := HAT0.out.ls.shape
      unfold hpv hpcells at HNM HFJ
      dsimp only at HNM HFJ
      clear hcell
      obtain ⟨nb7, hnb7⟩ : ∃ x, x = w2.heap.size := ⟨_, rfl⟩
      have hb7 : Below w2.heap.size w2 (w2.alloc (.cells #[.int .i64 op, .int .i64 col, .bool nb, .int .i64 nn, .string ns, .slice vA vm vc, .slice lA lm lc] 51)) := (Below.refl _ _).alloc (Nat.le_refl _) _
      have RN := Lib.hid (box_rowP op col nb nn ns (.slice vA vm vc) (.slice lA lm lc) w2)
      have HB7 := Lib.hid hb7
      have HCN := Lib.hid (HNM.out (w2.alloc (.cells #[.int .i64 op, .int .i64 col, .bool nb, .int .i64 nn, .string ns, .slice vA vm vc, .slice lA lm lc] 51)))
      have b0 := RN.out.cell 0
      have b1 := RN.out.cell 1
      have b2 := RN.out.cell 2
      have b3 := RN.out.cell 3
      have b4 := RN.out.cell 4
      have b5 := RN.out.cell 5
      have b6 := RN.out.cell 6
      clear hb7 HNM
      go_wp2_with fail
      refine HCN.out.mono ?_
      rintro e w3 ⟨⟨nv, rfl, hnv⟩, hb3⟩
      have hnv3 := hnv w3 ((HAT0.out.below HB7.out).below hb3)
      obtain ⟨nA, nmm, nc, rfl⟩ := hnv3.shape
      have HNV := Lib.hid hnv3
      have HNVL := Lib.hid hnv3.parts.1
      have hnmI : (nmm : Int) ≤ 9223372036854775807 := by have h := hnv3.parts; have h2 := h.2.2.1; have h3 := h.2.2.2.1; unfold maxLen at h3; omega
      have HB3 := Lib.hid (HB7.out.trans (hb3.mono HB7.out.size))
      have RN3 := Lib.hid (RN.out.below hb3 RN.out.lt)
      rw [← hnb7] at RN3
      have HRA3 := Lib.hid (HRA.out.below HB3.out HRA.out.lt)
      have HRG3 := Lib.hid (HRG.out.below HB3.out HRG.out.lt)
      have HBW3 := Lib.hid (below_then HBW.out HB3.out)
      have HSTB := Lib.hid (show HBelRelO nm O w3 (.slice none 0 0) (.int .i64 0) w3 from ⟨0, Nat.zero_le _, rfl, World.ownsRow_nil _ _ _ _, Below.refl _ _⟩)
      clear hnv hnv3 hb3 b0 b1 b2 b3 b4 b5 b6 k0 k1 k2 k3 k4 k5 k6
      go_wp2
      rw [← hnb7]
      clear hnb7
      go_loopw [8, 21] (HBelRelO nm O w3) (fun _ i _ => nmm - (intOf i).toNat)
      case atStart => exact HSTB.out
      case round =>
        obtain ⟨m, hm, rfl, hown, hbl⟩ := hrel
        obtain ⟨w4, rfl⟩ : ∃ x, x = wr := ⟨wr, rfl⟩
        have HOW := Lib.hid hown
        have HBL := Lib.hid hbl
        have hmn : m ≤ nmm := by have := HNVL.out; omega
        have HRG4 := Lib.hid (HRG3.out.below hbl HRG3.out.lt)
        have HMB : Hid (m ≤ 17592186044415) := Lib.hid (Nat.le_trans hm HLB.out)
        clear hm hown hbl
        by_cases hlt2 : m < nmm
        · have hml : m < nm.length := by have := HNVL.out; omega
          have hlti2 : (m : Int) < (nmm : Int) := by omega
          obtain ⟨a2, rfl, _, hc2⟩ := (HNV.out.below HBL.out).at hml
          obtain ⟨q, hq⟩ : ∃ q, q = nm[m] := ⟨_, rfl⟩
          have hqr := HQ.out q (by rw [hq]; exact List.getElem_mem hml)
          rw [← hq] at hc2
          obtain ⟨qn, rfl⟩ := Int.eq_ofNat_of_zero_le hqr.1
          have hqn : qn < j := by omega
          have hq40 : (qn : Int) < 40 := by omega
          have hc3 : w4.cell? (a2.add m) = some (.int .i64 (qn : Int)) := hc2
          obtain ⟨x, hx⟩ : ∃ x, x = O.getD qn hpno3 := ⟨_, rfl⟩
          have hx0 : w4.cell? ⟨g, qn * 3, none⟩ = some (.bool x.no) := by rw [HRG4.out.cell, show qn * 3 = qn * 3 + 0 from rfl, hpadT_at (by have := HOL.out; omega) (by omega), hx]; rfl
          have hx1 : w4.cell? ⟨g, qn * 3 + 1, none⟩ = some (.bool x.un) := by rw [HRG4.out.cell, hpadT_at (by have := HOL.out; omega) (by omega), hx]; rfl
          have hx2 : w4.cell? ⟨g, qn * 3 + 2, none⟩ = some (.bool x.yes) := by rw [HRG4.out.cell, hpadT_at (by have := HOL.out; omega) (by omega), hx]; rfl
          have HSN : Hid (hbelowO nm O (m + 1) = hbelowO nm O m ++ t3c x) := Lib.hid (by unfold hbelowO; rw [List.take_succ_eq_append_getElem hml, List.map_append, ← hq, List.flatMap_append, hx]; simp)
          clear hc2 hq hqr hx
          have hown2 := HOW.out
          have hbw2 := HBL.out
          have hz2 := HBL.out.size
          have hmb : m < 17592186044415 := Nat.lt_of_lt_of_le hml HLB.out
          go_wp2_with (at_builtin; refine wpList_pushBigW elemT3 rfl _ _ rfl w3.heap.size _ _ _ (t3c x) w4 w3 rfl rfl rfl rfl (t3_one _ _ _) hown2 hbw2 hz2 (by omega) (by omega) ?_)
          intro v7 w7 hown7 hb7 _
          have HREL : Hid (HBelRelO nm O w3 v7 (.int .i64 ((m : Int) + 1)) w7) := Lib.hid ⟨m + 1, hml, by go_num, by rw [HSN.out]; exact hown7, hb7⟩
          clear hown7 hb7 hown2 hbw2 hz2 hmb
          go_wp2
          go_roundw
          case rel => exact HREL.out
          case measure => simp [intOf]; omega
        · obtain rfl : m = nmm := by omega
          have hlti2 : ¬ (m : Int) < (m : Int) := by omega
          have hown3 := HOW.out
          unfold hbelowO at hown3
          rw [List.take_of_length_le (by have := HNVL.out; omega)] at hown3
          have HBV := Lib.hid (isR_own (m := 3) (f := t3c) (fun _ => rfl) (by omega) hown3)
          have HRA4 := Lib.hid (HRA3.out.below HBL.out HRA3.out.lt)
          have RN4 := Lib.hid (RN3.out.below HBL.out RN3.out.lt)
          have HBW4 := Lib.hid (below_then HBW3.out HBL.out)
          have HCF := Lib.hid (HFJ.out _ w4 HBW4.out HBV.out)
          have b0 := RN4.out.cell 0
          have b1 := RN4.out.cell 1
          have b2 := RN4.out.cell 2
          have b3 := RN4.out.cell 3
          have b4 := RN4.out.cell 4
          have b5 := RN4.out.cell 5
          have b6 := RN4.out.cell 6
          clear hown3
          go_wp2_with fail
          refine HCF.out.mono ?_
          rintro e w5 ⟨rfl, hb5⟩
          have HRA5 := Lib.hid (HRA4.out.below hb5 HRA4.out.lt)
          have HRG5 := Lib.hid (HRG4.out.below hb5 HRG4.out.lt)
          have HB5 := Lib.hid (below_then HBW4.out hb5)
          clear hb5 b0 b1 b2 b3 b4 b5 b6
          have hrg := HRG5.out
          have hbb5 := HB5.out
          go_wp2_with (refine wpList_storeW rfl _ _ _ rfl g (j * 3) _ (hpadT O) (t3c v) (hpadT (O ++ [v])) (hpadT_put HOL.out hj40 v) rfl rfl hrg infoA_size (by rw [hpadT_len (by have := HOL.out; omega)]; show j * 3 + 3 ≤ 120; omega) (t3_one _ _ _) w w.heap.size hbb5 (by omega) ?_)
          intro w6 hr6 hb6 hk6
          have HREL : Hid (HEachRelO F l g w (.int .i64 ((j : Int) + 1)) w6) := Lib.hid ⟨j + 1, hjl, by go_num, hk6 _ _ _ (by omega) HRA5.out, by rw [HNX.out]; exact hr6, hb6⟩
          clear hr6 hb6 hk6 hrg hbb5
          go_wp2
          go_roundw
          case rel => exact HREL.out
          case measure => simp [intOf]; omega
    · obtain rfl : j = n := by omega
      have hlti : ¬ (j : Int) < (j : Int) := by omega
      have HE : Hid (heach hpno3 F l [] = O) := Lib.hid (by rw [HOE.out, List.take_of_length_le (by have := HN.out; omega)])
      have h1 := HRA.out
      have h3 := HRG.out
      have hb := HBW.out
      have hlen : (hpadT O).length = 120 := hpadT_len (by have := HOL.out; omega)
      go_wp2_with (refine wpList_loadG arrT rfl _ rfl g _ _ rfl h3 hlen ?_; refine wpList_storeWholeG arrT rfl _ _ rfl w.heap.size _ _ (hpadT O) rfl rfl h1 hlen (zeroRow_len _ _) (hpadT_one _) w w.heap.size hb (Nat.le_refl _) ?_)
      intro w6 hr6 hb6 _
      go_wp2
      exact ret_arrG arrT rfl rfl hr6 hlen rfl ⟨by rw [HE.out], hb6⟩
end Go.Proofs.YtniniophoocalaaDoor

/- Predicates' own contracts: slices.Max and slices.Min at ints. Written by gen_hpred.py. -/



namespace Go.Proofs.YtniniophoocalaaDoor

open Go.RowKit

def hxMax (l : List Int) : Int := l.tail.foldl max (l.headD 0)
def HXMaxRel (l : List Int) (W : World) (x i : Value) (wr : World) : Prop := ∃ k : Nat, 1 ≤ k ∧ k ≤ l.length ∧ i = .int .i64 (k : Int) ∧ x = .int .i64 (hxMax (l.take k)) ∧ wr = W
theorem hxMax_next {l : List Int} {k : Nat} (h1 : 1 ≤ k) (h : k < l.length) : hxMax (l.take (k + 1)) = max (hxMax (l.take k)) l[k] := by
  unfold hxMax
  cases l with
  | nil => simp at h
  | cons y l =>
    obtain ⟨k, rfl⟩ : ∃ q, k = q + 1 := ⟨k - 1, by omega⟩
    rw [List.take_succ_cons, List.take_succ_cons, List.tail_cons, List.tail_cons, List.headD_cons, List.headD_cons, List.take_succ_eq_append_getElem (by simpa using h), List.foldl_append]
    rfl
set_option maxHeartbeats 2000000 in
set_option maxRecDepth 100000 in
theorem hxMax_any (l : List Int) (v : Value) (w : World) (hv : IsV iv l v w) (h1 : 1 ≤ l.length) : Calls Tryd.prog 25 #[v] w fun e w' => e = .returned (.int .i64 (hxMax l)) ∧ w = w' := by
  obtain ⟨A, n, c, rfl⟩ := hv.shape
  have HV := Lib.hid hv
  have HN := Lib.hid hv.parts.1
  have hni : (n : Int) ≤ 9223372036854775807 := by have h := hv.parts; have h2 := h.2.2.1; have h3 := h.2.2.2.1; unfold maxLen at h3; omega
  have hn1 : 1 ≤ n := by have := HN.out; omega
  have d1 : decide ((n : Int) < 1) = false := decide_eq_false (by omega)
  have hn0 : (0 : Int) < (n : Int) := by omega
  obtain ⟨ad, rfl, _, hc0⟩ := hv.at (k := 0) h1
  rw [show ad.add 0 = ad by unfold Addr.add; split <;> simp_all] at hc0
  obtain ⟨x0, hx0⟩ : ∃ x, x = l[0] := ⟨_, rfl⟩
  rw [← hx0] at hc0
  have hc1 : w.cell? ad = some (.int .i64 x0) := hc0
  have HST : Hid (HXMaxRel l w (.int .i64 x0) (.int .i64 1) w) := Lib.hid ⟨1, by omega, h1, rfl, by
    rw [hx0]
    unfold hxMax
    cases l with
    | nil => simp at h1
    | cons y l => rfl, rfl⟩
  clear hv h1 hc0 hx0
  go_enter Tryd.func25, Tryd.ntmps25
  go_wp2
  go_loopw [3, 4] (HXMaxRel l w) (fun _ i _ => n - (intOf i).toNat)
  case atStart => exact HST.out
  case round =>
    obtain ⟨k, hk1, hk, rfl, rfl, rfl⟩ := hrel
    have hkn : k ≤ n := by have := HN.out; omega
    obtain ⟨y, hy⟩ : ∃ y, y = hxMax (l.take k) := ⟨_, rfl⟩
    have HY := Lib.hid hy
    rw [← hy]
    clear hk hy hc1
    by_cases hlt : k < n
    · have hkl : k < l.length := by have := HN.out; omega
      have hlti : (k : Int) < (n : Int) := by omega
      obtain ⟨ad2, hA, _, hc⟩ := HV.out.at hkl
      injection hA with hA
      subst hA
      obtain ⟨z, hz⟩ : ∃ z, z = l[k] := ⟨_, rfl⟩
      rw [← hz] at hc
      have hc2 : wr.cell? (ad.add k) = some (.int .i64 z) := hc
      have HNX : Hid (hxMax (l.take (k + 1)) = max y z) := Lib.hid (by rw [hxMax_next hk1 hkl, ← HY.out, ← hz])
      clear hc hz
      go_wp2
      go_roundw
      case rel => exact ⟨k + 1, by omega, hkl, by go_num, by rw [HNX.out], rfl⟩
      case measure => simp [intOf]; omega
    · obtain rfl : k = n := by omega
      have hlti : ¬ (k : Int) < (k : Int) := by omega
      have HE : Hid (hxMax l = y) := Lib.hid (by rw [HY.out, List.take_of_length_le (by have := HN.out; omega)])
      go_wp2
      go_ret
      exact ⟨by rw [HE.out]; try rfl, rfl⟩
def hxMin (l : List Int) : Int := l.tail.foldl min (l.headD 0)
def HXMinRel (l : List Int) (W : World) (x i : Value) (wr : World) : Prop := ∃ k : Nat, 1 ≤ k ∧ k ≤ l.length ∧ i = .int .i64 (k : Int) ∧ x = .int .i64 (hxMin (l.take k)) ∧ wr = W
theorem hxMin_next {l : List Int} {k : Nat} (h1 : 1 ≤ k) (h : k < l.length) : hxMin (l.take (k + 1)) = min (hxMin (l.take k)) l[k] := by
  unfold hxMin
  cases l with
  | nil => simp at h
  | cons y l =>
    obtain ⟨k, rfl⟩ : ∃ q, k = q + 1 := ⟨k - 1, by omega⟩
    rw [List.take_succ_cons, List.take_succ_cons, List.tail_cons, List.tail_cons, List.headD_cons, List.headD_cons, List.take_succ_eq_append_getElem (by simpa using h), List.foldl_append]
    rfl
set_option maxHeartbeats 2000000 in
set_option maxRecDepth 100000 in
theorem hxMin_any (l : List Int) (v : Value) (w : World) (hv : IsV iv l v w) (h1 : 1 ≤ l.length) : Calls Tryd.prog 30 #[v] w fun e w' => e = .returned (.int .i64 (hxMin l)) ∧ w = w' := by
  obtain ⟨A, n, c, rfl⟩ := hv.shape
  have HV := Lib.hid hv
  have HN := Lib.hid hv.parts.1
  have hni : (n : Int) ≤ 9223372036854775807 := by have h := hv.parts; have h2 := h.2.2.1; have h3 := h.2.2.2.1; unfold maxLen at h3; omega
  have hn1 : 1 ≤ n := by have := HN.out; omega
  have d1 : decide ((n : Int) < 1) = false := decide_eq_false (by omega)
  have hn0 : (0 : Int) < (n : Int) := by omega
  obtain ⟨ad, rfl, _, hc0⟩ := hv.at (k := 0) h1
  rw [show ad.add 0 = ad by unfold Addr.add; split <;> simp_all] at hc0
  obtain ⟨x0, hx0⟩ : ∃ x, x = l[0] := ⟨_, rfl⟩
  rw [← hx0] at hc0
  have hc1 : w.cell? ad = some (.int .i64 x0) := hc0
  have HST : Hid (HXMinRel l w (.int .i64 x0) (.int .i64 1) w) := Lib.hid ⟨1, by omega, h1, rfl, by
    rw [hx0]
    unfold hxMin
    cases l with
    | nil => simp at h1
    | cons y l => rfl, rfl⟩
  clear hv h1 hc0 hx0
  go_enter Tryd.func30, Tryd.ntmps30
  go_wp2
  go_loopw [3, 4] (HXMinRel l w) (fun _ i _ => n - (intOf i).toNat)
  case atStart => exact HST.out
  case round =>
    obtain ⟨k, hk1, hk, rfl, rfl, rfl⟩ := hrel
    have hkn : k ≤ n := by have := HN.out; omega
    obtain ⟨y, hy⟩ : ∃ y, y = hxMin (l.take k) := ⟨_, rfl⟩
    have HY := Lib.hid hy
    rw [← hy]
    clear hk hy hc1
    by_cases hlt : k < n
    · have hkl : k < l.length := by have := HN.out; omega
      have hlti : (k : Int) < (n : Int) := by omega
      obtain ⟨ad2, hA, _, hc⟩ := HV.out.at hkl
      injection hA with hA
      subst hA
      obtain ⟨z, hz⟩ : ∃ z, z = l[k] := ⟨_, rfl⟩
      rw [← hz] at hc
      have hc2 : wr.cell? (ad.add k) = some (.int .i64 z) := hc
      have HNX : Hid (hxMin (l.take (k + 1)) = min y z) := Lib.hid (by rw [hxMin_next hk1 hkl, ← HY.out, ← hz])
      clear hc hz
      go_wp2
      go_roundw
      case rel => exact ⟨k + 1, by omega, hkl, by go_num, by rw [HNX.out], rfl⟩
      case measure => simp [intOf]; omega
    · obtain rfl : k = n := by omega
      have hlti : ¬ (k : Int) < (k : Int) := by omega
      have HE : Hid (hxMin l = y) := Lib.hid (by rw [HY.out, List.take_of_length_le (by have := HN.out; omega)])
      go_wp2
      go_ret
      exact ⟨by rw [HE.out]; try rfl, rfl⟩
theorem foldl_max_le {m : Int} : ∀ (l : List Int) (a : Int), l.foldl max a ≤ m ↔ a ≤ m ∧ ∀ x ∈ l, x ≤ m
  | [], a => by simp
  | y :: l, a => by
    rw [List.foldl_cons, foldl_max_le l, List.forall_mem_cons]
    constructor
    · rintro ⟨h1, h2⟩; exact ⟨by omega, by omega, h2⟩
    · rintro ⟨h1, h2, h3⟩; exact ⟨by omega, h3⟩
theorem hxMax_le {l : List Int} {m : Int} (h : 1 ≤ l.length) : hxMax l ≤ m ↔ ∀ x ∈ l, x ≤ m := by
  cases l with
  | nil => simp at h
  | cons y l =>
    unfold hxMax
    rw [List.tail_cons, List.headD_cons, foldl_max_le, List.forall_mem_cons]
theorem hxMax_of {l : List Int} (h : 1 ≤ l.length) (h0 : ∀ x ∈ l, 0 ≤ x) : l.foldl max 0 = hxMax l := by
  cases l with
  | nil => simp at h
  | cons y l =>
    have := h0 y (by simp)
    unfold hxMax
    rw [List.tail_cons, List.headD_cons, List.foldl_cons, show max 0 y = y by omega]
theorem hxMin_of {l : List Int} (h : 1 ≤ l.length) (h0 : ∀ x ∈ l, x ≤ 2) : l.foldl min 2 = hxMin l := by
  cases l with
  | nil => simp at h
  | cons y l =>
    have := h0 y (by simp)
    unfold hxMin
    rw [List.tail_cons, List.headD_cons, List.foldl_cons, show min 2 y = y by omega]
end Go.Proofs.YtniniophoocalaaDoor
