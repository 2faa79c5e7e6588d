/- Texts that the claims of this seat share, part 6: PFill PCut PLay PCat POps PShape PHead Apart. -/
import Derived.Lib.AppendZeros
import Derived.Laws.Tables
import Derived.Test.YtblpkmmhmdpkjaaGreatDoorDG5
/- patched's own contracts: sizesFrom, numbersFrom. -/



namespace Go.Proofs.YtblpkmmhmdpkjaaGreatDoor

open Go.RowKit

/-- Numbers in a row of the call's own, or none. -/
def RetSz (o : Option (List Nat)) (w : World) (e : Ending) (w' : World) : Prop :=
  match o with
  | none => e = .returned (.tuple #[.slice none 0 0, .bool false]) ∧ Below w.heap.size w w'
  | some us => ∃ g, e = .returned (.tuple #[.slice (some ⟨g, 0, none⟩) us.length us.length, .bool true]) ∧ w.heap.size ≤ g ∧ Row w' g 101 (us.map uv) ∧ Below w.heap.size w w'
def RetNb (o : Option (List Int)) (w : World) (e : Ending) (w' : World) : Prop :=
  match o with
  | none => e = .returned (.tuple #[.slice none 0 0, .bool false]) ∧ Below w.heap.size w w'
  | some xs => ∃ v, e = .returned (.tuple #[v, .bool true]) ∧ IsV iv xs v w' ∧ Below w.heap.size w w'
set_option maxHeartbeats 2000000 in
set_option maxRecDepth 100000 in
theorem sizes_any (base : Int) (l : List Int) (v : Value) (w : World) (hv : IsV iv l v w) (hbi : inInt base) (hl : ∀ x ∈ l, inInt x) (hb : l.length ≤ 1000000) :
    Calls Tryz.prog 188 #[.int .i64 base, v] w (RetSz (omap (pone base) l) w) := by
  obtain ⟨A, n, c, rfl⟩ := hv.shape
  have HN := Lib.hid hv.parts.1
  have HV := Lib.hid hv
  have HL := Lib.hid hl
  have hn6 : n ≤ 1000000 := by have := HN.out; omega
  clear hv hl hb
  go_enter Tryz.func188, Tryz.ntmps188
  go_wp2_with (refine wpList_make elemU rfl _ _ rfl _ _ _ _ n w w.heap.size rfl rfl rfl rfl (by omega) (by omega) (Below.refl _ _) (Nat.le_refl _) ?_)
  intro w1 hr1 hb1
  have HS := Lib.hid (show FillRel (pone base) uv (uv 0) 101 l w (.int .i64 0) w1 from ⟨0, [], Nat.zero_le _, rfl, rfl, by rw [Nat.sub_zero, HN.out]; simpa [uv] using hr1, hb1⟩)
  clear hr1 hb1
  go_wp2
  go_loopw [17] (FillRel (pone base) uv (uv 0) 101 l w) (fun i _ => n - (intOf i).toNat)
  case atStart => exact HS.out
  case round =>
    obtain ⟨k, acc, hk, rfl, hacc, hr, hbw⟩ := hrel
    have hal : acc.length = k := by rw [omap_len hacc, List.length_take]; omega
    rw [HN.out] at hr
    have HACC := Lib.hid hacc
    have HAL := Lib.hid hal
    have HB := Lib.hid hbw
    have HR := Lib.hid hr
    have hk' : k ≤ n := by have := HN.out; omega
    clear hacc hal hk hr
    by_cases hlt : k < n
    · have hkl : k < l.length := by have := HN.out; omega
      have hlti : (k : Int) < (n : Int) := by omega
      obtain ⟨ad, rfl, _, hcell⟩ := (HV.out.below hbw).at hkl
      obtain ⟨x, hx⟩ : ∃ x, x = l[k] := ⟨_, rfl⟩
      have hcx : wr.cell? (ad.add k) = some (.int .i64 x) := by rw [hcell, hx]; rfl
      have hxb : inInt x := by rw [hx]; exact HL.out _ (List.getElem_mem hkl)
      have HX := Lib.hid hx
      have HD := Lib.hid (tdiff_any base x wr hbi hxb)
      obtain ⟨u, d, o, hg⟩ : ∃ u d o, gdiff base x = (u, d, o) := ⟨_, _, _, rfl⟩
      rw [hg] at HD
      have HP := Lib.hid (show pone base x = if o = true then some u else none by unfold pone; rw [hg])
      clear hcell hx hxb hg hbw
      go_wp2_with fail
      refine HD.out.mono ?_
      rintro e w2 ⟨rfl, hb2⟩
      have HB2 := Lib.hid (below_then HB.out hb2)
      cases o with
      | false =>
        have hE := Lib.hid (show omap (pone base) l = none from omap_none (x := x) (by rw [HX.out]; exact List.getElem_mem hkl) (by rw [HP.out]; rfl))
        clear hb2
        go_wp2
        go_ret2
        rw [hE.out]
        exact ⟨rfl, HB2.out⟩
      | true =>
        have hnext := Lib.hid (show omap (pone base) (l.take (k + 1)) = some (acc ++ [u]) from omap_take hkl HACC.out (by rw [← HX.out, HP.out]; rfl))
        have hr2 := HR.out.below hb2 HR.out.lt
        have hfx := hr2.free k
        have hcu : ∃ y, w2.cell? ⟨w.heap.size, k, none⟩ = some y := by
          rw [hr2.cell]
          exact ⟨_, List.getElem?_eq_getElem (by rw [List.length_append, List.length_map, List.length_replicate]; have := HAL.out; omega)⟩
        obtain ⟨u0, hcu⟩ := hcu
        have hset := hr2.set_ k (uv u)
        rw [fill_step hlt HAL.out] at hset
        have HSET := Lib.hid hset
        have HB3 := Lib.hid (HB2.out.setCell (p := ⟨w.heap.size, k, none⟩) (Nat.le_refl _) (uv u))
        clear hset hr2 hb2
        go_wp2
        go_roundw
        case rel => exact ⟨k + 1, _, hkl, by go_num, hnext.out, by rw [HN.out]; exact HSET.out, HB3.out⟩
        case measure => simp [intOf]; omega
    · obtain rfl : k = n := by omega
      have hlti : ¬ (k : Int) < (k : Int) := by omega
      have hE : Hid (omap (pone base) l = some acc) := Lib.hid (by
        have h1 := HACC.out
        rwa [List.take_of_length_le (by have := HN.out; omega)] at h1)
      have hr := HR.out
      rw [Nat.sub_self, List.replicate_zero, List.append_nil] at hr
      have HRR := Lib.hid hr
      clear hr hbw
      go_wp2
      go_ret2
      rw [hE.out]
      exact ⟨w.heap.size, by rw [HAL.out]; rfl, Nat.le_refl _, HRR.out, HB.out⟩
theorem gnext_is {s f : Bool} {x : Int} {u : Nat} {z : Int} {ok : Bool} (h : gstep x u f = (z, ok)) : gnext s f x u = if ok = true ∧ (s = true ∨ 0 ≤ z) then some z else none := by
  unfold gnext
  rw [h]
set_option maxHeartbeats 4000000 in
set_option maxRecDepth 100000 in
theorem numbers_from (base : Int) (us : List Nat) (v : Value) (s : Bool) (w : World) (hv : IsV uv us v w) (hbi : inInt base) (hu : ∀ u ∈ us, u < 2 ^ 64) (hb : us.length ≤ 1000000) :
    Calls Tryz.prog 164 #[.int .i64 base, v, .bool s] w (RetNb (omap (gnext s false base) us) w) := by
  obtain ⟨A, n, c, rfl⟩ := hv.shape
  have HN := Lib.hid hv.parts.1
  have HV := Lib.hid hv
  have HL := Lib.hid hu
  have hn6 : n ≤ 1000000 := by have := HN.out; omega
  clear hv hu hb
  go_enter Tryz.func164, Tryz.ntmps164
  go_wp2_with (refine wpList_make elemI rfl _ _ rfl _ _ _ _ n w w.heap.size rfl rfl rfl rfl (by omega) (by omega) (Below.refl _ _) (Nat.le_refl _) ?_)
  intro w1 hr1 hb1
  have HS := Lib.hid (show FillRel (gnext s false base) iv (iv 0) 3 us w (.int .i64 0) w1 from ⟨0, [], Nat.zero_le _, rfl, rfl, by rw [Nat.sub_zero, HN.out]; simpa [iv] using hr1, hb1⟩)
  clear hr1 hb1
  go_wp2
  go_loopw [18] (FillRel (gnext s false base) iv (iv 0) 3 us w) (fun i _ => n - (intOf i).toNat)
  case atStart => exact HS.out
  case round =>
    obtain ⟨k, acc, hk, rfl, hacc, hr, hbw⟩ := hrel
    have hal : acc.length = k := by rw [omap_len hacc, List.length_take]; omega
    rw [HN.out] at hr
    have HACC := Lib.hid hacc
    have HAL := Lib.hid hal
    have HB := Lib.hid hbw
    have HR := Lib.hid hr
    have hk' : k ≤ n := by have := HN.out; omega
    clear hacc hal hk hr
    by_cases hlt : k < n
    · have hkl : k < us.length := by have := HN.out; omega
      have hlti : (k : Int) < (n : Int) := by omega
      obtain ⟨ad, rfl, _, hcell⟩ := (HV.out.below hbw).at hkl
      obtain ⟨x, hx⟩ : ∃ x, x = us[k] := ⟨_, rfl⟩
      have hcx : wr.cell? (ad.add k) = some (.int .u64 (x : Int)) := by rw [hcell, hx]; rfl
      have hxb : x < 18446744073709551616 := by rw [hx]; exact HL.out _ (List.getElem_mem hkl)
      have HX := Lib.hid hx
      have HD := Lib.hid (tstep_any base (x : Int) false wr hbi (by omega) (by omega))
      rw [Int.toNat_natCast] at HD
      obtain ⟨z, o, hg⟩ : ∃ z o, gstep base x false = (z, o) := ⟨_, _, rfl⟩
      rw [hg] at HD
      have HP := Lib.hid (gnext_is (s := s) hg)
      clear hcell hx hxb hg hbw
      go_wp2_with fail
      refine HD.out.mono ?_
      rintro e w2 ⟨rfl, hb2⟩
      have HB2 := Lib.hid (below_then HB.out hb2)
      by_cases hok : o = true ∧ (s = true ∨ 0 ≤ z)
      · have hnext := Lib.hid (show omap (gnext s false base) (us.take (k + 1)) = some (acc ++ [z]) from omap_take hkl HACC.out (by rw [← HX.out, HP.out, if_pos hok]))
        have hr2 := HR.out.below hb2 HR.out.lt
        have hfx := hr2.free k
        have hcu : ∃ y, w2.cell? ⟨w.heap.size, k, none⟩ = some y := by
          rw [hr2.cell]
          exact ⟨_, List.getElem?_eq_getElem (by rw [List.length_append, List.length_map, List.length_replicate]; have := HAL.out; omega)⟩
        obtain ⟨u0, hcu⟩ := hcu
        have hset := hr2.set_ k (iv z)
        rw [fill_step hlt HAL.out] at hset
        have HSET := Lib.hid hset
        have HB3 := Lib.hid (HB2.out.setCell (p := ⟨w.heap.size, k, none⟩) (Nat.le_refl _) (iv z))
        obtain ⟨rfl, hsz⟩ := hok
        clear hset hr2 hb2
        cases s with
        | true =>
          obtain ⟨d, hd⟩ : ∃ d, decide (z < 0) = d := ⟨_, rfl⟩
          cases d
          all_goals
            go_wp2
            go_roundw
            case rel => exact ⟨k + 1, _, hkl, by go_num, hnext.out, by rw [HN.out]; exact HSET.out, HB3.out⟩
            case measure => simp [intOf]; omega
        | false =>
          have d3 : decide (z < 0) = false := decide_eq_false (by rcases hsz with h | h <;> first | cases h | omega)
          clear hsz
          go_wp2
          go_roundw
          case rel => exact ⟨k + 1, _, hkl, by go_num, hnext.out, by rw [HN.out]; exact HSET.out, HB3.out⟩
          case measure => simp [intOf]; omega
      · have hE := Lib.hid (show omap (gnext s false base) us = none from omap_none (x := x) (by rw [HX.out]; exact List.getElem_mem hkl) (by rw [HP.out, if_neg hok]))
        clear hb2
        cases o with
        | false =>
          clear hok
          go_wp2
          go_ret2
          rw [hE.out]
          exact ⟨rfl, HB2.out⟩
        | true =>
          obtain ⟨rfl, d3⟩ : s = false ∧ decide (z < 0) = true := by
            cases s
            · exact ⟨rfl, decide_eq_true (by refine Int.not_le.1 fun h => hok ⟨rfl, .inr h⟩)⟩
            · exact absurd ⟨rfl, .inl rfl⟩ hok
          clear hok
          go_wp2
          go_ret2
          rw [hE.out]
          exact ⟨rfl, HB2.out⟩
    · obtain rfl : k = n := by omega
      have hlti : ¬ (k : Int) < (k : Int) := by omega
      have hE : Hid (omap (gnext s false base) us = some acc) := Lib.hid (by
        have h1 := HACC.out
        rwa [List.take_of_length_le (by have := HN.out; omega)] at h1)
      have hr := HR.out
      rw [Nat.sub_self, List.replicate_zero, List.append_nil] at hr
      have HRR := Lib.hid (isV_row hr HAL.out (by omega))
      clear hr hbw
      go_wp2
      go_ret2
      rw [hE.out]
      exact ⟨_, rfl, HRR.out, HB.out⟩
end Go.Proofs.YtblpkmmhmdpkjaaGreatDoor

/- patched's own contracts: cut, with its closure add. -/



namespace Go.Proofs.YtblpkmmhmdpkjaaGreatDoor

open Go.RowKit

/-- Two rows of numbers of the call's own, that grow turn about. -/
structure Two (w : World) (B : Nat) (u v : Value) (n m : Nat) (xs ys : List Value) : Prop where
  h1 : w.ownsRow B 101 1 u n xs
  h2 : w.ownsRow B 101 1 v m ys
  d : ∀ a, u.ownBlock = some a → v.ownBlock = some a → False
theorem Two.turn {w : World} {B n m : Nat} {u v : Value} {xs ys : List Value} (h : Two w B u v n m xs ys) : Two w B v u m n ys xs := ⟨h.h2, h.h1, fun a p q => h.d a q p⟩
theorem Two.below {w w' : World} {B n m : Nat} {u v : Value} {xs ys : List Value} (h : Two w B u v n m xs ys) (hb : Below w.heap.size w w') : Two w' B u v n m xs ys := ⟨own_below h.h1 hb, own_below h.h2 hb, h.d⟩
theorem Two.past {w w' : World} {B n m g : Nat} {u v : Value} {xs ys : List Value} (h : Two w B u v n m xs ys) (hg : w.grownBy w' (some g)) (hlt : g < B) : Two w' B u v n m xs ys := ⟨own_past h.h1 hg hlt, own_past h.h2 hg hlt, h.d⟩
theorem own_lt {w : World} {B n a : Nat} {e : TypeId} {v : Value} {xs : List Value} (h : w.ownsRow B e 1 v n xs) (ha : v.ownBlock = some a) : a < w.heap.size := by
  rcases h.2 with ⟨h1, _⟩ | ⟨g, c, cur, h1, _, h3, _⟩
  · rw [h1] at ha; cases ha
  · rw [h1] at ha; injection ha with ha; subst ha; exact (Array.getElem?_eq_some_iff.1 h3).1
theorem Two.push {w w' : World} {B n n' m k : Nat} {u v u' : Value} {xs xs' ys : List Value} (h : Two w B u v n m xs ys) (ho : w'.ownsRow B 101 1 u' n' xs') (hg : w.grownBy w' u.ownBlock) (hq : u'.ownBlock = u.ownBlock ∨ u'.ownBlock = some k) (hk : w.heap.size ≤ k) : Two w' B u' v n' m xs' ys := by
  refine ⟨ho, h.h2.kept hg ?_, ?_⟩
  · cases hv : v.ownBlock with
    | none => exact .inl rfl
    | some a => exact .inr fun he => h.d a he.symm hv
  · intro a h1 h2
    rcases hq with hq | hq
    · exact h.d a (hq ▸ h1) h2
    · rw [hq] at h1
      injection h1 with h1
      have := own_lt h.h2 h2
      omega
theorem Two.nil (w : World) (B : Nat) : Two w B (.slice none 0 0) (.slice none 0 0) 0 0 [] [] := ⟨World.ownsRow_nil _ _ _ _, World.ownsRow_nil _ _ _ _, fun a h => by cases h⟩
def AddPost (m B b a : Nat) (n A gap patch : Nat) (xs ys : List Nat) (w : World) (e : Ending) (w' : World) : Prop :=
  ∃ u v, e = .returned (.tuple #[]) ∧ Row w' b 209 [u, v] ∧ Row w' a 3 [.int .i64 ((A + gap : Nat) : Int)] ∧ Two w' B u v (n + 1) (n + 1) ((xs ++ [gap]).map uv) ((ys ++ [patch]).map uv) ∧ Below m w w'
set_option maxHeartbeats 2000000 in
set_option maxRecDepth 100000 in
theorem add_any (m B b a n A gap patch : Nat) (u v : Value) (xs ys : List Nat) (w : World) (hrb : Row w b 209 [u, v]) (hra : Row w a 3 [.int .i64 (A : Int)]) (hmb : m ≤ b) (hma : m ≤ a) (hbB : b < B) (haB : a < B) (hab : a ≠ b) (hB : B ≤ w.heap.size)
    (h2 : Two w B u v n n (xs.map uv) (ys.map uv)) (hn : n ≤ 1000000) (hA : A ≤ 1000000) (hgap : gap ≤ 1000000) :
    Calls Tryz.prog 208 #[.int .i64 (gap : Int), .int .u64 (patch : Int), .pointer (some ⟨b, 0, none⟩), .pointer (some ⟨a, 0, none⟩)] w (AddPost m B b a n A gap patch xs ys w) := by
  have hgw : IntKind.u64.wrap (gap : Int) = (gap : Int) := by rw [IntKind.wrap_u64]; omega
  have hc0 : w.cell? ⟨b, 0, none⟩ = some u := hrb.cell 0
  have H2 := Lib.hid h2
  have HRB := Lib.hid hrb
  have HRA := Lib.hid hra
  clear hrb hra h2
  go_enter Tryz.func208, Tryz.ntmps208
  go_wp2_with (at_builtin; refine wpList_push elemU rfl _ _ rfl B u n (xs.map uv) (uv gap) w w rfl rfl rfl rfl H2.out.h1 (Below.refl _ _) hB (by omega) (by omega) ?_)
  intro u1 w1 ho1 hb1 hg1 hq1
  obtain ⟨A1, c1, hu1, _⟩ := own_shape ho1
  subst hu1
  have hz1 := hb1.size
  have HT1 := Lib.hid (H2.out.push ho1 hg1 hq1 (Nat.le_succ _))
  have hrb1 := HRB.out.below hb1 hbB
  have hra1 := HRA.out.below hb1 haB
  have hcb : w1.cell? ⟨b, 0, none⟩ = some u := hrb1.cell 0
  have hfb := hrb1.free 0
  have hset := hrb1.set_ 0 (.slice A1 (n + 1) c1)
  rw [show [u, v].set 0 (.slice A1 (n + 1) c1) = [.slice A1 (n + 1) c1, v] from rfl] at hset
  have HRB2 := Lib.hid hset
  have HRA2 := Lib.hid (hra1.far (p := ⟨b, 0, none⟩) hab (.slice A1 (n + 1) c1))
  have HS2 := Lib.hid (HT1.out.past (grown_set w1 b 0 (.slice A1 (n + 1) c1)) hbB).turn
  have hc1 : (w1.setCell ⟨b, 0, none⟩ (.slice A1 (n + 1) c1)).cell? ⟨b, 1, none⟩ = some v := hset.cell 1
  have HZS := Lib.hid (show Value.slice (some ⟨w1.heap.size, 0, none⟩) 1 1 = .slice (some ⟨(w1.setCell ⟨b, 0, none⟩ (.slice A1 (n + 1) c1)).heap.size, 0, none⟩) 1 1 by simp)
  have HBM := Lib.hid ((hb1.mono (Nat.le_of_lt (Nat.lt_of_le_of_lt hmb hbB))).setCell (p := ⟨b, 0, none⟩) hmb (.slice A1 (n + 1) c1))
  clear ho1 hg1 hq1 hrb1 hra1 hset hb1 hc0
  go_wp2_with (at_builtin; go_must (refine wpList_push elemU rfl _ _ rfl B v n (ys.map uv) (uv patch) (w1.setCell ⟨b, 0, none⟩ (.slice A1 (n + 1) c1)) (w1.setCell ⟨b, 0, none⟩ (.slice A1 (n + 1) c1)) rfl HZS.out rfl rfl HS2.out.h1 (Below.refl _ _) (Nat.le_trans hB (by simpa using hz1)) (by omega) (by omega) ?_))
  intro v2 w2 ho2 hb2 hg2 hq2
  obtain ⟨A2, c2, hv2, _⟩ := own_shape ho2
  subst hv2
  have HT2 := Lib.hid (HS2.out.push ho2 hg2 hq2 (by simp)).turn
  have hrb2 := HRB2.out.below hb2 hbB
  have hra2 := HRA2.out.below hb2 haB
  have hcb2 : w2.cell? ⟨b, 1, none⟩ = some v := hrb2.cell 1
  have hfb2 := hrb2.free 1
  have hset2 := hrb2.set_ 1 (.slice A2 (n + 1) c2)
  rw [show [Value.slice A1 (n + 1) c1, v].set 1 (.slice A2 (n + 1) c2) = [Value.slice A1 (n + 1) c1, .slice A2 (n + 1) c2] from rfl] at hset2
  have hra3 := hra2.far (p := ⟨b, 1, none⟩) hab (.slice A2 (n + 1) c2)
  have hca : (w2.setCell ⟨b, 1, none⟩ (.slice A2 (n + 1) c2)).cell? ⟨a, 0, none⟩ = some (.int .i64 (A : Int)) := hra3.cell 0
  have hfa := hra3.free 0
  obtain ⟨C, hC⟩ : ∃ C, C = A + gap := ⟨_, rfl⟩
  have hCi : (A : Int) + (gap : Int) = (C : Int) := by omega
  have hCw : IntKind.i64.wrap (C : Int) = (C : Int) := by rw [IntKind.wrap_i64]; omega
  have hset3 := hra3.set_ 0 (.int .i64 (C : Int))
  rw [show [Value.int .i64 (A : Int)].set 0 (.int .i64 (C : Int)) = [.int .i64 (C : Int)] from rfl] at hset3
  have HRA3 := Lib.hid hset3
  have HRB3 := Lib.hid (hset2.far (p := ⟨a, 0, none⟩) (Ne.symm hab) (.int .i64 (C : Int)))
  have HT3 := Lib.hid ((HT2.out.past (grown_set w2 b 1 (.slice A2 (n + 1) c2)) hbB).past (grown_set (w2.setCell ⟨b, 1, none⟩ (.slice A2 (n + 1) c2)) a 0 (.int .i64 (C : Int))) haB)
  have HBF := Lib.hid ((((HBM.out.trans (hb2.mono (Nat.le_of_lt (Nat.lt_of_le_of_lt hmb hbB)))).setCell (p := ⟨b, 1, none⟩) hmb (.slice A2 (n + 1) c2))).setCell (p := ⟨a, 0, none⟩) hma (.int .i64 (C : Int)))
  have HC := Lib.hid hC
  clear ho2 hg2 hq2 hrb2 hra2 hset2 hra3 hset3 hb2 hC hcb hfb hc1
  go_wp2
  go_end0
  refine ⟨(.slice A1 (n + 1) c1), (.slice A2 (n + 1) c2), rfl, HRB3.out, by rw [← HC.out]; exact HRA3.out, ?_, HBF.out⟩
  rw [List.map_append, List.map_append]
  exact HT3.out
theorem ret_struct {P : Program} {f : Func} {p : Tmp} {t t' : TypeId} {K : Ending → World → Prop} {a : Act} {w : World} {g : Nat} {cs : List Value} {d : TypeDesc} (hf : f.results = #[.cell p t]) (hp : a.tmps.getD p undef = .pointer (some ⟨g, 0, none⟩)) (hr : Row w g t' cs)
    (hu : P.underlying t = some d) (hdd : (match d with | .struct _ | .array _ _ => true | _ => false) = true) (hi : (P.info? t).map (·.size) = some cs.length) (hd : a.defers = []) (hK : K (.returned (.agg cs.toArray)) w) : bodyPost P f K .ret a w :=
  bodyPost_ret (v := .agg cs.toArray) (results_cell_row hf a.tmps w g t' cs.toArray (0, 0) _ hp hr hu hdd (by rw [hi]; simp)) hd hK
def prow (us : List Nat) (w k : Nat) : List Nat := plow (us.take k) w ++ us.drop k
theorem prow_len (us : List Nat) (w k : Nat) : (prow us w k).length = us.length := by
  unfold prow plow
  rw [List.length_append, List.length_map, ← List.length_append, List.take_append_drop]
theorem prow_at {us : List Nat} {w k : Nat} (hk : k < us.length) : (prow us w k)[k]? = some us[k] := by
  unfold prow plow
  rw [List.getElem?_append_right (by rw [List.length_map, List.length_take]; omega), List.length_map, List.length_take, show k - min k us.length = 0 by omega, List.getElem?_drop, Nat.add_zero, List.getElem?_eq_getElem hk]
theorem prow_set {us : List Nat} {w k : Nat} (hk : k < us.length) : (prow us w k).set k (us[k] % 2 ^ w) = prow us w (k + 1) := by
  unfold prow plow
  have hl : ((us.take k).map (· % 2 ^ w)).length = k := by rw [List.length_map, List.length_take]; omega
  rw [List.set_append_right _ _ (by omega), hl, Nat.sub_self, List.drop_eq_getElem_cons hk, List.set_cons_zero, List.take_succ_eq_append_getElem hk, List.map_append, List.append_assoc]
  rfl
theorem prow_same {us : List Nat} {w k : Nat} (hk : k < us.length) (h : us[k] / 2 ^ w = 0) : prow us w (k + 1) = prow us w k := by
  rw [← prow_set hk]
  have h1 : us[k] % 2 ^ w = us[k] := by have := Nat.div_add_mod us[k] (2 ^ w); rw [h] at this; omega
  rw [h1]
  refine List.ext_getElem? fun i => ?_
  rw [List.getElem?_set]
  split
  · rename_i e
    subst e
    rw [prow_at hk, if_pos (by rw [prow_len]; exact hk)]
  · rfl
theorem prow_zero (us : List Nat) (w : Nat) : prow us w 0 = us := by simp [prow, plow]
theorem prow_all (us : List Nat) (w : Nat) : prow us w us.length = plow us w := by simp [prow]
/-- Where the next gap counts from: what stands in a box. -/
def boxNat (a : Nat) (W : World) : Nat := match W.cell? ⟨a, 0, none⟩ with | some v => (intOf v).toNat | none => 0
theorem boxNat_row {a A : Nat} {W : World} {t : TypeId} (h : Row W a t [.int .i64 (A : Int)]) : boxNat a W = A := by
  unfold boxNat
  have h1 : W.cell? ⟨a, 0, none⟩ = some (.int .i64 (A : Int)) := h.cell 0
  rw [h1]
  simp [intOf]
/-- What is known in a round: the numbers' row at g, what is answered at r, the pairs at r + 1, the last place at r + 2. -/
structure Cutting (row : List Nat) (ps : List (Nat × Nat)) (last g r : Nat) (w wr : World) : Prop where
  ex : ∃ u v, Row wr (r + 1) 209 [u, v] ∧ Two wr (r + 3) u v ps.length ps.length ((ps.map (·.1)).map uv) ((ps.map (·.2)).map uv)
  box : Row wr (r + 2) 3 [.int .i64 (last : Int)]
  res : Row wr r 209 [.slice none 0 0, .slice none 0 0]
  row : Row wr g 101 (row.map uv)
  size : r + 3 ≤ wr.heap.size
  below : Below g w wr
theorem Cutting.add {row : List Nat} {ps : List (Nat × Nat)} {last g r : Nat} {w wr : World} (h : Cutting row ps last g r w wr) (hgr : g < r) (gap patch : Nat) (hn : ps.length ≤ 1000000) (hA : last ≤ 1000000) (hgap : gap ≤ 1000000) :
    Calls Tryz.prog 208 #[.int .i64 (gap : Int), .int .u64 (patch : Int), .pointer (some ⟨r + 1, 0, none⟩), .pointer (some ⟨r + 2, 0, none⟩)] wr fun e w' => e = .returned (.tuple #[]) ∧ Cutting row (ps ++ [(gap, patch)]) (last + gap) g r w w' := by
  obtain ⟨u, v, hrb, h2⟩ := h.ex
  refine (add_any (r + 1) (r + 3) (r + 1) (r + 2) ps.length last gap patch u v _ _ wr hrb h.box (Nat.le_refl _) (by omega) (by omega) (by omega) (by omega) h.size h2 hn hA hgap).mono ?_
  rintro e w' ⟨u', v', rfl, h3, h4, h5, h6⟩
  refine ⟨rfl, ⟨u', v', h3, ?_⟩, h4, h.res.below h6 (by omega), h.row.below h6 (by omega), Nat.le_trans h.size h6.size, h.below.trans (h6.mono (by omega))⟩
  rw [List.length_append, List.length_singleton]
  have h7 := h5
  rw [show ps.map (·.1) ++ [gap] = (ps ++ [(gap, patch)]).map (·.1) by simp, show ps.map (·.2) ++ [patch] = (ps ++ [(gap, patch)]).map (·.2) by simp] at h7
  exact h7
theorem Cutting.set {row : List Nat} {ps : List (Nat × Nat)} {last g r : Nat} {w wr : World} (h : Cutting row ps last g r w wr) (hgr : g < r) (k T : Nat) : Cutting (row.set k T) ps last g r w (wr.setCell ⟨g, k, none⟩ (.int .u64 (T : Int))) := by
  obtain ⟨u, v, hrb, h2⟩ := h.ex
  refine ⟨⟨u, v, hrb.far (p := ⟨g, k, none⟩) (by dsimp only; omega) _, h2.past (grown_set _ _ _ _) (by omega)⟩, h.box.far (p := ⟨g, k, none⟩) (by dsimp only; omega) _, h.res.far (p := ⟨g, k, none⟩) (by dsimp only; omega) _, ?_, by simpa using h.size, h.below.setCell (p := ⟨g, k, none⟩) (Nat.le_refl _) _⟩
  have h3 := h.row.set_ k (uv T)
  rw [← List.map_set] at h3
  exact h3
def PCutRel (us : List Nat) (W0 g r : Nat) (w : World) (i : Value) (wr : World) : Prop :=
  ∃ k : Nat, k ≤ us.length ∧ i = .int .i64 (k : Int) ∧ Cutting (prow us W0 k) (pst W0 us k).1 (pst W0 us k).2 g r w wr
def CutIn (row : List Nat) (ps : List (Nat × Nat)) (l0 J g r : Nat) (w : World) (_i : Value) (wr : World) : Prop :=
  ∃ i : Nat, i ≤ J ∧ Cutting row (ps ++ List.replicate i (255, 0)) (l0 + 255 * i) g r w wr
def pairsV (u v : Value) : Value := .agg #[u, v]
def CutPost (us : List Nat) (W0 g : Nat) (w : World) (e : Ending) (w' : World) : Prop :=
  ∃ u v, e = .returned (pairsV u v) ∧ IsV uv ((ppairs W0 us).map (·.1)) u w' ∧ IsV uv ((ppairs W0 us).map (·.2)) v w' ∧ Row w' g 101 ((plow us W0).map uv) ∧ Below g w w'
theorem pairs_size : (Tryz.prog.info? 209).map (·.size) = some 2 := by kernel_rfl
set_option maxHeartbeats 4000000 in
set_option maxRecDepth 100000 in
theorem cut_any (us : List Nat) (W0 g n : Nat) (w : World) (hr : Row w g 101 (us.map uv)) (hn : us.length = n) (h64 : ∀ u ∈ us, u < 2 ^ 64) (hb : n ≤ 10000) (hw : W0 ≤ 64) :
    Calls Tryz.prog 189 #[.slice (some ⟨g, 0, none⟩) n n, .int .i64 (W0 : Int)] w (CutPost us W0 g w) := by
  have hgr := hr.lt
  obtain ⟨r, hrz⟩ : ∃ r, r = w.heap.size := ⟨_, rfl⟩
  rw [← hrz] at hgr
  have HN := Lib.hid hn
  have H64 := Lib.hid h64
  obtain ⟨w1, hw1⟩ : ∃ w1, w1 = w.alloc (.cells #[.slice none 0 0, .slice none 0 0] 209) := ⟨_, rfl⟩
  have z1 : w1.heap.size = r + 1 := by rw [hw1, hrz]; simp
  obtain ⟨w2, hw2⟩ : ∃ w2, w2 = w1.alloc (.cells #[.slice none 0 0, .slice none 0 0] 209) := ⟨_, rfl⟩
  have z2 : w2.heap.size = r + 2 := by rw [hw2]; simp [z1]
  obtain ⟨w3, hw3⟩ : ∃ w3, w3 = w2.alloc (.cells #[.int .i64 0] 3) := ⟨_, rfl⟩
  have z3 : w3.heap.size = r + 3 := by rw [hw3]; simp [z2]
  have b1 : Below g w w1 := by rw [hw1]; exact (Below.refl _ _).alloc (by omega) _
  have b2 : Below g w w2 := by rw [hw2]; exact b1.alloc (by omega) _
  have b3 : Below g w w3 := by rw [hw3]; exact b2.alloc (by omega) _
  have q1 : Row w1 r 209 [.slice none 0 0, .slice none 0 0] := by rw [hw1, hrz]; exact heap_alloc_new w _
  have q2 : Row w2 (r + 1) 209 [.slice none 0 0, .slice none 0 0] := by rw [hw2, ← z1]; exact heap_alloc_new w1 _
  have q3 : Row w3 (r + 2) 3 [.int .i64 0] := by rw [hw3, ← z2]; exact heap_alloc_new w2 _
  have HC := Lib.hid (show Cutting us [] 0 g r w w3 from by
    refine ⟨⟨.slice none 0 0, .slice none 0 0, ?_, Two.nil _ _⟩, q3, ?_, ?_, by omega, b3⟩
    · rw [hw3]; exact q2.alloc _
    · rw [hw3, hw2]; exact (q1.alloc _).alloc _
    · rw [hw3, hw2, hw1]; exact ((hr.alloc _).alloc _).alloc _)
  have HS := Lib.hid (show PCutRel us W0 g r w (.int .i64 0) w3 from ⟨0, Nat.zero_le _, rfl, by rw [prow_zero]; exact HC.out⟩)
  clear HC q1 q2 q3 b1 b2 b3 hr hn h64
  go_enter Tryz.func189, Tryz.ntmps189
  go_wp2
  rw [← hrz, ← hw1, ← hw2, ← hw3, show r + 1 + 1 = r + 2 from rfl]
  have HZ := Lib.hid hrz
  clear hw1 hw2 hw3 z1 z2 z3 hrz
  go_loopw [14] (PCutRel us W0 g r w) (fun i _ => n - (intOf i).toNat)
  case atStart => exact HS.out
  case round =>
    obtain ⟨k, hk, rfl, hC⟩ := hrel
    have HC := Lib.hid hC
    have hkn : k ≤ n := by have := HN.out; omega
    by_cases hlt : k < n
    · have hkl : k < us.length := by have := HN.out; omega
      have hlti : (k : Int) < (n : Int) := by omega
      obtain ⟨u, hu⟩ : ∃ u, u = us[k] := ⟨_, rfl⟩
      have hcu : wr.cell? ⟨g, k, none⟩ = some (.int .u64 (u : Int)) := by rw [hC.row.cell, List.getElem?_map, prow_at hkl, ← hu]; rfl
      have hgd : us.getD k 0 = u := by rw [List.getD_eq_getElem?_getD, List.getElem?_eq_getElem hkl, hu]; rfl
      have hu64 : u < 18446744073709551616 := by rw [hu]; exact H64.out _ (List.getElem_mem hkl)
      obtain ⟨q, hq⟩ : ∃ q, q = u / 2 ^ W0 := ⟨_, rfl⟩
      have hsh : (u : Int) / 2 ^ W0 = (q : Int) := by rw [hq]; simp
      have hlast := pst_last W0 us k
      have hpl := pst_len W0 us k
      have HNX := Lib.hid (prow_set (w := W0) hkl)
      rw [← hu] at HNX
      obtain ⟨last, hla⟩ : ∃ last, last = (pst W0 us k).2 := ⟨_, rfl⟩
      obtain ⟨ps, hps⟩ : ∃ ps, ps = (pst W0 us k).1 := ⟨_, rfl⟩
      rw [← hla] at hlast hpl HC
      rw [← hps] at HC hpl
      have hplb : ps.length ≤ 20000 := by omega
      have hca : wr.cell? ⟨r + 2, 0, none⟩ = some (.int .i64 (last : Int)) := HC.out.box.cell 0
      have HLA := Lib.hid hla
      have HPS := Lib.hid hps
      have HGD := Lib.hid hgd
      have HQ := Lib.hid hq
      have HU := Lib.hid hu
      clear hu hgd hq hla hps hpl hC HS
      by_cases hq0 : q = 0
      · have HSK : Hid (pst W0 us (k + 1) = pst W0 us k) := Lib.hid (pst_skip (by rw [HGD.out, ← HQ.out, hq0]))
        have HSR : Hid (prow us W0 (k + 1) = prow us W0 k) := Lib.hid (prow_same hkl (by rw [← HU.out, ← HQ.out, hq0]))
        have hsz : (u : Int) / 2 ^ W0 = 0 := by rw [hsh, hq0]; rfl
        clear hsh hq0
        go_wp2
        go_roundw
        case rel => exact ⟨k + 1, hkl, by go_num, by rw [HSK.out, HSR.out, ← HLA.out, ← HPS.out]; exact HC.out⟩
        case measure => simp [intOf]; omega
      · obtain ⟨j, hj⟩ : ∃ j, j = (k - last - 1) / 255 := ⟨_, rfl⟩
        have HMO : Hid (pst W0 us (k + 1) = (ps ++ (List.replicate j (255, 0) ++ [(k - last - 255 * j, q)]), k)) := Lib.hid (by rw [pst_more (by rw [HGD.out, ← HQ.out]; exact hq0), ← HLA.out, ← HPS.out, ← hj, HGD.out, ← HQ.out])
        have hq1 : ((q : Int) == 0) = false := by rw [beq_eq_false_iff_ne]; omega
        obtain ⟨row, hrow⟩ : ∃ row, row = prow us W0 k := ⟨_, rfl⟩
        have HRK := Lib.hid (show row[k]? = some u by rw [hrow, prow_at hkl, HU.out])
        rw [← hrow] at HC HNX
        have HST := Lib.hid (show CutIn row ps last j g r w undef wr from ⟨0, Nat.zero_le _, by simpa using HC.out⟩)
        have HJ := Lib.hid hj
        have hjb : j ≤ 10000 := by omega
        clear hj hq0 hrow
        go_wp2
        clear hcu hca
        go_loopw [24] (CutIn row ps last j g r w) (fun _ W => k - boxNat (r + 2) W)
        case atStart => exact HST.out
        case round =>
          obtain ⟨i, hi, hC⟩ := hrel
          have HC2 := Lib.hid hC
          obtain ⟨L, hL⟩ : ∃ L, L = last + 255 * i := ⟨_, rfl⟩
          rw [← hL] at HC2
          have hca : wr.cell? ⟨r + 2, 0, none⟩ = some (.int .i64 (L : Int)) := HC2.out.box.cell 0
          have HBX := Lib.hid (boxNat_row HC2.out.box)
          obtain ⟨d, hd⟩ : ∃ d, d = k - L := ⟨_, rfl⟩
          have hLk : L ≤ k := by have := HJ.out; omega
          have hdi : (k : Int) - (L : Int) = (d : Int) := by omega
          have hdw : IntKind.i64.wrap (d : Int) = (d : Int) := by rw [IntKind.wrap_i64]; omega
          have hlen : (ps ++ List.replicate i (255, 0)).length ≤ 1000000 := by rw [List.length_append, List.length_replicate]; omega
          have HL := Lib.hid hL
          have HD := Lib.hid hd
          clear hL hd hC HST
          by_cases hij : i < j
          · have hd5 : (255 : Int) < (d : Int) := by have := HJ.out; have := HL.out; have := HD.out; omega
            have HA := Lib.hid (HC2.out.add hgr 255 0 hlen (by omega) (by omega))
            clear hlen
            go_wp2_with (go_at_call 208; refine HA.out.mono ?_; rintro e w4 ⟨rfl, hC4⟩)
            have HC4 := Lib.hid hC4
            clear hC4
            go_roundw
            case rel => exact ⟨i + 1, hij, by rw [List.replicate_succ', ← List.append_assoc, show last + 255 * (i + 1) = L + 255 by have := HL.out; omega]; exact HC4.out⟩
            case measure => rw [boxNat_row HC4.out.box, HBX.out]; omega
          · obtain rfl : i = j := by omega
            have hd5 : ¬ (255 : Int) < (d : Int) := by have := HJ.out; have := HL.out; have := HD.out; omega
            have HA := Lib.hid (HC2.out.add hgr d q hlen (by omega) (by omega))
            have HLD : Hid (L + d = k ∧ d = k - last - 255 * i) := Lib.hid (by have := HL.out; have := HD.out; omega)
            clear hlen
            go_wp2_with (go_at_call 208; refine HA.out.mono ?_; rintro e w4 ⟨rfl, hC4⟩)
            have HC4 := Lib.hid hC4
            rw [List.append_assoc, HLD.out.1, HLD.out.2] at HC4
            clear hC4
            obtain ⟨T, hT⟩ : ∃ T, T = u % 2 ^ W0 := ⟨_, rfl⟩
            rw [← hT] at HNX
            obtain ⟨M, hM⟩ : ∃ M, M = 2 ^ W0 - 1 := ⟨_, rfl⟩
            have hMb : M < 18446744073709551616 := by
              have h1 : 2 ^ W0 ≤ 2 ^ 64 := Nat.pow_le_pow_right (by omega) hw
              have h2 := Nat.two_pow_pos W0
              omega
            have hand : bits .and .u64 (u : Int) (M : Int) = (T : Int) := by rw [u64_and_nat _ _ hu64 hMb, hM, Nat.and_two_pow_sub_one_eq_mod, hT]
            have HLW := Lib.hid (fun W => plow_any W0 M W hw hM)
            have hcu : w4.cell? ⟨g, k, none⟩ = some (.int .u64 (u : Int)) := by rw [HC4.out.row.cell, List.getElem?_map, HRK.out]; rfl
            have hfu := HC4.out.row.free k
            have HC5 := Lib.hid (HC4.out.set hgr k T)
            rw [HNX.out] at HC5
            have HREL := Lib.hid (show PCutRel us W0 g r w (.int .i64 ((k : Int) + 1)) (w4.setCell ⟨g, k, none⟩ (.int .u64 (T : Int))) from ⟨k + 1, hkl, by go_num, by rw [HMO.out]; exact HC5.out⟩)
            clear hT hM hMb
            go_wp2_with (go_at_call 197; refine (HLW.out _).mono ?_; rintro e w5 ⟨rfl, rfl⟩)
            go_roundw
            case rel => exact HREL.out
            case measure => simp [intOf]; omega
    · obtain rfl : k = n := by omega
      have hlti : ¬ (k : Int) < (k : Int) := by omega
      have HE : Hid ((pst W0 us k).1 = ppairs W0 us ∧ prow us W0 k = plow us W0) := Lib.hid ⟨by unfold ppairs; rw [HN.out], by rw [← HN.out]; exact prow_all _ _⟩
      rw [HE.out.1, HE.out.2] at HC
      obtain ⟨u, v, hrb, h2⟩ := HC.out.ex
      have hc0 : wr.cell? ⟨r + 1, 0, none⟩ = some u := hrb.cell 0
      have hc1 : wr.cell? ⟨r + 1, 1, none⟩ = some v := hrb.cell 1
      have H2 := Lib.hid h2
      obtain ⟨A1, c1, hu, _⟩ := own_shape h2.h1
      obtain ⟨A2, c2, hv, _⟩ := own_shape h2.h2
      generalize hm : (ppairs W0 us).length = m at hu hv H2
      subst hu hv
      clear hC hrb h2 hm
      have hr0 : wr.cell? ⟨r, 0, none⟩ = some (.slice none 0 0) := HC.out.res.cell 0
      have hf0 := HC.out.res.free 0
      have hs1 := HC.out.res.set_ 0 (.slice A1 m c1)
      have hr1 : (wr.setCell ⟨r, 0, none⟩ (.slice A1 m c1)).cell? ⟨r, 1, none⟩ = some (.slice none 0 0) := hs1.cell 1
      have hf1 := hs1.free 1
      have hs2 := hs1.set_ 1 (.slice A2 m c2)
      rw [show (([Value.slice none 0 0, .slice none 0 0].set 0 (.slice A1 m c1)).set 1 (.slice A2 m c2)) = [.slice A1 m c1, .slice A2 m c2] from rfl] at hs2
      obtain ⟨W, hW⟩ : ∃ W, W = (wr.setCell ⟨r, 0, none⟩ (.slice A1 m c1)).setCell ⟨r, 1, none⟩ (.slice A2 m c2) := ⟨_, rfl⟩
      rw [← hW] at hs2
      have HS2 := Lib.hid hs2
      have h3 : Two W (r + 3) (.slice A1 m c1) (.slice A2 m c2) m m (((ppairs W0 us).map (·.1)).map uv) (((ppairs W0 us).map (·.2)).map uv) := by rw [hW]; exact (H2.out.past (grown_set _ r 0 _) (by omega)).past (grown_set _ r 1 _) (by omega)
      have HU := Lib.hid (isV_own h3.h1)
      have HV := Lib.hid (isV_own h3.h2)
      have HG := Lib.hid (show Row W g 101 ((plow us W0).map uv) by rw [hW]; exact (HC.out.row.far (p := ⟨r, 0, none⟩) (by dsimp only; omega) _).far (p := ⟨r, 1, none⟩) (by dsimp only; omega) _)
      have HBW := Lib.hid (show Below g w W by rw [hW]; exact (HC.out.below.setCell (p := ⟨r, 0, none⟩) (Nat.le_of_lt hgr) _).setCell (p := ⟨r, 1, none⟩) (Nat.le_of_lt hgr) _)
      have HW := Lib.hid hW
      clear hs1 hs2 h3 hW
      go_wp2
      rw [← HW.out]
      refine ret_struct rfl rfl HS2.out Tryz.underlying209 rfl pairs_size rfl ?_
      exact ⟨_, _, rfl, HU.out, HV.out, HG.out, HBW.out⟩
end Go.Proofs.YtblpkmmhmdpkjaaGreatDoor

/- patched's own contracts: patcher with its closure, and patch. Written by gen_play.py. -/





namespace Go.Proofs.YtblpkmmhmdpkjaaGreatDoor

open Go.RowKit

theorem grown_new {w00 w : World} {g p : Nat} {i : Nat} {v : Value} (h : w00.grownBy w (some g)) (hp : w00.heap.size ≤ p) : w00.grownBy (w.setCell ⟨p, i, none⟩ v) (some g) := by
  have h2 := grown_set w p i v
  exact ⟨h2.os.trans h.os, h2.tape.trans h.tape, h2.output.trans h.output, Nat.le_trans h.size h2.size, fun k hk hg => (h2.block k (Nat.lt_of_lt_of_le hk h.size) (by intro e; injection e with e; omega)).trans (h.block k hk hg)⟩
/-- The boxes of the closure, and the numbers that it lays patches upon. -/
structure Laying (w00 : World) (g m base W : Nat) (lv : Value) (pb sb wb xb : Nat) (cs : List Value) (A : Nat) (low : List Nat) (w : World) : Prop where
  shp : Row w xb 181 cs
  pos : Row w pb 3 [.int .i64 (A : Int)]
  siz : Row w sb 75 [lv]
  wid : Row w wb 3 [.int .i64 (W : Int)]
  own : w.ownsRow base 101 1 lv m (low.map uv)
  grown : w00.grownBy w (some g)
def LayPost (w00 : World) (g m base W : Nat) (lv : Value) (pb sb wb xb : Nat) (cs : List Value) (A gap pat : Nat) (low : List Nat) (e : Ending) (w' : World) : Prop :=
  ((A + gap < m ∧ (wbits pat + W ≤ 63 ∨ pat = 0)) ∧ e = .returned (.bool true) ∧ Laying w00 g m base W lv pb sb wb xb cs (A + gap) (low.set (A + gap) (low.getD (A + gap) 0 ^^^ (pat * 2 ^ W))) w') ∨
  (¬ (A + gap < m ∧ (wbits pat + W ≤ 63 ∨ pat = 0)) ∧ e = .returned (.bool false) ∧ w00.grownBy w' (some g))
/-- A patch is not too great. -/
theorem patch_fits {pat W Q : Nat} (hp : pat < 2 ^ 64) (hW : W ≤ 64) (hQ : Q = 9223372036854775807 / 2 ^ W) : pat ≤ Q ↔ (wbits pat + W ≤ 63 ∨ pat = 0) := by
  have hpos := Nat.two_pow_pos W
  rw [hQ, Nat.le_div_iff_mul_le hpos]
  constructor
  · intro h
    by_cases h0 : pat = 0
    · exact .inr h0
    · left
      have hW63 : W ≤ 63 := by
        refine Nat.not_lt.1 fun h2 => ?_
        obtain rfl : W = 64 := by omega
        omega
      have h3 : pat < 2 ^ (63 - W) := by
        refine Nat.lt_of_mul_lt_mul_right (a := 2 ^ W) ?_
        rw [← Nat.pow_add, show 63 - W + W = 63 by omega]
        omega
      have := wbits_le (by omega) h3
      omega
  · intro h
    have := patch_lt hp h
    omega
set_option maxHeartbeats 4000000 in
set_option maxRecDepth 100000 in
theorem lay_any (w00 : World) (g m base W c pb sb wb xb : Nat) (cs : List Value) (A gap pat : Nat) (low : List Nat) (w : World) (h : Laying w00 g m base W (.slice (some ⟨g, 0, none⟩) m c) pb sb wb xb cs A low w) (hg : g < w00.heap.size) (hpb : w00.heap.size ≤ pb) (hsb : w00.heap.size ≤ sb) (hwb : w00.heap.size ≤ wb) (hxb : w00.heap.size ≤ xb) (hps : pb ≠ sb) (hpw : pb ≠ wb) (hpx : pb ≠ xb)
    (hll : low.length = m) (hl64 : ∀ z ∈ low, z < 2 ^ 64) (hA : A ≤ 1000000) (hgap : gap ≤ 1000000) (hpat : pat < 2 ^ 64) (hW64 : W ≤ 64) :
    Calls Tryz.prog 210 #[.int .i64 (gap : Int), .int .u64 (pat : Int), .pointer (some ⟨pb, 0, none⟩), .pointer (some ⟨sb, 0, none⟩), .pointer (some ⟨wb, 0, none⟩)] w (LayPost w00 g m base W (.slice (some ⟨g, 0, none⟩) m c) pb sb wb xb cs A gap pat low) := by
  obtain ⟨hrx, hrp, hrs, hrw, how, hgr⟩ := h
  unfold LayPost
  obtain ⟨C, hC⟩ : ∃ C, C = A + gap := ⟨_, rfl⟩
  rw [← hC]
  have hCi : (A : Int) + (gap : Int) = (C : Int) := by omega
  have hCw : IntKind.i64.wrap (C : Int) = (C : Int) := by rw [IntKind.wrap_i64]; omega
  have hcp : w.cell? ⟨pb, 0, none⟩ = some (.int .i64 (A : Int)) := hrp.cell 0
  have hfp := hrp.free 0
  obtain ⟨w1, hw1⟩ : ∃ w1, w1 = w.setCell ⟨pb, 0, none⟩ (.int .i64 (C : Int)) := ⟨_, rfl⟩
  have hrp1 : Row w1 pb 3 [.int .i64 (C : Int)] := by rw [hw1]; exact hrp.set_ 0 (.int .i64 (C : Int))
  have hrs1 : Row w1 sb 75 [.slice (some ⟨g, 0, none⟩) m c] := by rw [hw1]; exact hrs.far (p := ⟨pb, 0, none⟩) (Ne.symm hps) _
  have hrw1 : Row w1 wb 3 [.int .i64 (W : Int)] := by rw [hw1]; exact hrw.far (p := ⟨pb, 0, none⟩) (Ne.symm hpw) _
  have hrx1 : Row w1 xb 181 cs := by rw [hw1]; exact hrx.far (p := ⟨pb, 0, none⟩) (Ne.symm hpx) _
  have how1 : w1.ownsRow base 101 1 (.slice (some ⟨g, 0, none⟩) m c) m (low.map uv) := by rw [hw1]; exact how.kept (grown_set _ pb 0 _) (.inr (by intro e; injection e with e; dsimp only at e; omega))
  have hgr1 : w00.grownBy w1 (some g) := by rw [hw1]; exact grown_new hgr hpb
  have hcp1 : w1.cell? ⟨pb, 0, none⟩ = some (.int .i64 (C : Int)) := hrp1.cell 0
  have hcs1 : w1.cell? ⟨sb, 0, none⟩ = some (.slice (some ⟨g, 0, none⟩) m c) := hrs1.cell 0
  have hcw1 : w1.cell? ⟨wb, 0, none⟩ = some (.int .i64 (W : Int)) := hrw1.cell 0
  have HRX := Lib.hid hrx1
  have HRP := Lib.hid hrp1
  have HRS := Lib.hid hrs1
  have HRW := Lib.hid hrw1
  have HOW := Lib.hid how1
  have HGR := Lib.hid hgr1
  have HLP := Lib.hid hrp1.lt
  have HLS := Lib.hid hrs1.lt
  have HLW := Lib.hid hrw1.lt
  have HCP := Lib.hid hcp1
  have HCS := Lib.hid hcs1
  have HCW := Lib.hid hcw1
  rw [hw1] at hcp1 hcs1 hcw1
  have HW1 := Lib.hid hw1
  obtain ⟨Q, hQ⟩ : ∃ Q, Q = 9223372036854775807 / 2 ^ W := ⟨_, rfl⟩
  have HFIT := Lib.hid (patch_fits hpat hW64 hQ)
  have HPAT := Lib.hid hpat
  have hQi : (9223372036854775807 : Int) / 2 ^ W = (Q : Int) := by rw [hQ]; simp
  have HLN := Lib.hid (show (low.set C (low.getD C 0 ^^^ (pat * 2 ^ W))).map uv = (low.map uv).set C (uv (low.getD C 0 ^^^ (pat * 2 ^ W))) from List.map_set)
  have hpg : pb ≠ g := by omega
  have hsg : sb ≠ g := by omega
  have hwg : wb ≠ g := by omega
  have hxg : xb ≠ g := by omega
  clear hrx hrx1 hrp hrs hrw how hgr hrp1 hrs1 hrw1 how1 hgr1 hw1 hQ hpat
  by_cases hm : m ≤ C
  · have d1 : decide ((m : Int) ≤ (C : Int)) = true := decide_eq_true (by omega)
    clear hC
    go_enter Tryz.func210, Tryz.ntmps210
    go_wp2
    go_ret
    exact .inr ⟨by omega, rfl, by rw [← HW1.out]; exact HGR.out⟩
  have d1 : decide ((m : Int) ≤ (C : Int)) = false := decide_eq_false (by omega)
  by_cases hq : Q < pat
  · have d2 : decide ((Q : Int) < (pat : Int)) = true := decide_eq_true (by omega)
    have HNO := Lib.hid (show ¬ (wbits pat + W ≤ 63 ∨ pat = 0) from fun h => absurd (HFIT.out.2 h) (by omega))
    clear hC
    go_enter Tryz.func210, Tryz.ntmps210
    go_wp2
    go_ret
    exact .inr ⟨fun h => HNO.out h.2, rfl, by rw [← HW1.out]; exact HGR.out⟩
  · have d2 : decide ((Q : Int) < (pat : Int)) = false := decide_eq_false (by omega)
    have HOK := Lib.hid (show C < m ∧ (wbits pat + W ≤ 63 ∨ pat = 0) from ⟨by omega, HFIT.out.1 (by omega)⟩)
    have hCm : C < m := by omega
    obtain ⟨y, hy⟩ : ∃ y, y = low.getD C 0 := ⟨_, rfl⟩
    have hyl : low[C]? = some y := by rw [hy, List.getD_eq_getElem?_getD, List.getElem?_eq_getElem (by omega)]; rfl
    have hy64 : y < 18446744073709551616 := hl64 y (List.mem_of_getElem? hyl)
    obtain ⟨Z, hZ⟩ : ∃ Z, Z = pat * 2 ^ W := ⟨_, rfl⟩
    have hZ63 : Z < 9223372036854775808 := by rw [hZ]; exact patch_lt HPAT.out HOK.out.2
    obtain ⟨z, hz⟩ : ∃ z, z = y ^^^ Z := ⟨_, rfl⟩
    rw [← hy, ← hZ, ← hz] at HLN
    rw [← hy, ← hZ, ← hz]
    have HZW : Hid (IntKind.u64.wrap ((pat : Int) * 2 ^ W) = (Z : Int)) := Lib.hid (by rw [show (pat : Int) * 2 ^ W = (Z : Int) by rw [hZ]; simp, IntKind.wrap_u64]; omega)
    have HXO : Hid (bits .xor .u64 (y : Int) (Z : Int) = (z : Int)) := Lib.hid (by rw [u64_xor_nat y Z (by omega) (by omega), hz])
    have HADD : Hid ((⟨g, 0, none⟩ : Addr).add C = ⟨g, C, none⟩) := Lib.hid (by unfold Addr.add; split <;> simp_all)
    have HCY : Hid (w1.cell? ⟨g, C, none⟩ = some (.int .u64 (y : Int))) := Lib.hid (by rw [HOW.out.cellAt C (by omega), List.getElem?_map, hyl]; rfl)
    have HLG : Hid (g < w1.heap.size) := Lib.hid (by have := HGR.out.size; omega)
    clear hC hy hyl hy64 hZ hZ63 hz hl64
    go_enter Tryz.func210, Tryz.ntmps210
    go_wp2
    rw [← HW1.out]
    refine wp_region_list_tail 9 [.is (.slice (some ⟨g, 0, none⟩) m c), .is (.int .i64 (C : Int)), .is (.pointer (some ⟨g, C, none⟩)), .is (.int .u64 (y : Int)), .is (.int .u64 (pat : Int)), .is (.int .i64 (W : Int)), .is (.int .u64 (Z : Int)), .is (.int .u64 (z : Int)), .is (.pointer (some ⟨g, C, none⟩))] [some 21, some 22, some 23, some 24, some 25, some 26, some 27, some 28, some 29] (by kernel_rfl) (by kernel_rfl) (by kernel_rfl) (by kernel_rfl) rfl ⟨?_, ?_, ?_, ?_, ?_, ?_, ?_, ?_, ?_, trivial⟩ ?_
    · intro ρ W1 hb1 H
      exact gives_load rfl (H.old 3 _ (by kernel_rfl) rfl) Tryz.underlying75 rfl ((hb1.cell HLS.out).trans HCS.out) ⟨rfl, Below.refl _ _⟩
    · intro ρ W1 hb1 H
      exact gives_load rfl (H.old 2 _ (by kernel_rfl) rfl) Tryz.underlying3 rfl ((hb1.cell HLP.out).trans HCP.out) ⟨rfl, Below.refl _ _⟩
    · intro ρ W1 hb1 H
      exact gives_index (k := C) elemU rfl (H.new 21 0 (by kernel_rfl)) (H.new 22 1 (by kernel_rfl)) (hCm) ⟨congrArg (fun q => Value.pointer (some q)) (HADD.out), Below.refl _ _⟩
    · intro ρ W1 hb1 H
      exact gives_load rfl (H.new 23 2 (by kernel_rfl)) Tryz.underlying101 rfl ((hb1.cell HLG.out).trans HCY.out) ⟨rfl, Below.refl _ _⟩
    · intro ρ W1 hb1 H
      exact gives_move rfl (H.old 1 _ (by kernel_rfl) rfl) ⟨rfl, Below.refl _ _⟩
    · intro ρ W1 hb1 H
      exact gives_load rfl (H.old 4 _ (by kernel_rfl) rfl) Tryz.underlying3 rfl ((hb1.cell HLW.out).trans HCW.out) ⟨rfl, Below.refl _ _⟩
    · intro ρ W1 hb1 H
      exact gives_shl64 (k := W) rfl (H.new 25 4 (by kernel_rfl)) (H.new 26 5 (by kernel_rfl)) hW64 HZW.out ⟨rfl, Below.refl _ _⟩
    · intro ρ W1 hb1 H
      exact gives_xor64 rfl (H.new 24 3 (by kernel_rfl)) (H.new 27 6 (by kernel_rfl)) HXO.out ⟨rfl, Below.refl _ _⟩
    · intro ρ W1 hb1 H
      exact gives_index (k := C) elemU rfl (H.new 21 0 (by kernel_rfl)) (H.new 22 1 (by kernel_rfl)) (hCm) ⟨congrArg (fun q => Value.pointer (some q)) (HADD.out), Below.refl _ _⟩
    · intro vs W1 hb1 hfs
      have f0 : vs 0 = .slice (some ⟨g, 0, none⟩) m c := hfs 0 (by decide)
      have f1 : vs 1 = .int .i64 (C : Int) := hfs 1 (by decide)
      have f2 : vs 2 = .pointer (some ⟨g, C, none⟩) := hfs 2 (by decide)
      have f3 : vs 3 = .int .u64 (y : Int) := hfs 3 (by decide)
      have f4 : vs 4 = .int .u64 (pat : Int) := hfs 4 (by decide)
      have f5 : vs 5 = .int .i64 (W : Int) := hfs 5 (by decide)
      have f6 : vs 6 = .int .u64 (Z : Int) := hfs 6 (by decide)
      have f7 : vs 7 = .int .u64 (z : Int) := hfs 7 (by decide)
      have f8 : vs 8 = .pointer (some ⟨g, C, none⟩) := hfs 8 (by decide)
      clear hfs
      simp only [putAll, Nat.zero_add, Nat.reduceAdd, List.drop_succ_cons, List.drop_zero]
      simp only [f0, f1, f2, f3, f4, f5, f6, f7, f8, Act.put, List.setIfInBounds_toArray, List.set_cons_succ, List.set_cons_zero]
      clear f0 f1 f2 f3 f4 f5 f6 f7 f8
      have hown2 := own_below HOW.out hb1
      have hcW : W1.cell? ⟨g, C, none⟩ = some (.int .u64 (y : Int)) := (hb1.cell HLG.out).trans HCY.out
      have hfW := hown2.frozenAt C
      have HS1 := Lib.hid (hown2.stored C (uv z)).1
      have HG1 := Lib.hid (grown_trans (grown_trans HGR.out (grown_below hb1)) (hown2.stored C (uv z)).2)
      have HP1 := Lib.hid ((HRP.out.below hb1 HLP.out).far (p := ⟨g, C, none⟩) hpg (uv z))
      have HQ1 := Lib.hid ((HRS.out.below hb1 HLS.out).far (p := ⟨g, C, none⟩) hsg (uv z))
      have HW1 := Lib.hid ((HRW.out.below hb1 HLW.out).far (p := ⟨g, C, none⟩) hwg (uv z))
      have HX1 := Lib.hid ((HRX.out.below hb1 HRX.out.lt).far (p := ⟨g, C, none⟩) hxg (uv z))
      clear hown2 hb1
      go_wp2
      go_ret
      refine .inl ⟨HOK.out, rfl, HX1.out, HP1.out, HQ1.out, HW1.out, ?_, HG1.out⟩
      rw [HLN.out]
      exact HS1.out

theorem gives_gt {P : Program} {o : Oper} {ρ : Operand → Value} {w : World} {R : Value → World → Prop} {t t' : TypeId} {k : IntKind} {x y : Operand} {a b : Int} (ho : o.op = .binOp .gtr t x y t') (hx : ρ x = .int k a) (hy : ρ y = .int k b) (hR : R (.bool (decide (b < a))) w) : Gives P o ρ w R := by
  refine gives_of (v := .bool (decide (b < a))) (w' := w) ?_ hR
  simp [execOp, ho, hx, hy, go_sem, eqGuard]
theorem shape_at0 (W : World) (g : Nat) : (Instr.fieldAt 181 (.pointer (some ⟨g, 0, none⟩)) 0).run Tryz.prog W = .ok (.pointer (some ⟨g, 0, none⟩)) W := by
  simp [Instr.fieldAt, run_underlying Tryz.underlying181, Instr.sureAddr, fieldPlace, Addr.add]
theorem shape_at1 (W : World) (g : Nat) : (Instr.fieldAt 181 (.pointer (some ⟨g, 0, none⟩)) 1).run Tryz.prog W = .ok (.pointer (some ⟨g, 1, none⟩)) W := by
  simp [Instr.fieldAt, run_underlying Tryz.underlying181, Instr.sureAddr, fieldPlace, Addr.add]
theorem shape_at2 (W : World) (g : Nat) : (Instr.fieldAt 181 (.pointer (some ⟨g, 0, none⟩)) 2).run Tryz.prog W = .ok (.pointer (some ⟨g, 2, none⟩)) W := by
  simp [Instr.fieldAt, run_underlying Tryz.underlying181, Instr.sureAddr, fieldPlace, Addr.add]
theorem shape_at3 (W : World) (g : Nat) : (Instr.fieldAt 181 (.pointer (some ⟨g, 0, none⟩)) 3).run Tryz.prog W = .ok (.pointer (some ⟨g, 3, none⟩)) W := by
  simp [Instr.fieldAt, run_underlying Tryz.underlying181, Instr.sureAddr, fieldPlace, Addr.add]
theorem shape_at4 (W : World) (g : Nat) : (Instr.fieldAt 181 (.pointer (some ⟨g, 0, none⟩)) 4).run Tryz.prog W = .ok (.pointer (some ⟨g, 4, none⟩)) W := by
  simp [Instr.fieldAt, run_underlying Tryz.underlying181, Instr.sureAddr, fieldPlace, Addr.add]
theorem shape_at5 (W : World) (g : Nat) : (Instr.fieldAt 181 (.pointer (some ⟨g, 0, none⟩)) 5).run Tryz.prog W = .ok (.pointer (some ⟨g, 5, none⟩)) W := by
  simp [Instr.fieldAt, run_underlying Tryz.underlying181, Instr.sureAddr, fieldPlace, Addr.add]
theorem Laying.below {w00 w w' : World} {g m base W : Nat} {lv : Value} {pb sb wb xb : Nat} {cs : List Value} {A : Nat} {low : List Nat} (h : Laying w00 g m base W lv pb sb wb xb cs A low w) (hb : Below w.heap.size w w') : Laying w00 g m base W lv pb sb wb xb cs A low w' :=
  ⟨h.shp.below hb h.shp.lt, h.pos.below hb h.pos.lt, h.siz.below hb h.siz.lt, h.wid.below hb h.wid.lt, own_below h.own hb, grown_trans h.grown (grown_below hb)⟩
theorem lay_lt {low : List Nat} {a pat W : Nat} (hl : ∀ z ∈ low, z < 2 ^ 64) (hp : pat < 2 ^ 64) (h : wbits pat + W ≤ 63 ∨ pat = 0) : ∀ z ∈ low.set a (low.getD a 0 ^^^ (pat * 2 ^ W)), z < 2 ^ 64 := by
  intro z hz
  rcases List.mem_or_eq_of_mem_set hz with h1 | h1
  · exact hl z h1
  · rw [h1]
    refine Nat.xor_lt_two_pow ?_ (Nat.lt_of_lt_of_le (patch_lt hp h) (by decide))
    rw [List.getD_eq_getElem?_getD]
    cases h2 : low[a]? with
    | none => exact Nat.two_pow_pos 64
    | some y => exact hl y (List.mem_of_getElem? h2)
theorem patcher_any (g m c W : Nat) (w : World) : Calls Tryz.prog 196 #[.slice (some ⟨g, 0, none⟩) m c, .int .i64 (W : Int)] w fun e w' =>
    e = .returned (.func (.func 210) #[] #[.pointer (some ⟨w.heap.size + 2, 0, none⟩), .pointer (some ⟨w.heap.size, 0, none⟩), .pointer (some ⟨w.heap.size + 1, 0, none⟩)]) ∧
      w' = ((w.alloc (.cells #[.slice (some ⟨g, 0, none⟩) m c] 75)).alloc (.cells #[.int .i64 (W : Int)] 3)).alloc (.cells #[.int .i64 0] 3) := by
  go_enter Tryz.func196, Tryz.ntmps196
  go_wp2
  go_ret
  exact ⟨rfl, rfl⟩
def PatchRel (both low0 : List Nat) (w00 : World) (g m base W gw p : Nat) (lv : Value) (pb sb wb xb : Nat) (cs : List Value) (i : Value) (wr : World) : Prop :=
  ∃ (k a : Nat) (low : List Nat), k ≤ both.length ∧ i = .int .i64 (k : Int) ∧ pall W gw p m (0, low0) (both.take k) = some (a, low) ∧ low.length = m ∧ a < m ∧ (∀ z ∈ low, z < 2 ^ 64) ∧ Laying w00 g m base W lv pb sb wb xb cs a low wr
def PatchPost (o : Option (Nat × List Nat)) (g m base : Nat) (lv : Value) (w : World) (e : Ending) (w' : World) : Prop :=
  match o with
  | none => e = .returned (.bool false) ∧ w.grownBy w' (some g)
  | some st => e = .returned (.bool true) ∧ w'.ownsRow base 101 1 lv m (st.2.map uv) ∧ st.2.length = m ∧ (∀ z ∈ st.2, z < 2 ^ 64) ∧ w.grownBy w' (some g)
set_option maxHeartbeats 8000000 in
set_option maxRecDepth 100000 in
theorem patch_any (g m base B2 W c p gw : Nat) (m' n' t' : Int) (low both : List Nat) (bl : Value) (w : World) (how : w.ownsRow base 101 1 (.slice (some ⟨g, 0, none⟩) m c) m (low.map uv)) (hg : g < w.heap.size) (hbo : w.ownsRow B2 101 1 bl both.length (both.map uv)) (hgB : g < B2)
    (hll : low.length = m) (hl64 : ∀ z ∈ low, z < 2 ^ 64) (hb64 : ∀ z ∈ both, z < 2 ^ 64) (hm1 : 1 ≤ m) (hm5 : m ≤ 512) (hbl : both.length ≤ 1000) (hW64 : W ≤ 64) (hp64 : p ≤ 64) (hgw : gw ≤ 8) :
    Calls Tryz.prog 163 #[.slice (some ⟨g, 0, none⟩) m c, bl, shv m' (W : Int) n' (p : Int) (gw : Int) t'] w (PatchPost (pall W gw p m (0, low) both) g m base (.slice (some ⟨g, 0, none⟩) m c) w) := by
  obtain ⟨xb, hxz⟩ : ∃ xb, xb = w.heap.size := ⟨_, rfl⟩
  obtain ⟨cs, hcs⟩ : ∃ cs, cs = shc m' (W : Int) n' (p : Int) (gw : Int) t' := ⟨_, rfl⟩
  obtain ⟨w1, hw1⟩ : ∃ w1, w1 = w.alloc (.cells cs.toArray 181) := ⟨_, rfl⟩
  have z1 : w1.heap.size = xb + 1 := by rw [hw1, hxz]; simp
  obtain ⟨w2, hw2⟩ : ∃ w2, w2 = w1.alloc (.cells #[.slice (some ⟨g, 0, none⟩) m c] 75) := ⟨_, rfl⟩
  have z2 : w2.heap.size = xb + 2 := by rw [hw2]; simp [z1]
  obtain ⟨w3, hw3⟩ : ∃ w3, w3 = w2.alloc (.cells #[.int .i64 (W : Int)] 3) := ⟨_, rfl⟩
  have z3 : w3.heap.size = xb + 3 := by rw [hw3]; simp [z2]
  obtain ⟨w4, hw4⟩ : ∃ w4, w4 = w3.alloc (.cells #[.int .i64 0] 3) := ⟨_, rfl⟩
  have b1 : Below w.heap.size w w1 := by rw [hw1]; exact (Below.refl _ _).alloc (Nat.le_refl _) _
  have b2 : Below w.heap.size w w2 := by rw [hw2]; exact b1.alloc (by omega) _
  have b3 : Below w.heap.size w w3 := by rw [hw3]; exact b2.alloc (by omega) _
  have b4 : Below w.heap.size w w4 := by rw [hw4]; exact b3.alloc (by omega) _
  have q1 : Row w1 xb 181 cs := by rw [hw1, hxz]; exact heap_alloc_new w _
  have q2 : Row w2 (xb + 1) 75 [.slice (some ⟨g, 0, none⟩) m c] := by rw [hw2, ← z1]; exact heap_alloc_new w1 _
  have q3 : Row w3 (xb + 2) 3 [.int .i64 (W : Int)] := by rw [hw3, ← z2]; exact heap_alloc_new w2 _
  have q4 : Row w4 (xb + 3) 3 [.int .i64 0] := by rw [hw4, ← z3]; exact heap_alloc_new w3 _
  have hL : Laying w g m base W (.slice (some ⟨g, 0, none⟩) m c) (xb + 3) (xb + 1) (xb + 2) xb cs 0 low w4 := by
    refine ⟨?_, q4, ?_, ?_, own_below how b4, grown_below b4⟩
    · rw [hw4, hw3, hw2]; exact ((q1.alloc _).alloc _).alloc _
    · rw [hw4, hw3]; exact (q2.alloc _).alloc _
    · rw [hw4]; exact q3.alloc _
  have HS := Lib.hid (show PatchRel both low w g m base W gw p (.slice (some ⟨g, 0, none⟩) m c) (xb + 3) (xb + 1) (xb + 2) xb cs (.int .i64 0) w4 from ⟨0, 0, low, Nat.zero_le _, rfl, by rw [List.take_zero, pall], hll, by omega, hl64, hL⟩)
  obtain ⟨A3, c3, hbl3, hnc3, hcm3, _, _, _⟩ := own_shape hbo
  obtain ⟨t, ht⟩ : ∃ t, t = both.length := ⟨_, rfl⟩
  rw [← ht] at hbl3 hnc3 hbl hbo
  subst hbl3
  have HT := Lib.hid ht
  have HBO := Lib.hid hbo
  have HB64 := Lib.hid hb64
  have HCS := Lib.hid hcs
  have hpb : w.heap.size ≤ xb + 3 := by omega
  have hsb : w.heap.size ≤ xb + 1 := by omega
  have hwb : w.heap.size ≤ xb + 2 := by omega
  have hxb : w.heap.size ≤ xb := by omega
  have hps : xb + 3 ≠ xb + 1 := by omega
  have hpw : xb + 3 ≠ xb + 2 := by omega
  have hpx : xb + 3 ≠ xb := by omega
  have hc1 : w1.cell? ⟨xb, 1, none⟩ = some (.int .i64 (W : Int)) := by rw [q1.cell, hcs]; rfl
  unfold shv
  rw [← hcs]
  rw [hcs] at hw1
  unfold shc at hw1 hcs
  rw [hcs]
  have HW := Lib.hid hw1
  have HW2 := Lib.hid (hw2.trans rfl)
  clear q1 q2 q3 q4 b1 b2 b3 b4 hL how hbo hb64 hl64 hll ht hcs hcm3
  go_enter Tryz.func163, Tryz.ntmps163
  go_wp2_with (go_at_call 196; refine (patcher_any g m c W _).mono ?_; rintro e w' ⟨rfl, rfl⟩)
  rw [← hw1, ← hw2, ← hw3, ← hw4, ← hxz, show xb + 1 + 1 = xb + 2 from rfl, show xb + 1 + 2 = xb + 3 from rfl]
  have HXZ := Lib.hid hxz
  clear hw1 hw2 hw3 hw4 z1 z2 z3 hxz hc1 HW HW2
  go_loopw [17] (PatchRel both low w g m base W gw p (.slice (some ⟨g, 0, none⟩) m c) (xb + 3) (xb + 1) (xb + 2) xb cs) (fun i _ => t - (intOf i).toNat)
  case atStart => exact HS.out
  case round =>
    obtain ⟨k, a, low', hk, rfl, hpl, hll, ham, hlo, hL⟩ := hrel
    rw [← HT.out] at hk
    have HL := Lib.hid hL
    have HLL := Lib.hid hll
    have HLO64 := Lib.hid hlo
    generalize xb + 3 = pb at *
    generalize xb + 1 = sb at *
    generalize xb + 2 = wb at *
    have HRX := Lib.hid hL.shp
    by_cases hlt : k < t
    · have hlti : (k : Int) < (t : Int) := by omega
      have hkv : k < both.length := by have := HT.out; omega
      have hbk := isV_own (f := uv) (HBO.out.kept hL.grown (own_not HBO.out hgB))
      obtain ⟨ad3, rfl, _, hcell⟩ := hbk.at hkv
      obtain ⟨x, hx⟩ : ∃ x, x = both[k] := ⟨_, rfl⟩
      have hcx : wr.cell? (ad3.add k) = some (.int .u64 (x : Int)) := by rw [hcell, hx]; rfl
      have hx64 : x < 18446744073709551616 := by rw [hx]; exact HB64.out _ (List.getElem_mem hkv)
      have HNX0 := Lib.hid (pall_next hkv hx hpl)
      obtain ⟨gap, hgap⟩ : ∃ gap, gap = x / 2 ^ p := ⟨_, rfl⟩
      obtain ⟨pat, hpat⟩ : ∃ pat, pat = x % 2 ^ p := ⟨_, rfl⟩
      have HPS := Lib.hid (pstep_eq (w := W) (g := gw) (m := m) (at_ := a) (low := low') hgap hpat)
      have hshr : (x : Int) / 2 ^ p = (gap : Int) := by rw [hgap]; simp
      have hgx : gap < 18446744073709551616 := by rw [hgap]; exact Nat.lt_of_le_of_lt (Nat.div_le_self _ _) hx64
      obtain ⟨nb, hnb⟩ : ∃ nb, nb = wbits gap := ⟨_, rfl⟩
      have HBT := Lib.hid (fun X => bits_any gap X hgx)
      rw [← hnb] at HBT
      have HNG := Lib.hid (show nb ≤ gw ↔ gap < 2 ^ gw by rw [hnb]; exact wbits_iff hgx (by omega))
      have hcp3 : wr.cell? ⟨xb, 3, none⟩ = some (.int .i64 (p : Int)) := by rw [HRX.out.cell, HCS.out]; rfl
      have hcp4 : wr.cell? ⟨xb, 4, none⟩ = some (.int .i64 (gw : Int)) := by rw [HRX.out.cell, HCS.out]; rfl
      have HC3 := Lib.hid hcp3
      have HC4 := Lib.hid hcp4
      have HLX := Lib.hid HRX.out.lt
      obtain ⟨K1, hK1⟩ : ∃ K1, K1 = 2 ^ p - 1 := ⟨_, rfl⟩
      have hK1b : K1 < 18446744073709551616 := by
        have h1 : 2 ^ p ≤ 2 ^ 64 := Nat.pow_le_pow_right (by omega) hp64
        have h2 := Nat.two_pow_pos p
        omega
      have HAND : Hid (bits .and .u64 (x : Int) (K1 : Int) = (pat : Int)) := Lib.hid (by rw [u64_and_nat _ _ hx64 hK1b, hK1, Nat.and_two_pow_sub_one_eq_mod, hpat])
      have HLO := Lib.hid (fun X => plow_any p K1 X hp64 hK1)
      have HPT : Hid (pat < 2 ^ 64) := Lib.hid (by rw [hpat]; exact Nat.lt_of_le_of_lt (Nat.mod_le _ _) hx64)
      clear hcell hx hx64 hgap hpat hpl hll hlo hbk hnb hgx hK1 hK1b hcp4 hL
      by_cases hwd : nb ≤ gw
      · have HGG := Lib.hid (HNG.out.1 hwd)
        have hgap256 : gap < 256 := by
          have h1 := HGG.out
          have h2 : 2 ^ gw ≤ 2 ^ 8 := Nat.pow_le_pow_right (by omega) hgw
          omega
        have HGW : Hid (IntKind.i64.wrap (gap : Int) = (gap : Int)) := Lib.hid (by rw [IntKind.wrap_i64]; omega)
        have HD1 : Hid (decide ((gw : Int) < (nb : Int)) = false) := Lib.hid (decide_eq_false (by omega))
        go_wp2
        refine wp_region_list_tail 14 [.is (.int .u64 (gap : Int)), .is (.int .i64 (nb : Int)), .is (.pointer (some ⟨xb, 4, none⟩)), .is (.int .i64 (gw : Int)), .is (.bool false), .is (.bool false), .is (.func (.func 210) #[] #[.pointer (some ⟨pb, 0, none⟩), .pointer (some ⟨sb, 0, none⟩), .pointer (some ⟨wb, 0, none⟩)]), .is (.int .u64 (gap : Int)), .is (.int .i64 (gap : Int)), .is (.int .u64 (x : Int)), .is (.pointer (some ⟨xb, 3, none⟩)), .is (.int .i64 (p : Int)), .is (.int .u64 (K1 : Int)), .is (.int .u64 (pat : Int))] [some 25, some 26, some 27, some 28, some 29, some 30, some 31, some 32, some 33, some 34, some 35, some 36, some 37, some 38] (by kernel_rfl) (by kernel_rfl) (by kernel_rfl) (by kernel_rfl) rfl ⟨?_, ?_, ?_, ?_, ?_, ?_, ?_, ?_, ?_, ?_, ?_, ?_, ?_, ?_, trivial⟩ ?_
        · intro ρ W1 hb1 H
          exact gives_move rfl (H.old 10 _ (by kernel_rfl) rfl) ⟨rfl, Below.refl _ _⟩
        · intro ρ W1 hb1 H
          have e0 : ρ (.tmp 25) = .int .u64 (gap : Int) := H.new 25 0 (by kernel_rfl)
          refine gives_call rfl (fun _ _ => by kernel_rfl) (H.func _) (args := #[.int .u64 (gap : Int)]) (by simp [e0]) ?_
          exact (HBT.out W1).mono fun e w' ⟨h1, h2⟩ => ⟨_, h1, rfl, h2 ▸ Below.refl _ _⟩
        · intro ρ W1 hb1 H
          exact gives_field rfl (H.old 5 _ (by kernel_rfl) rfl) (fun W => shape_at4 W _) ⟨rfl, Below.refl _ _⟩
        · intro ρ W1 hb1 H
          exact gives_load rfl (H.new 27 2 (by kernel_rfl)) Tryz.underlying3 rfl ((hb1.cell HLX.out).trans HC4.out) ⟨rfl, Below.refl _ _⟩
        · intro ρ W1 hb1 H
          exact gives_gt rfl (H.new 26 1 (by kernel_rfl)) (H.new 28 3 (by kernel_rfl)) ⟨congrArg Value.bool HD1.out, Below.refl _ _⟩
        · intro ρ W1 hb1 H
          exact gives_move rfl (H.new 29 4 (by kernel_rfl)) ⟨rfl, Below.refl _ _⟩
        · intro ρ W1 hb1 H d hd
          have hd' : (some 30 : Option Tmp) = some d := hd
          injection hd' with hd'
          subst hd'
          refine ⟨fun _ => ?_, fun hne => absurd (H.new 30 5 (by kernel_rfl)) hne⟩
          exact gives_move rfl (H.old 7 _ (by kernel_rfl) rfl) ⟨rfl, Below.refl _ _⟩
        · intro ρ W1 hb1 H d hd
          have hd' : (some 30 : Option Tmp) = some d := hd
          injection hd' with hd'
          subst hd'
          refine ⟨fun _ => ?_, fun hne => absurd (H.new 30 5 (by kernel_rfl)) hne⟩
          exact gives_move rfl (H.old 10 _ (by kernel_rfl) rfl) ⟨rfl, Below.refl _ _⟩
        · intro ρ W1 hb1 H d hd
          have hd' : (some 30 : Option Tmp) = some d := hd
          injection hd' with hd'
          subst hd'
          refine ⟨fun _ => ?_, fun hne => absurd (H.new 30 5 (by kernel_rfl)) hne⟩
          exact gives_conv rfl (H.new 32 7 (by kernel_rfl)) (by kernel_rfl) Tryz.underlying3 HGW.out ⟨rfl, Below.refl _ _⟩
        · intro ρ W1 hb1 H d hd
          have hd' : (some 30 : Option Tmp) = some d := hd
          injection hd' with hd'
          subst hd'
          refine ⟨fun _ => ?_, fun hne => absurd (H.new 30 5 (by kernel_rfl)) hne⟩
          exact gives_move rfl (H.old 9 _ (by kernel_rfl) rfl) ⟨rfl, Below.refl _ _⟩
        · intro ρ W1 hb1 H d hd
          have hd' : (some 30 : Option Tmp) = some d := hd
          injection hd' with hd'
          subst hd'
          refine ⟨fun _ => ?_, fun hne => absurd (H.new 30 5 (by kernel_rfl)) hne⟩
          exact gives_field rfl (H.old 5 _ (by kernel_rfl) rfl) (fun W => shape_at3 W _) ⟨rfl, Below.refl _ _⟩
        · intro ρ W1 hb1 H d hd
          have hd' : (some 30 : Option Tmp) = some d := hd
          injection hd' with hd'
          subst hd'
          refine ⟨fun _ => ?_, fun hne => absurd (H.new 30 5 (by kernel_rfl)) hne⟩
          exact gives_load rfl (H.new 35 10 (by kernel_rfl)) Tryz.underlying3 rfl ((hb1.cell HLX.out).trans HC3.out) ⟨rfl, Below.refl _ _⟩
        · intro ρ W1 hb1 H d hd
          have hd' : (some 30 : Option Tmp) = some d := hd
          injection hd' with hd'
          subst hd'
          refine ⟨fun _ => ?_, fun hne => absurd (H.new 30 5 (by kernel_rfl)) hne⟩
          have e0 : ρ (.tmp 36) = .int .i64 (p : Int) := H.new 36 11 (by kernel_rfl)
          refine gives_call rfl (fun _ _ => by kernel_rfl) (H.func _) (args := #[.int .i64 (p : Int)]) (by simp [e0]) ?_
          exact (HLO.out W1).mono fun e w' ⟨h1, h2⟩ => ⟨_, h1, rfl, h2 ▸ Below.refl _ _⟩
        · intro ρ W1 hb1 H d hd
          have hd' : (some 30 : Option Tmp) = some d := hd
          injection hd' with hd'
          subst hd'
          refine ⟨fun _ => ?_, fun hne => absurd (H.new 30 5 (by kernel_rfl)) hne⟩
          exact gives_and64 rfl (H.new 34 9 (by kernel_rfl)) (H.new 37 12 (by kernel_rfl)) HAND.out ⟨rfl, Below.refl _ _⟩
        · intro vs W1 hb1 hfs
          have f0 : vs 0 = .int .u64 (gap : Int) := hfs 0 (by decide)
          have f1 : vs 1 = .int .i64 (nb : Int) := hfs 1 (by decide)
          have f2 : vs 2 = .pointer (some ⟨xb, 4, none⟩) := hfs 2 (by decide)
          have f3 : vs 3 = .int .i64 (gw : Int) := hfs 3 (by decide)
          have f4 : vs 4 = .bool false := hfs 4 (by decide)
          have f5 : vs 5 = .bool false := hfs 5 (by decide)
          have f6 : vs 6 = .func (.func 210) #[] #[.pointer (some ⟨pb, 0, none⟩), .pointer (some ⟨sb, 0, none⟩), .pointer (some ⟨wb, 0, none⟩)] := hfs 6 (by decide)
          have f7 : vs 7 = .int .u64 (gap : Int) := hfs 7 (by decide)
          have f8 : vs 8 = .int .i64 (gap : Int) := hfs 8 (by decide)
          have f9 : vs 9 = .int .u64 (x : Int) := hfs 9 (by decide)
          have f10 : vs 10 = .pointer (some ⟨xb, 3, none⟩) := hfs 10 (by decide)
          have f11 : vs 11 = .int .i64 (p : Int) := hfs 11 (by decide)
          have f12 : vs 12 = .int .u64 (K1 : Int) := hfs 12 (by decide)
          have f13 : vs 13 = .int .u64 (pat : Int) := hfs 13 (by decide)
          clear hfs
          simp only [putAll, Nat.zero_add, Nat.reduceAdd, List.drop_succ_cons, List.drop_zero]
          simp only [f0, f1, f2, f3, f4, f5, f6, f7, f8, f9, f10, f11, f12, f13, Act.put, List.setIfInBounds_toArray, List.set_cons_succ, List.set_cons_zero]
          clear f0 f1 f2 f3 f4 f5 f6 f7 f8 f9 f10 f11 f12 f13
          have HL1 := Lib.hid (HL.out.below hb1)
          clear hb1
          have HLAY := Lib.hid (lay_any w g m base W c pb sb wb xb cs a gap pat low' W1 HL1.out hg hpb hsb hwb hxb hps hpw hpx HLL.out HLO64.out (by omega) (by omega) HPT.out hW64)
          go_wp2_with (go_at_call 210; refine HLAY.out.mono ?_; rintro e w4 (⟨hok, rfl, hL4⟩ | ⟨hok, rfl, hg4⟩))
          · have HNX := Lib.hid (show pall W gw p m (0, low) (both.take (k + 1)) = some (a + gap, low'.set (a + gap) (low'.getD (a + gap) 0 ^^^ (pat * 2 ^ W))) by rw [HNX0.out, HPS.out, if_pos ⟨HGG.out, hok.1, hok.2⟩])
            have HL4 := Lib.hid hL4
            have HA1 := Lib.hid hok.1
            have HL64 := Lib.hid (lay_lt (a := a + gap) HLO64.out HPT.out hok.2)
            clear hok hL4
            go_wp2
            go_roundw
            case rel => exact ⟨k + 1, _, _, hkv, by go_num, HNX.out, by rw [List.length_set]; exact HLL.out, HA1.out, HL64.out, HL4.out⟩
            case measure => simp [intOf]; omega
          · have HE := Lib.hid (show pall W gw p m (0, low) both = none from pall_take_none (k := k + 1) (by rw [HNX0.out, HPS.out, if_neg (fun h => hok ⟨h.2.1, h.2.2⟩)]))
            have HG4 := Lib.hid hg4
            clear hok hg4
            go_wp2
            go_ret
            rw [HE.out]
            exact ⟨rfl, HG4.out⟩

      · have HD1 : Hid (decide ((gw : Int) < (nb : Int)) = true) := Lib.hid (decide_eq_true (by omega))
        have HE := Lib.hid (show pall W gw p m (0, low) both = none from pall_take_none (k := k + 1) (by rw [HNX0.out, HPS.out, if_neg (fun h => absurd (HNG.out.2 h.1) hwd)]))
        go_wp2
        refine wp_region_list_tail 14 [.is (.int .u64 (gap : Int)), .is (.int .i64 (nb : Int)), .is (.pointer (some ⟨xb, 4, none⟩)), .is (.int .i64 (gw : Int)), .is (.bool true), .is (.bool true), .any, .any, .any, .any, .any, .any, .any, .any] [some 25, some 26, some 27, some 28, some 29, some 30, some 31, some 32, some 33, some 34, some 35, some 36, some 37, some 38] (by kernel_rfl) (by kernel_rfl) (by kernel_rfl) (by kernel_rfl) rfl ⟨?_, ?_, ?_, ?_, ?_, ?_, ?_, ?_, ?_, ?_, ?_, ?_, ?_, ?_, trivial⟩ ?_
        · intro ρ W1 hb1 H
          exact gives_move rfl (H.old 10 _ (by kernel_rfl) rfl) ⟨rfl, Below.refl _ _⟩
        · intro ρ W1 hb1 H
          have e0 : ρ (.tmp 25) = .int .u64 (gap : Int) := H.new 25 0 (by kernel_rfl)
          refine gives_call rfl (fun _ _ => by kernel_rfl) (H.func _) (args := #[.int .u64 (gap : Int)]) (by simp [e0]) ?_
          exact (HBT.out W1).mono fun e w' ⟨h1, h2⟩ => ⟨_, h1, rfl, h2 ▸ Below.refl _ _⟩
        · intro ρ W1 hb1 H
          exact gives_field rfl (H.old 5 _ (by kernel_rfl) rfl) (fun W => shape_at4 W _) ⟨rfl, Below.refl _ _⟩
        · intro ρ W1 hb1 H
          exact gives_load rfl (H.new 27 2 (by kernel_rfl)) Tryz.underlying3 rfl ((hb1.cell HLX.out).trans HC4.out) ⟨rfl, Below.refl _ _⟩
        · intro ρ W1 hb1 H
          exact gives_gt rfl (H.new 26 1 (by kernel_rfl)) (H.new 28 3 (by kernel_rfl)) ⟨congrArg Value.bool HD1.out, Below.refl _ _⟩
        · intro ρ W1 hb1 H
          exact gives_move rfl (H.new 29 4 (by kernel_rfl)) ⟨rfl, Below.refl _ _⟩
        · intro ρ W1 hb1 H d hd
          have hd' : (some 30 : Option Tmp) = some d := hd
          injection hd' with hd'
          subst hd'
          exact ⟨(fun hh => by cases hh.symm.trans (H.new 30 5 (by kernel_rfl))), fun _ => trivial⟩
        · intro ρ W1 hb1 H d hd
          have hd' : (some 30 : Option Tmp) = some d := hd
          injection hd' with hd'
          subst hd'
          exact ⟨(fun hh => by cases hh.symm.trans (H.new 30 5 (by kernel_rfl))), fun _ => trivial⟩
        · intro ρ W1 hb1 H d hd
          have hd' : (some 30 : Option Tmp) = some d := hd
          injection hd' with hd'
          subst hd'
          exact ⟨(fun hh => by cases hh.symm.trans (H.new 30 5 (by kernel_rfl))), fun _ => trivial⟩
        · intro ρ W1 hb1 H d hd
          have hd' : (some 30 : Option Tmp) = some d := hd
          injection hd' with hd'
          subst hd'
          exact ⟨(fun hh => by cases hh.symm.trans (H.new 30 5 (by kernel_rfl))), fun _ => trivial⟩
        · intro ρ W1 hb1 H d hd
          have hd' : (some 30 : Option Tmp) = some d := hd
          injection hd' with hd'
          subst hd'
          exact ⟨(fun hh => by cases hh.symm.trans (H.new 30 5 (by kernel_rfl))), fun _ => trivial⟩
        · intro ρ W1 hb1 H d hd
          have hd' : (some 30 : Option Tmp) = some d := hd
          injection hd' with hd'
          subst hd'
          exact ⟨(fun hh => by cases hh.symm.trans (H.new 30 5 (by kernel_rfl))), fun _ => trivial⟩
        · intro ρ W1 hb1 H d hd
          have hd' : (some 30 : Option Tmp) = some d := hd
          injection hd' with hd'
          subst hd'
          exact ⟨(fun hh => by cases hh.symm.trans (H.new 30 5 (by kernel_rfl))), fun _ => trivial⟩
        · intro ρ W1 hb1 H d hd
          have hd' : (some 30 : Option Tmp) = some d := hd
          injection hd' with hd'
          subst hd'
          exact ⟨(fun hh => by cases hh.symm.trans (H.new 30 5 (by kernel_rfl))), fun _ => trivial⟩
        · intro vs W1 hb1 hfs
          have f0 : vs 0 = .int .u64 (gap : Int) := hfs 0 (by decide)
          have f1 : vs 1 = .int .i64 (nb : Int) := hfs 1 (by decide)
          have f2 : vs 2 = .pointer (some ⟨xb, 4, none⟩) := hfs 2 (by decide)
          have f3 : vs 3 = .int .i64 (gw : Int) := hfs 3 (by decide)
          have f4 : vs 4 = .bool true := hfs 4 (by decide)
          have f5 : vs 5 = .bool true := hfs 5 (by decide)
          clear hfs
          simp only [putAll, Nat.zero_add, Nat.reduceAdd, List.drop_succ_cons, List.drop_zero]
          generalize vs 6 = z6
          generalize vs 7 = z7
          generalize vs 8 = z8
          generalize vs 9 = z9
          generalize vs 10 = z10
          generalize vs 11 = z11
          generalize vs 12 = z12
          generalize vs 13 = z13
          simp only [f0, f1, f2, f3, f4, f5, Act.put, List.setIfInBounds_toArray, List.set_cons_succ, List.set_cons_zero]
          clear f0 f1 f2 f3 f4 f5
          have HG1 := Lib.hid (grown_trans HL.out.grown (grown_below hb1))
          clear hb1
          go_wp2
          go_ret
          rw [HE.out]
          exact ⟨rfl, HG1.out⟩

    · obtain rfl : k = t := by omega
      have hlti : ¬ (k : Int) < (k : Int) := by omega
      have HE : Hid (pall W gw p m (0, low) both = some (a, low')) := Lib.hid (by
        have h1 := hpl
        rwa [List.take_of_length_le (by have := HT.out; omega)] at h1)
      clear hpl hll hlo hL
      go_wp2
      go_ret
      rw [HE.out]
      exact ⟨rfl, HL.out.own, HLL.out, HLO64.out, HL.out.grown⟩
end Go.Proofs.YtblpkmmhmdpkjaaGreatDoor

/- slices.Concat and slices.Grow at bytes. -/







namespace Go.Proofs.YtblpkmmhmdpkjaaGreatDoor

open Go.RowKit

theorem own_zero {w : World} {base g G : Nat} {e : TypeId} {cur : Array Value} (hg : w.heap[g]? = some (.cells cur e (0, 0))) (hb : base ≤ g) (hG : G ≤ maxLen) (hs : cur.size = G) : w.ownsRow base e 1 (.slice (some ⟨g, 0, none⟩) 0 G) 0 [] :=
  ⟨rfl, .inr ⟨g, G, cur, rfl, hb, hg, Nat.zero_le _, hG, by rw [hs, Nat.mul_one], by simp⟩⟩
theorem zeroCells_size (z : Value) (n : Nat) : (Builtin.zeroCells #[z] n).size = n := by simp [Builtin.zeroCells]
set_option maxHeartbeats 2000000 in
set_option maxRecDepth 100000 in
theorem grow_own (n : Nat) (w : World) (hn : n ≤ 1000000) : Calls Tryz.prog 209 #[.slice none 0 0, .int .i64 (n : Int)] w fun e w' => ∃ v, e = .returned v ∧ w'.ownsRow w.heap.size 5 1 v 0 [] ∧ Below w.heap.size w w' := by
  have hnw : IntKind.i64.wrap (n : Int) = (n : Int) := by rw [IntKind.wrap_i64]; omega
  by_cases h0 : n = 0
  · subst h0
    go_enter Tryz.func209, Tryz.ntmps209
    go_wp2
    go_ret
    exact ⟨_, rfl, World.ownsRow_nil _ _ _ _, Below.refl _ _⟩
  · obtain ⟨i, hi, hz, hs, hby⟩ := elemB.info
    have hrz : ∀ ty, (Builtin.append_ #[38, 3] ty #[.slice none 0 0, .int .i64 (n : Int)]).run Tryz.prog w = .ok (.slice (some ⟨w.heap.size, 0, none⟩) n (grownCap w n 0 5)) (w.drew.alloc (.cells (Builtin.zeroCells (bv 0).cells n ++ Builtin.zeroCells (bv 0).cells (grownCap w n 0 5 - n)) 5)) := fun ty =>
      Lib.run_append_nil_zeros w 38 3 ty 5 i (bv 0) .i64 .i64 Tryz.underlying38 Tryz.underlying3 hi hz n (by omega) (by omega) (by omega) (by rw [hby]; omega)
    have hGn : n ≤ grownCap w n 0 5 := grownCap_ge w _ _ _
    have hGm := grownCap_le_maxLen w n 0 5 (by unfold maxLen; omega)
    obtain ⟨G, hG⟩ : ∃ G, G = grownCap w n 0 5 := ⟨_, rfl⟩
    rw [← hG] at hrz hGn hGm
    have hG63 : G ≤ 9223372036854775807 := by unfold maxLen at hGm; omega
    obtain ⟨cur, hcur⟩ : ∃ cur, cur = Builtin.zeroCells (bv 0).cells n ++ Builtin.zeroCells (bv 0).cells (G - n) := ⟨_, rfl⟩
    rw [← hcur] at hrz
    have HCS := Lib.hid (show cur.size = G by
      rw [hcur, Array.size_append]
      have h1 := zeroCells_size (.int .u8 0) n
      have h2 := zeroCells_size (.int .u8 0) (G - n)
      show (Builtin.zeroCells #[.int .u8 0] n).size + (Builtin.zeroCells #[.int .u8 0] (G - n)).size = G
      omega)
    have HGM := Lib.hid hGm
    have hn1 : 0 < (n : Int) := by omega
    clear hcur hGm hi hz hs hby hG h0
    go_enter Tryz.func209, Tryz.ntmps209
    go_wp2_with (at_builtin; refine Lib.wpList_append_run _ rfl _ _ _ _ rfl _ _ rfl rfl _ _ (hrz _) ?_)
    all_goals
      go_ret
      have h1 : w.drew.heap.size = w.heap.size := rfl
      refine ⟨_, rfl, own_zero (by rw [← h1]; exact heap_alloc_new w.drew _) (Nat.le_refl _) HGM.out HCS.out, ((Below.refl _ _).alloc (Nat.le_refl _) _).trans ⟨rfl, rfl, rfl, Nat.le_refl _, fun _ _ => rfl⟩⟩
def CatRel1 (xs : List (Value × List UInt8)) (w : World) (s i : Value) (wr : World) : Prop := ∃ k S : Nat, k ≤ xs.length ∧ i = .int .i64 (k : Int) ∧ s = .int .i64 (S : Int) ∧ S = ((xs.take k).flatMap (·.2)).length ∧ w = wr
def CatRel2 (xs : List (Value × List UInt8)) (w : World) (v i : Value) (wr : World) : Prop := ∃ (k : Nat) (l : List UInt8), k ≤ xs.length ∧ i = .int .i64 (k : Int) ∧ l = (xs.take k).flatMap (·.2) ∧ wr.ownsRow w.heap.size 5 1 v l.length (l.map bv) ∧ Below w.heap.size w wr
theorem flat_le {xs : List (Value × List UInt8)} (k : Nat) : ((xs.take k).flatMap (·.2)).length ≤ (xs.flatMap (·.2)).length := by
  have h : xs.flatMap (·.2) = (xs.take k).flatMap (·.2) ++ (xs.drop k).flatMap (·.2) := by rw [← List.flatMap_append, List.take_append_drop]
  rw [h, List.length_append]
  omega
set_option maxHeartbeats 2000000 in
set_option maxRecDepth 100000 in
theorem concat_own (xs : List (Value × List UInt8)) (v : Value) (w : World) (hv : IsV (·.1) xs v w) (hx : ∀ x ∈ xs, IsB x.2 x.1 w) (hm : xs.length ≤ 1000) (hb : (xs.flatMap (·.2)).length ≤ 1000000) :
    Calls Tryz.prog 193 #[v] w (RetOwn w (xs.flatMap (·.2))) := by
  obtain ⟨A, n, c, rfl⟩ := hv.shape
  have HN := Lib.hid hv.parts.1
  have HV := Lib.hid hv
  have HX := Lib.hid hx
  have HB := Lib.hid hb
  have hn6 : n ≤ 1000 := by have := HN.out; omega
  have HS := Lib.hid (show CatRel1 xs w (.int .i64 0) (.int .i64 0) w from ⟨0, 0, Nat.zero_le _, rfl, rfl, rfl, rfl⟩)
  clear hv hx hm hb
  go_enter Tryz.func193, Tryz.ntmps193
  go_wp2
  go_loopw [3, 11] (CatRel1 xs w) (fun _ i _ => n - (intOf i).toNat)
  case atStart => exact HS.out
  case round =>
    obtain ⟨k, S, hk, rfl, rfl, hS, rfl⟩ := hrel
    have hkn : k ≤ n := by have := HN.out; omega
    have HSE := Lib.hid hS
    have hS6 : S ≤ 1000000 := by rw [hS]; exact Nat.le_trans (flat_le k) HB.out
    clear hS hk
    by_cases hlt : k < n
    · have hkl : k < xs.length := by have := HN.out; omega
      have hlti : (k : Int) < (n : Int) := by omega
      obtain ⟨ad, rfl, had, hcell⟩ := HV.out.at hkl
      obtain ⟨x, hxe⟩ : ∃ x, x = xs[k] := ⟨_, rfl⟩
      rw [← hxe] at hcell
      have hxb := HX.out x (by rw [hxe]; exact List.getElem_mem hkl)
      have HNX := Lib.hid (show S + x.2.length = ((xs.take (k + 1)).flatMap (·.2)).length by rw [List.take_succ_eq_append_getElem hkl, List.flatMap_append, List.length_append, ← HSE.out, ← hxe]; simp)
      have hS2 : S + x.2.length ≤ 1000000 := by rw [HNX.out]; exact Nat.le_trans (flat_le (k + 1)) HB.out
      obtain ⟨A1, c1, hx1, _⟩ := hxb
      rw [hx1] at hcell
      obtain ⟨q, hq⟩ : ∃ q, q = x.2.length := ⟨_, rfl⟩
      rw [← hq] at hcell HNX hS2
      have hsw : IntKind.i64.wrap ((S : Int) + (q : Int)) = (S : Int) + (q : Int) := by rw [IntKind.wrap_i64]; omega
      have hneg : ¬ ((S : Int) + (q : Int) < 0) := by omega
      clear hxe hx1 hq
      go_wp2
      go_roundw
      case rel => exact ⟨k + 1, S + q, hkl, by go_num, by go_num, HNX.out, rfl⟩
      case measure => simp [intOf]; omega
    · obtain rfl : k = n := by omega
      have HGR := Lib.hid (grow_own S w hS6)
      clear HSE
      go_wp2_with (go_at_call 209; refine HGR.out.mono ?_; rintro e w1 ⟨v1, rfl, ho1, hb1⟩)
      have HS2 := Lib.hid (show CatRel2 xs w v1 (.int .i64 0) w1 from ⟨0, [], Nat.zero_le _, rfl, rfl, ho1, hb1⟩)
      clear ho1 hb1
      go_loopw [6, 27] (CatRel2 xs w) (fun _ i _ => k - (intOf i).toNat)
      case atStart => exact HS2.out
      case round =>
        obtain ⟨j, l, hj, rfl, hl, hown, hbw⟩ := hrel
        have hjn : j ≤ k := by have := HN.out; omega
        have HL := Lib.hid hl
        have hl6 : l.length ≤ 1000000 := by rw [hl]; exact Nat.le_trans (flat_le j) HB.out
        have hz := hbw.size
        clear hl hj
        by_cases hlt2 : j < k
        · have hkl : j < xs.length := by have := HN.out; omega
          have hlti : (j : Int) < (k : Int) := by omega
          obtain ⟨ad, rfl, had, hcell⟩ := (HV.out.below hbw).at hkl
          obtain ⟨x, hxe⟩ : ∃ x, x = xs[j] := ⟨_, rfl⟩
          rw [← hxe] at hcell
          have hxb := HX.out x (by rw [hxe]; exact List.getElem_mem hkl)
          have HNX := Lib.hid (show l ++ x.2 = (xs.take (j + 1)).flatMap (·.2) by rw [List.take_succ_eq_append_getElem hkl, List.flatMap_append, ← HL.out, ← hxe]; simp)
          have hS2 : (l ++ x.2).length ≤ 1000000 := by rw [HNX.out]; exact Nat.le_trans (flat_le (j + 1)) HB.out
          rw [List.length_append] at hS2
          obtain ⟨A1, c1, hx1, hA1, hnc1, hcm1, hl1⟩ := hxb
          rw [hx1] at hcell
          obtain ⟨q, hq⟩ : ∃ q, q = x.2.length := ⟨_, rfl⟩
          rw [← hq] at hcell hA1 hnc1 hS2
          have HL1 := Lib.hid (hl1.below hbw)
          have HQ := Lib.hid hq
          obtain ⟨m, hm⟩ : ∃ m, m = l.length := ⟨_, rfl⟩
          rw [← hm] at hown hS2 hl6
          have HM := Lib.hid hm
          clear hxe hx1 hq hm hl1
          go_wp2_with (at_builtin; refine wpList_join elemB rfl _ _ rfl w.heap.size _ m (l.map bv) A1 q c1 (x.2.map bv) w rfl rfl hA1 (by rw [List.length_map, HQ.out]) HL1.out (bv_one _) hown hbw hz (by omega) (by omega) ?_)
          intro v5 w5 ho5 hb5 _ _
          have HO5 := Lib.hid (show w5.ownsRow w.heap.size 5 1 v5 (l ++ x.2).length ((l ++ x.2).map bv) by rw [List.length_append, ← HM.out, ← HQ.out, List.map_append]; exact ho5)
          have HB5 := Lib.hid hb5
          clear ho5 hb5 hown hbw
          go_wp2
          go_roundw
          case rel => exact ⟨j + 1, _, hkl, by go_num, HNX.out, HO5.out, HB5.out⟩
          case measure => simp [intOf]; omega
        · obtain rfl : j = k := by omega
          have HE := Lib.hid (show l = xs.flatMap (·.2) by rw [HL.out, List.take_of_length_le (by have := HN.out; omega)])
          have HO := Lib.hid hown
          clear hown
          go_wp2
          go_ret
          rw [← HE.out]
          exact ⟨_, rfl, HO.out, hbw⟩
end Go.Proofs.YtblpkmmhmdpkjaaGreatDoor

/- Operations of a region that draws: max, a struct's literal, a slice literal of two bytes, shifts by a constant; a struct's result beside two others. -/









namespace Go.Proofs.YtblpkmmhmdpkjaaGreatDoor

open Go.RowKit

section

variable {P : Program} {o : Oper} {ρ : Operand → Value} {w : World} {R : Value → World → Prop}
theorem gives_max {ts : Array TypeId} {x y : Operand} {a b r : Int} (ho : o.op = .call { callee := .builtin .max, args := #[x, y], argTypes := ts }) (hx : ρ x = .int .i64 a) (hy : ρ y = .int .i64 b) (h : max a b = r) (hR : R (.int .i64 r) w) : Gives P o ρ w R := by
  refine gives_of (v := .int .i64 r) (w' := w) ?_ hR
  have hm : ∀ (ts : Array TypeId) (t : TypeId) (W : World), (Builtin.max_ ts t #[.int .i64 a, .int .i64 b]).run P W = .ok (.int .i64 r) W := fun ts t W => by
    rw [run_max_int2]
    congr 2
    rw [← h]
    split <;> omega
  unfold execOp
  simp only [ho, resolve, invoke, builtin, Sem.run_bind, Sem.run_pure, Result.andThen_ok, List.map_toArray, List.map_cons, List.map_nil, hx, hy, hm]
theorem gives_shl5 {t t' : TypeId} {x y : Operand} {a r : Int} (ho : o.op = .binOp .shl t x y t') (hx : ρ x = .int .i64 a) (hy : ρ y = .int .u64 5) (h : IntKind.i64.wrap (a * 32) = r) (hR : R (.int .i64 r) w) : Gives P o ρ w R := by
  refine gives_of (v := .int .i64 r) (w' := w) ?_ hR
  simp [execOp, ho, hx, hy, go_sem, h]
theorem gives_shr5 {t t' : TypeId} {x y : Operand} {a r : Int} (ho : o.op = .binOp .shr t x y t') (hx : ρ x = .int .u8 a) (hy : ρ y = .int .u64 5) (h : a / 32 = r) (hR : R (.int .u8 r) w) : Gives P o ρ w R := by
  refine gives_of (v := .int .u8 r) (w' := w) ?_ hR
  simp [execOp, ho, hx, hy, go_sem, h]
theorem gives_and8 {t t' : TypeId} {x y : Operand} {a b r : Int} (ho : o.op = .binOp .and t x y t') (hx : ρ x = .int .u8 a) (hy : ρ y = .int .u8 b) (h : bits .and .u8 a b = r) (hR : R (.int .u8 r) w) : Gives P o ρ w R := by
  refine gives_of (v := .int .u8 r) (w' := w) ?_ hR
  simp [execOp, ho, hx, hy, go_sem, h]
theorem gives_orI {t t' : TypeId} {x y : Operand} {a b r : Int} (ho : o.op = .binOp .or t x y t') (hx : ρ x = .int .i64 a) (hy : ρ y = .int .i64 b) (h : bits .or .i64 a b = r) (hR : R (.int .i64 r) w) : Gives P o ρ w R := by
  refine gives_of (v := .int .i64 r) (w' := w) ?_ hR
  simp [execOp, ho, hx, hy, go_sem, h]
theorem gives_or64 {t t' : TypeId} {x y : Operand} {a b r : Int} (ho : o.op = .binOp .or t x y t') (hx : ρ x = .int .u64 a) (hy : ρ y = .int .u64 b) (h : bits .or .u64 a b = r) (hR : R (.int .u64 r) w) : Gives P o ρ w R := by
  refine gives_of (v := .int .u64 r) (w' := w) ?_ hR
  simp [execOp, ho, hx, hy, go_sem, h]
/-- A slice literal of two bytes. -/
theorem gives_two {t e : TypeId} {bytes : Nat} {z u u' : Value} (E : Elem P t e bytes z) {x y : Operand} (ho : o.op = .buildSlice t 2 #[(0, x), (1, y)]) (hx : ρ x = u) (hy : ρ y = u') (hu : u.cells = #[u]) (hu' : u'.cells = #[u']) (hR : R (.slice (some ⟨w.heap.size, 0, none⟩) 2 2) (w.alloc (.cells #[u, u'] e))) : Gives P o ρ w R := by
  obtain ⟨i, h1, h2, h3, h4⟩ := E.info
  refine gives_of (v := .slice (some ⟨w.heap.size, 0, none⟩) 2 2) (w' := w.alloc (.cells #[u, u'] e)) ?_ hR
  have h5 : z.cells = #[z] := E.one
  have hf : Instr.fill (fun k => some (k * i.size, i.size)) ((Array.range (2 * i.size)).map (z.cells[· % z.cells.size]!)) [(0, u), (1, u')] = some #[u, u'] := by
    rw [h3, h5]
    have hr1 : Array.range 2 = #[0, 1] := by rw [Array.range_succ, Array.range_succ]; rfl
    rw [Nat.mul_one, hr1]
    simp [Instr.fill, hu, hu']
  have := run_buildSlice w t e 2 #[(0, u), (1, u')] #[u, u'] i z E.under h1 h2 (by rw [h3]; decide) (by rw [h3]; decide) hf
  simp [execOp, ho, hx, hy, this]
end
theorem gives_shape {o : Oper} {ρ : Operand → Value} {w : World} {R : Value → World → Prop} {x0 x1 x2 x3 x4 x5 : Operand} {m W n p g t : Int} (ho : o.op = .build 181 #[(0, x0), (1, x1), (2, x2), (3, x3), (4, x4), (5, x5)])
    (h0 : ρ x0 = .int .i64 m) (h1 : ρ x1 = .int .i64 W) (h2 : ρ x2 = .int .i64 n) (h3 : ρ x3 = .int .i64 p) (h4 : ρ x4 = .int .i64 g) (h5 : ρ x5 = .int .i64 t) (hR : R (shv m W n p g t) w) : Gives Tryz.prog o ρ w R := by
  refine gives_of (v := shv m W n p g t) (w' := w) ?_ hR
  simp [execOp, ho, h0, h1, h2, h3, h4, h5, go_sem]
  rfl
theorem results_row_tmp2 {P : Program} {fn : Func} {p u v : Tmp} {ty : TypeId} (h : fn.results = #[.cell p ty, .tmp u, .tmp v]) (tmps : Array Value) (w : World) (g : Nat) (t : TypeId) (cs : Array Value) (fr : Nat × Nat) (d : TypeDesc)
    (hp : tmps.getD p undef = .pointer (some ⟨g, 0, none⟩)) (hg : w.heap[g]? = some (.cells cs t fr))
    (hu : P.underlying ty = some d) (hd : (match d with | .struct _ | .array _ _ => true | _ => false) = true) (hi : (P.info? ty).map (·.size) = some cs.size) :
    (results fn tmps).run P w = .ok (.tuple #[.agg cs, tmps.getD u undef, tmps.getD v undef]) w := by
  have hp' : tmps[p]?.getD undef = Value.pointer (some ⟨g, 0, none⟩) := by simpa using hp
  simp only [results, h]
  simp [Result.andThen, hp', asAddr, run_loadVar_row w g t ty cs fr d hg hu hd hi]
theorem pairs_at0 (W : World) (g : Nat) : (Instr.fieldAt 209 (.pointer (some ⟨g, 0, none⟩)) 0).run Tryz.prog W = .ok (.pointer (some ⟨g, 0, none⟩)) W := by
  simp [Instr.fieldAt, run_underlying Tryz.underlying209, Instr.sureAddr, fieldPlace, Addr.add]
theorem pairs_at1 (W : World) (g : Nat) : (Instr.fieldAt 209 (.pointer (some ⟨g, 0, none⟩)) 1).run Tryz.prog W = .ok (.pointer (some ⟨g, 1, none⟩)) W := by
  simp [Instr.fieldAt, run_underlying Tryz.underlying209, Instr.sureAddr, fieldPlace, Addr.add]
theorem shape_size : (Tryz.prog.info? 181).map (·.size) = some 6 := by kernel_rfl
end Go.Proofs.YtblpkmmhmdpkjaaGreatDoor

/- patched's own contracts: shapeOf, joined, head, look. Written by gen_pshape.py. -/



namespace Go.Proofs.YtblpkmmhmdpkjaaGreatDoor

open Go.RowKit

set_option maxHeartbeats 4000000 in
set_option maxRecDepth 100000 in
theorem shapeof_any (m W n : Int) (vg vp : Value) (ps : List (Nat × Nat)) (w : World) (ht : WTab w) (hvg : IsV uv (ps.map (·.1)) vg w) (hvp : IsV uv (ps.map (·.2)) vp w) (h1 : ∀ q ∈ ps, q.1 < 2 ^ 64) (h2 : ∀ q ∈ ps, q.2 < 2 ^ 64) (hb : ps.length ≤ 1000000) :
    Calls Tryz.prog 190 #[.int .i64 m, .int .i64 W, .int .i64 n, pairsV vg vp] w fun e w' => e = .returned (shv m W n (wclosest (wmost (ps.map (·.2)) : Int)) (pgw ps : Int) (ps.length : Int)) ∧ Below w.heap.size w w' := by
  obtain ⟨Ag, ng, cg, rfl⟩ := hvg.shape
  obtain ⟨Ap, np, cp, rfl⟩ := hvp.shape
  have hng : ps.length = ng := by rw [← hvg.parts.1, List.length_map]
  obtain ⟨w1, hw1⟩ : ∃ w1, w1 = w.alloc (.cells #[.slice Ag ng cg, .slice Ap np cp] 209) := ⟨_, rfl⟩
  have q1 : Row w1 w.heap.size 209 [.slice Ag ng cg, .slice Ap np cp] := by rw [hw1]; exact heap_alloc_new w _
  have z1 : w1.heap.size = w.heap.size + 1 := by rw [hw1]; simp
  obtain ⟨w2, hw2⟩ : ∃ w2, w2 = w1.alloc (.cells (shc 0 0 0 0 0 0).toArray 181) := ⟨_, rfl⟩
  have hb1 : Below w.heap.size w w1 := by rw [hw1]; exact (Below.refl _ _).alloc (Nat.le_refl _) _
  have hb2 : Below w.heap.size w w2 := by rw [hw2]; exact hb1.alloc hb1.size _
  have q2 : Row w2 w.heap.size 209 [.slice Ag ng cg, .slice Ap np cp] := by rw [hw2]; exact q1.alloc _
  have HRZ := Lib.hid (show Row w2 (w.heap.size + 1) 181 (shc 0 0 0 0 0 0) by rw [hw2, ← z1]; exact heap_alloc_new w1 _)
  have HB0 := Lib.hid hb2
  have HLB := Lib.hid q2.lt
  have HCG := Lib.hid (show w2.cell? ⟨w.heap.size, 0, none⟩ = some (.slice Ag ng cg) from q2.cell 0)
  have HCP := Lib.hid (show w2.cell? ⟨w.heap.size, 1, none⟩ = some (.slice Ap np cp) from q2.cell 1)
  have HVG := Lib.hid (hvg.below hb2)
  have HVP := Lib.hid (hvp.below hb2)
  have HT := Lib.hid (ht.below hb2 ht.lt)
  have HMG := Lib.hid (fun X (h : IsV uv (ps.map (·.1)) (.slice Ag ng cg) X) => most_is h (by rw [List.length_map]; exact hb) (fun x hx => by obtain ⟨q, hq, rfl⟩ := List.mem_map.1 hx; exact h1 q hq))
  have HMP := Lib.hid (fun X (h : IsV uv (ps.map (·.2)) (.slice Ap np cp) X) => most_is h (by rw [List.length_map]; exact hb) (fun x hx => by obtain ⟨q, hq, rfl⟩ := List.mem_map.1 hx; exact h2 q hq))
  obtain ⟨mp, hmp⟩ : ∃ mp, mp = wmost (ps.map (·.2)) := ⟨_, rfl⟩
  obtain ⟨mg, hmg⟩ : ∃ mg, mg = wmost (ps.map (·.1)) := ⟨_, rfl⟩
  obtain ⟨P, hP⟩ : ∃ P, P = wclosest (mp : Int) := ⟨_, rfl⟩
  obtain ⟨G, hG⟩ : ∃ G, G = (pgw ps : Int) := ⟨_, rfl⟩
  have HMX := Lib.hid (show max 1 (mg : Int) = G by rw [hG, hmg]; unfold pgw; omega)
  have HCL := Lib.hid (fun X (h : WTab X) => closest_any (mp : Int) X h)
  rw [← hmp] at HMP ⊢
  rw [← hmg] at HMG
  rw [← hP] at HCL ⊢
  rw [← hG, hng]
  unfold pairsV
  clear ht hvg hvp h1 h2 hb hng q1 q2 z1 hb1 hb2 hmp hmg hP hG
  unfold shc at hw2
  go_enter Tryz.func190, Tryz.ntmps190
  go_wp2
  rw [← hw1, ← hw2]
  clear hw1 hw2
  refine wp_region_list_tail 15 [.is (.int .i64 m), .is (.int .i64 W), .is (.int .i64 n), .is (.pointer (some ⟨w.heap.size, 1, none⟩)), .is (.slice Ap np cp), .is (.int .i64 (mp : Int)), .is (.int .i64 P), .is (.pointer (some ⟨w.heap.size, 0, none⟩)), .is (.slice Ag ng cg), .is (.int .i64 (mg : Int)), .is (.int .i64 G), .is (.pointer (some ⟨w.heap.size, 0, none⟩)), .is (.slice Ag ng cg), .is (.int .i64 (ng : Int)), .is (shv m W n P G (ng : Int))] [some 9, some 10, some 11, some 12, some 13, some 14, some 15, some 16, some 17, some 18, some 19, some 20, some 21, some 22, some 23] (by kernel_rfl) (by kernel_rfl) (by kernel_rfl) (by kernel_rfl) rfl ⟨?_, ?_, ?_, ?_, ?_, ?_, ?_, ?_, ?_, ?_, ?_, ?_, ?_, ?_, ?_, trivial⟩ ?_
  · intro ρ W1 hb1 H
    exact gives_move rfl (H.old 0 _ (by kernel_rfl) rfl) ⟨rfl, Below.refl _ _⟩
  · intro ρ W1 hb1 H
    exact gives_move rfl (H.old 1 _ (by kernel_rfl) rfl) ⟨rfl, Below.refl _ _⟩
  · intro ρ W1 hb1 H
    exact gives_move rfl (H.old 2 _ (by kernel_rfl) rfl) ⟨rfl, Below.refl _ _⟩
  · intro ρ W1 hb1 H
    exact gives_field rfl (H.old 7 _ (by kernel_rfl) rfl) (fun W => pairs_at1 W _) ⟨rfl, Below.refl _ _⟩
  · intro ρ W1 hb1 H
    exact gives_load rfl (H.new 12 3 (by kernel_rfl)) Tryz.underlying75 rfl ((hb1.cell HLB.out).trans HCP.out) ⟨rfl, Below.refl _ _⟩
  · intro ρ W1 hb1 H
    have e0 : ρ (.tmp 13) = .slice Ap np cp := H.new 13 4 (by kernel_rfl)
    refine gives_call rfl (fun _ _ => by kernel_rfl) (H.func _) (args := #[.slice Ap np cp]) (by simp [e0]) ?_
    exact (HMP.out W1 (HVP.out.below hb1)).mono fun e w' ⟨h1, h2⟩ => ⟨_, h1, rfl, h2 ▸ Below.refl _ _⟩
  · intro ρ W1 hb1 H
    have e0 : ρ (.tmp 14) = .int .i64 (mp : Int) := H.new 14 5 (by kernel_rfl)
    refine gives_call rfl (fun _ _ => by kernel_rfl) (H.func _) (args := #[.int .i64 (mp : Int)]) (by simp [e0]) ?_
    exact (HCL.out W1 (HT.out.below hb1 HT.out.lt)).mono fun e w' ⟨h1, h2⟩ => ⟨_, h1, rfl, h2 ▸ Below.refl _ _⟩
  · intro ρ W1 hb1 H
    exact gives_field rfl (H.old 7 _ (by kernel_rfl) rfl) (fun W => pairs_at0 W _) ⟨rfl, Below.refl _ _⟩
  · intro ρ W1 hb1 H
    exact gives_load rfl (H.new 16 7 (by kernel_rfl)) Tryz.underlying75 rfl ((hb1.cell HLB.out).trans HCG.out) ⟨rfl, Below.refl _ _⟩
  · intro ρ W1 hb1 H
    have e0 : ρ (.tmp 17) = .slice Ag ng cg := H.new 17 8 (by kernel_rfl)
    refine gives_call rfl (fun _ _ => by kernel_rfl) (H.func _) (args := #[.slice Ag ng cg]) (by simp [e0]) ?_
    exact (HMG.out W1 (HVG.out.below hb1)).mono fun e w' ⟨h1, h2⟩ => ⟨_, h1, rfl, h2 ▸ Below.refl _ _⟩
  · intro ρ W1 hb1 H
    exact gives_max rfl (H.const _) (H.new 18 9 (by kernel_rfl)) HMX.out ⟨rfl, Below.refl _ _⟩
  · intro ρ W1 hb1 H
    exact gives_field rfl (H.old 7 _ (by kernel_rfl) rfl) (fun W => pairs_at0 W _) ⟨rfl, Below.refl _ _⟩
  · intro ρ W1 hb1 H
    exact gives_load rfl (H.new 20 11 (by kernel_rfl)) Tryz.underlying75 rfl ((hb1.cell HLB.out).trans HCG.out) ⟨rfl, Below.refl _ _⟩
  · intro ρ W1 hb1 H
    exact gives_len elemU.under rfl (H.new 21 12 (by kernel_rfl)) ⟨rfl, Below.refl _ _⟩
  · intro ρ W1 hb1 H
    exact gives_shape rfl (H.new 9 0 (by kernel_rfl)) (H.new 10 1 (by kernel_rfl)) (H.new 11 2 (by kernel_rfl)) (H.new 15 6 (by kernel_rfl)) (H.new 19 10 (by kernel_rfl)) (H.new 22 13 (by kernel_rfl)) ⟨rfl, Below.refl _ _⟩
  · intro vs W1 hb1 hfs
    have f0 : vs 0 = .int .i64 m := hfs 0 (by decide)
    have f1 : vs 1 = .int .i64 W := hfs 1 (by decide)
    have f2 : vs 2 = .int .i64 n := hfs 2 (by decide)
    have f3 : vs 3 = .pointer (some ⟨w.heap.size, 1, none⟩) := hfs 3 (by decide)
    have f4 : vs 4 = .slice Ap np cp := hfs 4 (by decide)
    have f5 : vs 5 = .int .i64 (mp : Int) := hfs 5 (by decide)
    have f6 : vs 6 = .int .i64 P := hfs 6 (by decide)
    have f7 : vs 7 = .pointer (some ⟨w.heap.size, 0, none⟩) := hfs 7 (by decide)
    have f8 : vs 8 = .slice Ag ng cg := hfs 8 (by decide)
    have f9 : vs 9 = .int .i64 (mg : Int) := hfs 9 (by decide)
    have f10 : vs 10 = .int .i64 G := hfs 10 (by decide)
    have f11 : vs 11 = .pointer (some ⟨w.heap.size, 0, none⟩) := hfs 11 (by decide)
    have f12 : vs 12 = .slice Ag ng cg := hfs 12 (by decide)
    have f13 : vs 13 = .int .i64 (ng : Int) := hfs 13 (by decide)
    have f14 : vs 14 = shv m W n P G (ng : Int) := hfs 14 (by decide)
    clear hfs
    simp only [putAll, Nat.zero_add, Nat.reduceAdd, List.drop_succ_cons, List.drop_zero]
    simp only [f0, f1, f2, f3, f4, f5, f6, f7, f8, f9, f10, f11, f12, f13, f14, Act.put, List.setIfInBounds_toArray, List.set_cons_succ, List.set_cons_zero]
    clear f0 f1 f2 f3 f4 f5 f6 f7 f8 f9 f10 f11 f12 f13 f14
    have HR1 := Lib.hid (HRZ.out.below hb1 HRZ.out.lt)
    have HB1 := Lib.hid hb1
    clear hb1
    refine wpList_storeW rfl _ _ _ rfl (w.heap.size + 1) 0 181 (shc 0 0 0 0 0 0) (shc m W n P G (ng : Int)) (shc m W n P G (ng : Int)) rfl rfl rfl HR1.out shape_size (Nat.le_refl _) (shc_one _ _ _ _ _ _) w w.heap.size (HB0.out.trans (HB1.out.mono HB0.out.size)) (Nat.le_succ _) ?_
    intro w2 hr2 hb2 _
    go_wp2
    refine ret_struct rfl rfl hr2 Tryz.underlying181 rfl shape_size rfl ?_
    exact ⟨rfl, hb2⟩
def JnRel (T : List Nat) (g b n : Nat) (vg vp : Value) (w : World) (i : Value) (wr : World) : Prop := ∃ (k : Nat) (acc : List Nat), k ≤ n ∧ i = .int .i64 (k : Int) ∧ acc = T.take k ∧ Row wr g 101 (acc.map uv ++ List.replicate (n - k) (uv 0)) ∧ Row wr b 209 [vg, vp] ∧ Below w.heap.size w wr
set_option maxHeartbeats 4000000 in
set_option maxRecDepth 100000 in
theorem joined_any (vg vp : Value) (ps : List (Nat × Nat)) (p : Nat) (w : World) (hvg : IsV uv (ps.map (·.1)) vg w) (hvp : IsV uv (ps.map (·.2)) vp w) (h1 : ∀ q ∈ ps, q.1 * 2 ^ p < 2 ^ 64) (h2 : ∀ q ∈ ps, q.2 < 2 ^ p) (hp64 : p ≤ 64) (hb : ps.length ≤ 1000000) :
    Calls Tryz.prog 192 #[pairsV vg vp, .int .i64 (p : Int)] w fun e w' => ∃ v, e = .returned v ∧ IsV uv (pboth ps p) v w' ∧ Below w.heap.size w w' := by
  obtain ⟨Ag, n, cg, rfl⟩ := hvg.shape
  obtain ⟨Ap, np, cp, rfl⟩ := hvp.shape
  have hng : ps.length = n := by rw [← hvg.parts.1, List.length_map]
  obtain rfl : np = n := by rw [← hng, ← hvp.parts.1, List.length_map]
  obtain ⟨b, hbz⟩ : ∃ b, b = w.heap.size := ⟨_, rfl⟩
  obtain ⟨w1, hw1⟩ : ∃ w1, w1 = w.alloc (.cells #[.slice Ag np cg, .slice Ap np cp] 209) := ⟨_, rfl⟩
  have q1 : Row w1 b 209 [.slice Ag np cg, .slice Ap np cp] := by rw [hw1, hbz]; exact heap_alloc_new w _
  have z1 : w1.heap.size = b + 1 := by rw [hw1, hbz]; simp
  have hb1 : Below w.heap.size w w1 := by rw [hw1]; exact (Below.refl _ _).alloc (Nat.le_refl _) _
  have hc0 : w1.cell? ⟨b, 0, none⟩ = some (.slice Ag np cg) := q1.cell 0
  have HQ1 := Lib.hid q1
  have HB1 := Lib.hid hb1
  have HN := Lib.hid hng
  have HVG := Lib.hid hvg
  have HVP := Lib.hid hvp
  have H1 := Lib.hid h1
  have H2 := Lib.hid h2
  have hn6 : np ≤ 1000000 := by omega
  rw [hw1, hbz] at hc0
  have HBZ := Lib.hid hbz
  have HW1 := Lib.hid hw1
  unfold pairsV
  clear hvg hvp h1 h2 hb hng q1 hb1 hbz hw1
  go_enter Tryz.func192, Tryz.ntmps192
  go_wp2_with (refine wpList_make elemU rfl _ _ rfl _ _ _ _ np _ (w.heap.size + 1) rfl rfl rfl rfl (by omega) (by omega) (Below.refl _ _) (by simp) ?_)
  intro w2 hr2 hb2
  rw [← HW1.out, ← HBZ.out] at hb2
  rw [← HBZ.out] at hr2
  have hz2 := hr2.lt
  have HB2 := Lib.hid (HB1.out.trans (hb2.mono (by have := HBZ.out; omega)))
  have hq2 := HQ1.out.below hb2 (Nat.lt_succ_self b)
  have hc2 : w2.cell? ⟨b, 0, none⟩ = some (.slice Ag np cg) := hq2.cell 0
  rw [← HBZ.out]
  have HS := Lib.hid (show JnRel (pboth ps p) (b + 1) b np (.slice Ag np cg) (.slice Ap np cp) w (.int .i64 0) w2 from ⟨0, [], Nat.zero_le _, rfl, rfl, by rw [Nat.sub_zero]; simpa [uv] using hr2, hq2, HB2.out⟩)
  have hbg : b ≠ b + 1 := by omega
  have hg : w.heap.size ≤ b + 1 := by have := HBZ.out; omega
  clear hr2 hb2 hq2 hc0 hz2 z1
  generalize b + 1 = g at *
  go_wp2
  clear hc2
  go_loopw [15] (JnRel (pboth ps p) g b np (.slice Ag np cg) (.slice Ap np cp) w) (fun i _ => np - (intOf i).toNat)
  case atStart => exact HS.out
  case round =>
    obtain ⟨k, acc, hk, rfl, hacc, hr, hrb, hbw⟩ := hrel
    have hpl : (pboth ps p).length = np := by unfold pboth; rw [List.length_map, HN.out]
    have HAL := Lib.hid (show acc.length = k by rw [hacc, List.length_take]; omega)
    have HB := Lib.hid hbw
    have HR := Lib.hid hr
    have HRB := Lib.hid hrb
    have HACC := Lib.hid hacc
    have HPL := Lib.hid hpl
    clear hacc hr hrb hpl
    by_cases hlt : k < np
    · have hkl : k < ps.length := by have := HN.out; omega
      have hlti : (k : Int) < (np : Int) := by omega
      have hltn : k < np := hlt
      obtain ⟨adg, hAg, _, hcg⟩ := (HVG.out.below hbw).at (k := k) (by rw [List.length_map]; exact hkl)
      obtain ⟨ad, hAp, hadlt, hcp⟩ := (HVP.out.below hbw).at (k := k) (by rw [List.length_map]; exact hkl)
      subst hAg hAp
      obtain ⟨q, hq⟩ : ∃ q, q = ps[k] := ⟨_, rfl⟩
      have hqm : q ∈ ps := by rw [hq]; exact List.getElem_mem hkl
      obtain ⟨x, hx⟩ : ∃ x, x = q.1 := ⟨_, rfl⟩
      obtain ⟨y, hy⟩ : ∃ y, y = q.2 := ⟨_, rfl⟩
      have hcx : wr.cell? (adg.add k) = some (.int .u64 (x : Int)) := by rw [hcg, List.getElem_map, ← hq, ← hx]; rfl
      have HCY := Lib.hid (show wr.cell? (ad.add k) = some (.int .u64 (y : Int)) by rw [hcp, List.getElem_map, ← hq, ← hy]; rfl)
      have HLA := Lib.hid (show (ad.add k).block < wr.heap.size by rw [add_block]; exact hadlt)
      obtain ⟨Z, hZ⟩ : ∃ Z, Z = x * 2 ^ p := ⟨_, rfl⟩
      obtain ⟨V, hV⟩ : ∃ V, V = Z + y := ⟨_, rfl⟩
      have hZ64 : Z < 18446744073709551616 := by rw [hZ, hx]; exact H1.out q hqm
      have hy2 : y < 2 ^ p := by rw [hy]; exact H2.out q hqm
      have hpp : 2 ^ p ≤ 18446744073709551616 := Nat.pow_le_pow_right (n := 2) (i := p) (j := 64) (by omega) hp64
      have HZW : Hid (IntKind.u64.wrap ((x : Int) * 2 ^ p) = (Z : Int)) := Lib.hid (by rw [show (x : Int) * 2 ^ p = (Z : Int) by rw [hZ]; simp, IntKind.wrap_u64]; omega)
      have HOR : Hid (bits .or .u64 (Z : Int) (y : Int) = (V : Int)) := Lib.hid (by
        have hj := nat_join p Z y (by rw [hZ]; exact Nat.mul_mod_left _ _) hy2
        rw [u64_or _ _ (by omega) (by omega) (by omega) (by omega), Int.toNat_natCast, Int.toNat_natCast, hj, hV])
      have HNX := Lib.hid (show acc ++ [V] = (pboth ps p).take (k + 1) by
        rw [HACC.out, List.take_succ_eq_append_getElem (by rw [HPL.out]; exact hlt)]
        congr 1
        unfold pboth
        rw [List.getElem_map, ← hq, ← hx, ← hy, ← hZ, hV])
      have HCP := Lib.hid (show wr.cell? ⟨b, 1, none⟩ = some (.slice (some ad) np cp) from HRB.out.cell 1)
      have HLB := Lib.hid HRB.out.lt
      have HADD : Hid ((⟨g, 0, none⟩ : Addr).add k = ⟨g, k, none⟩) := Lib.hid (by unfold Addr.add; split <;> simp_all)
      clear hcg hcp hq hqm hx hy hZ hV hZ64 hy2 hpp hadlt hbw
      go_wp2
      refine wp_region_list_tail 12 [.is (.slice (some ⟨g, 0, none⟩) np np), .is (.int .i64 (k : Int)), .is (.int .u64 (x : Int)), .is (.int .i64 (p : Int)), .is (.int .u64 (Z : Int)), .is (.pointer (some ⟨b, 1, none⟩)), .is (.slice (some ad) np cp), .is (.int .i64 (k : Int)), .is (.pointer (some (ad.add k))), .is (.int .u64 (y : Int)), .is (.int .u64 (V : Int)), .is (.pointer (some ⟨g, k, none⟩))] [some 20, some 21, some 22, some 23, some 24, some 25, some 26, some 27, some 28, some 29, some 30, some 31] (by kernel_rfl) (by kernel_rfl) (by kernel_rfl) (by kernel_rfl) rfl ⟨?_, ?_, ?_, ?_, ?_, ?_, ?_, ?_, ?_, ?_, ?_, ?_, trivial⟩ ?_
      · intro ρ W1 hb1 H
        exact gives_move rfl (H.old 5 _ (by kernel_rfl) rfl) ⟨rfl, Below.refl _ _⟩
      · intro ρ W1 hb1 H
        exact gives_move rfl (H.old 6 _ (by kernel_rfl) rfl) ⟨rfl, Below.refl _ _⟩
      · intro ρ W1 hb1 H
        exact gives_move rfl (H.old 7 _ (by kernel_rfl) rfl) ⟨rfl, Below.refl _ _⟩
      · intro ρ W1 hb1 H
        exact gives_move rfl (H.old 1 _ (by kernel_rfl) rfl) ⟨rfl, Below.refl _ _⟩
      · intro ρ W1 hb1 H
        exact gives_shl64 (k := p) rfl (H.new 22 2 (by kernel_rfl)) (H.new 23 3 (by kernel_rfl)) hp64 HZW.out ⟨rfl, Below.refl _ _⟩
      · intro ρ W1 hb1 H
        exact gives_field rfl (H.old 2 _ (by kernel_rfl) rfl) (fun W => pairs_at1 W _) ⟨rfl, Below.refl _ _⟩
      · intro ρ W1 hb1 H
        exact gives_load rfl (H.new 25 5 (by kernel_rfl)) Tryz.underlying75 rfl ((hb1.cell HLB.out).trans HCP.out) ⟨rfl, Below.refl _ _⟩
      · intro ρ W1 hb1 H
        exact gives_move rfl (H.old 6 _ (by kernel_rfl) rfl) ⟨rfl, Below.refl _ _⟩
      · intro ρ W1 hb1 H
        exact gives_index (k := k) elemU rfl (H.new 26 6 (by kernel_rfl)) (H.new 27 7 (by kernel_rfl)) (hltn) ⟨rfl, Below.refl _ _⟩
      · intro ρ W1 hb1 H
        exact gives_load rfl (H.new 28 8 (by kernel_rfl)) Tryz.underlying101 rfl ((hb1.cell HLA.out).trans HCY.out) ⟨rfl, Below.refl _ _⟩
      · intro ρ W1 hb1 H
        exact gives_or64 rfl (H.new 24 4 (by kernel_rfl)) (H.new 29 9 (by kernel_rfl)) HOR.out ⟨rfl, Below.refl _ _⟩
      · intro ρ W1 hb1 H
        exact gives_index (k := k) elemU rfl (H.new 20 0 (by kernel_rfl)) (H.new 21 1 (by kernel_rfl)) (hltn) ⟨congrArg (fun q => Value.pointer (some q)) (HADD.out), Below.refl _ _⟩
      · intro vs W1 hb1 hfs
        have f0 : vs 0 = .slice (some ⟨g, 0, none⟩) np np := hfs 0 (by decide)
        have f1 : vs 1 = .int .i64 (k : Int) := hfs 1 (by decide)
        have f2 : vs 2 = .int .u64 (x : Int) := hfs 2 (by decide)
        have f3 : vs 3 = .int .i64 (p : Int) := hfs 3 (by decide)
        have f4 : vs 4 = .int .u64 (Z : Int) := hfs 4 (by decide)
        have f5 : vs 5 = .pointer (some ⟨b, 1, none⟩) := hfs 5 (by decide)
        have f6 : vs 6 = .slice (some ad) np cp := hfs 6 (by decide)
        have f7 : vs 7 = .int .i64 (k : Int) := hfs 7 (by decide)
        have f8 : vs 8 = .pointer (some (ad.add k)) := hfs 8 (by decide)
        have f9 : vs 9 = .int .u64 (y : Int) := hfs 9 (by decide)
        have f10 : vs 10 = .int .u64 (V : Int) := hfs 10 (by decide)
        have f11 : vs 11 = .pointer (some ⟨g, k, none⟩) := hfs 11 (by decide)
        clear hfs
        simp only [putAll, Nat.zero_add, Nat.reduceAdd, List.drop_succ_cons, List.drop_zero]
        simp only [f0, f1, f2, f3, f4, f5, f6, f7, f8, f9, f10, f11, Act.put, List.setIfInBounds_toArray, List.set_cons_succ, List.set_cons_zero]
        clear f0 f1 f2 f3 f4 f5 f6 f7 f8 f9 f10 f11
        have hr2 := HR.out.below hb1 HR.out.lt
        have hf2 := hr2.free k
        have hcu : ∃ z, W1.cell? ⟨g, k, none⟩ = some z := by
          rw [hr2.cell]
          exact ⟨_, List.getElem?_eq_getElem (by rw [List.length_append, List.length_map, List.length_replicate]; have := HAL.out; omega)⟩
        obtain ⟨u0, hcu⟩ := hcu
        have hset := hr2.set_ k (uv V)
        rw [fill_step hltn HAL.out] at hset
        have HSET := Lib.hid hset
        have HRB1 := Lib.hid ((HRB.out.below hb1 HRB.out.lt).far (p := ⟨g, k, none⟩) hbg (uv V))
        have HB3 := Lib.hid ((HB.out.trans (hb1.mono HB.out.size)).setCell (p := ⟨g, k, none⟩) hg (uv V))
        clear hset hr2 hb1
        go_wp2
        go_roundw
        case rel => exact ⟨k + 1, _, by omega, by go_num, HNX.out, HSET.out, HRB1.out, HB3.out⟩
        case measure => simp [intOf]; omega

    · obtain rfl : k = np := by omega
      have hlti : ¬ (k : Int) < (k : Int) := by omega
      have HE := Lib.hid (show acc = pboth ps p by rw [HACC.out, List.take_of_length_le (by rw [HPL.out]; exact Nat.le_refl _)])
      have hr := HR.out
      rw [Nat.sub_self, List.replicate_zero, List.append_nil] at hr
      have HO := Lib.hid (isV_row hr HAL.out (by omega))
      rw [HE.out] at HO
      clear hr
      go_wp2
      go_ret
      exact ⟨_, rfl, HO.out, HB.out⟩
end Go.Proofs.YtblpkmmhmdpkjaaGreatDoor

/- patched's own contracts: head. Written by gen_phead.py. -/



namespace Go.Proofs.YtblpkmmhmdpkjaaGreatDoor

open Go.RowKit

def Fact.ownRow (B : Nat) (l : List UInt8) : Fact := ⟨fun v w => w.ownsRow B 5 1 v l.length (l.map bv), fun _ _ _ h hb => own_below h hb⟩
theorem two_bytes {B0 B1 : Nat} (h0 : B0 < 256) (h1 : B1 < 256) (W : World) : IsB [UInt8.ofNat B0, UInt8.ofNat B1] (.slice (some ⟨W.heap.size, 0, none⟩) 2 2) (W.alloc (.cells #[.int .u8 (B0 : Int), .int .u8 (B1 : Int)] 5)) := by
  have h := isB_new W 5 [UInt8.ofNat B0, UInt8.ofNat B1] 2 rfl (by omega)
  simp only [List.map_cons, List.map_nil] at h
  rwa [← bv_low7 h0, ← bv_low7 h1] at h
set_option maxHeartbeats 4000000 in
set_option maxRecDepth 100000 in
theorem head_own (M W n p g t : Nat) (w : World) (ht : WTab w) (hM1 : 1 ≤ M) (hM : M ≤ 512) (hW : wcode (W : Int) = (pcode W : Int)) (hW31 : pcode W ≤ 31) (hn1 : 1 ≤ n) (hn8 : n ≤ 8) (hp : wcode (p : Int) = (pcode p : Int)) (hp31 : pcode p ≤ 31) (hg1 : 1 ≤ g) (hg8 : g ≤ 8) (ht31 : t ≤ 31) :
    Calls Tryz.prog 194 #[shv M W n p g t] w (RetOwn w (dheadN 2 (pcode W) M ++ [UInt8.ofNat (32 * (n - 1) + pcode p), UInt8.ofNat (32 * (g - 1) + t)])) := by
  obtain ⟨w1, hw1⟩ : ∃ w1, w1 = w.alloc (.cells (shc M W n p g t).toArray 181) := ⟨_, rfl⟩
  have q1 : Row w1 w.heap.size 181 (shc M W n p g t) := by rw [hw1]; exact heap_alloc_new w _
  have hb1 : Below w.heap.size w w1 := by rw [hw1]; exact (Below.refl _ _).alloc (Nat.le_refl _) _
  have HB0 := Lib.hid hb1
  have HLB := Lib.hid q1.lt
  have HC0 := Lib.hid (show w1.cell? ⟨w.heap.size, 0, none⟩ = some (.int .i64 (M : Int)) from q1.cell 0)
  have HC1 := Lib.hid (show w1.cell? ⟨w.heap.size, 1, none⟩ = some (.int .i64 (W : Int)) from q1.cell 1)
  have HC2 := Lib.hid (show w1.cell? ⟨w.heap.size, 2, none⟩ = some (.int .i64 (n : Int)) from q1.cell 2)
  have HC3 := Lib.hid (show w1.cell? ⟨w.heap.size, 3, none⟩ = some (.int .i64 (p : Int)) from q1.cell 3)
  have HC4 := Lib.hid (show w1.cell? ⟨w.heap.size, 4, none⟩ = some (.int .i64 (g : Int)) from q1.cell 4)
  have HC5 := Lib.hid (show w1.cell? ⟨w.heap.size, 5, none⟩ = some (.int .i64 (t : Int)) from q1.cell 5)
  have HT := Lib.hid (ht.below hb1 ht.lt)
  obtain ⟨cW, hcW⟩ : ∃ cW, cW = pcode W := ⟨_, rfl⟩
  obtain ⟨cp, hcp⟩ : ∃ cp, cp = pcode p := ⟨_, rfl⟩
  have HCW := Lib.hid (fun X (h : WTab X) => code_any (W : Int) X h)
  have HCD := Lib.hid (fun X (h : WTab X) => code_any (p : Int) X h)
  rw [hW, ← hcW] at HCW
  rw [hp, ← hcp] at HCD
  rw [← hcW] at hW31 ⊢
  rw [← hcp] at hp31 ⊢
  obtain ⟨hd, hhd⟩ : ∃ hd, hd = dheadN 2 cW M := ⟨_, rfl⟩
  have HHD := Lib.hid (fun X (h : WTab X) => dhead_own 2 (cW : Int) (M : Int) X h (by unfold inInt; omega) (by unfold inInt; omega) (by unfold inInt; omega))
  rw [show (2 : Int) = ((2 : Nat) : Int) from rfl, dhead_in (by omega) hW31 hM1 hM, ← hhd] at HHD
  rw [show ((2 : Nat) : Int) = (2 : Int) from rfl] at HHD
  have HHL := Lib.hid (show hd.length = 2 by rw [hhd, dheadN_len])
  obtain ⟨n1, hn1e⟩ : ∃ n1, n1 = n - 1 := ⟨_, rfl⟩
  obtain ⟨g1, hg1e⟩ : ∃ g1, g1 = g - 1 := ⟨_, rfl⟩
  obtain ⟨n32, hn32⟩ : ∃ n32, n32 = n1 * 32 := ⟨_, rfl⟩
  obtain ⟨g32, hg32⟩ : ∃ g32, g32 = g1 * 32 := ⟨_, rfl⟩
  obtain ⟨B0, hB0⟩ : ∃ B0, B0 = n32 + cp := ⟨_, rfl⟩
  obtain ⟨B1, hB1⟩ : ∃ B1, B1 = g32 + t := ⟨_, rfl⟩
  rw [show 32 * (n - 1) + cp = B0 by omega, show 32 * (g - 1) + t = B1 by omega, ← hhd]
  have HN1 := Lib.hid (show (n : Int) - 1 = (n1 : Int) by omega)
  have HG1 := Lib.hid (show (g : Int) - 1 = (g1 : Int) by omega)
  have HN32 := Lib.hid (show IntKind.i64.wrap ((n1 : Int) * 32) = (n32 : Int) by rw [IntKind.wrap_i64]; omega)
  have HG32 := Lib.hid (show IntKind.i64.wrap ((g1 : Int) * 32) = (g32 : Int) by rw [IntKind.wrap_i64]; omega)
  have HOR0 := Lib.hid (show bits .or .i64 (n32 : Int) (cp : Int) = (B0 : Int) by rw [hB0]; exact or_i64 5 n32 cp (by omega) (by omega) (by omega))
  have HOR1 := Lib.hid (show bits .or .i64 (g32 : Int) (t : Int) = (B1 : Int) by rw [hB1]; exact or_i64 5 g32 t (by omega) (by omega) (by omega))
  have HU0 := Lib.hid (show IntKind.u8.wrap (B0 : Int) = (B0 : Int) by rw [IntKind.wrap_u8]; omega)
  have HU1 := Lib.hid (show IntKind.u8.wrap (B1 : Int) = (B1 : Int) by rw [IntKind.wrap_u8]; omega)
  have HB0l := Lib.hid (show B0 < 256 by omega)
  have HB1l := Lib.hid (show B1 < 256 by omega)
  unfold shc at hw1
  unfold shv shc
  clear ht q1 hb1 hcW hcp hhd hn1e hg1e hn32 hg32 hB0 hB1 hW hp
  go_enter Tryz.func194, Tryz.ntmps194
  go_wp2
  rw [← hw1]
  clear hw1
  refine wp_region_list_tail 24 [.is (.pointer (some ⟨w.heap.size, 1, none⟩)), .is (.int .i64 (W : Int)), .is (.int .i64 (cW : Int)), .is (.pointer (some ⟨w.heap.size, 0, none⟩)), .is (.int .i64 (M : Int)), .ownRow w.heap.size hd, .is (.pointer (some ⟨w.heap.size, 2, none⟩)), .is (.int .i64 (n : Int)), .is (.int .i64 (n1 : Int)), .is (.int .i64 (n32 : Int)), .is (.pointer (some ⟨w.heap.size, 3, none⟩)), .is (.int .i64 (p : Int)), .is (.int .i64 (cp : Int)), .is (.int .i64 (B0 : Int)), .is (.int .u8 (B0 : Int)), .is (.pointer (some ⟨w.heap.size, 4, none⟩)), .is (.int .i64 (g : Int)), .is (.int .i64 (g1 : Int)), .is (.int .i64 (g32 : Int)), .is (.pointer (some ⟨w.heap.size, 5, none⟩)), .is (.int .i64 (t : Int)), .is (.int .i64 (B1 : Int)), .is (.int .u8 (B1 : Int)), .bytes ([UInt8.ofNat B0, UInt8.ofNat B1])] [some 3, some 4, some 5, some 6, some 7, some 8, some 9, some 10, some 11, some 12, some 13, some 14, some 15, some 16, some 17, some 18, some 19, some 20, some 21, some 22, some 23, some 24, some 25, some 26] (by kernel_rfl) (by kernel_rfl) (by kernel_rfl) (by kernel_rfl) rfl ⟨?_, ?_, ?_, ?_, ?_, ?_, ?_, ?_, ?_, ?_, ?_, ?_, ?_, ?_, ?_, ?_, ?_, ?_, ?_, ?_, ?_, ?_, ?_, ?_, trivial⟩ ?_
  · intro ρ W1 hb1 H
    exact gives_field rfl (H.old 1 _ (by kernel_rfl) rfl) (fun W => shape_at1 W _) ⟨rfl, Below.refl _ _⟩
  · intro ρ W1 hb1 H
    exact gives_load rfl (H.new 3 0 (by kernel_rfl)) Tryz.underlying3 rfl ((hb1.cell HLB.out).trans HC1.out) ⟨rfl, Below.refl _ _⟩
  · intro ρ W1 hb1 H
    have e0 : ρ (.tmp 4) = .int .i64 (W : Int) := H.new 4 1 (by kernel_rfl)
    refine gives_call rfl (fun _ _ => by kernel_rfl) (H.func _) (args := #[.int .i64 (W : Int)]) (by simp [e0]) ?_
    exact (HCW.out W1 (HT.out.below hb1 HT.out.lt)).mono fun e w' ⟨h1, h2⟩ => ⟨_, h1, rfl, h2 ▸ Below.refl _ _⟩
  · intro ρ W1 hb1 H
    exact gives_field rfl (H.old 1 _ (by kernel_rfl) rfl) (fun W => shape_at0 W _) ⟨rfl, Below.refl _ _⟩
  · intro ρ W1 hb1 H
    exact gives_load rfl (H.new 6 3 (by kernel_rfl)) Tryz.underlying3 rfl ((hb1.cell HLB.out).trans HC0.out) ⟨rfl, Below.refl _ _⟩
  · intro ρ W1 hb1 H
    have e1 : ρ (.tmp 5) = .int .i64 (cW : Int) := H.new 5 2 (by kernel_rfl)
    have e2 : ρ (.tmp 7) = .int .i64 (M : Int) := H.new 7 4 (by kernel_rfl)
    refine gives_call rfl (fun _ _ => by kernel_rfl) (H.func _) (args := #[.int .i64 2, .int .i64 (cW : Int), .int .i64 (M : Int)]) (by simp [H.const, e1, e2]) ?_
    exact (HHD.out W1 (HT.out.below hb1 HT.out.lt)).mono fun e w' ⟨v, h1, h2, h3⟩ => ⟨v, h1, own_base (Nat.le_trans HB0.out.size hb1.size) h2, h3⟩
  · intro ρ W1 hb1 H
    exact gives_field rfl (H.old 1 _ (by kernel_rfl) rfl) (fun W => shape_at2 W _) ⟨rfl, Below.refl _ _⟩
  · intro ρ W1 hb1 H
    exact gives_load rfl (H.new 9 6 (by kernel_rfl)) Tryz.underlying3 rfl ((hb1.cell HLB.out).trans HC2.out) ⟨rfl, Below.refl _ _⟩
  · intro ρ W1 hb1 H
    exact gives_sub rfl (H.new 10 7 (by kernel_rfl)) (H.const _) (by omega) (by omega) ⟨congrArg (Value.int .i64) HN1.out, Below.refl _ _⟩
  · intro ρ W1 hb1 H
    exact gives_shl5 rfl (H.new 11 8 (by kernel_rfl)) (H.const _) HN32.out ⟨rfl, Below.refl _ _⟩
  · intro ρ W1 hb1 H
    exact gives_field rfl (H.old 1 _ (by kernel_rfl) rfl) (fun W => shape_at3 W _) ⟨rfl, Below.refl _ _⟩
  · intro ρ W1 hb1 H
    exact gives_load rfl (H.new 13 10 (by kernel_rfl)) Tryz.underlying3 rfl ((hb1.cell HLB.out).trans HC3.out) ⟨rfl, Below.refl _ _⟩
  · intro ρ W1 hb1 H
    have e0 : ρ (.tmp 14) = .int .i64 (p : Int) := H.new 14 11 (by kernel_rfl)
    refine gives_call rfl (fun _ _ => by kernel_rfl) (H.func _) (args := #[.int .i64 (p : Int)]) (by simp [e0]) ?_
    exact (HCD.out W1 (HT.out.below hb1 HT.out.lt)).mono fun e w' ⟨h1, h2⟩ => ⟨_, h1, rfl, h2 ▸ Below.refl _ _⟩
  · intro ρ W1 hb1 H
    exact gives_orI rfl (H.new 12 9 (by kernel_rfl)) (H.new 15 12 (by kernel_rfl)) HOR0.out ⟨rfl, Below.refl _ _⟩
  · intro ρ W1 hb1 H
    exact gives_conv rfl (H.new 16 13 (by kernel_rfl)) (by kernel_rfl) Tryz.underlying5 HU0.out ⟨rfl, Below.refl _ _⟩
  · intro ρ W1 hb1 H
    exact gives_field rfl (H.old 1 _ (by kernel_rfl) rfl) (fun W => shape_at4 W _) ⟨rfl, Below.refl _ _⟩
  · intro ρ W1 hb1 H
    exact gives_load rfl (H.new 18 15 (by kernel_rfl)) Tryz.underlying3 rfl ((hb1.cell HLB.out).trans HC4.out) ⟨rfl, Below.refl _ _⟩
  · intro ρ W1 hb1 H
    exact gives_sub rfl (H.new 19 16 (by kernel_rfl)) (H.const _) (by omega) (by omega) ⟨congrArg (Value.int .i64) HG1.out, Below.refl _ _⟩
  · intro ρ W1 hb1 H
    exact gives_shl5 rfl (H.new 20 17 (by kernel_rfl)) (H.const _) HG32.out ⟨rfl, Below.refl _ _⟩
  · intro ρ W1 hb1 H
    exact gives_field rfl (H.old 1 _ (by kernel_rfl) rfl) (fun W => shape_at5 W _) ⟨rfl, Below.refl _ _⟩
  · intro ρ W1 hb1 H
    exact gives_load rfl (H.new 22 19 (by kernel_rfl)) Tryz.underlying3 rfl ((hb1.cell HLB.out).trans HC5.out) ⟨rfl, Below.refl _ _⟩
  · intro ρ W1 hb1 H
    exact gives_orI rfl (H.new 21 18 (by kernel_rfl)) (H.new 23 20 (by kernel_rfl)) HOR1.out ⟨rfl, Below.refl _ _⟩
  · intro ρ W1 hb1 H
    exact gives_conv rfl (H.new 24 21 (by kernel_rfl)) (by kernel_rfl) Tryz.underlying5 HU1.out ⟨rfl, Below.refl _ _⟩
  · intro ρ W1 hb1 H
    exact gives_two elemB rfl (H.new 17 14 (by kernel_rfl)) (H.new 25 22 (by kernel_rfl)) rfl rfl ⟨two_bytes HB0l.out HB1l.out W1, (Below.refl _ _).alloc (Nat.le_refl _) _⟩
  · intro vs W1 hb1 hfs
    have f5 : W1.ownsRow w.heap.size 5 1 (vs 5) hd.length (hd.map bv) := hfs 5 (by decide)
    have f23 : IsB ([UInt8.ofNat B0, UInt8.ofNat B1]) (vs 23) W1 := hfs 23 (by decide)
    clear hfs
    simp only [putAll, Nat.zero_add, Nat.reduceAdd, List.drop_succ_cons, List.drop_zero]
    generalize vs 0 = z0
    generalize vs 1 = z1
    generalize vs 2 = z2
    generalize vs 3 = z3
    generalize vs 4 = z4
    generalize vs 5 = z5 at f5 ⊢
    generalize vs 6 = z6
    generalize vs 7 = z7
    generalize vs 8 = z8
    generalize vs 9 = z9
    generalize vs 10 = z10
    generalize vs 11 = z11
    generalize vs 12 = z12
    generalize vs 13 = z13
    generalize vs 14 = z14
    generalize vs 15 = z15
    generalize vs 16 = z16
    generalize vs 17 = z17
    generalize vs 18 = z18
    generalize vs 19 = z19
    generalize vs 20 = z20
    generalize vs 21 = z21
    generalize vs 22 = z22
    generalize vs 23 = z23 at f23 ⊢
    simp only [Act.put, List.setIfInBounds_toArray, List.set_cons_succ, List.set_cons_zero]
    obtain ⟨A5, c5, rfl, hA5, hnc5, hcm5, hl5⟩ := f23
    have HL5 := Lib.hid hl5
    have HO5 := Lib.hid f5
    have HBB := Lib.hid (HB0.out.trans (hb1.mono HB0.out.size))
    have hz5 := HBB.out.size
    clear hl5 f5 hb1 hcm5
    go_wp2_with (at_builtin; refine wpList_join elemB rfl _ _ rfl w.heap.size z5 hd.length (hd.map bv) A5 2 c5 ([UInt8.ofNat B0, UInt8.ofNat B1].map bv) w rfl rfl hA5 (by simp) HL5.out (bv_one _) HO5.out HBB.out hz5 (by have := HHL.out; omega) (by omega) ?_)
    intro v6 w6 ho6 hb6 _ _
    have HO6 := Lib.hid ho6
    clear ho6
    go_wp2
    go_ret
    refine ⟨_, rfl, ?_, hb6⟩
    rw [List.length_append, List.map_append]
    exact HO6.out
end Go.Proofs.YtblpkmmhmdpkjaaGreatDoor

/- Bytes and rows outlast what is written elsewhere. Over any program. -/





namespace Go.Proofs.YtblpkmmhmdpkjaaGreatDoor

open Go.RowKit

theorem block_ne {w : World} {g : Nat} {t : TypeId} {cs : List Value} {ad : Addr} {u : Value} (h : Row w g t cs) (hc : w.cell? ad = some u) (hu : u ∉ cs) : ad.block ≠ g := by
  intro e
  unfold Row at h
  unfold World.cell? at hc
  rw [e, h] at hc
  dsimp only at hc
  split at hc
  · cases hc
  · rw [List.getElem?_toArray] at hc
    exact hu (List.mem_of_getElem? hc)
theorem row_grown {w w' : World} {k g : Nat} {t : TypeId} {l : List Value} (h : Row w k t l) (hg : w.grownBy w' (some g)) (hne : k ≠ g) : Row w' k t l := (hg.block k h.lt (by intro e; injection e with e; exact hne e)).trans h
theorem isB_grown {l : List UInt8} {v : Value} {w w' : World} {g : Nat} {t : TypeId} {cs : List Value} (h : IsB l v w) (hr : Row w g t cs) (hcs : ∀ b : UInt8, bv b ∉ cs) (hg : w.grownBy w' (some g)) : IsB l v w' := by
  obtain ⟨A, c, rfl, hA, hnc, hcm, hl⟩ := h
  refine ⟨A, c, rfl, hA, hnc, hcm, ?_⟩
  rcases hl with h0 | ⟨ad, rfl, hlt, hc⟩
  · exact .inl h0
  · cases l with
    | nil => exact .inl rfl
    | cons x l =>
      have hne := block_ne hr (hc 0 (bv x) rfl) (hcs x)
      rw [add_block] at hne
      refine .inr ⟨ad, rfl, Nat.lt_of_lt_of_le hlt hg.size, fun j u hj => ?_⟩
      have h2 := hc j u hj
      unfold World.cell? at h2 ⊢
      rw [add_block] at h2 ⊢
      rw [hg.block ad.block hlt (by intro e; injection e with e; exact hne e)]
      exact h2
end Go.Proofs.YtblpkmmhmdpkjaaGreatDoor
