/- The statement WidthsRise: for every two numbers and every numbers the law answers true. The table is what the program's text lays. -/
import Derived.Test.YtgngdfgfjghbbaaDoorWMost
import Derived.Test.YtgngdfgfjghbbaaDoorLaw
import Derived.Test.YtgngdfgfjghbbaaDoorTie
import Derived.Test.YtgngdfgfjghbbaaDoorCards
import Derived.SevenTiedAt
import Derived.Stop.Joined
import Derived.Test.YtgngdfgfjghbbaaDoorWRoom
import Derived.Test.YtgngdfgfjghbbaaDoorWShown
namespace Go.Proofs.YtgngdfgfjghbbaaDoor
open Go.RowKit Go.ChangeShapes Go.WideShapes Go.ChangeAt

def RiseRel (l : List Nat) (a i : Value) : Prop := ∃ k : Nat, k ≤ l.length ∧ i = .int .i64 k ∧ a = .int .u64 (wtop (l.take k) : Nat)

set_option maxHeartbeats 4000000 in
set_option maxRecDepth 100000 in
theorem WidthsRise_walk (w : World) (ht : WTab w) (x : Int) (x0 : 0 ≤ x) (x1 : x < 18446744073709551616) (y : Int) (y0 : 0 ≤ y) (y1 : y < 18446744073709551616) (A : Option Addr) (n c : Nat) (l : List Nat) (hA : A = none → n = 0) (hn : l.length = n) (hc : n ≤ c) (hm : c ≤ maxLen) (hl : Lies w A (l.map uv)) (hw : ∀ x ∈ l, x < 2 ^ 64) :
    Calls Tryd.prog 7 #[.int .u64 x, .int .u64 y, .slice A n c] w fun e w' => e = .returned (.bool true) ∧ Below w.heap.size w w' := by
  have HT := Lib.hid ht
  clear ht
  obtain ⟨X, rfl⟩ : ∃ X : Nat, x = X := ⟨x.toNat, by omega⟩
  have HX : Hid (X < 2 ^ 64) := Lib.hid (by omega)
  clear x0 x1
  obtain ⟨Y, rfl⟩ : ∃ Y : Nat, y = Y := ⟨y.toNat, by omega⟩
  have HY : Hid (Y < 2 ^ 64) := Lib.hid (by omega)
  clear y0 y1
  unfold maxLen at hm
  by_cases hxy : Y < X
  · have hsw : (Y : Int) < (X : Int) := by omega
    have hle : Y ≤ X := by omega
    clear hxy
    by_cases hbig : 200 < n
    · obtain ⟨ad, rfl, _, hcell⟩ := hl.cell (k := 0) (by simp; omega)
      clear hcell
      have hAl : some ad = none → 200 = 0 := by intro h; cases h
      have hnl : (l.take 200).length = 200 := by rw [List.length_take]; omega
      have hcl : 200 ≤ c := by omega
      have hll : Lies w (some ad) ((l.take 200).map uv) := by rw [List.map_take]; exact hl.take 200
      have hwl : ∀ x ∈ l.take 200, x < 2 ^ 64 := fun x hx => hw x (List.mem_of_mem_take hx)
      clear hA hl hw hn
      generalize l.take 200 = l' at *
      have CB1 : Hid (CallsT 15 (.int .u64 (Y : Int)) (wbits Y : Int)) := Lib.hid (fun w _ => bits_any Y w HY.out)
      have CB2 : Hid (CallsT 15 (.int .u64 (X : Int)) (wbits X : Int)) := Lib.hid (fun w _ => bits_any X w HX.out)
      have CL1 : Hid (CallsT 13 (.int .i64 (wbits Y : Int)) (wclosest (wbits Y : Int))) := Lib.hid (fun w ht => closest_any _ w ht)
      have CL2 : Hid (CallsT 13 (.int .i64 (wbits X : Int)) (wclosest (wbits X : Int))) := Lib.hid (fun w ht => closest_any _ w ht)
      have q1 : (wbits Y : Int) ≤ (wbits X : Int) := by have := wbits_mono HX.out (show Y ≤ X by omega); omega
      have q2 : wclosest (wbits Y : Int) ≤ wclosest (wbits X : Int) := wmono ⟨wbits Y, by have := wbits_64 HY.out; omega⟩ ⟨wbits X, by have := wbits_64 HX.out; omega⟩ (by have := wbits_mono HX.out (show Y ≤ X by omega); simpa using this)
      have CB3 : Hid (CallsT 15 (.int .u64 (wtop (l') : Int)) (wmost (l') : Int)) := Lib.hid (fun w _ => by
        have h := bits_any (wtop (l')) w (wtop_lt hwl)
        rw [wtop_bits hwl] at h
        exact h)
      have HM := Lib.hid (most_any (some ad) 200 c (l') w hAl hnl hcl (by omega) hll hwl)
      have HL := Lib.hid hll
      have HN := Lib.hid hnl
      have HW := Lib.hid hwl
      clear hAl hnl hll hwl
      generalize hV1 : wclosest (wbits Y : Int) = V1 at *
      generalize hV2 : wclosest (wbits X : Int) = V2 at *
      generalize hN1 : (wbits Y : Int) = N1 at *
      generalize hN2 : (wbits X : Int) = N2 at *
      generalize hM : (wmost (l') : Int) = M at *
      clear hV1 hV2 hN1 hN2 hM
      go_enter Tryd.func7, Tryd.ntmps7
      go_wp2_with (go_at_call 8; refine (wshown_any _ HT.out).mono ?_; rintro e w' ⟨rfl, rfl⟩)
      go_loop [8, 9] (RiseRel (l')) (fun _ i => 200 - (intOf i).toNat)
      case atStart => exact ⟨0, by omega, rfl, rfl⟩
      case round =>
        obtain ⟨k, hk, rfl, rfl⟩ := hrel
        have hk' : k ≤ 200 := by have := HN.out; omega
        by_cases hlt : k < 200
        · have hkl : k < (l').length := by have := HN.out; omega
          obtain ⟨ad', had, _, hcell⟩ := HL.out.cell (k := k) (by simpa using hkl)
          obtain rfl := Option.some.inj had
          obtain ⟨z, hz⟩ : ∃ z : Nat, z = (l')[k] := ⟨_, rfl⟩
          have hcz : w.cell? (ad.add k) = some (.int .u64 (z : Int)) := by rw [hcell, List.getElem_map, hz]; rfl
          have hs : wtop ((l').take (k + 1)) = max (wtop ((l').take k)) z := by rw [List.take_succ_eq_append_getElem hkl, wtop_snoc, hz]
          have HS := Lib.hid hs
          clear hs hz hcell
          generalize wtop ((l').take k) = t at *
          go_wp2
          go_round
          case rel => exact ⟨k + 1, by omega, by go_num, by rw [HS.out]; go_num⟩
          case measure => simp [intOf]; omega
        · have hle : (l').length ≤ k := by have := HN.out; omega
          rw [List.take_of_length_le hle]
          clear hle
          generalize hT : (wtop (l') : Int) = t at *
          clear hT
          go_wp2_with (first | (go_at_call 15; (with_reducible refine (CB1.out.on HT.out).mono ?_); rintro e w' ⟨rfl, rfl⟩) | (go_at_call 15; (with_reducible refine (CB2.out.on HT.out).mono ?_); rintro e w' ⟨rfl, rfl⟩) | (go_at_call 15; (with_reducible refine (CB3.out.on HT.out).mono ?_); rintro e w' ⟨rfl, rfl⟩) | (go_at_call 13; (with_reducible refine (CL1.out.on HT.out).mono ?_); rintro e w' ⟨rfl, rfl⟩) | (go_at_call 13; (with_reducible refine (CL2.out.on HT.out).mono ?_); rintro e w' ⟨rfl, rfl⟩) | (go_at_call 17; (with_reducible refine (HM.out).mono ?_); rintro e w' ⟨rfl, rfl⟩))
          go_ret
          exact ⟨rfl, Below.refl _ _⟩
    · have hAl := hA
      have hnl := hn
      have hcl := hc
      have hll := hl
      have hwl := hw
      clear hA hl hw hn
      have CB1 : Hid (CallsT 15 (.int .u64 (Y : Int)) (wbits Y : Int)) := Lib.hid (fun w _ => bits_any Y w HY.out)
      have CB2 : Hid (CallsT 15 (.int .u64 (X : Int)) (wbits X : Int)) := Lib.hid (fun w _ => bits_any X w HX.out)
      have CL1 : Hid (CallsT 13 (.int .i64 (wbits Y : Int)) (wclosest (wbits Y : Int))) := Lib.hid (fun w ht => closest_any _ w ht)
      have CL2 : Hid (CallsT 13 (.int .i64 (wbits X : Int)) (wclosest (wbits X : Int))) := Lib.hid (fun w ht => closest_any _ w ht)
      have q1 : (wbits Y : Int) ≤ (wbits X : Int) := by have := wbits_mono HX.out (show Y ≤ X by omega); omega
      have q2 : wclosest (wbits Y : Int) ≤ wclosest (wbits X : Int) := wmono ⟨wbits Y, by have := wbits_64 HY.out; omega⟩ ⟨wbits X, by have := wbits_64 HX.out; omega⟩ (by have := wbits_mono HX.out (show Y ≤ X by omega); simpa using this)
      have CB3 : Hid (CallsT 15 (.int .u64 (wtop (l) : Int)) (wmost (l) : Int)) := Lib.hid (fun w _ => by
        have h := bits_any (wtop (l)) w (wtop_lt hwl)
        rw [wtop_bits hwl] at h
        exact h)
      have HM := Lib.hid (most_any (A) n c (l) w hAl hnl hcl (by omega) hll hwl)
      have HL := Lib.hid hll
      have HN := Lib.hid hnl
      have HW := Lib.hid hwl
      clear hAl hnl hll hwl
      generalize hV1 : wclosest (wbits Y : Int) = V1 at *
      generalize hV2 : wclosest (wbits X : Int) = V2 at *
      generalize hN1 : (wbits Y : Int) = N1 at *
      generalize hN2 : (wbits X : Int) = N2 at *
      generalize hM : (wmost (l) : Int) = M at *
      clear hV1 hV2 hN1 hN2 hM
      go_enter Tryd.func7, Tryd.ntmps7
      go_wp2_with (go_at_call 8; refine (wshown_any _ HT.out).mono ?_; rintro e w' ⟨rfl, rfl⟩)
      go_loop [8, 9] (RiseRel (l)) (fun _ i => n - (intOf i).toNat)
      case atStart => exact ⟨0, by omega, rfl, rfl⟩
      case round =>
        obtain ⟨k, hk, rfl, rfl⟩ := hrel
        have hk' : k ≤ n := by have := HN.out; omega
        by_cases hlt : k < n
        · have hkl : k < (l).length := by have := HN.out; omega
          obtain ⟨ad', had, _, hcell⟩ := HL.out.cell (k := k) (by simpa using hkl)
          subst had
          obtain ⟨z, hz⟩ : ∃ z : Nat, z = (l)[k] := ⟨_, rfl⟩
          have hcz : w.cell? (ad'.add k) = some (.int .u64 (z : Int)) := by rw [hcell, List.getElem_map, hz]; rfl
          have hs : wtop ((l).take (k + 1)) = max (wtop ((l).take k)) z := by rw [List.take_succ_eq_append_getElem hkl, wtop_snoc, hz]
          have HS := Lib.hid hs
          clear hs hz hcell
          generalize wtop ((l).take k) = t at *
          go_wp2
          go_round
          case rel => exact ⟨k + 1, by omega, by go_num, by rw [HS.out]; go_num⟩
          case measure => simp [intOf]; omega
        · have hle : (l).length ≤ k := by have := HN.out; omega
          rw [List.take_of_length_le hle]
          clear hle
          generalize hT : (wtop (l) : Int) = t at *
          clear hT
          go_wp2_with (first | (go_at_call 15; (with_reducible refine (CB1.out.on HT.out).mono ?_); rintro e w' ⟨rfl, rfl⟩) | (go_at_call 15; (with_reducible refine (CB2.out.on HT.out).mono ?_); rintro e w' ⟨rfl, rfl⟩) | (go_at_call 15; (with_reducible refine (CB3.out.on HT.out).mono ?_); rintro e w' ⟨rfl, rfl⟩) | (go_at_call 13; (with_reducible refine (CL1.out.on HT.out).mono ?_); rintro e w' ⟨rfl, rfl⟩) | (go_at_call 13; (with_reducible refine (CL2.out.on HT.out).mono ?_); rintro e w' ⟨rfl, rfl⟩) | (go_at_call 17; (with_reducible refine (HM.out).mono ?_); rintro e w' ⟨rfl, rfl⟩))
          go_ret
          exact ⟨rfl, Below.refl _ _⟩
  · have hsw : decide (Y < X) = false := by simpa using hxy
    have hle : X ≤ Y := by omega
    clear hxy
    by_cases hbig : 200 < n
    · obtain ⟨ad, rfl, _, hcell⟩ := hl.cell (k := 0) (by simp; omega)
      clear hcell
      have hAl : some ad = none → 200 = 0 := by intro h; cases h
      have hnl : (l.take 200).length = 200 := by rw [List.length_take]; omega
      have hcl : 200 ≤ c := by omega
      have hll : Lies w (some ad) ((l.take 200).map uv) := by rw [List.map_take]; exact hl.take 200
      have hwl : ∀ x ∈ l.take 200, x < 2 ^ 64 := fun x hx => hw x (List.mem_of_mem_take hx)
      clear hA hl hw hn
      generalize l.take 200 = l' at *
      have CB1 : Hid (CallsT 15 (.int .u64 (X : Int)) (wbits X : Int)) := Lib.hid (fun w _ => bits_any X w HX.out)
      have CB2 : Hid (CallsT 15 (.int .u64 (Y : Int)) (wbits Y : Int)) := Lib.hid (fun w _ => bits_any Y w HY.out)
      have CL1 : Hid (CallsT 13 (.int .i64 (wbits X : Int)) (wclosest (wbits X : Int))) := Lib.hid (fun w ht => closest_any _ w ht)
      have CL2 : Hid (CallsT 13 (.int .i64 (wbits Y : Int)) (wclosest (wbits Y : Int))) := Lib.hid (fun w ht => closest_any _ w ht)
      have q1 : (wbits X : Int) ≤ (wbits Y : Int) := by have := wbits_mono HY.out (show X ≤ Y by omega); omega
      have q2 : wclosest (wbits X : Int) ≤ wclosest (wbits Y : Int) := wmono ⟨wbits X, by have := wbits_64 HX.out; omega⟩ ⟨wbits Y, by have := wbits_64 HY.out; omega⟩ (by have := wbits_mono HY.out (show X ≤ Y by omega); simpa using this)
      have CB3 : Hid (CallsT 15 (.int .u64 (wtop (l') : Int)) (wmost (l') : Int)) := Lib.hid (fun w _ => by
        have h := bits_any (wtop (l')) w (wtop_lt hwl)
        rw [wtop_bits hwl] at h
        exact h)
      have HM := Lib.hid (most_any (some ad) 200 c (l') w hAl hnl hcl (by omega) hll hwl)
      have HL := Lib.hid hll
      have HN := Lib.hid hnl
      have HW := Lib.hid hwl
      clear hAl hnl hll hwl
      generalize hV1 : wclosest (wbits X : Int) = V1 at *
      generalize hV2 : wclosest (wbits Y : Int) = V2 at *
      generalize hN1 : (wbits X : Int) = N1 at *
      generalize hN2 : (wbits Y : Int) = N2 at *
      generalize hM : (wmost (l') : Int) = M at *
      clear hV1 hV2 hN1 hN2 hM
      go_enter Tryd.func7, Tryd.ntmps7
      go_wp2_with (go_at_call 8; refine (wshown_any _ HT.out).mono ?_; rintro e w' ⟨rfl, rfl⟩)
      go_loop [8, 9] (RiseRel (l')) (fun _ i => 200 - (intOf i).toNat)
      case atStart => exact ⟨0, by omega, rfl, rfl⟩
      case round =>
        obtain ⟨k, hk, rfl, rfl⟩ := hrel
        have hk' : k ≤ 200 := by have := HN.out; omega
        by_cases hlt : k < 200
        · have hkl : k < (l').length := by have := HN.out; omega
          obtain ⟨ad', had, _, hcell⟩ := HL.out.cell (k := k) (by simpa using hkl)
          obtain rfl := Option.some.inj had
          obtain ⟨z, hz⟩ : ∃ z : Nat, z = (l')[k] := ⟨_, rfl⟩
          have hcz : w.cell? (ad.add k) = some (.int .u64 (z : Int)) := by rw [hcell, List.getElem_map, hz]; rfl
          have hs : wtop ((l').take (k + 1)) = max (wtop ((l').take k)) z := by rw [List.take_succ_eq_append_getElem hkl, wtop_snoc, hz]
          have HS := Lib.hid hs
          clear hs hz hcell
          generalize wtop ((l').take k) = t at *
          go_wp2
          go_round
          case rel => exact ⟨k + 1, by omega, by go_num, by rw [HS.out]; go_num⟩
          case measure => simp [intOf]; omega
        · have hle : (l').length ≤ k := by have := HN.out; omega
          rw [List.take_of_length_le hle]
          clear hle
          generalize hT : (wtop (l') : Int) = t at *
          clear hT
          go_wp2_with (first | (go_at_call 15; (with_reducible refine (CB1.out.on HT.out).mono ?_); rintro e w' ⟨rfl, rfl⟩) | (go_at_call 15; (with_reducible refine (CB2.out.on HT.out).mono ?_); rintro e w' ⟨rfl, rfl⟩) | (go_at_call 15; (with_reducible refine (CB3.out.on HT.out).mono ?_); rintro e w' ⟨rfl, rfl⟩) | (go_at_call 13; (with_reducible refine (CL1.out.on HT.out).mono ?_); rintro e w' ⟨rfl, rfl⟩) | (go_at_call 13; (with_reducible refine (CL2.out.on HT.out).mono ?_); rintro e w' ⟨rfl, rfl⟩) | (go_at_call 17; (with_reducible refine (HM.out).mono ?_); rintro e w' ⟨rfl, rfl⟩))
          go_ret
          exact ⟨rfl, Below.refl _ _⟩
    · have hAl := hA
      have hnl := hn
      have hcl := hc
      have hll := hl
      have hwl := hw
      clear hA hl hw hn
      have CB1 : Hid (CallsT 15 (.int .u64 (X : Int)) (wbits X : Int)) := Lib.hid (fun w _ => bits_any X w HX.out)
      have CB2 : Hid (CallsT 15 (.int .u64 (Y : Int)) (wbits Y : Int)) := Lib.hid (fun w _ => bits_any Y w HY.out)
      have CL1 : Hid (CallsT 13 (.int .i64 (wbits X : Int)) (wclosest (wbits X : Int))) := Lib.hid (fun w ht => closest_any _ w ht)
      have CL2 : Hid (CallsT 13 (.int .i64 (wbits Y : Int)) (wclosest (wbits Y : Int))) := Lib.hid (fun w ht => closest_any _ w ht)
      have q1 : (wbits X : Int) ≤ (wbits Y : Int) := by have := wbits_mono HY.out (show X ≤ Y by omega); omega
      have q2 : wclosest (wbits X : Int) ≤ wclosest (wbits Y : Int) := wmono ⟨wbits X, by have := wbits_64 HX.out; omega⟩ ⟨wbits Y, by have := wbits_64 HY.out; omega⟩ (by have := wbits_mono HY.out (show X ≤ Y by omega); simpa using this)
      have CB3 : Hid (CallsT 15 (.int .u64 (wtop (l) : Int)) (wmost (l) : Int)) := Lib.hid (fun w _ => by
        have h := bits_any (wtop (l)) w (wtop_lt hwl)
        rw [wtop_bits hwl] at h
        exact h)
      have HM := Lib.hid (most_any (A) n c (l) w hAl hnl hcl (by omega) hll hwl)
      have HL := Lib.hid hll
      have HN := Lib.hid hnl
      have HW := Lib.hid hwl
      clear hAl hnl hll hwl
      generalize hV1 : wclosest (wbits X : Int) = V1 at *
      generalize hV2 : wclosest (wbits Y : Int) = V2 at *
      generalize hN1 : (wbits X : Int) = N1 at *
      generalize hN2 : (wbits Y : Int) = N2 at *
      generalize hM : (wmost (l) : Int) = M at *
      clear hV1 hV2 hN1 hN2 hM
      go_enter Tryd.func7, Tryd.ntmps7
      go_wp2_with (go_at_call 8; refine (wshown_any _ HT.out).mono ?_; rintro e w' ⟨rfl, rfl⟩)
      go_loop [8, 9] (RiseRel (l)) (fun _ i => n - (intOf i).toNat)
      case atStart => exact ⟨0, by omega, rfl, rfl⟩
      case round =>
        obtain ⟨k, hk, rfl, rfl⟩ := hrel
        have hk' : k ≤ n := by have := HN.out; omega
        by_cases hlt : k < n
        · have hkl : k < (l).length := by have := HN.out; omega
          obtain ⟨ad', had, _, hcell⟩ := HL.out.cell (k := k) (by simpa using hkl)
          subst had
          obtain ⟨z, hz⟩ : ∃ z : Nat, z = (l)[k] := ⟨_, rfl⟩
          have hcz : w.cell? (ad'.add k) = some (.int .u64 (z : Int)) := by rw [hcell, List.getElem_map, hz]; rfl
          have hs : wtop ((l).take (k + 1)) = max (wtop ((l).take k)) z := by rw [List.take_succ_eq_append_getElem hkl, wtop_snoc, hz]
          have HS := Lib.hid hs
          clear hs hz hcell
          generalize wtop ((l).take k) = t at *
          go_wp2
          go_round
          case rel => exact ⟨k + 1, by omega, by go_num, by rw [HS.out]; go_num⟩
          case measure => simp [intOf]; omega
        · have hle : (l).length ≤ k := by have := HN.out; omega
          rw [List.take_of_length_le hle]
          clear hle
          generalize hT : (wtop (l) : Int) = t at *
          clear hT
          go_wp2_with (first | (go_at_call 15; (with_reducible refine (CB1.out.on HT.out).mono ?_); rintro e w' ⟨rfl, rfl⟩) | (go_at_call 15; (with_reducible refine (CB2.out.on HT.out).mono ?_); rintro e w' ⟨rfl, rfl⟩) | (go_at_call 15; (with_reducible refine (CB3.out.on HT.out).mono ?_); rintro e w' ⟨rfl, rfl⟩) | (go_at_call 13; (with_reducible refine (CL1.out.on HT.out).mono ?_); rintro e w' ⟨rfl, rfl⟩) | (go_at_call 13; (with_reducible refine (CL2.out.on HT.out).mono ?_); rintro e w' ⟨rfl, rfl⟩) | (go_at_call 17; (with_reducible refine (HM.out).mono ?_); rintro e w' ⟨rfl, rfl⟩))
          go_ret
          exact ⟨rfl, Below.refl _ _⟩

set_option maxRecDepth 100000 in
theorem WidthsRise_lifted (os : Os) (started : os.Started) (H : Type) (enc : TypeId × Value → H) :
    ReturnsInHanded {} Tryd.checked os 7 .any (fun w args => (Rows.widthsRiseSpec.pre enc Tryd.prog Tryd.f7 [] false w args ∧ laidMetH Tryd.prog [("pilaster/widths.table", Rows.laid_pilaster_widths_table)] w) ∧ sizedMet enc Tryd.prog Tryd.f7 (OpenSpec.ofChange Rows.widthsRiseSpec) false w args) (Rows.widthsRiseSpec.post enc Tryd.prog Tryd.f7 false true false false) := by
  refine returnsInHanded_of_change_and (C := Tryd.checked) (X := fun w _ => laidMetH Tryd.prog [("pilaster/widths.table", Rows.laid_pilaster_widths_table)] w) (fun _ _ _ hh h => h.of_heap hh) own started (by kernel_rfl) Tryd.func7
    (ChangeSpec.witness_shaped (enc := enc) (C := Tryd.checked) (os := os) (X := fun w _ => laidMetH Tryd.prog [("pilaster/widths.table", Rows.laid_pilaster_widths_table)] w) false (World.doorLaid Tryd.prog 400 os) #[.int .u64 0, .int .u64 0, .slice none 0 0] 8 rfl (World.shaped_of_RefB (by kernel_rfl) (by kernel_rfl)) (by kernel_rfl) (by kernel_rfl) (by kernel_rfl) (door_met os _)) ?_
  intro W base args ds gs before hval0 hW _ _ hL _
  have hT := tab_of hL
  clear hL
  have hval : ∀ (j : Nat) t v, Tryd.f7.params[j]? = some t → args[j]? = some v → Value.okWide Tryd.prog W .any base t v := hval0
  have hW' := hW
  obtain ⟨p, q, hT0, hV, rfl, hfz, hnd⟩ := hW
  have hA : DataW.TrodAll enc Tryd.prog W 0 (fun _ => true) true Tryd.f7.params.toList args.toList ds p := hT0
  rw [Tryd.params7] at hA hval
  obtain ⟨v0, vs0, d0, ds0, p0, q0, hargs, rfl, rfl, h0, r0⟩ := trodAll_cons hA
  obtain ⟨v1, vs1, d1, ds1, p1, q1, rfl, rfl, rfl, h1, r1⟩ := trodAll_cons r0
  obtain ⟨v2, vs2, d2, ds2, p2, q2, rfl, rfl, rfl, h2, r2⟩ := trodAll_cons r1
  obtain ⟨rfl, rfl, rfl⟩ := trodAll_nil r2
  obtain rfl : args = #[v0, v1, v2] := by cases args; simp_all
  obtain ⟨rfl, rfl⟩ := trodVars_none hV
  obtain ⟨a0, rfl, rfl, rfl, w0⟩ := open_int Tryd.underlying25 (hval 0 25 v0 rfl rfl) h0
  obtain ⟨a1, rfl, rfl, rfl, w1⟩ := open_int Tryd.underlying25 (hval 1 25 v1 rfl rfl) h1
  have hlt2 : ∀ x ∈ p2, x.block < W.heap.size := fun x hx => hW'.lt x (by simp [hx])
  obtain ⟨A2, n2, c2, l2, rfl, hA2, hn2, hc2, hm2, hl2, hw2⟩ := open_u64s Tryd.underlying26 Tryd.underlying25 (by kernel_rfl) (hval 2 26 v2 rfl rfl) h2 hlt2
  clear hT0 hval0
  refine (WidthsRise_walk W hT a0 (wf_u64 w0).1 (wf_u64 w0).2 a1 (wf_u64 w1).1 (wf_u64 w1).2 A2 n2 c2 l2 hA2 hn2 hc2 hm2 hl2 hw2).mono fun e W' ⟨he, hb⟩ => ?_
  subst he
  exact ⟨_, rfl, law_post laidOut Tryd.underlying4 (by kernel_rfl) (by kernel_rfl) rfl hW' rfl hb⟩

theorem WidthsRise_over : Rows.widthsRiseRow.holds Tryd.pinned (OpenSpec.ofChange Rows.widthsRiseSpec) :=
  OpenClaim.holds_of_wide 7 Tryd.f7 rfl rfl rfl rfl rfl rfl rfl ⟨rfl, rfl, rfl, rfl, rfl⟩ rfl rfl rfl rfl rfl (by kernel_rfl) Tryd.func7 (by kernel_rfl)
    (of_decide_eq_true (by kernel_rfl)) (by unfold Func.isWrapper; first | (rw [if_pos (by decide +kernel)]; kernel_rfl) | (rw [if_neg (by decide +kernel)]; exact ⟨rfl, rfl⟩))
    (fun os started H enc _ => WidthsRise_lifted os started H enc)

theorem WidthsRise_holds : Rows.WidthsRiseCardSaid :=
  Claim7.holds_tied_plain_at .later [] _ true _ _ WidthsRise_over (fun _ h => by cases h) (by kernel_rfl) (fun _ h => by cases h) widthsRise_row_tie rfl ⟨rfl, rfl⟩ (by kernel_rfl) rfl
    (fun f fn hf hfn => by
      obtain rfl : f = 7 := Option.some.inj ((show Tryd.prog.funcNamed "pilaster/pilasterlaw02.WidthsRise" = some 7 by kernel_rfl).symm.trans hf) |>.symm
      obtain rfl : fn = Tryd.f7 := (Option.some.inj (Tryd.func7.symm.trans hfn)).symm
      exact ⟨by kernel_rfl, fun j t ht => stand_ins (by kernel_rfl) ht⟩)
    (by kernel_rfl)
#print axioms WidthsRise_holds
end Go.Proofs.YtgngdfgfjghbbaaDoor
