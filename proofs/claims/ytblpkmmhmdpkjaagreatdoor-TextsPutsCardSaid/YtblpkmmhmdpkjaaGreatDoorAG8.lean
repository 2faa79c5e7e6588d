/- Texts that the claims of this seat share, part 8: URun UTake ULoc UKinds URep UOwn UBest UTk UIs KPlain WOpen ISign IPos. -/
import Derived.Deep.RegionLaw
import Derived.Sort.Walk0
import Derived.Laws.Strings
import Derived.WalkKit
import Derived.Lib.SmallJoins
import Derived.Deep.Slices
import Derived.Test.YtblpkmmhmdpkjaaGreatDoorAG7
/- Contracts of layer 11's reference: Run and Put. -/





namespace Go.Proofs.YtblpkmmhmdpkjaaGreatDoor

open Go.RowKit

theorem fold_snoc11 (L : List (List UInt8 × Int)) (f : Nat → List UInt8 × Int) (k : Nat) : (L ++ (List.range (k + 1)).map f).foldl ushorter [] = ushorter ((L ++ (List.range k).map f).foldl ushorter []) (f k) := by
  rw [List.range_succ, List.map_append, ← List.append_assoc, List.foldl_append]
  rfl
def URunRel (L : List (List UInt8 × Int)) (f : Nat → List UInt8 × Int) (w : World) (v i : Value) (wr : World) : Prop :=
  ∃ k : Nat, k ≤ 31 ∧ i = .int .i64 (k : Int) ∧ IsB ((L ++ (List.range k).map f).foldl ushorter []) v wr ∧ Below w.heap.size w wr
set_option maxHeartbeats 4000000 in
set_option maxRecDepth 100000 in
theorem rrun11_any (l : List Int) (v : Value) (s : Bool) (w : World) (hv : IsV iv l v w) (hl : ∀ x ∈ l, inInt x) (hb : l.length ≤ 1000000) :
    Calls Tryz.prog 38 #[v, .bool s] w (RetE w (urunE l s)) := by
  have HP := Lib.hid (rplain8_any l v s w hv hl hb)
  have HV := Lib.hid hv
  have HI := Lib.hid hl
  have HL6 := Lib.hid hb
  obtain ⟨A, n, c, rfl⟩ := hv.shape
  have HN := Lib.hid hv.parts.1
  have hn6 : n ≤ 1000000 := by have := HN.out; omega
  clear hv hl hb
  by_cases hp : dplain l s = none
  · have hE := Lib.hid (urunE_no (.inl hp))
    rw [show dplainE l s = ([], 1) by unfold dplainE; rw [hp]] at HP
    clear hp
    go_enter Tryz.func38, Tryz.ntmps38
    go_wp2_with fail
    refine HP.out.mono ?_
    rintro e w1 ⟨u, rfl, hu, hb1⟩
    have HB := Lib.hid hb1
    clear hu hb1
    go_wp2
    go_ret2
    rw [hE.out]
    exact RetE.nil _ HB.out
  · obtain ⟨us, hus⟩ : ∃ us, dplainE l s = (us, 0) := by
      cases h : dplain l s with
      | none => exact absurd h hp
      | some us => exact ⟨us, by unfold dplainE; rw [h]⟩
    rw [hus] at HP
    have HPN := Lib.hid hp
    clear hp hus
    by_cases h1 : n < 1
    · have hE := Lib.hid (urunE_no (l := l) (s := s) (.inr (.inl (by rw [HN.out]; exact h1))))
      have d1 : decide ((n : Int) < 1) = true := decide_eq_true (by omega)
      go_enter Tryz.func38, Tryz.ntmps38
      go_wp2_with fail
      refine HP.out.mono ?_
      rintro e w1 ⟨u, rfl, hu, hb1⟩
      have HB := Lib.hid hb1
      clear hu hb1
      go_wp2
      go_ret2
      rw [hE.out]
      exact RetE.nil _ HB.out
    · have d1 : decide ((n : Int) < 1) = false := decide_eq_false (by omega)
      by_cases h5 : 512 < n
      · have hE := Lib.hid (urunE_no (l := l) (s := s) (.inr (.inr (by rw [HN.out]; exact h5))))
        have d2 : decide ((512 : Int) < (n : Int)) = true := decide_eq_true (by omega)
        go_enter Tryz.func38, Tryz.ntmps38
        go_wp2_with fail
        refine HP.out.mono ?_
        rintro e w1 ⟨u, rfl, hu, hb1⟩
        have HB := Lib.hid hb1
        clear hu hb1
        go_wp2
        go_ret2
        rw [hE.out]
        exact RetE.nil _ HB.out
      · have d2 : decide ((512 : Int) < (n : Int)) = false := decide_eq_false (by omega)
        have HE : Hid (urunE l s = ((ucands0 l s ++ (List.range 31).map fun c : Nat => pputE l (wof (c : Int)) s).foldl ushorter [], 0)) := Lib.hid (urunE_in HPN.out (by rw [HN.out]; omega) (by rw [HN.out]; omega))
        obtain ⟨u, hu⟩ : ∃ u, u = usame l := ⟨_, rfl⟩
        have HU := Lib.hid hu
        clear hu
        go_enter Tryz.func38, Tryz.ntmps38
        go_wp2_with fail
        refine HP.out.mono ?_
        rintro e w1 ⟨u1, rfl, _, hb1⟩
        have hbA : Below w1.heap.size w1 (w1.alloc (.cells #[] 5)) := (Below.refl _ _).alloc (Nat.le_refl _) _
        have HB := Lib.hid (below_then hb1 hbA)
        have HV0 := HV
        have HV := Lib.hid ((HV.out.below hb1).below hbA)
        have HACC : Hid (IsB [] (.slice (some ⟨w1.heap.size, 0, none⟩) 0 0) (w1.alloc (.cells #[] 5))) := Lib.hid (isB_own (own_made w1 5))
        clear hb1 hbA
        go_wp2_with fail
        refine (rsame11_any l _ _ HV.out HL6.out).mono ?_
        rw [← HU.out]
        rintro e w2 ⟨rfl, hb2⟩
        have HV := Lib.hid (HV.out.below hb2)
        have HACC := Lib.hid (IsB.below HACC.out hb2)
        have HB := Lib.hid (below_then HB.out hb2)
        clear hb2
        by_cases hun : u = n
        · have d3 : ((u : Int) == (n : Int)) = true := by rw [hun]; simp
          have hkl : 0 < l.length := by rw [HN.out]; omega
          have hn0 : (0 : Int) < (n : Int) := by omega
          obtain ⟨ad, rfl, had, hcell⟩ := HV.out.at hkl
          obtain ⟨x0, hx0⟩ : ∃ x, x = l[0] := ⟨_, rfl⟩
          have hc0 : w2.cell? ad = some (.int .i64 x0) := by
            have h1 : ad.add 0 = ad := by unfold Addr.add; split <;> simp_all
            rw [← h1, hcell, hx0]; rfl
          have HX := Lib.hid (show inInt x0 by rw [hx0]; exact HI.out _ (List.getElem_mem hkl))
          have HC0 : Hid ((ucands0 l s ++ (List.range 0).map fun c : Nat => pputE l (wof (c : Int)) s).foldl ushorter [] = ushorter (ushorter (ushorter [] (eput x0 (n : Int) s)) (dputE l s)) (gputE l s)) := Lib.hid (by
            have h2 : l.headD 0 = x0 := by rw [hx0]; cases l with | nil => simp at hkl | cons y t => rfl
            unfold ucands0
            rw [if_pos (by rw [← HU.out, HN.out]; exact hun), h2, HN.out]
            rfl)
          clear hcell hx0 hkl had
          go_wp2_with fail
          refine (rput7_any x0 (n : Int) s _ HX.out.1 HX.out.2).mono ?_
          rintro e wb3 ⟨b3, rfl, hbb3, hbw3⟩
          have HV := Lib.hid (HV.out.below hbw3)
          have HACC := Lib.hid (IsB.below HACC.out hbw3)
          have HB := Lib.hid (below_then HB.out hbw3)
          have HBB := Lib.hid hbb3
          clear hbb3 hbw3
          go_wp2_with fail
          refine (rshorter_any _ _ _ _ _ _ HACC.out HBB.out).mono ?_
          rintro e w' ⟨⟨va3, rfl, hva3⟩, rfl⟩
          have HACC : Hid (IsB (ushorter ([]) (eput x0 (n : Int) s)) va3 wb3) := Lib.hid hva3
          clear hva3 HBB
          go_wp2_with fail
          refine (rput8_any l _ s _ HV.out HI.out HL6.out).mono ?_
          rintro e wb4 ⟨b4, rfl, hbb4, hbw4⟩
          have HV := Lib.hid (HV.out.below hbw4)
          have HACC := Lib.hid (IsB.below HACC.out hbw4)
          have HB := Lib.hid (below_then HB.out hbw4)
          have HBB := Lib.hid hbb4
          clear hbb4 hbw4
          go_wp2_with fail
          refine (rshorter_any _ _ _ _ _ _ HACC.out HBB.out).mono ?_
          rintro e w' ⟨⟨va4, rfl, hva4⟩, rfl⟩
          have HACC : Hid (IsB (ushorter (ushorter [] (eput x0 (n : Int) s)) (dputE l s)) va4 wb4) := Lib.hid hva4
          clear hva4 HBB
          go_wp2_with fail
          refine (rput9_any l _ s _ HV.out HI.out HL6.out).mono ?_
          rintro e wb5 ⟨b5, rfl, hbb5, hbw5⟩
          have HV := Lib.hid (HV.out.below hbw5)
          have HACC := Lib.hid (IsB.below HACC.out hbw5)
          have HB := Lib.hid (below_then HB.out hbw5)
          have HBB := Lib.hid hbb5
          clear hbb5 hbw5
          go_wp2_with fail
          refine (rshorter_any _ _ _ _ _ _ HACC.out HBB.out).mono ?_
          rintro e w' ⟨⟨va5, rfl, hva5⟩, rfl⟩
          have HACC : Hid (IsB (ushorter (ushorter (ushorter [] (eput x0 (n : Int) s)) (dputE l s)) (gputE l s)) va5 wb5) := Lib.hid hva5
          clear hva5 HBB
          have h0st : URunRel (ucands0 l s) (fun c : Nat => pputE l (wof (c : Int)) s) w va5 (.int .i64 0) wb5 := ⟨0, by omega, rfl, by rw [HC0.out]; exact HACC.out, HB.out⟩
          have HST := Lib.hid h0st
          clear h0st HACC
          go_wp2
          go_loopw [8, 12] (URunRel (ucands0 l s) (fun c : Nat => pputE l (wof (c : Int)) s) w) (fun _ i _ => 31 - (intOf i).toNat)
          case atStart => exact HST.out
          case round =>
            obtain ⟨k, hk, rfl, hacc, hbw⟩ := hrel
            have HSTT := HST
            clear HST
            have HACC := Lib.hid hacc
            have HB := Lib.hid hbw
            have HV := Lib.hid (HV0.out.below hbw)
            clear hacc hbw
            by_cases hlt : k < 31
            · have hlti : (k : Int) < 31 := by omega
              obtain ⟨W, hW⟩ := wof_nat k
              have HOF := Lib.hid (fun X => rof_any (k : Int) X (by omega) (by omega))
              rw [hW] at HOF
              have HFS := Lib.hid (fold_snoc11 (ucands0 l s) (fun c : Nat => pputE l (wof (c : Int)) s) k)
              have HWK := Lib.hid hW
              clear hW
              go_wp2_with (go_at_call 56; refine (HOF.out _).mono ?_; rintro e w' ⟨rfl, rfl⟩)
              refine (rput10_any l _ (W : Int) s _ HV.out HI.out HL6.out).mono ?_
              rintro e wb ⟨b, rfl, hbb, hbw⟩
              have HACC := Lib.hid (IsB.below HACC.out hbw)
              have HB := Lib.hid (below_then HB.out hbw)
              have HBB := Lib.hid hbb
              clear hbb hbw
              go_wp2_with fail
              refine (rshorter_any _ _ _ _ _ _ HACC.out HBB.out).mono ?_
              rintro e w' ⟨⟨va, rfl, hva⟩, rfl⟩
              have HREL : Hid (URunRel (ucands0 l s) (fun c : Nat => pputE l (wof (c : Int)) s) w va (.int .i64 ((k : Int) + 1)) wb) := Lib.hid ⟨k + 1, by omega, by go_num, by rw [HFS.out, HWK.out]; exact hva, HB.out⟩
              clear hva
              go_wp2
              go_roundw
              case rel => exact HREL.out
              case measure => simp [intOf]; omega
            · obtain rfl : k = 31 := by omega
              go_wp2
              go_ret2
              rw [HE.out]
              exact ⟨_, rfl, HACC.out, HB.out⟩
        · have d3 : ((u : Int) == (n : Int)) = false := by simp; omega
          have HC0 : Hid ((ucands0 l s ++ (List.range 0).map fun c : Nat => pputE l (wof (c : Int)) s).foldl ushorter [] = ushorter (ushorter [] (dputE l s)) (gputE l s)) := Lib.hid (by
            unfold ucands0
            rw [if_neg (by rw [← HU.out, HN.out]; exact hun)]
            rfl)
          go_wp2_with fail
          refine (rput8_any l _ s _ HV.out HI.out HL6.out).mono ?_
          rintro e wb4 ⟨b4, rfl, hbb4, hbw4⟩
          have HV := Lib.hid (HV.out.below hbw4)
          have HACC := Lib.hid (IsB.below HACC.out hbw4)
          have HB := Lib.hid (below_then HB.out hbw4)
          have HBB := Lib.hid hbb4
          clear hbb4 hbw4
          go_wp2_with fail
          refine (rshorter_any _ _ _ _ _ _ HACC.out HBB.out).mono ?_
          rintro e w' ⟨⟨va4, rfl, hva4⟩, rfl⟩
          have HACC : Hid (IsB (ushorter ([]) (dputE l s)) va4 wb4) := Lib.hid hva4
          clear hva4 HBB
          go_wp2_with fail
          refine (rput9_any l _ s _ HV.out HI.out HL6.out).mono ?_
          rintro e wb5 ⟨b5, rfl, hbb5, hbw5⟩
          have HV := Lib.hid (HV.out.below hbw5)
          have HACC := Lib.hid (IsB.below HACC.out hbw5)
          have HB := Lib.hid (below_then HB.out hbw5)
          have HBB := Lib.hid hbb5
          clear hbb5 hbw5
          go_wp2_with fail
          refine (rshorter_any _ _ _ _ _ _ HACC.out HBB.out).mono ?_
          rintro e w' ⟨⟨va5, rfl, hva5⟩, rfl⟩
          have HACC : Hid (IsB (ushorter (ushorter ([]) (dputE l s)) (gputE l s)) va5 wb5) := Lib.hid hva5
          clear hva5 HBB
          have h0st : URunRel (ucands0 l s) (fun c : Nat => pputE l (wof (c : Int)) s) w va5 (.int .i64 0) wb5 := ⟨0, by omega, rfl, by rw [HC0.out]; exact HACC.out, HB.out⟩
          have HST := Lib.hid h0st
          clear h0st HACC
          go_wp2
          go_loopw [8, 12] (URunRel (ucands0 l s) (fun c : Nat => pputE l (wof (c : Int)) s) w) (fun _ i _ => 31 - (intOf i).toNat)
          case atStart => exact HST.out
          case round =>
            obtain ⟨k, hk, rfl, hacc, hbw⟩ := hrel
            have HSTT := HST
            clear HST
            have HACC := Lib.hid hacc
            have HB := Lib.hid hbw
            have HV := Lib.hid (HV0.out.below hbw)
            clear hacc hbw
            by_cases hlt : k < 31
            · have hlti : (k : Int) < 31 := by omega
              obtain ⟨W, hW⟩ := wof_nat k
              have HOF := Lib.hid (fun X => rof_any (k : Int) X (by omega) (by omega))
              rw [hW] at HOF
              have HFS := Lib.hid (fold_snoc11 (ucands0 l s) (fun c : Nat => pputE l (wof (c : Int)) s) k)
              have HWK := Lib.hid hW
              clear hW
              go_wp2_with (go_at_call 56; refine (HOF.out _).mono ?_; rintro e w' ⟨rfl, rfl⟩)
              refine (rput10_any l _ (W : Int) s _ HV.out HI.out HL6.out).mono ?_
              rintro e wb ⟨b, rfl, hbb, hbw⟩
              have HACC := Lib.hid (IsB.below HACC.out hbw)
              have HB := Lib.hid (below_then HB.out hbw)
              have HBB := Lib.hid hbb
              clear hbb hbw
              go_wp2_with fail
              refine (rshorter_any _ _ _ _ _ _ HACC.out HBB.out).mono ?_
              rintro e w' ⟨⟨va, rfl, hva⟩, rfl⟩
              have HREL : Hid (URunRel (ucands0 l s) (fun c : Nat => pputE l (wof (c : Int)) s) w va (.int .i64 ((k : Int) + 1)) wb) := Lib.hid ⟨k + 1, by omega, by go_num, by rw [HFS.out, HWK.out]; exact hva, HB.out⟩
              clear hva
              go_wp2
              go_roundw
              case rel => exact HREL.out
              case measure => simp [intOf]; omega
            · obtain rfl : k = 31 := by omega
              go_wp2
              go_ret2
              rw [HE.out]
              exact ⟨_, rfl, HACC.out, HB.out⟩

/-- What was laid down, and what comes behind it. -/
def ucomb (out : List UInt8) (p : List UInt8 × Int) : List UInt8 × Int := if p.2 ≠ 0 then ([], p.2) else (out ++ p.1, 0)
theorem ucomb_done (out : List UInt8) (s : Bool) {k : Nat} {l : List Int} (h : l.length = 0) : ucomb out (uputN s k l) = (out, 0) := by
  cases k with
  | zero => simp [uputN, ucomb]
  | succ k => rw [uputN, if_pos h]; simp [ucomb]
theorem ucomb_bad (out : List UInt8) (s : Bool) {k : Nat} {l : List Int} (h : l.length ≠ 0) (he : (urunE (l.take (ucut l)) s).2 ≠ 0) : ucomb out (uputN s (k + 1) l) = ([], (urunE (l.take (ucut l)) s).2) := by
  rw [uputN, if_neg h, if_pos he]
  exact if_pos he
theorem ucomb_step (out : List UInt8) (s : Bool) {k : Nat} {l : List Int} (h : l.length ≠ 0) (he : (urunE (l.take (ucut l)) s).2 = 0) : ucomb out (uputN s (k + 1) l) = ucomb (out ++ (urunE (l.take (ucut l)) s).1) (uputN s k (l.drop (ucut l))) := by
  rw [uputN, if_neg h, if_neg (by rw [he]; simp)]
  unfold ucomb
  by_cases h2 : (uputN s k (l.drop (ucut l))).2 ≠ 0
  · rw [if_pos h2, if_pos h2, if_pos h2]
  · rw [if_neg h2, if_neg h2, if_neg (by simp)]
    simp
def lenOf (v : Value) : Nat := match v with | .slice _ n _ => n | _ => 0
theorem urun_len {l : List Int} {s : Bool} (hl : ∀ x ∈ l, inInt x) (h5 : l.length ≤ 512) : (urunE l s).1.length ≤ 5000 := by
  by_cases h2 : dplain l s = none ∨ l.length < 1 ∨ 512 < l.length
  · rw [urunE_no h2]; simp
  · have := (urun_back (r := []) hl (fun h3 => h2 (.inl h3)) (Nat.not_lt.1 fun h3 => h2 (.inr (.inl h3))) h5).2.2.2
    omega
def UPutRel (res : List UInt8 × Int) (s : Bool) (w : World) (lv ov : Value) (wr : World) : Prop :=
  ∃ (k : Nat) (rest : List Int) (out : List UInt8), rest.length ≤ k ∧ rest.length ≤ 4096 ∧ out.length + 10 * rest.length ≤ 50000 ∧ (∀ x ∈ rest, inInt x) ∧ IsV iv rest lv w ∧ ucomb out (uputN s k rest) = res ∧ wr.ownsRow w.heap.size 5 1 ov out.length (out.map bv) ∧ Below w.heap.size w wr
set_option maxHeartbeats 4000000 in
set_option maxRecDepth 100000 in
theorem rput11_own (l : List Int) (v : Value) (s : Bool) (w : World) (hv : IsV iv l v w) (hl : ∀ x ∈ l, inInt x) :
    Calls Tryz.prog 25 #[v, .bool s] w (RetEO w (uputE l s)) := by
  have HV := Lib.hid hv
  have HI := Lib.hid hl
  obtain ⟨A, n, c, rfl⟩ := hv.shape
  have HN := Lib.hid hv.parts.1
  clear hv hl
  by_cases hbig : 4096 < n
  · have d1 : (4096 : Int) < (n : Int) := by omega
    have hE : Hid (uputE l s = ([], 3)) := Lib.hid (by unfold uputE; rw [if_pos (by rw [HN.out]; exact hbig)])
    go_enter Tryz.func25, Tryz.ntmps25
    go_wp2
    go_ret2
    rw [hE.out]
    exact RetEO.nil _ (Below.refl _ _)
  · have d1 : ¬ (4096 : Int) < (n : Int) := by omega
    have hE : Hid (uputE l s = ucomb [] (uputN s l.length l)) := Lib.hid (by
      unfold uputE ucomb
      rw [if_neg (by rw [HN.out]; exact hbig)]
      by_cases h : (uputN s l.length l).2 ≠ 0
      · rw [if_pos h]
        have h2 : ∀ (k : Nat) (l : List Int), (uputN s k l).2 ≠ 0 → (uputN s k l).1 = [] := by
          intro k
          induction k with
          | zero => intro l h; exact absurd rfl h
          | succ k ih =>
            intro l h
            rw [uputN] at h ⊢
            split
            · rfl
            · split
              · rfl
              · split
                · rfl
                · rename_i h3 h4 h5
                  rw [if_neg h3, if_neg h4, if_neg h5] at h
                  exact absurd rfl h
        exact Prod.ext (h2 _ _ h) rfl
      · rw [if_neg h]
        exact Prod.ext rfl (Decidable.not_not.1 h))
    have hst : UPutRel (uputE l s) s w (.slice A n c) (.slice (some ⟨w.heap.size, 0, none⟩) 0 0) (w.alloc (.cells #[] 5)) :=
      ⟨l.length, l, [], Nat.le_refl _, by have := HN.out; omega, by have := HN.out; simp; omega, HI.out, HV.out, hE.out.symm, own_made w _, (Below.refl _ _).alloc (Nat.le_refl _) _⟩
    have HST := Lib.hid hst
    clear hst
    go_enter Tryz.func25, Tryz.ntmps25
    go_wp2
    go_loopw [0, 6] (UPutRel (uputE l s) s w) (fun x _ _ => lenOf x)
    case atStart => exact HST.out
    case round =>
      obtain ⟨k, rest, out, hk, h4, hol, hin, hrv, hres, hown, hbw⟩ := hrel
      have HSTT := HST
      clear HST
      have HIN := Lib.hid hin
      have HRV := Lib.hid hrv
      have HRES := Lib.hid hres
      have HOWN := Lib.hid hown
      have HBW := Lib.hid hbw
      obtain ⟨A2, n2, c2, rfl⟩ := hrv.shape
      have HN2 := Lib.hid hrv.parts.1
      have hnc2 : n2 ≤ c2 := hrv.parts.2.2.1
      have hci2 : (c2 : Int) ≤ 9223372036854775807 := by have := hrv.parts.2.2.2.1; unfold maxLen at this; omega
      have hn2k : n2 ≤ k := by have := HN2.out; omega
      have hn24 : n2 ≤ 4096 := by have := HN2.out; omega
      have hol2 : out.length + 10 * n2 ≤ 50000 := by have := HN2.out; omega
      obtain ⟨ol, hol3⟩ : ∃ ol, ol = out.length := ⟨_, rfl⟩
      have HOL := Lib.hid hol3
      clear hin hrv hres hown hbw hk h4 hol
      by_cases h0 : n2 = 0
      · subst h0
        have hR : Hid (uputE l s = (out, 0)) := Lib.hid (by rw [← HRES.out]; exact ucomb_done out s HN2.out)
        clear hol3
        go_wp2
        go_ret2
        rw [hR.out]
        exact ⟨_, rfl, HOWN.out, HBW.out⟩
      · have d2 : decide (0 < n2) = true := decide_eq_true (by omega)
        have hn0i : (0 : Int) < (n2 : Int) := by omega
        obtain ⟨m, hm⟩ : ∃ m, m = ucut rest := ⟨_, rfl⟩
        obtain ⟨m1, m2, m3⟩ := ucut_bd (l := rest) (by have := HN2.out; omega)
        rw [← hm] at m1 m2 m3
        have hmn : m ≤ n2 := by have := HN2.out; omega
        have hmc : (m : Int) ≤ (c2 : Int) := by omega
        obtain ⟨k', rfl⟩ : ∃ k', k = k' + 1 := ⟨k - 1, by omega⟩
        have HCU := Lib.hid (rcut11_any rest _ wr (HRV.out.below HBW.out) (by have := HN2.out; omega))
        rw [← hm] at HCU
        have HM := Lib.hid hm
        have htl : (rest.take m).length = m := by rw [List.length_take]; have := HN2.out; omega
        have HTL := Lib.hid htl
        have HTI : Hid (∀ x ∈ rest.take m, inInt x) := Lib.hid (fun x hx => HIN.out x (List.mem_of_mem_take hx))
        obtain ⟨rb, re, hr⟩ : ∃ rb re, urunE (rest.take m) s = (rb, re) := ⟨_, _, rfl⟩
        have HR := Lib.hid hr
        obtain ⟨v4, hv4, hI4⟩ := fromV_named (P := Tryz.prog) elemI (k := m) hmn HRV.out
        have HI4 := Lib.hid hI4
        clear hm htl hr hI4 m2
        go_wp2_with fail
        refine HCU.out.mono ?_
        rintro e w2 ⟨rfl, hb2⟩
        have HV2 := Lib.hid ((HRV.out.take hmn).below (HBW.out.trans (hb2.mono HBW.out.size)))
        have HO2 := Lib.hid (own_below HOWN.out hb2)
        have HB2 := Lib.hid (below_then HBW.out hb2)
        clear hb2
        have HRN := Lib.hid (rrun11_any (rest.take m) _ s w2 HV2.out HTI.out (by have := HTL.out; omega))
        rw [HR.out] at HRN
        go_wp2_with fail
        refine HRN.out.mono ?_
        rintro e w3 ⟨b3, rfl, hb3v, hb3⟩
        have HO3 := Lib.hid (own_below HO2.out hb3)
        have HB3 := Lib.hid (below_then HB2.out hb3)
        have HBV := Lib.hid hb3v
        clear hb3
        by_cases he : re = 0
        · subst he
          have hlen := urun_len (s := s) HTI.out (by rw [HTL.out]; exact m3)
          have hstep := ucomb_step (k := k') out s (l := rest) (by have := HN2.out; omega) (by rw [← HM.out, HR.out])
          rw [HRES.out, ← HM.out, HR.out] at hstep
          rw [HR.out] at hlen
          have hlen2 := (urun_back (r := []) (s := s) HTI.out (by
            intro h
            have h2 := HR.out
            rw [urunE_no (.inl h)] at h2
            injection h2 with _ h2
            cases h2) (by rw [HTL.out]; exact m1) (by rw [HTL.out]; exact m3)).2.2.2
          rw [HR.out, HTL.out] at hlen2
          dsimp only at hlen hstep hlen2
          obtain ⟨A5, n5, c5, rfl⟩ := IsV.shape (f := bv) hb3v
          obtain ⟨hn5, hA5, -, -, hl5⟩ := IsV.parts (f := bv) (show IsV bv rb _ _ from hb3v)
          have HM5 := Lib.hid (show (rb.map bv).length = n5 by rw [List.length_map]; exact hn5)
          have hn5b : n5 ≤ 5000 := by omega
          have hn510 : n5 ≤ 10 * m := by omega
          have hown3 := HO3.out
          rw [← hol3] at hown3
          have hbw3 := HB3.out
          have hz3 := hbw3.size
          have HSTEP := Lib.hid hstep
          have HN5 := Lib.hid hn5
          have hol4 : ol + 10 * n2 ≤ 50000 := by omega
          clear hb3v hlen hstep hlen2 hn5 hol3 hol2
          go_wp2_with (first | (refine wpList_slicedL rfl _ _ _ rfl _ (hv4 _) ?_) | (at_builtin; refine wpList_join elemB rfl _ _ rfl w.heap.size _ _ _ _ _ _ (rb.map bv) w rfl rfl hA5 HM5.out hl5 (bv_one _) hown3 hbw3 hz3 (by omega) (by omega) ?_))
          intro v6 w6 hown6 hb6 _ _
          have HREL : Hid (UPutRel (uputE l s) s w v4 v6 w6) := Lib.hid ⟨k', rest.drop m, out ++ rb, by rw [List.length_drop]; have := HN2.out; omega, by rw [List.length_drop]; have := HN2.out; omega,
            by rw [List.length_drop, List.length_append, HN5.out, ← HOL.out]; have := HN2.out; omega, fun x hx => HIN.out x (List.mem_of_mem_drop hx), HI4.out, HSTEP.out.symm,
            by rw [List.length_append, ← HOL.out, HN5.out, List.map_append]; exact hown6, hb6⟩
          clear hown6 hb6 hown3 hbw3 hz3 hl5 hA5
          go_wp2_with (refine wpList_slicedL rfl _ _ _ rfl _ (hv4 _) ?_)
          go_roundw
          case rel => exact HREL.out
          case measure =>
            obtain ⟨A7, c7, e7, _⟩ := HI4.out
            rw [e7]
            have := HN2.out
            simp [lenOf]
            omega
        · have hbad := ucomb_bad (k := k') out s (l := rest) (by have := HN2.out; omega) (by rw [← HM.out, HR.out]; exact he)
          rw [HRES.out, ← HM.out, HR.out] at hbad
          have HBD := Lib.hid hbad
          have d3 : (re != 0) = true := by simpa using he
          clear hb3v hbad
          obtain ⟨A5, n5, c5, rfl⟩ := IsV.shape (f := bv) HBV.out
          go_wp2
          go_ret2
          rw [HBD.out]
          exact RetEO.nil _ HB3.out
theorem rput11_any (l : List Int) (v : Value) (s : Bool) (w : World) (hv : IsV iv l v w) (hl : ∀ x ∈ l, inInt x) :
    Calls Tryz.prog 25 #[v, .bool s] w (RetE w (uputE l s)) := (rput11_own l v s w hv hl).mono fun _ _ h => h.e
end Go.Proofs.YtblpkmmhmdpkjaaGreatDoor

/- Contracts of layer 11's reference: the run that bytes begin with, and Take. -/









namespace Go.Proofs.YtblpkmmhmdpkjaaGreatDoor

open Go.RowKit

/-- Numbers and bytes, both in rows of the call's own, and an error. -/
def RetIOO (w : World) (p : List Int × List UInt8 × Int) (e : Ending) (w' : World) : Prop := ∃ u v, e = .returned (.tuple #[u, v, .int .i64 p.2.2]) ∧ OwnV iv 3 w p.1 u w' ∧ OwnB w p.2.1 v w' ∧ Below w.heap.size w w'
theorem RetIOO.nil {w w' : World} (n : Int) (hb : Below w.heap.size w w') : RetIOO w ([], [], n) (.returned (.tuple #[.slice none 0 0, .slice none 0 0, .int .i64 n])) w' := ⟨_, _, rfl, OwnV.nil _ _ _ _, OwnB.nil _ _, hb⟩
end Go.Proofs.YtblpkmmhmdpkjaaGreatDoor

/- Runs (layer 11): what a kind's Take answers speaks of the bytes that it takes, and of how many at most. -/



namespace Go.Proofs.YtblpkmmhmdpkjaaGreatDoor

/-- What was taken of bytes: a piece ahead, no longer than so; with anything else behind it the answer is the same. -/
def Took {β : Type} (n : Nat) (f : List UInt8 → β) (ans : List UInt8 → β) (l q : List UInt8) : Prop := ∃ a : List UInt8, l = a ++ q ∧ a.length ≤ n ∧ ∀ r, f (a ++ r) = ans r
theorem Took.mono {β : Type} {m n : Nat} {f g : List UInt8 → β} {l q : List UInt8} (h : Took m f g l q) (hn : m ≤ n) : Took n f g l q := by
  obtain ⟨a, h1, h2, h3⟩ := h
  exact ⟨a, h1, by omega, h3⟩
end Go.Proofs.YtblpkmmhmdpkjaaGreatDoor

/- Runs (layer 11): the shortest of those that may be, or none of them; the shortest of the shortest; no kind refuses less than all of them. -/



namespace Go.Proofs.YtblpkmmhmdpkjaaGreatDoor

/-- The shortest so far, and one more that may be. -/
def ubest : Option (List UInt8) → List UInt8 × Int → Option (List UInt8)
  | none, p => if p.2 = 0 then some p.1 else none
  | some a, p => if p.2 = 0 ∧ p.1.length < a.length then some p.1 else some a
def uans : Option (List UInt8) → List UInt8 × Int
  | none => ([], 1)
  | some a => (a, 0)
theorem ubest_bad {o : Option (List UInt8)} {p : List UInt8 × Int} (h : p.2 ≠ 0) : ubest o p = o := by
  cases o with
  | none => exact if_neg h
  | some a => exact if_neg fun h2 => h h2.1
theorem ubest_none {p : List UInt8 × Int} (h : p.2 = 0) : ubest none p = some p.1 := if_pos h
theorem ubest_less {a : List UInt8} {p : List UInt8 × Int} (h : p.2 = 0) (h2 : p.1.length < a.length) : ubest (some a) p = some p.1 := if_pos ⟨h, h2⟩
theorem ubest_more {a : List UInt8} {p : List UInt8 × Int} (h2 : ¬ p.1.length < a.length) : ubest (some a) p = some a := if_neg fun h => h2 h.2
theorem ubest_step (o x : Option (List UInt8)) (c : List UInt8 × Int) : ubest o (uans (ubest x c)) = ubest (ubest o (uans x)) c := by
  by_cases hc : c.2 = 0
  · cases x with
    | none =>
      rw [ubest_none hc, ubest_bad (o := o) (p := uans none) (by simp [uans])]
      have e : uans (some c.1) = c := by rw [uans, ← hc]
      rw [e]
    | some x =>
      have e : uans (some c.1) = c := by rw [uans, ← hc]
      by_cases h1 : c.1.length < x.length
      · rw [ubest_less hc h1, e]
        cases o with
        | none => rw [ubest_none (p := uans (some x)) rfl, ubest_none hc, ubest_less (a := (uans (some x)).1) hc h1]
        | some o =>
          by_cases h2 : x.length < o.length
          · rw [ubest_less (p := uans (some x)) rfl h2, ubest_less hc (by omega), ubest_less (a := (uans (some x)).1) hc h1]
          · rw [ubest_more (p := uans (some x)) h2]
      · rw [ubest_more h1]
        cases o with
        | none => rw [ubest_none (p := uans (some x)) rfl, ubest_more (a := (uans (some x)).1) h1]
        | some o =>
          by_cases h2 : x.length < o.length
          · rw [ubest_less (p := uans (some x)) rfl h2, ubest_more (a := (uans (some x)).1) h1]
          · rw [ubest_more (p := uans (some x)) h2, ubest_more (by omega)]
  · rw [ubest_bad (o := x) hc, ubest_bad hc]
theorem ubest_fold (L : List (List UInt8 × Int)) : ∀ (o x : Option (List UInt8)), ubest o (uans (L.foldl ubest x)) = L.foldl ubest (ubest o (uans x)) := by
  induction L with
  | nil => intro o x; rfl
  | cons c L ih =>
    intro o x
    rw [List.foldl_cons, List.foldl_cons, ih, ubest_step]
theorem ubest_all_bad {L : List (List UInt8 × Int)} (h : ∀ p ∈ L, p.2 ≠ 0) (o : Option (List UInt8)) : L.foldl ubest o = o := by
  induction L generalizing o with
  | nil => rfl
  | cons c L ih => rw [List.foldl_cons, ubest_bad (h c List.mem_cons_self), ih fun p hp => h p (List.mem_cons_of_mem _ hp)]
theorem ubest_some {L : List (List UInt8 × Int)} : ∀ {o : Option (List UInt8)}, ((∃ a, o = some a) ∨ ∃ p ∈ L, p.2 = 0) → ∃ a, L.foldl ubest o = some a := by
  induction L with
  | nil =>
    rintro o (h | ⟨p, hp, _⟩)
    · exact h
    · cases hp
  | cons c L ih =>
    rintro o h
    rw [List.foldl_cons]
    refine ih ?_
    rcases h with ⟨a, rfl⟩ | ⟨p, hp, h0⟩
    · left; unfold ubest; dsimp only; split <;> exact ⟨_, rfl⟩
    · rcases List.mem_cons.1 hp with rfl | hp
      · left
        cases o with
        | none => exact ⟨_, ubest_none h0⟩
        | some a => unfold ubest; dsimp only; split <;> exact ⟨_, rfl⟩
      · exact .inr ⟨p, hp, h0⟩
theorem ubest_shorter {L : List (List UInt8 × Int)} : ∀ {o : Option (List UInt8)}, (∀ p ∈ L, p.2 = 0 → p.1.length ≠ 0) → (∀ a, o = some a → a.length ≠ 0) → L.foldl ushorter (o.getD []) = (L.foldl ubest o).getD [] := by
  induction L with
  | nil => intro o _ _; rfl
  | cons c L ih =>
    intro o h1 h2
    rw [List.foldl_cons, List.foldl_cons]
    have hc := h1 c List.mem_cons_self
    have e : ushorter (o.getD []) c = (ubest o c).getD [] := by
      unfold ushorter
      cases o with
      | none =>
        by_cases h : c.2 = 0
        · rw [ubest_none h, if_pos ⟨h, .inl rfl⟩]; rfl
        · rw [ubest_bad h, if_neg fun h3 => h h3.1]
      | some a =>
        have ha := h2 a rfl
        by_cases h : c.2 = 0 ∧ c.1.length < a.length
        · rw [ubest_less h.1 h.2, if_pos ⟨h.1, .inr h.2⟩]; rfl
        · rw [if_neg fun h3 => h ⟨h3.1, h3.2.resolve_left ha⟩]
          by_cases h4 : c.2 = 0
          · rw [ubest_more fun h5 => h ⟨h4, h5⟩]
          · rw [ubest_bad h4]
    rw [e]
    refine ih (fun p hp => h1 p (List.mem_cons_of_mem _ hp)) fun a ha => ?_
    cases o with
    | none =>
      by_cases h : c.2 = 0
      · rw [ubest_none h] at ha; injection ha with ha; rw [← ha]; exact hc h
      · rw [ubest_bad h] at ha; cases ha
    | some b =>
      by_cases h : c.2 = 0 ∧ c.1.length < b.length
      · rw [ubest_less h.1 h.2] at ha; injection ha with ha; rw [← ha]; exact hc h.1
      · have e2 : ubest (some b) c = some b := if_neg h
        rw [e2] at ha
        exact h2 a ha
theorem pair_ok {p : List UInt8 × Int} (h : p.2 = 0) : p = (p.1, 0) := by rw [← h]
/-- What the kinds lay down. -/
def urep (l : List Int) (s : Bool) : List UInt8 × Int := if l.length = 0 ∨ usame l < l.length then ([], 1) else eput (l.headD 0) l.length s
def upats (l : List Int) (s : Bool) : List (List UInt8 × Int) := (List.range 31).map fun c : Nat => pputE l (wof (c : Int)) s
def upat (l : List Int) (s : Bool) : List UInt8 × Int := uans ((upats l s).foldl ubest none)
def ukinds (l : List Int) (s : Bool) : List (List UInt8 × Int) := [urep l s, dputE l s, gputE l s, upat l s]
theorem ulen_rep {l : List Int} {s : Bool} (h : (urep l s).2 = 0) : (urep l s).1.length ≠ 0 := by
  unfold urep at h ⊢
  split
  · rename_i h1; rw [if_pos h1] at h; cases h
  · rename_i h1
    rw [if_neg h1] at h
    obtain ⟨_, _, u, _, hb⟩ := eputE_cases (b := (eput (l.headD 0) l.length s).1) (pair_ok h)
    rw [hb, elay_len]
    omega
theorem ulen_eput {x t : Int} {s : Bool} (h : (eput x t s).2 = 0) : (eput x t s).1.length ≠ 0 := by
  obtain ⟨_, _, u, _, hb⟩ := eputE_cases (b := (eput x t s).1) (pair_ok h)
  rw [hb, elay_len]
  omega
theorem ulen_dput {l : List Int} {s : Bool} (h : (dputE l s).2 = 0) : (dputE l s).1.length ≠ 0 := by
  obtain ⟨_, _, u, _, hb⟩ := dputE_cases (b := (dputE l s).1) (pair_ok h)
  rw [hb]
  unfold dlay
  rw [List.length_append, dheadN_len]
  omega
theorem ulen_gput {l : List Int} {s : Bool} (h : (gputE l s).2 = 0) : (gputE l s).1.length ≠ 0 := by
  obtain ⟨_, _, _, u, _, hb⟩ := gputE_cases (b := (gputE l s).1) (pair_ok h)
  rw [hb]
  unfold glay
  simp only [List.length_append, dheadN_len]
  omega
theorem ulen_pput {l : List Int} {W : Int} {s : Bool} (h : (pputE l W s).2 = 0) : (pputE l W s).1.length ≠ 0 := by
  obtain ⟨us, _, _, _, _, _, _, _, _, hb⟩ := pputE_ok (b := (pputE l W s).1) (pair_ok h)
  rw [hb]
  unfold play
  simp only [List.length_append, dheadN_len]
  omega
theorem ulen_cands {l : List Int} {s : Bool} : ∀ p ∈ ucands l s, p.2 = 0 → p.1.length ≠ 0 := by
  intro p hp
  unfold ucands ucands0 at hp
  simp only [List.mem_append, List.mem_cons, List.mem_map, List.mem_range, List.not_mem_nil, or_false] at hp
  rcases hp with (hp | rfl | rfl) | ⟨c, hc, rfl⟩
  · split at hp
    · rw [List.mem_singleton] at hp
      subst hp
      exact ulen_eput
    · cases hp
  · exact ulen_dput
  · exact ulen_gput
  · exact ulen_pput
theorem upats_len {l : List Int} {s : Bool} : ∀ p ∈ upats l s, p.2 = 0 → p.1.length ≠ 0 := by
  intro p hp
  unfold upats at hp
  simp only [List.mem_map, List.mem_range] at hp
  obtain ⟨c, hc, rfl⟩ := hp
  exact ulen_pput
theorem upat_len {l : List Int} {s : Bool} (h : (upat l s).2 = 0) : (upat l s).1.length ≠ 0 := by
  have h1 := ubest_shorter (o := none) (upats_len (l := l) (s := s)) (fun a h => by cases h)
  unfold upat at h ⊢
  cases ho : (upats l s).foldl ubest none with
  | none => rw [ho] at h; cases h
  | some a =>
    have key : ∀ (L : List (List UInt8 × Int)) (o : Option (List UInt8)), (∀ p ∈ L, p.2 = 0 → p.1.length ≠ 0) → (∀ a, o = some a → a.length ≠ 0) → ∀ a, L.foldl ubest o = some a → a.length ≠ 0 := by
      intro L
      induction L with
      | nil => intro o _ h a ha; exact h a ha
      | cons c L ih =>
        intro o h1 h2 a ha
        rw [List.foldl_cons] at ha
        refine ih _ (fun p hp => h1 p (List.mem_cons_of_mem _ hp)) (fun b hb => ?_) a ha
        have hc := h1 c List.mem_cons_self
        cases o with
        | none =>
          by_cases h : c.2 = 0
          · rw [ubest_none h] at hb; injection hb with hb; rw [← hb]; exact hc h
          · rw [ubest_bad h] at hb; cases hb
        | some d =>
          by_cases h : c.2 = 0 ∧ c.1.length < d.length
          · rw [ubest_less h.1 h.2] at hb; injection hb with hb; rw [← hb]; exact hc h.1
          · rw [show ubest (some d) c = some d from if_neg h] at hb
            exact h2 b hb
    exact key _ _ upats_len (fun a h => by cases h) a ho
theorem ukinds_len {l : List Int} {s : Bool} : ∀ p ∈ ukinds l s, p.2 = 0 → p.1.length ≠ 0 := by
  intro p hp
  unfold ukinds at hp
  simp only [List.mem_cons, List.not_mem_nil, or_false] at hp
  rcases hp with rfl | rfl | rfl | rfl
  · exact ulen_rep
  · exact ulen_dput
  · exact ulen_gput
  · exact upat_len
theorem usame_rep {l : List Int} (h : ¬ (l.length = 0 ∨ usame l < l.length)) : l = List.replicate l.length (l.headD 0) := by
  cases l with
  | nil => exact absurd (.inl rfl) h
  | cons x r =>
    have h1 := usame_take (x := x) (r := r) (k := (x :: r).length) (Nat.not_lt.1 fun h2 => h (.inr h2))
    rw [List.take_of_length_le (Nat.le_refl _)] at h1
    rw [List.headD_cons]
    exact h1
theorem ukinds_refuse {l : List Int} {s : Bool} (h : dplain l s = none ∨ l.length < 1 ∨ 512 < l.length) : ∀ p ∈ ukinds l s, p.2 ≠ 0 := by
  intro p hp h0
  unfold ukinds at hp
  simp only [List.mem_cons, List.not_mem_nil, or_false] at hp
  rcases hp with rfl | rfl | rfl | rfl
  · unfold urep at h0
    split at h0
    · cases h0
    · rename_i hn
      obtain ⟨t3, t10, u, hu, _⟩ := eputE_cases (b := (eput (l.headD 0) l.length s).1) (pair_ok h0)
      rcases h with h | h | h
      · have hr := usame_rep hn
        have : ∀ n : Nat, dplain (List.replicate n (l.headD 0)) s ≠ none := by
          intro n
          induction n with
          | zero => intro h; cases h
          | succ n ih =>
            unfold dplain at ih ⊢
            rw [List.replicate_succ, omap, hu]
            cases ho : omap (eplain · s) (List.replicate n (l.headD 0)) with
            | none => exact absurd ho ih
            | some ys => intro h; cases h
        exact this l.length (by rw [← hr]; exact h)
      · omega
      · omega
  · obtain ⟨h1, h2, u, hu, _⟩ := dputE_cases (b := (dputE l s).1) (pair_ok h0)
    rcases h with h | h | h
    · rw [h] at hu; cases hu
    · omega
    · omega
  · obtain ⟨h1, h2, h3, _⟩ := gputE_cases (b := (gputE l s).1) (pair_ok h0)
    rcases h with h | h | h
    · exact h1 h
    · omega
    · omega
  · have : ∀ p ∈ upats l s, p.2 ≠ 0 := by
      intro p hp
      unfold upats at hp
      simp only [List.mem_map, List.mem_range] at hp
      obtain ⟨c, hc, rfl⟩ := hp
      unfold pputE
      rw [if_pos (by rcases h with h | h | h; exact .inl h; exact .inr (.inl h); exact .inr (.inr (.inl h)))]
      simp
    unfold upat at h0
    rw [ubest_all_bad this] at h0
    cases h0
/-- The shortest of the kinds is what Run answers. -/
theorem urun_kinds (l : List Int) (s : Bool) : urunE l s = uans ((ukinds l s).foldl ubest none) := by
  by_cases h : dplain l s = none ∨ l.length < 1 ∨ 512 < l.length
  · rw [ubest_all_bad (ukinds_refuse h)]
    unfold urunE
    rw [if_pos h]
    rfl
  · have e1 : (ukinds l s).foldl ubest none = (ucands l s).foldl ubest none := by
      have e2 : ubest none (urep l s) = ((if usame l = l.length then [eput (l.headD 0) l.length s] else []) : List (List UInt8 × Int)).foldl ubest none := by
        have h1 := usame_le l
        unfold urep
        by_cases h2 : usame l = l.length
        · rw [if_pos h2, if_neg (by
            rintro (h3 | h3)
            · exact h (.inr (.inl (by omega)))
            · omega)]
          rfl
        · rw [if_neg h2, if_pos (.inr (by omega))]
          rfl
      unfold ukinds ucands ucands0
      rw [List.foldl_append, List.foldl_append, ← e2]
      simp only [List.foldl_cons, List.foldl_nil]
      unfold upat
      rw [ubest_fold, ubest_bad (p := uans none) (by simp [uans])]
      rfl
    have h1 : 1 ≤ l.length := Nat.not_lt.1 fun h2 => h (.inr (.inl h2))
    have h5 : l.length ≤ 512 := Nat.not_lt.1 fun h2 => h (.inr (.inr h2))
    have hp : dplain l s ≠ none := fun h2 => h (.inl h2)
    obtain ⟨u, hu, hd⟩ := dputE_in hp h1 h5
    obtain ⟨a, ha⟩ := ubest_some (L := ucands l s) (o := none) (.inr ⟨_, dput_mem l s, by rw [hd]⟩)
    have h3 := ubest_shorter (o := none) (ulen_cands (l := l) (s := s)) (fun a h => by cases h)
    rw [e1, ha, urunE_in hp h1 h5]
    rw [ha] at h3
    rw [show ([] : List UInt8) = (none : Option (List UInt8)).getD [] from rfl, h3]
    rfl
end Go.Proofs.YtblpkmmhmdpkjaaGreatDoor

/- rle's own contracts: slices.Repeat at numbers (as XTRep, of cells of one). -/





namespace Go.Proofs.YtblpkmmhmdpkjaaGreatDoor

open Go.RowKit

end Go.Proofs.YtblpkmmhmdpkjaaGreatDoor

/- rle's own contracts: alike, Cut. -/



namespace Go.Proofs.YtblpkmmhmdpkjaaGreatDoor

open Go.RowKit

theorem usame_cut (l : List Int) (k : Nat) : usame (l.take k) = min (usame l) k := by
  cases l with
  | nil => simp [usame]
  | cons x r =>
    cases k with
    | zero => simp [usame]
    | succ k =>
      rw [List.take_succ_cons, usame_cons, usame_cons]
      have key : ∀ (r : List Int) (k : Nat), ((r.take k).takeWhile (· == x)).length = min (r.takeWhile (· == x)).length k := by
        intro r
        induction r with
        | nil => intro k; simp
        | cons y r ih =>
          intro k
          cases k with
          | zero => simp
          | succ k =>
            rw [List.take_succ_cons, List.takeWhile_cons, List.takeWhile_cons]
            split
            · rw [List.length_cons, List.length_cons, ih]; omega
            · simp
      rw [key]
      omega
def UAlRel (l : List Int) (w : World) (i : Value) (wr : World) : Prop := ∃ k : Nat, k ≤ usame l ∧ i = .int .i64 (k : Int) ∧ Below w.heap.size w wr
set_option maxHeartbeats 2000000 in
set_option maxRecDepth 100000 in
theorem ualike_any (l : List Int) (v : Value) (K : Nat) (w : World) (hv : IsV iv l v w) (hb : l.length ≤ 1000000) (_hK : K ≤ 1000000) :
    Calls Tryz.prog 104 #[v, .int .i64 (K : Int)] w fun e w' => e = .returned (.int .i64 ((min (usame l) K : Nat) : Int)) ∧ Below w.heap.size w w' := by
  obtain ⟨A, n, c, rfl⟩ := hv.shape
  have hln := hv.parts.1
  have hnc : n ≤ c := hv.parts.2.2.1
  have hci : (c : Int) ≤ 9223372036854775807 := by have := hv.parts.2.2.2.1; unfold maxLen at this; omega
  have hn6 : n ≤ 1000000 := by omega
  obtain ⟨m, hm⟩ : ∃ m, m = min n K := ⟨_, rfl⟩
  have hmn : m ≤ n := by omega
  have hV := hv.take hmn
  have HE := Lib.hid (show usame (l.take m) = min (usame l) K by
    have := usame_le l
    rw [usame_cut]; omega)
  have hmin : ∀ (ts : Array TypeId) (t : TypeId) (W : World), (Builtin.min_ ts t #[.int .i64 (n : Int), .int .i64 (K : Int)]).run Tryz.prog W = .ok (.int .i64 (m : Int)) W := fun ts t W => by
    rw [run_min_int2]
    congr 2
    split <;> omega
  obtain ⟨t, ht⟩ : ∃ t, t = l.take m := ⟨_, rfl⟩
  rw [← ht] at hV HE
  rw [← HE.out]
  have HN := Lib.hid (show t.length = m by rw [ht, List.length_take]; omega)
  have HV := Lib.hid hV
  have hmi : (m : Int) ≤ (c : Int) := by omega
  have hm6 : m ≤ 1000000 := by omega
  clear hv hb hV hm ht hln HE
  have HS : Hid (UAlRel t w (.int .i64 0) w) := Lib.hid ⟨0, Nat.zero_le _, rfl, Below.refl _ _⟩
  go_enter Tryz.func104, Tryz.ntmps104
  go_wp2
  go_loopw [15] (UAlRel t w) (fun i _ => m - (intOf i).toNat)
  case atStart => exact HS.out
  case round =>
    obtain ⟨k, hk, rfl, hbw⟩ := hrel
    have hle := usame_le t
    have hkn : k ≤ m := by have := HN.out; omega
    have HK := Lib.hid hk
    have HB := Lib.hid hbw
    clear HS
    by_cases hlt : k < m
    · have hkl : k < t.length := by have := HN.out; omega
      have hn0i : (0 : Int) < (m : Int) := by omega
      have hlti : (k : Int) < (m : Int) := by omega
      have hiff := usame_iff hkl hk
      obtain ⟨ad, rfl, had, hcell⟩ := (HV.out.below hbw).at hkl
      obtain ⟨_, hAd, _, hcell0⟩ := (HV.out.below hbw).at (k := 0) (by omega)
      injection hAd with hAd
      subst hAd
      obtain ⟨x, hx⟩ : ∃ x, x = t[k] := ⟨_, rfl⟩
      obtain ⟨x0, hx0⟩ : ∃ x, x = t[0] := ⟨_, rfl⟩
      rw [← hx, ← hx0] at hiff
      have hcx : wr.cell? (ad.add k) = some (.int .i64 x) := by rw [hcell, hx]; rfl
      have hc0 : wr.cell? ad = some (.int .i64 x0) := by
        have h1 : ad.add 0 = ad := by unfold Addr.add; split <;> simp_all
        rw [← h1, hcell0, hx0]; rfl
      have HI := Lib.hid hiff
      clear hcell hcell0 hx hx0 hiff hk hbw hle
      by_cases he : x = x0
      · have d2 : (x != x0) = false := by simpa using he
        have HE := Lib.hid he
        clear he
        go_wp2
        go_roundw
        case rel => exact ⟨k + 1, HI.out.2 HE.out, by go_num, HB.out⟩
        case measure => simp [intOf]; omega
      · have d2 : (x != x0) = true := by simpa using he
        have HE := Lib.hid he
        clear he
        go_wp2
        go_ret
        refine ⟨?_, HB.out⟩
        have h1 : k = usame t := Nat.le_antisymm HK.out (Nat.not_lt.1 fun h => HE.out (HI.out.1 h))
        rw [← h1]
        rfl
    · obtain rfl : k = m := by omega
      have hlti : ¬ (k : Int) < (k : Int) := by omega
      have h1 : k = usame t := by have := HN.out; omega
      have HE := Lib.hid h1
      clear h1 hk hbw hle
      go_wp2
      go_ret
      refine ⟨?_, HB.out⟩
      rw [← HE.out]
      rfl
def UCRel (l : List Int) (m : Nat) (w : World) (i : Value) (wr : World) : Prop := ∃ k : Nat, 1 ≤ k ∧ k ≤ max 1 m ∧ i = .int .i64 (k : Int) ∧ (∀ j, 1 ≤ j → j < k → ufind l j = false) ∧ Below w.heap.size w wr
set_option maxHeartbeats 2000000 in
set_option maxRecDepth 100000 in
theorem ucut_any (l : List Int) (v : Value) (w : World) (hv : IsV iv l v w) (hb : l.length ≤ 1000000) :
    Calls Tryz.prog 70 #[v] w fun e w' => e = .returned (.int .i64 (ucut l : Int)) ∧ Below w.heap.size w w' := by
  have HV := Lib.hid hv
  obtain ⟨A, n, c, rfl⟩ := hv.shape
  have HN := Lib.hid hv.parts.1
  have hnc : n ≤ c := hv.parts.2.2.1
  have hci : (c : Int) ≤ 9223372036854775807 := by have := hv.parts.2.2.2.1; unfold maxLen at this; omega
  have hn6 : n ≤ 1000000 := by have := HN.out; omega
  have HL := Lib.hid hb
  obtain ⟨u, hu⟩ : ∃ u, u = min (usame l) 512 := ⟨_, rfl⟩
  have HA := Lib.hid (ualike_any l _ 512 w hv hb (by omega))
  rw [← hu] at HA
  have hul : u ≤ 512 := by omega
  obtain ⟨m, hm⟩ : ∃ m, m = min n 512 := ⟨_, rfl⟩
  have hmin : ∀ (ts : Array TypeId) (t : TypeId) (W : World), (Builtin.min_ ts t #[.int .i64 (n : Int), .int .i64 512]).run Tryz.prog W = .ok (.int .i64 (m : Int)) W := fun ts t W => by
    rw [run_min_int2]
    congr 2
    split <;> omega
  have hmn : m ≤ n := by omega
  have hm5 : m ≤ 512 := by omega
  by_cases hu3 : 3 ≤ u
  · have hu3i : (3 : Int) ≤ (u : Int) := by omega
    have hE : Hid (ucut l = u) := Lib.hid (by rw [hu]; exact ucut_same (by omega))
    clear hv hb hu hm
    go_enter Tryz.func70, Tryz.ntmps70
    go_wp2_with fail
    refine HA.out.mono ?_
    rintro e w1 ⟨rfl, hb1⟩
    go_wp2
    go_ret
    exact ⟨by rw [hE.out]; rfl, hb1⟩
  · have hu3i : ¬ (3 : Int) ≤ (u : Int) := by omega
    have HU3 : Hid (¬ 3 ≤ usame l) := Lib.hid (by omega)
    have HM : Hid (min l.length 512 = m) := Lib.hid (by rw [hm, HN.out])
    clear hv hb hu hm
    go_enter Tryz.func70, Tryz.ntmps70
    go_wp2_with fail
    refine HA.out.mono ?_
    rintro e w1 ⟨rfl, hb1⟩
    have HS : Hid (UCRel l m w (.int .i64 1) w1) := Lib.hid ⟨1, by omega, by omega, rfl, fun j h1 h2 => by omega, hb1⟩
    clear hb1
    go_wp2
    go_loopw [5] (UCRel l m w) (fun i _ => 513 - (intOf i).toNat)
    case atStart => exact HS.out
    case round =>
      obtain ⟨k, hk1, hkm, rfl, hno, hbw⟩ := hrel
      have HNO := Lib.hid hno
      have HBW := Lib.hid hbw
      clear hno hbw HS
      by_cases hlt : k < m
      · have hlti : (k : Int) < (m : Int) := by omega
        have hkn : k ≤ n := by omega
        obtain ⟨v4, hv4, hI4⟩ := fromV_named (P := Tryz.prog) elemI (k := k) hkn (HV.out.below HBW.out)
        obtain ⟨g, hg⟩ : ∃ g, g = min (usame (l.drop k)) 5 := ⟨_, rfl⟩
        have HS4 := Lib.hid (ualike_any (l.drop k) v4 5 wr hI4 (by rw [List.length_drop]; have := HL.out; omega) (by omega))
        rw [← hg] at HS4
        have hg5 : g ≤ 5 := by omega
        have HG := Lib.hid hg
        clear hg hI4
        by_cases h5 : g = 5
        · have hE : Hid (ucut l = k) := Lib.hid (ucut_at HU3.out hk1 (by have := HN.out; omega) (by omega) HNO.out (by unfold ufind; exact decide_eq_true (by have := HG.out; omega)))
          have d1 : ((g : Int) == 5) = true := by rw [h5]; rfl
          clear h5
          go_wp2_with (refine wpList_slicedL rfl _ _ _ rfl _ (hv4 _) ?_)
          refine HS4.out.mono ?_
          rintro e w2 ⟨rfl, hb2⟩
          have HB2 := Lib.hid (below_then HBW.out hb2)
          clear hb2
          go_wp2
          go_ret
          exact ⟨by rw [hE.out]; rfl, HB2.out⟩
        · have d1 : ((g : Int) == 5) = false := by simp; omega
          have HG5 := Lib.hid h5
          clear h5
          go_wp2_with (refine wpList_slicedL rfl _ _ _ rfl _ (hv4 _) ?_)
          refine HS4.out.mono ?_
          rintro e w2 ⟨rfl, hb2⟩
          have HB2 := Lib.hid (below_then HBW.out hb2)
          clear hb2
          go_wp2
          go_roundw
          case rel =>
            refine ⟨k + 1, by omega, by omega, by go_num, fun j h1 h2 => ?_, HB2.out⟩
            by_cases hj : j < k
            · exact HNO.out j h1 hj
            · obtain rfl : j = k := by omega
              unfold ufind
              exact decide_eq_false (by have := HG.out; have := HG5.out; omega)
          case measure => simp [intOf]; omega
      · have hlti : ¬ (k : Int) < (m : Int) := by omega
        have hE : Hid (ucut l = m) := Lib.hid (by
          rw [ucut_all HU3.out (fun j h1 h2 => HNO.out j h1 (by have := HM.out; omega)), HM.out])
        go_wp2
        go_ret
        exact ⟨by rw [hE.out]; rfl, HBW.out⟩
end Go.Proofs.YtblpkmmhmdpkjaaGreatDoor

/- rle's own contracts: kinds, putRepeat, shortest with its two closures, putPatched, Run. Written by gen_ubest.py. -/













namespace Go.Proofs.YtblpkmmhmdpkjaaGreatDoor

open Go.RowKit

section

variable {P : Program} {o : Oper} {ρ : Operand → Value} {w : World} {R : Value → World → Prop}
/-- A call of a Go function that a slot holds, by its contract. -/
theorem gives_callV {f : FuncId} {x : Operand} {xs : Array Operand} {ts : Array TypeId} {args : Array Value} (ho : o.op = .call { callee := .value x, args := xs, argTypes := ts })
    (hent : ∀ (args : Array Value) (w : World), (callFunc f args).run P w = .ok (.enter f args) w) (hf : ρ x = .func (.func f) #[] #[]) (ha : xs.map ρ = args)
    (h : Calls P f args w fun e w' => ∃ v, e = .returned v ∧ R v w') : Gives P o ρ w R := by
  have hr : (execOp ρ o).run P w = .ok (.enter f args) w := by
    simp [execOp, ho, resolve, hf, ha, Deferred.ofValue, invoke, hent]
  unfold Gives
  rw [hr]
  exact h
theorem gives_indexW {t e : TypeId} {bytes m : Nat} {zv : Value} (E : ElemW P t e bytes m zv) {x y : Operand} {ad : Addr} {n c k : Nat} (ho : o.op = .indexAddr t x y) (hx : ρ x = .slice (some ad) n c) (hy : ρ y = .int .i64 (k : Int)) (hk : k < n)
    (hR : R (.pointer (some (ad.add (k * m)))) w) : Gives P o ρ w R := by
  refine gives_of (v := .pointer (some (ad.add (k * m)))) (w' := w) ?_ hR
  have ht := E.under
  have hs := E.size_ w
  have h0 : (0 : Int) ≤ (k : Int) := by omega
  have h1 : (k : Int) < (n : Int) := by omega
  simp [execOp, ho, hx, hy, go_sem, ht, hs, h0, h1]
end
def Fact.putE (l : List UInt8) (x : Int) : Fact := ⟨fun v w => ∃ b, v = .tuple #[b, .int .i64 x] ∧ IsB l b w, fun _ _ _ ⟨b, h1, h2⟩ hb => ⟨b, h1, IsB.below h2 hb⟩⟩
/-- The kinds of runs: their bits, their Put, their Take. -/
def kcs : Nat → List Value
  | 0 => [.int .u8 0, .func (.func 122) #[] #[], .func (.func 123) #[] #[]]
  | 1 => [.int .u8 1, .func (.func 124) #[] #[], .func (.func 125) #[] #[]]
  | 2 => [.int .u8 3, .func (.func 126) #[] #[], .func (.func 127) #[] #[]]
  | _ => [.int .u8 2, .func (.func 128) #[] #[], .func (.func 129) #[] #[]]
def ukcells : List Value := kcs 0 ++ (kcs 1 ++ (kcs 2 ++ kcs 3))
def kz : Value := .agg #[.int .u8 0, .nilFunc, .nilFunc]
theorem Tryz.infoK : (Tryz.prog.info? 143).map (fun i => (i.zero, i.size, i.bytes)) = some (some kz, 3, 24) := by kernel_rfl
theorem elemK : ElemW Tryz.prog 139 143 24 3 kz := by
  obtain ⟨i0, hi, hz0, hz1, hz2⟩ := info_parts Tryz.infoK
  exact ⟨Tryz.underlying139, rfl, by omega, i0, hi, hz0, hz1, hz2⟩
theorem kind_at1 (j : Nat) (W : World) (g : Nat) : (Instr.fieldAt 143 (.pointer (some ⟨g, j, none⟩)) 1).run Tryz.prog W = .ok (.pointer (some ⟨g, j + 1, none⟩)) W := by kernel_rfl
theorem uadd_zero (ad : Addr) : ad.add 0 = ad := by unfold Addr.add; split <;> simp_all
set_option maxRecDepth 100000 in
theorem kinds_any (w : World) : Calls Tryz.prog 105 #[] w fun e w' => e = .returned (.slice (some ⟨w.heap.size, 0, none⟩) 4 4) ∧ w' = w.alloc (.cells ukcells.toArray 143) := by
  go_enter Tryz.func105, Tryz.ntmps105
  go_wp2
  go_ret
  exact ⟨rfl, rfl⟩
set_option maxHeartbeats 1000000 in
set_option maxRecDepth 100000 in
theorem uputrep_any (l : List Int) (v : Value) (s : Bool) (w : World) (hv : IsV iv l v w) (hl : ∀ x ∈ l, inInt x) (hb : l.length ≤ 1000000) :
    Calls Tryz.prog 122 #[v, .bool s] w (RetE w (urep l s)) := by
  obtain ⟨A, n, c, rfl⟩ := hv.shape
  have HN := Lib.hid hv.parts.1
  by_cases h0 : n = 0
  · subst h0
    have HE : Hid (urep l s = ([], 1)) := Lib.hid (by unfold urep; rw [if_pos (.inl HN.out)])
    clear hv hl hb
    go_enter Tryz.func122, Tryz.ntmps122
    go_wp2
    go_ret2
    rw [HE.out]
    exact RetE.nil _ (Below.refl _ _)
  · have hn6 : n ≤ 1000000 := by have := HN.out; omega
    have h0i : ((n : Int) == 0) = false := by simp; omega
    have hn0 : (0 : Int) < (n : Int) := by omega
    obtain ⟨u, hu⟩ : ∃ u, u = min (usame l) n := ⟨_, rfl⟩
    have HA := Lib.hid (ualike_any l _ n w hv hb hn6)
    rw [← hu] at HA
    have hun : u = usame l := by have := usame_le l; have := HN.out; omega
    by_cases hlt : u < n
    · have hlti : (u : Int) < (n : Int) := by omega
      have HE : Hid (urep l s = ([], 1)) := Lib.hid (by unfold urep; rw [if_pos (.inr (by rw [← hun, HN.out]; exact hlt))])
      clear hv hl hb hu hun h0
      go_enter Tryz.func122, Tryz.ntmps122
      go_wp2_with fail
      refine HA.out.mono ?_
      rintro e w1 ⟨rfl, hb1⟩
      have HB := Lib.hid hb1
      clear hb1
      go_wp2
      go_ret2
      rw [HE.out]
      exact RetE.nil _ HB.out
    · have hlti : ¬ (u : Int) < (n : Int) := by omega
      have hkl : 0 < l.length := by have := HN.out; omega
      obtain ⟨x0, hx0⟩ : ∃ x, x = l[0] := ⟨_, rfl⟩
      have HE : Hid (urep l s = eput x0 (n : Int) s) := Lib.hid (by
        unfold urep
        rw [if_neg (by rw [← hun, HN.out]; omega), HN.out, hx0]
        congr 1
        cases l with
        | nil => simp at hkl
        | cons y t => rfl)
      have HX := Lib.hid (hl x0 (by rw [hx0]; exact List.getElem_mem hkl))
      obtain ⟨ad, rfl, had, hcell⟩ := hv.at hkl
      have hc0 : w.cell? ad = some (.int .i64 x0) := by
        rw [← uadd_zero ad, hcell, hx0]; rfl
      have HC := Lib.hid hc0
      have HAD := Lib.hid had
      clear hv hl hb hu hun h0 hcell hc0 hx0 had hkl
      go_enter Tryz.func122, Tryz.ntmps122
      go_wp2_with fail
      refine HA.out.mono ?_
      rintro e w1 ⟨rfl, hb1⟩
      have HB := Lib.hid hb1
      have hc1 : w1.cell? ad = some (.int .i64 x0) := (hb1.cell HAD.out).trans HC.out
      clear hb1
      go_wp2_with fail
      refine (eput_any x0 (n : Int) s w1 HX.out.1 HX.out.2).mono ?_
      rintro e w2 ⟨v2, rfl, hv2, hb2⟩
      have HV2 := Lib.hid hv2
      have HB2 := Lib.hid (below_then HB.out hb2)
      clear hv2 hb2
      go_wp2
      go_ret2
      rw [HE.out]
      exact ⟨_, rfl, HV2.out, HB2.out⟩
set_option maxHeartbeats 2000000 in
set_option maxRecDepth 100000 in
theorem uppat1_any (k : Nat) (hk : k < 31) (b1 b2 : Nat) (l : List Int) (v : Value) (s : Bool) (w : World) (ht : WTab w) (hv : IsV iv l v w) (hl : ∀ x ∈ l, inInt x) (hb : l.length ≤ 1000000) (h1 : Row w b1 47 [v]) (h2 : Row w b2 4 [.bool s]) :
    Calls Tryz.prog 158 #[.int .i64 (k : Int), .pointer (some ⟨b1, 0, none⟩), .pointer (some ⟨b2, 0, none⟩)] w (RetE w (pputE l (wof (k : Int)) s)) := by
  have HT := Lib.hid ht
  have HV := Lib.hid hv
  obtain ⟨K, hK⟩ := wof_nat k
  have hK64 := wof_bd (k : Int)
  rw [hK] at hK64 ⊢
  have HOF := Lib.hid (fun W (h : WTab W) => of_any (k : Int) W h (by omega) (by omega))
  rw [hK] at HOF
  have HP := Lib.hid (fun W (h : IsV iv l v W) (ht : WTab W) => pput_any l v (K : Int) s W ht h hl hb (by unfold inInt; omega))
  have HC1 := Lib.hid (show w.cell? ⟨b1, 0, none⟩ = some v from h1.cell 0)
  have HC2 := Lib.hid (show w.cell? ⟨b2, 0, none⟩ = some (.bool s) from h2.cell 0)
  have HL1 := Lib.hid h1.lt
  have HL2 := Lib.hid h2.lt
  obtain ⟨pl, px, hE⟩ : ∃ pl px, pputE l (K : Int) s = (pl, px) := ⟨_, _, rfl⟩
  rw [hE] at HP
  have HE := Lib.hid hE
  clear ht hv hl hb h1 h2 hE hK hK64
  go_enter Tryz.func158, Tryz.ntmps158
  go_wp2_with fail
  refine wp_region_list [.is (v), .is (.int .i64 (k : Int)), .is (.int .i64 (K : Int)), .is (.bool s), .putE (pl) (px), .bytes (pl), .is (.int .i64 px), .bytes (pl), .is (.int .i64 px)] [some 6, some 7, some 8, some 9, some 10, some 11, some 12, some 4, some 5] (by kernel_rfl) (by kernel_rfl) (by kernel_rfl) rfl ⟨?_, ?_, ?_, ?_, ?_, ?_, ?_, ?_, ?_, trivial⟩ ?_
  · intro ρ W1 hb1 H
    exact gives_load rfl (H.old 1 _ (by kernel_rfl) rfl) Tryz.underlying47 rfl ((hb1.cell HL1.out).trans HC1.out) ⟨rfl, Below.refl _ _⟩
  · intro ρ W1 hb1 H
    exact gives_move rfl (H.old 0 _ (by kernel_rfl) rfl) ⟨rfl, Below.refl _ _⟩
  · intro ρ W1 hb1 H
    have e0 : ρ (.tmp 7) = .int .i64 (k : Int) := H.new 7 1 (by kernel_rfl)
    refine gives_call rfl (fun _ _ => by kernel_rfl) (H.func _) (args := #[.int .i64 (k : Int)]) (by simp [e0]) ?_
    exact (HOF.out W1 (HT.out.below hb1 HT.out.lt)).mono fun e w' ⟨h1, h2⟩ => ⟨_, h1, rfl, h2 ▸ Below.refl _ _⟩
  · intro ρ W1 hb1 H
    exact gives_load rfl (H.old 2 _ (by kernel_rfl) rfl) Tryz.underlying4 rfl ((hb1.cell HL2.out).trans HC2.out) ⟨rfl, Below.refl _ _⟩
  · intro ρ W1 hb1 H
    have e0 : ρ (.tmp 6) = v := H.new 6 0 (by kernel_rfl)
    have e1 : ρ (.tmp 8) = .int .i64 (K : Int) := H.new 8 2 (by kernel_rfl)
    have e2 : ρ (.tmp 9) = .bool s := H.new 9 3 (by kernel_rfl)
    refine gives_call rfl (fun _ _ => by kernel_rfl) (H.func _) (args := #[v, .int .i64 (K : Int), .bool s]) (by simp [e0, e1, e2]) ?_
    exact (HP.out W1 (HV.out.below hb1) (HT.out.below hb1 HT.out.lt)).mono fun e w' ⟨b, h1, h2, h3⟩ => ⟨_, h1, ⟨b, rfl, h2⟩, h3⟩
  · intro ρ W1 hb1 H
    obtain ⟨b, h1, h2⟩ := (show ∃ b, ρ (.tmp 10) = .tuple #[b, .int .i64 px] ∧ IsB pl b W1 from H.new 10 4 (by kernel_rfl))
    exact gives_extract rfl h1 rfl ⟨h2, Below.refl _ _⟩
  · intro ρ W1 hb1 H
    obtain ⟨b, h1, h2⟩ := (show ∃ b, ρ (.tmp 10) = .tuple #[b, .int .i64 px] ∧ IsB pl b W1 from H.new 10 4 (by kernel_rfl))
    exact gives_extract rfl h1 rfl ⟨rfl, Below.refl _ _⟩
  · intro ρ W1 hb1 H
    exact gives_assign rfl rfl ⟨H.new 11 5 (by kernel_rfl), Below.refl _ _⟩
  · intro ρ W1 hb1 H
    exact gives_assign rfl (H.new 12 6 (by kernel_rfl)) ⟨rfl, Below.refl _ _⟩
  · intro vs W1 hb1 hfs
    have f7 : IsB (pl) (vs 7) W1 := hfs 7 (by decide)
    have f8 : vs 8 = .int .i64 px := hfs 8 (by decide)
    clear hfs
    simp only [putAll, Nat.zero_add, Nat.reduceAdd]
    generalize vs 0 = z0
    generalize vs 1 = z1
    generalize vs 2 = z2
    generalize vs 3 = z3
    generalize vs 4 = z4
    generalize vs 5 = z5
    generalize vs 6 = z6
    generalize vs 7 = z7 at f7 ⊢
    simp only [f8, Act.put, List.setIfInBounds_toArray, List.set_cons_succ, List.set_cons_zero]
    clear f8
    have HB := Lib.hid f7
    have HW := Lib.hid hb1
    clear f7 hb1
    go_wp2
    go_ret2
    rw [HE.out]
    exact ⟨_, rfl, HB.out, HW.out⟩
theorem unil_eq (W : World) : (binOp .eql 38 (.slice none 0 0) (.slice none 0 0)).run Tryz.prog W = .ok (.bool true) W := Lib.run_eql_slice_nil W _ _ none 0 0 0 0 Tryz.underlying38
theorem unil_ne (ad : Addr) (n c : Nat) (W : World) : (binOp .eql 38 (.slice (some ad) n c) (.slice none 0 0)).run Tryz.prog W = .ok (.bool false) W := Lib.run_eql_slice_nil W _ _ (some ad) n c 0 0 Tryz.underlying38
/-- What best holds. -/
def UBest (o : Option (List UInt8)) (v : Value) (w : World) : Prop := match o with | none => v = .slice none 0 0 | some a => IsB a v w ∧ 1 ≤ a.length
def UBRel (F : Nat → List UInt8 × Int) (N : Nat) (w : World) (b i : Value) (wr : World) : Prop := ∃ k : Nat, k ≤ N ∧ i = .int .i64 (k : Int) ∧ UBest (((List.range k).map F).foldl ubest none) b wr ∧ Below w.heap.size w wr
set_option maxHeartbeats 4000000 in
set_option maxRecDepth 100000 in
theorem ushortest_pat (N : Nat) (F : Nat → List UInt8 × Int) (p1 p2 : Nat) (w : World) (hN : N ≤ 1000) (hf : ∀ (k : Nat) (W : World), k < N → Below w.heap.size w W → Calls Tryz.prog 158 #[.int .i64 (k : Int), .pointer (some ⟨p1, 0, none⟩), .pointer (some ⟨p2, 0, none⟩)] W (RetE W (F k)))
    (hlen : ∀ k, k < N → (F k).2 = 0 → 1 ≤ (F k).1.length) :
    Calls Tryz.prog 106 #[.int .i64 (N : Int), .func (.func 158) #[] #[.pointer (some ⟨p1, 0, none⟩), .pointer (some ⟨p2, 0, none⟩)]] w (RetE w (uans (((List.range N).map F).foldl ubest none))) := by
  have HF := Lib.hid hf
  have HLEN := Lib.hid hlen
  have HS : Hid (UBRel F N w (.slice none 0 0) (.int .i64 0) w) := Lib.hid ⟨0, Nat.zero_le _, rfl, rfl, Below.refl _ _⟩
  clear hf hlen
  go_enter Tryz.func106, Tryz.ntmps106
  go_wp2
  go_loopw [6, 11] (UBRel F N w) (fun _ i _ => N - (intOf i).toNat)
  case atStart => exact HS.out
  case round =>
    obtain ⟨k, hk, rfl, hbest, hbw⟩ := hrel
    clear HS
    have HBW := Lib.hid hbw
    have HFS := Lib.hid (show ((List.range (k + 1)).map F).foldl ubest none = ubest (((List.range k).map F).foldl ubest none) (F k) by
      rw [List.range_succ, List.map_append, List.foldl_append]; rfl)
    obtain ⟨o, ho⟩ : ∃ o, o = ((List.range k).map F).foldl ubest none := ⟨_, rfl⟩
    rw [← ho] at hbest HFS
    have HO := Lib.hid ho
    clear hbw ho
    by_cases hlt : k < N
    · have hlti : (k : Int) < (N : Int) := by omega
      have HFK := Lib.hid (HF.out k wr hlt HBW.out)
      have HLK := Lib.hid (HLEN.out k hlt)
      obtain ⟨fl, fx, hfk⟩ : ∃ fl fx, F k = (fl, fx) := ⟨_, _, rfl⟩
      rw [hfk] at HFK HFS HLK
      clear hfk
      rcases o with _ | a
      · obtain rfl : _ = Value.slice none 0 0 := hbest
        have hnil := unil_eq
        by_cases hx : fx = 0
        · subst hx
          go_wp2_with (go_at_call 158; refine HFK.out.mono ?_; rintro e w2 ⟨v2, rfl, hv2, hb2⟩; have HV2 := Lib.hid hv2; have HB2 := Lib.hid (below_then HBW.out hb2); clear hv2 hb2)
          go_roundw
          case rel => exact ⟨k + 1, hlt, by go_num, by rw [HFS.out, ubest_none rfl]; exact ⟨HV2.out, HLK.out (by trivial)⟩, HB2.out⟩
          case measure => simp [intOf]; omega
        · have d1 : (fx == 0) = false := by simpa using hx
          have HX := Lib.hid hx
          clear hx
          go_wp2_with (go_at_call 158; refine HFK.out.mono ?_; rintro e w2 ⟨v2, rfl, hv2, hb2⟩; have HV2 := Lib.hid hv2; have HB2 := Lib.hid (below_then HBW.out hb2); clear hv2 hb2)
          go_roundw
          case rel => exact ⟨k + 1, hlt, by go_num, by rw [HFS.out, ubest_bad HX.out]; rfl, HB2.out⟩
          case measure => simp [intOf]; omega
      · obtain ⟨ha, ha1⟩ := hbest
        obtain ⟨A6, n6, c6, rfl⟩ := IsV.shape (f := bv) ha
        have hp6 := IsV.parts (f := bv) (show IsV bv a _ _ from ha)
        have HN6 := Lib.hid hp6.1
        have hn61 : 1 ≤ n6 := by rw [← hp6.1]; exact ha1
        have hci6 : (n6 : Int) ≤ 9223372036854775807 := by have h1 := hp6.2.2.1; have h2 := hp6.2.2.2.1; unfold maxLen at h2; omega
        have hAs : ∃ ad, A6 = some ad := by
          cases A6 with
          | none => have := hp6.2.1 rfl; omega
          | some ad => exact ⟨ad, rfl⟩
        obtain ⟨ad6, rfl⟩ := hAs
        have hnil := fun W => unil_ne ad6 n6 c6 W
        have HA := Lib.hid ha
        have HA1 := Lib.hid ha1
        clear ha ha1 hp6
        by_cases hx : fx = 0
        · subst hx
          go_wp2_with fail
          refine HFK.out.mono ?_
          rintro e w2 ⟨v2, rfl, hv2, hb2⟩
          obtain ⟨A8, n8, c8, rfl⟩ := IsV.shape (f := bv) hv2
          have hn8 := (IsV.parts (f := bv) (show IsV bv fl _ _ from hv2)).1
          have HN8 := Lib.hid hn8
          have HV2 := Lib.hid hv2
          have HB2 := Lib.hid (below_then HBW.out hb2)
          have HA2 := Lib.hid (IsB.below HA.out hb2)
          clear hv2 hb2 hn8
          by_cases hlt8 : n8 < n6
          · have hlt8i : (n8 : Int) < (n6 : Int) := by omega
            have d2 : decide ((n8 : Int) < (n6 : Int)) = true := decide_eq_true hlt8i
            go_wp2
            go_roundw
            case rel => exact ⟨k + 1, hlt, by go_num, by rw [HFS.out, ubest_less rfl (by have := HN8.out; have := HN6.out; dsimp only; omega)]; exact ⟨HV2.out, HLK.out (by trivial)⟩, HB2.out⟩
            case measure => simp [intOf]; omega
          · have hlt8i : ¬ (n8 : Int) < (n6 : Int) := by omega
            have d2 : decide ((n8 : Int) < (n6 : Int)) = false := decide_eq_false hlt8i
            go_wp2
            go_roundw
            case rel => exact ⟨k + 1, hlt, by go_num, by rw [HFS.out, ubest_more (by have := HN8.out; have := HN6.out; dsimp only; omega)]; exact ⟨HA2.out, HA1.out⟩, HB2.out⟩
            case measure => simp [intOf]; omega
        · have d1 : (fx == 0) = false := by simpa using hx
          have HX := Lib.hid hx
          clear hx
          go_wp2_with (go_at_call 158; refine HFK.out.mono ?_; rintro e w2 ⟨v2, rfl, hv2, hb2⟩; have HB2 := Lib.hid (below_then HBW.out hb2); have HA2 := Lib.hid (IsB.below HA.out hb2); clear hv2 hb2)
          go_roundw
          case rel => exact ⟨k + 1, hlt, by go_num, by rw [HFS.out, ubest_bad HX.out]; exact ⟨HA2.out, HA1.out⟩, HB2.out⟩
          case measure => simp [intOf]; omega
    · obtain rfl : k = N := by omega
      have hlti : ¬ (k : Int) < (k : Int) := by omega
      rcases o with _ | a
      · obtain rfl : _ = Value.slice none 0 0 := hbest
        have hnil := unil_eq
        go_wp2
        go_ret2
        rw [← HO.out]
        exact RetE.nil _ HBW.out
      · obtain ⟨ha, ha1⟩ := hbest
        obtain ⟨A6, n6, c6, rfl⟩ := IsV.shape (f := bv) ha
        have hp6 := IsV.parts (f := bv) (show IsV bv a _ _ from ha)
        have hn61 : 1 ≤ n6 := by rw [← hp6.1]; exact ha1
        have hAs : ∃ ad, A6 = some ad := by
          cases A6 with
          | none => have := hp6.2.1 rfl; omega
          | some ad => exact ⟨ad, rfl⟩
        obtain ⟨ad6, rfl⟩ := hAs
        have hnil := fun W => unil_ne ad6 n6 c6 W
        have HA := Lib.hid ha
        clear ha ha1 hp6
        go_wp2
        go_ret2
        rw [← HO.out]
        exact ⟨_, rfl, HA.out, HBW.out⟩
set_option maxHeartbeats 4000000 in
set_option maxRecDepth 100000 in
theorem ushortest_run (N : Nat) (F : Nat → List UInt8 × Int) (p6 p2 p3 : Nat) (w : World) (hN : N ≤ 1000) (hf : ∀ (k : Nat) (W : World), k < N → Below w.heap.size w W → Calls Tryz.prog 107 #[.int .i64 (k : Int), .pointer (some ⟨p6, 0, none⟩), .pointer (some ⟨p2, 0, none⟩), .pointer (some ⟨p3, 0, none⟩)] W (RetE W (F k)))
    (hlen : ∀ k, k < N → (F k).2 = 0 → 1 ≤ (F k).1.length) :
    Calls Tryz.prog 106 #[.int .i64 (N : Int), .func (.func 107) #[] #[.pointer (some ⟨p6, 0, none⟩), .pointer (some ⟨p2, 0, none⟩), .pointer (some ⟨p3, 0, none⟩)]] w (RetE w (uans (((List.range N).map F).foldl ubest none))) := by
  have HF := Lib.hid hf
  have HLEN := Lib.hid hlen
  have HS : Hid (UBRel F N w (.slice none 0 0) (.int .i64 0) w) := Lib.hid ⟨0, Nat.zero_le _, rfl, rfl, Below.refl _ _⟩
  clear hf hlen
  go_enter Tryz.func106, Tryz.ntmps106
  go_wp2
  go_loopw [6, 11] (UBRel F N w) (fun _ i _ => N - (intOf i).toNat)
  case atStart => exact HS.out
  case round =>
    obtain ⟨k, hk, rfl, hbest, hbw⟩ := hrel
    clear HS
    have HBW := Lib.hid hbw
    have HFS := Lib.hid (show ((List.range (k + 1)).map F).foldl ubest none = ubest (((List.range k).map F).foldl ubest none) (F k) by
      rw [List.range_succ, List.map_append, List.foldl_append]; rfl)
    obtain ⟨o, ho⟩ : ∃ o, o = ((List.range k).map F).foldl ubest none := ⟨_, rfl⟩
    rw [← ho] at hbest HFS
    have HO := Lib.hid ho
    clear hbw ho
    by_cases hlt : k < N
    · have hlti : (k : Int) < (N : Int) := by omega
      have HFK := Lib.hid (HF.out k wr hlt HBW.out)
      have HLK := Lib.hid (HLEN.out k hlt)
      obtain ⟨fl, fx, hfk⟩ : ∃ fl fx, F k = (fl, fx) := ⟨_, _, rfl⟩
      rw [hfk] at HFK HFS HLK
      clear hfk
      rcases o with _ | a
      · obtain rfl : _ = Value.slice none 0 0 := hbest
        have hnil := unil_eq
        by_cases hx : fx = 0
        · subst hx
          go_wp2_with (go_at_call 107; refine HFK.out.mono ?_; rintro e w2 ⟨v2, rfl, hv2, hb2⟩; have HV2 := Lib.hid hv2; have HB2 := Lib.hid (below_then HBW.out hb2); clear hv2 hb2)
          go_roundw
          case rel => exact ⟨k + 1, hlt, by go_num, by rw [HFS.out, ubest_none rfl]; exact ⟨HV2.out, HLK.out (by trivial)⟩, HB2.out⟩
          case measure => simp [intOf]; omega
        · have d1 : (fx == 0) = false := by simpa using hx
          have HX := Lib.hid hx
          clear hx
          go_wp2_with (go_at_call 107; refine HFK.out.mono ?_; rintro e w2 ⟨v2, rfl, hv2, hb2⟩; have HV2 := Lib.hid hv2; have HB2 := Lib.hid (below_then HBW.out hb2); clear hv2 hb2)
          go_roundw
          case rel => exact ⟨k + 1, hlt, by go_num, by rw [HFS.out, ubest_bad HX.out]; rfl, HB2.out⟩
          case measure => simp [intOf]; omega
      · obtain ⟨ha, ha1⟩ := hbest
        obtain ⟨A6, n6, c6, rfl⟩ := IsV.shape (f := bv) ha
        have hp6 := IsV.parts (f := bv) (show IsV bv a _ _ from ha)
        have HN6 := Lib.hid hp6.1
        have hn61 : 1 ≤ n6 := by rw [← hp6.1]; exact ha1
        have hci6 : (n6 : Int) ≤ 9223372036854775807 := by have h1 := hp6.2.2.1; have h2 := hp6.2.2.2.1; unfold maxLen at h2; omega
        have hAs : ∃ ad, A6 = some ad := by
          cases A6 with
          | none => have := hp6.2.1 rfl; omega
          | some ad => exact ⟨ad, rfl⟩
        obtain ⟨ad6, rfl⟩ := hAs
        have hnil := fun W => unil_ne ad6 n6 c6 W
        have HA := Lib.hid ha
        have HA1 := Lib.hid ha1
        clear ha ha1 hp6
        by_cases hx : fx = 0
        · subst hx
          go_wp2_with fail
          refine HFK.out.mono ?_
          rintro e w2 ⟨v2, rfl, hv2, hb2⟩
          obtain ⟨A8, n8, c8, rfl⟩ := IsV.shape (f := bv) hv2
          have hn8 := (IsV.parts (f := bv) (show IsV bv fl _ _ from hv2)).1
          have HN8 := Lib.hid hn8
          have HV2 := Lib.hid hv2
          have HB2 := Lib.hid (below_then HBW.out hb2)
          have HA2 := Lib.hid (IsB.below HA.out hb2)
          clear hv2 hb2 hn8
          by_cases hlt8 : n8 < n6
          · have hlt8i : (n8 : Int) < (n6 : Int) := by omega
            have d2 : decide ((n8 : Int) < (n6 : Int)) = true := decide_eq_true hlt8i
            go_wp2
            go_roundw
            case rel => exact ⟨k + 1, hlt, by go_num, by rw [HFS.out, ubest_less rfl (by have := HN8.out; have := HN6.out; dsimp only; omega)]; exact ⟨HV2.out, HLK.out (by trivial)⟩, HB2.out⟩
            case measure => simp [intOf]; omega
          · have hlt8i : ¬ (n8 : Int) < (n6 : Int) := by omega
            have d2 : decide ((n8 : Int) < (n6 : Int)) = false := decide_eq_false hlt8i
            go_wp2
            go_roundw
            case rel => exact ⟨k + 1, hlt, by go_num, by rw [HFS.out, ubest_more (by have := HN8.out; have := HN6.out; dsimp only; omega)]; exact ⟨HA2.out, HA1.out⟩, HB2.out⟩
            case measure => simp [intOf]; omega
        · have d1 : (fx == 0) = false := by simpa using hx
          have HX := Lib.hid hx
          clear hx
          go_wp2_with (go_at_call 107; refine HFK.out.mono ?_; rintro e w2 ⟨v2, rfl, hv2, hb2⟩; have HB2 := Lib.hid (below_then HBW.out hb2); have HA2 := Lib.hid (IsB.below HA.out hb2); clear hv2 hb2)
          go_roundw
          case rel => exact ⟨k + 1, hlt, by go_num, by rw [HFS.out, ubest_bad HX.out]; exact ⟨HA2.out, HA1.out⟩, HB2.out⟩
          case measure => simp [intOf]; omega
    · obtain rfl : k = N := by omega
      have hlti : ¬ (k : Int) < (k : Int) := by omega
      rcases o with _ | a
      · obtain rfl : _ = Value.slice none 0 0 := hbest
        have hnil := unil_eq
        go_wp2
        go_ret2
        rw [← HO.out]
        exact RetE.nil _ HBW.out
      · obtain ⟨ha, ha1⟩ := hbest
        obtain ⟨A6, n6, c6, rfl⟩ := IsV.shape (f := bv) ha
        have hp6 := IsV.parts (f := bv) (show IsV bv a _ _ from ha)
        have hn61 : 1 ≤ n6 := by rw [← hp6.1]; exact ha1
        have hAs : ∃ ad, A6 = some ad := by
          cases A6 with
          | none => have := hp6.2.1 rfl; omega
          | some ad => exact ⟨ad, rfl⟩
        obtain ⟨ad6, rfl⟩ := hAs
        have hnil := fun W => unil_ne ad6 n6 c6 W
        have HA := Lib.hid ha
        clear ha ha1 hp6
        go_wp2
        go_ret2
        rw [← HO.out]
        exact ⟨_, rfl, HA.out, HBW.out⟩
set_option maxHeartbeats 1000000 in
set_option maxRecDepth 100000 in
theorem uputpat_any (l : List Int) (v : Value) (s : Bool) (w : World) (ht : WTab w) (hv : IsV iv l v w) (hl : ∀ x ∈ l, inInt x) (hb : l.length ≤ 1000000) :
    Calls Tryz.prog 128 #[v, .bool s] w (RetE w (upat l s)) := by
  obtain ⟨A, n, c, rfl⟩ := hv.shape
  obtain ⟨v, hv0⟩ : ∃ v, v = Value.slice A n c := ⟨_, rfl⟩
  rw [← hv0] at hv
  obtain ⟨w1, hw1⟩ : ∃ w1, w1 = (w.alloc (.cells #[v] 47)).alloc (.cells #[.bool s] 4) := ⟨_, rfl⟩
  have hb1 : Below w.heap.size w w1 := by rw [hw1]; exact ((Below.refl _ _).alloc (Nat.le_refl _) _).alloc (by simp) _
  have r1 : Row w1 w.heap.size 47 [v] := by
    have h0 : Row (w.alloc (.cells #[v] 47)) w.heap.size 47 [v] := heap_alloc_new w _
    rw [hw1]; exact h0.alloc _
  have r2 : Row w1 (w.heap.size + 1) 4 [.bool s] := by
    rw [hw1]
    have h0 := heap_alloc_new (w.alloc (.cells #[v] 47)) (.cells #[.bool s] 4)
    rw [show (w.alloc (.cells #[v] 47)).heap.size = w.heap.size + 1 by simp] at h0
    exact h0
  have HS := Lib.hid (ushortest_pat 31 (fun c : Nat => pputE l (wof (c : Int)) s) w.heap.size (w.heap.size + 1) w1 (by omega)
    (fun k W hk hW => uppat1_any k hk _ _ l v s W (ht.below (below_then hb1 hW) ht.lt) (hv.below (below_then hb1 hW)) hl hb (r1.below hW r1.lt) (r2.below hW r2.lt))
    (fun k hk h0 => Nat.pos_of_ne_zero (ulen_pput h0)))
  have HE := Lib.hid (show uans (((List.range 31).map fun c : Nat => pputE l (wof (c : Int)) s).foldl ubest none) = upat l s from rfl)
  rw [HE.out, show ((31 : Nat) : Int) = 31 from rfl] at HS
  have HB := Lib.hid hb1
  rw [hw1, hv0] at HS HB
  clear ht hv hl hb r1 r2 hw1 hb1
  go_enter Tryz.func128, Tryz.ntmps128
  go_wp2_with (go_at_call 106; refine HS.out.mono ?_; rintro e w2 ⟨v2, rfl, hv2, hb2⟩; have HV2 := Lib.hid hv2; have HB2 := Lib.hid (below_then HB.out hb2); clear hv2 hb2)
  go_ret2
  exact ⟨_, rfl, HV2.out, HB2.out⟩
set_option maxHeartbeats 4000000 in
set_option maxRecDepth 100000 in
theorem urun1_0 (p6 p2 p3 g : Nat) (l : List Int) (v : Value) (s : Bool) (w : World) (ht : WTab w) (hv : IsV iv l v w) (hl : ∀ x ∈ l, inInt x) (hb : l.length ≤ 1000000)
    (h6 : Row w p6 139 [.slice (some ⟨g, 0, none⟩) 4 4]) (h2 : Row w p2 47 [v]) (h3 : Row w p3 4 [.bool s]) (hg : Row w g 143 ukcells) :
    Calls Tryz.prog 107 #[.int .i64 0, .pointer (some ⟨p6, 0, none⟩), .pointer (some ⟨p2, 0, none⟩), .pointer (some ⟨p3, 0, none⟩)] w (RetE w (urep l s)) := by
  have HT := Lib.hid ht
  have HV := Lib.hid hv
  have HPR := Lib.hid (fun W (h : IsV iv l v W) (ht : WTab W) => uputrep_any l v s W h hl hb)
  have HC6 := Lib.hid (show w.cell? ⟨p6, 0, none⟩ = some (.slice (some ⟨g, 0, none⟩) 4 4) from h6.cell 0)
  have HC2 := Lib.hid (show w.cell? ⟨p2, 0, none⟩ = some v from h2.cell 0)
  have HC3 := Lib.hid (show w.cell? ⟨p3, 0, none⟩ = some (.bool s) from h3.cell 0)
  have HF := Lib.hid (show w.cell? ⟨g, 1, none⟩ = some (.func (.func 122) #[] #[]) from hg.cell 1)
  have HL6 := Lib.hid h6.lt
  have HL2 := Lib.hid h2.lt
  have HL3 := Lib.hid h3.lt
  have HLG := Lib.hid hg.lt
  obtain ⟨pl, px, hE⟩ : ∃ pl px, urep l s = (pl, px) := ⟨_, _, rfl⟩
  rw [hE] at HPR
  have HE := Lib.hid hE
  clear ht hv hl hb h6 h2 h3 hg hE
  go_enter Tryz.func107, Tryz.ntmps107
  go_wp2_with fail
  refine wp_region_list [.is (.slice (some ⟨g, 0, none⟩) 4 4), .is (.int .i64 0), .is (.pointer (some ⟨g, 0, none⟩)), .is (.pointer (some ⟨g, 1, none⟩)), .is (.func (.func 122) #[] #[]), .is (v), .is (.bool s), .putE (pl) (px), .bytes (pl), .is (.int .i64 px), .bytes (pl), .is (.int .i64 px)] [some 7, some 8, some 9, some 10, some 11, some 12, some 13, some 14, some 15, some 16, some 5, some 6] (by kernel_rfl) (by kernel_rfl) (by kernel_rfl) rfl ⟨?_, ?_, ?_, ?_, ?_, ?_, ?_, ?_, ?_, ?_, ?_, ?_, trivial⟩ ?_
  · intro ρ W1 hb1 H
    exact gives_load rfl (H.old 1 _ (by kernel_rfl) rfl) Tryz.underlying139 rfl ((hb1.cell HL6.out).trans HC6.out) ⟨rfl, Below.refl _ _⟩
  · intro ρ W1 hb1 H
    exact gives_move rfl (H.old 0 _ (by kernel_rfl) rfl) ⟨rfl, Below.refl _ _⟩
  · intro ρ W1 hb1 H
    exact gives_indexW (k := 0) elemK rfl (H.new 7 0 (by kernel_rfl)) (H.new 8 1 (by kernel_rfl)) (by omega) ⟨congrArg (fun q => Value.pointer (some q)) (by simp [Addr.add]), Below.refl _ _⟩
  · intro ρ W1 hb1 H
    exact gives_field rfl (H.new 9 2 (by kernel_rfl)) (fun W => kind_at1 0 W _) ⟨rfl, Below.refl _ _⟩
  · intro ρ W1 hb1 H
    exact gives_load rfl (H.new 10 3 (by kernel_rfl)) Tryz.underlying50 rfl ((hb1.cell HLG.out).trans HF.out) ⟨rfl, Below.refl _ _⟩
  · intro ρ W1 hb1 H
    exact gives_load rfl (H.old 2 _ (by kernel_rfl) rfl) Tryz.underlying47 rfl ((hb1.cell HL2.out).trans HC2.out) ⟨rfl, Below.refl _ _⟩
  · intro ρ W1 hb1 H
    exact gives_load rfl (H.old 3 _ (by kernel_rfl) rfl) Tryz.underlying4 rfl ((hb1.cell HL3.out).trans HC3.out) ⟨rfl, Below.refl _ _⟩
  · intro ρ W1 hb1 H
    have e0 : ρ (.tmp 12) = v := H.new 12 5 (by kernel_rfl)
    have e1 : ρ (.tmp 13) = .bool s := H.new 13 6 (by kernel_rfl)
    refine gives_callV rfl (fun _ _ => by kernel_rfl) (H.new 11 4 (by kernel_rfl)) (args := #[v, .bool s]) (by simp [e0, e1]) ?_
    exact (HPR.out W1 (HV.out.below hb1) (HT.out.below hb1 HT.out.lt)).mono fun e w' ⟨b, h1, h2, h3⟩ => ⟨_, h1, ⟨b, rfl, h2⟩, h3⟩
  · intro ρ W1 hb1 H
    obtain ⟨b, h1, h2⟩ := (show ∃ b, ρ (.tmp 14) = .tuple #[b, .int .i64 px] ∧ IsB pl b W1 from H.new 14 7 (by kernel_rfl))
    exact gives_extract rfl h1 rfl ⟨h2, Below.refl _ _⟩
  · intro ρ W1 hb1 H
    obtain ⟨b, h1, h2⟩ := (show ∃ b, ρ (.tmp 14) = .tuple #[b, .int .i64 px] ∧ IsB pl b W1 from H.new 14 7 (by kernel_rfl))
    exact gives_extract rfl h1 rfl ⟨rfl, Below.refl _ _⟩
  · intro ρ W1 hb1 H
    exact gives_assign rfl rfl ⟨H.new 15 8 (by kernel_rfl), Below.refl _ _⟩
  · intro ρ W1 hb1 H
    exact gives_assign rfl (H.new 16 9 (by kernel_rfl)) ⟨rfl, Below.refl _ _⟩
  · intro vs W1 hb1 hfs
    have f10 : IsB (pl) (vs 10) W1 := hfs 10 (by decide)
    have f11 : vs 11 = .int .i64 px := hfs 11 (by decide)
    clear hfs
    simp only [putAll, Nat.zero_add, Nat.reduceAdd]
    generalize vs 0 = z0
    generalize vs 1 = z1
    generalize vs 2 = z2
    generalize vs 3 = z3
    generalize vs 4 = z4
    generalize vs 5 = z5
    generalize vs 6 = z6
    generalize vs 7 = z7
    generalize vs 8 = z8
    generalize vs 9 = z9
    generalize vs 10 = z10 at f10 ⊢
    simp only [f11, Act.put, List.setIfInBounds_toArray, List.set_cons_succ, List.set_cons_zero]
    clear f11
    have HB := Lib.hid f10
    have HW := Lib.hid hb1
    clear f10 hb1
    go_wp2
    go_ret2
    rw [HE.out]
    exact ⟨_, rfl, HB.out, HW.out⟩
set_option maxHeartbeats 4000000 in
set_option maxRecDepth 100000 in
theorem urun1_1 (p6 p2 p3 g : Nat) (l : List Int) (v : Value) (s : Bool) (w : World) (ht : WTab w) (hv : IsV iv l v w) (hl : ∀ x ∈ l, inInt x) (hb : l.length ≤ 1000000)
    (h6 : Row w p6 139 [.slice (some ⟨g, 0, none⟩) 4 4]) (h2 : Row w p2 47 [v]) (h3 : Row w p3 4 [.bool s]) (hg : Row w g 143 ukcells) :
    Calls Tryz.prog 107 #[.int .i64 1, .pointer (some ⟨p6, 0, none⟩), .pointer (some ⟨p2, 0, none⟩), .pointer (some ⟨p3, 0, none⟩)] w (RetE w (dputE l s)) := by
  have HT := Lib.hid ht
  have HV := Lib.hid hv
  have HPD := Lib.hid (fun W (h : IsV iv l v W) (ht : WTab W) => dput_any l v s W ht h hl hb)
  have HC6 := Lib.hid (show w.cell? ⟨p6, 0, none⟩ = some (.slice (some ⟨g, 0, none⟩) 4 4) from h6.cell 0)
  have HC2 := Lib.hid (show w.cell? ⟨p2, 0, none⟩ = some v from h2.cell 0)
  have HC3 := Lib.hid (show w.cell? ⟨p3, 0, none⟩ = some (.bool s) from h3.cell 0)
  have HF := Lib.hid (show w.cell? ⟨g, 4, none⟩ = some (.func (.func 124) #[] #[]) from hg.cell 4)
  have HL6 := Lib.hid h6.lt
  have HL2 := Lib.hid h2.lt
  have HL3 := Lib.hid h3.lt
  have HLG := Lib.hid hg.lt
  obtain ⟨pl, px, hE⟩ : ∃ pl px, dputE l s = (pl, px) := ⟨_, _, rfl⟩
  rw [hE] at HPD
  have HE := Lib.hid hE
  clear ht hv hl hb h6 h2 h3 hg hE
  go_enter Tryz.func107, Tryz.ntmps107
  go_wp2_with fail
  refine wp_region_list [.is (.slice (some ⟨g, 0, none⟩) 4 4), .is (.int .i64 1), .is (.pointer (some ⟨g, 3, none⟩)), .is (.pointer (some ⟨g, 4, none⟩)), .is (.func (.func 124) #[] #[]), .is (v), .is (.bool s), .putE (pl) (px), .bytes (pl), .is (.int .i64 px), .bytes (pl), .is (.int .i64 px)] [some 7, some 8, some 9, some 10, some 11, some 12, some 13, some 14, some 15, some 16, some 5, some 6] (by kernel_rfl) (by kernel_rfl) (by kernel_rfl) rfl ⟨?_, ?_, ?_, ?_, ?_, ?_, ?_, ?_, ?_, ?_, ?_, ?_, trivial⟩ ?_
  · intro ρ W1 hb1 H
    exact gives_load rfl (H.old 1 _ (by kernel_rfl) rfl) Tryz.underlying139 rfl ((hb1.cell HL6.out).trans HC6.out) ⟨rfl, Below.refl _ _⟩
  · intro ρ W1 hb1 H
    exact gives_move rfl (H.old 0 _ (by kernel_rfl) rfl) ⟨rfl, Below.refl _ _⟩
  · intro ρ W1 hb1 H
    exact gives_indexW (k := 1) elemK rfl (H.new 7 0 (by kernel_rfl)) (H.new 8 1 (by kernel_rfl)) (by omega) ⟨congrArg (fun q => Value.pointer (some q)) (by simp [Addr.add]), Below.refl _ _⟩
  · intro ρ W1 hb1 H
    exact gives_field rfl (H.new 9 2 (by kernel_rfl)) (fun W => kind_at1 3 W _) ⟨rfl, Below.refl _ _⟩
  · intro ρ W1 hb1 H
    exact gives_load rfl (H.new 10 3 (by kernel_rfl)) Tryz.underlying50 rfl ((hb1.cell HLG.out).trans HF.out) ⟨rfl, Below.refl _ _⟩
  · intro ρ W1 hb1 H
    exact gives_load rfl (H.old 2 _ (by kernel_rfl) rfl) Tryz.underlying47 rfl ((hb1.cell HL2.out).trans HC2.out) ⟨rfl, Below.refl _ _⟩
  · intro ρ W1 hb1 H
    exact gives_load rfl (H.old 3 _ (by kernel_rfl) rfl) Tryz.underlying4 rfl ((hb1.cell HL3.out).trans HC3.out) ⟨rfl, Below.refl _ _⟩
  · intro ρ W1 hb1 H
    have e0 : ρ (.tmp 12) = v := H.new 12 5 (by kernel_rfl)
    have e1 : ρ (.tmp 13) = .bool s := H.new 13 6 (by kernel_rfl)
    refine gives_callV rfl (fun _ _ => by kernel_rfl) (H.new 11 4 (by kernel_rfl)) (args := #[v, .bool s]) (by simp [e0, e1]) ?_
    exact (HPD.out W1 (HV.out.below hb1) (HT.out.below hb1 HT.out.lt)).mono fun e w' ⟨b, h1, h2, h3⟩ => ⟨_, h1, ⟨b, rfl, h2⟩, h3⟩
  · intro ρ W1 hb1 H
    obtain ⟨b, h1, h2⟩ := (show ∃ b, ρ (.tmp 14) = .tuple #[b, .int .i64 px] ∧ IsB pl b W1 from H.new 14 7 (by kernel_rfl))
    exact gives_extract rfl h1 rfl ⟨h2, Below.refl _ _⟩
  · intro ρ W1 hb1 H
    obtain ⟨b, h1, h2⟩ := (show ∃ b, ρ (.tmp 14) = .tuple #[b, .int .i64 px] ∧ IsB pl b W1 from H.new 14 7 (by kernel_rfl))
    exact gives_extract rfl h1 rfl ⟨rfl, Below.refl _ _⟩
  · intro ρ W1 hb1 H
    exact gives_assign rfl rfl ⟨H.new 15 8 (by kernel_rfl), Below.refl _ _⟩
  · intro ρ W1 hb1 H
    exact gives_assign rfl (H.new 16 9 (by kernel_rfl)) ⟨rfl, Below.refl _ _⟩
  · intro vs W1 hb1 hfs
    have f10 : IsB (pl) (vs 10) W1 := hfs 10 (by decide)
    have f11 : vs 11 = .int .i64 px := hfs 11 (by decide)
    clear hfs
    simp only [putAll, Nat.zero_add, Nat.reduceAdd]
    generalize vs 0 = z0
    generalize vs 1 = z1
    generalize vs 2 = z2
    generalize vs 3 = z3
    generalize vs 4 = z4
    generalize vs 5 = z5
    generalize vs 6 = z6
    generalize vs 7 = z7
    generalize vs 8 = z8
    generalize vs 9 = z9
    generalize vs 10 = z10 at f10 ⊢
    simp only [f11, Act.put, List.setIfInBounds_toArray, List.set_cons_succ, List.set_cons_zero]
    clear f11
    have HB := Lib.hid f10
    have HW := Lib.hid hb1
    clear f10 hb1
    go_wp2
    go_ret2
    rw [HE.out]
    exact ⟨_, rfl, HB.out, HW.out⟩
set_option maxHeartbeats 4000000 in
set_option maxRecDepth 100000 in
theorem urun1_2 (p6 p2 p3 g : Nat) (l : List Int) (v : Value) (s : Bool) (w : World) (ht : WTab w) (hv : IsV iv l v w) (hl : ∀ x ∈ l, inInt x) (hb : l.length ≤ 1000000)
    (h6 : Row w p6 139 [.slice (some ⟨g, 0, none⟩) 4 4]) (h2 : Row w p2 47 [v]) (h3 : Row w p3 4 [.bool s]) (hg : Row w g 143 ukcells) :
    Calls Tryz.prog 107 #[.int .i64 2, .pointer (some ⟨p6, 0, none⟩), .pointer (some ⟨p2, 0, none⟩), .pointer (some ⟨p3, 0, none⟩)] w (RetE w (gputE l s)) := by
  have HT := Lib.hid ht
  have HV := Lib.hid hv
  have HPG := Lib.hid (fun W (h : IsV iv l v W) (ht : WTab W) => tput_any l v s W ht h hl hb)
  have HC6 := Lib.hid (show w.cell? ⟨p6, 0, none⟩ = some (.slice (some ⟨g, 0, none⟩) 4 4) from h6.cell 0)
  have HC2 := Lib.hid (show w.cell? ⟨p2, 0, none⟩ = some v from h2.cell 0)
  have HC3 := Lib.hid (show w.cell? ⟨p3, 0, none⟩ = some (.bool s) from h3.cell 0)
  have HF := Lib.hid (show w.cell? ⟨g, 7, none⟩ = some (.func (.func 126) #[] #[]) from hg.cell 7)
  have HL6 := Lib.hid h6.lt
  have HL2 := Lib.hid h2.lt
  have HL3 := Lib.hid h3.lt
  have HLG := Lib.hid hg.lt
  obtain ⟨pl, px, hE⟩ : ∃ pl px, gputE l s = (pl, px) := ⟨_, _, rfl⟩
  rw [hE] at HPG
  have HE := Lib.hid hE
  clear ht hv hl hb h6 h2 h3 hg hE
  go_enter Tryz.func107, Tryz.ntmps107
  go_wp2_with fail
  refine wp_region_list [.is (.slice (some ⟨g, 0, none⟩) 4 4), .is (.int .i64 2), .is (.pointer (some ⟨g, 6, none⟩)), .is (.pointer (some ⟨g, 7, none⟩)), .is (.func (.func 126) #[] #[]), .is (v), .is (.bool s), .putE (pl) (px), .bytes (pl), .is (.int .i64 px), .bytes (pl), .is (.int .i64 px)] [some 7, some 8, some 9, some 10, some 11, some 12, some 13, some 14, some 15, some 16, some 5, some 6] (by kernel_rfl) (by kernel_rfl) (by kernel_rfl) rfl ⟨?_, ?_, ?_, ?_, ?_, ?_, ?_, ?_, ?_, ?_, ?_, ?_, trivial⟩ ?_
  · intro ρ W1 hb1 H
    exact gives_load rfl (H.old 1 _ (by kernel_rfl) rfl) Tryz.underlying139 rfl ((hb1.cell HL6.out).trans HC6.out) ⟨rfl, Below.refl _ _⟩
  · intro ρ W1 hb1 H
    exact gives_move rfl (H.old 0 _ (by kernel_rfl) rfl) ⟨rfl, Below.refl _ _⟩
  · intro ρ W1 hb1 H
    exact gives_indexW (k := 2) elemK rfl (H.new 7 0 (by kernel_rfl)) (H.new 8 1 (by kernel_rfl)) (by omega) ⟨congrArg (fun q => Value.pointer (some q)) (by simp [Addr.add]), Below.refl _ _⟩
  · intro ρ W1 hb1 H
    exact gives_field rfl (H.new 9 2 (by kernel_rfl)) (fun W => kind_at1 6 W _) ⟨rfl, Below.refl _ _⟩
  · intro ρ W1 hb1 H
    exact gives_load rfl (H.new 10 3 (by kernel_rfl)) Tryz.underlying50 rfl ((hb1.cell HLG.out).trans HF.out) ⟨rfl, Below.refl _ _⟩
  · intro ρ W1 hb1 H
    exact gives_load rfl (H.old 2 _ (by kernel_rfl) rfl) Tryz.underlying47 rfl ((hb1.cell HL2.out).trans HC2.out) ⟨rfl, Below.refl _ _⟩
  · intro ρ W1 hb1 H
    exact gives_load rfl (H.old 3 _ (by kernel_rfl) rfl) Tryz.underlying4 rfl ((hb1.cell HL3.out).trans HC3.out) ⟨rfl, Below.refl _ _⟩
  · intro ρ W1 hb1 H
    have e0 : ρ (.tmp 12) = v := H.new 12 5 (by kernel_rfl)
    have e1 : ρ (.tmp 13) = .bool s := H.new 13 6 (by kernel_rfl)
    refine gives_callV rfl (fun _ _ => by kernel_rfl) (H.new 11 4 (by kernel_rfl)) (args := #[v, .bool s]) (by simp [e0, e1]) ?_
    exact (HPG.out W1 (HV.out.below hb1) (HT.out.below hb1 HT.out.lt)).mono fun e w' ⟨b, h1, h2, h3⟩ => ⟨_, h1, ⟨b, rfl, h2⟩, h3⟩
  · intro ρ W1 hb1 H
    obtain ⟨b, h1, h2⟩ := (show ∃ b, ρ (.tmp 14) = .tuple #[b, .int .i64 px] ∧ IsB pl b W1 from H.new 14 7 (by kernel_rfl))
    exact gives_extract rfl h1 rfl ⟨h2, Below.refl _ _⟩
  · intro ρ W1 hb1 H
    obtain ⟨b, h1, h2⟩ := (show ∃ b, ρ (.tmp 14) = .tuple #[b, .int .i64 px] ∧ IsB pl b W1 from H.new 14 7 (by kernel_rfl))
    exact gives_extract rfl h1 rfl ⟨rfl, Below.refl _ _⟩
  · intro ρ W1 hb1 H
    exact gives_assign rfl rfl ⟨H.new 15 8 (by kernel_rfl), Below.refl _ _⟩
  · intro ρ W1 hb1 H
    exact gives_assign rfl (H.new 16 9 (by kernel_rfl)) ⟨rfl, Below.refl _ _⟩
  · intro vs W1 hb1 hfs
    have f10 : IsB (pl) (vs 10) W1 := hfs 10 (by decide)
    have f11 : vs 11 = .int .i64 px := hfs 11 (by decide)
    clear hfs
    simp only [putAll, Nat.zero_add, Nat.reduceAdd]
    generalize vs 0 = z0
    generalize vs 1 = z1
    generalize vs 2 = z2
    generalize vs 3 = z3
    generalize vs 4 = z4
    generalize vs 5 = z5
    generalize vs 6 = z6
    generalize vs 7 = z7
    generalize vs 8 = z8
    generalize vs 9 = z9
    generalize vs 10 = z10 at f10 ⊢
    simp only [f11, Act.put, List.setIfInBounds_toArray, List.set_cons_succ, List.set_cons_zero]
    clear f11
    have HB := Lib.hid f10
    have HW := Lib.hid hb1
    clear f10 hb1
    go_wp2
    go_ret2
    rw [HE.out]
    exact ⟨_, rfl, HB.out, HW.out⟩
set_option maxHeartbeats 4000000 in
set_option maxRecDepth 100000 in
theorem urun1_3 (p6 p2 p3 g : Nat) (l : List Int) (v : Value) (s : Bool) (w : World) (ht : WTab w) (hv : IsV iv l v w) (hl : ∀ x ∈ l, inInt x) (hb : l.length ≤ 1000000)
    (h6 : Row w p6 139 [.slice (some ⟨g, 0, none⟩) 4 4]) (h2 : Row w p2 47 [v]) (h3 : Row w p3 4 [.bool s]) (hg : Row w g 143 ukcells) :
    Calls Tryz.prog 107 #[.int .i64 3, .pointer (some ⟨p6, 0, none⟩), .pointer (some ⟨p2, 0, none⟩), .pointer (some ⟨p3, 0, none⟩)] w (RetE w (upat l s)) := by
  have HT := Lib.hid ht
  have HV := Lib.hid hv
  have HPP := Lib.hid (fun W (h : IsV iv l v W) (ht : WTab W) => uputpat_any l v s W ht h hl hb)
  have HC6 := Lib.hid (show w.cell? ⟨p6, 0, none⟩ = some (.slice (some ⟨g, 0, none⟩) 4 4) from h6.cell 0)
  have HC2 := Lib.hid (show w.cell? ⟨p2, 0, none⟩ = some v from h2.cell 0)
  have HC3 := Lib.hid (show w.cell? ⟨p3, 0, none⟩ = some (.bool s) from h3.cell 0)
  have HF := Lib.hid (show w.cell? ⟨g, 10, none⟩ = some (.func (.func 128) #[] #[]) from hg.cell 10)
  have HL6 := Lib.hid h6.lt
  have HL2 := Lib.hid h2.lt
  have HL3 := Lib.hid h3.lt
  have HLG := Lib.hid hg.lt
  obtain ⟨pl, px, hE⟩ : ∃ pl px, upat l s = (pl, px) := ⟨_, _, rfl⟩
  rw [hE] at HPP
  have HE := Lib.hid hE
  clear ht hv hl hb h6 h2 h3 hg hE
  go_enter Tryz.func107, Tryz.ntmps107
  go_wp2_with fail
  refine wp_region_list [.is (.slice (some ⟨g, 0, none⟩) 4 4), .is (.int .i64 3), .is (.pointer (some ⟨g, 9, none⟩)), .is (.pointer (some ⟨g, 10, none⟩)), .is (.func (.func 128) #[] #[]), .is (v), .is (.bool s), .putE (pl) (px), .bytes (pl), .is (.int .i64 px), .bytes (pl), .is (.int .i64 px)] [some 7, some 8, some 9, some 10, some 11, some 12, some 13, some 14, some 15, some 16, some 5, some 6] (by kernel_rfl) (by kernel_rfl) (by kernel_rfl) rfl ⟨?_, ?_, ?_, ?_, ?_, ?_, ?_, ?_, ?_, ?_, ?_, ?_, trivial⟩ ?_
  · intro ρ W1 hb1 H
    exact gives_load rfl (H.old 1 _ (by kernel_rfl) rfl) Tryz.underlying139 rfl ((hb1.cell HL6.out).trans HC6.out) ⟨rfl, Below.refl _ _⟩
  · intro ρ W1 hb1 H
    exact gives_move rfl (H.old 0 _ (by kernel_rfl) rfl) ⟨rfl, Below.refl _ _⟩
  · intro ρ W1 hb1 H
    exact gives_indexW (k := 3) elemK rfl (H.new 7 0 (by kernel_rfl)) (H.new 8 1 (by kernel_rfl)) (by omega) ⟨congrArg (fun q => Value.pointer (some q)) (by simp [Addr.add]), Below.refl _ _⟩
  · intro ρ W1 hb1 H
    exact gives_field rfl (H.new 9 2 (by kernel_rfl)) (fun W => kind_at1 9 W _) ⟨rfl, Below.refl _ _⟩
  · intro ρ W1 hb1 H
    exact gives_load rfl (H.new 10 3 (by kernel_rfl)) Tryz.underlying50 rfl ((hb1.cell HLG.out).trans HF.out) ⟨rfl, Below.refl _ _⟩
  · intro ρ W1 hb1 H
    exact gives_load rfl (H.old 2 _ (by kernel_rfl) rfl) Tryz.underlying47 rfl ((hb1.cell HL2.out).trans HC2.out) ⟨rfl, Below.refl _ _⟩
  · intro ρ W1 hb1 H
    exact gives_load rfl (H.old 3 _ (by kernel_rfl) rfl) Tryz.underlying4 rfl ((hb1.cell HL3.out).trans HC3.out) ⟨rfl, Below.refl _ _⟩
  · intro ρ W1 hb1 H
    have e0 : ρ (.tmp 12) = v := H.new 12 5 (by kernel_rfl)
    have e1 : ρ (.tmp 13) = .bool s := H.new 13 6 (by kernel_rfl)
    refine gives_callV rfl (fun _ _ => by kernel_rfl) (H.new 11 4 (by kernel_rfl)) (args := #[v, .bool s]) (by simp [e0, e1]) ?_
    exact (HPP.out W1 (HV.out.below hb1) (HT.out.below hb1 HT.out.lt)).mono fun e w' ⟨b, h1, h2, h3⟩ => ⟨_, h1, ⟨b, rfl, h2⟩, h3⟩
  · intro ρ W1 hb1 H
    obtain ⟨b, h1, h2⟩ := (show ∃ b, ρ (.tmp 14) = .tuple #[b, .int .i64 px] ∧ IsB pl b W1 from H.new 14 7 (by kernel_rfl))
    exact gives_extract rfl h1 rfl ⟨h2, Below.refl _ _⟩
  · intro ρ W1 hb1 H
    obtain ⟨b, h1, h2⟩ := (show ∃ b, ρ (.tmp 14) = .tuple #[b, .int .i64 px] ∧ IsB pl b W1 from H.new 14 7 (by kernel_rfl))
    exact gives_extract rfl h1 rfl ⟨rfl, Below.refl _ _⟩
  · intro ρ W1 hb1 H
    exact gives_assign rfl rfl ⟨H.new 15 8 (by kernel_rfl), Below.refl _ _⟩
  · intro ρ W1 hb1 H
    exact gives_assign rfl (H.new 16 9 (by kernel_rfl)) ⟨rfl, Below.refl _ _⟩
  · intro vs W1 hb1 hfs
    have f10 : IsB (pl) (vs 10) W1 := hfs 10 (by decide)
    have f11 : vs 11 = .int .i64 px := hfs 11 (by decide)
    clear hfs
    simp only [putAll, Nat.zero_add, Nat.reduceAdd]
    generalize vs 0 = z0
    generalize vs 1 = z1
    generalize vs 2 = z2
    generalize vs 3 = z3
    generalize vs 4 = z4
    generalize vs 5 = z5
    generalize vs 6 = z6
    generalize vs 7 = z7
    generalize vs 8 = z8
    generalize vs 9 = z9
    generalize vs 10 = z10 at f10 ⊢
    simp only [f11, Act.put, List.setIfInBounds_toArray, List.set_cons_succ, List.set_cons_zero]
    clear f11
    have HB := Lib.hid f10
    have HW := Lib.hid hb1
    clear f10 hb1
    go_wp2
    go_ret2
    rw [HE.out]
    exact ⟨_, rfl, HB.out, HW.out⟩
set_option maxHeartbeats 1000000 in
set_option maxRecDepth 100000 in
theorem urun_any (l : List Int) (v : Value) (s : Bool) (w : World) (ht : WTab w) (hv : IsV iv l v w) (hl : ∀ x ∈ l, inInt x) (hb : l.length ≤ 1000000) : Calls Tryz.prog 71 #[v, .bool s] w (RetE w (urunE l s)) := by
  obtain ⟨A, n, c, rfl⟩ := hv.shape
  obtain ⟨v, hv0⟩ : ∃ v, v = Value.slice A n c := ⟨_, rfl⟩
  rw [← hv0] at hv
  obtain ⟨w1, hw1⟩ : ∃ w1, w1 = (w.alloc (.cells #[v] 47)).alloc (.cells #[.bool s] 4) := ⟨_, rfl⟩
  have hb1 : Below w.heap.size w w1 := by rw [hw1]; exact ((Below.refl _ _).alloc (Nat.le_refl _) _).alloc (by simp) _
  have r2 : Row w1 w.heap.size 47 [v] := by
    have h0 : Row (w.alloc (.cells #[v] 47)) w.heap.size 47 [v] := heap_alloc_new w _
    rw [hw1]; exact h0.alloc _
  have r3 : Row w1 (w.heap.size + 1) 4 [.bool s] := by
    rw [hw1]
    have h0 := heap_alloc_new (w.alloc (.cells #[v] 47)) (.cells #[.bool s] 4)
    rw [show (w.alloc (.cells #[v] 47)).heap.size = w.heap.size + 1 by simp] at h0
    exact h0
  have hz1 : w1.heap.size = w.heap.size + 2 := by rw [hw1]; simp
  obtain ⟨w2, hw2⟩ : ∃ w2, w2 = w1.alloc (.cells ukcells.toArray 143) := ⟨_, rfl⟩
  have rg : Row w2 w1.heap.size 143 ukcells := by rw [hw2]; exact heap_alloc_new w1 _
  have hz2 : w2.heap.size = w.heap.size + 3 := by rw [hw2]; simp [hz1]
  have HKI := Lib.hid (show Calls Tryz.prog 105 #[] w1 fun e w' => e = .returned (.slice (some ⟨w1.heap.size, 0, none⟩) 4 4) ∧ w' = w2 from (kinds_any w1).mono fun e w' ⟨h1, h2⟩ => ⟨h1, by rw [h2, hw2]⟩)
  obtain ⟨w3, hw3⟩ : ∃ w3, w3 = w2.alloc (.cells #[.slice (some ⟨w1.heap.size, 0, none⟩) 4 4] 139) := ⟨_, rfl⟩
  have r6 : Row w3 w2.heap.size 139 [.slice (some ⟨w1.heap.size, 0, none⟩) 4 4] := by rw [hw3]; exact heap_alloc_new w2 _
  have hb2 : Below w1.heap.size w1 w2 := by rw [hw2]; exact (Below.refl _ _).alloc (Nat.le_refl _) _
  have hb3 : Below w2.heap.size w2 w3 := by rw [hw3]; exact (Below.refl _ _).alloc (Nat.le_refl _) _
  have hb13 := below_then hb2 hb3
  have hbA := below_then hb1 hb13
  have q2 := r2.below hb13 r2.lt
  have q3 := r3.below hb13 r3.lt
  have qg := rg.below hb3 rg.lt
  have HS := Lib.hid (ushortest_run 4 (fun k => (ukinds l s).getD k ([], 1)) w2.heap.size w.heap.size (w.heap.size + 1) w3 (by omega)
    (fun k W hk hW => by
      have t1 := ht.below (below_then hbA hW) ht.lt
      have t2 := hv.below (below_then hbA hW)
      have t6 := r6.below hW r6.lt
      have t3 := q2.below hW q2.lt
      have t4 := q3.below hW q3.lt
      have t5 := qg.below hW qg.lt
      rcases (by omega : k = 0 ∨ k = 1 ∨ k = 2 ∨ k = 3) with rfl | rfl | rfl | rfl
      · exact urun1_0 _ _ _ _ l v s W t1 t2 hl hb t6 t3 t4 t5
      · exact urun1_1 _ _ _ _ l v s W t1 t2 hl hb t6 t3 t4 t5
      · exact urun1_2 _ _ _ _ l v s W t1 t2 hl hb t6 t3 t4 t5
      · exact urun1_3 _ _ _ _ l v s W t1 t2 hl hb t6 t3 t4 t5)
    (fun k hk h0 => by
      have hmem : (ukinds l s).getD k ([], 1) ∈ ukinds l s := by
        unfold ukinds
        rcases (by omega : k = 0 ∨ k = 1 ∨ k = 2 ∨ k = 3) with rfl | rfl | rfl | rfl <;> simp
      exact Nat.pos_of_ne_zero (ukinds_len _ hmem h0)))
  have HE := Lib.hid (show uans (((List.range 4).map fun k => (ukinds l s).getD k ([], 1)).foldl ubest none) = urunE l s by rw [urun_kinds]; rfl)
  rw [HE.out, show ((4 : Nat) : Int) = 4 from rfl, hz2] at HS
  have HB := Lib.hid hbA
  rw [hw3, hz1] at HS HB
  rw [hz1, hw1, hv0] at HKI
  clear ht hv hl hb r2 r3 rg r6 hb1 hb2 hb3 hb13 hbA q2 q3 qg hw2 hw3
  go_enter Tryz.func71, Tryz.ntmps71
  go_wp2_with (first | (go_at_call 105; refine HKI.out.mono ?_; rintro e w' ⟨rfl, rfl⟩) | (go_at_call 106; refine HS.out.mono ?_; rintro e w4 ⟨v4, rfl, hv4, hb4⟩; have HV4 := Lib.hid hv4; have HB4 := Lib.hid (below_then HB.out hb4); clear hv4 hb4))
  go_ret2
  exact ⟨_, rfl, HV4.out, HB4.out⟩
end Go.Proofs.YtblpkmmhmdpkjaaGreatDoor

/- rle's own contracts: takeRepeat, takeRun (slices.IndexFunc with its closure). Written by gen_utk.py. -/











namespace Go.Proofs.YtblpkmmhmdpkjaaGreatDoor

open Go.RowKit

end Go.Proofs.YtblpkmmhmdpkjaaGreatDoor

/- rle's own contracts: Put, Take. Written by gen_uis.py. -/







namespace Go.Proofs.YtblpkmmhmdpkjaaGreatDoor

open Go.RowKit

/-- An append to a row of the call's own, as one step of a region that draws. -/
theorem step_join {P : Program} {ops : Array Oper} {o : Oper} {a : Act} {w : World} {K : Act → World → Prop} {Q : Exit → Act → World → Prop} {F : Prop} {t e : TypeId} {bytes : Nat} {z : Value} (E : Elem P t e bytes z)
    (hgd : o.guard = none) (s x : Operand) (ho : o.op = .call { callee := .builtin .append, args := #[s, x], argTypes := #[t, t] })
    (base : Nat) (v : Value) (n : Nat) (xs : List Value) (ad : Addr) (m c : Nat) (news : List Value) (w0 : World) (hs : a.eval s = v) (hx : a.eval x = .slice (some ad) m c)
    (hm : news.length = m) (hr : Lies w (some ad) news) (h1 : ∀ u ∈ news, u.oneCell' = true)
    (hown : w.ownsRow base e 1 v n xs) (hb : Below base w0 w) (hbase : base ≤ w.heap.size) (hn : n + m ≤ 1000000000) (hby : bytes ≤ 100)
    (h : ∀ v' w', w'.ownsRow base e 1 v' (n + m) (xs ++ news) → Below base w0 w' → w.grownBy w' v.ownBlock → K (a.put o.dst v') w') :
    if Region.wanted o (yielded ops a.tmps) = true then Oper.wp P o a w K Q else F := by
  obtain ⟨i, h2, h3, h4, h5⟩ := E.info
  have h6 : z.cells.size = 1 := by rw [E.one]; rfl
  have hle : (n + m) * bytes ≤ (n + m) * 100 := Nat.mul_le_mul_left _ hby
  have hw : Region.wanted o (yielded ops a.tmps) = true := by simp [Region.wanted, hgd]
  have hcell : ∀ j u, news[j]? = some u → w.cell? (ad.add j) = some u := by
    rcases hr with hr | ⟨ad', hA, _, hc⟩
    · subst hr; intro j u hj; simp at hj
    · injection hA with hA; subst hA; exact hc
  obtain ⟨v', w', hrun, r1, r2, _, _⟩ := run_append_own_at (P := P) w base t o.type e i z 1 bytes E.under h2 h3 h4 h5 h6 (by omega) v n xs hown ad m c news (by omega) hcell h1 (by unfold maxLen; omega) (by omega) hbase
  rw [if_pos hw]
  unfold Oper.wp
  simp [execOp, ho, resolve, invoke, builtin, hs, hx, hrun, Result.andThen]
  exact h v' w' r1 (below_append hb hown hbase r2) r2
set_option maxHeartbeats 4000000 in
set_option maxRecDepth 100000 in
theorem uput_own (l : List Int) (v : Value) (s : Bool) (w : World) (ht : WTab w) (hv : IsV iv l v w) (hl : ∀ x ∈ l, inInt x) :
    Calls Tryz.prog 48 #[v, .bool s] w (RetEO w (uputE l s)) := by
  have HT := Lib.hid ht
  have HV := Lib.hid hv
  have HI := Lib.hid hl
  obtain ⟨A, n, c, rfl⟩ := hv.shape
  have HN := Lib.hid hv.parts.1
  clear hv hl ht
  by_cases hbig : 4096 < n
  · have d1 : (4096 : Int) < (n : Int) := by omega
    have hE : Hid (uputE l s = ([], 3)) := Lib.hid (by unfold uputE; rw [if_pos (by rw [HN.out]; exact hbig)])
    go_enter Tryz.func48, Tryz.ntmps48
    go_wp2
    go_ret2
    rw [hE.out]
    exact RetEO.nil _ (Below.refl _ _)
  · have d1 : ¬ (4096 : Int) < (n : Int) := by omega
    have hE : Hid (uputE l s = ucomb [] (uputN s l.length l)) := Lib.hid (by
      unfold uputE ucomb
      rw [if_neg (by rw [HN.out]; exact hbig)]
      by_cases h : (uputN s l.length l).2 ≠ 0
      · rw [if_pos h]
        have h2 : ∀ (k : Nat) (l : List Int), (uputN s k l).2 ≠ 0 → (uputN s k l).1 = [] := by
          intro k
          induction k with
          | zero => intro l h; exact absurd rfl h
          | succ k ih =>
            intro l h
            rw [uputN] at h ⊢
            split
            · rfl
            · split
              · rfl
              · split
                · rfl
                · rename_i h3 h4 h5
                  rw [if_neg h3, if_neg h4, if_neg h5] at h
                  exact absurd rfl h
        exact Prod.ext (h2 _ _ h) rfl
      · rw [if_neg h]
        exact Prod.ext rfl (Decidable.not_not.1 h))
    have hst : UPutRel (uputE l s) s w (.slice A n c) (.slice none 0 0) w := ⟨l.length, l, [], Nat.le_refl _, by have := HN.out; omega, by have := HN.out; simp; omega, HI.out, HV.out, hE.out.symm, World.ownsRow_nil _ _ _ _, Below.refl _ _⟩
    have HST := Lib.hid hst
    clear hst
    go_enter Tryz.func48, Tryz.ntmps48
    go_wp2
    go_loopw [0, 6] (UPutRel (uputE l s) s w) (fun x _ _ => lenOf x)
    case atStart => exact HST.out
    case round =>
      obtain ⟨k, rest, out, hk, h4, hol, hin, hrv, hres, hown, hbw⟩ := hrel
      have HSTT := HST
      clear HST
      have HIN := Lib.hid hin
      have HRV := Lib.hid hrv
      have HRES := Lib.hid hres
      have HOWN := Lib.hid hown
      have HBW := Lib.hid hbw
      obtain ⟨A2, n2, c2, rfl⟩ := hrv.shape
      have HN2 := Lib.hid hrv.parts.1
      have hnc2 : n2 ≤ c2 := hrv.parts.2.2.1
      have hci2 : (c2 : Int) ≤ 9223372036854775807 := by have := hrv.parts.2.2.2.1; unfold maxLen at this; omega
      have hn2k : n2 ≤ k := by have := HN2.out; omega
      have hn24 : n2 ≤ 4096 := by have := HN2.out; omega
      have hol2 : out.length + 10 * n2 ≤ 50000 := by have := HN2.out; omega
      obtain ⟨ol, hol3⟩ : ∃ ol, ol = out.length := ⟨_, rfl⟩
      have HOL := Lib.hid hol3
      clear hin hrv hres hown hbw hk h4 hol
      by_cases h0 : n2 = 0
      · subst h0
        have hR : Hid (uputE l s = (out, 0)) := Lib.hid (by rw [← HRES.out]; exact ucomb_done out s HN2.out)
        clear hol3
        go_wp2
        go_ret2
        rw [hR.out]
        exact ⟨_, rfl, HOWN.out, HBW.out⟩
      · have d2 : decide (0 < n2) = true := decide_eq_true (by omega)
        have hn0i : (0 : Int) < (n2 : Int) := by omega
        obtain ⟨m, hm⟩ : ∃ m, m = ucut rest := ⟨_, rfl⟩
        obtain ⟨m1, m2, m3⟩ := ucut_bd (l := rest) (by have := HN2.out; omega)
        rw [← hm] at m1 m2 m3
        have hmn : m ≤ n2 := by have := HN2.out; omega
        have hmc : (m : Int) ≤ (c2 : Int) := by omega
        obtain ⟨k', rfl⟩ : ∃ k', k = k' + 1 := ⟨k - 1, by omega⟩
        have HCU := Lib.hid (ucut_any rest _ wr (HRV.out.below HBW.out) (by have := HN2.out; omega))
        rw [← hm] at HCU
        have HM := Lib.hid hm
        have htl : (rest.take m).length = m := by rw [List.length_take]; have := HN2.out; omega
        have HTL := Lib.hid htl
        have HTI : Hid (∀ x ∈ rest.take m, inInt x) := Lib.hid (fun x hx => HIN.out x (List.mem_of_mem_take hx))
        obtain ⟨rb, re, hr⟩ : ∃ rb re, urunE (rest.take m) s = (rb, re) := ⟨_, _, rfl⟩
        have HR := Lib.hid hr
        obtain ⟨v4, hv4, hI4⟩ := fromV_named (P := Tryz.prog) elemI (k := m) hmn HRV.out
        have HI4 := Lib.hid hI4
        clear hm htl hr hI4 m2
        go_wp2_with fail
        refine HCU.out.mono ?_
        rintro e w2 ⟨rfl, hb2⟩
        have HV2 := Lib.hid ((HRV.out.take hmn).below (HBW.out.trans (hb2.mono HBW.out.size)))
        have HO2 := Lib.hid (own_below HOWN.out hb2)
        have HB2 := Lib.hid (below_then HBW.out hb2)
        clear hb2
        have HRN := Lib.hid (urun_any (rest.take m) _ s w2 (HT.out.below HB2.out HT.out.lt) HV2.out HTI.out (by have := HTL.out; omega))
        rw [HR.out] at HRN
        go_wp2_with fail
        refine HRN.out.mono ?_
        rintro e w3 ⟨b3, rfl, hb3v, hb3⟩
        have HO3 := Lib.hid (own_below HO2.out hb3)
        have HB3 := Lib.hid (below_then HB2.out hb3)
        have HBV := Lib.hid hb3v
        clear hb3
        by_cases he : re = 0
        · subst he
          have hlen := urun_len (s := s) HTI.out (by rw [HTL.out]; exact m3)
          have hstep := ucomb_step (k := k') out s (l := rest) (by have := HN2.out; omega) (by rw [← HM.out, HR.out])
          rw [HRES.out, ← HM.out, HR.out] at hstep
          rw [HR.out] at hlen
          have hlen2 := (urun_back (r := []) (s := s) HTI.out (by
            intro h
            have h2 := HR.out
            rw [urunE_no (.inl h)] at h2
            injection h2 with _ h2
            cases h2) (by rw [HTL.out]; exact m1) (by rw [HTL.out]; exact m3)).2.2.2
          have HRB2 : Hid (2 ≤ rb.length) := Lib.hid (by have h := (urun_back (r := []) (s := s) HTI.out (by
            intro h
            have h2 := HR.out
            rw [urunE_no (.inl h)] at h2
            injection h2 with _ h2
            cases h2) (by rw [HTL.out]; exact m1) (by rw [HTL.out]; exact m3)).2.2.1; rw [HR.out] at h; exact h)
          rw [HR.out, HTL.out] at hlen2
          dsimp only at hlen hstep hlen2
          obtain ⟨A5, n5, c5, rfl⟩ := IsV.shape (f := bv) hb3v
          obtain ⟨hn5, hA5, -, -, hl5⟩ := IsV.parts (f := bv) (show IsV bv rb _ _ from hb3v)
          have HM5 := Lib.hid (show (rb.map bv).length = n5 by rw [List.length_map]; exact hn5)
          have hn5b : n5 ≤ 5000 := by omega
          have hn510 : n5 ≤ 10 * m := by omega
          have hown3 := HO3.out
          rw [← hol3] at hown3
          have hbw3 := HB3.out
          have hz3 := hbw3.size
          have HSTEP := Lib.hid hstep
          have HN5 := Lib.hid hn5
          have hol4 : ol + 10 * n2 ≤ 50000 := by omega
          clear hb3v hlen hstep hlen2 hn5 hol3 hol2
          have hA5s : ∃ ad5, A5 = some ad5 := by
            cases A5 with
            | none => exfalso; have h5 := hA5 rfl; have := HN5.out; have := HRB2.out; omega
            | some ad5 => exact ⟨ad5, rfl⟩
          obtain ⟨ad5, rfl⟩ := hA5s
          have hbd := (Below.refl w3.heap.size w3).drew
          have hownD := own_below hown3 hbd
          have hbwD := below_then hbw3 hbd
          have hlD := hl5.below hbd
          have hzD := hbwD.size
          have hv4' := hv4
          clear hown3 hbw3 hz3 hl5 hA5 hbd
          go_wp2
          go_region_law (refine step_join elemB rfl _ _ rfl w.heap.size _ _ _ _ _ _ (rb.map bv) w rfl rfl HM5.out hlD (bv_one _) hownD hbwD hzD (by omega) (by omega) ?_; intro v6 w6 hown6 hb6 _)
          have HREL : Hid (UPutRel (uputE l s) s w v4 v6 w6) := Lib.hid ⟨k', rest.drop m, out ++ rb, by rw [List.length_drop]; have := HN2.out; omega, by rw [List.length_drop]; have := HN2.out; omega,
            by rw [List.length_drop, List.length_append, HN5.out, ← HOL.out]; have := HN2.out; omega, fun x hx => HIN.out x (List.mem_of_mem_drop hx), HI4.out, HSTEP.out.symm,
            by rw [List.length_append, ← HOL.out, HN5.out, List.map_append]; exact hown6, hb6⟩
          clear hown6 hb6 hownD hbwD hzD hlD
          simp only [List.getElem_toArray, List.getElem_cons_succ, List.getElem_cons_zero, Act.put, List.setIfInBounds_toArray, List.set_cons_succ, List.set_cons_zero]
          go_wp2
          go_roundw
          case rel => exact HREL.out
          case measure =>
            obtain ⟨A7, c7, e7, _⟩ := HI4.out
            rw [e7]
            have := HN2.out
            simp [lenOf]
            omega
        · have hbad := ucomb_bad (k := k') out s (l := rest) (by have := HN2.out; omega) (by rw [← HM.out, HR.out]; exact he)
          rw [HRES.out, ← HM.out, HR.out] at hbad
          have HBD := Lib.hid hbad
          have d3 : (re != 0) = true := by simpa using he
          clear hb3v hbad
          obtain ⟨A5, n5, c5, rfl⟩ := IsV.shape (f := bv) HBV.out
          go_wp2
          go_ret2
          rw [HBD.out]
          exact RetEO.nil _ HB3.out
theorem uput_any (l : List Int) (v : Value) (s : Bool) (w : World) (ht : WTab w) (hv : IsV iv l v w) (hl : ∀ x ∈ l, inInt x) (_hb : l.length ≤ 1000000) :
    Calls Tryz.prog 48 #[v, .bool s] w (RetE w (uputE l s)) := (uput_own l v s w ht hv hl).mono fun _ _ h => h.e
end Go.Proofs.YtblpkmmhmdpkjaaGreatDoor

/- Values of columns (layer 12), as plain mathematics. -/







namespace Go.Proofs.YtblpkmmhmdpkjaaGreatDoor

/-- A value: nothing, a number, a text. -/
structure CV where
  null : Bool
  n : Int
  s : ByteArray
def CV.inInt (v : CV) : Prop := -9223372036854775808 ≤ v.n ∧ v.n ≤ 9223372036854775807
/-- One text stands ahead of another. -/
def sless (a b : ByteArray) : Bool := Op.bytesLess a.toList b.toList
theorem sless_iff (a b : ByteArray) : sless a b = true ↔ a.data.toList < b.data.toList := by
  unfold sless
  rw [bytesLess_eq, ByteArray.toList_eq, ByteArray.toList_eq, decide_eq_true_iff]
theorem sless_not (a : ByteArray) : sless a a = false := by
  rw [← Bool.not_eq_true, sless_iff]
  exact List.lt_irrefl _
theorem sless_trans {a b c : ByteArray} (h1 : sless a b = true) (h2 : sless b c = true) : sless a c = true := by
  rw [sless_iff] at *
  exact List.lt_trans h1 h2
theorem bytes_ext {a b : ByteArray} (h : a.data.toList = b.data.toList) : a = b := by
  cases a; cases b
  congr 1
  exact Array.toList_inj.1 h
theorem sless_total {a b : ByteArray} (h : a ≠ b) : sless a b = true ∨ sless b a = true := by
  rw [sless_iff, sless_iff]
  by_cases h1 : a.data.toList < b.data.toList
  · exact .inl h1
  · refine .inr ?_
    have h2 : b.data.toList ≤ a.data.toList := List.not_lt.1 h1
    rcases List.le_iff_lt_or_eq.1 h2 with h3 | h3
    · exact h3
    · exact absurd (bytes_ext h3).symm h
theorem sless_asymm {a b : ByteArray} (h : sless a b = true) : sless b a = false := by
  rw [← Bool.not_eq_true]
  intro h2
  have := sless_trans h h2
  rw [sless_not] at this
  cases this
end Go.Proofs.YtblpkmmhmdpkjaaGreatDoor

/- Slices of values of several cells each, and what fields hold, that come in. Over any program. -/









namespace Go.Proofs.YtblpkmmhmdpkjaaGreatDoor

open Go.RowKit Go.ChangeShapes Go.WideShapes Go.Deep

/-- A slice, in a field, of values of several cells each; what each holds may lie elsewhere. -/
theorem open_wide0 {H : Type} {enc : TypeId × Value → H} {P : Program} {α : Type} [Inhabited α] {f : α → List Value} {m : Nat} {p : α → Prop} {t e : TypeId} {W : World} {v : Value} {y : DataW H × List MemPlace} {fuel : Nat}
    (ht : P.underlying t = some (.slice e)) (hc : P.cellsOf e = m) (hm : 0 < m) (hf : ∀ x, (f x).length = m)
    (each : ∀ cs n x, cs.length = m → DataW.trod enc P W 0 (fun _ => true) true n e cs = some x → (∀ q ∈ x.2, q.block < W.heap.size) → ∃ a : α, cs = f a ∧ p a)
    (hf0 : DataW.trod enc P W 0 (fun _ => true) true fuel t [v] = some y) (hlt : ∀ x ∈ y.2, x.block < W.heap.size) :
    ∃ l : List α, IsR f l v W ∧ ∀ x ∈ l, p x := by
  obtain ⟨d, ps⟩ := y
  rcases open_slice ht hf0 with ⟨hcs, hx⟩ | ⟨a, len, cap, k, n, D, Pl, hcs, _, hl, hmx, hk, hx, hcell⟩
  · simp at hcs
    subst hcs
    exact ⟨[], ⟨none, 0, rfl, by simp, by simp, by unfold maxLen; omega, Lies.nil⟩, by simp⟩
  · simp at hcs
    subst hcs
    simp only [Prod.mk.injEq] at hx
    obtain ⟨rfl, rfl⟩ := hx
    simp only [if_true] at hk
    obtain ⟨F, hF⟩ := choose_lt (n := len) (p := fun i (a' : α) => p a' ∧ ∀ j u, (f a')[j]? = some u → W.cell? (a.add (i * m + j)) = some u) fun i hi => by
      obtain ⟨cs', h1, h2⟩ := hcell i (by omega)
      rw [hc] at h1
      obtain ⟨_, hlen, hce⟩ := World.cells?_some h1
      obtain ⟨a', rfl, ha⟩ := each cs' n _ hlen h2 fun q hq => hlt q (List.mem_append_right _ (List.mem_flatMap.2 ⟨i, List.mem_range.2 (by omega), hq⟩))
      refine ⟨a', ha, fun j u hu => ?_⟩
      have hj : j < m := by rw [← hf a']; exact (List.getElem?_eq_some_iff.1 hu).1
      have h3 := hce j hj
      rw [add_add, hu] at h3
      exact h3
    have hll : ((List.range len).map F).length = len := by simp
    refine ⟨(List.range len).map F, ⟨some a, cap, by rw [hll], by simp, by rw [hll]; exact hl, hmx, ?_⟩, fun x hx => ?_⟩
    · by_cases h0 : len = 0
      · subst h0; exact .inl (by simp)
      · refine .inr ⟨a, rfl, ?_, fun j u hu => ?_⟩
        · have h1 := (hF 0 (by omega)).2 0 _ (List.getElem?_eq_getElem (by rw [hf]; exact hm))
          have hs : a.spot = none := by
            have h2 : a.add (0 * m + 0) = a := by simp [Addr.add]
            rw [h2] at h1
            exact World.cell?_spot h1
          obtain ⟨b, off, spot⟩ := a
          exact hlt (.cell b off) (List.mem_append_left _ (MemPlace.mem_row.2 ⟨0, by rw [hc]; exact Nat.mul_pos (by omega) hm, by simp⟩))
        · have hjl : j < len * m := by
            have h1 := (List.getElem?_eq_some_iff.1 hu).1
            rwa [flat_len hf, hll] at h1
          have hk2 : j / m < len := Nat.div_lt_of_lt_mul (by rwa [Nat.mul_comm])
          have e1 : j / m * m + j % m = j := by rw [Nat.mul_comm]; exact Nat.div_add_mod j m
          have h1 := flat_at hf ((List.range len).map F) (j / m) (by rw [hll]; exact hk2) (j % m) (Nat.mod_lt _ hm)
          rw [e1, List.getElem_map, List.getElem_range] at h1
          have h2 := (hF (j / m) hk2).2 (j % m) u (by rw [← h1]; exact hu)
          rwa [e1] at h2
    · obtain ⟨i, hi, rfl⟩ := List.mem_map.1 hx
      exact (hF i (by simpa using hi)).1
/-- A slice of values of several cells each that came in: f tells a value's cells, p what is known of each. -/
theorem open_wide {H : Type} {enc : TypeId × Value → H} {P : Program} {α : Type} [Inhabited α] {f : α → List Value} {m : Nat} {p : α → Prop} {t e : TypeId} {W : World} {v : Value} {d : DataW H} {ps : List MemPlace} {base : Nat}
    (ht : P.underlying t = some (.slice e)) (hc : P.cellsOf e = m) (hm : 0 < m) (hf : ∀ x, (f x).length = m)
    (each : ∀ cs n x, cs.length = m → DataW.trod enc P W 0 (fun _ => true) true n e cs = some x → ∃ a : α, cs = f a ∧ p a)
    (hval : Value.okWide P W .any base t v) (hd : DataW.Trod enc P W 0 (fun _ => true) true t v d ps) (hlt : ∀ x ∈ ps, x.block < W.heap.size) :
    ∃ l : List α, IsR f l v W ∧ ∀ x ∈ l, p x := by
  obtain ⟨a0, len, cap, rfl⟩ := okWide_slice ht hval
  obtain ⟨fuel, hf0⟩ := hd
  exact open_wide0 ht hc hm hf (fun cs n x h1 h2 _ => each cs n x h1 h2) (y := (d, ps)) (by simpa [Value.cells] using hf0) hlt
end Go.Proofs.YtblpkmmhmdpkjaaGreatDoor

/- Runs (layer 11): a run that may be taken with a sign and without gives as many numbers, and leaves the same behind. -/



namespace Go.Proofs.YtblpkmmhmdpkjaaGreatDoor

end Go.Proofs.YtblpkmmhmdpkjaaGreatDoor

/- Numbers that are taken without a sign are not below 0; and there are as many as were asked for. -/



namespace Go.Proofs.YtblpkmmhmdpkjaaGreatDoor

theorem map_next {α β : Type} (f : α → β) {l : List α} {j : Nat} (h : j < l.length) : (l.take (j + 1)).map f = (l.take j).map f ++ [f l[j]] := by
  rw [List.take_succ_eq_append_getElem h, List.map_append]
  rfl
end Go.Proofs.YtblpkmmhmdpkjaaGreatDoor
