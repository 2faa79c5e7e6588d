
/- wire's own contracts: Take. -/

import Derived.Test.YtocodcceimeiiaaFFirst

namespace Go.Proofs.Ytocodcceimeiiaa

open Go.RowKit Go.ChangeShapes Go.WideShapes Go.ChangeAt

theorem elemFO : ∃ b, b ≤ 100 ∧ ElemW Try.prog 29 41 b 4 (.agg (fcells ⟨0, false, 0, [], .slice none 0 0⟩).toArray) := by
  have h : (Try.prog.info? 41).map (fun i => (i.zero, i.size, decide (i.bytes ≤ 100))) = some (some (.agg (fcells ⟨0, false, 0, [], .slice none 0 0⟩).toArray), 4, true) := by kernel_rfl
  cases hi : Try.prog.info? 41 with
  | none => rw [hi] at h; cases h
  | some i =>
    rw [hi] at h
    injection h with h
    injection h with h1 h
    injection h with h2 h3
    exact ⟨i.bytes, of_decide_eq_true h3, Try.underlying29, rfl, by omega, i, hi, h1, h2, rfl⟩
def FTkRelO (b : List UInt8) (w : World) (rv ov : Value) (wr : World) : Prop :=
  ∃ (fs : List FN) (rest : List UInt8), ftakeE b = (ftakeE rest).map (fs.map FN.wf ++ ·) ∧ fs.length + rest.length ≤ b.length ∧ wr.ownsRow w.heap.size 41 4 ov fs.length (fs.flatMap fcells) ∧ (∀ f ∈ fs, IsBT f.b f.lv wr) ∧ IsB rest rv w ∧ Below w.heap.size w wr
theorem fcells_one {tag : Int} {bytes : Bool} {n : Int} {A : Option Addr} {k c : Nat} : ∀ u ∈ [Value.int .i64 tag, .bool bytes, .int .u64 n, .slice A k c], u.oneCell' = true := by
  intro x hx
  simp only [List.mem_cons, List.not_mem_nil, or_false] at hx
  rcases hx with rfl | rfl | rfl | rfl <;> rfl
theorem ftakeE_next {b rest r : List UInt8} {f : WF} {fs : List WF} (h : ftakeE b = (ftakeE rest).map (fs ++ ·)) (h1 : ftake1 rest = some (f, r)) : ftakeE b = (ftakeE r).map ((fs ++ [f]) ++ ·) := by
  rw [h, ftakeE_some h1, Option.map_map]
  congr 1
  funext z
  simp
set_option maxHeartbeats 8000000 in
set_option maxRecDepth 100000 in
theorem ftake_own (b : List UInt8) (v : Value) (w : World) (h : IsB b v w) (hl : b.length ≤ 1000000000) :
    Calls Try.prog 11 #[v] w (RetFX 41 w (ftakeE b)) := by
  obtain ⟨eb, heb, hE⟩ := elemFO
  have HEB := Lib.hid hE
  have HST := Lib.hid (show FTkRelO b w v (.slice none 0 0) w from ⟨[], b, by simp, by simp, World.ownsRow_nil _ _ _ _, by simp, h, Below.refl _ _⟩)
  clear hE h
  go_enter Try.func11, Try.ntmps11
  go_wp2
  go_loopw [0, 4] (FTkRelO b w) (fun rv _ _ => match rv with | .slice _ n _ => n | _ => 0)
  case atStart => exact HST.out
  case round =>
    obtain ⟨fs, rest, hft, hlen, how, hfs, hrest, hbw⟩ := hrel
    clear HST
    obtain ⟨rA, rn, rc, rfl⟩ := IsV.shape (f := bv) hrest
    have HRN := Lib.hid (IsV.parts (f := bv) hrest).1
    have HRS := Lib.hid hrest
    have HOW := Lib.hid how
    have HFS := Lib.hid hfs
    have HBW := Lib.hid hbw
    have HFT := Lib.hid hft
    have HLN := Lib.hid hlen
    have hr1 : rest.length ≤ 1000000000 := by omega
    clear how hfs hbw hft hlen hrest
    by_cases h0 : rn = 0
    · subst h0
      have h0i : ¬ (0 : Int) < ((0 : Nat) : Int) := by omega
      have h0n : decide ((0 : Nat) < 0) = false := rfl
      have hE : rest = [] := List.eq_nil_of_length_eq_zero HRN.out
      have HR := Lib.hid (show RetFX 41 w (ftakeE b) (.returned (.tuple #[u4, .int .i64 0])) wr by
        rw [HFT.out, hE, ftakeE_nil]
        exact ⟨fs, _, rfl, by simp, HOW.out, HFS.out, HBW.out⟩)
      clear hE
      go_wp2
      go_ret2
      exact HR.out
    · have h0i : (0 : Int) < (rn : Int) := by omega
      have h0n : 0 < rn := by omega
      have hne : rest ≠ [] := fun h => h0 (by rw [← HRN.out, h]; rfl)
      have HNE := Lib.hid hne
      have HF := Lib.hid (ffirst_any rest _ wr (HRS.out.below HBW.out) hr1)
      clear hne
      cases h1 : ftake1 rest with
      | none =>
        rw [h1] at HF
        have H1 := Lib.hid h1
        clear h1
        go_wp2_with fail
        refine (HF.out).mono ?_
        rintro e w4 ⟨rfl, hb4⟩
        have HB4 := Lib.hid (below_then HBW.out hb4)
        clear hb4
        go_wp2
        go_ret2
        rw [HFT.out, ftakeE_none H1.out HNE.out]
        exact ⟨rfl, HB4.out.alloc HB4.out.size _⟩
      | some p =>
        obtain ⟨f, r⟩ := p
        rw [h1] at HF
        have H1 := Lib.hid h1
        have hrl := ftake1_len h1
        have HRL := Lib.hid hrl
        clear h1 hrl
        go_wp2_with fail
        refine (HF.out).mono ?_
        rintro e w4 ⟨lv, u, rfl, hu, ⟨ln, hlo⟩, hb4⟩
        dsimp only at hu ⊢
        obtain ⟨tag, bytes, nn, bs⟩ := f
        dsimp only [fval, fcells] at hlo ⊢
        have HB4 := Lib.hid (below_then HBW.out hb4)
        have HO4 := Lib.hid (own_below HOW.out hb4)
        have HFS4 := Lib.hid (fun f hf => (HFS.out f hf).below hb4)
        have HM4 := Lib.hid (isBT_own hlo)
        have HU := Lib.hid (hu w HRS.out)
        obtain ⟨uA, un, uc, rfl⟩ := IsV.shape (f := bv) HU.out
        have HUN := Lib.hid (IsV.parts (f := bv) HU.out).1
        obtain ⟨lA, lk, lc, rfl⟩ := own_slice hlo
        have HNX := Lib.hid (ftakeE_next HFT.out H1.out)
        clear hb4 hu hlo HF
        have hbA : Below w4.heap.size w4 (w4.alloc (.cells #[.int .i64 tag, .bool bytes, .int .u64 (nn : Int), .slice lA lk lc] 41)) := (Below.refl _ _).alloc (Nat.le_refl _) _
        have hzA : w4.heap.size + 1 = (w4.alloc (.cells #[.int .i64 tag, .bool bytes, .int .u64 (nn : Int), .slice lA lk lc] 41)).heap.size := by simp
        have ho6 := own_below HO4.out hbA
        have hb6 := below_then HB4.out hbA
        have hz6 := hb6.size
        have hfl : fs.length ≤ 1000000000 := by have := HLN.out; omega
        have HO6 := Lib.hid ho6
        have HM6 := Lib.hid (HM4.out.below hbA)
        have HFS6 := Lib.hid (fun f hf => (HFS4.out f hf).below hbA)
        have HZA := Lib.hid hzA
        have HB6 := Lib.hid hb6
        have HZ6 := Lib.hid hz6
        clear hbA hzA ho6 hb6 hz6
        go_wp2_with (at_builtin; refine wpList_pushG HEB.out rfl _ _ rfl w.heap.size _ _ _ [.int .i64 tag, .bool bytes, .int .u64 (nn : Int), .slice lA lk lc] _ w _ HZA.out rfl rfl rfl rfl fcells_one HO6.out HB6.out HZ6.out hfl heb ?_)
        intro v7 w7 ho7 hb7 hg7 _
        have HREL := Lib.hid (show FTkRelO b w (.slice uA un uc) v7 w7 from ⟨fs ++ [⟨tag, bytes, nn, bs, .slice lA lk lc⟩], r, by rw [List.map_append]; exact HNX.out, by have := HLN.out; have := HRL.out; rw [List.length_append, List.length_singleton]; omega, by rw [List.flatMap_append, List.length_append]; exact ho7, fun f hf => by
          rcases List.mem_append.1 hf with hf | hf
          · exact (HFS6.out f hf).grown HO6.out (by decide) hg7
          · rw [List.mem_singleton.1 hf]; exact HM6.out.grown HO6.out (by decide) hg7, HU.out, hb7⟩)
        have hme : un < rn := by have := HRL.out; have := HUN.out; have := HRN.out; omega
        clear ho7 hb7 hg7
        go_wp2
        go_roundw
        case rel => exact HREL.out
        case measure => simp only []; omega
end Go.Proofs.Ytocodcceimeiiaa
