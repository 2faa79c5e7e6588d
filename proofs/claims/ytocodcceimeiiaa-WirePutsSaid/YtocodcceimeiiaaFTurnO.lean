
/- wire's own contracts: inTurn. -/

import Derived.Test.YtocodcceimeiiaaFFirst

namespace Go.Proofs.Ytocodcceimeiiaa

open Go.RowKit Go.ChangeShapes Go.WideShapes Go.ChangeAt

/-- The first k fields with the tags 1, 2, 3 and so on. -/
def ftagd (k : Nat) (l : List FN) : List FN := l.mapIdx fun i f => if i < k then ⟨(i : Int) + 1, f.bytes, f.n, f.b, f.lv⟩ else f
theorem ftagd_len (k : Nat) (l : List FN) : (ftagd k l).length = l.length := by unfold ftagd; simp
theorem ftagd_zero (l : List FN) : ftagd 0 l = l := by
  refine List.ext_getElem (by simp [ftagd]) fun i h1 h2 => ?_
  simp [ftagd]
theorem ftagd_at {k i : Nat} {l : List FN} (h : i < l.length) : (ftagd k l)[i]'(by rw [ftagd_len]; exact h) = if i < k then ⟨(i : Int) + 1, l[i].bytes, l[i].n, l[i].b, l[i].lv⟩ else l[i] := by simp [ftagd]
theorem ftagd_next {k : Nat} {l : List FN} (h : k < l.length) : ftagd (k + 1) l = (ftagd k l).set k ⟨(k : Int) + 1, l[k].bytes, l[k].n, l[k].b, l[k].lv⟩ := by
  refine List.ext_getElem (by rw [List.length_set, ftagd_len, ftagd_len]) fun i h1 h2 => ?_
  rw [List.getElem_set, ftagd_at (by rw [ftagd_len] at h1; exact h1)]
  rw [ftagd_len] at h1
  by_cases hik : k = i
  · subst hik
    rw [if_pos rfl, if_pos (by omega)]
  · rw [if_neg hik, ftagd_at h1]
    by_cases hlt : i < k
    · rw [if_pos hlt, if_pos (by omega)]
    · rw [if_neg hlt, if_neg (by omega)]
theorem fset_tag : ∀ (l : List FN) (k : Nat) (f : FN) (t : Int) (hk : k < l.length), l[k] = f → (l.flatMap fcells).set (k * 4) (.int .i64 t) = (l.set k ⟨t, f.bytes, f.n, f.b, f.lv⟩).flatMap fcells
  | [], _, _, _, h, _ => absurd h (Nat.not_lt_zero _)
  | x :: l, 0, f, t, _, h => by
    obtain rfl : x = f := h
    rw [List.flatMap_cons, List.set_cons_zero, List.flatMap_cons]
    rfl
  | x :: l, k + 1, f, t, hk, h => by
    have h1 := fset_tag l k f t (by simpa using hk) (by simpa using h)
    rw [List.flatMap_cons, List.set_cons_succ, List.flatMap_cons, ← h1, List.set_append_right _ _ (by show (4 : Nat) ≤ _; omega)]
    congr 2
    show (k + 1) * 4 - 4 = _
    omega
theorem fcells_no {l : List FN} {w : World} (h : ∀ f ∈ l, FAt f w) (b : UInt8) : bv b ∉ l.flatMap fcells := by
  intro hm
  obtain ⟨f, hf, hm⟩ := List.mem_flatMap.1 hm
  obtain ⟨A, c, e, _⟩ := (h f hf).byt
  simp only [fcells, List.mem_cons, List.not_mem_nil, or_false, e] at hm
  rcases hm with h | h | h | h <;> cases h
/-- What inTurn answers: bytes of the call's own; block g alone changes. -/
def RetIT (g : Nat) (w : World) (b : List UInt8) (e : Ending) (w' : World) : Prop := ∃ v, e = .returned v ∧ w'.ownsRow w.heap.size 5 1 v b.length (b.map bv) ∧ w.grownBy w' (some g)
def FITRel (l : List FN) (g n : Nat) (w : World) (i : Value) (wr : World) : Prop := ∃ k : Nat, k ≤ n ∧ i = .int .i64 (k : Int) ∧ Row wr g 41 ((ftagd k l).flatMap fcells) ∧ w.grownBy wr (some g)
theorem grown_transF {a b c : World} {g : Option Nat} (h1 : a.grownBy b g) (h2 : b.grownBy c g) : a.grownBy c g :=
  ⟨h2.os.trans h1.os, h2.tape.trans h1.tape, h2.output.trans h1.output, Nat.le_trans h1.size h2.size, fun k hk hne => (h2.block k (Nat.lt_of_lt_of_le hk h1.size) hne).trans (h1.block k hk hne)⟩
theorem grown_belowF {a b : World} {g : Option Nat} (h : Below a.heap.size a b) : a.grownBy b g := ⟨h.os, h.tape, h.output, h.size, fun k hk _ => h.block k hk⟩
theorem ftagd_in {k : Nat} {l : List FN} {P : FN → Prop} (h : ∀ f ∈ l, ∀ t : Int, 0 ≤ t → t ≤ 1000 → P ⟨t, f.bytes, f.n, f.b, f.lv⟩) (h0 : ∀ f ∈ l, P f) (hl : l.length ≤ 100) : ∀ f ∈ ftagd k l, P f := by
  intro f hf
  obtain ⟨i, hi, rfl⟩ := List.mem_iff_getElem.1 hf
  rw [ftagd_len] at hi
  rw [ftagd_at hi]
  split
  · exact h _ (List.getElem_mem hi) _ (by omega) (by omega)
  · exact h0 _ (List.getElem_mem hi)
theorem ftagd_all {l : List FN} (hl : l.length ≤ 100) : ∀ f ∈ ftagd l.length l, ftag f.wf := by
  intro f hf
  obtain ⟨i, hi, rfl⟩ := List.mem_iff_getElem.1 hf
  rw [ftagd_len] at hi
  rw [ftagd_at hi, if_pos hi]
  show 1 ≤ (i : Int) + 1 ∧ (i : Int) + 1 ≤ 100
  omega
set_option maxHeartbeats 4000000 in
set_option maxRecDepth 100000 in
theorem finTurn_any (l : List FN) (g n : Nat) (w : World) (hr : Row w g 41 (l.flatMap fcells)) (hn : l.length = n) (hl : n ≤ 100) (hat : ∀ f ∈ l, FAt f w) :
    Calls Try.prog 18 #[.slice (some ⟨g, 0, none⟩) n n] w (RetIT g w (fbs (ftagd n l))) := by
  have HN := Lib.hid hn
  have HAT := Lib.hid hat
  have HST := Lib.hid (show FITRel l g n w (.int .i64 0) w from ⟨0, Nat.zero_le _, rfl, by rw [ftagd_zero]; exact hr, ⟨rfl, rfl, rfl, Nat.le_refl _, fun _ _ _ => rfl⟩⟩)
  have HR := Lib.hid hr
  have hnm : (n : Int) ≤ 100 := by omega
  clear hr hat hn
  go_enter Try.func18, Try.ntmps18
  go_wp2
  go_loopw [8] (FITRel l g n w) (fun i _ => n - (intOf i).toNat)
  case atStart => exact HST.out
  case round =>
    obtain ⟨k, hk, rfl, hrr, hgw⟩ := hrel
    clear HST
    have HGW := Lib.hid hgw
    have HRR := Lib.hid hrr
    clear hgw hrr
    by_cases hlt : k < n
    · have hlti : (k : Int) < (n : Int) := by omega
      have hkl : k < l.length := by have := HN.out; omega
      have hkt : k < (ftagd k l).length := by rw [ftagd_len]; exact hkl
      have hc : wr.cell? ⟨g, k * 4, none⟩ = some (.int .i64 (l[k]).tag) := by
        rw [HRR.out.cell]
        have h1 := flat_at (f := fcells) (m := 4) (fun _ => rfl) (ftagd k l) k hkt 0 (by omega)
        rw [Nat.add_zero] at h1
        rw [h1, ftagd_at hkl, if_neg (by omega)]
        rfl
      have hf := HRR.out.free (k * 4)
      have h2 := HRR.out.set_ (k * 4) (.int .i64 ((k : Int) + 1))
      rw [fset_tag (ftagd k l) k l[k] _ hkt (by rw [ftagd_at hkl, if_neg (by omega)]), ← ftagd_next hkl] at h2
      have HREL := Lib.hid (show FITRel l g n w (.int .i64 ((k + 1 : Nat) : Int)) (wr.setCell ⟨g, k * 4, none⟩ (.int .i64 ((k : Int) + 1))) from ⟨k + 1, hlt, rfl, h2, grown_transF HGW.out (grown_set wr g (k * 4) _)⟩)
      obtain ⟨tg, htg⟩ : ∃ tg, tg = (l[k]).tag := ⟨_, rfl⟩
      rw [← htg] at hc
      clear h2 hkt htg hkl hk
      go_wp2
      go_roundw
      case rel => exact HREL.out
      case measure => simp [intOf]; omega
    · have hlti : ¬ (k : Int) < (n : Int) := by omega
      obtain rfl : k = n := by omega
      have hal : ∀ f ∈ ftagd k l, FAt f wr := ftagd_in (fun f hf t h0 h1 => by
        have ha := HAT.out f hf
        exact ⟨isB_spared ha.byt HR.out (fcells_no HAT.out) HGW.out, by unfold inInt; dsimp only; omega, ha.n, ha.len⟩) (fun f hf => by
        have ha := HAT.out f hf
        exact ⟨isB_spared ha.byt HR.out (fcells_no HAT.out) HGW.out, ha.tag, ha.n, ha.len⟩) (by have := HN.out; omega)
      have hlen : (ftagd k l).length = k := by rw [ftagd_len]; exact HN.out
      have hput := fput_own (ftagd k l) (.slice (some ⟨g, 0, none⟩) k k) wr ⟨isR_row HRR.out hlen (by omega), hal⟩ (by omega)
      rw [fputP_ok (by have h := ftagd_all (l := l) (by have := HN.out; omega); rw [HN.out] at h; exact h)] at hput
      have HP := Lib.hid hput
      clear hal hlen hput hk
      go_wp2_with fail
      refine (HP.out).mono ?_
      rintro e w2 ⟨v2, rfl, ho2, hb2⟩
      dsimp only at ho2 ⊢
      have HO := Lib.hid (ownW_base HGW.out.size ho2)
      have HG2 := Lib.hid (grown_transF HGW.out (grown_belowF hb2))
      clear ho2 hb2
      go_wp2
      go_ret
      exact ⟨_, rfl, HO.out, HG2.out⟩
end Go.Proofs.Ytocodcceimeiiaa
