
/- What layer 19's laws share. Written by gen_wire_laws.py. -/

import Derived.Test.YtocodcceimeiiaaFShown

import Derived.Test.YtocodcceimeiiaaFKit

import Derived.Test.YtocodcceimeiiaaFFew

namespace Go.Proofs.Ytocodcceimeiiaa

open Go.RowKit Go.ChangeShapes Go.WideShapes Go.ChangeAt

theorem fat_like {fs l : List FN} {w w' : World} (he : fs.map FN.wf = l.map FN.wf) (hl : ∀ f ∈ l, FAt f w) (hb : ∀ f ∈ fs, IsBT f.b f.lv w') : ∀ f ∈ fs, FAt f w' := by
  intro f hf
  obtain ⟨g, hg, hw⟩ := List.mem_map.1 (he ▸ List.mem_map.2 ⟨f, hf, rfl⟩ : f.wf ∈ l.map FN.wf)
  have ha := hl g hg
  have hI := (hb f hf).1
  obtain ⟨t1, b1, n1, s1, v1⟩ := f
  obtain ⟨t2, b2, n2, s2, v2⟩ := g
  unfold FN.wf at hw
  injection hw with q1 q2 q3 q4
  dsimp only at q1 q2 q3 q4
  subst q1 q2 q3 q4
  exact ⟨hI, ha.tag, ha.n, ha.len⟩
theorem fputP_like {fs l : List FN} (he : fs.map FN.wf = l.map FN.wf) : fputP fs = fputP l := by unfold fputP; rw [he]
theorem flen_like {fs l : List FN} (he : fs.map FN.wf = l.map FN.wf) : fs.length = l.length := by have := congrArg List.length he; simpa using this
theorem ffields_like {T : TypeId} {fs l : List FN} {w w' : World} {v : Value} {base n : Nat} (he : fs.map FN.wf = l.map FN.wf) (hl : ∀ f ∈ l, FAt f w) (hb : ∀ f ∈ fs, IsBT f.b f.lv w') (ho : w'.ownsRow base T 4 v n (fs.flatMap fcells)) : IsFields fs v w' := isFields_own ho (fat_like he hl hb)
theorem ffew_fields {l : List FN} {v0 v : Value} {w w' : World} {base : Nat} (h : IsFieldsIn l v0 w) (hb : Below w.heap.size w w') (ho : w'.ownsRow base 35 4 v (ffewL l).length ((ffewL l).flatMap fcells)) : IsFields (ffewL l) v w' := isFields_own ho fun f hf => ((ffewL_at h.2 f hf).1).below hb
theorem fputP_two (l m : List FN) : (∃ A B, fputP l = (A, 0) ∧ fputP m = (B, 0) ∧ fputP (l ++ m) = (A ++ B, 0)) ∨ (((fputP l).2 = 1 ∨ ((fputP l).2 = 0 ∧ (fputP m).2 = 1)) ∧ fputP (l ++ m) = ([], 1)) := by
  have h := fputE_app (l.map FN.wf) (m.map FN.wf)
  unfold fputP
  rw [List.map_append, h]
  cases h1 : fputE (l.map FN.wf) with
  | none => exact .inr ⟨.inl rfl, rfl⟩
  | some A =>
    cases h2 : fputE (m.map FN.wf) with
    | none => exact .inr ⟨.inr ⟨rfl, rfl⟩, rfl⟩
    | some B => exact .inl ⟨A, B, rfl, rfl, rfl⟩
theorem two_texts (A B : List UInt8) : (A ++ B == ((⟨A.toArray⟩ : ByteArray) ++ (⟨B.toArray⟩ : ByteArray)).toList) = true := by
  rw [ByteArray.toList_eq, ByteArray.data_append]
  simp
theorem fputP_len {l : List FN} {w : World} (h : ∀ f ∈ l, FAt f w) (hl : l.length ≤ 200) : (fputP l).1.length ≤ 804000 := by
  by_cases ht : ∀ f ∈ l, ftag f.wf
  · rw [fputP_ok ht]
    have h1 := fbs_len (w := w) (l := l) fun f hf => ⟨h f hf, ht f hf⟩
    show (fbs l).length ≤ _
    omega
  · have h2 : fputP l = ([], 1) := by
      unfold fputP fputE
      rw [if_neg fun h3 => ht fun f hf => h3 _ (List.mem_map.2 ⟨f, hf, rfl⟩)]
    rw [h2]
    simp
theorem fat_grown {f : FN} {w w' : World} (h : FAt f w) (hb : IsBT f.b f.lv w') : FAt f w' := ⟨hb.1, h.tag, h.n, h.len⟩
theorem fields_oneW {l : List FN} {v : Value} {w : World} (h : IsFields l v w) : ∀ u ∈ l.flatMap fcells, u.oneCell' = true := by
  intro u hu
  obtain ⟨f, hf, hu⟩ := List.mem_flatMap.1 hu
  obtain ⟨A, c, e, _⟩ := (h.2 f hf).byt
  simp only [fcells, e, List.mem_cons, List.not_mem_nil, or_false] at hu
  rcases hu with rfl | rfl | rfl | rfl <;> rfl
end Go.Proofs.Ytocodcceimeiiaa
