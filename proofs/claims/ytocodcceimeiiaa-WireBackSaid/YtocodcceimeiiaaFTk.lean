
/- What the walk of Take of layer 19's reference stands on: bytes that lie in a block of bytes, and stay where a row of fields grows. -/

import Derived.Test.YtocodcceimeiiaaFRef

import Derived.Test.YtocodcceimeiiaaRTake

import Derived.Test.YtocodcceimeiiaaVIs

namespace Go.Proofs.Ytocodcceimeiiaa

open Go.RowKit Go.ChangeShapes Go.WideShapes Go.ChangeAt

/-- The value v holds the bytes l, in a block of bytes. -/
def IsBT (l : List UInt8) (v : Value) (w : World) : Prop := IsB l v w ∧ ∀ ad n c, v = .slice (some ad) n c → ∃ cs, w.heap[ad.block]? = some (.cells cs 5 (0, 0))
theorem IsBT.below {l : List UInt8} {v : Value} {w w' : World} (h : IsBT l v w) (hb : Below w.heap.size w w') : IsBT l v w' := by
  refine ⟨h.1.below hb, fun ad n c e => ?_⟩
  obtain ⟨cs, hc⟩ := h.2 ad n c e
  exact ⟨cs, (hb.block _ (Array.getElem?_eq_some_iff.1 hc).1).trans hc⟩
theorem isBT_nil (w : World) : IsBT [] (.slice none 0 0) w := ⟨isB_nil w, fun ad n c e => by cases e⟩
theorem isBT_own {w : World} {base : Nat} {v : Value} {n : Nat} {l : List UInt8} (h : w.ownsRow base 5 1 v n (l.map bv)) : IsBT l v w := by
  refine ⟨isB_own h, fun ad m c e => ?_⟩
  rcases h.2 with ⟨h1, _⟩ | ⟨g, cap, cur, h1, _, hg, _⟩
  · rw [h1] at e; cases e
  · rw [h1] at e
    injection e with e _ _
    injection e with e
    subst e
    exact ⟨cur, hg⟩
/-- A row of fields grows: the bytes stay. -/
theorem IsBT.grown {l : List UInt8} {v : Value} {w w' : World} {base s k : Nat} {e : TypeId} {ov : Value} {ys : List Value} (h : IsBT l v w) (ho : w.ownsRow base e s ov k ys) (hne : e ≠ 5) (hg : w.grownBy w' ov.ownBlock) : IsBT l v w' := by
  have key : ∀ ad n c, v = .slice (some ad) n c → w'.heap[ad.block]? = w.heap[ad.block]? := fun ad n c hv => by
    obtain ⟨cs, hc⟩ := h.2 ad n c hv
    refine hg.block _ (Array.getElem?_eq_some_iff.1 hc).1 fun he => ?_
    rcases ho.2 with ⟨h1, _⟩ | ⟨g, cap, cur, h1, _, hg2, _⟩
    · rw [h1] at he; cases he
    · rw [h1] at he
      injection he with he
      dsimp only at he
      rw [← he, hc] at hg2
      injection hg2 with hg2
      injection hg2 with _ h3
      exact hne h3.symm
  obtain ⟨A, c, e1, h2, h3, h4, h5⟩ := h.1
  refine ⟨⟨A, c, e1, h2, h3, h4, ?_⟩, fun ad n c hv => ?_⟩
  · rcases h5 with h5 | ⟨ad, hA, hlt, hcell⟩
    · exact .inl h5
    · subst hA
      exact .inr ⟨ad, rfl, Nat.lt_of_lt_of_le hlt hg.size, fun j u hu => (World.cell?_of_block (by rw [add_block]; exact key ad _ _ e1)).trans (hcell j u hu)⟩
  · obtain ⟨cs, hc⟩ := h.2 ad n c hv
    exact ⟨cs, (key ad n c hv).trans hc⟩
theorem fields_grown {w w' : World} {base s k : Nat} {e : TypeId} {ov : Value} {ys : List Value} {fs : List FN} (h : ∀ f ∈ fs, IsBT f.b f.lv w) (ho : w.ownsRow base e s ov k ys) (hne : e ≠ 5) (hg : w.grownBy w' ov.ownBlock) : ∀ f ∈ fs, IsBT f.b f.lv w' := fun f hf => (h f hf).grown ho hne hg
/-- What Take answers: fields (of the type T), or 2. -/
def RetFX (T : TypeId) (w : World) (o : Option (List WF)) (e : Ending) (w' : World) : Prop :=
  match o with
  | none => e = .returned (.tuple #[.slice none 0 0, .int .i64 2]) ∧ Below w.heap.size w w'
  | some l => ∃ (fs : List FN) (v : Value), e = .returned (.tuple #[v, .int .i64 0]) ∧ fs.map FN.wf = l ∧ w'.ownsRow w.heap.size T 4 v fs.length (fs.flatMap fcells) ∧ (∀ f ∈ fs, IsBT f.b f.lv w') ∧ Below w.heap.size w w'
def RetFT (w : World) (o : Option (List WF)) (e : Ending) (w' : World) : Prop := RetFX 35 w o e w'
def FTakeRel (b : List UInt8) (w : World) (ov rv : Value) (wr : World) : Prop :=
  ∃ (fs : List FN) (rest : List UInt8), ftakeE b = (ftakeE rest).map (fs.map FN.wf ++ ·) ∧ fs.length + rest.length ≤ b.length ∧ wr.ownsRow w.heap.size 35 4 ov fs.length (fs.flatMap fcells) ∧ (∀ f ∈ fs, IsBT f.b f.lv wr) ∧ IsBT rest rv wr ∧ Below w.heap.size w wr
theorem elemFN : ∃ b, b ≤ 100 ∧ ElemW Try.prog 22 35 b 4 (.agg (fcells ⟨0, false, 0, [], .slice none 0 0⟩).toArray) := by
  have h : (Try.prog.info? 35).map (fun i => (i.zero, i.size, decide (i.bytes ≤ 100))) = some (some (.agg (fcells ⟨0, false, 0, [], .slice none 0 0⟩).toArray), 4, true) := by kernel_rfl
  cases hi : Try.prog.info? 35 with
  | none => rw [hi] at h; cases h
  | some i =>
    rw [hi] at h
    injection h with h
    injection h with h1 h
    injection h with h2 h3
    exact ⟨i.bytes, of_decide_eq_true h3, Try.underlying22, rfl, by omega, i, hi, h1, h2, rfl⟩
theorem ftake1_nk {b : List UInt8} (h : vtake b = none) : ftake1 b = none := by unfold ftake1; rw [h]
theorem ftake1_bad {b more : List UInt8} {k : Nat} (h : vtake b = some (k, more)) (hk : k < 8 ∨ 802 < k ∨ (k % 8 ≠ 0 ∧ k % 8 ≠ 2)) : ftake1 b = none := by unfold ftake1; rw [h]; dsimp only; rw [if_pos hk]
theorem ftake1_nn {b more : List UInt8} {k : Nat} (h : vtake b = some (k, more)) (h2 : vtake more = none) : ftake1 b = none := by
  unfold ftake1
  rw [h]
  dsimp only
  split
  · rfl
  · rw [h2]
theorem ftake1_short {b more behind : List UInt8} {k n : Nat} (h : vtake b = some (k, more)) (h2 : vtake more = some (n, behind)) (h8 : k % 8 = 2) (hn : behind.length < n) : ftake1 b = none := by
  unfold ftake1
  rw [h]
  dsimp only
  split
  · rfl
  · rw [h2]
    dsimp only
    first
      | rw [if_pos h8, if_pos hn]
      | rw [if_pos hn]
theorem ftake1_bytes {b more behind : List UInt8} {k n : Nat} (h : vtake b = some (k, more)) (hk : ¬ (k < 8 ∨ 802 < k ∨ (k % 8 ≠ 0 ∧ k % 8 ≠ 2))) (h2 : vtake more = some (n, behind)) (h8 : k % 8 = 2) (hn : ¬ behind.length < n) :
    ftake1 b = some (⟨(k / 8 : Nat), true, 0, behind.take n⟩, behind.drop n) := by unfold ftake1; rw [h]; dsimp only; rw [if_neg hk, h2]; dsimp only; rw [if_pos h8, if_neg hn]
theorem ftake1_number {b more behind : List UInt8} {k n : Nat} (h : vtake b = some (k, more)) (hk : ¬ (k < 8 ∨ 802 < k ∨ (k % 8 ≠ 0 ∧ k % 8 ≠ 2))) (h2 : vtake more = some (n, behind)) (h8 : ¬ k % 8 = 2) :
    ftake1 b = some (⟨(k / 8 : Nat), false, n, []⟩, behind) := by unfold ftake1; rw [h]; dsimp only; rw [if_neg hk, h2]; dsimp only; rw [if_neg h8]
end Go.Proofs.Ytocodcceimeiiaa
