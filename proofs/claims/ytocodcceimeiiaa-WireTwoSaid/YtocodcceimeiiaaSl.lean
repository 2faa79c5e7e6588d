
/- Slices of values of one cell, of whatever kind (numbers, truths, texts): f tells a value's cell. Over any program but for the last lines. -/

import Derived.Test.YtocodcceimeiiaaCom

import Derived.Test.YtocodcceimeiiaaRow

import Derived.Deep.Grids

namespace Go.Proofs.Ytocodcceimeiiaa

open Go.RowKit Go.ChangeShapes Go.WideShapes Go.ChangeAt

/-- The slice v holds l. (IsB is this at bv, IsU at uv.) -/
def IsV {α : Type} (f : α → Value) (l : List α) (v : Value) (w : World) : Prop := ∃ A c, v = .slice A l.length c ∧ (A = none → l.length = 0) ∧ l.length ≤ c ∧ c ≤ maxLen ∧ Lies w A (l.map f)
section

variable {α : Type} {f : α → Value} {l : List α} {v : Value} {w w' : World}
theorem IsV.below (h : IsV f l v w) (hb : Below w.heap.size w w') : IsV f l v w' := by
  obtain ⟨A, c, h1, h2, h3, h4, h5⟩ := h
  exact ⟨A, c, h1, h2, h3, h4, h5.below hb⟩
theorem isV_nil (f : α → Value) (w : World) : IsV f [] (.slice none 0 0) w := ⟨none, 0, rfl, by simp, by simp, by unfold maxLen; omega, Lies.nil⟩
theorem isV_row {g : Nat} {t : TypeId} {m : Nat} (h : Row w g t (l.map f)) (hl : l.length = m) (hm : m ≤ 1000000) : IsV f l (.slice (some ⟨g, 0, none⟩) m m) w := by
  subst hl
  exact ⟨_, _, rfl, by simp, Nat.le_refl _, by unfold maxLen; omega, by simpa using h.lies 0⟩
theorem isV_new (f : α → Value) (w : World) (t : TypeId) (l : List α) (m : Nat) (hl : l.length = m) (hm : m ≤ 1000000) : IsV f l (.slice (some ⟨w.heap.size, 0, none⟩) m m) (w.alloc (.cells (l.map f).toArray t)) := by
  have h : Row (w.alloc (.cells (l.map f).toArray t)) w.heap.size t (l.map f) := heap_alloc_new w _
  exact isV_row h hl hm
theorem isV_own {base : Nat} {e : TypeId} {n : Nat} (h : w.ownsRow base e 1 v n (l.map f)) : IsV f l v w := by
  obtain ⟨B, c, rfl, hnc, hcm, _, hl, hlen⟩ := own_shape h
  rw [List.length_map] at hlen
  subst hlen
  refine ⟨B, c, rfl, ?_, hnc, hcm, hl⟩
  intro hB
  subst hB
  rcases hl with hl | ⟨ad, h, _⟩
  · simpa using hl
  · cases h
theorem vs_one {f : α → Value} (h : ∀ x, (f x).oneCell' = true) (l : List α) : ∀ u ∈ l.map f, u.oneCell' = true := by
  intro u hu
  obtain ⟨b, _, rfl⟩ := List.mem_map.1 hu
  exact h b
theorem IsV.cell (h : IsV f l v w) {k : Nat} (hk : k < l.length) : ∃ ad c, v = .slice (some ad) l.length c ∧ ad.block < w.heap.size ∧ w.cell? (ad.add k) = some (f l[k]) := by
  obtain ⟨A, c, h1, _, _, _, h5⟩ := h
  obtain ⟨ad, rfl, h2, h3⟩ := h5.cell (k := k) (by rw [List.length_map]; exact hk)
  exact ⟨ad, c, h1, h2, by rw [h3, List.getElem_map]⟩
theorem IsV.at {A : Option Addr} {n c : Nat} (h : IsV f l (.slice A n c) w) {k : Nat} (hk : k < l.length) : ∃ ad, A = some ad ∧ ad.block < w.heap.size ∧ w.cell? (ad.add k) = some (f l[k]) := by
  obtain ⟨ad, c', h1, h2, h3⟩ := h.cell hk
  injection h1 with h1 _ _
  exact ⟨ad, h1, h2, h3⟩
theorem IsV.len {A : Option Addr} {n c : Nat} (h : IsV f l (.slice A n c) w) : n = l.length := by
  obtain ⟨A', c', h1, _⟩ := h
  injection h1
/-- The first k of it, by x[:k]. -/
theorem IsV.take {A : Option Addr} {n c : Nat} (h : IsV f l (.slice A n c) w) {k : Nat} (hk : k ≤ n) : IsV f (l.take k) (.slice A k c) w := by
  obtain ⟨A', c', h1, h2, h3, h4, h5⟩ := h
  injection h1 with e1 e2 e3
  subst e1 e2 e3
  have hl : (l.take k).length = k := by rw [List.length_take]; omega
  exact ⟨A, c, by rw [hl], fun h => by have := h2 h; omega, by rw [hl]; omega, h4, by rw [List.map_take]; exact h5.take k⟩
end
/-- What is known of a slice that is written out. -/
theorem IsV.parts {α : Type} {f : α → Value} {l : List α} {w : World} {A : Option Addr} {n c : Nat} (h : IsV f l (.slice A n c) w) : l.length = n ∧ (A = none → n = 0) ∧ n ≤ c ∧ c ≤ maxLen ∧ Lies w A (l.map f) := by
  obtain ⟨A', c', h1, h2, h3, h4, h5⟩ := h
  injection h1 with e1 e2 e3
  subst e1 e2 e3
  exact ⟨rfl, h2, h3, h4, h5⟩
theorem IsV.shape {α : Type} {f : α → Value} {l : List α} {v : Value} {w : World} (h : IsV f l v w) : ∃ A n c, v = .slice A n c := by
  obtain ⟨A', c', h1, _⟩ := h
  exact ⟨_, _, _, h1⟩
theorem isB_iff {l : List UInt8} {v : Value} {w : World} : IsB l v w ↔ IsV bv l v w := Iff.rfl

/-- x[k:] of a slice of values of one cell, as one equation. -/
theorem fromV_named {P : Program} {α : Type} {f : α → Value} {w : World} {t e : TypeId} {bytes : Nat} {z : Value} (E : Elem P t e bytes z) {A : Option Addr} {n c k : Nat} {l : List α} (hk : k ≤ n) (hI : IsV f l (.slice A n c) w) :
    ∃ v, (∀ W, (Instr.sliceAt t (.slice A n c) (some (.int .i64 (k : Int))) none none).run P W = .ok v W) ∧ IsV f (l.drop k) v w := by
  obtain ⟨hxs, hA, hnc, hcm, hl⟩ := hI.parts
  have ht := E.under
  have he : P.elem t = e := by simp [Program.elem, ht]
  refine ⟨.slice (if c = k then A else A.map (·.add k)) (n - k) (c - k), fun W => ?_, if c = k then A else A.map (·.add k), c - k, ?_, ?_, ?_, by omega, ?_⟩
  · rw [run_sliceAt_slice W t _ _ _ _ (by rw [he]; exact ht), run_slice_l W t A n c (by rw [he]; exact ht) .i64 (k : Int) (by omega) (by omega), he, E.size_]
    simp [sliced]
  · rw [List.length_drop, hxs]
  · intro hB
    have : A = none := by
      split at hB
      · exact hB
      · cases A with
        | none => rfl
        | some ad => simp at hB
    have := hA this
    rw [List.length_drop, hxs]
    omega
  · rw [List.length_drop, hxs]; omega
  · rw [List.map_drop]; exact hl.drop (by rw [List.length_map]; omega)

/-- A slice of truths that came in. -/
theorem open_truths {H : Type} {enc : TypeId × Value → H} {P : Program} {t e : TypeId} {W : World} {v : Value} {d : DataW H} {ps : List MemPlace} {base : Nat} (ht : P.underlying t = some (.slice e)) (he : P.underlying e = some .bool) (hc : P.cellsOf e = 1)
    (hval : Value.okWide P W .any base t v) (hd : DataW.Trod enc P W 0 (fun _ => true) true t v d ps) (hlt : ∀ x ∈ ps, x.block < W.heap.size) :
    ∃ l : List Bool, IsV Value.bool l v W := by
  obtain ⟨a0, len, cap, rfl⟩ := okWide_slice ht hval
  obtain ⟨fuel, hf⟩ := hd
  rcases Deep.open_bools ht he hc hf with ⟨hcs, hx⟩ | ⟨a, len', cap', B, hcs, _, hl, hm, hx, hcell⟩
  · simp [Value.cells] at hcs
    obtain ⟨rfl, rfl, rfl⟩ := hcs
    exact ⟨[], isV_nil _ _⟩
  · simp [Value.cells] at hcs
    obtain ⟨rfl, rfl, rfl⟩ := hcs
    simp only [Prod.mk.injEq] at hx
    obtain ⟨rfl, rfl⟩ := hx
    refine ⟨(List.range len).map B, some a, cap, by simp, by simp, by simpa using hl, hm, ?_⟩
    by_cases h0 : len = 0
    · subst h0; exact .inl (by simp)
    · refine .inr ⟨a, rfl, ?_, fun j u hu => ?_⟩
      · have hs : a.spot = none := by
          have := hcell 0 (by omega)
          have h1 : a.add 0 = a := by simp [Addr.add]
          rw [h1] at this
          exact World.cell?_spot this
        obtain ⟨b, off, spot⟩ := a
        exact hlt (.cell b off) (MemPlace.mem_row.2 ⟨0, by omega, by simp⟩)
      · rw [List.getElem?_map, List.getElem?_map] at hu
        by_cases hj : j < len
        · rw [List.getElem?_range hj] at hu
          simp at hu
          subst hu
          exact hcell j (by omega)
        · rw [List.getElem?_eq_none (by simp; omega)] at hu; simp at hu

/-- A slice of bytes that came in, of an opaque value. -/
theorem open_bytesv {H : Type} {enc : TypeId × Value → H} {P : Program} {t e : TypeId} {W : World} {v : Value} {d : DataW H} {ps : List MemPlace} {base : Nat} (ht : P.underlying t = some (.slice e)) (he : P.underlying e = some (.int .u8)) (hc : P.cellsOf e = 1)
    (hval : Value.okWide P W .any base t v) (hd : DataW.Trod enc P W 0 (fun _ => true) true t v d ps) (hlt : ∀ x ∈ ps, x.block < W.heap.size) : ∃ l : List UInt8, IsB l v W := by
  obtain ⟨A, n, c, l, rfl, hA, hn, hnc, hcm, hl⟩ := open_bytes ht he hc hval hd hlt
  subst hn
  exact ⟨l, A, c, rfl, hA, hnc, hcm, hl⟩

/-- Whole numbers with a sign. -/
def iv (x : Int) : Value := .int .i64 x
def inInt (x : Int) : Prop := -9223372036854775808 ≤ x ∧ x ≤ 9223372036854775807
/-- Slices of numbers that came in, of opaque values. -/
theorem open_intsv {H : Type} {enc : TypeId × Value → H} {P : Program} {t e : TypeId} {W : World} {v : Value} {d : DataW H} {ps : List MemPlace} {base : Nat} (ht : P.underlying t = some (.slice e)) (he : P.underlying e = some (.int .i64)) (hc : P.cellsOf e = 1)
    (hval : Value.okWide P W .any base t v) (hd : DataW.Trod enc P W 0 (fun _ => true) true t v d ps) (hlt : ∀ x ∈ ps, x.block < W.heap.size) : ∃ l : List Int, IsV iv l v W ∧ ∀ x ∈ l, inInt x := by
  obtain ⟨A, n, c, zs, rfl, h2, h3, h4, h5, h6, h7⟩ := open_lies ht he hc hval hd hlt
  subst h3
  exact ⟨zs, ⟨A, c, rfl, h2, h4, h5, h6⟩, fun x hx => by simpa [Lit.wf, IntKind.min, IntKind.max, IntKind.signed, IntKind.bits, inInt] using h7 x hx⟩
theorem open_u64v {H : Type} {enc : TypeId × Value → H} {P : Program} {t e : TypeId} {W : World} {v : Value} {d : DataW H} {ps : List MemPlace} {base : Nat} (ht : P.underlying t = some (.slice e)) (he : P.underlying e = some (.int .u64)) (hc : P.cellsOf e = 1)
    (hval : Value.okWide P W .any base t v) (hd : DataW.Trod enc P W 0 (fun _ => true) true t v d ps) (hlt : ∀ x ∈ ps, x.block < W.heap.size) : ∃ l : List Nat, IsV uv l v W ∧ ∀ x ∈ l, x < 2 ^ 64 := by
  obtain ⟨A, n, c, l, rfl, h2, h3, h4, h5, h6, h7⟩ := open_u64s ht he hc hval hd hlt
  subst h3
  exact ⟨l, ⟨A, c, rfl, h2, h4, h5, h6⟩, h7⟩
/-- An array of three whole numbers that came in. -/
theorem open_arr3 {H : Type} {enc : TypeId × Value → H} {P : Program} {k : IntKind} {t e : TypeId} {W : World} {v : Value} {d : DataW H} {ps : List MemPlace} {base : Nat} (ht : P.underlying t = some (.array 3 e)) (he : P.underlying e = some (.int k)) (hc : P.cellsOf e = 1) (hC : P.cellsOf t = 3)
    (hval : Value.okWide P W .any base t v) (hd : DataW.Trod enc P W 0 (fun _ => true) true t v d ps) :
    ∃ a b c : Int, v = .agg #[.int k a, .int k b, .int k c] ∧ (Lit.int k a).wf = true ∧ (Lit.int k b).wf = true ∧ (Lit.int k c).wf = true := by
  unfold Value.okWide at hval
  rw [ht] at hval
  obtain ⟨cs, rfl, hsz, _⟩ := hval
  obtain ⟨fuel, hf⟩ := hd
  obtain ⟨xs, m, _, _, _, hlen, hx⟩ := DataW.trod_array ht hf
  match xs, hlen with
  | [y0, y1, y2], _ =>
    rw [hC] at hsz
    obtain ⟨c0, c1, c2, rfl⟩ : ∃ c0 c1 c2, cs = #[c0, c1, c2] := by
      obtain ⟨l⟩ := cs
      match l, hsz with
      | [c0, c1, c2], _ => exact ⟨c0, c1, c2, rfl⟩
    have h0 := hx 0 (by omega)
    have h1 := hx 1 (by omega)
    have h2 := hx 2 (by omega)
    rw [hc] at h0 h1 h2
    simp [Value.cells] at h0 h1 h2
    obtain ⟨a, ha, _, hwa⟩ := DataW.trod_int he h0
    obtain ⟨b, hb, _, hwb⟩ := DataW.trod_int he h1
    obtain ⟨c, hcc, _, hwc⟩ := DataW.trod_int he h2
    simp at ha hb hcc
    subst ha hb hcc
    exact ⟨a, b, c, rfl, hwa, hwb, hwc⟩

theorem Try.infoL : (Try.prog.info? 4).map (fun i => (i.zero, i.size, i.bytes)) = some (some (.bool false), 1, 1) := by kernel_rfl
theorem Try.infoI : (Try.prog.info? 3).map (fun i => (i.zero, i.size, i.bytes)) = some (some (.int .i64 0), 1, 8) := by kernel_rfl
end Go.Proofs.Ytocodcceimeiiaa
