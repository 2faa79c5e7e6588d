
/- From a law's walk to its row: the law answers true and leaves old memory as it was, so each argument reads behind the call as it read before. Over any program. -/

import Derived.Test.YtocodcceimeiiaaMem

import Derived.ProofKit

import Derived.OpenShut

import Derived.SizedLaws

import Derived.Carry

import Derived.ChangeSlices

import Derived.SevenTiedAt

namespace Go.Proofs.Ytocodcceimeiiaa

open Go.RowKit Go.ChangeShapes Go.WideShapes Go.ChangeAt

section

variable {H : Type} {enc : TypeId × Value → H} {P : Program}

theorem trodAll_later (hl : laidOutB P = true) {W W' : World} (hb : Below W.heap.size W W') :
    ∀ {ts : List TypeId} {vs : List Value} {ds : List (DataW H)} {ps : List MemPlace}, (ts.all fun t => P.readableRec t && decide (t < P.types.size)) = true →
      DataW.TrodAll enc P W 0 (fun _ => true) true ts vs ds ps → (∀ x ∈ ps, x.block < W.heap.size) → DataW.TrodAll enc P W' 0 (fun b => decide (b < W.heap.size)) true ts vs ds ps
  | [], _, _, _, _, h, _ => by
    obtain ⟨rfl, rfl, rfl⟩ := trodAll_nil h
    exact rfl
  | t :: ts, _, _, _, hr, h, hlt => by
    obtain ⟨v, vs1, d, ds1, a, b, rfl, rfl, rfl, h1, h2⟩ := trodAll_cons h
    simp only [List.all_cons, Bool.and_eq_true, decide_eq_true_eq] at hr
    exact ⟨a, b, Below.trod hl hr.1.1 hr.1.2 h1 hb (fun x hx => hlt x (List.mem_append_left _ hx)), trodAll_later hl hb hr.2 h2 (fun x hx => hlt x (List.mem_append_right _ hx)), rfl⟩

/-- What a law's row asks behind the call. -/
theorem law_post {f : Func} {s : ChangeSpec} {tb : TypeId} {W W' : World} {args : Array Value} {ds : List (DataW H)} {before : List MemPlace} (hl : laidOutB P = true) (htb : P.underlying tb = some .bool)
    (hrt : f.resultTypes = #[tb]) (hpar : (f.params.toList.all fun t => P.readableRec t && decide (t < P.types.size)) = true) (hvars : s.vars = [])
    (hW : DataW.Whole enc P f.params.toList s.vars false W args.toList ds [] before) (hfn : s.fn H (ds ++ []) = { results := [.lit (.bool true)], args := ds }) (hb : Below W.heap.size W W') :
    s.post enc P f false true false false W args (.bool true) W' := by
  obtain ⟨p, q, hA, hV, hpq, hfz, hnd⟩ := hW
  have hW : DataW.Whole enc P f.params.toList s.vars false W args.toList ds [] before := ⟨p, q, hA, hV, hpq, hfz, hnd⟩
  refine ⟨ds, [], before, [], p, [], hW, ?_, ?_, ?_, hb.frame _, fun h => by cases h⟩
  · rw [hfn, hrt]
    exact trodAll_cons_mk (shut_bool htb _) trodAll_mk0
  · rw [hfn]
    exact trodAll_later hl hb hpar hA fun x hx => hW.lt x (by rw [hpq]; exact List.mem_append_left _ hx)
  · rw [hfn, hvars]
    rfl
/-- A slice of whole numbers that came in: the cells, nil let in. -/
theorem open_lies {k : IntKind} {t e : TypeId} {W : World} {v : Value} {d : DataW H} {ps : List MemPlace} {base : Nat} (ht : P.underlying t = some (.slice e)) (he : P.underlying e = some (.int k)) (hc : P.cellsOf e = 1)
    (hval : Value.okWide P W .any base t v) (hd : DataW.Trod enc P W 0 (fun _ => true) true t v d ps) (hlt : ∀ x ∈ ps, x.block < W.heap.size) :
    ∃ (A : Option Addr) (n c : Nat) (zs : List Int), v = .slice A n c ∧ (A = none → n = 0) ∧ zs.length = n ∧ n ≤ c ∧ c ≤ maxLen ∧ Lies W A (zs.map (Value.int k)) ∧ ∀ z ∈ zs, (Lit.int k z).wf = true := by
  obtain ⟨a0, len, cap, rfl⟩ := okWide_slice ht hval
  obtain ⟨fuel, hf⟩ := hd
  rcases open_ints ht he hc hf with ⟨hcs, hx⟩ | ⟨a, len', cap', zs, hcs, _, hl, hm, hz, hx, hcell, hwz⟩
  · simp [Value.cells] at hcs
    obtain ⟨rfl, rfl, rfl⟩ := hcs
    exact ⟨none, 0, 0, [], rfl, by simp, rfl, by omega, by unfold maxLen; omega, Lies.nil, by simp⟩
  · simp [Value.cells] at hcs
    obtain ⟨rfl, rfl, rfl⟩ := hcs
    simp only [Prod.mk.injEq] at hx
    obtain ⟨rfl, rfl⟩ := hx
    simp only [if_true] at hz
    have htl : (zs.take len).length = len := by rw [List.length_take]; omega
    refine ⟨some a, len, cap, zs.take len, rfl, by simp, htl, hl, hm, ?_, fun z hz => hwz z (List.mem_of_mem_take hz)⟩
    by_cases h0 : len = 0
    · subst h0; exact .inl (by simp)
    · refine .inr ⟨a, rfl, ?_, fun j u hu => ?_⟩
      · have hs : a.spot = none := by
          have := hcell 0 (by omega)
          have h1 : a.add 0 = a := by simp [Addr.add]
          rw [h1] at this
          exact World.cell?_spot this
        obtain ⟨b, off, spot⟩ := a
        exact hlt (.cell b off) (MemPlace.mem_row.2 ⟨0, by omega, by simp⟩)
      · rw [List.getElem?_map, List.getElem?_take] at hu
        by_cases hj : j < len
        · rw [if_pos hj] at hu
          have hjl : j < zs.length := by omega
          rw [List.getElem?_eq_getElem hjl] at hu
          simp at hu
          subst hu
          rw [hcell j hjl]
          simp [List.getElem?_eq_getElem hjl]
        · rw [if_neg hj] at hu; simp at hu
/-- An array of two whole numbers that came in. -/
theorem open_arr2 {k : IntKind} {t e : TypeId} {W : World} {v : Value} {d : DataW H} {ps : List MemPlace} {base : Nat} (ht : P.underlying t = some (.array 2 e)) (he : P.underlying e = some (.int k)) (hc : P.cellsOf e = 1) (hC : P.cellsOf t = 2)
    (hval : Value.okWide P W .any base t v) (hd : DataW.Trod enc P W 0 (fun _ => true) true t v d ps) :
    ∃ a b : Int, v = .agg #[.int k a, .int k b] ∧ (Lit.int k a).wf = true ∧ (Lit.int k b).wf = true := by
  unfold Value.okWide at hval
  rw [ht] at hval
  obtain ⟨cs, rfl, hsz, _⟩ := hval
  obtain ⟨fuel, hf⟩ := hd
  obtain ⟨xs, m, _, _, _, hlen, hx⟩ := DataW.trod_array ht hf
  match xs, hlen with
  | [y0, y1], _ =>
    rw [hC] at hsz
    obtain ⟨c0, c1, rfl⟩ : ∃ c0 c1, cs = #[c0, c1] := by
      obtain ⟨l⟩ := cs
      match l, hsz with
      | [c0, c1], _ => exact ⟨c0, c1, rfl⟩
    have h0 := hx 0 (by omega)
    have h1 := hx 1 (by omega)
    rw [hc] at h0 h1
    simp [Value.cells] at h0 h1
    obtain ⟨a, ha, _, hwa⟩ := DataW.trod_int he h0
    obtain ⟨b, hb, _, hwb⟩ := DataW.trod_int he h1
    simp at ha hb
    subst ha hb
    exact ⟨a, b, rfl, hwa, hwb⟩
theorem stand_ins {P : Program} {ps : Array TypeId} {j : Nat} {t : TypeId} (h : (ps.toList.all fun u => !P.wantsStandIn u) = true) (ht : ps[j]? = some t) : P.wantsStandIn t = false := by
  have := List.all_eq_true.1 h t (by simpa using Array.mem_of_getElem? ht)
  simpa using this
/-- A slice of numbers that are not below 0 that came in. -/
theorem open_u64s {t e : TypeId} {W : World} {v : Value} {d : DataW H} {ps : List MemPlace} {base : Nat} (ht : P.underlying t = some (.slice e)) (he : P.underlying e = some (.int .u64)) (hc : P.cellsOf e = 1)
    (hval : Value.okWide P W .any base t v) (hd : DataW.Trod enc P W 0 (fun _ => true) true t v d ps) (hlt : ∀ x ∈ ps, x.block < W.heap.size) :
    ∃ (A : Option Addr) (n c : Nat) (l : List Nat), v = .slice A n c ∧ (A = none → n = 0) ∧ l.length = n ∧ n ≤ c ∧ c ≤ maxLen ∧ Lies W A (l.map uv) ∧ ∀ x ∈ l, x < 2 ^ 64 := by
  obtain ⟨A, n, c, zs, h1, h2, h3, h4, h5, h6, h7⟩ := open_lies ht he hc hval hd hlt
  have hz : ∀ z ∈ zs, 0 ≤ z ∧ z ≤ 18446744073709551615 := fun z hz => by simpa [Lit.wf, IntKind.min, IntKind.max, IntKind.signed, IntKind.bits] using h7 z hz
  refine ⟨A, n, c, zs.map Int.toNat, h1, h2, by simpa using h3, h4, h5, ?_, fun x hx => ?_⟩
  · have he : (zs.map Int.toNat).map uv = zs.map (Value.int .u64) := by
      rw [List.map_map]
      refine List.map_congr_left fun z hz' => ?_
      have := hz z hz'
      show uv z.toNat = _
      unfold uv
      congr 1
      omega
    rw [he]
    exact h6
  · obtain ⟨z, hz', rfl⟩ := List.mem_map.1 hx
    have := hz z hz'
    omega
/-- A slice of bytes that came in. -/
theorem open_bytes {t e : TypeId} {W : World} {v : Value} {d : DataW H} {ps : List MemPlace} {base : Nat} (ht : P.underlying t = some (.slice e)) (he : P.underlying e = some (.int .u8)) (hc : P.cellsOf e = 1)
    (hval : Value.okWide P W .any base t v) (hd : DataW.Trod enc P W 0 (fun _ => true) true t v d ps) (hlt : ∀ x ∈ ps, x.block < W.heap.size) :
    ∃ (A : Option Addr) (n c : Nat) (l : List UInt8), v = .slice A n c ∧ (A = none → n = 0) ∧ l.length = n ∧ n ≤ c ∧ c ≤ maxLen ∧ Lies W A (l.map bv) := by
  obtain ⟨A, n, c, zs, h1, h2, h3, h4, h5, h6, h7⟩ := open_lies ht he hc hval hd hlt
  refine ⟨A, n, c, zs.map fun z => UInt8.ofNat z.toNat, h1, h2, by simpa using h3, h4, h5, ?_⟩
  have he : (zs.map fun z => UInt8.ofNat z.toNat).map bv = zs.map (Value.int .u8) := by
    rw [List.map_map]
    refine List.map_congr_left fun z hz => ?_
    have := h7 z hz
    simp [Lit.wf, IntKind.min, IntKind.max, IntKind.signed, IntKind.bits] at this
    show bv (UInt8.ofNat z.toNat) = _
    unfold bv
    congr 1
    simp
    omega
  rw [he]
  exact h6
end

end Go.Proofs.Ytocodcceimeiiaa
