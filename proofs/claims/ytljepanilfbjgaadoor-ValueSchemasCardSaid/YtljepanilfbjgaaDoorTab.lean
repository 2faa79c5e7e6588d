
/- Package-level tables: from what a row lists of a variable to the block in which it lies. Over any program. -/

import Derived.Test.YtljepanilfbjgaaDoorMem

import Derived.ProofKit

import Derived.LaidMore

import Derived.OpenShut

import Derived.Laws.Rows

import Derived.MakeChecks

import Derived.LaidSub

namespace Go.Proofs.YtljepanilfbjgaaDoor

open Go.RowKit Go.ChangeShapes Go.WideShapes Go.ChangeAt

/-- A table of whole numbers that a row lists lies as it is listed. -/
theorem row_of_laid {P : Program} {W : World} {n : String} {g m : Nat} {t e : TypeId} {k : IntKind} {zs : List Int} (hg : P.globalNamed n = some g) (ht : (P.globals[g]?).map (·.type) = some t)
    (hu : P.underlying t = some (.array m e)) (he : P.underlying e = some (.int k)) (hc : P.cellsOf e = 1) (hct : P.cellsOf t = m) (hm : 0 < m)
    (h : laidMet P [(n, .agg (zs.map fun z => .lit (.int k z)))] W) : ∃ t', Row W g t' (zs.map (Value.int k)) := by
  obtain ⟨ps, ⟨g0, t0, cs, fuel, p, q, hg0, ht0, hv, hd, hq, hps⟩, _, hrow⟩ := h
  obtain rfl := Option.some.inj (hg.symm.trans hg0)
  obtain rfl := Option.some.inj (ht.symm.trans ht0)
  obtain ⟨xs, f, rfl, hx, hlen, hn, hel⟩ := DataW.trod_array hu hd
  simp only [Prod.mk.injEq, DataW.agg.injEq] at hx
  have hlz : zs.length = m := by have := congrArg List.length hx.1; simp at this; omega
  have hcs : cs.toList = zs.map (Value.int k) := by
    refine List.ext_getElem? fun i => ?_
    by_cases hi : i < m
    · have h1 := hel i hi
      have hxi : i < xs.length := by omega
      have hzi : i < zs.length := by omega
      have hci : i < cs.toList.length := by omega
      rw [List.getElem?_eq_getElem hxi, hc, Nat.mul_one, List.drop_eq_getElem_cons hci, List.take_succ_cons, List.take_zero] at h1
      obtain ⟨z, e1, e2, _⟩ := DataW.trod_int he h1
      have h2 : (zs.map fun z => (DataW.lit (.int k z) : DataW Unit))[i]? = (xs.map (·.1))[i]? := by rw [hx.1]
      rw [List.getElem?_map, List.getElem?_map, List.getElem?_eq_getElem hxi, List.getElem?_eq_getElem hzi] at h2
      simp only [Option.map_some, Option.some.injEq, e2, DataW.lit.injEq, Lit.int.injEq, true_and] at h2
      simp only [List.cons.injEq, and_true] at e1
      rw [List.getElem?_eq_getElem hci, e1, List.getElem?_map, List.getElem?_eq_getElem hzi, ← h2]
      rfl
    · rw [List.getElem?_eq_none (by omega), List.getElem?_eq_none (by simp; omega)]
  have hin : MemPlace.cell g 0 ∈ ps := by
    rw [hps]
    refine List.mem_append_left _ (List.mem_append_left _ ?_)
    have hs : 0 < cs.size := by have : cs.toList.length = cs.size := rfl; omega
    exact MemPlace.mem_row.2 ⟨0, hs, by simp⟩
  obtain ⟨⟨c, t', hb⟩, _⟩ := hrow g 0 hin
  refine ⟨t', ?_⟩
  unfold Row
  rw [hb]
  simp only [World.var?, hg, Option.bind_some, hb, Option.some.injEq] at hv
  subst hv
  obtain ⟨l⟩ := c
  simp only at hcs
  rw [hcs]
theorem run_index_array {P : Program} (w : World) (t e : TypeId) (n : Nat) (cs : List Value) (k : IntKind) (i : Nat) (h : P.underlying t = some (.array n e)) (hn : i < n) (hs : ∀ w, (sizeOf e).run P w = .ok 1 w) (ha : ∀ w, (isAgg e).run P w = .ok false w) (v : Value) (hv : cs[i]? = some v) :
    (Instr.index t (.agg cs.toArray) (.int k (i : Int))).run P w = .ok v w := by
  simp [Instr.index, run_underlying h, asIntOf, hn, go_sem, hs, ha, hv]
end Go.Proofs.YtljepanilfbjgaaDoor
