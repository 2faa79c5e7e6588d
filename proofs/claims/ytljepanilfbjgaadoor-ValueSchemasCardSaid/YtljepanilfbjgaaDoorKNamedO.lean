
/- The program's contract of layer 12: named. -/

import Derived.Test.YtljepanilfbjgaaDoorKNameO

namespace Go.Proofs.YtljepanilfbjgaaDoor

open Go.RowKit

/-- Whether one of the columns has that name. -/
def knamed (l : List CC) (s : ByteArray) : Bool := l.any fun x => x.s.toList == s.toList
def NamedRel (l : List CC) (s : ByteArray) (w : World) (i : Value) (wr : World) : Prop := ∃ j : Nat, j ≤ l.length ∧ i = .int .i64 (j : Int) ∧ knamed (l.take j) s = false ∧ Below w.heap.size w wr
theorem knamed_at {l : List CC} {s : ByteArray} {j : Nat} (hj : j < l.length) : knamed (l.take (j + 1)) s = (knamed (l.take j) s || (l[j].s.toList == s.toList)) := by
  unfold knamed
  rw [List.take_succ_eq_append_getElem hj, List.any_append]
  simp
theorem knamed_more {l : List CC} {s : ByteArray} {j : Nat} (h : knamed (l.take j) s = true) : knamed l s = true := by
  unfold knamed at *
  rw [List.any_eq_true] at *
  obtain ⟨x, hx, h⟩ := h
  exact ⟨x, List.mem_of_mem_take hx, h⟩
set_option maxHeartbeats 2000000 in
set_option maxRecDepth 100000 in
theorem knamed_any (l : List CC) (v : Value) (s : ByteArray) (w : World) (h1 : IsR ccells l v w) (hb : l.length ≤ 1000000) : Calls Tryd.prog 19 #[v, .string s] w fun e w' => e = .returned (.bool (knamed l s)) ∧ Below w.heap.size w w' := by
  obtain ⟨A, n, c, rfl⟩ := h1.shape
  have HN := Lib.hid h1.parts.1
  have H1 := Lib.hid h1
  have hn6 : n ≤ 1000000 := by have := HN.out; omega
  clear h1 hb
  go_enter Tryd.func19, Tryd.ntmps19
  go_wp2
  go_loopw [9] (NamedRel l s w) (fun i _ => n - (intOf i).toNat)
  case atStart => exact ⟨0, Nat.zero_le _, rfl, rfl, Below.refl _ _⟩
  case round =>
    obtain ⟨j, hj, rfl, hno, hbw⟩ := hrel
    have hjn : j ≤ n := by have := HN.out; omega
    have HB := Lib.hid hbw
    by_cases hlt : j < n
    · have hjl : j < l.length := by have := HN.out; omega
      have hlti : (j : Int) < (n : Int) := by omega
      obtain ⟨ad, rfl, had, hcell⟩ := (H1.out.below hbw).at (m := 2) (fun _ => rfl) (by omega) hjl
      have k0 : wr.cell? (ad.add (j * 2)) = some (.string l[j].s) := hcell 0 (by omega)
      have k1 : wr.cell? ⟨(ad.add (j * 2)).block, (ad.add (j * 2)).off + 1, none⟩ = some (.int .i64 l[j].kind) := by have h := hcell 1 (by omega); rw [← add_add] at h; exact h
      have HNX := Lib.hid (knamed_at (s := s) hjl)
      rw [hno, Bool.false_or] at HNX
      have HMO := Lib.hid (@knamed_more l s (j + 1))
      have hzz := HB.out.size
      clear hcell had hbw hno
      generalize l[j].s = y at *
      generalize l[j].kind = kd at *
      have hc : Row (wr.alloc (.cells #[.string y, .int .i64 kd] 36)) wr.heap.size 36 [.string y, .int .i64 kd] := heap_alloc_new wr _
      have c0 := hc.cell 0
      have c1 := hc.cell 1
      have HBA := Lib.hid (HB.out.alloc hzz (.cells #[.string y, .int .i64 kd] 36))
      clear hc hzz
      cases e : (y.toList == s.toList)
      · rw [e] at HNX
        go_wp2
        go_roundw
        case rel => exact ⟨j + 1, hjl, by go_num, HNX.out, HBA.out⟩
        case measure => simp [intOf]; omega
      · rw [e] at HNX
        go_wp2
        go_ret
        exact ⟨by rw [HMO.out HNX.out]; rfl, HBA.out⟩
    · obtain rfl : j = n := by omega
      have hlti : ¬ (j : Int) < (j : Int) := by omega
      have hk : knamed l s = false := by rw [← hno, List.take_of_length_le (by have := HN.out; omega)]
      have HK := Lib.hid hk
      clear hk hno hbw
      go_wp2
      go_ret
      exact ⟨by rw [HK.out]; rfl, HB.out⟩
end Go.Proofs.YtljepanilfbjgaaDoor
