
/- The contract of what stands at the head of the statements of layer 7. -/

import Derived.Test.YthbmgedfhpdmpaaEIs

namespace Go.Proofs.Ythbmgedfhpdmpaa

open Go.RowKit

theorem es1 : eput 10000 5 false = ([10, 39, 16], 0) := by decide +kernel
theorem es2 : eput (-1) 3 true = ([0, 1], 0) := by decide +kernel
theorem es3 : eput (-1) 3 false = ([], 1) := by decide +kernel
theorem es4 : eput 1 2 true = ([], 1) := by decide +kernel
set_option maxHeartbeats 1000000 in
set_option maxRecDepth 100000 in
theorem shown_any (w : World) : Calls Try.prog 6 #[] w fun e w' => e = .returned (.bool true) ∧ Below w.heap.size w w' := by
  have H1 := Lib.hid fun W => eput_any 10000 5 false W (by omega) (by omega)
  have H2 := Lib.hid fun W => eput_any (-1) 3 true W (by omega) (by omega)
  have H3 := Lib.hid fun W => eput_any (-1) 3 false W (by omega) (by omega)
  have H4 := Lib.hid fun W => eput_any 1 2 true W (by omega) (by omega)
  rw [es1] at H1
  rw [es2] at H2
  rw [es3] at H3
  rw [es4] at H4
  go_enter Try.func6, Try.ntmps6
  go_wp2_with fail
  refine (H1.out _).mono ?_
  rintro e w1 ⟨v1, rfl, hv1, hb1⟩
  have HV1 := Lib.hid hv1
  have HB1 := Lib.hid hb1
  clear hv1 hb1
  go_wp2_with fail
  refine (H2.out _).mono ?_
  rintro e w2 ⟨v2, rfl, hv2, hb2⟩
  have HV1 := Lib.hid (HV1.out.below hb2)
  have HV2 := Lib.hid hv2
  have HB2 := Lib.hid (below_then HB1.out hb2)
  clear hv2 hb2
  go_wp2_with fail
  refine (H3.out _).mono ?_
  rintro e w3 ⟨v3, rfl, hv3, hb3⟩
  have HV1 := Lib.hid (HV1.out.below hb3)
  have HV2 := Lib.hid (HV2.out.below hb3)
  have HB3 := Lib.hid (below_then HB2.out hb3)
  clear hv3 hb3
  go_wp2_with fail
  refine (H4.out _).mono ?_
  rintro e w4 ⟨v4, rfl, hv4, hb4⟩
  have hc1 := textB (HV1.out.below hb4)
  have hc2 := textB (HV2.out.below hb4)
  have HB4 := Lib.hid (below_then HB3.out hb4)
  clear hv4 hb4
  go_wp2
  go_ret
  exact ⟨rfl, HB4.out⟩
end Go.Proofs.Ythbmgedfhpdmpaa
