
/- Contracts of layer 12's reference: Number and May. -/

import Derived.Test.YtljepanilfbjgaaDoorKRef

import Derived.Test.YtljepanilfbjgaaDoorUtf

namespace Go.Proofs.YtljepanilfbjgaaDoor

open Go.RowKit

def knumber (k : Int) : Bool := decide (1 ≤ k) && decide (k ≤ 5)
def kmay (k : Int) (v : CV) : Bool :=
  if (decide (k < 1) || decide (7 < k)) = true then false
  else if v.null = true then (v.n == 0) && (v.s.toList == [])
  else if decide (k ≤ 5) = true then (v.s.toList == []) && (((k != 1) || (v.n == 0)) || (v.n == 1))
  else ((v.n == 0) && decide ((v.s.size : Int) ≤ 300)) && ((k == 7) || Lib.validD v.s.data.toList)
/-- The same, of its tests. -/
def kmayB (c1 c2 b n0 s0 c5 k1 n1 len k7 v : Bool) : Bool :=
  bif c1 || c2 then false else bif b then n0 && s0 else bif c5 then s0 && ((k1 || n0) || n1) else (n0 && len) && (k7 || v)
theorem kmay_of (k : Int) (b : Bool) (n : Int) (s : ByteArray) : kmay k ⟨b, n, s⟩ = kmayB (decide (k < 1)) (decide (7 < k)) b (n == 0) (s.toList == []) (decide (k ≤ 5)) (k != 1) (n == 1) (decide ((s.size : Int) ≤ 300)) (k == 7) (Lib.validD s.data.toList) := by
  unfold kmay kmayB
  simp only [cond_eq_ite]
theorem rnumber12_any (k : Int) (w : World) : Calls Tryd.prog 7 #[.int .i64 k] w fun e w' => e = .returned (.bool (knumber k)) ∧ w = w' := by
  have HK : Hid (knumber k = (decide (1 ≤ k) && decide (k ≤ 5))) := Lib.hid rfl
  cases c1 : decide (1 ≤ k)
  · rw [c1] at HK
    go_enter Tryd.func7, Tryd.ntmps7
    go_wp2
    go_ret
    exact ⟨by rw [HK.out]; rfl, rfl⟩
  · cases c2 : decide (k ≤ 5)
    all_goals
      rw [c1, c2] at HK
      go_enter Tryd.func7, Tryd.ntmps7
      go_wp2
      go_ret
      exact ⟨by rw [HK.out]; rfl, rfl⟩
set_option maxHeartbeats 2000000 in
set_option maxRecDepth 100000 in
theorem rmay12_any (k : Int) (v : CV) (w : World) (hU : Tryd.U8 w) (hs : v.s.size ≤ maxLen) :
    Calls Tryd.prog 9 #[.int .i64 k, cv v] w fun e w' => e = .returned (.bool (kmay k v)) ∧ Below w.heap.size w w' := by
  obtain ⟨b, n, s⟩ := v
  dsimp only at hs
  have hsi : s.size ≤ 9223372036854775807 := by unfold maxLen at hs; omega
  have HVS := Lib.hid (fun W (h : Tryd.U8 W) => Tryd.validString s W hsi h)
  have hA : Row (w.alloc (.cells #[.bool b, .int .i64 n, .string s] 23)) w.heap.size 23 [.bool b, .int .i64 n, .string s] := heap_alloc_new w _
  have hb : Below w.heap.size w (w.alloc (.cells #[.bool b, .int .i64 n, .string s] 23)) := (Below.refl _ _).alloc (Nat.le_refl _) _
  have HU := Lib.hid (show Tryd.U8 _ from Utf8Tabs_below hU hb)
  have HBE := Lib.hid hb
  have a0 := hA.cell 0
  have a1 := hA.cell 1
  have a2 := hA.cell 2
  have HK0 := kmay_of k b n s
  clear hA hb hs hsi hU
  unfold cv
  cases c1 : decide (k < 1)
  · cases c2 : decide (7 < k)
    · cases b
      · cases c5 : decide (k ≤ 5)
        · cases n0 : (n == 0)
          · rw [c1, c2, c5, n0] at HK0
            have HK := Lib.hid HK0
            clear HK0
            go_enter Tryd.func9, Tryd.ntmps9
            go_wp2
            go_ret
            exact ⟨by rw [HK.out]; rfl, HBE.out⟩
          · cases len : decide ((s.size : Int) ≤ 300)
            · rw [c1, c2, c5, n0, len] at HK0
              have HK := Lib.hid HK0
              clear HK0
              go_enter Tryd.func9, Tryd.ntmps9
              go_wp2
              go_ret
              exact ⟨by rw [HK.out]; rfl, HBE.out⟩
            · cases k7 : (k == 7)
              · rw [c1, c2, c5, n0, len, k7] at HK0
                have HK := Lib.hid HK0
                clear HK0
                go_enter Tryd.func9, Tryd.ntmps9
                go_wp2_with (go_at_call 17; refine (HVS.out _ HU.out).mono ?_)
                rintro e w2 ⟨rfl, hb2⟩
                have HB2 := Lib.hid (below_then HBE.out hb2)
                clear hb2
                go_wp2
                go_ret
                exact ⟨by rw [HK.out]; rfl, HB2.out⟩
              · rw [c1, c2, c5, n0, len, k7] at HK0
                have HK := Lib.hid HK0
                clear HK0
                go_enter Tryd.func9, Tryd.ntmps9
                go_wp2
                go_ret
                exact ⟨by rw [HK.out]; rfl, HBE.out⟩
        · cases s0 : (s.toList == [])
          · rw [c1, c2, c5, s0] at HK0
            have HK := Lib.hid HK0
            clear HK0
            go_enter Tryd.func9, Tryd.ntmps9
            go_wp2
            go_ret
            exact ⟨by rw [HK.out]; rfl, HBE.out⟩
          · cases k1 : (k != 1)
            · cases n0 : (n == 0)
              · cases n1 : (n == 1)
                · rw [c1, c2, c5, s0, k1, n0, n1] at HK0
                  have HK := Lib.hid HK0
                  clear HK0
                  go_enter Tryd.func9, Tryd.ntmps9
                  go_wp2
                  go_ret
                  exact ⟨by rw [HK.out]; rfl, HBE.out⟩
                · rw [c1, c2, c5, s0, k1, n0, n1] at HK0
                  have HK := Lib.hid HK0
                  clear HK0
                  go_enter Tryd.func9, Tryd.ntmps9
                  go_wp2
                  go_ret
                  exact ⟨by rw [HK.out]; rfl, HBE.out⟩
              · rw [c1, c2, c5, s0, k1, n0] at HK0
                have HK := Lib.hid HK0
                clear HK0
                go_enter Tryd.func9, Tryd.ntmps9
                go_wp2
                go_ret
                exact ⟨by rw [HK.out]; rfl, HBE.out⟩
            · rw [c1, c2, c5, s0, k1] at HK0
              have HK := Lib.hid HK0
              clear HK0
              go_enter Tryd.func9, Tryd.ntmps9
              go_wp2
              go_ret
              exact ⟨by rw [HK.out]; rfl, HBE.out⟩
      · cases n0 : (n == 0)
        · rw [c1, c2, n0] at HK0
          have HK := Lib.hid HK0
          clear HK0
          go_enter Tryd.func9, Tryd.ntmps9
          go_wp2
          go_ret
          exact ⟨by rw [HK.out]; rfl, HBE.out⟩
        · cases s0 : (s.toList == [])
          · rw [c1, c2, n0, s0] at HK0
            have HK := Lib.hid HK0
            clear HK0
            go_enter Tryd.func9, Tryd.ntmps9
            go_wp2
            go_ret
            exact ⟨by rw [HK.out]; rfl, HBE.out⟩
          · rw [c1, c2, n0, s0] at HK0
            have HK := Lib.hid HK0
            clear HK0
            go_enter Tryd.func9, Tryd.ntmps9
            go_wp2
            go_ret
            exact ⟨by rw [HK.out]; rfl, HBE.out⟩
    · rw [c1, c2] at HK0
      have HK := Lib.hid HK0
      clear HK0
      go_enter Tryd.func9, Tryd.ntmps9
      go_wp2
      go_ret
      exact ⟨by rw [HK.out]; rfl, HBE.out⟩
  · rw [c1] at HK0
    have HK := Lib.hid HK0
    clear HK0
    go_enter Tryd.func9, Tryd.ntmps9
    go_wp2
    go_ret
    exact ⟨by rw [HK.out]; rfl, HBE.out⟩
end Go.Proofs.YtljepanilfbjgaaDoor
