/- Contracts of layer 4: New, lowestFirst. -/
import Derived.Test.YtmmebnfahcpggaaCLeaf
namespace Go.Proofs.Ytmmebnfahcpggaa
open Go.RowKit

/-- The table's cells. -/
def ctab : List Value := (List.range 256).map fun i => .int .u32 (centry i : Int)
theorem ctab_len : ctab.length = 256 := by unfold ctab; rw [List.length_map, List.length_range]
theorem ctab_at {i : Nat} (h : i < 256) : ctab[i]'(by rw [ctab_len]; exact h) = .int .u32 (centry i : Int) := by simp [ctab]
theorem ctab_at? {i : Nat} (h : i < 256) : ctab[i]? = some (.int .u32 (centry i : Int)) := by rw [List.getElem?_eq_getElem (by rw [ctab_len]; exact h), ctab_at h]
theorem ctab_one : ∀ u ∈ ctab, u.oneCell' = true := by
  intro u hu
  obtain ⟨i, _, rfl⟩ := List.mem_map.1 hu
  rfl
/-- The table lies in block g. -/
def Tabl (g : Nat) (w : World) : Prop := ∃ t, Row w g t ctab
theorem Tabl.below {g : Nat} {w w' : World} (h : Tabl g w) (hb : Below w.heap.size w w') : Tabl g w' := h.elim fun t h => ⟨t, h.below hb h.lt⟩
theorem Tabl.lt {g : Nat} {w : World} (h : Tabl g w) : g < w.heap.size := h.elim fun _ h => h.lt
def NewRel (g : Nat) (w : World) (i : Value) (wr : World) : Prop :=
  ∃ k : Nat, k ≤ 256 ∧ i = .int .i64 (k : Int) ∧ Row wr w.heap.size 27 (zeroRow 256 (.int .u32 0)) ∧ Row wr g 27 (fillTo ctab (.int .u32 0) k) ∧ Below w.heap.size w wr
set_option maxRecDepth 100000 in
theorem new_any (w : World) : Calls Try.prog 9 #[] w fun e w' => e = .returned (.agg ctab.toArray) ∧ Below w.heap.size w w' := by
  go_enter Try.func9, Try.ntmps9
  go_wp2_with (refine wpList_allocArr tabT rfl rfl ?_)
  intro w1 hr1 hb1
  have hz1 := hr1.lt
  go_wp2_with (refine wpList_allocArr tabT rfl rfl ?_)
  intro w2 hr2 hb2
  obtain ⟨g, hg⟩ : ∃ g, g = w1.heap.size := ⟨_, rfl⟩
  rw [← hg] at hr2 ⊢
  have hr1' := hr1.below hb2 hr1.lt
  have hbb := below_then hb1 hb2
  have hgw : w.heap.size < g := by omega
  clear hr1 hb1 hb2 hz1 hg
  have hst : NewRel g w (.int .i64 0) w2 := ⟨0, by omega, rfl, hr1', by rw [fillTo_zero, ctab_len]; exact hr2, hbb⟩
  clear hr1' hbb hr2
  go_wp2
  go_loopw [3] (NewRel g w) (fun i _ => 256 - (intOf i).toNat)
  case atStart => exact hst
  case round =>
    obtain ⟨k, hk, rfl, h1, h2, hb⟩ := hrel
    clear hst
    by_cases hlt : k < 256
    · have hE := fun w => entry_any k w (by omega)
      have HE := Lib.hid hE
      have hf := h2.free k
      have hc := h2.cell k
      rw [List.getElem?_eq_getElem (by rw [fillTo_len _ _ (by rw [ctab_len]; omega), ctab_len]; omega)] at hc
      generalize (fillTo ctab (Value.int IntKind.u32 0) k)[k]'(by rw [fillTo_len _ _ (by rw [ctab_len]; omega), ctab_len]; omega) = u0 at hc
      clear hE
      go_wp2_with (go_at_call 17; refine (HE.out _).mono ?_; rintro e w' ⟨rfl, rfl⟩)
      go_roundw
      case rel =>
        refine ⟨k + 1, by omega, by go_num, Row.far h1 (by show w.heap.size ≠ g; omega) _, ?_, hb.setCell (by show w.heap.size ≤ g; omega) _⟩
        have h3 := h2.set_ k (.int .u32 (centry k : Int))
        rw [← ctab_at hlt, fillTo_set _ _ (by rw [ctab_len]; exact hlt), ctab_at hlt] at h3
        exact h3
      case measure => simp [intOf]; omega
    · obtain rfl : k = 256 := by omega
      have h3 : Row wr g 27 ctab := by
        have := fillTo_all ctab (.int .u32 0)
        rw [ctab_len] at this
        rwa [this] at h2
      clear h2
      go_wp2_with (refine wpList_loadArr tabT rfl _ rfl g _ _ rfl h3 ctab_len ?_; refine wpList_storeArr tabT rfl _ _ rfl w.heap.size _ _ ctab rfl rfl h1 ctab_len (zeroRow_len _ _) ctab_one w w.heap.size hb (Nat.le_refl _) ?_)
      intro w3 hr3 hb3 _
      go_wp2
      exact ret_arr tabT rfl rfl hr3 ctab_len rfl ⟨rfl, hb3⟩

theorem cle_at (s : Nat) {k : Nat} (h : k < 4) : Value.int .u8 ((s : Int) / 2 ^ (8 * k) % 256) = ((cle s).map bv)[k]'(by simp [cle_len, h]) := by
  have e : ∀ m : Nat, Value.int .u8 ((m % 256 : Nat) : Int) = bv (UInt8.ofNat (m % 256)) := fun m => by simp [bv]
  have h1 : Value.int .u8 ((s : Int) / 2 ^ (8 * k) % 256) = Value.int .u8 ((s / 2 ^ (8 * k) % 256 : Nat) : Int) := by simp
  rw [h1, e]
  match k, h with
  | 0, _ => simp [cle]
  | 1, _ => simp [cle]
  | 2, _ => simp [cle]
  | 3, _ => simp [cle]
def LowRel (s g : Nat) (w : World) (i : Value) (wr : World) : Prop :=
  ∃ k : Nat, k ≤ 4 ∧ i = .int .i64 (k : Int) ∧ Row wr w.heap.size 42 (zeroRow 4 (bv 0)) ∧ Row wr g 42 (fillTo ((cle s).map bv) (bv 0) k) ∧ Below w.heap.size w wr
set_option maxRecDepth 100000 in
theorem low_any (s : Nat) (w : World) : Calls Try.prog 18 #[.int .u32 (s : Int)] w fun e w' => e = .returned (.agg ((cle s).map bv).toArray) ∧ Below w.heap.size w w' := by
  have hlen : ((cle s).map bv).length = 4 := by simp [cle_len]
  have HL := Lib.hid hlen
  clear hlen
  go_enter Try.func18, Try.ntmps18
  go_wp2_with (refine wpList_allocArr fourT rfl rfl ?_)
  intro w1 hr1 hb1
  have hz1 := hr1.lt
  go_wp2_with (refine wpList_allocArr fourT rfl rfl ?_)
  intro w2 hr2 hb2
  obtain ⟨g, hg⟩ : ∃ g, g = w1.heap.size := ⟨_, rfl⟩
  rw [← hg] at hr2 ⊢
  have hr1' := hr1.below hb2 hr1.lt
  have hbb := below_then hb1 hb2
  have hgw : w.heap.size < g := by omega
  clear hr1 hb1 hb2 hz1 hg
  have hst : LowRel s g w (.int .i64 0) w2 := ⟨0, by omega, rfl, hr1', by rw [fillTo_zero, HL.out]; exact hr2, hbb⟩
  clear hr1' hbb hr2
  go_wp2
  go_loopw [5] (LowRel s g w) (fun i _ => 4 - (intOf i).toNat)
  case atStart => exact hst
  case round =>
    obtain ⟨k, hk, rfl, h1, h2, hb⟩ := hrel
    clear hst
    by_cases hlt : k < 4
    · have hf := h2.free k
      have hc := h2.cell k
      rw [List.getElem?_eq_getElem (by rw [fillTo_len _ _ (by rw [HL.out]; omega), HL.out]; omega)] at hc
      generalize (fillTo ((cle s).map bv) (bv 0) k)[k]'(by rw [fillTo_len _ _ (by rw [HL.out]; omega), HL.out]; omega) = u0 at hc
      go_wp2
      go_roundw
      case rel =>
        refine ⟨k + 1, by omega, by go_num, Row.far h1 (by show w.heap.size ≠ g; omega) _, ?_, hb.setCell (by show w.heap.size ≤ g; omega) _⟩
        have hkl : k < ((cle s).map bv).length := by rw [HL.out]; exact hlt
        have h3 := h2.set_ k (Value.int .u8 ((s : Int) / 2 ^ (8 * k) % 256))
        rw [cle_at s hlt, fillTo_set _ _ hkl, ← cle_at s hlt] at h3
        exact h3
      case measure => simp [intOf]; omega
    · obtain rfl : k = 4 := by omega
      have h3 : Row wr g 42 ((cle s).map bv) := by
        have := fillTo_all ((cle s).map bv) (bv 0)
        rw [HL.out] at this
        rwa [this] at h2
      clear h2
      go_wp2_with (refine wpList_loadArr fourT rfl _ rfl g _ _ rfl h3 HL.out ?_; refine wpList_storeArr fourT rfl _ _ rfl w.heap.size _ _ ((cle s).map bv) rfl rfl h1 HL.out (zeroRow_len _ _) (bv_one _) w w.heap.size hb (Nat.le_refl _) ?_)
      intro w3 hr3 hb3 _
      go_wp2
      exact ret_arr fourT rfl rfl hr3 HL.out rfl ⟨rfl, hb3⟩
end Go.Proofs.Ytmmebnfahcpggaa
