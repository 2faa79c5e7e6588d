/- Texts that the claims of this seat share, part 3: DRef DRPut Door Mask Num DOwn DIs Wide WRow Arr RegR WMake TPlain TRef. -/
import Derived.Test.YtblpkmmhmdpkjaaGreatDoorTie
import Derived.Test.YtblpkmmhmdpkjaaGreatDoorCards
import Derived.SevenTiedAt
import Derived.Stop.Joined
import Derived.Deep.WholeRow
import Derived.Deep.RegionLaw
import Derived.Test.YtblpkmmhmdpkjaaGreatDoorAG2
/- Contracts of layer 8's reference: Head, Look, Plain, Made, Same. -/









namespace Go.Proofs.YtblpkmmhmdpkjaaGreatDoor

open Go.RowKit

theorem isU_iff {l : List Nat} {v : Value} {w : World} : IsU l v w ↔ IsV uv l v w := Iff.rfl
theorem own_made (w : World) (e : TypeId) : (w.alloc (.cells #[] e)).ownsRow w.heap.size e 1 (.slice (some ⟨w.heap.size, 0, none⟩) 0 0) 0 [] := World.ownsRow_made w #[] 0 (Nat.le_refl _) (by unfold maxLen; omega) (by simp)
/-- A row of values and an error that a call answers. -/
def RetV {α : Type} (f : α → Value) (w : World) (p : List α × Int) (e : Ending) (w' : World) : Prop := ∃ u, e = .returned (.tuple #[u, .int .i64 p.2]) ∧ IsV f p.1 u w' ∧ Below w.heap.size w w'
theorem RetV.nil {α : Type} {f : α → Value} {w w' : World} (n : Int) (hb : Below w.heap.size w w') : RetV f w ([], n) (.returned (.tuple #[.slice none 0 0, .int .i64 n])) w' := ⟨_, rfl, isV_nil _ _, hb⟩
theorem omap_take {α β : Type} {f : α → Option β} {l : List α} {k : Nat} {acc : List β} {y : β} (hk : k < l.length) (h : omap f (l.take k) = some acc) (hy : f l[k] = some y) : omap f (l.take (k + 1)) = some (acc ++ [y]) := by
  rw [List.take_succ_eq_append_getElem hk, omap_snoc, h, hy]
def OmapRel {α β : Type} (f : α → Option β) (enc : β → Value) (t : TypeId) (l : List α) (w : World) (v i : Value) (wr : World) : Prop :=
  ∃ (k : Nat) (acc : List β), k ≤ l.length ∧ i = .int .i64 (k : Int) ∧ omap f (l.take k) = some acc ∧ wr.ownsRow w.heap.size t 1 v acc.length (acc.map enc) ∧ Below w.heap.size w wr
set_option maxHeartbeats 2000000 in
set_option maxRecDepth 100000 in
theorem rplain8_any (l : List Int) (v : Value) (s : Bool) (w : World) (hv : IsV iv l v w) (hl : ∀ x ∈ l, inInt x) (hb : l.length ≤ 1000000) :
    Calls Tryz.prog 50 #[v, .bool s] w (RetV uv w (dplainE l s)) := by
  obtain ⟨A, c, rfl, hA, hnc, hcm, hlw⟩ := hv
  obtain ⟨n, hn⟩ : ∃ n, n = l.length := ⟨_, rfl⟩
  rw [← hn] at hA hnc hb ⊢
  have hst : OmapRel (eplain · s) uv 101 l w (.slice (some ⟨w.heap.size, 0, none⟩) 0 0) (.int .i64 0) (w.alloc (.cells #[] 101)) := ⟨0, [], by omega, rfl, rfl, own_made w _, (Below.refl _ _).alloc (Nat.le_refl _) _⟩
  have HN := Lib.hid hn
  have HL := Lib.hid hlw
  have HI := Lib.hid hl
  clear hn hlw hl hcm hA
  go_enter Tryz.func50, Tryz.ntmps50
  go_wp2
  go_loopw [6, 7] (OmapRel (eplain · s) uv 101 l w) (fun _ i _ => n - (intOf i).toNat)
  case atStart => exact hst
  case round =>
    obtain ⟨k, acc, hk, rfl, hacc, hown, hbw⟩ := hrel
    have hz := hbw.size
    have hal : acc.length = k := by rw [omap_len hacc, List.length_take]; omega
    have HACC := Lib.hid hacc
    have HAL := Lib.hid hal
    have hk' : k ≤ n := by have := HN.out; omega
    clear hst hacc
    rw [hal] at hown
    clear hal
    by_cases hlt : k < n
    · have hkl : k < l.length := by have := HN.out; omega
      have hlti : (k : Int) < (n : Int) := by omega
      obtain ⟨ad, rfl, _, hcell⟩ := (HL.out.below hbw).cell (k := k) (by rw [List.length_map]; exact hkl)
      obtain ⟨x, hx⟩ : ∃ x, x = l[k] := ⟨_, rfl⟩
      have hcx : wr.cell? (ad.add k) = some (.int .i64 x) := by rw [hcell, List.getElem_map, hx]; rfl
      have hxb : inInt x := by rw [hx]; exact HI.out _ (List.getElem_mem hkl)
      have HP := Lib.hid (rplain7_any x s wr hxb.1 hxb.2)
      obtain ⟨u, hu⟩ : ∃ u, u = (eplain x s).getD 0 := ⟨_, rfl⟩
      obtain ⟨ok, hok⟩ : ∃ ok, ok = (eplain x s).isSome := ⟨_, rfl⟩
      rw [← hu, ← hok] at HP
      have HX := Lib.hid hx
      have HU := Lib.hid hu
      have HOK := Lib.hid hok
      clear hx hu hok hcell hxb
      cases ok with
      | false =>
        have hE : Hid (dplainE l s = ([], 1)) := Lib.hid (by
          have h0 : eplain x s = none := by simpa using HOK.out.symm
          have h1 : dplain l s = none := omap_none (x := x) (by rw [HX.out]; exact List.getElem_mem hkl) h0
          unfold dplainE; rw [h1])
        go_wp2_with (go_at_call 72; refine HP.out.mono ?_; rintro e w' ⟨rfl, rfl⟩)
        go_ret2
        rw [hE.out]
        exact RetV.nil _ hbw
      | true =>
        have hnext : Hid (omap (eplain · s) (l.take (k + 1)) = some (acc ++ [u])) := Lib.hid (omap_take hkl HACC.out (by
          rw [← HX.out]
          have h0 := HOK.out
          have h1 := HU.out
          cases he : eplain x s with
          | none => rw [he] at h0; simp at h0
          | some z => rw [he] at h1; simp at h1; rw [h1]))
        go_wp2_with (first | (go_at_call 72; refine HP.out.mono ?_; rintro e w' ⟨rfl, rfl⟩) | (at_builtin; refine wpList_push elemU rfl _ _ rfl w.heap.size _ _ _ (uv u) wr w rfl rfl rfl rfl hown hbw hz (by omega) (by omega) ?_))
        intro v5 w5 hown5 hb5 _ _
        have hown6 : w5.ownsRow w.heap.size 101 1 v5 (acc ++ [u]).length ((acc ++ [u]).map uv) := by
          rw [List.length_append, List.length_singleton, List.map_append, List.map_singleton, HAL.out]
          exact hown5
        clear hown5 hown
        go_wp2
        go_roundw
        case rel => exact ⟨k + 1, _, by have := HN.out; omega, by go_num, hnext.out, hown6, hb5⟩
        case measure => simp [intOf]; omega
    · obtain rfl : k = n := by omega
      have hlti : ¬ (k : Int) < (k : Int) := by omega
      have hE : Hid (dplainE l s = (acc, 0)) := Lib.hid (by
        have h1 := HACC.out
        rw [List.take_of_length_le (by have := HN.out; omega)] at h1
        unfold dplainE dplain; rw [h1])
      go_wp2
      go_ret2
      rw [hE.out]
      exact ⟨_, rfl, isV_own hown, hbw⟩
theorem dhead_no {k c m : Int} (h : ¬ (0 ≤ k ∧ k ≤ 3 ∧ 0 ≤ c ∧ c ≤ 31 ∧ 1 ≤ m ∧ m ≤ 512)) : dhead k c m = [] := by unfold dhead; rw [if_neg h]
theorem dheadN_two {k c m X h y : Nat} (hX : X = 16384 * k + 512 * c + (m - 1)) (hh : h = X / 256) (hy : y = X % 256) (hb : X < 65536) : (dheadN k c m).map bv = [.int .u8 (h : Int), .int .u8 (y : Int)] := by
  have e : dheadN k c m = [UInt8.ofNat h, UInt8.ofNat y] := by
    unfold dheadN
    rw [← hX]
    symm
    refine eq_be rfl ?_
    have h1 : (UInt8.ofNat h).toNat = h := by rw [UInt8.toNat_ofNat']; omega
    have h2 : (UInt8.ofNat y).toNat = y := by rw [UInt8.toNat_ofNat']; omega
    simp only [bval, List.length_cons, List.length_nil, h1, h2]
    omega
  rw [e]
  have h1 : (UInt8.ofNat h).toNat = h := by rw [UInt8.toNat_ofNat']; omega
  have h2 : (UInt8.ofNat y).toNat = y := by rw [UInt8.toNat_ofNat']; omega
  simp only [List.map_cons, List.map_nil, bv, h1, h2]
/-- Bytes in a row of the call's own. -/
def RetH (w : World) (l : List UInt8) (e : Ending) (w' : World) : Prop := ∃ v, e = .returned v ∧ w'.ownsRow w.heap.size 5 1 v l.length (l.map bv) ∧ Below w.heap.size w w'
theorem own_new (w : World) (e : TypeId) (xs : List Value) (n : Nat) (hn : xs.length = n) (hb : n ≤ 1000000) : (w.alloc (.cells xs.toArray e)).ownsRow w.heap.size e 1 (.slice (some ⟨w.heap.size, 0, none⟩) n n) n xs :=
  ⟨by simpa using hn, .inr ⟨w.heap.size, n, xs.toArray, rfl, Nat.le_refl _, heap_alloc_new w _, Nat.le_refl _, by unfold maxLen; omega, by simp [hn], by subst hn; simp⟩⟩
set_option maxHeartbeats 2000000 in
set_option maxRecDepth 100000 in
theorem rhead8_any (k c m : Int) (w : World) : Calls Tryz.prog 77 #[.int .i64 k, .int .i64 c, .int .i64 m] w (RetH w (dhead k c m)) := by
  by_cases h0 : k < 0
  · have d0 : decide (k < 0) = true := decide_eq_true h0
    have hE := Lib.hid (dhead_no (k := k) (c := c) (m := m) (by omega))
    go_enter Tryz.func77, Tryz.ntmps77
    go_wp2
    go_ret
    rw [hE.out]
    exact ⟨_, rfl, World.ownsRow_nil _ _ _ _, Below.refl _ _⟩
  · have d0 : decide (k < 0) = false := decide_eq_false h0
    by_cases h1 : 3 < k
    · have d1 : decide ((3 : Int) < k) = true := decide_eq_true h1
      have hE := Lib.hid (dhead_no (k := k) (c := c) (m := m) (by omega))
      go_enter Tryz.func77, Tryz.ntmps77
      go_wp2
      go_ret
      rw [hE.out]
      exact ⟨_, rfl, World.ownsRow_nil _ _ _ _, Below.refl _ _⟩
    · have d1 : decide ((3 : Int) < k) = false := decide_eq_false h1
      by_cases h2 : c < 0
      · have d2 : decide (c < 0) = true := decide_eq_true h2
        have hE := Lib.hid (dhead_no (k := k) (c := c) (m := m) (by omega))
        go_enter Tryz.func77, Tryz.ntmps77
        go_wp2
        go_ret
        rw [hE.out]
        exact ⟨_, rfl, World.ownsRow_nil _ _ _ _, Below.refl _ _⟩
      · have d2 : decide (c < 0) = false := decide_eq_false h2
        by_cases h3 : 31 < c
        · have d3 : decide ((31 : Int) < c) = true := decide_eq_true h3
          have hE := Lib.hid (dhead_no (k := k) (c := c) (m := m) (by omega))
          go_enter Tryz.func77, Tryz.ntmps77
          go_wp2
          go_ret
          rw [hE.out]
          exact ⟨_, rfl, World.ownsRow_nil _ _ _ _, Below.refl _ _⟩
        · have d3 : decide ((31 : Int) < c) = false := decide_eq_false h3
          by_cases h4 : m < 1
          · have d4 : decide (m < 1) = true := decide_eq_true h4
            have hE := Lib.hid (dhead_no (k := k) (c := c) (m := m) (by omega))
            go_enter Tryz.func77, Tryz.ntmps77
            go_wp2
            go_ret
            rw [hE.out]
            exact ⟨_, rfl, World.ownsRow_nil _ _ _ _, Below.refl _ _⟩
          · have d4 : decide (m < 1) = false := decide_eq_false h4
            by_cases h5 : 512 < m
            · have d5 : decide ((512 : Int) < m) = true := decide_eq_true h5
              have hE := Lib.hid (dhead_no (k := k) (c := c) (m := m) (by omega))
              go_enter Tryz.func77, Tryz.ntmps77
              go_wp2
              go_ret
              rw [hE.out]
              exact ⟨_, rfl, World.ownsRow_nil _ _ _ _, Below.refl _ _⟩
            · have d5 : decide ((512 : Int) < m) = false := decide_eq_false h5
              obtain ⟨K, rfl⟩ := Int.eq_ofNat_of_zero_le (show 0 ≤ k by omega)
              obtain ⟨C, rfl⟩ := Int.eq_ofNat_of_zero_le (show 0 ≤ c by omega)
              obtain ⟨M, rfl⟩ := Int.eq_ofNat_of_zero_le (show 0 ≤ m by omega)
              obtain ⟨X, hX⟩ : ∃ X, X = 16384 * K + 512 * C + (M - 1) := ⟨_, rfl⟩
              obtain ⟨h, hh⟩ : ∃ h, h = X / 256 := ⟨_, rfl⟩
              obtain ⟨y, hy⟩ : ∃ y, y = X % 256 := ⟨_, rfl⟩
              have hXb : X < 65536 := by omega
              have hXi : 16384 * (K : Int) + 512 * (C : Int) + (M : Int) - 1 = (X : Int) := by omega
              have hhi : (X : Int) / 256 = (h : Int) := by omega
              have hyi : (X : Int) % 256 = (y : Int) := by omega
              have hhw : IntKind.u8.wrap (h : Int) = (h : Int) := by rw [IntKind.wrap_u8]; omega
              have hyw : IntKind.u8.wrap (y : Int) = (y : Int) := by rw [IntKind.wrap_u8]; omega
              have hE := Lib.hid (dhead_in (k := K) (c := C) (m := M) (by omega) (by omega) (by omega) (by omega))
              have hT := Lib.hid (dheadN_two hX hh hy hXb)
              clear hX hh hy
              go_enter Tryz.func77, Tryz.ntmps77
              go_wp2
              go_ret
              rw [hE.out]
              refine ⟨_, rfl, ?_, (Below.refl _ _).alloc (Nat.le_refl _) _⟩
              have h9 := own_new w 5 ((dheadN K C M).map bv) 2 (by rw [List.length_map]; exact dheadN_len _ _ _) (by omega)
              rw [hT.out] at h9
              rw [hT.out, dheadN_len]
              exact h9
end Go.Proofs.YtblpkmmhmdpkjaaGreatDoor

/- Contracts of layer 8's reference: Put, Take. -/









namespace Go.Proofs.YtblpkmmhmdpkjaaGreatDoor

open Go.RowKit

theorem rmost_is {l : List Nat} {v : Value} {w : World} (h : IsV uv l v w) (hb : l.length ≤ 1000000) (h64 : ∀ x ∈ l, x < 2 ^ 64) : Calls Tryz.prog 75 #[v] w fun e w' => e = .returned (.int .i64 (wmost l : Int)) ∧ w = w' := by
  obtain ⟨A, c, rfl, h2, h3, h4, h5⟩ := h
  exact rmost_any A _ c l w h2 rfl h3 hb h5 h64
theorem dputE_no {l : List Int} {s : Bool} (h : dplain l s = none) : dputE l s = ([], 1) := by unfold dputE; rw [h]
theorem dputE_len {l : List Int} {s : Bool} (h : l.length < 1 ∨ 512 < l.length) : dputE l s = ([], 1) := by
  unfold dputE
  cases dplain l s with
  | none => rfl
  | some u => dsimp only; rw [if_pos h]
theorem dputE_ok {l : List Int} {s : Bool} {u : List Nat} (h : dplain l s = some u) (h1 : 1 ≤ l.length) (h2 : l.length ≤ 512) : dputE l s = (dlay u, 0) := by
  unfold dputE
  rw [h]
  dsimp only
  rw [if_neg (by omega)]
theorem dpacks {u : List Nat} (h : ∀ x ∈ u, x < 2 ^ 64) : packsAny u (dwide u : Int) = (bpack u (dwide u), 0) := by
  obtain ⟨_, h2, h3⟩ := dwide_room h
  rw [packsAny_in _ _ h2, packs_ok h3]
theorem bsize_small {n W : Nat} (hn : n ≤ 512) (hW : W ≤ 64) : bsize n W ≤ 4096 := by
  unfold bsize
  have : n * W ≤ 512 * 64 := Nat.mul_le_mul hn hW
  omega
set_option maxHeartbeats 2000000 in
set_option maxRecDepth 100000 in
theorem rput8_any (l : List Int) (v : Value) (s : Bool) (w : World) (hv : IsV iv l v w) (hl : ∀ x ∈ l, inInt x) (hb : l.length ≤ 1000000) :
    Calls Tryz.prog 53 #[v, .bool s] w (RetE w (dputE l s)) := by
  have HP := Lib.hid (rplain8_any l v s w hv hl hb)
  obtain ⟨A, c, rfl, hA, hnc, hcm, hlw⟩ := hv
  obtain ⟨n, hn⟩ : ∃ n, n = l.length := ⟨_, rfl⟩
  rw [← hn] at hA hnc hb HP ⊢
  cases hd : dplain l s with
  | none =>
    have hE := Lib.hid (dputE_no hd)
    have hpe : dplainE l s = ([], 1) := by unfold dplainE; rw [hd]
    rw [hpe] at HP
    clear hn hlw hcm hA hd hpe
    go_enter Tryz.func53, Tryz.ntmps53
    go_wp2_with fail
    refine HP.out.mono ?_
    rintro e w1 ⟨u, rfl, hu, hb1⟩
    obtain ⟨A1, c1, rfl, _⟩ := hu
    go_wp2
    go_ret2
    rw [hE.out]
    exact RetE.nil _ hb1
  | some us =>
    have hpe : dplainE l s = (us, 0) := by unfold dplainE; rw [hd]
    rw [hpe] at HP
    have H64 := Lib.hid (dplain_lt hl hd)
    have hul := dplain_len hd
    rw [← hn] at hul
    by_cases hlen : n < 1 ∨ 512 < n
    · have hE := Lib.hid (dputE_len (l := l) (s := s) (by omega))
      clear hn hlw hcm hA hd hpe hul
      go_enter Tryz.func53, Tryz.ntmps53
      go_wp2_with fail
      refine HP.out.mono ?_
      rintro e w1 ⟨u, rfl, hu, hb1⟩
      obtain ⟨A1, c1, rfl, _⟩ := hu
      rcases hlen with h1 | h2
      · have d1 : decide ((n : Int) < 1) = true := decide_eq_true (by omega)
        go_wp2
        go_ret2
        rw [hE.out]
        exact RetE.nil _ hb1
      · have d1 : decide ((n : Int) < 1) = false := decide_eq_false (by omega)
        have d2 : decide ((512 : Int) < (n : Int)) = true := decide_eq_true (by omega)
        go_wp2
        go_ret2
        rw [hE.out]
        exact RetE.nil _ hb1
    · have hE := Lib.hid (dputE_ok hd (by omega) (by omega))
      have d1 : decide ((n : Int) < 1) = false := decide_eq_false (by omega)
      have d2 : decide ((512 : Int) < (n : Int)) = false := decide_eq_false (by omega)
      have hus : us.length ≤ 512 := by omega
      have hus1 : 1 ≤ us.length := by omega
      have HUL := Lib.hid hul
      obtain ⟨W, hW⟩ : ∃ W, W = dwide us := ⟨_, rfl⟩
      obtain ⟨C, hC⟩ : ∃ C, C = dcode us := ⟨_, rfl⟩
      have HW := Lib.hid hW
      have HC := Lib.hid hC
      have HCL := Lib.hid (fun X => rclosest_any (wmost us : Int) X)
      rw [dwide_int, ← hW] at HCL
      have HPK := Lib.hid (fun (u : Value) (X : World) (h : IsV uv us u X) => rpack_is (W : Int) (isU_iff.2 h) (by omega) H64.out)
      rw [hW, dpacks H64.out, ← hW] at HPK
      obtain ⟨hci, hc31, _⟩ := dcode_int H64.out
      have HCD := Lib.hid (fun X => rcode_any (W : Int) X)
      rw [hW, hci, ← hC, ← hW] at HCD
      have HHD := Lib.hid (fun X => rhead8_any 1 (C : Int) (n : Int) X)
      rw [show (1 : Int) = ((1 : Nat) : Int) from rfl, dhead_in (by omega) (by rw [hC]; exact hc31) (by omega) (by omega), show ((1 : Nat) : Int) = (1 : Int) from rfl] at HHD
      have hsz : (bpack us W).length ≤ 4096 := by rw [bpack_len]; exact bsize_small hus (by rw [hW]; exact (dwide_room H64.out).2.1)
      clear hn hlw hcm hA hd hpe hul hW hC hci hc31 hlen
      go_enter Tryz.func53, Tryz.ntmps53
      go_wp2_with fail
      refine HP.out.mono ?_
      rintro e w1 ⟨u, rfl, hu, hb1⟩
      obtain ⟨A1, c1, rfl, hr⟩ := hu
      have hu : IsV uv us (.slice A1 us.length c1) w1 := ⟨A1, c1, rfl, hr⟩
      have HB1 := Lib.hid hb1
      have HM := Lib.hid (rmost_is hu (by omega) H64.out)
      have HPK1 := Lib.hid (HPK.out _ w1 hu)
      clear hb1 hr hu
      go_wp2_with fail
      refine HM.out.mono ?_
      rintro e w' ⟨rfl, rfl⟩
      go_wp2_with fail
      refine (HCL.out _).mono ?_
      rintro e w' ⟨rfl, rfl⟩
      go_wp2_with fail
      refine HPK1.out.mono ?_
      rintro e w2 ⟨pk, rfl, hpk, hb2⟩
      obtain ⟨A2, c2, rfl, hA2, hn2, hm2, hl2⟩ := hpk
      have HB2 := Lib.hid (below_then HB1.out hb2)
      clear hb2
      go_wp2_with fail
      refine (HCD.out _).mono ?_
      rintro e w' ⟨rfl, rfl⟩
      go_wp2_with fail
      refine (HHD.out _).mono ?_
      rintro e w3 ⟨hv3, rfl, hh, hb3⟩
      rw [dheadN_len] at hh
      have hz3 := hb3.size
      have hl3 := hl2.below hb3
      have HB3 := Lib.hid (below_then HB2.out hb3)
      obtain ⟨pl, hpl⟩ : ∃ pl, pl = (bpack us W).length := ⟨_, rfl⟩
      have hpm : ((bpack us W).map bv).length = pl := by rw [List.length_map, hpl]
      have HPM := Lib.hid hpm
      rw [← hpl] at hsz hA2 hn2 ⊢
      have HPL := Lib.hid hpl
      obtain ⟨xs, hxs⟩ : ∃ xs, xs = (dheadN 1 C n).map bv := ⟨_, rfl⟩
      rw [← hxs] at hh
      have HXS := Lib.hid hxs
      clear hpm hpl hxs
      go_wp2_with (at_builtin; refine wpList_join elemB rfl _ _ rfl w2.heap.size _ _ _ _ _ _ ((bpack us W).map bv) w2 rfl rfl hA2 HPM.out hl3 (bv_one _) hh hb3 hz3 (by omega) (by omega) ?_)
      intro v4 w4 hown4 hb4 _ _
      have HO := Lib.hid (show IsB (dlay us) v4 w4 by
        have e1 : dlay us = dheadN 1 C n ++ bpack us W := by unfold dlay; rw [HUL.out, ← HC.out, ← HW.out]
        rw [e1]
        refine isB_own (n := 2 + pl) (base := w2.heap.size) (e := 5) ?_
        rw [List.map_append, ← HXS.out]
        exact hown4)
      have HB4 := Lib.hid (below_then HB2.out hb4)
      clear hown4 hb4 hh hb3 hz3 hl3
      go_wp2
      go_ret2
      rw [hE.out]
      exact ⟨_, rfl, HO.out, HB4.out⟩
/-- Numbers, bytes and an error that a call answers. -/
def RetIB (w : World) (p : List Int × List UInt8 × Int) (e : Ending) (w' : World) : Prop := ∃ u v, e = .returned (.tuple #[u, v, .int .i64 p.2.2]) ∧ IsV iv p.1 u w' ∧ IsB p.2.1 v w' ∧ Below w.heap.size w w'
theorem RetIB.nil {w w' : World} (n : Int) (hb : Below w.heap.size w w') : RetIB w ([], [], n) (.returned (.tuple #[.slice none 0 0, .slice none 0 0, .int .i64 n])) w' := ⟨_, _, rfl, isV_nil _ _, isB_nil _, hb⟩
/-- The same, the bytes in a row of the call's own. -/
def RetIO (w : World) (p : List Int × List UInt8 × Int) (e : Ending) (w' : World) : Prop := ∃ u v, e = .returned (.tuple #[u, v, .int .i64 p.2.2]) ∧ IsV iv p.1 u w' ∧ OwnB w p.2.1 v w' ∧ Below w.heap.size w w'
theorem RetIO.nil {w w' : World} (n : Int) (hb : Below w.heap.size w w') : RetIO w ([], [], n) (.returned (.tuple #[.slice none 0 0, .slice none 0 0, .int .i64 n])) w' := ⟨_, _, rfl, isV_nil _ _, OwnB.nil _ _, hb⟩
end Go.Proofs.YtblpkmmhmdpkjaaGreatDoor

/- The table of widths out of what a seat's rows list. (For seats whose rows list widths.table alone.) -/













namespace Go.Proofs.YtblpkmmhmdpkjaaGreatDoor

open Go.RowKit Go.ChangeShapes Go.WideShapes Go.ChangeAt

theorem gTab : Tryz.prog.globalNamed "pilaster/widths.table" = some 1 := by kernel_rfl
theorem tTab : (Tryz.prog.globals[1]?).map (·.type) = some 195 := by kernel_rfl
theorem door_met (os : Os) (args : Array Value) : laidMetH Tryz.prog [("pilaster/widths.table", Rows.laid_pilaster_widths_table)] ((World.doorLaid Tryz.prog 400 os).forCall (fun _ _ => 0) ⟨#[], args, []⟩).memory :=
  laidMetH_of_parts3 (fuel := 8) (laidMet_of_run' 8 (by kernel_rfl) (by kernel_rfl)) (by kernel_rfl) (by kernel_rfl)
theorem tab_of {W : World} (h : laidMetH Tryz.prog [("pilaster/widths.table", Rows.laid_pilaster_widths_table)] W) : WTab W := by
  rw [MakeChecks.laidMetH_plain _ _ _ (by kernel_rfl)] at h
  exact row_of_laid (zs := wtab) gTab tTab Tryz.underlying195 Tryz.underlying3 (by kernel_rfl) (by kernel_rfl) (by omega) h
end Go.Proofs.YtblpkmmhmdpkjaaGreatDoor

/- x & (2^w - 1) of a number with a sign. -/



namespace Go.Proofs.YtblpkmmhmdpkjaaGreatDoor

end Go.Proofs.YtblpkmmhmdpkjaaGreatDoor

/- Operations on numbers in a region that draws: what each yields; slices of one number. Over any program. -/





namespace Go.Proofs.YtblpkmmhmdpkjaaGreatDoor

open Go.RowKit

def Fact.vals {α : Type} (f : α → Value) (l : List α) : Fact := ⟨IsV f l, fun _ _ _ h hb => h.below hb⟩
section

variable {P : Program} {o : Oper} {ρ : Operand → Value} {w : World} {R : Value → World → Prop}
theorem gives_shl64 {t t' : TypeId} {x y : Operand} {a r : Int} {k : Nat} (ho : o.op = .binOp .shl t x y t') (hx : ρ x = .int .u64 a) (hy : ρ y = .int .i64 (k : Int)) (hk : k ≤ 64) (h : IntKind.u64.wrap (a * 2 ^ k) = r) (hR : R (.int .u64 r) w) : Gives P o ρ w R := by
  refine gives_of (v := .int .u64 r) (w' := w) ?_ hR
  simp [execOp, ho, hx, hy, go_sem, h]
theorem gives_sub64 {t t' : TypeId} {x y : Operand} {a b r : Int} (ho : o.op = .binOp .sub t x y t') (hx : ρ x = .int .u64 a) (hy : ρ y = .int .u64 b) (h : IntKind.u64.wrap (a - b) = r) (hR : R (.int .u64 r) w) : Gives P o ρ w R := by
  refine gives_of (v := .int .u64 r) (w' := w) ?_ hR
  simp [execOp, ho, hx, hy, go_sem, h]
theorem gives_add64 {t t' : TypeId} {x y : Operand} {a b r : Int} (ho : o.op = .binOp .add t x y t') (hx : ρ x = .int .u64 a) (hy : ρ y = .int .u64 b) (h : IntKind.u64.wrap (a + b) = r) (hR : R (.int .u64 r) w) : Gives P o ρ w R := by
  refine gives_of (v := .int .u64 r) (w' := w) ?_ hR
  simp [execOp, ho, hx, hy, go_sem, h]
theorem gives_and64 {t t' : TypeId} {x y : Operand} {a b r : Int} (ho : o.op = .binOp .and t x y t') (hx : ρ x = .int .u64 a) (hy : ρ y = .int .u64 b) (h : bits .and .u64 a b = r) (hR : R (.int .u64 r) w) : Gives P o ρ w R := by
  refine gives_of (v := .int .u64 r) (w' := w) ?_ hR
  simp [execOp, ho, hx, hy, go_sem, h]
theorem gives_conv {s d : TypeId} {k k' : IntKind} {x : Operand} {n r : Int} (ho : o.op = .convert s d x) (hx : ρ x = .int k n) (hs : (P.underlying s).isSome = true) (hd : P.underlying d = some (.int k')) (h : k'.wrap n = r) (hR : R (.int k' r) w) : Gives P o ρ w R := by
  refine gives_convert ho hx (v := .int k' r) (w' := w) ?_ hR
  obtain ⟨e, he⟩ := Option.isSome_iff_exists.mp hs
  simp [convert, run_underlying he, run_underlying hd, Conv.intToInt, h]
/-- A slice literal of one value. -/
theorem gives_val {α : Type} {f : α → Value} {t e : TypeId} {bytes : Nat} {z : Value} (E : Elem P t e bytes z) {a : α} {x : Operand} (ho : o.op = .buildSlice t 1 #[(0, x)]) (hx : ρ x = f a) (hu : (f a).cells = #[f a]) (hR : ∀ v w', IsV f [a] v w' → Below w.heap.size w w' → R v w') : Gives P o ρ w R :=
  gives_one E ho hx hu (hR _ _ (isV_new f w e [a] 1 rfl (by omega)) ((Below.refl _ _).alloc (Nat.le_refl _) _))
end
theorem wpList_slicedL {P : Program} {w : World} {ops : Array Oper} {rest : List Oper} {o : Oper} {a : Act} {Q : Exit → Act → World → Prop} (hgd : o.guard = none) (t : TypeId) (x y : Operand) (ho : o.op = .slice t x (some y) none none)
    (v : Value) (hrun : (Instr.sliceAt t (a.eval x) (some (a.eval y)) none none).run P w = .ok v w) (h : wpList P ops Q rest (a.put o.dst v) w) : wpList P ops Q (o :: rest) a w := by
  refine wpList_plain hgd fun K hK => ?_
  unfold Oper.wp execOp
  simp only [ho, Option.map_some, Option.map_none, hrun, Sem.run_bind, Sem.run_pure, Result.andThen_ok]
  exact hK _ _ h
theorem gives_extract {P : Program} {o : Oper} {ρ : Operand → Value} {w : World} {R : Value → World → Prop} {x : Operand} {i : Nat} {vs : Array Value} {v : Value} (ho : o.op = .extract x i) (hx : ρ x = .tuple vs) (hv : vs[i]? = some v) (hR : R v w) : Gives P o ρ w R := by
  refine gives_of (v := v) (w' := w) ?_ hR
  simp [execOp, ho, hx, hv, go_sem]
end Go.Proofs.YtblpkmmhmdpkjaaGreatDoor

/- direct's own contracts, but Take's and Put's. -/







namespace Go.Proofs.YtblpkmmhmdpkjaaGreatDoor

open Go.RowKit

theorem i64_or_nat (a b : Nat) (ha : a < 2 ^ 63) (hb : b < 2 ^ 63) : bits .or .i64 (a : Int) (b : Int) = ((a ||| b : Nat) : Int) := by
  have h := Nat.or_lt_two_pow ha hb
  show IntKind.i64.wrap ((BitVec.ofInt 64 (a : Int) ||| BitVec.ofInt 64 (b : Int)).toNat : Int) = _
  rw [BitVec.toNat_or, BitVec.ofInt_natCast, BitVec.ofInt_natCast, BitVec.toNat_ofNat, BitVec.toNat_ofNat, Nat.mod_eq_of_lt (by omega), Nat.mod_eq_of_lt (by omega), IntKind.wrap_i64]
  omega
/-- Bits that don't meet are added. -/
theorem or_i64 (n Y P : Nat) (h0 : Y % 2 ^ n = 0) (h1 : P < 2 ^ n) (h2 : Y + P < 2 ^ 63) : bits .or .i64 (Y : Int) (P : Int) = ((Y + P : Nat) : Int) := by
  rw [i64_or_nat _ _ (by omega) (by omega), nat_join n Y P h0 h1]
theorem dcount_yes (n : Int) (w : World) (h0 : 1 ≤ n) (h1 : n ≤ 512) : Calls Tryz.prog 136 #[.int .i64 n] w fun e w' => e = .returned (.bool true) ∧ w = w' := by
  go_enter Tryz.func136, Tryz.ntmps136
  go_wp2
  go_ret
  exact ⟨rfl, rfl⟩
theorem dcount_no (n : Int) (w : World) (h : n < 1 ∨ 512 < n) : Calls Tryz.prog 136 #[.int .i64 n] w fun e w' => e = .returned (.bool false) ∧ w = w' := by
  rcases h with h | h
  · have h2 : decide (1 ≤ n) = false := by simp; omega
    go_enter Tryz.func136, Tryz.ntmps136
    go_wp2
    go_ret
    exact ⟨rfl, rfl⟩
  · have h2 : decide (n ≤ 512) = false := by simp; omega
    have h3 : decide (1 ≤ n) = true := by simp; omega
    go_enter Tryz.func136, Tryz.ntmps136
    go_wp2
    go_ret
    exact ⟨rfl, rfl⟩
theorem wof_fin : ∀ c : Fin 32, 0 < wof (c.val : Int) := by decide +kernel
theorem wof_zero {c : Int} : wof c = 0 ↔ ¬ (0 ≤ c ∧ c ≤ 31) := by
  constructor
  · rintro h ⟨h0, h1⟩
    obtain ⟨k, rfl⟩ := Int.eq_ofNat_of_zero_le h0
    have h2 := wof_fin ⟨k, by omega⟩
    dsimp only at h2
    rw [h] at h2
    exact absurd h2 (by decide)
  · intro h
    exact wof_out (by omega)
set_option maxHeartbeats 2000000 in
set_option maxRecDepth 100000 in
theorem dhead_own (k c m : Int) (w : World) (ht : WTab w) (hk : inInt k) (hc : inInt c) (hm : inInt m) : Calls Tryz.prog 141 #[.int .i64 k, .int .i64 c, .int .i64 m] w (RetH w (dhead k c m)) := by
  have HOF := Lib.hid (of_any c w ht hc.1 hc.2)
  by_cases h0 : k < 0
  · have d0 : decide (k < 0) = true := decide_eq_true h0
    have hE := Lib.hid (dhead_no (k := k) (c := c) (m := m) (by omega))
    clear ht
    go_enter Tryz.func141, Tryz.ntmps141
    go_wp2
    go_ret
    rw [hE.out]
    exact ⟨_, rfl, World.ownsRow_nil _ _ _ _, Below.refl _ _⟩
  · have d0 : decide (k < 0) = false := decide_eq_false h0
    by_cases h1 : 4 ≤ k
    · have d1 : decide (4 ≤ k) = true := decide_eq_true h1
      have hE := Lib.hid (dhead_no (k := k) (c := c) (m := m) (by omega))
      clear ht
      go_enter Tryz.func141, Tryz.ntmps141
      go_wp2
      go_ret
      rw [hE.out]
      exact ⟨_, rfl, World.ownsRow_nil _ _ _ _, Below.refl _ _⟩
    · have d1 : decide (4 ≤ k) = false := decide_eq_false h1
      obtain ⟨W, hW⟩ : ∃ W, W = wof c := ⟨_, rfl⟩
      have hz : W = 0 ↔ ¬ (0 ≤ c ∧ c ≤ 31) := by rw [hW]; exact wof_zero
      rw [← hW] at HOF
      clear hW ht
      by_cases h2 : W = 0
      · have hE := Lib.hid (dhead_no (k := k) (c := c) (m := m) (fun h => (hz.1 h2) ⟨h.2.2.1, h.2.2.2.1⟩))
        have d2 : (W == 0) = true := by simpa using h2
        clear h2 hz
        go_enter Tryz.func141, Tryz.ntmps141
        go_wp2_with (go_at_call 145; refine HOF.out.mono ?_; rintro e w' ⟨rfl, rfl⟩)
        go_ret
        rw [hE.out]
        exact ⟨_, rfl, World.ownsRow_nil _ _ _ _, Below.refl _ _⟩
      · have d2 : (W == 0) = false := by simpa using h2
        have hc2 : 0 ≤ c ∧ c ≤ 31 := Classical.not_not.1 (fun h => h2 (hz.2 h))
        clear h2 hz
        by_cases h3 : m < 1 ∨ 512 < m
        · have hE := Lib.hid (dhead_no (k := k) (c := c) (m := m) (by omega))
          have HC := Lib.hid (dcount_no m w h3)
          clear h3
          go_enter Tryz.func141, Tryz.ntmps141
          go_wp2_with (first | (go_at_call 145; refine HOF.out.mono ?_; rintro e w' ⟨rfl, rfl⟩) | (go_at_call 136; refine HC.out.mono ?_; rintro e w' ⟨rfl, rfl⟩))
          go_ret
          rw [hE.out]
          exact ⟨_, rfl, World.ownsRow_nil _ _ _ _, Below.refl _ _⟩
        · have HC := Lib.hid (dcount_yes m w (by omega) (by omega))
          obtain ⟨K, rfl⟩ := Int.eq_ofNat_of_zero_le (show 0 ≤ k by omega)
          obtain ⟨C, rfl⟩ := Int.eq_ofNat_of_zero_le (show 0 ≤ c by omega)
          obtain ⟨M, rfl⟩ := Int.eq_ofNat_of_zero_le (show 0 ≤ m by omega)
          have hK : K ≤ 3 := by omega
          have hC : C ≤ 31 := by omega
          have hM1 : 1 ≤ M := by omega
          have hM : M ≤ 512 := by omega
          obtain ⟨P, hP⟩ : ∃ P, M = P + 1 := ⟨M - 1, by omega⟩
          have hE := Lib.hid (dhead_in hK hC hM1 hM)
          obtain ⟨a1, ha1⟩ : ∃ a, a = 16384 * K := ⟨_, rfl⟩
          obtain ⟨a2, ha2⟩ : ∃ a, a = 512 * C := ⟨_, rfl⟩
          obtain ⟨Y, hY⟩ : ∃ Y, Y = a1 + a2 := ⟨_, rfl⟩
          obtain ⟨X, hX⟩ : ∃ X, X = Y + P := ⟨_, rfl⟩
          obtain ⟨H, hH⟩ : ∃ H, H = X / 256 := ⟨_, rfl⟩
          obtain ⟨Z, hZ⟩ : ∃ Z, Z = X % 256 := ⟨_, rfl⟩
          have s1 : IntKind.i64.wrap ((K : Int) * 2 ^ 14) = (a1 : Int) := by rw [IntKind.wrap_i64]; omega
          have s1' : (K : Int) * 16384 = (a1 : Int) := by omega
          have s2 : IntKind.i64.wrap ((C : Int) * 2 ^ 9) = (a2 : Int) := by rw [IntKind.wrap_i64]; omega
          have s2' : (C : Int) * 512 = (a2 : Int) := by omega
          have o1 : bits .or .i64 (a1 : Int) (a2 : Int) = (Y : Int) := by rw [hY]; exact or_i64 14 a1 a2 (by omega) (by omega) (by omega)
          have o2 : bits .or .i64 (Y : Int) (P : Int) = (X : Int) := by rw [hX]; exact or_i64 9 Y P (by omega) (by omega) (by omega)
          have hp : ((P + 1 : Nat) : Int) - 1 = (P : Int) := by omega
          have q1 : (X : Int) / 2 ^ 8 = (H : Int) := by omega
          have q1' : (X : Int) / 256 = (H : Int) := by omega
          have w1 : IntKind.u8.wrap (H : Int) = (H : Int) := by rw [IntKind.wrap_u8]; omega
          have w2 : IntKind.u8.wrap (X : Int) = (Z : Int) := by rw [IntKind.wrap_u8]; omega
          have HT := Lib.hid (dheadN_two (k := K) (c := C) (m := M) (X := X) (h := H) (y := Z) (by omega) hH hZ (by omega))
          subst hP
          have hown := own_new w 5 [.int .u8 (H : Int), .int .u8 (Z : Int)] 2 rfl (by omega)
          rw [← HT.out] at hown
          have HOWN := Lib.hid hown
          clear hown ha1 ha2 hY hX hH hZ hc2
          go_enter Tryz.func141, Tryz.ntmps141
          go_wp2_with (first | (go_at_call 145; refine HOF.out.mono ?_; rintro e w' ⟨rfl, rfl⟩) | (go_at_call 136; refine HC.out.mono ?_; rintro e w' ⟨rfl, rfl⟩))
          go_ret
          rw [hE.out]
          refine ⟨_, rfl, ?_, (Below.refl _ _).alloc (Nat.le_refl _) _⟩
          have h := HOWN.out
          rw [HT.out] at h
          rw [dheadN_len, HT.out]
          exact h
/-- Bytes that a call answers. -/
def RetS (w : World) (l : List UInt8) (e : Ending) (w' : World) : Prop := ∃ v, e = .returned v ∧ IsB l v w' ∧ Below w.heap.size w w'
theorem dhead_any (k c m : Int) (w : World) (ht : WTab w) (hk : inInt k) (hc : inInt c) (hm : inInt m) : Calls Tryz.prog 141 #[.int .i64 k, .int .i64 c, .int .i64 m] w (RetS w (dhead k c m)) :=
  (dhead_own k c m w ht hk hc hm).mono fun _ _ ⟨v, h1, h2, h3⟩ => ⟨v, h1, isB_own h2, h3⟩
/-- A row that is filled from the front with what a function makes of others. -/
def FillRel {α β : Type} (f : α → Option β) (enc : β → Value) (z : Value) (t : TypeId) (l : List α) (w : World) (i : Value) (wr : World) : Prop :=
  ∃ (k : Nat) (acc : List β), k ≤ l.length ∧ i = .int .i64 (k : Int) ∧ omap f (l.take k) = some acc ∧ Row wr w.heap.size t (acc.map enc ++ List.replicate (l.length - k) z) ∧ Below w.heap.size w wr
theorem fill_step {β : Type} {enc : β → Value} {z : Value} {acc : List β} {y : β} {n k : Nat} (hk : k < n) (ha : acc.length = k) : (acc.map enc ++ List.replicate (n - k) z).set k (enc y) = (acc ++ [y]).map enc ++ List.replicate (n - (k + 1)) z := by
  have hl : (acc.map enc).length = k := by rw [List.length_map, ha]
  rw [List.set_append_right _ _ (by omega), hl, Nat.sub_self, show n - k = n - (k + 1) + 1 by omega, List.replicate_succ, List.set_cons_zero, List.map_append, List.append_assoc]
  rfl
set_option maxHeartbeats 2000000 in
set_option maxRecDepth 100000 in
theorem dplain_any (l : List Int) (v : Value) (s : Bool) (w : World) (hv : IsV iv l v w) (hl : ∀ x ∈ l, inInt x) (hb : l.length ≤ 1000000) : Calls Tryz.prog 137 #[v, .bool s] w (RetV uv w (dplainE l s)) := by
  obtain ⟨A, c, rfl, hA, hnc, hcm, hlw⟩ := hv
  obtain ⟨n, hn⟩ : ∃ n, n = l.length := ⟨_, rfl⟩
  rw [← hn] at hA hnc hb ⊢
  have HN := Lib.hid hn
  have HL := Lib.hid hlw
  have HI := Lib.hid hl
  clear hn hlw hl hcm hA
  go_enter Tryz.func137, Tryz.ntmps137
  go_wp2_with (refine wpList_make elemU rfl _ _ rfl _ _ _ _ n w w.heap.size rfl rfl rfl rfl (by omega) (by omega) (Below.refl _ _) (Nat.le_refl _) ?_)
  intro w1 hr1 hb1
  have hst : FillRel (eplain · s) uv (uv 0) 101 l w (.int .i64 0) w1 := ⟨0, [], by omega, rfl, rfl, by rw [Nat.sub_zero, ← HN.out]; simpa [iv, uv] using hr1, hb1⟩
  clear hr1 hb1
  go_wp2
  go_loopw [14] (FillRel (eplain · s) uv (uv 0) 101 l w) (fun i _ => n - (intOf i).toNat)
  case atStart => exact hst
  case round =>
    obtain ⟨k, acc, hk, rfl, hacc, hr, hbw⟩ := hrel
    have hz := hbw.size
    have hal : acc.length = k := by rw [omap_len hacc, List.length_take]; omega
    rw [← HN.out] at hr
    have HACC := Lib.hid hacc
    have HAL := Lib.hid hal
    have hk' : k ≤ n := by have := HN.out; omega
    clear hst hacc hal
    by_cases hlt : k < n
    · have hkl : k < l.length := by have := HN.out; omega
      have hlti : (k : Int) < (n : Int) := by omega
      obtain ⟨ad, rfl, _, hcell⟩ := (HL.out.below hbw).cell (k := k) (by rw [List.length_map]; exact hkl)
      obtain ⟨x, hx⟩ : ∃ x, x = l[k] := ⟨_, rfl⟩
      have hcx : wr.cell? (ad.add k) = some (.int .i64 (x)) := by rw [hcell, List.getElem_map, hx]; rfl
      have hxb : inInt x := by rw [hx]; exact HI.out _ (List.getElem_mem hkl)
      have HX := Lib.hid hx
      clear hx hcell
      have hfx := hr.free k
      have hgr := hr.lt
      have hcu : ∃ u, wr.cell? ⟨w.heap.size, k, none⟩ = some u := by
        rw [hr.cell]
        exact ⟨_, List.getElem?_eq_getElem (by rw [List.length_append, List.length_map, List.length_replicate]; have := HAL.out; omega)⟩
      obtain ⟨u0, hcu⟩ := hcu
      cases he : eplain x s with
      | none =>
        have hE : Hid (dplainE l s = ([], 1)) := Lib.hid (by
          have h1 : dplain l s = none := omap_none (x := x) (by rw [HX.out]; exact List.getElem_mem hkl) he
          unfold dplainE; rw [h1])
        cases s with
        | true => unfold eplain at he; rw [if_pos rfl] at he; cases he
        | false =>
          have hx0 : x < 0 := by
            unfold eplain at he
            rw [if_neg (by simp)] at he
            by_cases h : 0 ≤ x
            · rw [if_pos h] at he; cases he
            · omega
          have d3 : decide (x < 0) = true := decide_eq_true hx0
          clear he
          go_wp2
          go_ret2
          rw [hE.out]
          exact RetV.nil _ hbw
      | some u =>
        have hnext : Hid (omap (eplain · s) (l.take (k + 1)) = some (acc ++ [u])) := Lib.hid (omap_take hkl HACC.out (by rw [← HX.out]; exact he))
        have hset := hr.set_ k (uv u)
        rw [fill_step hlt HAL.out] at hset
        have HSET := Lib.hid hset
        have HB3 := Lib.hid (hbw.setCell (p := ⟨w.heap.size, k, none⟩) (Nat.le_refl _) (uv u))
        clear hset hr hbw hz
        cases s with
        | true =>
          have hu : vzig x = (u : Int) := by
            unfold eplain at he
            rw [if_pos rfl] at he
            injection he with he
            have := vzig_bd hxb.1 hxb.2
            omega
          have HZ := Lib.hid (zig_any x wr hxb.1 hxb.2)
          rw [hu] at HZ
          clear he hu
          go_wp2_with (go_at_call 165; refine HZ.out.mono ?_; rintro e w' ⟨rfl, rfl⟩)
          go_roundw
          case rel => exact ⟨k + 1, _, by have := HN.out; omega, by go_num, hnext.out, by rw [← HN.out]; exact HSET.out, HB3.out⟩
          case measure => simp [intOf]; omega
        | false =>
          have hx0 : 0 ≤ x ∧ x = (u : Int) := by
            unfold eplain at he
            rw [if_neg (by simp)] at he
            by_cases h : 0 ≤ x
            · rw [if_pos h] at he; injection he with he; omega
            · rw [if_neg h] at he; cases he
          obtain ⟨h0, hxu⟩ := hx0
          have hxu63 : x ≤ 9223372036854775807 := hxb.2
          have HX2 := HX.out
          subst hxu
          have d3 : decide ((u : Int) < 0) = false := decide_eq_false (by omega)
          have hw : IntKind.u64.wrap (u : Int) = (u : Int) := by rw [IntKind.wrap_u64]; omega
          clear he HX2 hxb hxu63
          go_wp2
          go_roundw
          case rel => exact ⟨k + 1, _, by have := HN.out; omega, by go_num, hnext.out, by rw [← HN.out]; exact HSET.out, HB3.out⟩
          case measure => simp [intOf]; omega
    · obtain rfl : k = n := by omega
      have hlti : ¬ (k : Int) < (k : Int) := by omega
      have hE : Hid (dplainE l s = (acc, 0)) := Lib.hid (by
        have h1 := HACC.out
        rw [List.take_of_length_le (by have := HN.out; omega)] at h1
        unfold dplainE dplain; rw [h1])
      rw [Nat.sub_self, List.replicate_zero, List.append_nil] at hr
      have HR := Lib.hid (isV_row hr HAL.out (by omega))
      go_wp2
      go_ret2
      rw [hE.out]
      exact ⟨_, rfl, HR.out, hbw⟩
end Go.Proofs.YtblpkmmhmdpkjaaGreatDoor

/- direct's Put and Take. -/





namespace Go.Proofs.YtblpkmmhmdpkjaaGreatDoor

open Go.RowKit

theorem most_is {l : List Nat} {v : Value} {w : World} (h : IsV uv l v w) (hb : l.length ≤ 1000000) (h64 : ∀ x ∈ l, x < 2 ^ 64) : Calls Tryz.prog 139 #[v] w fun e w' => e = .returned (.int .i64 (wmost l : Int)) ∧ w = w' := by
  obtain ⟨A, c, rfl, h2, h3, h4, h5⟩ := h
  exact most_any A _ c l w h2 rfl h3 hb h5 h64
set_option maxHeartbeats 2000000 in
set_option maxRecDepth 100000 in
theorem dput_any (l : List Int) (v : Value) (s : Bool) (w : World) (ht : WTab w) (hv : IsV iv l v w) (hl : ∀ x ∈ l, inInt x) (hb : l.length ≤ 1000000) :
    Calls Tryz.prog 124 #[v, .bool s] w (RetE w (dputE l s)) := by
  have HP := Lib.hid (dplain_any l v s w hv hl hb)
  obtain ⟨A, c, rfl, hA, hnc, hcm, hlw⟩ := hv
  obtain ⟨n, hn⟩ : ∃ n, n = l.length := ⟨_, rfl⟩
  rw [← hn] at hA hnc hb HP ⊢
  by_cases hlen : n < 1 ∨ 512 < n
  · have hE := Lib.hid (dputE_len (l := l) (s := s) (by omega))
    have HC := Lib.hid (dcount_no (n : Int) w (by omega))
    clear hn hlw hcm hA hlen ht
    go_enter Tryz.func124, Tryz.ntmps124
    go_wp2_with (go_at_call 136; refine HC.out.mono ?_; rintro e w' ⟨rfl, rfl⟩)
    go_ret2
    rw [hE.out]
    exact RetE.nil _ (Below.refl _ _)
  · have HC := Lib.hid (dcount_yes (n : Int) w (by omega) (by omega))
    cases hd : dplain l s with
    | none =>
      have hE := Lib.hid (dputE_no hd)
      have hpe : dplainE l s = ([], 1) := by unfold dplainE; rw [hd]
      rw [hpe] at HP
      clear hn hlw hcm hA hd hpe ht
      go_enter Tryz.func124, Tryz.ntmps124
      go_wp2_with (first | (go_at_call 136; refine HC.out.mono ?_; rintro e w' ⟨rfl, rfl⟩) | (go_at_call 137; refine HP.out.mono ?_))
      rintro e w1 ⟨u, rfl, hu, hb1⟩
      obtain ⟨A1, c1, rfl, _⟩ := hu
      go_wp2
      go_ret2
      rw [hE.out]
      exact RetE.nil _ hb1
    | some us =>
      have hpe : dplainE l s = (us, 0) := by unfold dplainE; rw [hd]
      rw [hpe] at HP
      have H64 := Lib.hid (dplain_lt hl hd)
      have hul := dplain_len hd
      rw [← hn] at hul
      have hE := Lib.hid (dputE_ok hd (by omega) (by omega))
      have hus : us.length ≤ 512 := by omega
      have HUL := Lib.hid hul
      obtain ⟨W, hW⟩ : ∃ W, W = dwide us := ⟨_, rfl⟩
      obtain ⟨C, hC⟩ : ∃ C, C = dcode us := ⟨_, rfl⟩
      have HW := Lib.hid hW
      have HC2 := Lib.hid hC
      have HCL := Lib.hid (fun X (h : WTab X) => closest_any (wmost us : Int) X h)
      rw [dwide_int, ← hW] at HCL
      have HPK := Lib.hid (fun (u : Value) (X : World) (h : IsV uv us u X) => pack_is (W : Int) (isU_iff.2 h) (by omega) H64.out)
      rw [hW, dpacks H64.out, ← hW] at HPK
      obtain ⟨hci, hc31, _⟩ := dcode_int H64.out
      have HCD := Lib.hid (fun X (h : WTab X) => code_any (W : Int) X h)
      rw [hW, hci, ← hC, ← hW] at HCD
      have HHD := Lib.hid (fun X (h : WTab X) => dhead_own 1 (C : Int) (n : Int) X h (by unfold inInt; omega) (by unfold inInt; omega) (by unfold inInt; omega))
      rw [show (1 : Int) = ((1 : Nat) : Int) from rfl, dhead_in (by omega) (by rw [hC]; exact hc31) (by omega) (by omega), show ((1 : Nat) : Int) = (1 : Int) from rfl] at HHD
      have hsz : (bpack us W).length ≤ 4096 := by rw [bpack_len]; exact bsize_small hus (by rw [hW]; exact (dwide_room H64.out).2.1)
      have HT := Lib.hid ht
      clear hn hlw hcm hA hd hpe hul hW hC hci hc31 hlen ht
      go_enter Tryz.func124, Tryz.ntmps124
      go_wp2_with (first | (go_at_call 136; refine HC.out.mono ?_; rintro e w' ⟨rfl, rfl⟩) | (go_at_call 137; refine HP.out.mono ?_))
      rintro e w1 ⟨u, rfl, hu, hb1⟩
      obtain ⟨A1, c1, rfl, hr⟩ := hu
      have hu : IsV uv us (.slice A1 us.length c1) w1 := ⟨A1, c1, rfl, hr⟩
      have HB1 := Lib.hid hb1
      have HM := Lib.hid (most_is hu (by omega) H64.out)
      have HPK1 := Lib.hid (HPK.out _ w1 hu)
      have HCL1 := Lib.hid (HCL.out w1 (HT.out.below hb1 HT.out.lt))
      clear hb1 hr hu
      go_wp2_with (first | (go_at_call 139; refine HM.out.mono ?_; rintro e w' ⟨rfl, rfl⟩) | (go_at_call 138; refine HCL1.out.mono ?_; rintro e w' ⟨rfl, rfl⟩) | (go_at_call 140; refine HPK1.out.mono ?_))
      rintro e w2 ⟨pk, rfl, hpk, hb2⟩
      obtain ⟨A2, c2, rfl, hA2, hn2, hm2, hl2⟩ := hpk
      have hb02 := below_then HB1.out hb2
      have HB2 := Lib.hid hb02
      have HCD2 := Lib.hid (HCD.out w2 (HT.out.below hb02 HT.out.lt))
      have HHD2 := Lib.hid (HHD.out w2 (HT.out.below hb02 HT.out.lt))
      clear hb2 hb02
      go_wp2_with (first | (go_at_call 142; refine HCD2.out.mono ?_; rintro e w' ⟨rfl, rfl⟩) | (go_at_call 141; refine HHD2.out.mono ?_))
      rintro e w3 ⟨hv3, rfl, hh, hb3⟩
      rw [dheadN_len] at hh
      have hz3 := hb3.size
      have hl3 := hl2.below hb3
      have HB3 := Lib.hid (below_then HB2.out hb3)
      obtain ⟨pl, hpl⟩ : ∃ pl, pl = (bpack us W).length := ⟨_, rfl⟩
      have hpm : ((bpack us W).map bv).length = pl := by rw [List.length_map, hpl]
      have HPM := Lib.hid hpm
      rw [← hpl] at hsz hA2 hn2 ⊢
      have HPL := Lib.hid hpl
      obtain ⟨xs, hxs⟩ : ∃ xs, xs = (dheadN 1 C n).map bv := ⟨_, rfl⟩
      rw [← hxs] at hh
      have HXS := Lib.hid hxs
      clear hpm hpl hxs
      go_wp2_with (at_builtin; refine wpList_join elemB rfl _ _ rfl w2.heap.size _ _ _ _ _ _ ((bpack us W).map bv) w2 rfl rfl hA2 HPM.out hl3 (bv_one _) hh hb3 hz3 (by omega) (by omega) ?_)
      intro v4 w4 hown4 hb4 _ _
      have HO := Lib.hid (show IsB (dlay us) v4 w4 by
        have e1 : dlay us = dheadN 1 C n ++ bpack us W := by unfold dlay; rw [HUL.out, ← HC2.out, ← HW.out]
        rw [e1]
        refine isB_own (n := 2 + pl) (base := w2.heap.size) (e := 5) ?_
        rw [List.map_append, ← HXS.out]
        exact hown4)
      have HB4 := Lib.hid (below_then HB2.out hb4)
      clear hown4 hb4 hh hb3 hz3 hl3
      go_wp2
      go_ret2
      rw [hE.out]
      exact ⟨_, rfl, HO.out, HB4.out⟩
end Go.Proofs.YtblpkmmhmdpkjaaGreatDoor

/- Slices of values of several cells each (structs): f tells a value's cells, m how many. Over any program. -/



namespace Go.Proofs.YtblpkmmhmdpkjaaGreatDoor

open Go.RowKit

theorem flat_at {α : Type} {f : α → List Value} {m : Nat} (hf : ∀ x, (f x).length = m) : ∀ (l : List α) (k : Nat) (hk : k < l.length) (i : Nat), i < m → (l.flatMap f)[k * m + i]? = (f l[k])[i]?
  | [], _, hk, _, _ => absurd hk (Nat.not_lt_zero _)
  | x :: l, 0, _, i, hi => by
    rw [List.flatMap_cons, Nat.zero_mul, Nat.zero_add, List.getElem?_append_left (by rw [hf]; exact hi)]
    rfl
  | x :: l, k + 1, hk, i, hi => by
    rw [List.flatMap_cons, Nat.succ_mul, List.getElem?_append_right (by rw [hf]; omega), hf, show k * m + m + i - m = k * m + i by omega]
    exact flat_at hf l k (by simpa using hk) i hi
theorem flat_take {α : Type} {f : α → List Value} {m : Nat} (hf : ∀ x, (f x).length = m) : ∀ (l : List α) (k : Nat), (l.take k).flatMap f = (l.flatMap f).take (k * m)
  | [], k => by simp
  | x :: l, 0 => by simp
  | x :: l, k + 1 => by
    rw [List.take_succ_cons, List.flatMap_cons, List.flatMap_cons, flat_take hf l k, Nat.succ_mul, List.take_append, hf, show k * m + m - m = k * m by omega, List.take_of_length_le (l := f x) (by rw [hf]; omega)]
theorem flat_len {α : Type} {f : α → List Value} {m : Nat} (hf : ∀ x, (f x).length = m) : ∀ l : List α, (l.flatMap f).length = l.length * m
  | [] => by simp
  | x :: l => by rw [List.flatMap_cons, List.length_append, hf, flat_len hf l, List.length_cons, Nat.succ_mul, Nat.add_comm]
/-- The slice v holds l, each of whose values takes up the cells f. -/
def IsR {α : Type} (f : α → List Value) (l : List α) (v : Value) (w : World) : Prop := ∃ A c, v = .slice A l.length c ∧ (A = none → l.length = 0) ∧ l.length ≤ c ∧ c ≤ maxLen ∧ Lies w A (l.flatMap f)
section

variable {α : Type} {f : α → List Value} {l : List α} {v : Value} {w w' : World} {A : Option Addr} {n c m : Nat}
theorem IsR.below (h : IsR f l v w) (hb : Below w.heap.size w w') : IsR f l v w' := by
  obtain ⟨A, c, h1, h2, h3, h4, h5⟩ := h
  exact ⟨A, c, h1, h2, h3, h4, h5.below hb⟩
theorem IsR.parts (h : IsR f l (.slice A n c) w) : l.length = n ∧ (A = none → n = 0) ∧ n ≤ c ∧ c ≤ maxLen ∧ Lies w A (l.flatMap f) := by
  obtain ⟨A', c', h1, h2, h3, h4, h5⟩ := h
  injection h1 with e1 e2 e3
  subst e1 e2 e3
  exact ⟨rfl, h2, h3, h4, h5⟩
theorem IsR.shape (h : IsR f l v w) : ∃ A n c, v = .slice A n c := by
  obtain ⟨A', c', h1, _⟩ := h
  exact ⟨_, _, _, h1⟩
theorem IsR.at (h : IsR f l (.slice A n c) w) (hf : ∀ x, (f x).length = m) (hm : 0 < m) {k : Nat} (hk : k < l.length) : ∃ ad, A = some ad ∧ ad.block < w.heap.size ∧ ∀ i, i < m → w.cell? (ad.add (k * m + i)) = (f l[k])[i]? := by
  obtain ⟨_, _, _, _, h5⟩ := h.parts
  have hne : l.flatMap f ≠ [] := by
    intro h0
    have h1 := flat_at hf l k hk 0 hm
    rw [h0, List.getElem?_eq_getElem (l := f l[k]) (by rw [hf]; exact hm)] at h1
    cases h1
  rcases h5 with h5 | ⟨ad, hA, hlt, hc⟩
  · exact absurd h5 hne
  · refine ⟨ad, hA, hlt, fun i hi => ?_⟩
    have h1 := flat_at hf l k hk i hi
    rw [List.getElem?_eq_getElem (l := f l[k]) (by rw [hf]; exact hi)] at h1 ⊢
    exact hc _ _ h1
/-- The first k of it, by x[:k]. -/
theorem IsR.take (h : IsR f l (.slice A n c) w) (hf : ∀ x, (f x).length = m) {k : Nat} (hk : k ≤ n) : IsR f (l.take k) (.slice A k c) w := by
  obtain ⟨h1, h2, h3, h4, h5⟩ := h.parts
  have hl : (l.take k).length = k := by rw [List.length_take]; omega
  exact ⟨A, c, by rw [hl], fun h => by have := h2 h; omega, by rw [hl]; omega, h4, by rw [flat_take hf]; exact h5.take _⟩
end

section

variable {P : Program} {o : Oper} {ρ : Operand → Value} {w : World} {R : Value → World → Prop}
/-- x[k] of a slice whose values take up m cells each: the place. -/
theorem gives_index_wide {t e : TypeId} {m : Nat} (ht : P.underlying t = some (.slice e)) (hs : ∀ W, (sizeOf e).run P W = .ok m W) {x y : Operand} {ad : Addr} {n c k : Nat} (ho : o.op = .indexAddr t x y) (hx : ρ x = .slice (some ad) n c) (hy : ρ y = .int .i64 (k : Int)) (hk : k < n)
    (hR : R (.pointer (some (ad.add (k * m)))) w) : Gives P o ρ w R := by
  refine gives_of (v := .pointer (some (ad.add (k * m)))) (w' := w) ?_ hR
  have h0 : (0 : Int) ≤ (k : Int) := by omega
  have h1 : (k : Int) < (n : Int) := by omega
  simp [execOp, ho, hx, hy, go_sem, ht, hs, h0, h1]
/-- A load of a whole value of several cells, from wherever they lie. -/
theorem gives_load_wide {t : TypeId} {x : Operand} {ad : Addr} {cs : List Value} {d : TypeDesc} (ho : o.op = .load t x) (hx : ρ x = .pointer (some ad)) (hu : P.underlying t = some d) (hd : (match (generalizing := false) d with | .struct _ | .array _ _ => true | _ => false) = true)
    (hs : ∀ W, (sizeOf t).run P W = .ok cs.length W) (hc : ∀ j v, cs[j]? = some v → w.cell? (ad.add j) = some v) (hR : R (.agg cs.toArray) w) : Gives P o ρ w R := by
  refine gives_of (v := .agg cs.toArray) (w' := w) ?_ hR
  have ha : (isAgg t).run P w = .ok true w := by
    unfold isAgg
    rw [Sem.run_bind, run_underlying hu]
    cases d <;> first | rfl | cases hd
  have hl : (loadVar t ad).run P w = .ok (.agg cs.toArray) w := by
    simp [loadVar, ha, hs, run_loadCells_list w ad cs hc]
  simp [execOp, ho, hx, Instr.loadAt, Instr.sureAddr, hl]
/-- p.f: the place of a field, where p is known. -/
theorem gives_field {t : TypeId} {x : Operand} {ad ad' : Addr} {f : Nat} (ho : o.op = .fieldAddr t x f) (hx : ρ x = .pointer (some ad)) (hrun : ∀ W, (Instr.fieldAt t (.pointer (some ad)) f).run P W = .ok (.pointer (some ad')) W)
    (hR : R (.pointer (some ad')) w) : Gives P o ρ w R := by
  refine gives_of (v := .pointer (some ad')) (w' := w) ?_ hR
  simp [execOp, ho, hx, hrun]
end

end Go.Proofs.YtblpkmmhmdpkjaaGreatDoor

/- Rows of the call's own whose values take up m cells each: append. Over any program. -/





namespace Go.Proofs.YtblpkmmhmdpkjaaGreatDoor

open Go.RowKit

/-- The facts on an element's type that appends ask: m cells, so many bytes. -/
structure ElemW (P : Program) (t e : TypeId) (bytes m : Nat) (z : Value) : Prop where
  under : P.underlying t = some (.slice e)
  cells : z.cells.size = m
  pos : 0 < m
  info : ∃ (i : TypeInfo), P.info? e = some i ∧ i.zero = some z ∧ i.size = m ∧ i.bytes = bytes
section

variable {P : Program} (w : World)
end
theorem ownW_lt {w : World} {base size n : Nat} {e : TypeId} {v : Value} {xs : List Value} (h : w.ownsRow base e size v n xs) {g : Nat} (hg : v.ownBlock = some g) : base ≤ g ∧ g < w.heap.size := by
  rcases h.2 with ⟨rfl, _⟩ | ⟨g', cap, cur, rfl, hb, hc, _⟩
  · simp [Value.ownBlock] at hg
  · simp [Value.ownBlock] at hg
    subst hg
    exact ⟨hb, (Array.getElem?_eq_some_iff.1 hc).1⟩
theorem belowW_append {w0 w w' : World} {base size : Nat} {e : TypeId} {v : Value} {n : Nat} {xs : List Value} (hb : Below base w0 w) (hown : w.ownsRow base e size v n xs) (hz : base ≤ w.heap.size) (hg : w.grownBy w' v.ownBlock) : Below base w0 w' :=
  hb.grown hg hz fun _ hk => (ownW_lt hown hk).1
theorem ownW_alloc {w : World} {base size n : Nat} {e : TypeId} {v : Value} {xs : List Value} (h : w.ownsRow base e size v n xs) (o : Obj) : (w.alloc o).ownsRow base e size v n xs :=
  own_below h ((Below.refl _ _).alloc (Nat.le_refl _) o)
theorem ownW_base {w : World} {base base' size n : Nat} {e : TypeId} {v : Value} {xs : List Value} (hb : base' ≤ base) (h : w.ownsRow base e size v n xs) : w.ownsRow base' e size v n xs :=
  ⟨h.1, h.2.imp id fun ⟨g, cap, cur, h1, h2, h3⟩ => ⟨g, cap, cur, h1, Nat.le_trans hb h2, h3⟩⟩
theorem cells_new (w : World) (cs : List Value) (t : TypeId) : Lies (w.alloc (.cells cs.toArray t)) (some ⟨w.heap.size, 0, none⟩) cs := by
  have h : Row (w.alloc (.cells cs.toArray t)) w.heap.size t cs := heap_alloc_new w _
  simpa using h.lies 0
section

variable {α : Type} {f : α → List Value} {l : List α} {v : Value} {w w' : World} {m n : Nat}
theorem isR_nil (f : α → List Value) (w : World) : IsR f [] (.slice none 0 0) w := ⟨none, 0, rfl, by simp, by simp, by unfold maxLen; omega, Lies.nil⟩
theorem ownW_made (w : World) (e : TypeId) (m : Nat) : (w.alloc (.cells #[] e)).ownsRow w.heap.size e m (.slice (some ⟨w.heap.size, 0, none⟩) 0 0) 0 [] :=
  ⟨by simp, .inr ⟨w.heap.size, 0, #[], rfl, Nat.le_refl _, heap_alloc_new w _, Nat.le_refl _, by unfold maxLen; omega, by simp, by simp⟩⟩
/-- Of two rows of different element types the one lasts where the other one grows. -/
theorem own_otherW {base base' s1 s2 k : Nat} {e1 e2 : TypeId} {v1 v2 : Value} {xs ys : List Value} (h1 : w.ownsRow base e1 s1 v1 n xs) (h2 : w.ownsRow base' e2 s2 v2 k ys) (hne : e1 ≠ e2) (hg : w.grownBy w' v2.ownBlock) : w'.ownsRow base e1 s1 v1 n xs := by
  refine ⟨h1.1, h1.2.imp id fun ⟨g, cap, cur, hv, hb, hc, r⟩ => ⟨g, cap, cur, hv, hb, ?_, r⟩⟩
  have hlt := (Array.getElem?_eq_some_iff.1 hc).1
  refine (hg.block g hlt ?_).trans hc
  rcases h2.2 with ⟨rfl, _⟩ | ⟨g2, cap2, cur2, rfl, _, hc2, _⟩
  · simp [Value.ownBlock]
  · intro he
    simp [Value.ownBlock] at he
    subst he
    rw [hc] at hc2
    injection hc2 with hc2
    injection hc2 with _ h3
    exact hne h3
end
end Go.Proofs.YtblpkmmhmdpkjaaGreatDoor

/- Arrays by value: a block that is made, loaded and stored whole. Over any program. -/





namespace Go.Proofs.YtblpkmmhmdpkjaaGreatDoor

open Go.RowKit

/-- Cells that are all the same. (A name of its own: the walk's simp writes List.replicate out.) -/
def zeroRow (n : Nat) (z : Value) : List Value := List.replicate n z
/-- The facts on an array type of n elements of one cell. -/
structure ArrT (P : Program) (t e : TypeId) (n : Nat) (z : Value) : Prop where
  under : P.underlying t = some (.array n e)
  info : (P.info? t).map (fun i => (i.zero, i.size)) = some (some (.agg (zeroRow n z).toArray), n)
theorem ArrT.size_ {P : Program} {t e : TypeId} {n : Nat} {z : Value} (E : ArrT P t e n z) : (P.info? t).map (·.size) = some n := (zero_of_info E.info).2

section

variable {P : Program} {w : World} {ops : Array Oper} {rest : List Oper} {o : Oper} {a : Act} {Q : Exit → Act → World → Prop} {t e : TypeId} {n : Nat} {z : Value}
end
end Go.Proofs.YtblpkmmhmdpkjaaGreatDoor

/- A region that draws, each operation shown once, over ANY relation of worlds (XRegion: over 'old memory as it was'): for a region that also writes: the relation says what each operation leaves as it was; a fact may speak of the values of what its operation waits for. -/



namespace Go.Proofs.YtblpkmmhmdpkjaaGreatDoor

open Go.RowKit

/-- A relation of worlds that regions may go by. -/
structure Later (R : World → World → Prop) : Prop where
  refl : ∀ w, R w w
  trans : ∀ {a b c}, R a b → R b c → R a c
  draw : ∀ w, R w { w with drawn := w.drawn + 1 }
def upd (vs : Nat → Value) (i : Nat) (v : Value) : Nat → Value := fun j => if j = i then v else vs j
theorem upd_at (vs : Nat → Value) (i : Nat) (v : Value) : upd vs i v i = v := if_pos rfl
theorem upd_ne (vs : Nat → Value) {i j : Nat} (v : Value) (h : j ≠ i) : upd vs i v j = vs j := if_neg h
/-- What is known of what an operation sees. -/
structure RCtxR (ops : Array Oper) (F : Nat → (Nat → Value) → World → Prop) (a0 : Act) (i : Nat) (ρ : Operand → Value) (vs : Nat → Value) (w : World) : Prop where
  const : ∀ v, ρ (.const v) = v
  func : ∀ f, ρ (.func f) = .func (.func f) #[] #[]
  glob : ∀ g, ρ (.global g) = .pointer (some ⟨g, 0, none⟩)
  new : ∀ d j, writer ops i d = some j → ρ (.tmp d) = vs j
  fact : ∀ j, rpred ops j i = true → F j vs w
  old : ∀ d v, writer ops i d = none → a0.eval (.tmp d) = v → ρ (.tmp d) = v
theorem writer_pred {ops : Array Oper} {i d j : Nat} (h : writer ops i d = some j) : rpred ops j i = true := by
  have h1 := List.find?_some h
  simp at h1
  exact h1.2
section

variable {P : Program} {ops : Array Oper} {Q : Exit → Act → World → Prop} {R : World → World → Prop}
/-- **A region that draws, whose first m operations are each shown once** (the frame: as the text's order gives it); what follows them is shown from where all these have been done. -/
theorem wpAny_region_coreR (HR : Later R) {a0 : Act} {w0 : World} (m : Nat) (hm : m ≤ ops.size) (F : Nat → (Nat → Value) → World → Prop)
    (hok : regionOk ops a0.tmps.size = true)
    (hF : ∀ i vs w w', F i vs w → R w w' → F i vs w')
    (hloc : ∀ i vs vs' w, (∀ k, (k = i ∨ rpred ops k i = true) → vs k = vs' k) → F i vs w → F i vs' w)
    (hstep : ∀ i o, i < m → ops[i]? = some o → ∀ (vs : Nat → Value) (w : World), R w0 w → (∀ j, rpred ops j i = true → F j vs w) →
      if Region.wanted o (yielded ops (puts ops (fun _ => true) vs i a0).tmps) = true then
        o.wp P (puts ops (fun _ => true) vs i a0) w (fun a' w' => ∃ v, a' = (puts ops (fun _ => true) vs i a0).put o.dst v ∧ F i (upd vs i v) w' ∧ R w w') (fun _ _ _ => False)
      else F i (upd vs i undef) w)
    (hwait : ∀ l : Array Bool, HeadInv .any ops m l → (∃ i, i < m ∧ l.getD i true = false) → ∀ t, m ≤ t → t ∉ Region.ready .any ops l)
    (hfin : ∀ (l : Array Bool) (vs : Nat → Value) (w : World), l.size = ops.size → (∀ j, j < m → l.getD j false = true) → (∀ j, m ≤ j → j < ops.size → l.getD j false = false) → R w0 w → (∀ i, i < m → F i vs w) →
      wpAny P .any ops Q (ops.size - m) l (puts ops (fun _ => true) vs m a0) w) :
    wpAny P .any ops Q ops.size (Array.replicate ops.size false) a0 { w0 with drawn := w0.drawn + 1 } := by
  have main : ∀ (fuel : Nat) (l : Array Bool) (vs : Nat → Value) (w : World), l.size = ops.size → left m l ≤ fuel → (∀ i j, i < ops.size → l.getD i false = true → rpred ops j i = true → l.getD j false = true) →
      (∀ t, m ≤ t → t < ops.size → l.getD t false = false) →
      (∀ i, i < ops.size → l.getD i false = true → F i vs w) → R w0 w → wpAny P .any ops Q (fuel + (ops.size - m)) l (puts ops (fun j => l.getD j false) vs ops.size a0) w := by
    intro fuel
    have hend : ∀ (f : Nat) (l : Array Bool) (vs : Nat → Value) (w : World), l.size = ops.size → (∀ t, m ≤ t → t < ops.size → l.getD t false = false) → (∀ i, i < ops.size → l.getD i false = true → F i vs w) → R w0 w → (∀ j, j < m → l.getD j false = true) →
        wpAny P .any ops Q (f + (ops.size - m)) l (puts ops (fun j => l.getD j false) vs ops.size a0) w := by
      intro f l vs w hs htl hfs hb hall
      rw [puts_cut _ vs a0 m ops.size hm htl, puts_congr (fun j => l.getD j false) (fun _ => true) vs vs a0 m hall (fun _ _ _ => rfl)]
      exact wpAny_add _ _ _ _ _ (hfin l vs w hs hall htl hb fun i hi => hfs i (by omega) (hall i hi))
    induction fuel with
    | zero =>
      intro l vs w hs hl hcl htl hfs hb
      refine hend 0 l vs w hs htl hfs hb fun j hj => ?_
      cases h1 : l.getD j false with
      | true => rfl
      | false => have := left_set_in hj (by omega) h1; omega
    | succ fuel ih =>
      intro l vs w hs hl hcl htl hfs hb
      by_cases hall : ∀ j, j < m → l.getD j false = true
      · exact hend _ l vs w hs htl hfs hb hall
      obtain ⟨j0, hj0⟩ := Classical.not_forall.1 hall
      have hj0m : j0 < m := by
        rcases Nat.lt_or_ge j0 m with h | h
        · exact h
        · exact absurd (fun h' => absurd h' (by omega)) hj0
      have hj0f : l.getD j0 false = false := by
        cases h1 : l.getD j0 false with
        | false => rfl
        | true => exact absurd (fun _ => h1) hj0
      have hinv : HeadInv .any ops m l := by
        refine ⟨hs, fun j oj hj hlj e he hbd => ?_, fun t ht ht' => getD_in (by omega) (htl t ht ht')⟩
        refine hcl j e.on (Array.getElem?_eq_some_iff.1 hj).1 hlj ?_
        unfold rpred
        rw [hj, Option.map_some, Option.getD_some, List.any_eq_true]
        exact ⟨e, by simpa using he, by rw [hbd]; simp⟩
      have hwt := hwait l hinv ⟨j0, hj0m, getD_in (by omega) hj0f⟩
      rw [show fuel + 1 + (ops.size - m) = (fuel + (ops.size - m)) + 1 by omega]
      refine ⟨fun hr => ?_, fun i hi => ?_⟩
      · exfalso
        have hallb : ∀ i, i < m → l.getD i false = true := by
          intro i
          induction i using Nat.strongRecOn with
          | ind i ih =>
            intro hi
            by_cases hl : l.getD i false = true
            · exact hl
            · exfalso
              have ho : ops[i]? = some ops[i] := Array.getElem?_eq_getElem (by omega)
              have hok' := regionOk_at hok ho
              have hmem : i ∈ Region.ready .any ops l := mem_ready.2 ⟨by
                have : i < l.size := by omega
                simp [this] at hl ⊢
                exact hl, ops[i], ho, fun e he hbd => ih e.on (hok'.1 e he hbd) (by have := hok'.1 e he hbd; omega)⟩
              rw [hr] at hmem
              cases hmem
        exact absurd (hallb j0 hj0m) (by rw [hj0f]; decide)
      have him : i < m := by
        rcases Nat.lt_or_ge i m with h | h
        · exact h
        · exact absurd hi (hwt i h)
      obtain ⟨h0, o, ho, hpre⟩ := mem_ready.1 hi
      have hlt : i < ops.size := (Array.getElem?_eq_some_iff.1 ho).1
      have h1 : l.getD i false = false := by
        have : i < l.size := by omega
        simp [this] at h0 ⊢
        exact h0
      obtain ⟨hback, hsel, hdst, hlook⟩ := regionOk_at hok ho
      have hpred : ∀ j, rpred ops j i = true → l.getD j false = true ∧ j < i := by
        intro j hj
        unfold rpred at hj
        rw [ho, Option.map_some, Option.getD_some, List.any_eq_true] at hj
        obtain ⟨e, he, hej⟩ := hj
        have he : e ∈ o.after := by simpa using he
        simp at hej
        rw [← hej.2]
        exact ⟨hpre e he hej.1, hback e he hej.1⟩
      have hrd : rdst ops i = o.dst := by unfold rdst; rw [ho]; rfl
      -- what the operation looks at is the same in both frames
      have hsame : ∀ d ∈ o.looksAt ops, (puts ops (fun j => l.getD j false) vs ops.size a0).tmps[d]? = (puts ops (fun _ => true) vs i a0).tmps[d]? := by
        intro d hd
        by_cases hex : ∃ j, j < ops.size ∧ j ≠ i ∧ rdst ops j = some d
        · obtain ⟨j, hj, hne, hjd⟩ := hex
          have hoj : ops[j]? = some ops[j] := Array.getElem?_eq_getElem hj
          have hdj : ops[j].dst = some d := by unfold rdst at hjd; rw [hoj] at hjd; exact hjd
          have huniq : ∀ k, k < ops.size → k ≠ j → rdst ops k ≠ some d := fun k hk hkj => ((regionOk_at hok hoj).2.2.1 d hdj).2 k hk hkj
          rcases hlook d hd j hj hne hjd with hp | hp
          · obtain ⟨hlj, hji⟩ := hpred j hp
            rw [puts_new _ vs a0 d j hjd hlj ops.size hj huniq, puts_new _ vs a0 d j hjd rfl i hji fun k hk => huniq k (by omega)]
          · have hnl : l.getD j false = false := by
              cases hlj : l.getD j false with
              | false => rfl
              | true => exact absurd (hcl j i hj hlj hp) (by rw [h1]; decide)
            have hij : i < j := by
              unfold rpred at hp
              rw [hoj, Option.map_some, Option.getD_some, List.any_eq_true] at hp
              obtain ⟨e, he, hej⟩ := hp
              have he : e ∈ ops[j].after := by simpa using he
              simp at hej
              have := (regionOk_at hok hoj).1 e he hej.1
              omega
            rw [puts_old _ vs a0 d ops.size, puts_old _ vs a0 d i]
            · intro k hk _ hkd
              exact huniq k (by omega) (by omega) hkd
            · intro k hk hlk hkd
              by_cases hkj : k = j
              · subst hkj; rw [hnl] at hlk; cases hlk
              · exact huniq k hk hkj hkd
        · rw [puts_old _ vs a0 d ops.size, puts_old _ vs a0 d i]
          · intro k hk _ hkd; exact hex ⟨k, by omega, by omega, hkd⟩
          · intro k hk hlk hkd
            by_cases hki : k = i
            · subst hki; rw [h1] at hlk; cases hlk
            · exact hex ⟨k, hk, hki, hkd⟩
      have hst := hstep i o him ho vs w hb fun j hj => hfs j (by have := (hpred j hj).2; omega) (hpred j hj).1
      have hwant := wanted_congr hsame
      have hexec : execOp (puts ops (fun j => l.getD j false) vs ops.size a0).eval o = execOp (puts ops (fun _ => true) vs i a0).eval o := by
        refine execOp_congr o hsel fun x hx => ?_
        cases x with
        | tmp d =>
          have hd : d ∈ o.looksAt ops := List.mem_append_left _ (List.mem_filterMap.2 ⟨.tmp d, by simpa using hx, rfl⟩)
          have := hsame d hd
          show (puts ops (fun j => l.getD j false) vs ops.size a0).tmps.getD d undef = (puts ops (fun _ => true) vs i a0).tmps.getD d undef
          rw [Array.getD_eq_getD_getElem?, Array.getD_eq_getD_getElem?, this]
        | _ => rfl
      -- behind it
      have hnext : ∀ v w', F i (upd vs i v) w' → R w w' → wpAny P .any ops Q (fuel + (ops.size - m)) (l.setIfInBounds i true) ((puts ops (fun j => l.getD j false) vs ops.size a0).put o.dst v) w' := by
        intro v w' hv hb'
        have hset := puts_set (ops := ops) (fun j => l.getD j false) vs a0 i v h1 ops.size hlt fun j hj hne d hd => (hdst d (by rw [← hrd]; exact hd)).2 j hj hne
        rw [← hrd, ← hset]
        have hmarks : ∀ j, j < ops.size → (j == i || l.getD j false) = (l.setIfInBounds i true).getD j false := by
          intro j hj
          by_cases hij : i = j
          · subst hij; simp [hs, hlt]
          · rw [getD_set_ne false hij]
            have : (j == i) = false := by simp; omega
            simp [this]
        rw [puts_congr _ (fun j => (l.setIfInBounds i true).getD j false) _ (fun j => if j = i then v else vs j) a0 ops.size hmarks (fun _ _ _ => rfl)]
        refine ih (l.setIfInBounds i true) _ w' (by simp [hs]) (by have := left_set_in him (by omega) h1; omega) ?_ ?_ ?_ (HR.trans hb hb')
        · intro j k hj hlj hjk
          rw [← hmarks j hj] at hlj
          by_cases hji : j = i
          · subst hji; exact getD_set_true (hpred k hjk).1
          · have : (j == i) = false := by simpa using hji
            rw [this, Bool.false_or] at hlj
            exact getD_set_true (hcl j k hj hlj hjk)
        · intro t ht ht'
          rw [getD_set_ne false (by omega)]
          exact htl t ht ht'
        · intro j hj hlj
          rw [← hmarks j hj] at hlj
          by_cases hji : j = i
          · subst hji; exact hv
          · have : (j == i) = false := by simpa using hji
            rw [this, Bool.false_or] at hlj
            refine hF j _ w w' (hloc j vs _ w (fun k hk => ?_) (hfs j hj hlj)) hb'
            have hki : k ≠ i := by
              rcases hk with rfl | hk
              · exact hji
              · rintro rfl
                rw [hcl j k hj hlj hk] at h1
                cases h1
            show vs k = if k = i then v else vs k
            rw [if_neg hki]
      unfold wpOp
      rw [ho]
      show if Region.wanted o _ = true then _ else _
      rw [hwant]
      by_cases hw : Region.wanted o (yielded ops (puts ops (fun _ => true) vs i a0).tmps) = true
      · rw [if_pos hw] at hst ⊢
        exact .inl (wp_carry hexec (fun d hd => by rw [puts_size]; exact (hdst d hd).1) hst fun v w' h => hnext v w' h.1 h.2)
      · rw [if_neg hw] at hst ⊢
        exact hnext undef w hst (HR.refl _)
  have hinit := main m (Array.replicate ops.size false) (fun _ => undef) { w0 with drawn := w0.drawn + 1 } (by simp) (by unfold left; exact Nat.le_trans (List.length_filter_le _ _) (by simp))
    (fun i j hi h _ => by simp [hi] at h) (fun t _ _ => getD_replicate_false _ _) (fun i hi h => by simp [hi] at h) (HR.draw _)
  have hz : puts ops (fun j => (Array.replicate ops.size false).getD j false) (fun _ => undef) ops.size a0 = a0 := by
    have : ∀ n, n ≤ ops.size → puts ops (fun j => (Array.replicate ops.size false).getD j false) (fun _ => undef) n a0 = a0 := by
      intro n
      induction n with
      | zero => intro _; rfl
      | succ n ih =>
        intro hn
        have hlt : n < ops.size := by omega
        rw [puts, if_neg (by simp [hlt]), ih (by omega)]
    exact this _ (Nat.le_refl _)
  rw [hz, show m + (ops.size - m) = ops.size by omega] at hinit
  exact hinit

/-- **A region that draws**: each operation is shown once, in the frame that the text's order gives it, knowing of what it waits for; behind the region all facts hold. -/
theorem wpAny_region_factsR (HR : Later R) {a0 : Act} {w0 : World} (F : Nat → (Nat → Value) → World → Prop)
    (hok : regionOk ops a0.tmps.size = true)
    (hF : ∀ i vs w w', F i vs w → R w w' → F i vs w')
    (hloc : ∀ i vs vs' w, (∀ k, (k = i ∨ rpred ops k i = true) → vs k = vs' k) → F i vs w → F i vs' w)
    (hstep : ∀ i o, ops[i]? = some o → ∀ (vs : Nat → Value) (w : World), R w0 w → (∀ j, rpred ops j i = true → F j vs w) →
      if Region.wanted o (yielded ops (puts ops (fun _ => true) vs i a0).tmps) = true then
        o.wp P (puts ops (fun _ => true) vs i a0) w (fun a' w' => ∃ v, a' = (puts ops (fun _ => true) vs i a0).put o.dst v ∧ F i (upd vs i v) w' ∧ R w w') (fun _ _ _ => False)
      else F i (upd vs i undef) w)
    (hfin : ∀ (vs : Nat → Value) (w : World), R w0 w → (∀ i, i < ops.size → F i vs w) → Q .normal (puts ops (fun _ => true) vs ops.size a0) w) :
    wpAny P .any ops Q ops.size (Array.replicate ops.size false) a0 { w0 with drawn := w0.drawn + 1 } := by
  refine wpAny_region_coreR HR ops.size (Nat.le_refl _) F hok hF hloc (fun i o _ => hstep i o) (fun l _ _ t ht hr => ?_) fun l vs w hs hall _ hb hf => ?_
  · obtain ⟨_, o, ho, _⟩ := mem_ready.1 hr
    have := (Array.getElem?_eq_some_iff.1 ho).1
    omega
  · rw [Nat.sub_self]
    refine ⟨List.eq_nil_iff_forall_not_mem.2 fun i hi => ?_, hfin vs w hb hf⟩
    obtain ⟨h0, o, ho, _⟩ := mem_ready.1 hi
    have hlt := (Array.getElem?_eq_some_iff.1 ho).1
    have h1 := hall i hlt
    have : i < l.size := by omega
    simp [this] at h0 h1
    rw [h0] at h1
    cases h1
def StepAtR (R : World → World → Prop) (P : Program) (ops : Array Oper) (F : Nat → (Nat → Value) → World → Prop) (a0 : Act) (w0 : World) (i : Nat) (o : Oper) : Prop :=
  ∀ (ρ : Operand → Value) (vs : Nat → Value) (w : World), R w0 w → RCtxR ops F a0 i ρ vs w →
    match o.guard with
    | none => Gives P o ρ w fun v w' => F i (upd vs i v) w' ∧ R w w'
    | some (g, b) => ∀ d, rdst ops g = some d → (ρ (.tmp d) = .bool b → Gives P o ρ w fun v w' => F i (upd vs i v) w' ∧ R w w') ∧ (ρ (.tmp d) ≠ .bool b → F i (upd vs i undef) w)

def StepsFromR (R : World → World → Prop) (P : Program) (ops : Array Oper) (F : Nat → (Nat → Value) → World → Prop) (a0 : Act) (w0 : World) : Nat → List Oper → Prop
  | _, [] => True
  | i, o :: r => StepAtR R P ops F a0 w0 i o ∧ StepsFromR R P ops F a0 w0 (i + 1) r

theorem stepsFrom_atR {F : Nat → (Nat → Value) → World → Prop} {a0 : Act} {w0 : World} : ∀ (l : List Oper) (k : Nat), StepsFromR R P ops F a0 w0 k l → ∀ i o, l[i]? = some o → StepAtR R P ops F a0 w0 (k + i) o := by
  intro l
  induction l with
  | nil => intro k _ i o h; simp at h
  | cons x l ih =>
    intro k hs i o h
    cases i with
    | zero => simp at h; subst h; exact hs.1
    | succ i =>
      have := ih (k + 1) hs.2 i o (by simpa using h)
      rwa [Nat.add_assoc, Nat.add_comm 1] at this

/-- **A region that draws**, in the form in which it is used: a fact for each operation, a step for each. -/
theorem region_stepR {a0 : Act} {w0 : World} (F : Nat → (Nat → Value) → World → Prop)
    (hok : regionOk ops a0.tmps.size = true) (hgd : guardsOk ops = true)
    (i : Nat) (o : Oper) (ho : ops[i]? = some o) (hst : StepAtR R P ops F a0 w0 i o) (vs : Nat → Value) (w : World) (hb : R w0 w) (hp : ∀ j, rpred ops j i = true → F j vs w) :
      if Region.wanted o (yielded ops (puts ops (fun _ => true) vs i a0).tmps) = true then
        o.wp P (puts ops (fun _ => true) vs i a0) w (fun a' w' => ∃ v, a' = (puts ops (fun _ => true) vs i a0).put o.dst v ∧ F i (upd vs i v) w' ∧ R w w') (fun _ _ _ => False)
      else F i (upd vs i undef) w := by
  have hlt : i < ops.size := (Array.getElem?_eq_some_iff.1 ho).1
  obtain ⟨hback, hsel, hdst, hlook⟩ := regionOk_at hok ho
  have hpi : ∀ j, rpred ops j i = true → j < i := by
    intro j hj
    unfold rpred at hj
    rw [ho, Option.map_some, Option.getD_some, List.any_eq_true] at hj
    obtain ⟨e, he, hej⟩ := hj
    simp at hej
    rw [← hej.2]
    exact hback e (by simpa using he) hej.1
  have hw : ∀ d j, writer ops i d = some j → rdst ops j = some d ∧ rpred ops j i = true ∧ j < ops.size := by
    intro d j h
    have h1 := List.find?_some h
    have h2 := List.mem_of_find?_eq_some h
    simp at h1
    exact ⟨h1.1, h1.2, List.mem_range.1 h2⟩
  have hctx : RCtxR ops F a0 i (sees ops vs a0 i) vs w := by
    refine ⟨fun _ => rfl, fun _ => rfl, fun _ => rfl, fun d j h => ?_, hp, fun d v h hv => ?_⟩
    · show (match writer ops i d with | some j => vs j | none => a0.eval (.tmp d)) = vs j
      rw [h]
    · show (match writer ops i d with | some j => vs j | none => a0.eval (.tmp d)) = v
      rw [h]
      exact hv
  -- what it looks at is what it sees
  have hsee : ∀ d ∈ o.looksAt ops, (puts ops (fun _ => true) vs i a0).tmps.getD d undef = sees ops vs a0 i (.tmp d) := by
    intro d hd
    show _ = (match writer ops i d with | some j => vs j | none => a0.eval (.tmp d))
    cases hwr : writer ops i d with
    | some j =>
      obtain ⟨h1, h2, h3⟩ := hw d j hwr
      have hoj : ops[j]? = some ops[j] := Array.getElem?_eq_getElem h3
      have hdj : ops[j].dst = some d := by unfold rdst at h1; rw [hoj] at h1; exact h1
      have hu := (regionOk_at hok hoj).2.2.1 d hdj
      have hpn := puts_new (ops := ops) (fun _ => true) vs a0 d j h1 rfl i (hpi j h2) fun k hk => hu.2 k (by omega)
      rw [Array.getD_eq_getD_getElem?, hpn]
      simp [Act.put, hu.1]
    | none =>
      have hno : ∀ j, j < i → rdst ops j ≠ some d := by
        intro j hj hjd
        have h1 := hlook d hd j (by omega) (by omega) hjd
        rcases h1 with h1 | h1
        · have h2 := List.find?_eq_none.1 hwr j (List.mem_range.2 (by omega))
          simp [hjd, h1] at h2
        · have hoj : ops[j]? = some ops[j] := Array.getElem?_eq_getElem (by omega)
          unfold rpred at h1
          rw [hoj, Option.map_some, Option.getD_some, List.any_eq_true] at h1
          obtain ⟨e, he, hej⟩ := h1
          simp at hej
          have := (regionOk_at hok hoj).1 e (by simpa using he) hej.1
          omega
      show _ = a0.tmps.getD d undef
      rw [Array.getD_eq_getD_getElem?, Array.getD_eq_getD_getElem?, puts_old (ops := ops) (fun _ => true) vs a0 d i fun j hj _ => hno j hj]
  have hexec : execOp (puts ops (fun _ => true) vs i a0).eval o = execOp (sees ops vs a0 i) o := by
    refine execOp_congr o hsel fun x hx => ?_
    cases x with
    | tmp d => exact hsee d (List.mem_append_left _ (List.mem_filterMap.2 ⟨.tmp d, by simpa using hx, rfl⟩))
    | _ => rfl
  have h1 := hst (sees ops vs a0 i) vs w hb hctx
  cases hg : o.guard with
  | none =>
    rw [hg] at h1
    have hwa : Region.wanted o (yielded ops (puts ops (fun _ => true) vs i a0).tmps) = true := by unfold Region.wanted; rw [hg]
    rw [if_pos hwa]
    exact wp_of_gives hexec h1
  | some p =>
    obtain ⟨g, b⟩ := p
    rw [hg] at h1
    have hgo : (rdst ops g).isSome = true := by
      unfold guardsOk at hgd
      rw [List.all_eq_true] at hgd
      have := hgd i (List.mem_range.2 hlt)
      rw [ho, Option.map_some, Option.getD_some, hg] at this
      exact this
    obtain ⟨d, hd⟩ := Option.isSome_iff_exists.1 hgo
    obtain ⟨hyes, hno⟩ := h1 d hd
    have hdl : d ∈ o.looksAt ops := List.mem_append_right _ (by rw [hg]; show d ∈ ((ops[g]?).bind (·.dst)).toList; have : (ops[g]?).bind (·.dst) = some d := hd; rw [this]; simp)
    have hv := hsee d hdl
    by_cases hw : Region.wanted o (yielded ops (puts ops (fun _ => true) vs i a0).tmps) = true
    · rw [if_pos hw]
      refine wp_of_gives hexec (hyes ?_)
      rw [← hv]
      unfold Region.wanted at hw
      rw [hg] at hw
      have hd' : (ops[g]?).bind (·.dst) = some d := hd
      simp only [yielded, hd', Option.bind_some] at hw
      rw [Array.getD_eq_getD_getElem?]
      cases hx : (puts ops (fun _ => true) vs i a0).tmps[d]? with
      | none => rw [hx] at hw; simp at hw
      | some v =>
        rw [hx] at hw
        cases v <;> simp at hw
        subst hw
        rfl
    · rw [if_neg hw]
      refine hno fun h => hw ?_
      rw [← hv, Array.getD_eq_getD_getElem?] at h
      unfold Region.wanted
      rw [hg]
      have hd' : (ops[g]?).bind (·.dst) = some d := hd
      simp only [yielded, hd', Option.bind_some]
      cases hx : (puts ops (fun _ => true) vs i a0).tmps[d]? with
      | none => rw [hx] at h; cases h
      | some v =>
        rw [hx] at h
        have h : v = .bool b := h
        subst h
        simp
theorem stepsFrom_allR {F : Nat → (Nat → Value) → World → Prop} {a0 : Act} {w0 : World} (h : StepsFromR R P ops F a0 w0 0 ops.toList) (i : Nat) (o : Oper) (ho : ops[i]? = some o) : StepAtR R P ops F a0 w0 i o := by
  have := stepsFrom_atR ops.toList 0 h i o (by simpa using ho)
  simpa using this
theorem wpAny_region_stepsR (HR : Later R) {a0 : Act} {w0 : World} (F : Nat → (Nat → Value) → World → Prop)
    (hok : regionOk ops a0.tmps.size = true) (hgd : guardsOk ops = true)
    (hF : ∀ i vs w w', F i vs w → R w w' → F i vs w')
    (hloc : ∀ i vs vs' w, (∀ k, (k = i ∨ rpred ops k i = true) → vs k = vs' k) → F i vs w → F i vs' w)
    (hsteps : StepsFromR R P ops F a0 w0 0 ops.toList)
    (hfin : ∀ (vs : Nat → Value) (w : World), R w0 w → (∀ i, i < ops.size → F i vs w) → Q .normal (puts ops (fun _ => true) vs ops.size a0) w) :
    wpAny P .any ops Q ops.size (Array.replicate ops.size false) a0 { w0 with drawn := w0.drawn + 1 } :=
  wpAny_region_factsR HR F hok hF hloc (fun i o ho => region_stepR F hok hgd i o ho (stepsFrom_allR hsteps i o ho)) hfin
end
/-- What is known of a value, and stays known; 'deps': the operations whose values it speaks of besides. -/
structure FactR (R : World → World → Prop) where
  holds : (Nat → Value) → Value → World → Prop
  deps : List Nat
  stays : ∀ vs v w w', holds vs v w → R w w' → holds vs v w'
  local_ : ∀ vs vs' v w, (∀ k ∈ deps, vs k = vs' k) → holds vs v w → holds vs' v w
def FactR.any {R : World → World → Prop} : FactR R := ⟨fun _ _ _ => True, [], fun _ _ _ _ _ _ => trivial, fun _ _ _ _ _ _ => trivial⟩
def FactR.is {R : World → World → Prop} (u : Value) : FactR R := ⟨fun _ v _ => v = u, [], fun _ _ _ _ h _ => h, fun _ _ _ _ _ h => h⟩
/-- Of the value alone, and the world. -/
def FactR.of {R : World → World → Prop} (H : Value → World → Prop) (h : ∀ v w w', H v w → R w w' → H v w') : FactR R := ⟨fun _ v w => H v w, [], fun _ v w w' a b => h v w w' a b, fun _ _ _ _ _ h => h⟩
def factsR {R : World → World → Prop} (L : List (FactR R)) (i : Nat) (vs : Nat → Value) (w : World) : Prop := (L.getD i FactR.any).holds vs (vs i) w
/-- Each fact speaks of what its operation waits for alone. -/
def depsOk {R : World → World → Prop} (ops : Array Oper) (L : List (FactR R)) : Bool := (List.range L.length).all fun i => (L.getD i FactR.any).deps.all fun k => rpred ops k i
theorem factsR_local {R : World → World → Prop} {ops : Array Oper} {L : List (FactR R)} (h : depsOk ops L = true) (i : Nat) (vs vs' : Nat → Value) (w : World) (hk : ∀ k, (k = i ∨ rpred ops k i = true) → vs k = vs' k) (hf : factsR L i vs w) : factsR L i vs' w := by
  unfold factsR at *
  rw [← hk i (.inl rfl)]
  refine (L.getD i FactR.any).local_ vs vs' _ w (fun k hd => hk k (.inr ?_)) hf
  by_cases hi : i < L.length
  · unfold depsOk at h
    exact List.all_eq_true.1 (List.all_eq_true.1 h i (List.mem_range.2 hi)) k hd
  · rw [List.getD_eq_getElem?_getD, List.getElem?_eq_none (by omega)] at hd
    cases hd
theorem RCtxR.holds {R : World → World → Prop} {ops : Array Oper} {L : List (FactR R)} {a0 : Act} {i : Nat} {ρ : Operand → Value} {vs : Nat → Value} {w : World} (H : RCtxR ops (factsR L) a0 i ρ vs w) (d j : Nat) (h : writer ops i d = some j) : (L.getD j FactR.any).holds vs (ρ (.tmp d)) w := by
  rw [H.new d j h]
  exact H.fact j (writer_pred h)
theorem wpAny_region_listR {R : World → World → Prop} (HR : Later R) {P : Program} {ops : Array Oper} {Q : Exit → Act → World → Prop} {a0 : Act} {w0 : World} (L : List (FactR R)) (ds : List (Option Tmp))
    (hok : regionOk ops a0.tmps.size = true) (hgd : guardsOk ops = true) (hdp : depsOk ops L = true) (hds : ops.toList.map (·.dst) = ds) (hsteps : StepsFromR R P ops (factsR L) a0 w0 0 ops.toList)
    (hfin : ∀ (vs : Nat → Value) (w : World), R w0 w → (∀ i, i < ds.length → factsR L i vs w) → Q .normal (putAll vs ds 0 a0) w) :
    wpAny P .any ops Q ops.size (Array.replicate ops.size false) a0 { w0 with drawn := w0.drawn + 1 } :=
  wpAny_region_stepsR HR (factsR L) hok hgd (fun i vs w w' h hb => (L.getD i FactR.any).stays vs _ w w' h hb) (factsR_local hdp) hsteps (fun vs w hb h => by
    subst hds
    rw [puts_all]
    exact hfin vs w hb fun i hi => h i (by simpa using hi))
/-- The use: the relation, a fact for each operation. -/
theorem wp_region_listR {R : World → World → Prop} (HR : Later R) {P : Program} {ops : Array Oper} {Q : Exit → Act → World → Prop} {id : Nat} {a0 : Act} {w0 : World} (L : List (FactR R)) (ds : List (Option Tmp)) (hm : P.follows .mixedOrders = true)
    (hok : regionOk ops a0.tmps.size = true) (hgd : guardsOk ops = true) (hdp : depsOk ops L = true) (hds : ops.toList.map (·.dst) = ds) (hsteps : StepsFromR R P ops (factsR L) a0 w0 0 ops.toList)
    (hfin : ∀ (vs : Nat → Value) (w : World), R w0 w → (∀ i, i < ds.length → factsR L i vs w) → Q .normal (putAll vs ds 0 a0) w) :
    (Code.region id ops true).wp P Q a0 w0 := wp_region_any hm (wpAny_region_listR HR L ds hok hgd hdp hds hsteps hfin)
end Go.Proofs.YtblpkmmhmdpkjaaGreatDoor

/- Rows of structs made whole (make), copied (copy), stored into at an index; a struct's block laid and stored in a region that draws. Over any program. -/











namespace Go.Proofs.YtblpkmmhmdpkjaaGreatDoor

open Go.RowKit

theorem flat_replicate {α : Type} {f : α → List Value} (n : Nat) (x : α) : (List.replicate n x).flatMap f = (List.replicate n (f x)).flatten := by
  rw [List.flatMap_def, List.map_replicate]
theorem made_cells (cs : List Value) (_hm : 0 < cs.length) (n : Nat) : (madeCells cs.toArray (n * cs.length)).toList = (List.replicate n cs).flatten := by
  induction n with
  | zero => simp [madeCells]
  | succ n ih =>
    have hs : (madeCells cs.toArray ((n + 1) * cs.length)).toList = (madeCells cs.toArray (n * cs.length)).toList ++ cs := by
      apply List.ext_getElem
      · simp [madeCells, Nat.succ_mul]
      · intro i h1 h2
        have hl : (madeCells cs.toArray (n * cs.length)).toList.length = n * cs.length := by simp [madeCells]
        have hi : i < (n + 1) * cs.length := by simpa [madeCells] using h1
        by_cases h : i < n * cs.length
        · rw [List.getElem_append_left (by rw [hl]; exact h)]
          simp [madeCells]
        · rw [List.getElem_append_right (by rw [hl]; omega)]
          simp only [hl]
          have hi2 : i - n * cs.length < cs.length := by rw [Nat.succ_mul] at hi; omega
          have hmod : i % cs.length = i - n * cs.length := by
            have e : i = (i - n * cs.length) + cs.length * n := by rw [Nat.mul_comm cs.length n]; omega
            conv => lhs; rw [e, Nat.add_mul_mod_self_left, Nat.mod_eq_of_lt hi2]
          simp [madeCells, hmod, hi2]
    rw [hs, ih, List.replicate_succ']
    simp
theorem wpList_makeW {P : Program} {w : World} {ops : Array Oper} {rest : List Oper} {o : Oper} {a : Act} {Q : Exit → Act → World → Prop} {t e : TypeId} {bytes m : Nat} {z : Value} (E : ElemW P t e bytes m z) (zc : List Value) (hzc : z.cells.toList = zc)
    (hgd : o.guard = none) (l c : Operand) (hop : o.op = Op.makeSlice t l c) (kl kc : IntKind) (L C : Int) (n : Nat) (w0 : World) (B : Nat)
    (hl : a.eval l = .int kl L) (hc : a.eval c = .int kc C) (hL : L = (n : Int)) (hC : C = (n : Int)) (hn : n ≤ 1000000000) (hby : bytes ≤ 100) (hb : Below B w0 w) (hB : B ≤ w.heap.size)
    (h : ∀ w', Row w' w.heap.size e (List.replicate n zc).flatten → Below B w0 w' → wpList P ops Q rest (a.put o.dst (.slice (some ⟨w.heap.size, 0, none⟩) n n)) w') :
    wpList P ops Q (o :: rest) a w := by
  subst hzc
  obtain ⟨i, h1, h2, h3, h4⟩ := E.info
  refine wpList_plain hgd fun K hK => ?_
  have hle : bytes * n ≤ 100 * n := Nat.mul_le_mul_right _ hby
  have hbi : (i.bytes : Int) * (n : Int) ≤ 281474976710656 := by
    rw [h4, ← Int.natCast_mul]; omega
  have hrun := run_make (P := P) w t e i z E.under h1 h2 kl kc n n (by omega) (by omega) hbi (by omega)
  subst hL
  subst hC
  unfold Oper.wp
  simp only [execOp, hop, hl, hc, hrun, Result.andThen_ok, Sem.run_bind, Sem.run_pure]
  simp only [Int.toNat_natCast, h3]
  refine hK _ _ (h _ ?_ (hb.alloc hB _))
  unfold Row
  rw [heap_alloc_new]
  congr 2
  rw [← Array.toList_inj]
  have hlen : z.cells.toList.length = m := by rw [Array.length_toList]; exact E.cells
  have hz : z.cells = z.cells.toList.toArray := by simp
  have hm := made_cells z.cells.toList (by rw [hlen]; exact E.pos) n
  rw [hlen] at hm
  rw [List.toList_toArray, ← hm]
/-- A struct stored into a row. -/
theorem wpList_storeW {P : Program} {w : World} {ops : Array Oper} {rest : List Oper} {o : Oper} {a : Act} {Q : Exit → Act → World → Prop} (hgd : o.guard = none) (t : TypeId) (x y : Operand) (ho : o.op = .store t x y)
    (g off : Nat) (t' : TypeId) (cur cs new : List Value) (hnew : cur.take off ++ cs ++ cur.drop (off + cs.length) = new) (hx : a.eval x = .pointer (some ⟨g, off, none⟩)) (hy : a.eval y = .agg cs.toArray) (hr : Row w g t' cur) (hi : (P.info? t).map (·.size) = some cs.length)
    (hfit : off + cs.length ≤ cur.length) (h1 : ∀ u ∈ cs, u.oneCell' = true) (w0 : World) (B : Nat) (hb : Below B w0 w) (hB : B ≤ g)
    (h : ∀ w', Row w' g t' new → Below B w0 w' → (∀ k ty l, k ≠ g → Row w k ty l → Row w' k ty l) → wpList P ops Q rest (a.put o.dst undef) w') : wpList P ops Q (o :: rest) a w := by
  subst hnew
  have hst := run_storeCells_at P g off t' cs 0 cur.toArray w hr (by simpa using hfit) h1
  have hrun : (storeVar t ⟨g, off, none⟩ (.agg cs.toArray)).run P w = .ok () (w.setRow g (cur.take off ++ cs ++ cur.drop (off + cs.length)).toArray) := by
    cases hq : P.info? t with
    | none => simp [hq] at hi
    | some i =>
      have hs : cs.length = i.size := by simp [hq] at hi; omega
      have hst2 : (storeCells ⟨g, off, none⟩ cs).run P w = .ok () (w.setRow g (cur.take off ++ cs ++ cur.drop (off + cs.length)).toArray) := by simpa using hst
      simp [storeVar, sizeOf, typeInfo, hq, Value.cells, hs]
      rw [← hs]
      simpa using hst2
  refine wpList_plain hgd fun K hK => ?_
  unfold Oper.wp execOp
  simp only [ho, hx, hy, Instr.storeAt, Instr.sureAddr, Sem.run_bind, Sem.run_pure, Result.andThen_ok, hrun]
  refine hK _ _ (h _ (setRow_heap w g cur.toArray _ t' (0, 0) hr) (below_setRow hb hB _) ?_)
  intro k ty l hk hrk
  exact (setRow_other w g k _ hk).trans hrk
section

variable {P : Program} {o : Oper} {ρ : Operand → Value} {w : World} {R : Value → World → Prop}
/-- A variable of a struct's type laid. -/
theorem gives_alloc {t : TypeId} {z : Value} {i : TypeInfo} (hi : P.info? t = some i) (hz : i.zero = some z) (ho : o.op = .alloc t) (hR : R (.pointer (some ⟨w.heap.size, 0, none⟩)) (w.alloc (.cells z.cells t))) : Gives P o ρ w R := by
  refine gives_of (v := .pointer (some ⟨w.heap.size, 0, none⟩)) (w' := w.alloc (.cells z.cells t)) ?_ hR
  have hz2 : (zeroValue t).run P w = .ok z w := by simp [zeroValue, typeInfo, hi, hz]
  unfold execOp
  simp only [ho, Instr.alloc, newVar, newRow, Sem.run_bind, Sem.run_pure, hz2, Result.andThen_ok, run_newObj]
  rfl
/-- The whole of a struct stored. -/
theorem gives_store_row {t t' : TypeId} {x y : Operand} {g : Nat} {old cs : List Value} (ho : o.op = .store t x y) (hx : ρ x = .pointer (some ⟨g, 0, none⟩)) (hy : ρ y = .agg cs.toArray) (hr : Row w g t' old)
    (hi : (P.info? t).map (·.size) = some cs.length) (hl : old.length = cs.length) (h1 : ∀ u ∈ cs, u.oneCell' = true) (hR : R undef (w.setRow g cs.toArray)) : Gives P o ρ w R := by
  have hrun := run_storeVar_row (P := P) w g t' t old.toArray cs.toArray hr (by simpa using hi) (by simp [hl]) (by simpa using h1)
  have h : (execOp ρ o).run P w = .ok .skip (w.setRow g cs.toArray) := by
    unfold execOp
    simp only [ho, hx, hy, Instr.storeAt, Instr.sureAddr, Sem.run_bind, Sem.run_pure, Result.andThen_ok, hrun]
  unfold Gives
  rw [h]
  exact hR
end
theorem rowAll_set {w : World} {g : Nat} {t : TypeId} {old cs : List Value} (h : Row w g t old) : Row (w.setRow g cs.toArray) g t cs := setRow_heap w g old.toArray cs.toArray t (0, 0) h
theorem rowAll_far {w : World} {g k : Nat} {t : TypeId} {l : List Value} {cs : Array Value} (hk : k ≠ g) (h : Row w k t l) : Row (w.setRow g cs) k t l := (setRow_other w g k cs hk).trans h
/-- A row made later lasts where block g alone changes. -/
theorem own_past {w w' : World} {base s n g : Nat} {e : TypeId} {v : Value} {xs : List Value} (h : w.ownsRow base e s v n xs) (hg : w.grownBy w' (some g)) (hlt : g < base) : w'.ownsRow base e s v n xs := by
  refine h.kept hg ?_
  rcases h.2 with ⟨rfl, _⟩ | ⟨g2, cap2, cur2, rfl, hge, _⟩
  · exact .inl rfl
  · refine .inr ?_
    simp only [Value.ownBlock, ne_eq, Option.some.injEq]
    omega
theorem grown_set (w : World) (g i : Nat) (v : Value) : w.grownBy (w.setCell ⟨g, i, none⟩ v) (some g) :=
  ⟨rfl, rfl, rfl, by rw [World.size_setCell]; exact Nat.le_refl _, fun k _ hne => Below.heap_setCell w _ v k (fun h => hne (by rw [h]))⟩
theorem isR_row {α : Type} {f : α → List Value} {l : List α} {w : World} {g : Nat} {t : TypeId} {m : Nat} (h : Row w g t (l.flatMap f)) (hl : l.length = m) (hm : m ≤ 1000000) : IsR f l (.slice (some ⟨g, 0, none⟩) m m) w := by
  refine ⟨some ⟨g, 0, none⟩, m, by rw [hl], fun h => by (cases h), by omega, by unfold maxLen; omega, ?_⟩
  have := h.lies 0
  rwa [List.drop_zero] at this
theorem flat_drop {α : Type} {f : α → List Value} {m : Nat} (hf : ∀ x, (f x).length = m) : ∀ (l : List α) (k : Nat), (l.drop k).flatMap f = (l.flatMap f).drop (k * m)
  | [], k => by simp
  | x :: l, 0 => by simp
  | x :: l, k + 1 => by
    rw [List.drop_succ_cons, List.flatMap_cons, flat_drop hf l k, Nat.succ_mul, List.drop_append, hf, show k * m + m - m = k * m by omega, List.drop_of_length_le (l := f x) (by rw [hf]; omega), List.nil_append]
theorem ElemW.size_ {P : Program} {t e : TypeId} {bytes m : Nat} {z : Value} (E : ElemW P t e bytes m z) (w : World) : (sizeOf e).run P w = .ok m w := by
  obtain ⟨i, h1, _, h3, _⟩ := E.info
  simp [sizeOf, typeInfo, h1, h3]
/-- x[k:] of a slice of structs, as one equation. -/
theorem fromR_named {P : Program} {α : Type} {f : α → List Value} {w : World} {t e : TypeId} {bytes m : Nat} {z : Value} (E : ElemW P t e bytes m z) (hf : ∀ x, (f x).length = m) {A : Option Addr} {n c k : Nat} {l : List α} (hk : k ≤ n) (hI : IsR f l (.slice A n c) w) :
    ∃ v, (∀ W, (Instr.sliceAt t (.slice A n c) (some (.int .i64 (k : Int))) none none).run P W = .ok v W) ∧ IsR f (l.drop k) v w := by
  obtain ⟨hxs, hA, hnc, hcm, hl⟩ := hI.parts
  have ht := E.under
  have he : P.elem t = e := by simp [Program.elem, ht]
  refine ⟨.slice (if c = k then A else A.map (·.add (k * m))) (n - k) (c - k), fun W => ?_, if c = k then A else A.map (·.add (k * m)), c - k, ?_, ?_, ?_, by omega, ?_⟩
  · rw [run_sliceAt_slice W t _ _ _ _ (by rw [he]; exact ht), run_slice_l W t A n c (by rw [he]; exact ht) .i64 (k : Int) (by omega) (by omega), he, E.size_]
    simp [sliced]
  · rw [List.length_drop, hxs]
  · intro hB
    have : A = none := by
      split at hB
      · exact hB
      · cases A with
        | none => rfl
        | some ad => simp at hB
    have := hA this
    rw [List.length_drop, hxs]
    omega
  · rw [List.length_drop, hxs]; omega
  · rw [flat_drop hf]
    have hp := E.pos
    have h1 := hl.drop (k := k * m) (cap := c * m) (by rw [flat_len hf, hxs]; exact Nat.mul_le_mul_right _ hnc)
    by_cases hc : c = k
    · subst hc; simpa using h1
    · rw [if_neg (fun h => hc (Nat.eq_of_mul_eq_mul_right hp h))] at h1
      rw [if_neg hc]; exact h1
/-- Old memory as it was; whatever block holds just these cells holds them on, and a block of their type stays one: for a region that lays a block and stores them. -/
def Keep (B : Nat) (T : TypeId) (cs : List Value) (w w' : World) : Prop := Below B w w' ∧ (∀ h, Row w h T cs → Row w' h T cs) ∧ (∀ h old, Row w h T old → old.length = cs.length → ∃ old', old'.length = cs.length ∧ Row w' h T old')
theorem keep_later (B : Nat) (T : TypeId) (cs : List Value) : Later (Keep B T cs) where
  refl := fun _ => ⟨Below.refl _ _, fun _ h => h, fun _ old h hl => ⟨old, hl, h⟩⟩
  trans := fun h1 h2 => ⟨h1.1.trans h2.1, fun k h => h2.2.1 k (h1.2.1 k h), fun k old h hl => (h1.2.2 k old h hl).elim fun o h => h2.2.2 k o h.2 h.1⟩
  draw := fun _ => ⟨⟨rfl, rfl, rfl, Nat.le_refl _, fun _ _ => rfl⟩, fun _ h => h, fun _ old h hl => ⟨old, hl, h⟩⟩
theorem Keep.of {B : Nat} {T : TypeId} {cs : List Value} {w w' : World} (hB : B ≤ w.heap.size) (h : Below w.heap.size w w') : Keep B T cs w w' :=
  ⟨h.mono hB, fun _ hr => hr.below h hr.lt, fun _ old hr hl => ⟨old, hl, hr.below h hr.lt⟩⟩
theorem Keep.self {B : Nat} {T : TypeId} {cs : List Value} (w : World) : Keep B T cs w w := (keep_later B T cs).refl w
theorem Keep.alloc {B : Nat} {T : TypeId} {cs : List Value} {w : World} (hB : B ≤ w.heap.size) (o : Obj) : Keep B T cs w (w.alloc o) := Keep.of hB ((Below.refl _ _).alloc (Nat.le_refl _) _)
theorem Keep.store {B : Nat} {T : TypeId} {cs old : List Value} {w : World} {g : Nat} (hB : B ≤ g) (hr : Row w g T old) : Keep B T cs w (w.setRow g cs.toArray) :=
  ⟨below_setRow (Below.refl _ _) hB _, fun k h => if hk : k = g then by subst hk; exact rowAll_set hr else rowAll_far hk h,
    fun k o h hl => if hk : k = g then by subst hk; exact ⟨cs, rfl, rowAll_set hr⟩ else ⟨o, hl, rowAll_far hk h⟩⟩
/-- The pointer to a variable that such a region lays. -/
def FactR.laid (B : Nat) (T : TypeId) (cs : List Value) : FactR (Keep B T cs) := FactR.of (fun v w => ∃ h old, v = .pointer (some ⟨h, 0, none⟩) ∧ B ≤ h ∧ old.length = cs.length ∧ Row w h T old)
  fun _ _ _ ⟨h, old, h1, h2, h3, h4⟩ hk => (hk.2.2 h old h4 h3).elim fun o ho => ⟨h, o, h1, h2, ho.1, ho.2⟩
/-- Operation p's pointer has what it is to have. -/
def FactR.stored (B : Nat) (T : TypeId) (cs : List Value) (p : Nat) : FactR (Keep B T cs) := ⟨fun vs _ w => ∃ h, vs p = .pointer (some ⟨h, 0, none⟩) ∧ B ≤ h ∧ Row w h T cs, [p],
  fun _ _ _ _ ⟨h, h1, h2, h3⟩ hk => ⟨h, h1, h2, hk.2.1 h h3⟩, fun _ _ _ _ hp ⟨h, h1, h2, h3⟩ => ⟨h, by rw [← hp p (by simp)]; exact h1, h2, h3⟩⟩
end Go.Proofs.YtblpkmmhmdpkjaaGreatDoor

/- Numbers that rise, or fall (layer 9), as plain mathematics. -/





namespace Go.Proofs.YtblpkmmhmdpkjaaGreatDoor

/-- By how much, whether it falls, whether that is a difference. -/
def gdiff (a b : Int) : Nat × Bool × Bool :=
  if b < a then (if 9223372036854775808 ≤ a - b then (0, false, false) else ((a - b).toNat, true, true))
  else if 9223372036854775808 ≤ b - a then (0, false, false) else ((b - a).toNat, false, true)
def gstep (a : Int) (u : Nat) (f : Bool) : Int × Bool :=
  if 9223372036854775808 ≤ (u : Int) then (0, false)
  else if f = true then (if a < -9223372036854775808 + (u : Int) then (0, false) else (a - u, true))
  else if 9223372036854775807 - (u : Int) < a then (0, false) else (a + u, true)
theorem gdiff_cases (a b : Int) : (gdiff a b = (0, false, false) ∧ (9223372036854775808 ≤ a - b ∨ 9223372036854775808 ≤ b - a)) ∨
    (b < a ∧ a - b < 9223372036854775808 ∧ gdiff a b = ((a - b).toNat, true, true)) ∨ (a ≤ b ∧ b - a < 9223372036854775808 ∧ gdiff a b = ((b - a).toNat, false, true)) := by
  unfold gdiff
  by_cases h : b < a
  · rw [if_pos h]
    by_cases h2 : 9223372036854775808 ≤ a - b
    · rw [if_pos h2]; exact .inl ⟨rfl, .inl h2⟩
    · rw [if_neg h2]; exact .inr (.inl ⟨h, by omega, rfl⟩)
  · rw [if_neg h]
    by_cases h2 : 9223372036854775808 ≤ b - a
    · rw [if_pos h2]; exact .inl ⟨rfl, .inr h2⟩
    · rw [if_neg h2]; exact .inr (.inr ⟨by omega, by omega, rfl⟩)
theorem gdiff_lt (a b : Int) : ((gdiff a b).1 : Int) < 9223372036854775808 := by
  rcases gdiff_cases a b with ⟨h, _⟩ | ⟨h1, h2, h⟩ | ⟨h1, h2, h⟩ <;> rw [h] <;> dsimp only <;> omega
/-- P9.1: a difference leads from the one to the other. -/
theorem gstep_gdiff {a b : Int} (hb : inInt b) (h : (gdiff a b).2.2 = true) : gstep a (gdiff a b).1 (gdiff a b).2.1 = (b, true) := by
  unfold inInt at hb
  rcases gdiff_cases a b with ⟨h3, _⟩ | ⟨h1, h2, h3⟩ | ⟨h1, h2, h3⟩
  · rw [h3] at h; cases h
  · rw [h3]
    dsimp only
    unfold gstep
    have e : (((a - b).toNat : Nat) : Int) = a - b := by omega
    rw [e, if_neg (by omega), if_pos rfl, if_neg (by omega)]
    congr 1
    omega
  · rw [h3]
    dsimp only
    unfold gstep
    have e : (((b - a).toNat : Nat) : Int) = b - a := by omega
    rw [e, if_neg (by omega), if_neg (by decide), if_neg (by omega)]
    congr 1
    omega
theorem gdiff_self (a : Int) : gdiff a a = (0, false, true) := by unfold gdiff; rw [if_neg (by omega), if_neg (by omega)]; simp
/-- A size, of two numbers one behind the other, if they fall, or rise, as is said. -/
def gone (f : Bool) (a b : Int) : Option Nat := if (gdiff a b).2.2 = true ∧ ((gdiff a b).1 = 0 ∨ (gdiff a b).2.1 = f) then some (gdiff a b).1 else none
theorem gone_yes {f : Bool} {a b : Int} (h : (gdiff a b).2.2 = true) (h2 : (gdiff a b).1 = 0 ∨ (gdiff a b).2.1 = f) : gone f a b = some (gdiff a b).1 := if_pos ⟨h, h2⟩
theorem gone_not {f : Bool} {a b : Int} (h : ¬ ((gdiff a b).2.2 = true ∧ ((gdiff a b).1 = 0 ∨ (gdiff a b).2.1 = f))) : gone f a b = none := if_neg h
theorem gone_lt {f : Bool} {a b : Int} {u : Nat} (h : gone f a b = some u) : (u : Int) < 9223372036854775808 := by
  unfold gone at h
  split at h
  · injection h with h; rw [← h]; exact gdiff_lt a b
  · cases h
theorem gone_step {f : Bool} {a b : Int} {u : Nat} (ha : inInt a) (hb : inInt b) (h : gone f a b = some u) : gstep a u f = (b, true) := by
  unfold gone at h
  split at h
  · rename_i hh
    injection h with h
    subst h
    have hs := gstep_gdiff hb hh.1
    rcases hh.2 with h0 | h0
    · rcases gdiff_cases a b with ⟨k, _⟩ | ⟨k1, k2, k⟩ | ⟨k1, k2, k⟩
      · rw [k] at hh; cases hh.1
      · rw [k] at h0; dsimp only at h0; omega
      · rw [k] at h0
        dsimp only at h0
        have e : a = b := by omega
        subst e
        rw [gdiff_self]
        unfold inInt at ha
        unfold gstep
        rw [if_neg (by decide)]
        dsimp only
        cases f
        · rw [if_neg (by decide), if_neg (by omega)]; simp
        · rw [if_pos rfl, if_neg (by omega)]; simp
    · rw [h0] at hs; exact hs
  · cases h
def gat (l : List Int) (f : Bool) (i : Nat) : Option Nat := gone f (l.getD i 0) (l.getD (i + 1) 0)
/-- The sizes of numbers. -/
def gsizes (l : List Int) (f : Bool) (k : Nat) : Option (List Nat) := omap (gat l f) (List.range k)
theorem gsizes_succ {l : List Int} {f : Bool} {k : Nat} {us : List Nat} {u : Nat} (h : gsizes l f k = some us) (hu : gat l f k = some u) : gsizes l f (k + 1) = some (us ++ [u]) := by
  unfold gsizes at *
  rw [List.range_succ, omap_snoc, h, hu]
theorem gsizes_none {l : List Int} {f : Bool} {k n : Nat} (hk : k < n) (h : gat l f k = none) : gsizes l f n = none := omap_none (List.mem_range.2 hk) h
theorem gsizes_len {l : List Int} {f : Bool} {k : Nat} {us : List Nat} (h : gsizes l f k = some us) : us.length = k := by rw [omap_len h, List.length_range]
theorem gsizes_lt {l : List Int} {f : Bool} {k : Nat} {us : List Nat} (h : gsizes l f k = some us) : ∀ u ∈ us, (u : Int) < 9223372036854775808 := by
  intro u hu
  obtain ⟨i, _, hi⟩ := omap_mem h hu
  exact gone_lt hi
theorem gsizes_64 {l : List Int} {f : Bool} {k : Nat} {us : List Nat} (h : gsizes l f k = some us) : ∀ u ∈ us, u < 2 ^ 64 := by
  intro u hu
  have := gsizes_lt h u hu
  show u < 18446744073709551616
  omega
def gfalls (l : List Int) : Bool := decide (l.getD 1 0 < l.getD 0 0)
/-- Are all sizes the same? -/
def gall (us : List Nat) : Bool := us.all fun u => u == us.headD 0
def gwide (us : List Nat) : Nat := (wclosest (max 2 (wmost us) : Nat)).toNat
def gcode (us : List Nat) : Nat := (wcode (gwide us : Int)).toNat
/-- A code and a width that stand for one another, for so many bits. -/
theorem gwide_code : ∀ n : Fin 65, 2 ≤ n.val → 2 ≤ wclosest (n.val : Int) ∧ wclosest (n.val : Int) ≤ 64 ∧ 1 ≤ wcode (wclosest (n.val : Int)) ∧ wcode (wclosest (n.val : Int)) ≤ 31 ∧ wof (wcode (wclosest (n.val : Int))) = wclosest (n.val : Int) ∧ (n.val : Int) ≤ wclosest (n.val : Int) := by decide +kernel
theorem gwide_int {us : List Nat} (h : ∀ u ∈ us, u < 2 ^ 64) : wclosest ((max 2 (wmost us) : Nat) : Int) = (gwide us : Int) ∧ wcode (gwide us : Int) = (gcode us : Int) ∧ wof (gcode us : Int) = (gwide us : Int) ∧ 2 ≤ gwide us ∧ gwide us ≤ 64 ∧ 1 ≤ gcode us ∧ gcode us ≤ 31 ∧ wmost us ≤ gwide us := by
  have hm := wmost_64 h
  have h1 := gwide_code ⟨max 2 (wmost us), by omega⟩ (Nat.le_max_left _ _)
  dsimp only at h1
  have e1 : wclosest ((max 2 (wmost us) : Nat) : Int) = (gwide us : Int) := by unfold gwide; omega
  rw [e1] at h1
  have e2 : wcode (gwide us : Int) = (gcode us : Int) := by unfold gcode; omega
  rw [e2] at h1
  exact ⟨e1, e2, h1.2.2.2.2.1, by omega, by omega, by omega, by omega, by omega⟩
theorem gwide_room {us : List Nat} (h : ∀ u ∈ us, u < 2 ^ 64) : ∀ u ∈ us, u < 2 ^ gwide us := by
  obtain ⟨_, _, _, _, h1, _, _, h2⟩ := gwide_int h
  intro u hu
  have h3 := (wbits_iff (wtop_lt h) h1).1 (by rw [wtop_bits h]; exact h2)
  exact Nat.lt_of_le_of_lt (wtop_mem hu) h3
/-- The first difference, as a number with its sign. -/
def gfirst (l : List Int) (us : List Nat) : Int := if gfalls l = true then -(us.headD 0 : Int) else (us.headD 0 : Int)
def gtail (us : List Nat) : List UInt8 := if gall us = true then [] else bpack us.tail (gwide us.tail)
def gnum (us : List Nat) : Nat := if gall us = true then 0 else gcode us.tail
def glay (l : List Int) (s : Bool) (us : List Nat) : List UInt8 := dheadN 3 (gnum us) l.length ++ vput (vint (l.headD 0) s) ++ vput (vint (gfirst l us) true) ++ gtail us
/-- What Put answers. -/
def gputE (l : List Int) (s : Bool) : List UInt8 × Int :=
  if dplain l s = none ∨ l.length < 2 ∨ 512 < l.length then ([], 1)
  else match gsizes l (gfalls l) (l.length - 1) with | none => ([], 1) | some us => (glay l s us, 0)
theorem gputE_no {l : List Int} {s : Bool} (h : dplain l s = none ∨ l.length < 2 ∨ 512 < l.length) : gputE l s = ([], 1) := if_pos h
theorem gputE_none {l : List Int} {s : Bool} (h : gsizes l (gfalls l) (l.length - 1) = none) : gputE l s = ([], 1) := by unfold gputE; split <;> simp [h]
theorem gputE_some {l : List Int} {s : Bool} {us : List Nat} (h1 : dplain l s ≠ none) (h2 : 2 ≤ l.length) (h3 : l.length ≤ 512) (h : gsizes l (gfalls l) (l.length - 1) = some us) : gputE l s = (glay l s us, 0) := by
  unfold gputE
  rw [if_neg (by rintro (h | h | h) <;> first | exact h1 h | omega), h]
/-- The next number. -/
def gnext (s f : Bool) (x : Int) (u : Nat) : Option Int := if (gstep x u f).2 = true ∧ (s = true ∨ 0 ≤ (gstep x u f).1) then some (gstep x u f).1 else none
def gwalk (s f : Bool) : Int → List Nat → Option (List Int)
  | _, [] => some []
  | x, u :: us => match gnext s f x u with | none => none | some y => (gwalk s f y us).map (y :: ·)
def glast : Int → List Int → Int
  | x, [] => x
  | _, y :: ys => glast y ys
theorem glast_snoc (x : Int) (ys : List Int) (y : Int) : glast x (ys ++ [y]) = y := by
  induction ys generalizing x with
  | nil => rfl
  | cons z zs ih => exact ih z
theorem gwalk_snoc (s f : Bool) (x : Int) (us : List Nat) (u : Nat) : gwalk s f x (us ++ [u]) = match gwalk s f x us with | none => none | some ys => match gnext s f (glast x ys) u with | none => none | some y => some (ys ++ [y]) := by
  induction us generalizing x with
  | nil =>
    simp only [List.nil_append, gwalk, glast]
    cases gnext s f x u <;> rfl
  | cons v us ih =>
    simp only [List.cons_append, gwalk]
    cases gnext s f x v with
    | none => rfl
    | some y =>
      dsimp only
      rw [ih]
      cases gwalk s f y us with
      | none => rfl
      | some ys =>
        simp only [Option.map_some, glast]
        cases gnext s f (glast y ys) u <;> rfl
/-- What Take answers. -/
def gbad : List Int × List UInt8 × Int := ([], [], 2)
def gend (s f : Bool) (x : Int) (us : List Nat) (q : List UInt8) : List Int × List UInt8 × Int := match gwalk s f x us with | none => gbad | some ys => (x :: ys, q, 0)
def gmore (s f : Bool) (x : Int) (u : Nat) (c m : Int) (r : List UInt8) : List Int × List UInt8 × Int :=
  if 0 < c then match unpacksAny r (m - 2) (wof c) with | (us, q, e) => if e ≠ 0 then gbad else gend s f x (u :: us) q
  else gend s f x (List.replicate (m - 1).toNat u) r
def gbody (s : Bool) (c m : Int) (r : List UInt8) : List Int × List UInt8 × Int :=
  match vtint r s with
  | none => gbad
  | some (x, r1) => match vtint r1 true with
    | none => gbad
    | some (d, r2) => if (gdiff 0 d).2.2 = true then gmore s (gdiff 0 d).2.1 x (gdiff 0 d).1 c m r2 else gbad
def gtakeE (l : List UInt8) (s : Bool) : List Int × List UInt8 × Int :=
  if (dlook l).2.2.2.2 ≠ 0 ∨ (dlook l).1 ≠ 3 ∨ (dlook l).2.2.1 < 2 then gbad else gbody s (dlook l).2.1 (dlook l).2.2.1 (dlook l).2.2.2.1

theorem vtint_put {x : Int} {s : Bool} (hx : inInt x) (h : s = true ∨ 0 ≤ x) (r : List UInt8) : vtint (vput (vint x s) ++ r) s = some (x, r) := by
  unfold inInt at hx
  cases s with
  | true =>
    have hb := vzig_bd hx.1 hx.2
    have e : vint x true = (vzig x).toNat := rfl
    rw [e, vtint_true (vtake_put (by omega) r), Int.toNat_of_nonneg hb.1, vzag_vzig]
  | false =>
    have h0 : 0 ≤ x := h.elim (fun h => nomatch h) id
    have e : vint x false = (x % 18446744073709551616).toNat := rfl
    have e2 : x % 18446744073709551616 = x := by omega
    rw [e, e2, vtint_small (vtake_put (by omega) r) (by omega), Int.toNat_of_nonneg h0]
theorem gnext_of {s f : Bool} {a b : Int} {u : Nat} (ha : inInt a) (hb : inInt b) (hs : s = true ∨ 0 ≤ b) (h : gone f a b = some u) : gnext s f a u = some b := by
  unfold gnext
  rw [gone_step ha hb h]
  exact if_pos ⟨rfl, hs⟩
/-- Sizes lead from each number to the next one. -/
theorem gwalk_sizes {s f : Bool} {l : List Int} (hl : ∀ x ∈ l, inInt x ∧ (s = true ∨ 0 ≤ x)) : ∀ (k : Nat) (us : List Nat), k + 1 ≤ l.length → gsizes l f k = some us → gwalk s f (l.getD 0 0) us = some ((l.drop 1).take k) ∧ glast (l.getD 0 0) ((l.drop 1).take k) = l.getD k 0
  | 0, us, _, h => by simp [gsizes, omap] at h; subst h; simp [gwalk, glast]
  | k + 1, us, hk, h => by
    unfold gsizes at h
    rw [List.range_succ, omap_snoc] at h
    cases hg : omap (gat l f) (List.range k) with
    | none => rw [hg] at h; cases h
    | some vs =>
      rw [hg] at h
      dsimp only at h
      cases hu : gat l f k with
      | none => rw [hu] at h; cases h
      | some u =>
        rw [hu] at h
        injection h with h
        subst h
        obtain ⟨h1, h2⟩ := gwalk_sizes hl k vs (by omega) hg
        have hd : (l.drop 1).take (k + 1) = (l.drop 1).take k ++ [l.getD (k + 1) 0] := by
          rw [List.take_succ_eq_append_getElem (by rw [List.length_drop]; omega), List.getElem_drop]
          congr 2
          rw [List.getD_eq_getElem?_getD, List.getElem?_eq_getElem (show k + 1 < l.length by omega)]
          simp [Nat.add_comm]
        have hm : ∀ i, i < l.length → inInt (l.getD i 0) ∧ (s = true ∨ 0 ≤ l.getD i 0) := by
          intro i hi
          rw [List.getD_eq_getElem?_getD, List.getElem?_eq_getElem hi]
          exact hl _ (List.getElem_mem hi)
        refine ⟨?_, by rw [hd, glast_snoc]⟩
        rw [gwalk_snoc, h1, hd]
        dsimp only
        rw [h2, gnext_of (hm k (by omega)).1 (hm (k + 1) (by omega)).1 (hm (k + 1) (by omega)).2 hu]
theorem gall_same {us : List Nat} (h : gall us = true) : us = List.replicate us.length (us.headD 0) := by
  unfold gall at h
  rw [List.eq_replicate_iff]
  refine ⟨rfl, fun u hu => ?_⟩
  have := List.all_eq_true.1 h u hu
  simpa using this
/-- What the first size says: how much, and whether it falls. -/
theorem gfirst_diff {l : List Int} {us : List Nat} (h2 : 2 ≤ l.length) (h : gsizes l (gfalls l) (l.length - 1) = some us) : gdiff 0 (gfirst l us) = (us.headD 0, gfalls l, true) ∧ inInt (gfirst l us) := by
  obtain ⟨k, hk⟩ : ∃ k, l.length - 1 = k + 1 := ⟨l.length - 2, by omega⟩
  have h0 : gat l (gfalls l) 0 = some (us.headD 0) := by
    unfold gsizes at h
    rw [hk, List.range_succ_eq_map, omap] at h
    cases hz : gat l (gfalls l) 0 with
    | none => rw [hz] at h; cases h
    | some u =>
      rw [hz] at h
      dsimp only at h
      cases hr : omap (gat l (gfalls l)) ((List.range k).map Nat.succ) with
      | none => rw [hr] at h; cases h
      | some vs => rw [hr] at h; injection h with h; subst h; rfl
  have hlt := gone_lt h0
  have hf : gfalls l = true → 0 < us.headD 0 := by
    intro hf
    have hba : l.getD 1 0 < l.getD 0 0 := of_decide_eq_true hf
    unfold gat gone at h0
    split at h0
    · injection h0 with h0
      rename_i hh
      rcases gdiff_cases (l.getD 0 0) (l.getD (0 + 1) 0) with ⟨k, _⟩ | ⟨k1, k2, k⟩ | ⟨k1, k2, k⟩
      · rw [k] at hh; cases hh.1
      · rw [k] at h0; dsimp only at h0; omega
      · rw [Nat.zero_add] at k1; omega
    · cases h0
  unfold gfirst inInt
  generalize us.headD 0 = u at *
  cases hg : gfalls l with
  | true =>
    have := hf hg
    rw [if_pos rfl]
    refine ⟨?_, by omega, by omega⟩
    unfold gdiff
    rw [if_pos (by omega), if_neg (by omega)]
    congr 1
    omega
  | false =>
    rw [if_neg (by decide)]
    refine ⟨?_, by omega, by omega⟩
    unfold gdiff
    rw [if_neg (by omega), if_neg (by omega)]
    congr 1
/-- P9.4. -/
theorem gtake_back {l : List Int} {s : Bool} {us : List Nat} (hl : ∀ x ∈ l, inInt x ∧ (s = true ∨ 0 ≤ x)) (h2 : 2 ≤ l.length) (h5 : l.length ≤ 512) (h : gsizes l (gfalls l) (l.length - 1) = some us) (b : List UInt8) :
    gtakeE (glay l s us ++ b) s = (l, b, 0) := by
  obtain ⟨hd, hi⟩ := gfirst_diff h2 h
  have hul := gsizes_len h
  have h64 := gsizes_64 h
  have h64t : ∀ u ∈ us.tail, u < 2 ^ 64 := fun u hu => h64 u (List.mem_of_mem_tail hu)
  obtain ⟨hw, _⟩ := gwalk_sizes hl (l.length - 1) us (by omega) h
  obtain ⟨x0, l', rfl⟩ : ∃ x0 l', l = x0 :: l' := by cases l with | nil => simp at h2 | cons x0 l' => exact ⟨x0, l', rfl⟩
  have hw' : gwalk s (gfalls (x0 :: l')) x0 us = some l' := by
    rw [List.length_cons, Nat.add_sub_cancel] at hw
    simpa using hw
  have hx := hl x0 List.mem_cons_self
  have hcode : gnum us ≤ 31 := by
    unfold gnum
    split
    · omega
    · exact (gwide_int h64t).2.2.2.2.2.2.1
  have hlook : dlook (glay (x0 :: l') s us ++ b) = (3, (gnum us : Int), ((x0 :: l').length : Int), vput (vint x0 s) ++ (vput (vint (gfirst (x0 :: l') us) true) ++ (gtail us ++ b)), 0) := by
    unfold glay
    simp only [List.append_assoc]
    exact dlook_head (k := 3) (by omega) hcode (by omega) h5 _
  unfold gtakeE
  rw [hlook]
  dsimp only
  rw [if_neg (by omega)]
  unfold gbody
  rw [vtint_put hx.1 hx.2]
  dsimp only
  rw [vtint_put hi (.inl rfl)]
  dsimp only
  rw [hd]
  dsimp only
  rw [if_pos rfl]
  unfold gmore
  by_cases ha : gall us = true
  · have e1 : gnum us = 0 := by unfold gnum; rw [if_pos ha]
    have e2 : gtail us = [] := by unfold gtail; rw [if_pos ha]
    have e3 : List.replicate (((x0 :: l').length : Int) - 1).toNat (us.headD 0) = us := by
      rw [show (((x0 :: l').length : Int) - 1).toNat = us.length by omega]
      exact (gall_same ha).symm
    rw [e1, e2, if_neg (by omega), e3]
    unfold gend
    rw [hw']
    rfl
  · have e1 : gnum us = gcode us.tail := by unfold gnum; rw [if_neg ha]
    have e2 : gtail us = bpack us.tail (gwide us.tail) := by unfold gtail; rw [if_neg ha]
    obtain ⟨_, _, g3, g4, g5, g6, g7, _⟩ := gwide_int h64t
    have hut : (us.tail).length = (x0 :: l').length - 2 := by rw [List.length_tail]; omega
    have e4 : ((x0 :: l').length : Int) - 2 = ((us.tail).length : Int) := by omega
    have e5 : us = us.headD 0 :: us.tail := by cases us with | nil => simp at hul h2; omega | cons a t => rfl
    rw [e1, e2, if_pos (by omega), g3, e4, unpacksAny_in _ _ _ (by omega) g5, unpacks_back (gwide_room h64t)]
    dsimp only
    rw [if_neg (by decide), ← e5]
    unfold gend
    rw [hw']
end Go.Proofs.YtblpkmmhmdpkjaaGreatDoor

/- Contracts of layer 9's reference: Diff, Step. -/





namespace Go.Proofs.YtblpkmmhmdpkjaaGreatDoor

open Go.RowKit

theorem wrap_sub {a b d : Int} (h : d = a - b) (h0 : 0 ≤ d) (h1 : d < 18446744073709551616) : IntKind.u64.wrap (IntKind.u64.wrap a - IntKind.u64.wrap b) = d := by
  rw [IntKind.wrap_u64, IntKind.wrap_u64, IntKind.wrap_u64]; omega
/-- What Diff answers. -/
def RetD (p : Nat × Bool × Bool) (e : Ending) : Prop := e = .returned (.tuple #[.int .u64 (p.1 : Int), .bool p.2.1, .bool p.2.2])
theorem rdiff9_any (a b : Int) (w : World) (ha : inInt a) (hb : inInt b) : Calls Tryz.prog 79 #[.int .i64 a, .int .i64 b] w fun e w' => RetD (gdiff a b) e ∧ w = w' := by
  unfold inInt at ha hb
  by_cases h : b < a
  · obtain ⟨d, hd⟩ : ∃ d, d = a - b := ⟨_, rfl⟩
    have hw := wrap_sub hd (by omega) (by omega)
    by_cases h2 : 9223372036854775808 ≤ d
    · have hE : Hid (gdiff a b = (0, false, false)) := Lib.hid (by unfold gdiff; rw [if_pos h, if_pos (by omega)])
      have d1 : decide (b < a) = true := decide_eq_true h
      have d2 : decide ((9223372036854775808 : Int) ≤ d) = true := decide_eq_true h2
      clear hd ha hb
      go_enter Tryz.func79, Tryz.ntmps79
      go_wp2
      refine bodyPost_ret (results_tmp3 rfl _ _ _) rfl ?_
      rw [hE.out]
      exact ⟨rfl, rfl⟩
    · have hE : Hid (gdiff a b = (d.toNat, true, true)) := Lib.hid (by unfold gdiff; rw [if_pos h, if_neg (by omega), hd])
      have d1 : decide (b < a) = true := decide_eq_true h
      have d2 : decide ((9223372036854775808 : Int) ≤ d) = false := decide_eq_false h2
      have HD := Lib.hid (show ((d.toNat : Nat) : Int) = d by omega)
      clear hd ha hb
      go_enter Tryz.func79, Tryz.ntmps79
      go_wp2
      refine bodyPost_ret (results_tmp3 rfl _ _ _) rfl ?_
      rw [hE.out]
      unfold RetD
      dsimp only
      rw [HD.out]
      exact ⟨rfl, rfl⟩
  · obtain ⟨d, hd⟩ : ∃ d, d = b - a := ⟨_, rfl⟩
    have hw := wrap_sub hd (by omega) (by omega)
    by_cases h2 : 9223372036854775808 ≤ d
    · have hE : Hid (gdiff a b = (0, false, false)) := Lib.hid (by unfold gdiff; rw [if_neg h, if_pos (by omega)])
      have d1 : decide (b < a) = false := decide_eq_false h
      have d2 : decide ((9223372036854775808 : Int) ≤ d) = true := decide_eq_true h2
      clear hd ha hb
      go_enter Tryz.func79, Tryz.ntmps79
      go_wp2
      refine bodyPost_ret (results_tmp3 rfl _ _ _) rfl ?_
      rw [hE.out]
      exact ⟨rfl, rfl⟩
    · have hE : Hid (gdiff a b = (d.toNat, false, true)) := Lib.hid (by unfold gdiff; rw [if_neg h, if_neg (by omega), hd])
      have d1 : decide (b < a) = false := decide_eq_false h
      have d2 : decide ((9223372036854775808 : Int) ≤ d) = false := decide_eq_false h2
      have HD := Lib.hid (show ((d.toNat : Nat) : Int) = d by omega)
      clear hd ha hb
      go_enter Tryz.func79, Tryz.ntmps79
      go_wp2
      refine bodyPost_ret (results_tmp3 rfl _ _ _) rfl ?_
      rw [hE.out]
      unfold RetD
      dsimp only
      rw [HD.out]
      exact ⟨rfl, rfl⟩
/-- What Step answers. -/
def RetG (p : Int × Bool) (e : Ending) : Prop := e = .returned (.tuple #[.int .i64 p.1, .bool p.2])
end Go.Proofs.YtblpkmmhmdpkjaaGreatDoor
