/- The statement VarintBack: for any numbers the law answers true. No condition. -/
import Derived.Test.YtljnklmmldeokaaPuts
namespace Go.Proofs.Ytljnklmmldeokaa
open Go.RowKit Go.ChangeShapes Go.WideShapes Go.ChangeAt

section
variable {P : Program} {o : Oper} {ρ : Operand → Value} {w w' : World} {R : Value → World → Prop}
/-- The address of a slice's element. -/
theorem gives_indexAddr {t e : TypeId} {bytes : Nat} {zv : Value} (E : Elem P t e bytes zv) {x y : Operand} {ad : Addr} {n c k : Nat} (ho : o.op = .indexAddr t x y) (hx : ρ x = .slice (some ad) n c) (hy : ρ y = .int .i64 (k : Int)) (hk : k < n)
    (hR : R (.pointer (some (ad.add k))) w) : Gives P o ρ w R := by
  refine gives_of (v := .pointer (some (ad.add k))) (w' := w) ?_ hR
  have ht := E.under
  have hs := E.size_ w
  have h0 : (0 : Int) ≤ (k : Int) := by omega
  have h1 : (k : Int) < (n : Int) := by omega
  simp [execOp, ho, hx, hy, go_sem, ht, hs, h0, h1]
/-- A whole number that is loaded. -/
theorem gives_load_int {t : TypeId} {kd : IntKind} {x : Operand} {a : Addr} {z : Int} (ho : o.op = .load t x) (hag : (isAgg t).run P w = .ok false w) (hx : ρ x = .pointer (some a)) (hc : w.cell? a = some (.int kd z))
    (hR : R (.int kd z) w) : Gives P o ρ w R := by
  refine gives_of (v := .int kd z) (w' := w) ?_ hR
  simp [execOp, ho, hx, go_sem, hag, hc]
theorem run_conv_int (w : World) (src dst : TypeId) (k k' : IntKind) (n : Int) (hs : (P.underlying src).isSome = true) (hd : P.underlying dst = some (.int k')) : (convert src dst (.int k n)).run P w = .ok (.int k' (k'.wrap n)) w := by
  obtain ⟨d, hd'⟩ := Option.isSome_iff_exists.mp hs
  simp [convert, run_underlying hd', run_underlying hd, Conv.intToInt]
end

theorem Try.infoI : (Try.prog.info? 3).map (fun i => (i.zero, i.size, i.bytes)) = some (some (.int .i64 0), 1, 8) := by kernel_rfl
theorem elemI : Elem Try.prog 38 3 8 (.int .i64 0) := by
  obtain ⟨i0, hi, hz0, hz1, hz2⟩ := info_parts Try.infoI
  exact ⟨Try.underlying38, rfl, i0, hi, hz0, hz1, hz2⟩

/-- Numbers one behind the other, each twice: without a sign, and with. -/
def vpair (z : Int) : List UInt8 := vput (vint z false) ++ vput (vint z true)
def vpairs (zs : List Int) : List UInt8 := zs.flatMap vpair
theorem vint_lt (z : Int) (s : Bool) (h0 : -9223372036854775808 ≤ z) (h1 : z ≤ 9223372036854775807) : vint z s < 18446744073709551616 := by
  unfold vint
  split
  · have := vzig_bd h0 h1; omega
  · omega
theorem vpair_len {z : Int} (h : -9223372036854775808 ≤ z ∧ z ≤ 9223372036854775807) : (vpair z).length ≤ 20 := by
  unfold vpair
  have h1 := vput_len_10 (vint_lt z false h.1 h.2)
  have h2 := vput_len_10 (vint_lt z true h.1 h.2)
  rw [List.length_append]; omega
theorem vpairs_len : ∀ (zs : List Int), (∀ z ∈ zs, -9223372036854775808 ≤ z ∧ z ≤ 9223372036854775807) → (vpairs zs).length ≤ 20 * zs.length := by
  intro zs
  induction zs with
  | nil => intro _; simp [vpairs]
  | cons z zs ih =>
    intro h
    have h1 := vpair_len (h z (by simp))
    have h2 := ih fun y hy => h y (by simp [hy])
    unfold vpairs at *
    rw [List.flatMap_cons, List.length_append, List.length_cons]
    omega
theorem vpairs_snoc (zs : List Int) (z : Int) : vpairs (zs ++ [z]) = vpairs zs ++ vput (vint z false) ++ vput (vint z true) := by
  unfold vpairs vpair; simp [List.flatMap_append]
theorem vpairs_cons (zs : List Int) (z : Int) : vpairs (z :: zs) = vput (vint z false) ++ (vput (vint z true) ++ vpairs zs) := by
  unfold vpairs vpair; simp

theorem take_put {u : Nat} {r : List UInt8} {v : Value} {w : World} (hu : u < 18446744073709551616) (h : IsB (vput u ++ r) v w) (hl : (vput u ++ r).length ≤ 1000000) :
    Calls Try.prog 14 #[v] w fun e w' => ∃ v', e = .returned (.tuple #[.int .u64 (u : Int), v', .int .i64 0]) ∧ IsB r v' w' ∧ Below w.heap.size w w' := by
  have h1 := take_isB h hl
  rw [vtake_put hu] at h1
  exact h1.mono fun _ _ h2 => h2.parts
theorem takeInt_put {z : Int} {r : List UInt8} {v : Value} {w : World} (h0 : -9223372036854775808 ≤ z) (h1 : z ≤ 9223372036854775807) (h : IsB (vput (vint z true) ++ r) v w) (hl : (vput (vint z true) ++ r).length ≤ 1000000) :
    Calls Try.prog 16 #[v, .bool true] w fun e w' => ∃ v', e = .returned (.tuple #[.int .i64 z, v', .int .i64 0]) ∧ IsB r v' w' ∧ Below w.heap.size w w' := by
  have h2 := takeInt_isB true h hl
  have hb := vzig_bd h0 h1
  have hz : ((vint z true : Nat) : Int) = vzig z := by
    show (((vzig z).toNat : Nat) : Int) = vzig z
    omega
  rw [vtint_true (vtake_put (vint_lt z true h0 h1) r), hz, vzag_vzig] at h2
  exact h2.mono fun _ _ h3 => h3.parts

/-- What the first loop holds: k numbers are laid down. -/
def BackRel (zs : List Int) (N : Nat) (w : World) (b i : Value) (wr : World) : Prop :=
  ∃ k : Nat, i = .int .i64 (k : Int) ∧ k ≤ N ∧ IsB (vpairs (zs.take k)) b wr ∧ Below w.heap.size w wr
/-- What the second loop holds: k numbers are taken. -/
def BackRel2 (zs : List Int) (N : Nat) (w : World) (b i : Value) (wr : World) : Prop :=
  ∃ k : Nat, i = .int .i64 (k : Int) ∧ k ≤ N ∧ IsB (vpairs ((zs.take N).drop k)) b wr ∧ Below w.heap.size w wr

set_option maxHeartbeats 1000000 in
set_option maxRecDepth 100000 in
theorem VarintBack_walk (w : World) (A : Option Addr) (n c : Nat) (zs : List Int) (hA : A = none → n = 0) (hn : zs.length = n) (hc : n ≤ c) (hm : c ≤ maxLen) (hl : Lies w A (zs.map (Value.int .i64)))
    (hw : ∀ z ∈ zs, -9223372036854775808 ≤ z ∧ z ≤ 9223372036854775807) :
    Calls Try.prog 6 #[.slice A n c] w fun e w' => e = .returned (.bool true) ∧ Below w.heap.size w w' := by
  have hni : (n : Int) ≤ 9223372036854775807 := by unfold maxLen at hm; omega
  obtain ⟨N, hN⟩ : ∃ N, N = min n 60 := ⟨_, rfl⟩
  have hNi : min (n : Int) 60 = (N : Int) := by omega
  have hNn : N ≤ n := by omega
  have hN60 : N ≤ 60 := by omega
  have HW := Lib.hid hw
  have HL := Lib.hid hl
  have HN := Lib.hid hn
  clear hw hl hn hm hN
  go_enter Try.func6, Try.ntmps6
  go_wp2_with fail
  refine (shown_any _).mono ?_
  rintro e w1 ⟨rfl, hb1⟩
  have hz1 := hb1.size
  have HB1 := Lib.hid hb1
  clear hb1
  go_wp2
  go_loopw [4, 6] (BackRel zs N w) (fun _ i _ => N - (intOf i).toNat)
  case atStart =>
    refine ⟨0, rfl, by omega, ?_, HB1.out.alloc hz1 _⟩
    exact ⟨some ⟨w1.heap.size, 0, none⟩, 0, rfl, by simp, by simp [vpairs], by unfold maxLen; omega, by simp [vpairs]; exact Lies.nil⟩
  case round =>
    obtain ⟨k, rfl, hk, hV, hb⟩ := hrel
    have HV := Lib.hid hV
    have HB := Lib.hid hb
    clear hV hb
    by_cases hlt : k < N
    · have hq : (k : Int) < (N : Int) := by omega
      have hkz : k < zs.length := by rw [HN.out]; omega
      have hkn : k < n := by omega
      obtain ⟨ad, rfl, hblk, hcz0⟩ := (HL.out.below HB.out).cell (k := k) (by rw [List.length_map]; exact hkz)
      obtain ⟨z, hz⟩ : ∃ z, z = zs[k] := ⟨_, rfl⟩
      have hcz : wr.cell? (ad.add k) = some (.int .i64 z) := by rw [hcz0, List.getElem_map, hz]
      obtain ⟨z0, z1⟩ : -9223372036854775808 ≤ z ∧ z ≤ 9223372036854775807 := by rw [hz]; exact HW.out _ (List.getElem_mem hkz)
      have HZ := Lib.hid hz
      clear hz hcz0
      obtain ⟨U, hU⟩ : ∃ U, IntKind.u64.wrap z = U := ⟨_, rfl⟩
      have HU := Lib.hid hU
      have hUe : U = z % 18446744073709551616 := by rw [← hU, IntKind.wrap_u64]
      have U0 : 0 ≤ U := by omega
      have U1 : U < 18446744073709551616 := by omega
      have HVI : Hid (vint z false = U.toNat) := by show vint z false = U.toNat; rw [hUe]; rfl
      clear hU hUe
      obtain ⟨acc, hacc⟩ : ∃ acc, acc = vpairs (zs.take k) := ⟨_, rfl⟩
      have hal : acc.length ≤ 1200 := by
        have := vpairs_len (zs.take k) fun z hz => HW.out z (List.mem_of_mem_take hz)
        rw [List.length_take] at this
        rw [hacc]; omega
      rw [← hacc] at HV
      have HAC := Lib.hid hacc
      clear hacc
      have hacc1 : Hid (acc.length ≤ 1000000) := by show acc.length ≤ 1000000; omega
      have hacc2 : Hid ((acc ++ vput U.toNat).length ≤ 1000000) := by
        show (acc ++ vput U.toNat).length ≤ 1000000
        have := vput_len_10 (x := U.toNat) (by omega)
        rw [List.length_append]; omega
      go_wp2
      refine wp_region_list [.is u4, .is (.slice (some ad) n c), .is (.int .i64 (k : Int)), .is (.pointer (some (ad.add k))), .is (.int .i64 z), .is (.int .u64 U), .bytes (acc ++ vput U.toNat), .is (.slice (some ad) n c), .is (.int .i64 (k : Int)), .is (.pointer (some (ad.add k))), .is (.int .i64 z), .bytes (acc ++ vput U.toNat ++ vput (vint z true)), .bytes (acc ++ vput U.toNat ++ vput (vint z true))] [some 24, some 25, some 26, some 27, some 28, some 29, some 30, some 31, some 32, some 33, some 34, some 35, some 4] (by kernel_rfl) (by kernel_rfl) (by kernel_rfl) rfl ⟨?_, ?_, ?_, ?_, ?_, ?_, ?_, ?_, ?_, ?_, ?_, ?_, ?_, trivial⟩ ?_
      · intro ρ W1 hb1 H
        exact gives_move rfl (H.old 4 _ (by kernel_rfl) rfl) ⟨rfl, Below.refl _ _⟩
      · intro ρ W1 hb1 H
        exact gives_move rfl (H.old 0 _ (by kernel_rfl) rfl) ⟨rfl, Below.refl _ _⟩
      · intro ρ W1 hb1 H
        exact gives_move rfl (H.old 6 _ (by kernel_rfl) rfl) ⟨rfl, Below.refl _ _⟩
      · intro ρ W1 hb1 H
        exact gives_indexAddr elemI rfl (H.new 25 1 (by kernel_rfl)) (H.new 26 2 (by kernel_rfl)) hkn ⟨rfl, Below.refl _ _⟩
      · intro ρ W1 hb1 H
        exact gives_load_int rfl (by kernel_rfl) (H.new 27 3 (by kernel_rfl)) ((hb1.cell (by rw [add_block]; exact hblk)).trans hcz) ⟨rfl, Below.refl _ _⟩
      · intro ρ W1 hb1 H
        exact gives_convert rfl (H.new 28 4 (by kernel_rfl)) (by rw [run_conv_int _ _ _ _ _ _ (by kernel_rfl) Try.underlying23, HU.out]) ⟨rfl, Below.refl _ _⟩
      · intro ρ W1 hb1 H
        have e0 : ρ (.tmp 24) = u4 := H.new 24 0 (by kernel_rfl)
        have e1 : ρ (.tmp 29) = .int .u64 U := H.new 29 5 (by kernel_rfl)
        refine gives_call rfl ent_put (H.func _) (args := #[u4, .int .u64 U]) (by simp [e0, e1]) ?_
        exact put_isB U (HV.out.below hb1) hacc1.out U0 U1
      · intro ρ W1 hb1 H
        exact gives_move rfl (H.old 0 _ (by kernel_rfl) rfl) ⟨rfl, Below.refl _ _⟩
      · intro ρ W1 hb1 H
        exact gives_move rfl (H.old 6 _ (by kernel_rfl) rfl) ⟨rfl, Below.refl _ _⟩
      · intro ρ W1 hb1 H
        exact gives_indexAddr elemI rfl (H.new 31 7 (by kernel_rfl)) (H.new 32 8 (by kernel_rfl)) hkn ⟨rfl, Below.refl _ _⟩
      · intro ρ W1 hb1 H
        exact gives_load_int rfl (by kernel_rfl) (H.new 33 9 (by kernel_rfl)) ((hb1.cell (by rw [add_block]; exact hblk)).trans hcz) ⟨rfl, Below.refl _ _⟩
      · intro ρ W1 hb1 H
        have e0 : IsB (acc ++ vput U.toNat) (ρ (.tmp 30)) W1 := H.new 30 6 (by kernel_rfl)
        have e1 : ρ (.tmp 34) = .int .i64 z := H.new 34 10 (by kernel_rfl)
        refine gives_call rfl ent_putInt (H.func _) (args := #[ρ (.tmp 30), .int .i64 z, .bool true]) (by simp [e1, H.const]) ?_
        exact putInt_isB z true e0 hacc2.out z0 z1
      · intro ρ W1 hb1 H
        exact gives_assign rfl rfl ⟨H.new 35 11 (by kernel_rfl), Below.refl _ _⟩
      · intro vs W1 hb1 hfs
        have f12 : IsB (acc ++ vput U.toNat ++ vput (vint z true)) (vs 12) W1 := hfs 12 (by decide)
        clear hfs
        simp only [putAll, Nat.zero_add, Nat.reduceAdd]
        generalize vs 0 = z0
        generalize vs 1 = z1
        generalize vs 2 = z2
        generalize vs 3 = z3
        generalize vs 4 = z4
        generalize vs 5 = z5
        generalize vs 6 = z6
        generalize vs 7 = z7
        generalize vs 8 = z8
        generalize vs 9 = z9
        generalize vs 10 = z10
        generalize vs 11 = z11
        generalize vs 12 = z12 at f12
        simp only [Act.put, List.setIfInBounds_toArray, List.set_cons_succ, List.set_cons_zero]
        have HF12 := Lib.hid f12
        have HBn := Lib.hid (below_then HB.out hb1)
        clear f12 hb1
        go_wp2
        go_roundw
        case rel =>
          refine ⟨k + 1, by go_num, by omega, ?_, HBn.out⟩
          have h1 := HF12.out
          rw [List.take_succ_eq_append_getElem hkz, vpairs_snoc, ← HZ.out, ← HAC.out, HVI.out]
          exact h1
        case measure => simp [intOf]; omega
    · have hq : ¬ (k : Int) < (N : Int) := by omega
      obtain rfl : k = N := by omega
      go_wp2
      go_loopw [4, 7] (BackRel2 zs k w) (fun _ i _ => k - (intOf i).toNat)
      case atStart => exact ⟨0, rfl, by omega, by simpa using HV.out, HB.out⟩
      case round =>
        obtain ⟨j, rfl, hj, hV, hb⟩ := hrel
        have HV2 := Lib.hid hV
        have HB2 := Lib.hid hb
        clear hV hb
        by_cases hlt : j < k
        · have hq : (j : Int) < (k : Int) := by omega
          have hjz : j < zs.length := by rw [HN.out]; omega
          have hjn : (j : Int) < (n : Int) := by omega
          obtain ⟨z, hz⟩ : ∃ z, z = zs[j] := ⟨_, rfl⟩
          obtain ⟨z0, z1⟩ : -9223372036854775808 ≤ z ∧ z ≤ 9223372036854775807 := by rw [hz]; exact HW.out _ (List.getElem_mem hjz)
          obtain ⟨rr, hrr⟩ : ∃ rr, rr = vpairs ((zs.take k).drop (j + 1)) := ⟨_, rfl⟩
          have hsplit : vpairs ((zs.take k).drop j) = vput (vint z false) ++ (vput (vint z true) ++ rr) := by
            rw [List.drop_eq_getElem_cons (by rw [List.length_take]; omega), vpairs_cons, List.getElem_take, ← hz, hrr]
          have hlen : (vput (vint z false) ++ (vput (vint z true) ++ rr)).length ≤ 1000000 := by
            rw [← hsplit]
            have := vpairs_len ((zs.take k).drop j) fun z hz => HW.out z (List.mem_of_mem_take (List.mem_of_mem_drop hz))
            rw [List.length_drop, List.length_take] at this
            omega
          have HV3 := HV2.out
          rw [hsplit] at HV3
          have HV3 := Lib.hid HV3
          have HLEN := Lib.hid hlen
          have HRR := Lib.hid hrr
          have HZ := Lib.hid hz
          clear hsplit hlen hrr hz
          obtain ⟨U, hU⟩ : ∃ U, IntKind.u64.wrap z = U := ⟨_, rfl⟩
          have hUe : U = z % 18446744073709551616 := by rw [← hU, IntKind.wrap_u64]
          have HVI : Hid (((vint z false : Nat) : Int) = U) := by
            show (((z % 18446744073709551616).toNat : Nat) : Int) = U
            omega
          have HUE := Lib.hid hUe
          clear hU hUe
          have hmid : ∀ w', Below wr.heap.size wr w' → ∃ ad, A = some ad ∧ w'.cell? (ad.add j) = some (.int .i64 z) := by
            intro w' hb'
            obtain ⟨ad, h1, h2, h3⟩ := (HL.out.below (below_then HB2.out hb')).cell (k := j) (by rw [List.length_map]; exact hjz)
            exact ⟨ad, h1, by rw [h3, List.getElem_map, ← HZ.out]⟩
          have HMID := Lib.hid hmid
          clear hmid
          go_wp2_with fail
          refine (take_put (vint_lt z false z0 z1) HV3.out HLEN.out).mono ?_
          rintro e w5 ⟨v5, rfl, h5, hb5⟩
          have H5 := Lib.hid h5
          have HB5 := Lib.hid hb5
          clear h5 hb5
          rw [HVI.out]
          go_wp2_with fail
          refine (takeInt_put z0 z1 H5.out (by have := HLEN.out; simp only [List.length_append] at *; omega)).mono ?_
          rintro e w6 ⟨v6, rfl, h6, hb6⟩
          obtain ⟨ad, rfl, hcell⟩ := HMID.out w6 (below_then HB5.out hb6)
          have H6 := Lib.hid h6
          have HB6 := Lib.hid (below_then HB2.out (below_then HB5.out hb6))
          clear h6 hb6
          go_wp2
          go_roundw
          case rel =>
            refine ⟨j + 1, by go_num, by omega, ?_, HB6.out⟩
            rw [← HRR.out]
            exact H6.out
          case measure => simp [intOf]; omega
        · have hq : ¬ (j : Int) < (k : Int) := by omega
          obtain rfl : j = k := by omega
          have he : vpairs ((zs.take j).drop j) = [] := by rw [List.drop_of_length_le (by rw [List.length_take]; omega)]; rfl
          have HV3 := HV2.out
          rw [he] at HV3
          obtain ⟨A9, c9, rfl, _⟩ := HV3
          clear he
          go_wp2
          go_ret
          exact ⟨rfl, HB2.out⟩
set_option maxRecDepth 100000 in
theorem VarintBack_lifted (os : Os) (started : os.Started) (H : Type) (enc : TypeId × Value → H) :
    ReturnsInHanded {} Try.checked os 6 .any (Rows.varintBackSpec.pre6 enc Try.prog Try.f6 Rows.varintBackRow.domain false) (Rows.varintBackSpec.post enc Try.prog Try.f6 false true false false) := by
  refine returnsInHanded_of_change (C := Try.checked) own started (by kernel_rfl) Try.func6
    (ChangeSpec.witness6 (enc := enc) (C := Try.checked) false ⟨#[], #[.slice none 0 0], []⟩ 8 (by kernel_rfl) (by kernel_rfl) (by kernel_rfl) (by kernel_rfl)) ?_
  intro W base args ds gs before hval0 hW hcnd _
  have hval : ∀ (j : Nat) t v, Try.f6.params[j]? = some t → args[j]? = some v → Value.okWide Try.prog W .any base t v := hval0
  have hW' := hW
  obtain ⟨p, q, hT0, hV, rfl, hfz, hnd⟩ := hW
  have hA : DataW.TrodAll enc Try.prog W 0 (fun _ => true) true Try.f6.params.toList args.toList ds p := hT0
  rw [Try.params6] at hA hval
  obtain ⟨v0, vs0, d0, ds0, p0, q0, hargs, rfl, rfl, h0, r0⟩ := trodAll_cons hA
  obtain ⟨rfl, rfl, rfl⟩ := trodAll_nil r0
  obtain rfl : args = #[v0] := by cases args; simp_all
  obtain ⟨rfl, rfl⟩ := trodVars_none hV
  have hlt0 : ∀ x ∈ p0, x.block < W.heap.size := fun x hx => hW'.lt x (by simp [hx])
  obtain ⟨A0, n0, c0, l0, rfl, hA0, hn0, hc0, hm0, hl0, hw0⟩ := open_lies Try.underlying38 Try.underlying3 (by kernel_rfl) (hval 0 38 v0 rfl rfl) h0 hlt0
  clear hT0 hval0
  refine (VarintBack_walk W A0 n0 c0 l0 hA0 hn0 hc0 hm0 hl0 (fun z hz => wf_i64 (hw0 z hz))).mono fun e W' ⟨he, hb⟩ => ?_
  subst he
  exact ⟨_, rfl, law_post laidOut Try.underlying4 (by kernel_rfl) (by kernel_rfl) rfl hW' rfl hb⟩

theorem VarintBack_over : Rows.varintBackRow.holds Try.pinned (OpenSpec.ofChange Rows.varintBackSpec) :=
  OpenClaim.holds_of_wide 6 Try.f6 rfl rfl rfl rfl rfl rfl rfl ⟨rfl, rfl, rfl, rfl, rfl⟩ rfl rfl rfl rfl rfl (by kernel_rfl) Try.func6 (by kernel_rfl)
    (of_decide_eq_true (by kernel_rfl)) (by unfold Func.isWrapper; first | (rw [if_pos (by decide +kernel)]; kernel_rfl) | (rw [if_neg (by decide +kernel)]; exact ⟨rfl, rfl⟩))
    (fun os started H enc _ => VarintBack_lifted os started H enc)

theorem VarintBack_holds : Rows.VarintBackSaid := VarintBack_over
#print axioms VarintBack_holds
end Go.Proofs.Ytljnklmmldeokaa
