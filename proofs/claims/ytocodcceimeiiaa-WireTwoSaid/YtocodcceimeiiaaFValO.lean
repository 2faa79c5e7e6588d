
/- wire's own contracts: PutValue. Written by gen_fval.py. -/

import Derived.Test.YtocodcceimeiiaaFTurnO

import Derived.Test.YtocodcceimeiiaaFTakeO

import Derived.Test.YtocodcceimeiiaaKRef

import Derived.Lib.ConvBytes

namespace Go.Proofs.Ytocodcceimeiiaa

open Go.RowKit Go.ChangeShapes Go.WideShapes Go.ChangeAt

theorem isB_convF (s : ByteArray) (w : World) (e : TypeId) (hs : s.size ≤ maxLen) : IsB s.data.toList (.slice (some ⟨w.heap.size, 0, none⟩) s.size (grownCap w s.size 0 e)) (Lib.bytesWorld w e s) := by
  refine ⟨_, _, rfl, by simp, ?_, grownCap_le_maxLen _ _ _ _ hs, .inr ⟨_, rfl, by simp [Lib.bytesWorld_size], fun j u hu => ?_⟩⟩
  · show s.data.toList.length ≤ _
    rw [Array.length_toList]
    exact grownCap_ge _ _ _ _
  · rw [List.getElem?_map, Option.map_eq_some_iff] at hu
    obtain ⟨y, hy, rfl⟩ := hu
    have hj : j < s.size := by
      have h := (List.getElem?_eq_some_iff.1 hy).1
      rwa [Array.length_toList] at h
    have he : (⟨w.heap.size, 0, none⟩ : Addr).add j = ⟨w.heap.size, j, none⟩ := by unfold Addr.add; split <;> simp_all
    rw [he, Lib.bytesWorld_cell w e s j hj, List.getD_eq_getElem?_getD, hy]
    rfl
theorem below_convF (s : ByteArray) (w : World) (e : TypeId) : Below w.heap.size w (Lib.bytesWorld w e s) := ⟨rfl, rfl, rfl, by rw [Lib.bytesWorld_size]; omega, fun k hk => Lib.bytesWorld_at_old w e s k hk⟩
theorem fval_at0 (W : World) (g : Nat) : (Instr.fieldAt 44 (.pointer (some ⟨g, 0, none⟩)) 0).run Try.prog W = .ok (.pointer (some ⟨g, 0, none⟩)) W := by kernel_rfl
theorem fval_at1 (W : World) (g : Nat) : (Instr.fieldAt 44 (.pointer (some ⟨g, 0, none⟩)) 1).run Try.prog W = .ok (.pointer (some ⟨g, 1, none⟩)) W := by kernel_rfl
theorem fval_at2 (W : World) (g : Nat) : (Instr.fieldAt 44 (.pointer (some ⟨g, 0, none⟩)) 2).run Try.prog W = .ok (.pointer (some ⟨g, 2, none⟩)) W := by kernel_rfl
/-- A field of bytes. -/
def Fact.bulk (l : List UInt8) : Fact := ⟨fun v W => ∃ lv, v = .agg #[.int .i64 0, .bool true, .int .u64 0, lv] ∧ IsB l lv W, fun _ _ _ ⟨lv, h1, h2⟩ hb => ⟨lv, h1, h2.below hb⟩⟩
/-- A value's three fields, without tags. -/
def fval3 (b : Bool) (n : Int) (s : ByteArray) (lv : Value) : List FN := [⟨0, false, fbit b, [], .slice none 0 0⟩, ⟨0, false, (vzig n).toNat, [], .slice none 0 0⟩, ⟨0, true, 0, s.toList, lv⟩]
theorem fval3_put (b : Bool) (n : Int) (s : ByteArray) (lv : Value) : fbs (ftagd 3 (fval3 b n s lv)) = fputV ⟨b, n, s⟩ := by
  simp [fbs, ftagd, fval3, fputV, fvalue, FN.wf, fnum, fbyt]
theorem fval3_at {b : Bool} {n : Int} {s : ByteArray} {lv : Value} {w : World} (hz : vzig n < 18446744073709551616) (hs : s.size ≤ 4000) (h : IsB s.toList lv w) : ∀ f ∈ fval3 b n s lv, FAt f w := by
  intro f hf
  simp only [fval3, List.mem_cons, List.not_mem_nil, or_false] at hf
  rcases hf with rfl | rfl | rfl
  · exact ⟨isB_nil w, by unfold inInt; dsimp only; omega, fbit_lt b, by simp⟩
  · exact ⟨isB_nil w, by unfold inInt; dsimp only; omega, by dsimp only; omega, by simp⟩
  · exact ⟨h, by unfold inInt; dsimp only; omega, by dsimp only; omega, by rw [toList_lenF]; exact hs⟩
set_option maxHeartbeats 4000000 in
set_option maxRecDepth 100000 in
theorem fputV_own (v : CV) (w : World) (hi : v.inInt) (hs : v.s.size ≤ 4000) : Calls Try.prog 13 #[cv v] w (RetOwn w (fputV v)) := by
  obtain ⟨vb, vn, vs_⟩ := v
  obtain ⟨hi0, hi1⟩ := hi
  dsimp only at hi0 hi1 hs
  have hsz : vs_.size ≤ maxLen := by unfold maxLen; omega
  unfold cv
  dsimp only
  have HZ := Lib.hid (vzig_bd hi0 hi1)
  have HS := Lib.hid hs
  have HRB := Lib.hid (show Row (w.alloc (.cells #[.bool vb, .int .i64 vn, .string vs_] 44)) w.heap.size 44 [.bool vb, .int .i64 vn, .string vs_] from heap_alloc_new w _)
  go_enter Try.func13, Try.ntmps13
  go_wp2_with fail
  refine wp_region_list_tail 11 [.is (.pointer (some ⟨w.heap.size, 0, none⟩)), .is (.bool vb), .is (.agg #[.int .i64 0, .bool false, .int .u64 ((fbit vb : Nat) : Int), .slice none 0 0]), .is (.pointer (some ⟨w.heap.size, 1, none⟩)), .is (.int .i64 vn), .is (.int .u64 (vzig vn)), .is (.agg #[.int .i64 0, .bool false, .int .u64 (vzig vn), .slice none 0 0]), .is (.pointer (some ⟨w.heap.size, 2, none⟩)), .is (.string vs_), .bytes (vs_.toList), Fact.bulk vs_.toList] [some 3, some 4, some 5, some 6, some 7, some 8, some 9, some 10, some 11, some 12, some 13] (by kernel_rfl) (by kernel_rfl) (by kernel_rfl) (by kernel_rfl) rfl ⟨?_, ?_, ?_, ?_, ?_, ?_, ?_, ?_, ?_, ?_, ?_, trivial⟩ ?_
  · intro ρ W1 hb1 H
    exact gives_field rfl (H.old 1 _ (by kernel_rfl) rfl) (fun W => fval_at0 W w.heap.size) ⟨rfl, Below.refl _ _⟩
  · intro ρ W1 hb1 H
    exact gives_load rfl (H.new 3 0 (by kernel_rfl)) Try.underlying4 rfl ((HRB.out.below hb1 HRB.out.lt).cell 0) ⟨rfl, Below.refl _ _⟩
  · intro ρ W1 hb1 H
    have e0 : ρ (.tmp 4) = .bool vb := H.new 4 1 (by kernel_rfl)
    refine gives_call rfl (fun _ _ => by kernel_rfl) (H.func _) (args := #[.bool vb]) (by simp [e0]) ?_
    exact (ftruth_any vb W1).mono fun e w' ⟨h1, h2⟩ => ⟨_, h1, rfl, h2⟩
  · intro ρ W1 hb1 H
    exact gives_field rfl (H.old 1 _ (by kernel_rfl) rfl) (fun W => fval_at1 W w.heap.size) ⟨rfl, Below.refl _ _⟩
  · intro ρ W1 hb1 H
    exact gives_load rfl (H.new 6 3 (by kernel_rfl)) Try.underlying3 rfl ((HRB.out.below hb1 HRB.out.lt).cell 1) ⟨rfl, Below.refl _ _⟩
  · intro ρ W1 hb1 H
    have e0 : ρ (.tmp 7) = .int .i64 vn := H.new 7 4 (by kernel_rfl)
    refine gives_call rfl (fun _ _ => by kernel_rfl) (H.func _) (args := #[.int .i64 vn]) (by simp [e0]) ?_
    exact (zig_any vn W1 hi0 hi1).mono fun e w' ⟨h1, h2⟩ => ⟨_, h1, rfl, h2 ▸ Below.refl _ _⟩
  · intro ρ W1 hb1 H
    have e0 : ρ (.tmp 8) = .int .u64 (vzig vn) := H.new 8 5 (by kernel_rfl)
    refine gives_call rfl (fun _ _ => by kernel_rfl) (H.func _) (args := #[.int .u64 (vzig vn)]) (by simp [e0]) ?_
    exact (fnumber_any (vzig vn) W1).mono fun e w' ⟨h1, h2⟩ => ⟨_, h1, rfl, h2⟩
  · intro ρ W1 hb1 H
    exact gives_field rfl (H.old 1 _ (by kernel_rfl) rfl) (fun W => fval_at2 W w.heap.size) ⟨rfl, Below.refl _ _⟩
  · intro ρ W1 hb1 H
    exact gives_load rfl (H.new 10 7 (by kernel_rfl)) Try.underlying9 rfl ((HRB.out.below hb1 HRB.out.lt).cell 2) ⟨rfl, Below.refl _ _⟩
  · intro ρ W1 hb1 H
    exact gives_convert rfl (H.new 11 8 (by kernel_rfl)) (Lib.run_convert_string_bytes (P := Try.prog) W1 9 25 5 vs_ Try.underlying9 Try.underlying25 Try.underlying5) ⟨by rw [ByteArray.toList_eq]; exact isB_convF vs_ W1 5 hsz, below_convF vs_ W1 5⟩
  · intro ρ W1 hb1 H
    have e0 : IsB vs_.toList (ρ (.tmp 12)) W1 := (H.new 12 9 (by kernel_rfl))
    obtain ⟨A, n, c, e1⟩ := IsV.shape (f := bv) e0
    rw [e1] at e0
    refine gives_call rfl (fun _ _ => by kernel_rfl) (H.func _) (args := #[.slice A n c]) (by simp [e1]) ?_
    exact (fbulk_any A n c W1).mono fun e w' ⟨h1, h2⟩ => ⟨_, h1, ⟨_, rfl, e0.below h2⟩, h2⟩
  · intro vs W1 hb1 hfs
    have f2 : vs 2 = .agg #[.int .i64 0, .bool false, .int .u64 ((fbit vb : Nat) : Int), .slice none 0 0] := hfs 2 (by decide)
    have f6 : vs 6 = .agg #[.int .i64 0, .bool false, .int .u64 (vzig vn), .slice none 0 0] := hfs 6 (by decide)
    have f10 : ∃ lv, vs 10 = .agg #[.int .i64 0, .bool true, .int .u64 0, lv] ∧ IsB vs_.toList lv W1 := hfs 10 (by decide)
    clear hfs
    simp only [putAll, Nat.zero_add, Nat.reduceAdd, List.drop_succ_cons, List.drop_zero]
    generalize vs 0 = z0
    generalize vs 1 = z1
    generalize vs 3 = z3
    generalize vs 4 = z4
    generalize vs 5 = z5
    generalize vs 7 = z7
    generalize vs 8 = z8
    generalize vs 9 = z9
    generalize vs 10 = z10 at f10 ⊢
    simp only [f2, f6, Act.put, List.setIfInBounds_toArray, List.set_cons_succ, List.set_cons_zero]
    clear f2 f6
    skip
    obtain ⟨lv, rfl, hlv⟩ := f10
    obtain ⟨A, n, c, rfl⟩ := IsV.shape (f := bv) hlv
    have HLV := Lib.hid hlv
    have HB1 := Lib.hid (below_then ((Below.refl _ _).alloc (Nat.le_refl _) _) hb1)
    clear hlv hb1
    go_wp2_with fail
    obtain ⟨W2, hW2⟩ : ∃ x, x = W1.alloc (.cells #[.int .i64 0, .bool false, .int .u64 ((fbit vb : Nat) : Int), .slice none 0 0, .int .i64 0, .bool false, .int .u64 (vzig vn), .slice none 0 0, .int .i64 0, .bool true, .int .u64 0, .slice A n c] 41) := ⟨_, rfl⟩
    have hbW : Below W1.heap.size W1 W2 := by rw [hW2]; exact (Below.refl _ _).alloc (Nat.le_refl _) _
    have hrow : Row W2 W1.heap.size 41 ((fval3 vb vn vs_ (.slice A n c)).flatMap fcells) := by
      show Row W2 _ _ [.int .i64 0, .bool false, .int .u64 ((fbit vb : Nat) : Int), .slice none 0 0, .int .i64 0, .bool false, .int .u64 (((vzig vn).toNat : Nat) : Int), .slice none 0 0, .int .i64 0, .bool true, .int .u64 ((0 : Nat) : Int), .slice A n c]
      rw [Int.toNat_of_nonneg HZ.out.1, hW2]
      exact heap_alloc_new W1 _
    have hat : ∀ f ∈ fval3 vb vn vs_ (.slice A n c), FAt f W2 := fval3_at HZ.out.2 HS.out (HLV.out.below hbW)
    rw [← hW2]
    clear hW2
    refine (finTurn_any _ _ 3 W2 hrow rfl (by omega) hat).mono ?_
    rintro e w3 ⟨v3, rfl, ho3, hg3⟩
    rw [fval3_put] at ho3
    have HO := Lib.hid (ownW_base (Nat.le_trans HB1.out.size hbW.size) ho3)
    have HB3 := Lib.hid ((below_then HB1.out hbW).grown hg3 (Nat.le_trans HB1.out.size hbW.size) fun k hk => by injection hk with hk; rw [← hk]; exact HB1.out.size)
    clear ho3 hg3 hat hrow hbW
    go_wp2
    go_ret
    exact ⟨_, rfl, HO.out, HB3.out⟩
end Go.Proofs.Ytocodcceimeiiaa
