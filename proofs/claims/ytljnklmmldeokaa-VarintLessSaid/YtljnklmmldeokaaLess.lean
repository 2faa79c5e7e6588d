/- The statement VarintLess: for any two numbers and any place at which one is cut, the law answers true. No condition. -/
import Derived.Test.YtljnklmmldeokaaShown
import Derived.Test.YtljnklmmldeokaaLaw
namespace Go.Proofs.Ytljnklmmldeokaa
open Go.RowKit Go.ChangeShapes Go.WideShapes Go.ChangeAt

theorem put_nil (x : Int) (h0 : 0 ≤ x) (h1 : x < 18446744073709551616) (L : Nat) (hL : (vput x.toNat).length = L) (w : World) :
    Calls Try.prog 10 #[.slice none 0 0, .int .u64 x] w fun e w' => ∃ A c, e = .returned (.slice A L c) ∧ (A = none → L = 0) ∧ L ≤ c ∧ c ≤ maxLen ∧ Lies w' A ((vput x.toNat).map bv) ∧ Below w.heap.size w w' := by
  have h := put_any none 0 0 x [] w (by simp) rfl (by omega) Lies.nil h0 h1
  rw [List.nil_append] at h
  subst hL
  exact h
theorem take_cut (x : Int) (k : Nat) (A : Option Addr) (c : Nat) (w : World) (hk : k < (vput x.toNat).length) (hc : k ≤ c) (h10 : k ≤ 10) (hl : Lies w A ((vput x.toNat).map bv)) :
    Calls Try.prog 14 #[.slice A k c] w fun e w' => e = .returned (.tuple #[.int .u64 0, .slice none 0 0, .int .i64 2]) ∧ Below w.heap.size w w' := by
  have hA : A = none → k = 0 := by
    intro hA
    rcases hl with hl | ⟨ad, h, _⟩
    · rw [List.map_eq_nil_iff] at hl
      rw [hl] at hk
      simp at hk
    · rw [hA] at h; cases h
  have h := take_any A k c ((vput x.toNat).take k) w hA (by rw [List.length_take]; omega) hc (by omega) (by rw [List.map_take]; exact hl.take k)
  have hn : vtake ((vput x.toNat).take k) = none := vgo_cut x.toNat 0 k hk
  rw [hn] at h
  exact h

set_option maxHeartbeats 1000000 in
set_option maxRecDepth 100000 in
theorem VarintLess_walk (w : World) (x : Int) (x0 : 0 ≤ x) (x1 : x < 18446744073709551616) (y : Int) (y0 : 0 ≤ y) (y1 : y < 18446744073709551616) (at_ : Int) (a0 : -9223372036854775808 ≤ at_) (a1 : at_ ≤ 9223372036854775807) :
    Calls Try.prog 7 #[.int .u64 x, .int .u64 y, .int .i64 at_] w fun e w' => e = .returned (.bool true) ∧ Below w.heap.size w w' := by
  by_cases hxy : x ≤ y
  · have hn : ¬ y < x := by omega
    have ha0 : 0 ≤ x := by omega
    have ha1 : x < 18446744073709551616 := by omega
    have hb0 : 0 ≤ y := by omega
    have hbb1 : y < 18446744073709551616 := by omega
    have hle := vput_len_mono y.toNat x.toNat (by omega)
    have hpos := vput_len_pos x.toNat
    have h10 := vput_len_10 (x := y.toNat) (by omega)
    obtain ⟨La, hLa⟩ : ∃ L, (vput x.toNat).length = L := ⟨_, rfl⟩
    obtain ⟨Lb, hLb⟩ : ∃ L, (vput y.toNat).length = L := ⟨_, rfl⟩
    rw [hLa] at hle hpos
    rw [hLb] at hle h10
    have HA := Lib.hid hLa
    have HB := Lib.hid hLb
    clear hLa hLb
    go_enter Try.func7, Try.ntmps7
    go_wp2_with fail
    refine (shown_any _).mono ?_
    rintro e w1 ⟨rfl, hb1⟩
    have HB1 := Lib.hid hb1
    clear hb1
    go_wp2_with fail
    refine (put_nil x ha0 ha1 La HA.out _).mono ?_
    rintro e w2 ⟨A2, c2, rfl, hA2, hc2, hm2, hl2, hb2⟩
    have HB2 := Lib.hid hb2
    have HM2 := Lib.hid hm2
    clear hb2 hl2 hm2
    go_wp2_with fail
    refine (put_nil y hb0 hbb1 Lb HB.out _).mono ?_
    rintro e w3 ⟨A3, c3, rfl, hA3, hc3, hm3, hl3, hb3⟩
    have HB3 := Lib.hid hb3
    have HL3 := Lib.hid hl3
    have HM3 := Lib.hid hm3
    clear hb3 hl3 hm3
    have t1 : decide ((La : Int) < 1) = false := by simp; omega
    have t2 : decide (Lb < La) = false := by simp; omega
    have t3 : decide ((10 : Int) < (Lb : Int)) = false := by simp; omega
    have hfin : Below w.heap.size w w3 := below_then (below_then HB1.out HB2.out) HB3.out
    have HF := Lib.hid hfin
    clear hfin
    by_cases hat : at_ < 0
    · have q1 : decide (at_ < 0) = true := by simpa using hat
      go_wp2
      go_ret
      exact ⟨rfl, HF.out⟩
    · have q1 : decide (at_ < 0) = false := by simpa using hat
      by_cases hat2 : (Lb : Int) ≤ at_
      · have q2 : decide ((Lb : Int) ≤ at_) = true := by simpa using hat2
        go_wp2
        go_ret
        exact ⟨rfl, HF.out⟩
      · obtain ⟨k, rfl⟩ := Int.eq_ofNat_of_zero_le (by omega : 0 ≤ at_)
        have q2 : decide ((Lb : Int) ≤ (k : Int)) = false := by simp; omega
        have q3 : decide (Lb ≤ k) = false := by simp; omega
        have hk : k < Lb := by omega
        go_wp2_with fail
        refine (take_cut y k A3 c3 _ (by have := HB.out; omega) (by omega) (by omega) HL3.out).mono ?_
        rintro e w4 ⟨rfl, hb4⟩
        go_wp2
        go_ret
        exact ⟨rfl, below_then HF.out hb4⟩
  · have hn : y < x := by omega
    have ha0 : 0 ≤ y := by omega
    have ha1 : y < 18446744073709551616 := by omega
    have hb0 : 0 ≤ x := by omega
    have hbb1 : x < 18446744073709551616 := by omega
    have hle := vput_len_mono x.toNat y.toNat (by omega)
    have hpos := vput_len_pos y.toNat
    have h10 := vput_len_10 (x := x.toNat) (by omega)
    obtain ⟨La, hLa⟩ : ∃ L, (vput y.toNat).length = L := ⟨_, rfl⟩
    obtain ⟨Lb, hLb⟩ : ∃ L, (vput x.toNat).length = L := ⟨_, rfl⟩
    rw [hLa] at hle hpos
    rw [hLb] at hle h10
    have HA := Lib.hid hLa
    have HB := Lib.hid hLb
    clear hLa hLb
    go_enter Try.func7, Try.ntmps7
    go_wp2_with fail
    refine (shown_any _).mono ?_
    rintro e w1 ⟨rfl, hb1⟩
    have HB1 := Lib.hid hb1
    clear hb1
    go_wp2_with fail
    refine (put_nil y ha0 ha1 La HA.out _).mono ?_
    rintro e w2 ⟨A2, c2, rfl, hA2, hc2, hm2, hl2, hb2⟩
    have HB2 := Lib.hid hb2
    have HM2 := Lib.hid hm2
    clear hb2 hl2 hm2
    go_wp2_with fail
    refine (put_nil x hb0 hbb1 Lb HB.out _).mono ?_
    rintro e w3 ⟨A3, c3, rfl, hA3, hc3, hm3, hl3, hb3⟩
    have HB3 := Lib.hid hb3
    have HL3 := Lib.hid hl3
    have HM3 := Lib.hid hm3
    clear hb3 hl3 hm3
    have t1 : decide ((La : Int) < 1) = false := by simp; omega
    have t2 : decide (Lb < La) = false := by simp; omega
    have t3 : decide ((10 : Int) < (Lb : Int)) = false := by simp; omega
    have hfin : Below w.heap.size w w3 := below_then (below_then HB1.out HB2.out) HB3.out
    have HF := Lib.hid hfin
    clear hfin
    by_cases hat : at_ < 0
    · have q1 : decide (at_ < 0) = true := by simpa using hat
      go_wp2
      go_ret
      exact ⟨rfl, HF.out⟩
    · have q1 : decide (at_ < 0) = false := by simpa using hat
      by_cases hat2 : (Lb : Int) ≤ at_
      · have q2 : decide ((Lb : Int) ≤ at_) = true := by simpa using hat2
        go_wp2
        go_ret
        exact ⟨rfl, HF.out⟩
      · obtain ⟨k, rfl⟩ := Int.eq_ofNat_of_zero_le (by omega : 0 ≤ at_)
        have q2 : decide ((Lb : Int) ≤ (k : Int)) = false := by simp; omega
        have q3 : decide (Lb ≤ k) = false := by simp; omega
        have hk : k < Lb := by omega
        go_wp2_with fail
        refine (take_cut x k A3 c3 _ (by have := HB.out; omega) (by omega) (by omega) HL3.out).mono ?_
        rintro e w4 ⟨rfl, hb4⟩
        go_wp2
        go_ret
        exact ⟨rfl, below_then HF.out hb4⟩

set_option maxRecDepth 100000 in
theorem VarintLess_lifted (os : Os) (started : os.Started) (H : Type) (enc : TypeId × Value → H) :
    ReturnsInHanded {} Try.checked os 7 .any (Rows.varintLessSpec.pre6 enc Try.prog Try.f7 Rows.varintLessRow.domain false) (Rows.varintLessSpec.post enc Try.prog Try.f7 false true false false) := by
  refine returnsInHanded_of_change (C := Try.checked) own started (by kernel_rfl) Try.func7
    (ChangeSpec.witness6 (enc := enc) (C := Try.checked) false ⟨#[], #[.int .u64 0, .int .u64 0, .int .i64 0], []⟩ 8 (by kernel_rfl) (by kernel_rfl) (by kernel_rfl) (by kernel_rfl)) ?_
  intro W base args ds gs before hval0 hW hcnd _
  have hval : ∀ (j : Nat) t v, Try.f7.params[j]? = some t → args[j]? = some v → Value.okWide Try.prog W .any base t v := hval0
  have hW' := hW
  obtain ⟨p, q, hT0, hV, rfl, hfz, hnd⟩ := hW
  have hA : DataW.TrodAll enc Try.prog W 0 (fun _ => true) true Try.f7.params.toList args.toList ds p := hT0
  rw [Try.params7] at hA hval
  obtain ⟨v0, vs0, d0, ds0, p0, q0, hargs, rfl, rfl, h0, r0⟩ := trodAll_cons hA
  obtain ⟨v1, vs1, d1, ds1, p1, q1, rfl, rfl, rfl, h1, r1⟩ := trodAll_cons r0
  obtain ⟨v2, vs2, d2, ds2, p2, q2, rfl, rfl, rfl, h2, r2⟩ := trodAll_cons r1
  obtain ⟨rfl, rfl, rfl⟩ := trodAll_nil r2
  obtain rfl : args = #[v0, v1, v2] := by cases args; simp_all
  obtain ⟨rfl, rfl⟩ := trodVars_none hV
  obtain ⟨a0, rfl, rfl, rfl, w0⟩ := open_int Try.underlying23 (hval 0 23 v0 rfl rfl) h0
  obtain ⟨a1, rfl, rfl, rfl, w1⟩ := open_int Try.underlying23 (hval 1 23 v1 rfl rfl) h1
  obtain ⟨a2, rfl, rfl, rfl, w2⟩ := open_int Try.underlying3 (hval 2 3 v2 rfl rfl) h2
  clear hT0 hval0
  refine (VarintLess_walk W a0 (wf_u64 w0).1 (wf_u64 w0).2 a1 (wf_u64 w1).1 (wf_u64 w1).2 a2 (wf_i64 w2).1 (wf_i64 w2).2).mono fun e W' ⟨he, hb⟩ => ?_
  subst he
  exact ⟨_, rfl, law_post laidOut Try.underlying4 (by kernel_rfl) (by kernel_rfl) rfl hW' rfl hb⟩

theorem VarintLess_over : Rows.varintLessRow.holds Try.pinned (OpenSpec.ofChange Rows.varintLessSpec) :=
  OpenClaim.holds_of_wide 7 Try.f7 rfl rfl rfl rfl rfl rfl rfl ⟨rfl, rfl, rfl, rfl, rfl⟩ rfl rfl rfl rfl rfl (by kernel_rfl) Try.func7 (by kernel_rfl)
    (of_decide_eq_true (by kernel_rfl)) (by unfold Func.isWrapper; first | (rw [if_pos (by decide +kernel)]; kernel_rfl) | (rw [if_neg (by decide +kernel)]; exact ⟨rfl, rfl⟩))
    (fun os started H enc _ => VarintLess_lifted os started H enc)

theorem VarintLess_holds : Rows.VarintLessSaid := VarintLess_over
#print axioms VarintLess_holds
end Go.Proofs.Ytljnklmmldeokaa
