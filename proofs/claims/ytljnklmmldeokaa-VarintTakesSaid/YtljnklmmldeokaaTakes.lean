/- The statement VarintTakes: for any bytes, with a sign or without, the law answers true. No condition. -/
import Derived.Test.YtljnklmmldeokaaShown
import Derived.Test.YtljnklmmldeokaaLaw
namespace Go.Proofs.Ytljnklmmldeokaa
open Go.RowKit Go.ChangeShapes Go.WideShapes Go.ChangeAt

theorem few_is (A : Option Addr) (n0 n c : Nat) (hc0 : n0 ≤ c) (hci : (c : Int) ≤ 9223372036854775807) (hn : n = min n0 300) (w : World) :
    Calls Try.prog 9 #[.slice A n0 c] w fun e w' => e = .returned (.slice A n c) ∧ w = w' := by
  subst hn; exact few_any A n0 c w hc0 hci
def TakenN (o : Option (Int × List UInt8)) : Int := match o with | none => 0 | some p => p.1
def TakenR (o : Option (Int × List UInt8)) : List UInt8 := match o with | none => [] | some p => p.2
def TakenE (o : Option (Int × List UInt8)) : Int := match o with | none => 2 | some _ => 0

theorem isB_nil (w : World) : IsB [] (.slice none 0 0) w := ⟨none, 0, rfl, by simp, by simp, by unfold maxLen; omega, Lies.nil⟩

theorem RetT.parts {k : IntKind} {w w' : World} {o : Option (Int × List UInt8)} {e : Ending} (h : RetT k w o e w') :
    ∃ r, e = .returned (.tuple #[.int k (TakenN o), r, .int .i64 (TakenE o)]) ∧ IsB (TakenR o) r w' ∧ Below w.heap.size w w' := by
  cases o with
  | none => exact ⟨_, h.1, isB_nil _, h.2⟩
  | some p =>
    obtain ⟨A, c, h1, h2, h3, h4, h5, h6⟩ := h
    exact ⟨_, h1, ⟨A, c, rfl, h2, h3, h4, h5⟩, h6⟩

theorem take_isB {l : List UInt8} {v : Value} {w : World} (h : IsB l v w) (hl : l.length ≤ 1000000) : Calls Try.prog 14 #[v] w (RetT .u64 w ((vtake l).map fun p => ((p.1 : Int), p.2))) := by
  obtain ⟨A, c, rfl, h2, h3, h4, h5⟩ := h
  exact take_any A _ c l w h2 rfl h3 hl h5
theorem rtake_isB {l : List UInt8} {v : Value} {w : World} (h : IsB l v w) (hl : l.length ≤ 1000000) : Calls Try.prog 15 #[v] w (RetT .u64 w ((vtake l).map fun p => ((p.1 : Int), p.2))) := by
  obtain ⟨A, c, rfl, h2, h3, h4, h5⟩ := h
  exact rtake_any A _ c l w h2 rfl h3 hl h5
theorem takeInt_isB {l : List UInt8} {v : Value} {w : World} (s : Bool) (h : IsB l v w) (hl : l.length ≤ 1000000) : Calls Try.prog 16 #[v, .bool s] w (RetT .i64 w (vtint l s)) := by
  obtain ⟨A, c, rfl, h2, h3, h4, h5⟩ := h
  exact takeInt_any A _ c s l w h2 rfl h3 hl h5
theorem rtakeInt_isB {l : List UInt8} {v : Value} {w : World} (s : Bool) (h : IsB l v w) (hl : l.length ≤ 1000000) : Calls Try.prog 17 #[v, .bool s] w (RetT .i64 w (vtint l s)) := by
  obtain ⟨A, c, rfl, h2, h3, h4, h5⟩ := h
  exact rtakeInt_any A _ c s l w h2 rfl h3 hl h5

set_option maxHeartbeats 1000000 in
set_option maxRecDepth 100000 in
theorem VarintTakes_walk (w : World) (A : Option Addr) (n0 c : Nat) (l0 : List UInt8) (hA0 : A = none → n0 = 0) (hn0 : l0.length = n0) (hc0 : n0 ≤ c) (hm0 : c ≤ maxLen) (hl0 : Lies w A (l0.map bv)) (s : Bool) :
    Calls Try.prog 4 #[.slice A n0 c, .bool s] w fun e w' => e = .returned (.bool true) ∧ Below w.heap.size w w' := by
  have hci : (c : Int) ≤ 9223372036854775807 := by unfold maxLen at hm0; omega
  have HM := Lib.hid hm0
  clear hm0
  -- what is kept of the bytes
  obtain ⟨n, hmin⟩ : ∃ n, n = min n0 300 := ⟨_, rfl⟩
  obtain ⟨l, hl⟩ : ∃ l, l = l0.take n := ⟨_, rfl⟩
  have hn : l.length = n := by rw [hl, List.length_take]; omega
  have hA : A = none → n = 0 := fun h => by have := hA0 h; omega
  have hnc : n ≤ c := by omega
  have hnb : n ≤ 300 := by omega
  have hlies : Lies w A (l.map bv) := by rw [hl, List.map_take]; exact hl0.take n
  have HMIN := Lib.hid hmin
  clear hl hmin hA0 hn0 hl0
  have hml : (l.map bv).length = n := by simpa using hn
  have HN := Lib.hid hn
  have HML := Lib.hid hml
  clear hn hml
  obtain ⟨o1, ho1⟩ : ∃ o, o = (vtake l).map fun p => ((p.1 : Int), p.2) := ⟨_, rfl⟩
  obtain ⟨o2, ho2⟩ : ∃ o, o = vtint l s := ⟨_, rfl⟩
  have H1 := Lib.hid ho1
  have H2 := Lib.hid ho2
  clear ho1 ho2
  go_enter Try.func4, Try.ntmps4
  go_wp2_with fail
  refine (shown_any _).mono ?_
  rintro e w1 ⟨rfl, hb1⟩
  have hl1 := hlies.below hb1
  have HB1 := Lib.hid hb1
  clear hb1
  go_wp2_with fail
  refine (few_is _ _ _ _ hc0 hci HMIN.out _).mono ?_
  rintro e w2 ⟨rfl, rfl⟩
  have hz1 := HB1.out.size
  have hbA : Below w.heap.size w (w1.alloc (.cells #[] 5)) := HB1.out.alloc hz1 _
  have hlA := hlies.below hbA
  have hown0 : (w1.alloc (.cells #[] 5)).ownsRow w.heap.size 5 1 (.slice (some ⟨w1.heap.size, 0, none⟩) 0 0) 0 [] := World.ownsRow_made w1 #[] 0 hz1 (by unfold maxLen; omega) (by simp)
  have hzz : w.heap.size ≤ (w1.alloc (.cells #[] 5)).heap.size := by simp; omega
  go_wp2_with (at_builtin; refine wpList_join elemB rfl _ _ rfl w.heap.size _ _ _ _ _ _ (l.map bv) w rfl rfl hA HML.out hlA (bv_one l) hown0 hbA hzz (by omega) (by omega) ?_)
  intro v3 w3 hown3 hb3 _ _
  have hB3 : IsB l v3 w3 := by
    obtain ⟨v, hv, h3, _⟩ := (ret_own (w0 := w) (l := l) (by simpa using hown3) hb3).isB
    injection hv with hv
    subst hv
    exact h3
  have hbB : IsB l (.slice A n c) w3 := ⟨A, c, by rw [HN.out], fun h => by rw [HN.out]; exact hA h, by rw [HN.out]; exact hnc, HM.out, hlies.below hb3⟩
  have hl300 : l.length ≤ 1000000 := by rw [HN.out]; omega
  have KB3 := Lib.hid hB3
  have KbB := Lib.hid hbB
  have HB3 := Lib.hid hb3
  have HL := Lib.hid hl300
  clear hown3 hown0 hlA hbA hzz hl1 hB3 hbB hb3 hl300
  go_wp2_with fail
  refine (take_isB KB3.out HL.out).mono ?_
  intro e w4 h4
  rw [← H1.out] at h4
  obtain ⟨r4, rfl, hr4, hb4⟩ := h4.parts
  have HR4 := Lib.hid hr4
  have HB4 := Lib.hid hb4
  clear h4 hr4 hb4
  go_wp2_with fail
  refine (rtake_isB (KbB.out.below HB4.out) HL.out).mono ?_
  intro e w5 h5
  rw [← H1.out] at h5
  obtain ⟨r5, rfl, hr5, hb5⟩ := h5.parts
  have HR5 := Lib.hid hr5
  have HB5 := Lib.hid (below_then HB4.out hb5)
  have HR4b := Lib.hid (HR4.out.below hb5)
  clear h5 hr5 hb5
  go_wp2_with fail
  refine (takeInt_isB _ (KB3.out.below HB5.out) HL.out).mono ?_
  intro e w6 h6
  rw [← H2.out] at h6
  obtain ⟨r6, rfl, hr6, hb6⟩ := h6.parts
  have HR6 := Lib.hid hr6
  have HB6 := Lib.hid (below_then HB5.out hb6)
  have HR4c := Lib.hid (HR4b.out.below hb6)
  have HR5c := Lib.hid (HR5.out.below hb6)
  clear h6 hr6 hb6
  go_wp2_with fail
  refine (rtakeInt_isB _ (KbB.out.below HB6.out) HL.out).mono ?_
  intro e w7 h7
  rw [← H2.out] at h7
  obtain ⟨r7, rfl, hr7, hb7⟩ := h7.parts
  have t4 := textB (HR4c.out.below hb7)
  have t5 := textB (HR5c.out.below hb7)
  have t6 := textB (HR6.out.below hb7)
  have t7 := textB hr7
  have tO := textB (KB3.out.below (below_then HB6.out hb7))
  have tB := textB (KbB.out.below (below_then HB6.out hb7))
  have hfin := below_then (below_then HB3.out HB6.out) hb7
  have HF := Lib.hid hfin
  clear h7 hr7 hb7 hfin
  go_wp2
  go_ret
  exact ⟨rfl, HF.out⟩

set_option maxRecDepth 100000 in
theorem VarintTakes_lifted (os : Os) (started : os.Started) (H : Type) (enc : TypeId × Value → H) :
    ReturnsInHanded {} Try.checked os 4 .any (Rows.varintTakesSpec.pre6 enc Try.prog Try.f4 Rows.varintTakesRow.domain false) (Rows.varintTakesSpec.post enc Try.prog Try.f4 false true false false) := by
  refine returnsInHanded_of_change (C := Try.checked) own started (by kernel_rfl) Try.func4
    (ChangeSpec.witness6 (enc := enc) (C := Try.checked) false ⟨#[], #[.slice none 0 0, .bool false], []⟩ 8 (by kernel_rfl) (by kernel_rfl) (by kernel_rfl) (by kernel_rfl)) ?_
  intro W base args ds gs before hval0 hW hcnd _
  have hval : ∀ (j : Nat) t v, Try.f4.params[j]? = some t → args[j]? = some v → Value.okWide Try.prog W .any base t v := hval0
  have hW' := hW
  obtain ⟨p, q, hT0, hV, rfl, hfz, hnd⟩ := hW
  have hA : DataW.TrodAll enc Try.prog W 0 (fun _ => true) true Try.f4.params.toList args.toList ds p := hT0
  rw [Try.params4] at hA hval
  obtain ⟨v0, vs0, d0, ds0, p0, q0, hargs, rfl, rfl, h0, r0⟩ := trodAll_cons hA
  obtain ⟨v1, vs1, d1, ds1, p1, q1, rfl, rfl, rfl, h1, r1⟩ := trodAll_cons r0
  obtain ⟨rfl, rfl, rfl⟩ := trodAll_nil r1
  obtain rfl : args = #[v0, v1] := by cases args; simp_all
  obtain ⟨rfl, rfl⟩ := trodVars_none hV
  have hlt0 : ∀ x ∈ p0, x.block < W.heap.size := fun x hx => hW'.lt x (by simp [hx])
  obtain ⟨A0, n0, c0, l0, rfl, hA0, hn0, hc0, hm0, hl0⟩ := open_bytes Try.underlying22 Try.underlying5 (by kernel_rfl) (hval 0 22 v0 rfl rfl) h0 hlt0
  obtain ⟨a1, rfl, rfl, rfl⟩ := open_bool Try.underlying4 (hval 1 4 v1 rfl rfl) h1
  clear hT0 hval0
  refine (VarintTakes_walk W A0 n0 c0 l0 hA0 hn0 hc0 hm0 hl0 a1).mono fun e W' ⟨he, hb⟩ => ?_
  subst he
  exact ⟨_, rfl, law_post laidOut Try.underlying4 (by kernel_rfl) (by kernel_rfl) rfl hW' rfl hb⟩

theorem VarintTakes_over : Rows.varintTakesRow.holds Try.pinned (OpenSpec.ofChange Rows.varintTakesSpec) :=
  OpenClaim.holds_of_wide 4 Try.f4 rfl rfl rfl rfl rfl rfl rfl ⟨rfl, rfl, rfl, rfl, rfl⟩ rfl rfl rfl rfl rfl (by kernel_rfl) Try.func4 (by kernel_rfl)
    (of_decide_eq_true (by kernel_rfl)) (by unfold Func.isWrapper; first | (rw [if_pos (by decide +kernel)]; kernel_rfl) | (rw [if_neg (by decide +kernel)]; exact ⟨rfl, rfl⟩))
    (fun os started H enc _ => VarintTakes_lifted os started H enc)

theorem VarintTakes_holds : Rows.VarintTakesSaid := VarintTakes_over
#print axioms VarintTakes_holds
end Go.Proofs.Ytljnklmmldeokaa
