/- The statement BitsBack: for any numbers, any width and any bytes behind the law answers true. No condition. -/
import Derived.Test.YtaoadigjkmadfaaBShown
import Derived.Test.YtaoadigjkmadfaaBRPack
import Derived.Test.YtaoadigjkmadfaaBRUnp
import Derived.Test.YtaoadigjkmadfaaLaw
namespace Go.Proofs.Ytaoadigjkmadfaa
open Go.RowKit Go.ChangeShapes Go.WideShapes Go.ChangeAt

def lows (W : Nat) (l : List Nat) : List Nat := l.map fun x => x % 2 ^ W
theorem lows_len (W : Nat) (l : List Nat) : (lows W l).length = l.length := by simp [lows]
theorem lows_lt (W : Nat) (l : List Nat) : ∀ x ∈ lows W l, x < 2 ^ W := by
  intro x hx
  obtain ⟨y, _, rfl⟩ := List.mem_map.1 hx
  exact Nat.mod_lt _ (Nat.pow_pos (by omega))
theorem lows_snoc (W : Nat) (l : List Nat) (k : Nat) (h : k < l.length) : lows W (l.take (k + 1)) = lows W (l.take k) ++ [l[k] % 2 ^ W] := by
  rw [List.take_succ_eq_append_getElem h, lows, lows, List.map_append]; rfl
theorem unpacks_back {l : List Nat} {W : Nat} (h : ∀ x ∈ l, x < 2 ^ W) (b : List UInt8) : unpacks (bpack l W ++ b) l.length W = (l, b, 0) := by
  have hlen := bpack_len l W
  have ht : (bpack l W ++ b).take (bsize l.length W) = bpack l W := by rw [← hlen]; simp
  have hd : (bpack l W ++ b).drop (bsize l.length W) = b := by rw [← hlen]; simp
  unfold unpacks
  rw [if_neg (by rw [List.length_append, hlen]; omega), ht, hd, if_pos (bpack_spare h), bnums_bpack h]
theorem tmod65 (K : Int) : -64 ≤ K.tmod 65 ∧ K.tmod 65 ≤ 64 := by
  rcases Int.le_total 0 K with h | h
  · rw [Int.tmod_eq_emod_of_nonneg h]; omega
  · have h1 : K.tmod 65 = -((-K).tmod 65) := by rw [Int.neg_tmod]; omega
    rw [h1, Int.tmod_eq_emod_of_nonneg (by omega)]; omega
def BackRel (l : List Nat) (N W : Nat) (w : World) (v i : Value) (wr : World) : Prop :=
  ∃ k : Nat, k ≤ N ∧ i = .int .i64 (k : Int) ∧ wr.ownsRow w.heap.size 36 1 v k ((lows W (l.take k)).map uv) ∧ Below w.heap.size w wr ∧ w.heap.size ≤ wr.heap.size
theorem low_word (x W Q L : Nat) (hx : x < 2 ^ 64) (hW : W < 64) (hQ : Q = 2 ^ W) (hL : L = Q - 1) :
    IntKind.u64.wrap ((2 : Int) ^ W) = (Q : Int) ∧ IntKind.u64.wrap ((Q : Int) - 1) = (L : Int) ∧ bits .and .u64 (x : Int) (L : Int) = ((x % 2 ^ W : Nat) : Int) := by
  have h1 : 2 ^ W < 2 ^ 64 := Nat.pow_lt_pow_right (by omega) hW
  have h2 : 1 ≤ 2 ^ W := Nat.one_le_two_pow
  have h3 : ((2 : Int) ^ W) = (Q : Int) := by rw [hQ]; simp
  refine ⟨by rw [h3, IntKind.wrap_u64]; omega, by rw [IntKind.wrap_u64]; omega, ?_⟩
  rw [u64_and _ _ (by omega) (by omega) (by omega) (by omega), Int.toNat_natCast, Int.toNat_natCast, hL, hQ, Nat.and_two_pow_sub_one_eq_mod]

set_option maxHeartbeats 10000000 in
set_option maxRecDepth 100000 in
theorem BitsBack_walk (w : World) (A : Option Addr) (n c : Nat) (l : List Nat) (_hA0 : A = none → n = 0) (hn0 : l.length = n) (hc0 : n ≤ c) (hm0 : c ≤ maxLen) (hl0 : Lies w A (l.map uv)) (h064 : ∀ x ∈ l, x < 2 ^ 64)
    (K : Int) (_K0 : -9223372036854775808 ≤ K) (_K1 : K ≤ 9223372036854775807)
    (A2 : Option Addr) (n20 c2 : Nat) (l20 : List UInt8) (hA20 : A2 = none → n20 = 0) (hn20 : l20.length = n20) (hc20 : n20 ≤ c2) (hm20 : c2 ≤ maxLen) (hl20 : Lies w A2 (l20.map bv)) :
    Calls Try.prog 5 #[.slice A n c, .int .i64 K, .slice A2 n20 c2] w fun e w' => e = .returned (.bool true) ∧ Below w.heap.size w w' := by
  have hci : (c : Int) ≤ 9223372036854775807 := by unfold maxLen at hm0; omega
  have hci2 : (c2 : Int) ≤ 9223372036854775807 := by unfold maxLen at hm20; omega
  have HN := Lib.hid hn0
  have H64 := Lib.hid h064
  clear hm0 hn0 h064
  obtain ⟨n2, hmin2⟩ : ∃ n2, n2 = min n20 100 := ⟨_, rfl⟩
  obtain ⟨l2, hl2⟩ : ∃ l2, l2 = l20.take n2 := ⟨_, rfl⟩
  have hn2 : l2.length = n2 := by rw [hl2, List.length_take]; omega
  have hA2 : A2 = none → n2 = 0 := fun h => by have := hA20 h; omega
  have hnc2 : n2 ≤ c2 := by omega
  have hnb2 : n2 ≤ 100 := by omega
  have hlies2 : Lies w A2 (l2.map bv) := by rw [hl2, List.map_take]; exact hl20.take n2
  clear hl2 hA20 hn20 hl20
  have hml2 : (l2.map bv).length = n2 := by simpa using hn2
  have hI2 : IsB l2 (.slice A2 n2 c2) w := ⟨A2, c2, by rw [hn2], fun h => by rw [hn2]; exact hA2 h, by rw [hn2]; exact hnc2, hm20, hlies2⟩
  have HI2 := Lib.hid hI2
  have HML2 := Lib.hid hml2
  have HN2 := Lib.hid hn2
  clear hI2 hml2 hn2 hm20
  obtain ⟨N, hN⟩ : ∃ N, N = min n 300 := ⟨_, rfl⟩
  have hNn : N ≤ n := by omega
  have hN3 : N ≤ 300 := by omega
  obtain ⟨T, hT⟩ : ∃ T, T = K.tmod 65 := ⟨_, rfl⟩
  have hT0 : -64 ≤ T ∧ T ≤ 64 := by rw [hT]; exact tmod65 K
  obtain ⟨hT0, hT1⟩ := hT0
  have htm : K.tmod 65 = T := hT.symm
  have htw : IntKind.i64.wrap (K.tmod 65) = T := by rw [htm, IntKind.wrap_i64]; omega
  have HNN := Lib.hid hN
  clear hT hN
  obtain ⟨W, hW⟩ : ∃ W : Nat, W = T.natAbs := ⟨_, rfl⟩
  have hW64 : W ≤ 64 := by omega
  rcases (by omega : T = (W : Int) ∨ (T < 0 ∧ -T = (W : Int))) with rfl | ⟨hneg, hnW⟩
  all_goals
    clear hW
    go_enter Try.func5, Try.ntmps5
    go_wp2_with fail
    refine (shown_any _).mono ?_
    rintro e w1 ⟨rfl, hb1⟩
    have hz1 := hb1.size
    have hbA : Below w.heap.size w (w1.alloc (.cells #[] 36)) := hb1.alloc hz1 _
    have hown0 : (w1.alloc (.cells #[] 36)).ownsRow w.heap.size 36 1 (.slice (some ⟨w1.heap.size, 0, none⟩) 0 0) 0 [] := World.ownsRow_made w1 #[] 0 hz1 (by unfold maxLen; omega) (by simp)
    have hzz : w.heap.size ≤ (w1.alloc (.cells #[] 36)).heap.size := by simp; omega
    have d0 : decide ((W : Int) < 0) = false := decide_eq_false (by omega)
    clear hb1
    go_wp2
    clear htm htw
    go_loopw [9, 10] (BackRel l N W w) (fun _ i _ => N - (intOf i).toNat)
    case atStart => exact ⟨0, by omega, rfl, by simpa [lows] using hown0, hbA, hzz⟩
    case round =>
      obtain ⟨k, hkN, rfl, hown, hb, hwz⟩ := hrel
      clear hbA hown0 hzz
      by_cases hlt : k < N
      · have hkn : (k : Int) < (n : Int) := by omega
        have hk3 : (k : Int) < 300 := by omega
        have hkl : k < l.length := by have := HN.out; omega
        obtain ⟨ad, rfl, _, hcell⟩ := (hl0.below hb).cell (k := k) (by simpa using hkl)
        obtain ⟨x, hx⟩ : ∃ x : Nat, x = l[k] := ⟨_, rfl⟩
        have hcx : wr.cell? (ad.add k) = some (.int .u64 (x : Int)) := by rw [hcell, List.getElem_map, hx]; rfl
        have hx64 : x < 2 ^ 64 := by rw [hx]; exact H64.out _ (List.getElem_mem hkl)
        obtain ⟨y, hy⟩ : ∃ y, y = x % 2 ^ W := ⟨_, rfl⟩
        have hnew : (lows W (l.take k)).map uv ++ [Value.int .u64 (y : Int)] = (lows W (l.take (k + 1))).map uv := by
          rw [lows_snoc W l k hkl, List.map_append, ← hx, ← hy]; rfl
        have HNew := Lib.hid hnew
        by_cases hW4 : W < 64
        · obtain ⟨Q, hQ⟩ : ∃ Q, Q = 2 ^ W := ⟨_, rfl⟩
          obtain ⟨L, hL⟩ : ∃ L, L = Q - 1 := ⟨_, rfl⟩
          obtain ⟨hq1, hq2, hq3⟩ := low_word x W Q L hx64 hW4 hQ hL
          rw [← hy] at hq3
          have hW4i : (W : Int) < 64 := by omega
          clear hx hcell hx64 hy hnew hQ hL
          go_wp2_with (at_builtin; go_must (refine wpList_push elemU rfl _ _ rfl w.heap.size _ k _ (.int .u64 (y : Int)) wr w rfl rfl rfl rfl hown hb hwz (by omega) (by omega) ?_))
          intro v5 w5 hown5 hb5 _ _
          rw [HNew.out] at hown5
          go_wp2
          go_roundw
          case rel => exact ⟨k + 1, by omega, by go_num, hown5, hb5, hb5.size⟩
          case measure => simp [intOf]; omega
        · have hxy : y = x := by
            rw [hy, show W = 64 by omega]
            exact Nat.mod_eq_of_lt hx64
          subst hxy
          have hW4d : decide ((W : Int) < 64) = false := decide_eq_false (by omega)
          clear hx hcell hx64 hy hnew
          go_wp2_with (at_builtin; go_must (refine wpList_push elemU rfl _ _ rfl w.heap.size _ k _ (.int .u64 (y : Int)) wr w rfl rfl rfl rfl hown hb hwz (by omega) (by omega) ?_))
          intro v5 w5 hown5 hb5 _ _
          rw [HNew.out] at hown5
          go_wp2
          go_roundw
          case rel => exact ⟨k + 1, by omega, by go_num, hown5, hb5, hb5.size⟩
          case measure => simp [intOf]; omega
      · obtain rfl : k = N := by omega
        obtain ⟨O, hO⟩ : ∃ O, O = lows W (l.take k) := ⟨_, rfl⟩
        have hOl : O.length = k := by rw [hO, lows_len, List.length_take]; have := HN.out; omega
        have hOW : ∀ x ∈ O, x < 2 ^ W := by rw [hO]; exact lows_lt W _
        have hO64 : ∀ x ∈ O, x < 2 ^ 64 := fun x hx => Nat.lt_of_lt_of_le (hOW x hx) (Nat.pow_le_pow_right (by omega) hW64)
        rw [← hO] at hown
        have hU : IsU O _ wr := isU_own hown
        obtain ⟨A9, c9, rfl, hA9, hc9, hm9, hl9⟩ := hU
        rw [hOl] at hA9 hc9 ⊢
        have hU : IsU O (.slice A9 k c9) wr := ⟨A9, c9, by rw [hOl], by rw [hOl]; exact hA9, by rw [hOl]; exact hc9, hm9, hl9⟩
        obtain ⟨m, hm⟩ : ∃ m, m = bsize k W := ⟨_, rfl⟩
        have hm4 : m ≤ 32768 := by have := prod_le (show k ≤ 4096 by omega) hW64; unfold bsize at hm; omega
        have hpk := pack_is (W : Int) hU (by omega) hO64
        rw [packsAny_in _ _ hW64, packs_ok hOW] at hpk
        obtain ⟨bp, hbp⟩ : ∃ bp, bp = bpack O W := ⟨_, rfl⟩
        rw [← hbp] at hpk
        have hbl : bp.length = m := by rw [hbp, bpack_len, hOl, hm]
        have hsz := fun w => size_in k W w (by omega) hW64
        rw [← hm] at hsz
        have hun : unpacksAny (bp ++ l2) (k : Int) (W : Int) = (O, l2, 0) := by
          rw [unpacksAny_in _ _ _ (by omega) hW64, hbp]
          have := unpacks_back hOW l2
          rw [hOl] at this
          exact this
        have HPK := Lib.hid hpk
        have HBL := Lib.hid hbl
        have HSZ := Lib.hid hsz
        have HUN := Lib.hid hun
        have HU := Lib.hid hU
        have HB := Lib.hid hb
        have HOl := Lib.hid hOl
        have hqq : (O == O) = true := by simp
        clear hO hOl hOW hO64 hpk hbl hsz hun hU hm hbp hl9 hown
        have hx : (k < n ∧ decide ((k : Int) < 300) = false) ∨ decide (k < n) = false := by
          have := HNN.out
          by_cases h : k < n
          · exact .inl ⟨h, decide_eq_false (by omega)⟩
          · exact .inr (decide_eq_false h)
        rcases hx with ⟨hx1, hx2⟩ | hx1
        all_goals
          rcases (by omega : n20 ≤ 100 ∧ n2 = n20 ∨ 100 < n20 ∧ n2 = 100) with ⟨h6, rfl⟩ | ⟨h6, rfl⟩
          all_goals
            clear hmin2
            go_wp2_with fail
            refine HPK.out.mono ?_
            rintro e w2 ⟨v2, rfl, hv2, hb2⟩
            obtain ⟨B2, cb2, rfl, hBn, hBc, hBm, hBl⟩ := hv2
            simp only [HBL.out] at hBn hBc ⊢
            have hz2 := hb2.size
            have hb02 := below_then HB.out hb2
            have HU2 := Lib.hid (HU.out.below hb2)
            have hmB : (bp.map bv).length = m := by rw [List.length_map, HBL.out]
            have HMB := Lib.hid hmB
            have hown6 : (w2.alloc (.cells #[] 5)).ownsRow w2.heap.size 5 1 (.slice (some ⟨w2.heap.size, 0, none⟩) 0 0) 0 [] := World.ownsRow_made w2 #[] 0 (Nat.le_refl _) (by unfold maxLen; omega) (by simp)
            have hb6 : Below w2.heap.size w2 (w2.alloc (.cells #[] 5)) := (Below.refl _ _).alloc (Nat.le_refl _) _
            have hz6 : w2.heap.size ≤ (w2.alloc (.cells #[] 5)).heap.size := by simp
            have hlB6 := hBl.below hb6
            clear hmB hb2 hBl
            go_wp2_with (first | (go_at_call 12; refine (HSZ.out _).mono ?_; rintro e w' ⟨rfl, rfl⟩) | (at_builtin; go_must (refine wpList_join elemB rfl _ _ rfl w2.heap.size _ _ _ _ _ _ (bp.map bv) w2 rfl rfl hBn HMB.out hlB6 (bv_one bp) hown6 hb6 hz6 (by omega) (by omega) ?_)))
            intro v7 w7 hown7 hb7 _ _
            have hown7' : w7.ownsRow w2.heap.size 5 1 v7 m (bp.map bv) := by simpa using hown7
            have hz7 := hb7.size
            have hl27 := hlies2.below (below_then hb02 hb7)
            clear hown7 hlB6 hown6 hb6 hz6 hBn
            go_wp2_with (at_builtin; go_must (refine wpList_join elemB rfl _ _ rfl w2.heap.size _ _ _ _ _ _ (l2.map bv) w2 rfl rfl hA2 HML2.out hl27 (bv_one l2) hown7' hb7 hz7 (by omega) (by omega) ?_))
            intro v8 w8 hown8 hb8 _ _
            have hB8 : IsB (bp ++ l2) v8 w8 := isB_own (by rw [List.map_append]; exact hown8)
            have hun := unpack_is (k : Int) (W : Int) hB8 (by rw [List.length_append, HBL.out, HN2.out]; omega)
            rw [HUN.out] at hun
            have HUU := Lib.hid hun
            have HB8 := Lib.hid hb8
            have HI8 := Lib.hid (HI2.out.below (below_then hb02 hb8))
            clear hun hB8 hown8 hown7' hb7 hz7 hl27 hb8
            go_wp2_with fail
            refine HUU.out.mono ?_
            rintro e w9 ⟨u9, v9, rfl, hu9, hv9, hb9⟩
            have hS := same_is hu9 ((HU2.out.below HB8.out).below hb9) (by have := HOl.out; show O.length ≤ 1000000; omega) (by have := HOl.out; omega)
            rw [show (((O, l2, (0 : Int)) : List Nat × List UInt8 × Int).1 == O) = true from hqq] at hS
            have HS := Lib.hid hS
            have HV9 := Lib.hid hv9
            have HI9 := Lib.hid (HI8.out.below hb9)
            have HB9 := Lib.hid (below_then (below_then hb02 HB8.out) hb9)
            clear hu9 hv9 hb9 hS
            go_wp2_with fail
            refine HS.out.mono ?_
            rintro e wa ⟨rfl, hba⟩
            have hcv4 := textB (HV9.out.below hba)
            have hcv5 := textB (HI9.out.below hba)
            have HBa := Lib.hid (below_then HB9.out hba)
            clear hba
            go_wp2
            go_ret
            exact ⟨rfl, HBa.out⟩
set_option maxRecDepth 100000 in
theorem BitsBack_lifted (os : Os) (started : os.Started) (H : Type) (enc : TypeId × Value → H) :
    ReturnsInHanded {} Try.checked os 5 .any (Rows.bitsBackSpec.pre6 enc Try.prog Try.f5 Rows.bitsBackRow.domain false) (Rows.bitsBackSpec.post enc Try.prog Try.f5 false true false false) := by
  refine returnsInHanded_of_change (C := Try.checked) own started (by kernel_rfl) Try.func5
    (ChangeSpec.witness6 (enc := enc) (C := Try.checked) false ⟨#[], #[.slice none 0 0, .int .i64 0, .slice none 0 0], []⟩ 8 (by kernel_rfl) (by kernel_rfl) (by kernel_rfl) (by kernel_rfl)) ?_
  intro W base args ds gs before hval0 hW hcnd _
  have hval : ∀ (j : Nat) t v, Try.f5.params[j]? = some t → args[j]? = some v → Value.okWide Try.prog W .any base t v := hval0
  have hW' := hW
  obtain ⟨p, q, hT0, hV, rfl, hfz, hnd⟩ := hW
  have hA : DataW.TrodAll enc Try.prog W 0 (fun _ => true) true Try.f5.params.toList args.toList ds p := hT0
  rw [Try.params5] at hA hval
  obtain ⟨v0, vs0, d0, ds0, p0, q0, hargs, rfl, rfl, h0, r0⟩ := trodAll_cons hA
  obtain ⟨v1, vs1, d1, ds1, p1, q1, rfl, rfl, rfl, h1, r1⟩ := trodAll_cons r0
  obtain ⟨v2, vs2, d2, ds2, p2, q2, rfl, rfl, rfl, h2, r2⟩ := trodAll_cons r1
  obtain ⟨rfl, rfl, rfl⟩ := trodAll_nil r2
  obtain rfl : args = #[v0, v1, v2] := by cases args; simp_all
  obtain ⟨rfl, rfl⟩ := trodVars_none hV
  have hlt0 : ∀ x ∈ p0, x.block < W.heap.size := fun x hx => hW'.lt x (by simp [hx])
  obtain ⟨A0, n0, c0, l0, rfl, hA0, hn0, hc0, hm0, hl0, hw0⟩ := open_u64s Try.underlying22 Try.underlying36 (by kernel_rfl) (hval 0 22 v0 rfl rfl) h0 hlt0
  obtain ⟨a1, rfl, rfl, rfl, w1⟩ := open_int Try.underlying3 (hval 1 3 v1 rfl rfl) h1
  have hlt2 : ∀ x ∈ p2, x.block < W.heap.size := fun x hx => hW'.lt x (by simp [hx])
  obtain ⟨A2, n2, c2, l2, rfl, hA2, hn2, hc2, hm2, hl2⟩ := open_bytes Try.underlying26 Try.underlying5 (by kernel_rfl) (hval 2 26 v2 rfl rfl) h2 hlt2
  clear hT0 hval0
  refine (BitsBack_walk W A0 n0 c0 l0 hA0 hn0 hc0 hm0 hl0 hw0 a1 (wf_i64 w1).1 (wf_i64 w1).2 A2 n2 c2 l2 hA2 hn2 hc2 hm2 hl2).mono fun e W' ⟨he, hb⟩ => ?_
  subst he
  exact ⟨_, rfl, law_post laidOut Try.underlying4 (by kernel_rfl) (by kernel_rfl) rfl hW' rfl hb⟩

theorem BitsBack_over : Rows.bitsBackRow.holds Try.pinned (OpenSpec.ofChange Rows.bitsBackSpec) :=
  OpenClaim.holds_of_wide 5 Try.f5 rfl rfl rfl rfl rfl rfl rfl ⟨rfl, rfl, rfl, rfl, rfl⟩ rfl rfl rfl rfl rfl (by kernel_rfl) Try.func5 (by kernel_rfl)
    (of_decide_eq_true (by kernel_rfl)) (by unfold Func.isWrapper; first | (rw [if_pos (by decide +kernel)]; kernel_rfl) | (rw [if_neg (by decide +kernel)]; exact ⟨rfl, rfl⟩))
    (fun os started H enc _ => BitsBack_lifted os started H enc)

theorem BitsBack_holds : Rows.BitsBackSaid := BitsBack_over
#print axioms BitsBack_holds
end Go.Proofs.Ytaoadigjkmadfaa
