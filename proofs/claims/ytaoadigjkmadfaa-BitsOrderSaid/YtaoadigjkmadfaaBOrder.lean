/- The statement BitsOrder: for any two rows of bytes the law answers true. No condition. -/
import Derived.Test.YtaoadigjkmadfaaBShown
import Derived.Test.YtaoadigjkmadfaaBRUnp
import Derived.Test.YtaoadigjkmadfaaLaw
namespace Go.Proofs.Ytaoadigjkmadfaa
open Go.RowKit Go.ChangeShapes Go.WideShapes Go.ChangeAt

/-- One row stands ahead of another. -/
def lexl : List Nat → List Nat → Bool
  | x :: r, y :: s => decide (x < y) || (x == y && lexl r s)
  | _, _ => false
theorem pval_lex {w : Nat} : ∀ {a b : List Nat}, a.length = b.length → (∀ x ∈ a, x < 2 ^ w) → (∀ x ∈ b, x < 2 ^ w) → (pval w a < pval w b ↔ lexl a b = true)
  | [], [], _, _, _ => by simp [pval, lexl]
  | [], _ :: _, h, _, _ => by simp at h
  | _ :: _, [], h, _, _ => by simp at h
  | x :: r, y :: s, h, ha, hb => by
    have hl : r.length = s.length := by simpa using h
    have ih := pval_lex hl (fun z hz => ha z (by simp [hz])) (fun z hz => hb z (by simp [hz]))
    have h1 := pval_lt (l := r) (w := w) fun z hz => ha z (by simp [hz])
    have h2 := pval_lt (l := s) (w := w) fun z hz => hb z (by simp [hz])
    rw [pval, pval, hl, lexl]
    rw [hl] at h1
    generalize 2 ^ (w * s.length) = P at *
    rcases Nat.lt_trichotomy x y with hxy | hxy | hxy
    · have h3 : (x + 1) * P ≤ y * P := Nat.mul_le_mul_right _ hxy
      rw [Nat.add_mul] at h3
      simp [hxy]
      omega
    · subst hxy
      simp
      rw [← ih]
    · have h3 : (y + 1) * P ≤ x * P := Nat.mul_le_mul_right _ hxy
      rw [Nat.add_mul] at h3
      have hn : ¬ x < y := by omega
      have hne : ¬ x = y := by omega
      simp [hn, hne]
      omega
theorem bval_lex : ∀ {a b : List UInt8}, a.length = b.length → (bval a < bval b ↔ Op.bytesLess a b = true)
  | [], [], _ => by simp [bval, Op.bytesLess]
  | [], _ :: _, h => by simp at h
  | _ :: _, [], h => by simp at h
  | x :: r, y :: s, h => by
    have hl : r.length = s.length := by simpa using h
    have ih := bval_lex hl
    have h1 := bval_lt r
    have h2 := bval_lt s
    rw [bval, bval, hl, Op.bytesLess]
    rw [hl] at h1
    generalize 256 ^ s.length = P at *
    rcases Nat.lt_trichotomy x.toNat y.toNat with hxy | hxy | hxy
    · have h3 : (x.toNat + 1) * P ≤ y.toNat * P := Nat.mul_le_mul_right _ hxy
      rw [Nat.add_mul] at h3
      have hx : x < y := UInt8.lt_iff_toNat_lt.2 hxy
      simp [hx]
      omega
    · have hx : x = y := UInt8.toNat_inj.1 hxy
      subst hx
      have hn : ¬ x < x := by rw [UInt8.lt_iff_toNat_lt]; omega
      simp [hn]
      rw [← ih]
    · have h3 : (y.toNat + 1) * P ≤ x.toNat * P := Nat.mul_le_mul_right _ hxy
      rw [Nat.add_mul] at h3
      have hn : ¬ x < y := by rw [UInt8.lt_iff_toNat_lt]; omega
      have hne : ¬ x = y := by intro h; subst h; omega
      simp [hn, hne]
      omega
theorem pack_lex {a b : List Nat} {w : Nat} (h : a.length = b.length) (ha : ∀ x ∈ a, x < 2 ^ w) (hb : ∀ x ∈ b, x < 2 ^ w) : Op.bytesLess (bpack a w) (bpack b w) = lexl a b := by
  have h1 := bval_lex (a := bpack a w) (b := bpack b w) (by rw [bpack_len, bpack_len, h])
  have h2 := pval_lex h ha hb
  rw [bval_bpack ha, bval_bpack hb, h] at h1
  have h3 : pval w a * 2 ^ (8 * bsize b.length w - w * b.length) < pval w b * 2 ^ (8 * bsize b.length w - w * b.length) ↔ pval w a < pval w b := Nat.mul_lt_mul_right (Nat.pow_pos (by omega))
  rw [h3, h2] at h1
  cases hq : lexl a b <;> cases hr : Op.bytesLess (bpack a w) (bpack b w) <;> simp_all
def shs (l : List UInt8) : List Nat := l.map fun b => b.toNat / 8
theorem shs_len (l : List UInt8) : (shs l).length = l.length := by simp [shs]
theorem shs_lt (l : List UInt8) : ∀ x ∈ shs l, x < 2 ^ 5 := by
  intro x hx
  obtain ⟨y, _, rfl⟩ := List.mem_map.1 hx
  have := y.toNat_lt
  omega
theorem shs_snoc (l : List UInt8) (k : Nat) (h : k < l.length) : shs (l.take (k + 1)) = shs (l.take k) ++ [l[k].toNat / 8] := by
  rw [List.take_succ_eq_append_getElem h, shs, shs, List.map_append]; rfl
theorem lexl_drop {X Y : List Nat} {k : Nat} (hx : k < X.length) (hy : k < Y.length) : lexl (X.drop k) (Y.drop k) = (decide (X[k] < Y[k]) || (X[k] == Y[k] && lexl (X.drop (k + 1)) (Y.drop (k + 1)))) := by
  rw [List.drop_eq_getElem_cons hx, List.drop_eq_getElem_cons hy, lexl]
theorem ne_after {w : World} {base : Nat} {e : TypeId} {u v v' : Value} {n : Nat} {xs : List Value} (hu : w.ownsRow base e 1 u n xs) (hne : u.ownBlock ≠ v.ownBlock) (h : v'.ownBlock = v.ownBlock ∨ v'.ownBlock = some (w.heap.size + 1)) : u.ownBlock ≠ v'.ownBlock := by
  rcases h with h | h
  · rw [h]; exact hne
  · rw [h]
    intro hq
    have := (hu.lt _ hq).2
    omega
def OrdRel (l1 l2 : List UInt8) (n : Nat) (w : World) (u v i : Value) (wr : World) : Prop :=
  ∃ k : Nat, k ≤ n ∧ i = .int .i64 (k : Int) ∧ wr.ownsRow w.heap.size 36 1 u k ((shs (l1.take k)).map uv) ∧ wr.ownsRow w.heap.size 36 1 v k ((shs (l2.take k)).map uv) ∧ u.ownBlock ≠ v.ownBlock ∧ Below w.heap.size w wr ∧ w.heap.size ≤ wr.heap.size
def OrdRel2 (X Y : List Nat) (n : Nat) (w : World) (s i : Value) (wr : World) : Prop :=
  ∃ j : Nat, j ≤ n ∧ i = .int .i64 ((j : Int) - 1) ∧ s = .bool (lexl (X.drop j) (Y.drop j)) ∧ Below w.heap.size w wr

set_option maxHeartbeats 10000000 in
set_option maxRecDepth 100000 in
theorem BitsOrder_walk (w : World) (A1 : Option Addr) (n1 c1 : Nat) (l1 : List UInt8) (_hA1 : A1 = none → n1 = 0) (hn1 : l1.length = n1) (hc1 : n1 ≤ c1) (hm1 : c1 ≤ maxLen) (hl1 : Lies w A1 (l1.map bv))
    (A2 : Option Addr) (n2 c2 : Nat) (l2 : List UInt8) (_hA2 : A2 = none → n2 = 0) (hn2 : l2.length = n2) (hc2 : n2 ≤ c2) (hm2 : c2 ≤ maxLen) (hl2 : Lies w A2 (l2.map bv)) :
    Calls Try.prog 6 #[.slice A1 n1 c1, .slice A2 n2 c2] w fun e w' => e = .returned (.bool true) ∧ Below w.heap.size w w' := by
  have hci1 : (n1 : Int) ≤ 9223372036854775807 := by unfold maxLen at hm1; omega
  have hci2 : (n2 : Int) ≤ 9223372036854775807 := by unfold maxLen at hm2; omega
  have HN1 := Lib.hid hn1
  have HN2 := Lib.hid hn2
  clear hm1 hm2 hn1 hn2 hc1 hc2
  obtain ⟨n, hn⟩ : ∃ n, n = min (min n1 n2) 300 := ⟨_, rfl⟩
  have hmin : ∀ (ts : Array TypeId) (t : TypeId) (W : World), (Builtin.min_ ts t #[.int .i64 (n1 : Int), .int .i64 (n2 : Int), .int .i64 300]).run Try.prog W = .ok (.int .i64 (n : Int)) W := fun ts t W => by
    rw [run_min_int3]
    congr 2
    split <;> split <;> omega
  have hnn1 : n ≤ n1 := by omega
  have hnn2 : n ≤ n2 := by omega
  have hn3 : n ≤ 300 := by omega
  clear hn
  go_enter Try.func6, Try.ntmps6
  go_wp2_with fail
  refine (shown_any _).mono ?_
  rintro e w1 ⟨rfl, hb1⟩
  have hz1 := hb1.size
  have hownX : (w1.alloc (.cells #[] 36)).ownsRow w.heap.size 36 1 (.slice (some ⟨w1.heap.size, 0, none⟩) 0 0) 0 [] := World.ownsRow_made w1 #[] 0 hz1 (by unfold maxLen; omega) (by simp)
  have hownX2 := hownX.alloc (.cells #[] 36)
  have hownY : ((w1.alloc (.cells #[] 36)).alloc (.cells #[] 36)).ownsRow w.heap.size 36 1 (.slice (some ⟨w1.heap.size + 1, 0, none⟩) 0 0) 0 [] := by
    have := World.ownsRow_made (base := w.heap.size) (e := 36) (size := 1) (w1.alloc (.cells #[] 36)) #[] 0 (by simp; omega) (by unfold maxLen; omega) (by simp)
    simpa using this
  have hbA : Below w.heap.size w ((w1.alloc (.cells #[] 36)).alloc (.cells #[] 36)) := (hb1.alloc hz1 _).alloc (by simp; omega) _
  have hzA := hbA.size
  clear hb1 hownX
  go_wp2
  go_loopw [7, 8, 9] (OrdRel l1 l2 n w) (fun _ _ i _ => n - (intOf i).toNat)
  case atStart => exact ⟨0, by omega, rfl, by simpa [shs] using hownX2, by simpa [shs] using hownY, by simp [Value.ownBlock], hbA, hzA⟩
  case round =>
    obtain ⟨k, hkn, rfl, hX, hY, hne, hb, hwz⟩ := hrel
    clear hownX2 hownY hbA hzA hmin
    by_cases hlt : k < n
    · have hk1 : k < l1.length := by have := HN1.out; omega
      have hk2 : k < l2.length := by have := HN2.out; omega
      obtain ⟨ad1, rfl, had1, hcell1⟩ := hl1.cell (k := k) (by simpa using hk1)
      obtain ⟨ad2, rfl, had2, hcell2⟩ := hl2.cell (k := k) (by simpa using hk2)
      obtain ⟨x, hx⟩ : ∃ x : Nat, x = l1[k].toNat := ⟨_, rfl⟩
      obtain ⟨y, hy⟩ : ∃ y : Nat, y = l2[k].toNat := ⟨_, rfl⟩
      have hx8 : x < 256 := by rw [hx]; exact UInt8.toNat_lt _
      have hy8 : y < 256 := by rw [hy]; exact UInt8.toNat_lt _
      have hcx0 : w.cell? (ad1.add k) = some (.int .u8 (x : Int)) := by rw [hcell1, List.getElem_map, hx]; rfl
      have hcy0 : w.cell? (ad2.add k) = some (.int .u8 (y : Int)) := by rw [hcell2, List.getElem_map, hy]; rfl
      have hcx : wr.cell? (ad1.add k) = some (.int .u8 (x : Int)) := (hb.cell (by rw [add_block]; exact had1)).trans hcx0
      have hk1i : (k : Int) < (n1 : Int) := by omega
      have hk2i : (k : Int) < (n2 : Int) := by omega
      obtain ⟨p, hp⟩ : ∃ p : Nat, p = x / 8 := ⟨_, rfl⟩
      obtain ⟨q, hq⟩ : ∃ q : Nat, q = y / 8 := ⟨_, rfl⟩
      have hpi : (x : Int) / 8 = (p : Int) := by omega
      have hqi : (y : Int) / 8 = (q : Int) := by omega
      have hnew1 : (shs (l1.take k)).map uv ++ [Value.int .u64 (p : Int)] = (shs (l1.take (k + 1))).map uv := by
        rw [shs_snoc l1 k hk1, List.map_append, ← hx, ← hp]; rfl
      have hnew2 : (shs (l2.take k)).map uv ++ [Value.int .u64 (q : Int)] = (shs (l2.take (k + 1))).map uv := by
        rw [shs_snoc l2 k hk2, List.map_append, ← hy, ← hq]; rfl
      have HNew1 := Lib.hid hnew1
      have HNew2 := Lib.hid hnew2
      have HCY := Lib.hid hcy0
      clear hx hy hp hq hnew1 hnew2 hcell1 hcell2 hcx0 hcy0
      go_wp2_with (at_builtin; go_must (refine wpList_push elemU rfl _ _ rfl w.heap.size _ k _ (.int .u64 (p : Int)) wr w rfl rfl rfl rfl hX hb hwz (by omega) (by omega) ?_))
      intro v5 w5 hX5 hb5 hg5 hob5
      rw [HNew1.out] at hX5
      have hY5 := hY.kept hg5 (.inr (Ne.symm hne))
      have hcy : w5.cell? (ad2.add k) = some (.int .u8 (y : Int)) := (hb5.cell (by rw [add_block]; exact had2)).trans HCY.out
      have hz5 := hb5.size
      have hne5 := Ne.symm (ne_after hY (Ne.symm hne) hob5)
      clear hX hY hne hg5 hob5 hcx hb hwz
      go_wp2_with (at_builtin; go_must (refine wpList_push elemU rfl _ _ rfl w.heap.size _ k _ (.int .u64 (q : Int)) w5 w rfl rfl rfl rfl hY5 hb5 hz5 (by omega) (by omega) ?_))
      intro v6 w6 hY6 hb6 hg6 hob6
      rw [HNew2.out] at hY6
      have hX6 := hX5.kept hg6 (.inr hne5)
      have hne6 := ne_after hX5 hne5 hob6
      have hz6 := hb6.size
      go_wp2
      go_roundw
      case rel => exact ⟨k + 1, by omega, by go_num, hX6, hY6, hne6, hb6, hz6⟩
      case measure => simp [intOf]; omega
    · obtain rfl : k = n := by omega
      obtain ⟨X, hXd⟩ : ∃ X, X = shs (l1.take k) := ⟨_, rfl⟩
      obtain ⟨Y, hYd⟩ : ∃ Y, Y = shs (l2.take k) := ⟨_, rfl⟩
      have hXl : X.length = k := by rw [hXd, shs_len, List.length_take]; have := HN1.out; omega
      have hYl : Y.length = k := by rw [hYd, shs_len, List.length_take]; have := HN2.out; omega
      have hX5 : ∀ x ∈ X, x < 2 ^ 5 := by rw [hXd]; exact shs_lt _
      have hY5 : ∀ x ∈ Y, x < 2 ^ 5 := by rw [hYd]; exact shs_lt _
      rw [← hXd] at hX
      rw [← hYd] at hY
      have hUX : IsU X _ wr := isU_own hX
      have hUY : IsU Y _ wr := isU_own hY
      obtain ⟨AX, cX, rfl, hAX, hcX, hmX, hlX⟩ := hUX
      obtain ⟨AY, cY, rfl, hAY, hcY, hmY, hlY⟩ := hUY
      rw [hXl] at hAX hcX ⊢
      rw [hYl] at hAY hcY ⊢
      have hUX : IsU X (.slice AX k cX) wr := ⟨AX, cX, by rw [hXl], by rw [hXl]; exact hAX, by rw [hXl]; exact hcX, hmX, hlX⟩
      have hUY : IsU Y (.slice AY k cY) wr := ⟨AY, cY, by rw [hYl], by rw [hYl]; exact hAY, by rw [hYl]; exact hcY, hmY, hlY⟩
      have hpX := pack_is ((5 : Nat) : Int) hUX (by omega) (fun x hx => Nat.lt_of_lt_of_le (hX5 x hx) (by omega))
      rw [packsAny_in _ _ (by omega), packs_ok hX5] at hpX
      have hpY := fun (w' : World) (h : Below wr.heap.size wr w') => pack_is ((5 : Nat) : Int) (hUY.below h) (by omega) (fun x hx => Nat.lt_of_lt_of_le (hY5 x hx) (by omega))
      rw [packsAny_in _ _ (by omega), packs_ok hY5] at hpY
      have hord := pack_lex (w := 5) (by rw [hXl, hYl]) hX5 hY5
      have HPX := Lib.hid hpX
      have HPY := Lib.hid hpY
      have HOrd := Lib.hid hord
      have HXl := Lib.hid hXl
      have HYl := Lib.hid hYl
      have HB := Lib.hid hb
      clear hXd hYd hXl hYl hX5 hY5 hX hY hUX hUY hpX hpY hord hb hAX hAY hne
      generalize bpack X 5 = bX at *
      generalize bpack Y 5 = bY at *
      go_wp2_with fail
      refine HPX.out.mono ?_
      rintro e w2 ⟨v2, rfl, hv2, hb2⟩
      have HV2 := Lib.hid hv2
      have HB2 := Lib.hid hb2
      clear hv2 hb2
      go_wp2_with fail
      refine (HPY.out _ HB2.out).mono ?_
      rintro e w3 ⟨v3, rfl, hv3, hb3⟩
      have HV3 := Lib.hid hv3
      have HB3 := Lib.hid hb3
      have hlX3 := (hlX.below (below_then HB2.out hb3))
      have hlY3 := (hlY.below (below_then HB2.out hb3))
      clear hv3 hb3 hlX hlY
      go_wp2
      go_loopw [14, 15] (OrdRel2 X Y k w3) (fun _ i _ => (intOf i + 1).toNat)
      case atStart => exact ⟨k, Nat.le_refl _, rfl, by rw [List.drop_of_length_le (by have := HXl.out; omega)]; rfl, Below.refl _ _⟩
      case round =>
        obtain ⟨j, hjk, rfl, rfl, hb4⟩ := hrel
        by_cases hj0 : 0 < j
        · obtain ⟨K, rfl⟩ : ∃ K, j = K + 1 := ⟨j - 1, by omega⟩
          rw [show ((K + 1 : Nat) : Int) - 1 = (K : Int) by omega]
          have hKX : K < X.length := by have := HXl.out; omega
          have hKY : K < Y.length := by have := HYl.out; omega
          obtain ⟨adx, rfl, _, hcx⟩ := (hlX3.below hb4).cell (k := K) (by simpa using hKX)
          obtain ⟨ady, rfl, _, hcy⟩ := (hlY3.below hb4).cell (k := K) (by simpa using hKY)
          have hlex := lexl_drop hKX hKY
          obtain ⟨x, hx⟩ : ∃ x : Nat, x = X[K] := ⟨_, rfl⟩
          obtain ⟨y, hy⟩ : ∃ y : Nat, y = Y[K] := ⟨_, rfl⟩
          rw [List.getElem_map, ← hx] at hcx
          rw [List.getElem_map, ← hy] at hcy
          rw [← hx, ← hy] at hlex
          have hcx1 : wr.cell? (adx.add K) = some (.int .u64 (x : Int)) := hcx
          have hcy1 : wr.cell? (ady.add K) = some (.int .u64 (y : Int)) := hcy
          have hKki : (K : Int) < (k : Int) := by omega
          generalize lexl (List.drop (K + 1) X) (List.drop (K + 1) Y) = σ at *
          clear hx hy hcx hcy
          rcases Nat.lt_trichotomy x y with hxy | hxy | hxy
          · have e1 : decide (x < y) = true := decide_eq_true hxy
            have e2 : decide ((x : Int) < (y : Int)) = true := decide_eq_true (by omega)
            have HLex := Lib.hid (hlex.trans (show (decide (x < y) || (x == y && σ)) = true by rw [e1]; rfl))
            clear hlex
            go_wp2
            go_quiet (fail)
            go_wp2
            go_roundw
            case rel => exact ⟨K, by omega, rfl, by rw [HLex.out], below_drewN hb4 _⟩
            case measure => simp [intOf]
          · subst hxy
            have e1 : decide (x < x) = false := decide_eq_false (by omega)
            have e2 : decide ((x : Int) < (x : Int)) = false := decide_eq_false (by omega)
            have e3 : ((x : Int) == (x : Int)) = true := by simp
            have HLex := Lib.hid (hlex.trans (show (decide (x < x) || (x == x && σ)) = σ by rw [e1]; simp))
            clear hlex
            go_wp2
            go_quiet (fail)
            go_wp2
            go_roundw
            case rel => exact ⟨K, by omega, rfl, by rw [HLex.out], below_drewN hb4 _⟩
            case measure => simp [intOf]
          · have e1 : decide (x < y) = false := decide_eq_false (by omega)
            have e2 : decide ((x : Int) < (y : Int)) = false := decide_eq_false (by omega)
            have e4 : (x == y) = false := by simp; omega
            have e3 : ((x : Int) == (y : Int)) = false := by simp; omega
            have HLex := Lib.hid (hlex.trans (show (decide (x < y) || (x == y && σ)) = false by rw [e1, e4]; rfl))
            clear hlex
            go_wp2
            go_quiet (fail)
            go_wp2
            go_roundw
            case rel => exact ⟨K, by omega, rfl, by rw [HLex.out], below_drewN hb4 _⟩
            case measure => simp [intOf]
        · obtain rfl : j = 0 := by omega
          have hcv2 := textB ((HV2.out.below HB3.out).below hb4)
          have hcv3 := textB (HV3.out.below hb4)
          have HB4 := Lib.hid hb4
          rw [List.drop_zero, List.drop_zero, ← HOrd.out]
          clear hb4
          go_wp2
          go_ret
          exact ⟨rfl, below_then (below_then (below_then HB.out HB2.out) HB3.out) HB4.out⟩
set_option maxRecDepth 100000 in
theorem BitsOrder_lifted (os : Os) (started : os.Started) (H : Type) (enc : TypeId × Value → H) :
    ReturnsInHanded {} Try.checked os 6 .any (Rows.bitsOrderSpec.pre6 enc Try.prog Try.f6 Rows.bitsOrderRow.domain false) (Rows.bitsOrderSpec.post enc Try.prog Try.f6 false true false false) := by
  refine returnsInHanded_of_change (C := Try.checked) own started (by kernel_rfl) Try.func6
    (ChangeSpec.witness6 (enc := enc) (C := Try.checked) false ⟨#[], #[.slice none 0 0, .slice none 0 0], []⟩ 8 (by kernel_rfl) (by kernel_rfl) (by kernel_rfl) (by kernel_rfl)) ?_
  intro W base args ds gs before hval0 hW hcnd _
  have hval : ∀ (j : Nat) t v, Try.f6.params[j]? = some t → args[j]? = some v → Value.okWide Try.prog W .any base t v := hval0
  have hW' := hW
  obtain ⟨p, q, hT0, hV, rfl, hfz, hnd⟩ := hW
  have hA : DataW.TrodAll enc Try.prog W 0 (fun _ => true) true Try.f6.params.toList args.toList ds p := hT0
  rw [Try.params6] at hA hval
  obtain ⟨v0, vs0, d0, ds0, p0, q0, hargs, rfl, rfl, h0, r0⟩ := trodAll_cons hA
  obtain ⟨v1, vs1, d1, ds1, p1, q1, rfl, rfl, rfl, h1, r1⟩ := trodAll_cons r0
  obtain ⟨rfl, rfl, rfl⟩ := trodAll_nil r1
  obtain rfl : args = #[v0, v1] := by cases args; simp_all
  obtain ⟨rfl, rfl⟩ := trodVars_none hV
  have hlt0 : ∀ x ∈ p0, x.block < W.heap.size := fun x hx => hW'.lt x (by simp [hx])
  obtain ⟨A0, n0, c0, l0, rfl, hA0, hn0, hc0, hm0, hl0⟩ := open_bytes Try.underlying26 Try.underlying5 (by kernel_rfl) (hval 0 26 v0 rfl rfl) h0 hlt0
  have hlt1 : ∀ x ∈ p1, x.block < W.heap.size := fun x hx => hW'.lt x (by simp [hx])
  obtain ⟨A1, n1, c1, l1, rfl, hA1, hn1, hc1, hm1, hl1⟩ := open_bytes Try.underlying26 Try.underlying5 (by kernel_rfl) (hval 1 26 v1 rfl rfl) h1 hlt1
  clear hT0 hval0
  refine (BitsOrder_walk W A0 n0 c0 l0 hA0 hn0 hc0 hm0 hl0 A1 n1 c1 l1 hA1 hn1 hc1 hm1 hl1).mono fun e W' ⟨he, hb⟩ => ?_
  subst he
  exact ⟨_, rfl, law_post laidOut Try.underlying4 (by kernel_rfl) (by kernel_rfl) rfl hW' rfl hb⟩

theorem BitsOrder_over : Rows.bitsOrderRow.holds Try.pinned (OpenSpec.ofChange Rows.bitsOrderSpec) :=
  OpenClaim.holds_of_wide 6 Try.f6 rfl rfl rfl rfl rfl rfl rfl ⟨rfl, rfl, rfl, rfl, rfl⟩ rfl rfl rfl rfl rfl (by kernel_rfl) Try.func6 (by kernel_rfl)
    (of_decide_eq_true (by kernel_rfl)) (by unfold Func.isWrapper; first | (rw [if_pos (by decide +kernel)]; kernel_rfl) | (rw [if_neg (by decide +kernel)]; exact ⟨rfl, rfl⟩))
    (fun os started H enc _ => BitsOrder_lifted os started H enc)

theorem BitsOrder_holds : Rows.BitsOrderSaid := BitsOrder_over
#print axioms BitsOrder_holds
end Go.Proofs.Ytaoadigjkmadfaa
