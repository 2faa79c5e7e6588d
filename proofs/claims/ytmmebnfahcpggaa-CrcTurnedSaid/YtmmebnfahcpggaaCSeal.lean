/- Contracts of layer 4: Seal, and the reference's Seal. -/
import Derived.Test.YtmmebnfahcpggaaCSum
namespace Go.Proofs.Ytmmebnfahcpggaa
open Go.RowKit

/-- Bytes that a call answers in a row of its own. -/
def RetOwn (w : World) (l : List UInt8) (e : Ending) (w' : World) : Prop := ∃ v, e = .returned v ∧ w'.ownsRow w.heap.size 5 1 v l.length (l.map bv) ∧ Below w.heap.size w w'
theorem RetOwn.retB {w w' : World} {l : List UInt8} {e : Ending} (h : RetOwn w l e w') : RetB w l e w' := by
  obtain ⟨v, rfl, h2, h3⟩ := h
  exact ret_own h2 h3
theorem own_le {w : World} {base base' size n : Nat} {e : TypeId} {v : Value} {xs : List Value} (h : w.ownsRow base e size v n xs) (hb : base' ≤ base) : w.ownsRow base' e size v n xs :=
  ⟨h.1, h.2.elim Or.inl (fun ⟨g, cap, cur, hv, hg, r⟩ => Or.inr ⟨g, cap, cur, hv, Nat.le_trans hb hg, r⟩)⟩
theorem own_isB {w : World} {base : Nat} {e : TypeId} {v : Value} {n : Nat} {l : List UInt8} (h : w.ownsRow base e 1 v n (l.map bv)) (w0 : World) (hb : Below w0.heap.size w0 w) : RetB w0 l (.returned v) w := ret_own h hb
set_option maxHeartbeats 1000000 in
set_option maxRecDepth 100000 in
theorem seal_own (g : Nat) (l : List UInt8) (v : Value) (w : World) (ht : Tabl g w) (hl : IsB l v w) (hlen : l.length ≤ 1000000) :
    Calls Try.prog 15 #[.pointer (some ⟨g, 0, none⟩), v] w (RetOwn w (cseal l)) := by
  have HS := Lib.hid (fun w' (hb : Below w.heap.size w w') => sum_any g l v w' (ht.below hb) (hl.below hb) hlen)
  obtain ⟨A, c, rfl, hA, hnc, hcm, hlies⟩ := hl
  obtain ⟨n, hn⟩ : ∃ n, n = l.length := ⟨_, rfl⟩
  rw [← hn] at hlen hA hnc HS ⊢
  have hml : (l.map bv).length = n := by simp [hn]
  have hm4 : ((cle (csum l)).map bv).length = 4 := by simp [cle_len]
  have HN := Lib.hid hn
  have HT := Lib.hid ht
  have HM := Lib.hid hml
  have HM4 := Lib.hid hm4
  have HLi := Lib.hid hlies
  have hci : (c : Int) ≤ 9223372036854775807 := by unfold maxLen at hcm; omega
  clear hn ht hlies hcm hml hm4
  go_enter Try.func15, Try.ntmps15
  go_wp2_with fail
  refine (HS.out _ (Below.refl _ _)).mono ?_
  rintro e w' ⟨rfl, rfl⟩
  go_wp2_with fail
  refine (low_any _ _).mono ?_
  rintro e w1 ⟨rfl, hb1⟩
  go_wp2_with (refine wpList_allocArr fourT rfl rfl ?_)
  intro w2 hr2 hb2
  have hb12 := below_then hb1 hb2
  have hg2 := hr2.lt
  obtain ⟨g4, hg4⟩ : ∃ g4, g4 = w1.heap.size := ⟨_, rfl⟩
  have hgw : w.heap.size ≤ g4 := by rw [hg4]; exact hb1.size
  rw [← hg4] at hr2 hg2 ⊢
  clear hb1 hb2 hg4
  go_wp2_with (refine wpList_storeArr fourT rfl _ _ rfl g4 _ _ ((cle (csum l)).map bv) rfl rfl hr2 HM4.out (zeroRow_len _ _) (bv_one _) w w.heap.size hb12 hgw ?_)
  intro w3 hr3 hb3 _
  have hz3 := hb3.size
  clear hr2 hb12 hg2
  go_wp2_with (refine wpList_make0 elemB rfl _ _ rfl _ _ _ (n + 4) w3.heap.size w3 rfl rfl ?_ (by omega) (by omega) (Below.refl _ _) (Nat.le_refl _) ?_)
  · go_num
  intro w4 hown4 hb4 hz4
  have hbb := below_then hb3 hb4
  have hl4 := HLi.out.below hbb
  go_wp2_with (at_builtin; refine wpList_join elemB rfl _ _ rfl w3.heap.size _ _ _ _ _ _ (l.map bv) w3 rfl rfl hA HM.out hl4 (bv_one l) hown4 hb4 hz4 (by omega) (by omega) ?_)
  intro v5 w5 hown5 hb5 hg5 _
  have hr5 := hr3.below hb5 hr3.lt
  have hz5 := hb5.size
  clear hown4 hb4 hz4 hr3 hl4 hg5 hbb
  go_wp2_with (at_builtin; refine wpList_join elemB rfl _ _ rfl w3.heap.size _ _ _ _ _ _ ((cle (csum l)).map bv) w3 rfl rfl (by simp) HM4.out (hr5.lies 0) (bv_one _) hown5 hb5 hz5 (by omega) (by omega) ?_)
  intro v6 w6 hown6 hb6 _ _
  rw [← List.map_append, ← cseal] at hown6
  have hb06 := hb3.trans (hb6.mono hz3)
  clear hb3 hb5 hb6 hr5 hz5 hown5
  go_wp2
  go_ret
  refine ⟨_, rfl, ?_, hb06⟩
  rw [cseal_len, ← HN.out]
  exact own_le hown6 hz3
theorem seal_any (g : Nat) (l : List UInt8) (v : Value) (w : World) (ht : Tabl g w) (hl : IsB l v w) (hlen : l.length ≤ 1000000) :
    Calls Try.prog 15 #[.pointer (some ⟨g, 0, none⟩), v] w (RetB w (cseal l)) := (seal_own g l v w ht hl hlen).mono fun _ _ h => h.retB
theorem cle_vals {s : Nat} (h : (s : Int) < 4294967296) : (cle s).map bv = [.int .u8 ((s : Int) % 256), .int .u8 ((s : Int) / 256 % 256), .int .u8 ((s : Int) / 65536 % 256), .int .u8 ((s : Int) / 16777216)] := by
  have h1 : (s : Int) / 16777216 = (s : Int) / 16777216 % 256 := by omega
  rw [h1]
  simp [cle, bv]
set_option maxHeartbeats 1000000 in
set_option maxRecDepth 100000 in
theorem rseal_any (l : List UInt8) (v : Value) (w : World) (hl : IsB l v w) (hlen : l.length ≤ 1000000) :
    Calls Try.prog 16 #[v] w (RetB w (cseal l)) := by
  have HS := Lib.hid (rsum_any l v w hl hlen)
  obtain ⟨A, c, rfl, hA, hnc, hcm, hlies⟩ := hl
  obtain ⟨n, hn⟩ : ∃ n, n = l.length := ⟨_, rfl⟩
  rw [← hn] at hlen hA hnc HS ⊢
  have hml : (l.map bv).length = n := by simp [hn]
  obtain ⟨s, hs⟩ : ∃ s, s = csum l := ⟨_, rfl⟩
  rw [← hs] at HS
  have hm4 : ((cle s).map bv).length = 4 := by simp [cle_len]
  have hs32 : (s : Int) < 4294967296 := by rw [hs]; have := csum_lt l; omega
  have HSS := Lib.hid hs
  have HN := Lib.hid hn
  have HM := Lib.hid hml
  have HM4 := Lib.hid hm4
  have HLi := Lib.hid hlies
  have hci : (c : Int) ≤ 9223372036854775807 := by unfold maxLen at hcm; omega
  clear hn hlies hcm hml hm4 hs
  go_enter Try.func16, Try.ntmps16
  go_wp2_with fail
  refine HS.out.mono ?_
  rintro e w' ⟨rfl, rfl⟩
  have hown0 : (w.alloc (.cells #[] 5)).ownsRow w.heap.size 5 1 (.slice (some ⟨w.heap.size, 0, none⟩) 0 0) 0 [] := World.ownsRow_made w #[] 0 (Nat.le_refl _) (by unfold maxLen; omega) (by simp)
  have hbA : Below w.heap.size w (w.alloc (.cells #[] 5)) := (Below.refl _ _).alloc (Nat.le_refl _) _
  have hlA := HLi.out.below hbA
  have hzz : w.heap.size ≤ (w.alloc (.cells #[] 5)).heap.size := by simp
  go_wp2_with (at_builtin; refine wpList_join elemB rfl _ _ rfl w.heap.size _ _ _ _ _ _ (l.map bv) w rfl rfl hA HM.out hlA (bv_one l) hown0 hbA hzz (by omega) (by omega) ?_)
  intro v5 w5 hown5 hb5 hg5 _
  clear hown0 hbA hlA hzz hg5
  have hz5 := hb5.size
  have hL4 : Lies (w5.alloc (.cells #[.int .u8 ((s : Int) % 256), .int .u8 ((s : Int) / 256 % 256), .int .u8 ((s : Int) / 65536 % 256), .int .u8 ((s : Int) / 16777216)] 5)) (some ⟨w5.heap.size, 0, none⟩) ((cle s).map bv) := by
    rw [cle_vals hs32]
    have h : Row (w5.alloc (.cells #[.int .u8 ((s : Int) % 256), .int .u8 ((s : Int) / 256 % 256), .int .u8 ((s : Int) / 65536 % 256), .int .u8 ((s : Int) / 16777216)] 5)) w5.heap.size 5 [.int .u8 ((s : Int) % 256), .int .u8 ((s : Int) / 256 % 256), .int .u8 ((s : Int) / 65536 % 256), .int .u8 ((s : Int) / 16777216)] := heap_alloc_new w5 _
    exact h.lies 0
  have hown5' := hown5.alloc (.cells #[.int .u8 ((s : Int) % 256), .int .u8 ((s : Int) / 256 % 256), .int .u8 ((s : Int) / 65536 % 256), .int .u8 ((s : Int) / 16777216)] 5)
  have hb5' := hb5.alloc hz5 (.cells #[.int .u8 ((s : Int) % 256), .int .u8 ((s : Int) / 256 % 256), .int .u8 ((s : Int) / 65536 % 256), .int .u8 ((s : Int) / 16777216)] 5)
  have hz5' := hb5'.size
  clear hown5 hb5
  go_wp2_with (at_builtin; (refine wpList_join elemB rfl _ _ rfl w.heap.size _ _ _ _ _ _ ((cle s).map bv) w rfl rfl (by simp) HM4.out hL4 (bv_one _) hown5' hb5' hz5' (by omega) (by omega) ?_))
  intro v6 w6 hown6 hb6 _ _
  rw [← List.map_append] at hown6
  have hq : l ++ cle s = cseal l := by rw [cseal, HSS.out]
  rw [hq] at hown6
  clear hq hL4 hown5' hb5' hz5'
  go_wp2
  go_ret
  exact ret_own hown6 hb6
end Go.Proofs.Ytmmebnfahcpggaa
