/- Contracts of layer 4: bytes.Equal, Open, and the reference's Open. -/
import Derived.Test.YtmmebnfahcpggaaCSeal
namespace Go.Proofs.Ytmmebnfahcpggaa
open Go.RowKit

theorem equal_any (l m : List UInt8) (u v : Value) (w : World) (hl : IsB l u w) (hm : IsB m v w) :
    Calls Try.prog 19 #[u, v] w fun e w' => e = .returned (.bool (l == m)) ∧ w = w' := by
  have h1 := textB hl
  have h2 := textB hm
  clear hl hm
  go_enter Try.func19, Try.ntmps19
  go_wp2
  go_ret
  exact ⟨rfl, rfl⟩
theorem equal_q (l m : List UInt8) (u v : Value) (w : World) (hl : IsB l u w) (hm : IsB m v w) :
    Calls Try.prog 19 #[u, v] w fun e w' => e = .returned (.bool (l == m)) ∧ w' = w := (equal_any l m u v w hl hm).mono fun _ _ ⟨h1, h2⟩ => ⟨h1, h2.symm⟩
/-- What Open answers. -/
def copens (l : List UInt8) : List UInt8 × Int := match copen l with | some m => (m, 0) | none => ([], 2)
theorem copens_short {l : List UInt8} (h : l.length < 4) : copens l = ([], 2) := by unfold copens copen; rw [if_pos (.inl h)]
theorem copens_no {l : List UInt8} (h : cseal (l.take (l.length - 4)) ≠ l) : copens l = ([], 2) := by unfold copens copen; rw [if_pos (.inr h)]
theorem copens_yes {l : List UInt8} (h4 : 4 ≤ l.length) (h : cseal (l.take (l.length - 4)) = l) : copens l = (l.take (l.length - 4), 0) := by unfold copens copen; rw [if_neg (by rw [not_or]; exact ⟨by omega, by simpa using h⟩)]
theorem cseal_iff (l : List UInt8) : (l.drop (l.length - 4) == cle (csum (l.take (l.length - 4)))) = true ↔ cseal (l.take (l.length - 4)) = l := by
  rw [beq_iff_eq, cseal]
  constructor
  · intro h; rw [← h]; exact List.take_append_drop _ _
  · intro h
    have h1 := List.take_append_drop (l.length - 4) l
    exact (List.append_cancel_left (h.trans h1.symm)).symm
set_option maxHeartbeats 1000000 in
set_option maxRecDepth 100000 in
theorem open_any (g : Nat) (l : List UInt8) (v : Value) (w : World) (ht : Tabl g w) (hl : IsB l v w) (hlen : l.length ≤ 1000000) :
    Calls Try.prog 13 #[.pointer (some ⟨g, 0, none⟩), v] w (RetE w (copens l)) := by
  obtain ⟨A, c, rfl, hA, hnc, hcm, hlies⟩ := hl
  by_cases h4 : l.length < 4
  · have HC := Lib.hid (copens_short h4)
    obtain ⟨n, hn⟩ : ∃ n, n = l.length := ⟨_, rfl⟩
    rw [← hn] at h4 ⊢
    clear hn hcm hlies hnc hA ht
    go_enter Try.func13, Try.ntmps13
    go_wp2
    go_ret2
    rw [HC.out]
    exact RetE.nil _ (Below.refl _ _)
  · obtain ⟨k, hk⟩ : ∃ k, k = l.length - 4 := ⟨_, rfl⟩
    obtain ⟨n, hn⟩ : ∃ n, n = l.length := ⟨_, rfl⟩
    have hci : (c : Int) ≤ 9223372036854775807 := by unfold maxLen at hcm; omega
    have hkl : (l.take k).length = k := by rw [List.length_take]; omega
    have hIk : IsB (l.take k) (.slice A k c) w := ⟨A, c, by rw [hkl], fun h => by have := hA h; omega, by omega, hcm, by rw [List.map_take]; exact hlies.take k⟩
    have HS := Lib.hid (sum_any g _ _ w ht hIk (by omega))
    have HI := Lib.hid hIk
    have hki : (n : Int) - 4 = (k : Int) := by omega
    have hkw : IntKind.i64.wrap ((n : Int) - 4) = (k : Int) := by rw [IntKind.wrap_i64]; omega
    have hk0 : (0 : Int) ≤ (k : Int) := by omega
    rw [← hn] at h4 hlen hk hnc hA ⊢
    have hkn : k ≤ n := by omega
    have HN := Lib.hid hn
    have HK := Lib.hid hk
    have HLi := Lib.hid hlies
    have hm4 : ((cle (csum (l.take k))).map bv).length = 4 := by simp [cle_len]
    have HM4 := Lib.hid hm4
    have HM4e : Hid ((cle (csum (l.take k))).length = 4) := Lib.hid (cle_len _)
    obtain ⟨vd, hsl, hId⟩ := from_named (P := Try.prog) elemB hkn hnc hcm hn.symm hlies hA
    have HD := Lib.hid hId
    have HSL := Lib.hid hsl
    clear hn hk hm4 hId hsl hlies hIk hcm hkl
    go_enter Try.func13, Try.ntmps13
    go_wp2_with fail
    refine HS.out.mono ?_
    rintro e w' ⟨rfl, rfl⟩
    go_wp2_with fail
    refine (low_any _ _).mono ?_
    rintro e w1 ⟨rfl, hb1⟩
    go_wp2_with (refine wpList_allocArr fourT rfl rfl ?_)
    intro w2 hr2 hb2
    have hb12 := below_then hb1 hb2
    have hg2 := hr2.lt
    obtain ⟨g4, hg4⟩ : ∃ g4, g4 = w1.heap.size := ⟨_, rfl⟩
    have hgw : w.heap.size ≤ g4 := by rw [hg4]; exact hb1.size
    rw [← hg4] at hr2 hg2 ⊢
    clear hb1 hb2 hg4
    go_wp2_with (refine wpList_storeArr fourT rfl _ _ rfl g4 _ _ ((cle (csum (l.take k))).map bv) rfl rfl hr2 HM4.out (zeroRow_len _ _) (bv_one _) w w.heap.size hb12 hgw ?_)
    intro w3 hr3 hb3 _
    clear hr2 hb12 hg2
    have hsl := HSL.out
    have hI3 := isB_row hr3 HM4e.out (by omega)
    have hEq := fun W (h : Below w3.heap.size w3 W) => equal_q _ _ _ _ W (HD.out.below (below_then hb3 h)) (hI3.below h)
    clear hr3 hI3
    cases hq : (l.drop k == cle (csum (l.take k))) with
    | false =>
      rw [hq] at hEq
      have hne : cseal (l.take (l.length - 4)) ≠ l := by
        intro h
        have := (cseal_iff l).2 h
        rw [← HN.out, ← HK.out, hq] at this
        cases this
      have HC := Lib.hid (copens_no hne)
      have HE := Lib.hid hEq
      clear hq hEq hne
      go_wp2
      go_quiet ((go_at_call 19; exact Calls.quiet_of_same (HE.out _ (below_drewN (Below.refl _ _) _))))
      go_wp2
      go_ret2
      rw [HC.out]
      exact RetE.nil _ (below_drewN hb3 _)
    | true =>
      rw [hq] at hEq
      have hyes : copens l = (l.take k, 0) := by
        have h1 := HN.out
        have h2 := (cseal_iff l).1 (by rw [← h1, ← HK.out]; exact hq)
        have := copens_yes (by omega) h2
        rwa [← h1, ← HK.out] at this
      have HC := Lib.hid hyes
      have HE := Lib.hid hEq
      clear hq hEq hyes
      go_wp2
      go_quiet ((go_at_call 19; exact Calls.quiet_of_same (HE.out _ (below_drewN (Below.refl _ _) _))))
      have hb4 := below_drewN hb3 nq
      have HI4 := HI.out.below hb4
      clear hb3
      generalize w3.drewN nq = w4 at *
      obtain ⟨_, _, h1, hA4, _, _, hl4⟩ := HI4
      injection h1 with h1 h2 h3
      subst h1
      have hml : ((l.take k).map bv).length = k := by rw [List.length_map, ← h2]
      rw [← h2] at hA4
      clear h2 h3 hsl
      go_wp2_with (at_builtin; refine wpList_join elemB rfl _ _ rfl w.heap.size _ _ _ _ _ _ ((l.take k).map bv) w rfl rfl hA4 hml hl4 (bv_one _) (World.ownsRow_nil _ _ _ _) hb4 hb4.size (by omega) (by omega) ?_)
      intro v5 w5 hown5 hb5 _ _
      have hown6 : w5.ownsRow w.heap.size 5 1 v5 k ((l.take k).map bv) := by rw [List.map_take]; exact hown5
      clear hown5
      go_wp2
      go_ret2
      rw [HC.out]
      exact ⟨_, rfl, isB_own hown6, hb5⟩
end Go.Proofs.Ytmmebnfahcpggaa
