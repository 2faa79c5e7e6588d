/- Texts that the claims of this seat share, part 6: UKinds UOwn ULoc PCat POps EIs PLook PHead PShape PPutO PIs UBest. -/
import Derived.Lib.AppendZeros
import Derived.Test.YtnbiopihcbnkpaaGreatDoorG5
/- Runs (layer 11): the shortest of those that may be, or none of them; the shortest of the shortest; no kind refuses less than all of them. -/



namespace Go.Proofs.YtnbiopihcbnkpaaGreatDoor

/-- The shortest so far, and one more that may be. -/
def ubest : Option (List UInt8) → List UInt8 × Int → Option (List UInt8)
  | none, p => if p.2 = 0 then some p.1 else none
  | some a, p => if p.2 = 0 ∧ p.1.length < a.length then some p.1 else some a
def uans : Option (List UInt8) → List UInt8 × Int
  | none => ([], 1)
  | some a => (a, 0)
theorem ubest_bad {o : Option (List UInt8)} {p : List UInt8 × Int} (h : p.2 ≠ 0) : ubest o p = o := by
  cases o with
  | none => exact if_neg h
  | some a => exact if_neg fun h2 => h h2.1
theorem ubest_none {p : List UInt8 × Int} (h : p.2 = 0) : ubest none p = some p.1 := if_pos h
theorem ubest_less {a : List UInt8} {p : List UInt8 × Int} (h : p.2 = 0) (h2 : p.1.length < a.length) : ubest (some a) p = some p.1 := if_pos ⟨h, h2⟩
theorem ubest_more {a : List UInt8} {p : List UInt8 × Int} (h2 : ¬ p.1.length < a.length) : ubest (some a) p = some a := if_neg fun h => h2 h.2
theorem ubest_step (o x : Option (List UInt8)) (c : List UInt8 × Int) : ubest o (uans (ubest x c)) = ubest (ubest o (uans x)) c := by
  by_cases hc : c.2 = 0
  · cases x with
    | none =>
      rw [ubest_none hc, ubest_bad (o := o) (p := uans none) (by simp [uans])]
      have e : uans (some c.1) = c := by rw [uans, ← hc]
      rw [e]
    | some x =>
      have e : uans (some c.1) = c := by rw [uans, ← hc]
      by_cases h1 : c.1.length < x.length
      · rw [ubest_less hc h1, e]
        cases o with
        | none => rw [ubest_none (p := uans (some x)) rfl, ubest_none hc, ubest_less (a := (uans (some x)).1) hc h1]
        | some o =>
          by_cases h2 : x.length < o.length
          · rw [ubest_less (p := uans (some x)) rfl h2, ubest_less hc (by omega), ubest_less (a := (uans (some x)).1) hc h1]
          · rw [ubest_more (p := uans (some x)) h2]
      · rw [ubest_more h1]
        cases o with
        | none => rw [ubest_none (p := uans (some x)) rfl, ubest_more (a := (uans (some x)).1) h1]
        | some o =>
          by_cases h2 : x.length < o.length
          · rw [ubest_less (p := uans (some x)) rfl h2, ubest_more (a := (uans (some x)).1) h1]
          · rw [ubest_more (p := uans (some x)) h2, ubest_more (by omega)]
  · rw [ubest_bad (o := x) hc, ubest_bad hc]
theorem ubest_fold (L : List (List UInt8 × Int)) : ∀ (o x : Option (List UInt8)), ubest o (uans (L.foldl ubest x)) = L.foldl ubest (ubest o (uans x)) := by
  induction L with
  | nil => intro o x; rfl
  | cons c L ih =>
    intro o x
    rw [List.foldl_cons, List.foldl_cons, ih, ubest_step]
theorem ubest_all_bad {L : List (List UInt8 × Int)} (h : ∀ p ∈ L, p.2 ≠ 0) (o : Option (List UInt8)) : L.foldl ubest o = o := by
  induction L generalizing o with
  | nil => rfl
  | cons c L ih => rw [List.foldl_cons, ubest_bad (h c List.mem_cons_self), ih fun p hp => h p (List.mem_cons_of_mem _ hp)]
theorem ubest_some {L : List (List UInt8 × Int)} : ∀ {o : Option (List UInt8)}, ((∃ a, o = some a) ∨ ∃ p ∈ L, p.2 = 0) → ∃ a, L.foldl ubest o = some a := by
  induction L with
  | nil => rintro o (h | ⟨p, hp, _⟩)
           · exact h
           · cases hp
  | cons c L ih =>
    rintro o h
    rw [List.foldl_cons]
    refine ih ?_
    rcases h with ⟨a, rfl⟩ | ⟨p, hp, h0⟩
    · left; unfold ubest; dsimp only; split <;> exact ⟨_, rfl⟩
    · rcases List.mem_cons.1 hp with rfl | hp
      · left
        cases o with
        | none => exact ⟨_, ubest_none h0⟩
        | some a => unfold ubest; dsimp only; split <;> exact ⟨_, rfl⟩
      · exact .inr ⟨p, hp, h0⟩
theorem ubest_shorter {L : List (List UInt8 × Int)} : ∀ {o : Option (List UInt8)}, (∀ p ∈ L, p.2 = 0 → p.1.length ≠ 0) → (∀ a, o = some a → a.length ≠ 0) → L.foldl ushorter (o.getD []) = (L.foldl ubest o).getD [] := by
  induction L with
  | nil => intro o _ _; rfl
  | cons c L ih =>
    intro o h1 h2
    rw [List.foldl_cons, List.foldl_cons]
    have hc := h1 c List.mem_cons_self
    have e : ushorter (o.getD []) c = (ubest o c).getD [] := by
      unfold ushorter
      cases o with
      | none =>
        by_cases h : c.2 = 0
        · rw [ubest_none h, if_pos ⟨h, .inl rfl⟩]; rfl
        · rw [ubest_bad h, if_neg fun h3 => h h3.1]
      | some a =>
        have ha := h2 a rfl
        by_cases h : c.2 = 0 ∧ c.1.length < a.length
        · rw [ubest_less h.1 h.2, if_pos ⟨h.1, .inr h.2⟩]; rfl
        · rw [if_neg fun h3 => h ⟨h3.1, h3.2.resolve_left ha⟩]
          by_cases h4 : c.2 = 0
          · rw [ubest_more fun h5 => h ⟨h4, h5⟩]
          · rw [ubest_bad h4]
    rw [e]
    refine ih (fun p hp => h1 p (List.mem_cons_of_mem _ hp)) fun a ha => ?_
    cases o with
    | none =>
      by_cases h : c.2 = 0
      · rw [ubest_none h] at ha; injection ha with ha; rw [← ha]; exact hc h
      · rw [ubest_bad h] at ha; cases ha
    | some b =>
      by_cases h : c.2 = 0 ∧ c.1.length < b.length
      · rw [ubest_less h.1 h.2] at ha; injection ha with ha; rw [← ha]; exact hc h.1
      · have e2 : ubest (some b) c = some b := if_neg h
        rw [e2] at ha
        exact h2 a ha
theorem pair_ok {p : List UInt8 × Int} (h : p.2 = 0) : p = (p.1, 0) := by rw [← h]
/-- What the kinds lay down. -/
def urep (l : List Int) (s : Bool) : List UInt8 × Int := if l.length = 0 ∨ usame l < l.length then ([], 1) else eput (l.headD 0) l.length s
def upats (l : List Int) (s : Bool) : List (List UInt8 × Int) := (List.range 31).map fun c : Nat => pputE l (wof (c : Int)) s
def upat (l : List Int) (s : Bool) : List UInt8 × Int := uans ((upats l s).foldl ubest none)
def ukinds (l : List Int) (s : Bool) : List (List UInt8 × Int) := [urep l s, dputE l s, gputE l s, upat l s]
theorem ulen_rep {l : List Int} {s : Bool} (h : (urep l s).2 = 0) : (urep l s).1.length ≠ 0 := by
  unfold urep at h ⊢
  split
  · rename_i h1; rw [if_pos h1] at h; cases h
  · rename_i h1
    rw [if_neg h1] at h
    obtain ⟨_, _, u, _, hb⟩ := eputE_cases (b := (eput (l.headD 0) l.length s).1) (pair_ok h)
    rw [hb, elay_len]
    omega
theorem ulen_eput {x t : Int} {s : Bool} (h : (eput x t s).2 = 0) : (eput x t s).1.length ≠ 0 := by
  obtain ⟨_, _, u, _, hb⟩ := eputE_cases (b := (eput x t s).1) (pair_ok h)
  rw [hb, elay_len]
  omega
theorem ulen_dput {l : List Int} {s : Bool} (h : (dputE l s).2 = 0) : (dputE l s).1.length ≠ 0 := by
  obtain ⟨_, _, u, _, hb⟩ := dputE_cases (b := (dputE l s).1) (pair_ok h)
  rw [hb]
  unfold dlay
  rw [List.length_append, dheadN_len]
  omega
theorem ulen_gput {l : List Int} {s : Bool} (h : (gputE l s).2 = 0) : (gputE l s).1.length ≠ 0 := by
  obtain ⟨_, _, _, u, _, hb⟩ := gputE_cases (b := (gputE l s).1) (pair_ok h)
  rw [hb]
  unfold glay
  simp only [List.length_append, dheadN_len]
  omega
theorem ulen_pput {l : List Int} {W : Int} {s : Bool} (h : (pputE l W s).2 = 0) : (pputE l W s).1.length ≠ 0 := by
  obtain ⟨us, _, _, _, _, _, _, _, _, hb⟩ := pputE_ok (b := (pputE l W s).1) (pair_ok h)
  rw [hb]
  unfold play
  simp only [List.length_append, dheadN_len]
  omega
theorem ulen_cands {l : List Int} {s : Bool} : ∀ p ∈ ucands l s, p.2 = 0 → p.1.length ≠ 0 := by
  intro p hp
  unfold ucands ucands0 at hp
  simp only [List.mem_append, List.mem_cons, List.mem_map, List.mem_range, List.not_mem_nil, or_false] at hp
  rcases hp with (hp | rfl | rfl) | ⟨c, hc, rfl⟩
  · split at hp
    · rw [List.mem_singleton] at hp
      subst hp
      exact ulen_eput
    · cases hp
  · exact ulen_dput
  · exact ulen_gput
  · exact ulen_pput
theorem upats_len {l : List Int} {s : Bool} : ∀ p ∈ upats l s, p.2 = 0 → p.1.length ≠ 0 := by
  intro p hp
  unfold upats at hp
  simp only [List.mem_map, List.mem_range] at hp
  obtain ⟨c, hc, rfl⟩ := hp
  exact ulen_pput
theorem upat_len {l : List Int} {s : Bool} (h : (upat l s).2 = 0) : (upat l s).1.length ≠ 0 := by
  have h1 := ubest_shorter (o := none) (upats_len (l := l) (s := s)) (fun a h => by cases h)
  unfold upat at h ⊢
  cases ho : (upats l s).foldl ubest none with
  | none => rw [ho] at h; cases h
  | some a =>
    have key : ∀ (L : List (List UInt8 × Int)) (o : Option (List UInt8)), (∀ p ∈ L, p.2 = 0 → p.1.length ≠ 0) → (∀ a, o = some a → a.length ≠ 0) → ∀ a, L.foldl ubest o = some a → a.length ≠ 0 := by
      intro L
      induction L with
      | nil => intro o _ h a ha; exact h a ha
      | cons c L ih =>
        intro o h1 h2 a ha
        rw [List.foldl_cons] at ha
        refine ih _ (fun p hp => h1 p (List.mem_cons_of_mem _ hp)) (fun b hb => ?_) a ha
        have hc := h1 c List.mem_cons_self
        cases o with
        | none =>
          by_cases h : c.2 = 0
          · rw [ubest_none h] at hb; injection hb with hb; rw [← hb]; exact hc h
          · rw [ubest_bad h] at hb; cases hb
        | some d =>
          by_cases h : c.2 = 0 ∧ c.1.length < d.length
          · rw [ubest_less h.1 h.2] at hb; injection hb with hb; rw [← hb]; exact hc h.1
          · rw [show ubest (some d) c = some d from if_neg h] at hb
            exact h2 b hb
    exact key _ _ upats_len (fun a h => by cases h) a ho
theorem ukinds_len {l : List Int} {s : Bool} : ∀ p ∈ ukinds l s, p.2 = 0 → p.1.length ≠ 0 := by
  intro p hp
  unfold ukinds at hp
  simp only [List.mem_cons, List.not_mem_nil, or_false] at hp
  rcases hp with rfl | rfl | rfl | rfl
  · exact ulen_rep
  · exact ulen_dput
  · exact ulen_gput
  · exact upat_len
theorem usame_rep {l : List Int} (h : ¬ (l.length = 0 ∨ usame l < l.length)) : l = List.replicate l.length (l.headD 0) := by
  cases l with
  | nil => exact absurd (.inl rfl) h
  | cons x r =>
    have h1 := usame_take (x := x) (r := r) (k := (x :: r).length) (Nat.not_lt.1 fun h2 => h (.inr h2))
    rw [List.take_of_length_le (Nat.le_refl _)] at h1
    rw [List.headD_cons]
    exact h1
theorem ukinds_refuse {l : List Int} {s : Bool} (h : dplain l s = none ∨ l.length < 1 ∨ 512 < l.length) : ∀ p ∈ ukinds l s, p.2 ≠ 0 := by
  intro p hp h0
  unfold ukinds at hp
  simp only [List.mem_cons, List.not_mem_nil, or_false] at hp
  rcases hp with rfl | rfl | rfl | rfl
  · unfold urep at h0
    split at h0
    · cases h0
    · rename_i hn
      obtain ⟨t3, t10, u, hu, _⟩ := eputE_cases (b := (eput (l.headD 0) l.length s).1) (pair_ok h0)
      rcases h with h | h | h
      · have hr := usame_rep hn
        have : ∀ n : Nat, dplain (List.replicate n (l.headD 0)) s ≠ none := by
          intro n
          induction n with
          | zero => intro h; cases h
          | succ n ih =>
            unfold dplain at ih ⊢
            rw [List.replicate_succ, omap, hu]
            cases ho : omap (eplain · s) (List.replicate n (l.headD 0)) with
            | none => exact absurd ho ih
            | some ys => intro h; cases h
        exact this l.length (by rw [← hr]; exact h)
      · omega
      · omega
  · obtain ⟨h1, h2, u, hu, _⟩ := dputE_cases (b := (dputE l s).1) (pair_ok h0)
    rcases h with h | h | h
    · rw [h] at hu; cases hu
    · omega
    · omega
  · obtain ⟨h1, h2, h3, _⟩ := gputE_cases (b := (gputE l s).1) (pair_ok h0)
    rcases h with h | h | h
    · exact h1 h
    · omega
    · omega
  · have : ∀ p ∈ upats l s, p.2 ≠ 0 := by
      intro p hp
      unfold upats at hp
      simp only [List.mem_map, List.mem_range] at hp
      obtain ⟨c, hc, rfl⟩ := hp
      unfold pputE
      rw [if_pos (by rcases h with h | h | h; exact .inl h; exact .inr (.inl h); exact .inr (.inr (.inl h)))]
      simp
    unfold upat at h0
    rw [ubest_all_bad this] at h0
    cases h0
/-- The shortest of the kinds is what Run answers. -/
theorem urun_kinds (l : List Int) (s : Bool) : urunE l s = uans ((ukinds l s).foldl ubest none) := by
  by_cases h : dplain l s = none ∨ l.length < 1 ∨ 512 < l.length
  · rw [ubest_all_bad (ukinds_refuse h)]
    unfold urunE
    rw [if_pos h]
    rfl
  · have e1 : (ukinds l s).foldl ubest none = (ucands l s).foldl ubest none := by
      have e2 : ubest none (urep l s) = ((if usame l = l.length then [eput (l.headD 0) l.length s] else []) : List (List UInt8 × Int)).foldl ubest none := by
        have h1 := usame_le l
        unfold urep
        by_cases h2 : usame l = l.length
        · rw [if_pos h2, if_neg (by
            rintro (h3 | h3)
            · exact h (.inr (.inl (by omega)))
            · omega)]
          rfl
        · rw [if_neg h2, if_pos (.inr (by omega))]
          rfl
      unfold ukinds ucands ucands0
      rw [List.foldl_append, List.foldl_append, ← e2]
      simp only [List.foldl_cons, List.foldl_nil]
      unfold upat
      rw [ubest_fold, ubest_bad (p := uans none) (by simp [uans])]
      rfl
    have h1 : 1 ≤ l.length := Nat.not_lt.1 fun h2 => h (.inr (.inl h2))
    have h5 : l.length ≤ 512 := Nat.not_lt.1 fun h2 => h (.inr (.inr h2))
    have hp : dplain l s ≠ none := fun h2 => h (.inl h2)
    obtain ⟨u, hu, hd⟩ := dputE_in hp h1 h5
    obtain ⟨a, ha⟩ := ubest_some (L := ucands l s) (o := none) (.inr ⟨_, dput_mem l s, by rw [hd]⟩)
    have h3 := ubest_shorter (o := none) (ulen_cands (l := l) (s := s)) (fun a h => by cases h)
    rw [e1, ha, urunE_in hp h1 h5]
    rw [ha] at h3
    rw [show ([] : List UInt8) = (none : Option (List UInt8)).getD [] from rfl, h3]
    rfl
end Go.Proofs.YtnbiopihcbnkpaaGreatDoor

/- rle's own contracts: alike, Cut. -/



namespace Go.Proofs.YtnbiopihcbnkpaaGreatDoor

open Go.RowKit

theorem usame_cut (l : List Int) (k : Nat) : usame (l.take k) = min (usame l) k := by
  cases l with
  | nil => simp [usame]
  | cons x r =>
    cases k with
    | zero => simp [usame]
    | succ k =>
      rw [List.take_succ_cons, usame_cons, usame_cons]
      have key : ∀ (r : List Int) (k : Nat), ((r.take k).takeWhile (· == x)).length = min (r.takeWhile (· == x)).length k := by
        intro r
        induction r with
        | nil => intro k; simp
        | cons y r ih =>
          intro k
          cases k with
          | zero => simp
          | succ k =>
            rw [List.take_succ_cons, List.takeWhile_cons, List.takeWhile_cons]
            split
            · rw [List.length_cons, List.length_cons, ih]; omega
            · simp
      rw [key]
      omega
def UAlRel (l : List Int) (w : World) (i : Value) (wr : World) : Prop := ∃ k : Nat, k ≤ usame l ∧ i = .int .i64 (k : Int) ∧ Below w.heap.size w wr
set_option maxHeartbeats 2000000 in
set_option maxRecDepth 100000 in
theorem ualike_any (l : List Int) (v : Value) (K : Nat) (w : World) (hv : IsV iv l v w) (hb : l.length ≤ 1000000) (_hK : K ≤ 1000000) :
    Calls Tryz.prog 29 #[v, .int .i64 (K : Int)] w fun e w' => e = .returned (.int .i64 ((min (usame l) K : Nat) : Int)) ∧ Below w.heap.size w w' := by
  obtain ⟨A, n, c, rfl⟩ := hv.shape
  have hln := hv.parts.1
  have hnc : n ≤ c := hv.parts.2.2.1
  have hci : (c : Int) ≤ 9223372036854775807 := by have := hv.parts.2.2.2.1; unfold maxLen at this; omega
  have hn6 : n ≤ 1000000 := by omega
  obtain ⟨m, hm⟩ : ∃ m, m = min n K := ⟨_, rfl⟩
  have hmn : m ≤ n := by omega
  have hV := hv.take hmn
  have HE := Lib.hid (show usame (l.take m) = min (usame l) K by
    have := usame_le l
    rw [usame_cut]; omega)
  have hmin : ∀ (ts : Array TypeId) (t : TypeId) (W : World), (Builtin.min_ ts t #[.int .i64 (n : Int), .int .i64 (K : Int)]).run Tryz.prog W = .ok (.int .i64 (m : Int)) W := fun ts t W => by
    rw [run_min_int2]
    congr 2
    split <;> omega
  obtain ⟨t, ht⟩ : ∃ t, t = l.take m := ⟨_, rfl⟩
  rw [← ht] at hV HE
  rw [← HE.out]
  have HN := Lib.hid (show t.length = m by rw [ht, List.length_take]; omega)
  have HV := Lib.hid hV
  have hmi : (m : Int) ≤ (c : Int) := by omega
  have hm6 : m ≤ 1000000 := by omega
  clear hv hb hV hm ht hln HE
  have HS : Hid (UAlRel t w (.int .i64 0) w) := Lib.hid ⟨0, Nat.zero_le _, rfl, Below.refl _ _⟩
  go_enter Tryz.func29, Tryz.ntmps29
  go_wp2
  go_loopw [15] (UAlRel t w) (fun i _ => m - (intOf i).toNat)
  case atStart => exact HS.out
  case round =>
    obtain ⟨k, hk, rfl, hbw⟩ := hrel
    have hle := usame_le t
    have hkn : k ≤ m := by have := HN.out; omega
    have HK := Lib.hid hk
    have HB := Lib.hid hbw
    clear HS
    by_cases hlt : k < m
    · have hkl : k < t.length := by have := HN.out; omega
      have hn0i : (0 : Int) < (m : Int) := by omega
      have hlti : (k : Int) < (m : Int) := by omega
      have hiff := usame_iff hkl hk
      obtain ⟨ad, rfl, had, hcell⟩ := (HV.out.below hbw).at hkl
      obtain ⟨_, hAd, _, hcell0⟩ := (HV.out.below hbw).at (k := 0) (by omega)
      injection hAd with hAd
      subst hAd
      obtain ⟨x, hx⟩ : ∃ x, x = t[k] := ⟨_, rfl⟩
      obtain ⟨x0, hx0⟩ : ∃ x, x = t[0] := ⟨_, rfl⟩
      rw [← hx, ← hx0] at hiff
      have hcx : wr.cell? (ad.add k) = some (.int .i64 x) := by rw [hcell, hx]; rfl
      have hc0 : wr.cell? ad = some (.int .i64 x0) := by
        have h1 : ad.add 0 = ad := by unfold Addr.add; split <;> simp_all
        rw [← h1, hcell0, hx0]; rfl
      have HI := Lib.hid hiff
      clear hcell hcell0 hx hx0 hiff hk hbw hle
      by_cases he : x = x0
      · have d2 : (x != x0) = false := by simpa using he
        have HE := Lib.hid he
        clear he
        go_wp2
        go_roundw
        case rel => exact ⟨k + 1, HI.out.2 HE.out, by go_num, HB.out⟩
        case measure => simp [intOf]; omega
      · have d2 : (x != x0) = true := by simpa using he
        have HE := Lib.hid he
        clear he
        go_wp2
        go_ret
        refine ⟨?_, HB.out⟩
        have h1 : k = usame t := Nat.le_antisymm HK.out (Nat.not_lt.1 fun h => HE.out (HI.out.1 h))
        rw [← h1]
        rfl
    · obtain rfl : k = m := by omega
      have hlti : ¬ (k : Int) < (k : Int) := by omega
      have h1 : k = usame t := by have := HN.out; omega
      have HE := Lib.hid h1
      clear h1 hk hbw hle
      go_wp2
      go_ret
      refine ⟨?_, HB.out⟩
      rw [← HE.out]
      rfl
def UCRel (l : List Int) (m : Nat) (w : World) (i : Value) (wr : World) : Prop := ∃ k : Nat, 1 ≤ k ∧ k ≤ max 1 m ∧ i = .int .i64 (k : Int) ∧ (∀ j, 1 ≤ j → j < k → ufind l j = false) ∧ Below w.heap.size w wr
set_option maxHeartbeats 2000000 in
set_option maxRecDepth 100000 in
theorem ucut_any (l : List Int) (v : Value) (w : World) (hv : IsV iv l v w) (hb : l.length ≤ 1000000) :
    Calls Tryz.prog 11 #[v] w fun e w' => e = .returned (.int .i64 (ucut l : Int)) ∧ Below w.heap.size w w' := by
  have HV := Lib.hid hv
  obtain ⟨A, n, c, rfl⟩ := hv.shape
  have HN := Lib.hid hv.parts.1
  have hnc : n ≤ c := hv.parts.2.2.1
  have hci : (c : Int) ≤ 9223372036854775807 := by have := hv.parts.2.2.2.1; unfold maxLen at this; omega
  have hn6 : n ≤ 1000000 := by have := HN.out; omega
  have HL := Lib.hid hb
  obtain ⟨u, hu⟩ : ∃ u, u = min (usame l) 512 := ⟨_, rfl⟩
  have HA := Lib.hid (ualike_any l _ 512 w hv hb (by omega))
  rw [← hu] at HA
  have hul : u ≤ 512 := by omega
  obtain ⟨m, hm⟩ : ∃ m, m = min n 512 := ⟨_, rfl⟩
  have hmin : ∀ (ts : Array TypeId) (t : TypeId) (W : World), (Builtin.min_ ts t #[.int .i64 (n : Int), .int .i64 512]).run Tryz.prog W = .ok (.int .i64 (m : Int)) W := fun ts t W => by
    rw [run_min_int2]
    congr 2
    split <;> omega
  have hmn : m ≤ n := by omega
  have hm5 : m ≤ 512 := by omega
  by_cases hu3 : 3 ≤ u
  · have hu3i : (3 : Int) ≤ (u : Int) := by omega
    have hE : Hid (ucut l = u) := Lib.hid (by rw [hu]; exact ucut_same (by omega))
    clear hv hb hu hm
    go_enter Tryz.func11, Tryz.ntmps11
    go_wp2_with fail
    refine HA.out.mono ?_
    rintro e w1 ⟨rfl, hb1⟩
    go_wp2
    go_ret
    exact ⟨by rw [hE.out]; rfl, hb1⟩
  · have hu3i : ¬ (3 : Int) ≤ (u : Int) := by omega
    have HU3 : Hid (¬ 3 ≤ usame l) := Lib.hid (by omega)
    have HM : Hid (min l.length 512 = m) := Lib.hid (by rw [hm, HN.out])
    clear hv hb hu hm
    go_enter Tryz.func11, Tryz.ntmps11
    go_wp2_with fail
    refine HA.out.mono ?_
    rintro e w1 ⟨rfl, hb1⟩
    have HS : Hid (UCRel l m w (.int .i64 1) w1) := Lib.hid ⟨1, by omega, by omega, rfl, fun j h1 h2 => by omega, hb1⟩
    clear hb1
    go_wp2
    go_loopw [5] (UCRel l m w) (fun i _ => 513 - (intOf i).toNat)
    case atStart => exact HS.out
    case round =>
      obtain ⟨k, hk1, hkm, rfl, hno, hbw⟩ := hrel
      have HNO := Lib.hid hno
      have HBW := Lib.hid hbw
      clear hno hbw HS
      by_cases hlt : k < m
      · have hlti : (k : Int) < (m : Int) := by omega
        have hkn : k ≤ n := by omega
        obtain ⟨v4, hv4, hI4⟩ := fromV_named (P := Tryz.prog) elemI (k := k) hkn (HV.out.below HBW.out)
        obtain ⟨g, hg⟩ : ∃ g, g = min (usame (l.drop k)) 5 := ⟨_, rfl⟩
        have HS4 := Lib.hid (ualike_any (l.drop k) v4 5 wr hI4 (by rw [List.length_drop]; have := HL.out; omega) (by omega))
        rw [← hg] at HS4
        have hg5 : g ≤ 5 := by omega
        have HG := Lib.hid hg
        clear hg hI4
        by_cases h5 : g = 5
        · have hE : Hid (ucut l = k) := Lib.hid (ucut_at HU3.out hk1 (by have := HN.out; omega) (by omega) HNO.out (by unfold ufind; exact decide_eq_true (by have := HG.out; omega)))
          have d1 : ((g : Int) == 5) = true := by rw [h5]; rfl
          clear h5
          go_wp2_with (refine wpList_slicedL rfl _ _ _ rfl _ (hv4 _) ?_)
          refine HS4.out.mono ?_
          rintro e w2 ⟨rfl, hb2⟩
          have HB2 := Lib.hid (below_then HBW.out hb2)
          clear hb2
          go_wp2
          go_ret
          exact ⟨by rw [hE.out]; rfl, HB2.out⟩
        · have d1 : ((g : Int) == 5) = false := by simp; omega
          have HG5 := Lib.hid h5
          clear h5
          go_wp2_with (refine wpList_slicedL rfl _ _ _ rfl _ (hv4 _) ?_)
          refine HS4.out.mono ?_
          rintro e w2 ⟨rfl, hb2⟩
          have HB2 := Lib.hid (below_then HBW.out hb2)
          clear hb2
          go_wp2
          go_roundw
          case rel =>
            refine ⟨k + 1, by omega, by omega, by go_num, fun j h1 h2 => ?_, HB2.out⟩
            by_cases hj : j < k
            · exact HNO.out j h1 hj
            · obtain rfl : j = k := by omega
              unfold ufind
              exact decide_eq_false (by have := HG.out; have := HG5.out; omega)
          case measure => simp [intOf]; omega
      · have hlti : ¬ (k : Int) < (m : Int) := by omega
        have hE : Hid (ucut l = m) := Lib.hid (by
          rw [ucut_all HU3.out (fun j h1 h2 => HNO.out j h1 (by have := HM.out; omega)), HM.out])
        go_wp2
        go_ret
        exact ⟨by rw [hE.out]; rfl, HBW.out⟩
end Go.Proofs.YtnbiopihcbnkpaaGreatDoor

/- Runs (layer 11): what a kind's Take answers speaks of the bytes that it takes, and of how many at most. -/



namespace Go.Proofs.YtnbiopihcbnkpaaGreatDoor

/-- What was taken of bytes: a piece ahead, no longer than so; with anything else behind it the answer is the same. -/
def Took {β : Type} (n : Nat) (f : List UInt8 → β) (ans : List UInt8 → β) (l q : List UInt8) : Prop := ∃ a : List UInt8, l = a ++ q ∧ a.length ≤ n ∧ ∀ r, f (a ++ r) = ans r
theorem unpacksAny_loc {l q : List UInt8} {M W : Int} {us : List Nat} (h : unpacksAny l M W = (us, q, 0)) : Took (8 * M.toNat) (fun l => unpacksAny l M W) (fun r => (us, r, 0)) l q := by
  unfold unpacksAny at h
  split at h
  · rename_i hc
    unfold unpacks at h
    split at h
    · injection h with _ h; injection h with _ h; cases h
    · rename_i h1
      split at h
      · rename_i h2
        injection h with h3 h; injection h with h4 _
        have hW : W.toNat ≤ 64 := by omega
        have hs := bsize_eight (n := M.toNat) hW
        have htl : (l.take (bsize M.toNat W.toNat)).length = bsize M.toNat W.toNat := by rw [List.length_take]; omega
        refine ⟨l.take (bsize M.toNat W.toNat), by rw [← h4, List.take_append_drop], by omega, fun r => ?_⟩
        have e1 : (l.take (bsize M.toNat W.toNat) ++ r).take (bsize M.toNat W.toNat) = l.take (bsize M.toNat W.toNat) := by rw [List.take_append_of_le_length (by omega), List.take_of_length_le (by omega)]
        have e2 : (l.take (bsize M.toNat W.toNat) ++ r).drop (bsize M.toNat W.toNat) = r := by
          rw [List.drop_append_of_le_length (by omega), List.drop_of_length_le (by omega), List.nil_append]
        unfold unpacksAny
        dsimp only
        rw [if_pos hc]
        unfold unpacks
        rw [if_neg (by rw [List.length_append, htl]; omega), e1, e2, if_pos h2, h3]
      · injection h with _ h; injection h with _ h; cases h
  · injection h with _ h; injection h with _ h; cases h
theorem dlook_loc {l q : List UInt8} {k c m : Int} (h : dlook l = (k, c, m, q, 0)) : Took 2 dlook (fun r => (k, c, m, r, 0)) l q := by
  unfold dlook at h
  split at h
  · injection h with _ h; injection h with _ h; injection h with _ h; injection h with _ h; cases h
  · rename_i h1
    injection h with hk h; injection h with hc h; injection h with hm h; injection h with hq _
    have htl : (l.take 2).length = 2 := by rw [List.length_take]; omega
    refine ⟨l.take 2, by rw [← hq, List.take_append_drop], by omega, fun r => ?_⟩
    have e1 : (l.take 2 ++ r).take 2 = l.take 2 := by rw [List.take_append_of_le_length (by omega), List.take_of_length_le (by omega)]
    have e2 : (l.take 2 ++ r).drop 2 = r := by rw [List.drop_append_of_le_length (by omega), List.drop_of_length_le (by omega), List.nil_append]
    unfold dlook
    rw [if_neg (by rw [List.length_append, htl]; omega), e1, e2, hk, hc, hm]
theorem vtint_loc {l q : List UInt8} {s : Bool} {x : Int} (h : vtint l s = some (x, q)) : Took 10 (fun l => vtint l s) (fun r => some (x, r)) l q := by
  cases ht : vtake l with
  | none => rw [vtint_none s ht] at h; cases h
  | some p =>
    obtain ⟨u, r0⟩ := p
    obtain ⟨h1, h2⟩ := vtake_some ht
    have h10 := vput_len_10 h2
    cases s with
    | true =>
      rw [vtint_true ht] at h
      injection h with h; injection h with h3 h4
      subst h4
      refine ⟨vput u, h1, h10, fun r => ?_⟩
      dsimp only
      rw [vtint_true (vtake_put h2 r), h3]
    | false =>
      by_cases hu : (u : Int) < 9223372036854775808
      · rw [vtint_small ht hu] at h
        injection h with h; injection h with h3 h4
        subst h4
        refine ⟨vput u, h1, h10, fun r => ?_⟩
        dsimp only
        rw [vtint_small (vtake_put h2 r) hu, h3]
      · rw [vtint_big ht (by omega)] at h
        cases h
theorem Took.mono {β : Type} {m n : Nat} {f g : List UInt8 → β} {l q : List UInt8} (h : Took m f g l q) (hn : m ≤ n) : Took n f g l q := by
  obtain ⟨a, h1, h2, h3⟩ := h
  exact ⟨a, h1, by omega, h3⟩
theorem etake_loc {b : List UInt8} {s : Bool} (h : (etake b s).2.2.2 = 0) : Took 9 (fun b => etake b s) (fun r => ((etake b s).1, (etake b s).2.1, r, 0)) b (etake b s).2.2.1 := by
  cases b with
  | nil => cases h
  | cons c r =>
    obtain ⟨n, hn⟩ : ∃ n, n = c.toNat / 8 + 1 := ⟨_, rfl⟩
    unfold etake at h ⊢
    dsimp only at h ⊢
    rw [← hn] at h ⊢
    split at h
    · cases h
    · rename_i h1
      rw [if_neg h1]
      split at h
      · cases h
      · rename_i h2
        rw [if_neg h2]
        split at h
        · cases h
        · rename_i h3
          rw [if_neg h3]
          cases hm : emade (bval (r.take n)) s with
          | none => rw [hm] at h; cases h
          | some x =>
            dsimp only
            have htl : (r.take n).length = n := by rw [List.length_take]; omega
            refine ⟨c :: r.take n, by rw [List.cons_append, List.take_append_drop], by rw [List.length_cons]; omega, fun t => ?_⟩
            have e1 : (r.take n ++ t).take n = r.take n := by rw [List.take_append_of_le_length (by omega), List.take_of_length_le (by omega)]
            have e2 : (r.take n ++ t).drop n = t := by rw [List.drop_append_of_le_length (by omega), List.drop_of_length_le (by omega), List.nil_append]
            rw [List.cons_append]
            dsimp only
            rw [← hn, if_neg h1, if_neg (by rw [List.length_append, htl]; omega), e1, e2, if_neg h3, hm]
theorem dtake_loc {b : List UInt8} {s : Bool} (h : (dtakeE b s).2.2 = 0) : Took 4098 (fun b => dtakeE b s) (fun r => ((dtakeE b s).1, r, 0)) b (dtakeE b s).2.1 := by
  obtain ⟨K, C, M, r, x, hd⟩ : ∃ K C M r x, dlook b = (K, C, M, r, x) := ⟨_, _, _, _, _, rfl⟩
  have hbd := dlook_bd b
  rw [hd] at hbd
  dsimp only at hbd
  have e0 := h
  unfold dtakeE at h
  rw [hd] at h
  dsimp only at h
  split at h
  · cases h
  · rename_i hn
    have hx : x = 0 := Decidable.not_not.1 fun h2 => hn (.inl h2)
    have hK : K = 1 := Decidable.not_not.1 fun h2 => hn (.inr h2)
    subst hx hK
    obtain ⟨u, q, e, hu⟩ : ∃ u q e, unpacksAny r M (wof C) = (u, q, e) := ⟨_, _, _, rfl⟩
    rw [hu] at h
    dsimp only at h
    split at h
    · cases h
    · rename_i he
      have he0 : e = 0 := Decidable.not_not.1 he
      subst he0
      cases hm : dmade u s with
      | none => rw [hm] at h; cases h
      | some o =>
        obtain ⟨a1, p1, p2, p3⟩ := dlook_loc hd
        obtain ⟨a2, q1, q2, q3⟩ := unpacksAny_loc hu
        rw [dtakeE_ok hd hu hm]
        refine ⟨a1 ++ a2, by rw [List.append_assoc, ← q1, ← p1], by rw [List.length_append]; omega, fun t => ?_⟩
        dsimp only
        rw [List.append_assoc]
        exact dtakeE_ok (p3 _) (q3 t) hm
theorem ptake_loc {b : List UInt8} {s : Bool} (h : (ptakeE b s).2.2 = 0) : Took 4356 (fun b => ptakeE b s) (fun r => ((ptakeE b s).1, r, 0)) b (ptakeE b s).2.1 := by
  obtain ⟨K, C, M, r, x, hd⟩ : ∃ K C M r x, dlook b = (K, C, M, r, x) := ⟨_, _, _, _, _, rfl⟩
  have hbd := dlook_bd b
  rw [hd] at hbd
  dsimp only at hbd
  by_cases hk : x ≠ 0 ∨ K ≠ 2
  · rw [ptakeE_head (by rw [hd]; exact hk)] at h; cases h
  · obtain rfl : x = 0 := Decidable.not_not.1 fun h2 => hk (.inl h2)
    obtain rfl : K = 2 := Decidable.not_not.1 fun h2 => hk (.inr h2)
    have hM := dlook_many hd
    rw [ptakeE_in hd] at h ⊢
    obtain ⟨m, rfl⟩ := nat_of (show 0 ≤ M by omega)
    by_cases h2 : r.length < 2
    · rw [pbody_short h2] at h; cases h
    · obtain ⟨c0, r0, rfl⟩ : ∃ c r', r = c :: r' := by cases r with | nil => simp at h2 | cons c r' => exact ⟨c, r', rfl⟩
      obtain ⟨c1, r1, rfl⟩ : ∃ c r', r0 = c :: r' := by cases r0 with | nil => simp at h2 | cons c r' => exact ⟨c, r', rfl⟩
      obtain ⟨p, hp⟩ := wof_nat (c0.toNat % 32)
      have hfo : ∀ t : List UInt8, pbody s C (m : Int) (c0 :: c1 :: t) = if 64 < c1.toNat / 32 + 1 + p ∨ t.length < c0.toNat / 32 + 1 then gbad else pbits s (pmade (t.take (c0.toNat / 32 + 1))) C (m : Int) (c1.toNat / 32 + 1) p (c1.toNat % 32) (t.drop (c0.toNat / 32 + 1)) := by
        intro t
        unfold pbody
        rw [if_neg (by simp)]
        simp only [List.getD_cons_zero, List.getD_cons_succ, List.length_cons, hp, Int.toNat_natCast, List.drop_succ_cons, List.drop_zero, show t.length + 1 + 1 - 2 = t.length from by omega]
      rw [hfo] at h ⊢
      split at h
      · cases h
      · rename_i hg
        rw [if_neg hg]
        obtain ⟨n, hn⟩ : ∃ n, n = c0.toNat / 32 + 1 := ⟨_, rfl⟩
        have hn8 : n ≤ 8 := by have := c0.toNat_lt; omega
        have ht31 : c1.toNat % 32 ≤ 31 := by omega
        rw [← hn] at h hg ⊢
        have hrl : n ≤ r1.length := Nat.not_lt.1 fun h => hg (.inr h)
        have htl : (r1.take n).length = n := by rw [List.length_take]; omega
        obtain ⟨us, q1, e1, hu⟩ : ∃ u q e, unpacksAny (r1.drop n) (m : Int) (wof C) = (u, q, e) := ⟨_, _, _, rfl⟩
        by_cases he1 : e1 = 0
        · subst he1
          obtain ⟨vs, q2, e2, hv⟩ : ∃ u r e, unpacksAny q1 ((c1.toNat % 32 : Nat) : Int) (wclosest ((c1.toNat / 32 + 1 + p : Nat) : Int)) = (u, r, e) := ⟨_, _, _, rfl⟩
          by_cases he2 : e2 = 0
          · subst he2
            obtain ⟨a1, p1, p2, p3⟩ := dlook_loc hd
            obtain ⟨a2, u1, u2, u3⟩ := unpacksAny_loc hu
            obtain ⟨a3, v1, v2, v3⟩ := unpacksAny_loc hv
            rw [Int.toNat_natCast] at u2 v2
            rw [pbits_in hu hv] at h ⊢
            cases hpa : pall (wof C).toNat (c1.toNat / 32 + 1) p (m : Int).toNat (0, us) vs with
            | none => rw [pend_none hpa] at h; cases h
            | some st =>
              obtain ⟨a, lf⟩ := st
              rw [pend_some hpa] at h ⊢
              cases ho : omap (gnext s false (pmade (r1.take n))) lf with
              | none => rw [ho] at h; cases h
              | some xs =>
                dsimp only
                have hr1 : r1 = r1.take n ++ (a2 ++ (a3 ++ q2)) := by rw [← v1, ← u1, List.take_append_drop]
                refine ⟨a1 ++ (c0 :: c1 :: r1.take n) ++ a2 ++ a3, ?_, ?_, fun t => ?_⟩
                · rw [p1]
                  simp only [List.append_assoc, List.cons_append]
                  rw [← hr1]
                · simp only [List.length_append, List.length_cons, htl]
                  omega
                · have e1 : (a1 ++ (c0 :: c1 :: r1.take n) ++ a2 ++ a3) ++ t = a1 ++ (c0 :: c1 :: (r1.take n ++ (a2 ++ (a3 ++ t)))) := by simp only [List.append_assoc, List.cons_append]
                  have e2 : (r1.take n ++ (a2 ++ (a3 ++ t))).take n = r1.take n := by rw [List.take_append_of_le_length (by omega), List.take_of_length_le (by omega)]
                  have e3 : (r1.take n ++ (a2 ++ (a3 ++ t))).drop n = a2 ++ (a3 ++ t) := by rw [List.drop_append_of_le_length (by omega), List.drop_of_length_le (by omega), List.nil_append]
                  dsimp only
                  rw [e1, ptakeE_in (p3 _), hfo, ← hn, if_neg (by
                    rintro (h | h)
                    · exact hg (.inl h)
                    · rw [List.length_append, htl] at h; omega), e2, e3, pbits_in (u3 _) (v3 t), pend_some hpa, ho]
          · rw [pbits_cut2 hu hv he2] at h; cases h
        · rw [pbits_cut hu he1] at h; cases h
theorem gend_loc {s f : Bool} {x : Int} {us : List Nat} {q : List UInt8} (h : (gend s f x us q).2.2 = 0) : (gend s f x us q).2.1 = q ∧ ∀ r, gend s f x us r = ((gend s f x us q).1, r, 0) := by
  unfold gend at h ⊢
  cases hw : gwalk s f x us with
  | none => rw [hw] at h; cases h
  | some ys => exact ⟨rfl, fun r => rfl⟩
theorem gtake_loc {b : List UInt8} {s : Bool} (h : (gtakeE b s).2.2 = 0) : Took 4118 (fun b => gtakeE b s) (fun r => ((gtakeE b s).1, r, 0)) b (gtakeE b s).2.1 := by
  obtain ⟨K, C, M, r, x, hd⟩ : ∃ K C M r x, dlook b = (K, C, M, r, x) := ⟨_, _, _, _, _, rfl⟩
  have hbd := dlook_bd b
  rw [hd] at hbd
  dsimp only at hbd
  by_cases hk : x ≠ 0 ∨ K ≠ 3 ∨ M < 2
  · rw [gtakeE_head (by rw [hd]; exact hk)] at h; cases h
  · obtain rfl : x = 0 := Decidable.not_not.1 fun h2 => hk (.inl h2)
    obtain rfl : K = 3 := Decidable.not_not.1 fun h2 => hk (.inr (.inl h2))
    have hM2 : 2 ≤ M := Int.not_lt.1 fun h2 => hk (.inr (.inr h2))
    rw [gtakeE_in hd hM2] at h ⊢
    cases h1 : vtint r s with
    | none => rw [gbody_none h1] at h; cases h
    | some p =>
      obtain ⟨x0, r1⟩ := p
      cases h2 : vtint r1 true with
      | none => rw [gbody_none2 h1 h2] at h; cases h
      | some p2 =>
        obtain ⟨dd, r2⟩ := p2
        obtain ⟨u, f, o, hg⟩ : ∃ u f o, gdiff 0 dd = (u, f, o) := ⟨_, _, _, rfl⟩
        obtain ⟨a1, p1, p2, p3⟩ := dlook_loc hd
        obtain ⟨a2, s1, s2, s3⟩ := vtint_loc h1
        obtain ⟨a3, t1, t2, t3⟩ := vtint_loc h2
        dsimp only at s3 t3
        rw [gbody_some h1 h2 hg] at h ⊢
        cases o with
        | false => cases h
        | true =>
          have key : ∀ q, (if true = true then gmore s f x0 u C M q else ([], [], 2)) = gmore s f x0 u C M q := fun _ => if_pos rfl
          try rw [key] at h
          try rw [key]
          by_cases hC : 0 < C
          · obtain ⟨us, q, e, hu⟩ : ∃ us q e, unpacksAny r2 (M - 2) (wof C) = (us, q, e) := ⟨_, _, _, rfl⟩
            by_cases he : e = 0
            · subst he
              rw [gmore_good hC hu] at h ⊢
              obtain ⟨a4, u1, u2, u3⟩ := unpacksAny_loc hu
              obtain ⟨e1, e2⟩ := gend_loc h
              rw [e1]
              refine ⟨a1 ++ (a2 ++ (a3 ++ a4)), by rw [p1, s1, t1, u1]; simp only [List.append_assoc], by simp only [List.length_append]; omega, fun t => ?_⟩
              dsimp only
              simp only [List.append_assoc]
              rw [gtakeE_in (p3 _) hM2, gbody_some (s3 _) (t3 _) hg]
              try rw [key]
              rw [gmore_good hC (u3 t), e2]
            · rw [gmore_bad hC hu he] at h; cases h
          · rw [gmore_zero hC] at h ⊢
            obtain ⟨e1, e2⟩ := gend_loc h
            rw [e1]
            refine ⟨a1 ++ (a2 ++ a3), by rw [p1, s1, t1]; simp only [List.append_assoc], by simp only [List.length_append]; omega, fun t => ?_⟩
            dsimp only
            simp only [List.append_assoc]
            rw [gtakeE_in (p3 _) hM2, gbody_some (s3 _) (t3 _) hg]
            try rw [key]
            rw [gmore_zero hC, e2]
/-- Bytes cut behind what a run may need: the same numbers, and what is behind them is cut there, too. -/
theorem took_cut {β : Type} {n : Nat} {f : List UInt8 → β} {ans : List UInt8 → β} {l q : List UInt8} (h : Took n f ans l q) : f (l.take n) = ans ((l.take n).drop (l.length - q.length)) ∧ (l.take n).length - ((l.take n).drop (l.length - q.length)).length = l.length - q.length ∧ l.drop (l.length - q.length) = q ∧ f l = ans q := by
  obtain ⟨a, rfl, h2, h3⟩ := h
  have h4 : (a ++ q).length - q.length = a.length := by rw [List.length_append]; omega
  rw [h4]
  have e1 : (a ++ q).take n = a ++ q.take (n - a.length) := by rw [List.take_append, List.take_of_length_le h2]
  have e2 : (a ++ q.take (n - a.length)).drop a.length = q.take (n - a.length) := by simp
  rw [e1, e2]
  refine ⟨h3 _, ?_, by simp, h3 _⟩
  rw [List.length_append]
  omega
theorem took_more {β : Type} {n : Nat} {f : List UInt8 → β} {ans : List UInt8 → β} {l : List UInt8} {q : List UInt8} {k : Nat} (h : Took n f ans (l.take k) q) : f l = ans (q ++ l.drop k) ∧ Took n f ans l (q ++ l.drop k) := by
  obtain ⟨a, h1, h2, h3⟩ := h
  have e : l = a ++ (q ++ l.drop k) := by
    rw [← List.append_assoc, ← h1, List.take_append_drop]
  refine ⟨?_, a, e, h2, h3⟩
  have := h3 (q ++ l.drop k)
  rw [← e] at this
  exact this
theorem uone_nil (s : Bool) : uone [] s = ([], [], 2) := rfl
theorem uone_first {c : UInt8} {a r : List UInt8} {s : Bool} : uone (c :: a ++ r) s = if c.toNat / 64 = 1 then dtakeE (c :: a ++ r) s else if c.toNat / 64 = 2 then ptakeE (c :: a ++ r) s else if c.toNat / 64 = 3 then gtakeE (c :: a ++ r) s
    else (List.replicate (etake (c :: a ++ r) s).2.1.toNat (etake (c :: a ++ r) s).1, (etake (c :: a ++ r) s).2.2.1, (etake (c :: a ++ r) s).2.2.2) := rfl
theorem took_first {c : UInt8} {b q : List UInt8} {n : Nat} {f : List UInt8 → List Int × List UInt8 × Int} {xs : List Int} (h : Took n f (fun r => (xs, r, 0)) (c :: b) q) (h0 : (f []).2.2 ≠ 0) : ∃ a, b = a ++ q ∧ a.length + 1 ≤ n ∧ ∀ r, f (c :: a ++ r) = (xs, r, 0) := by
  obtain ⟨a, h1, h2, h3⟩ := h
  cases a with
  | nil =>
    have h4 := h3 []
    rw [List.append_nil] at h4
    rw [h4] at h0
    exact absurd rfl h0
  | cons d a =>
    rw [List.cons_append] at h1
    injection h1 with h4 h5
    subst h4
    exact ⟨a, h5, h2, h3⟩
theorem uone_loc {b : List UInt8} {s : Bool} (h : (uone b s).2.2 = 0) : Took 4356 (fun b => uone b s) (fun r => ((uone b s).1, r, 0)) b (uone b s).2.1 := by
  cases b with
  | nil => cases h
  | cons c b =>
    have hb := uone_first (c := c) (a := b) (r := []) (s := s)
    rw [List.append_nil] at hb
    by_cases h1 : c.toNat / 64 = 1
    · rw [if_pos h1] at hb
      rw [hb] at h ⊢
      obtain ⟨a, h4, h5, h6⟩ := took_first (dtake_loc h) (by unfold dtakeE dlook; simp)
      refine ⟨c :: a, by rw [List.cons_append, ← h4], by rw [List.length_cons]; omega, fun r => ?_⟩
      dsimp only
      rw [uone_first, if_pos h1, h6]
    · rw [if_neg h1] at hb
      by_cases h2 : c.toNat / 64 = 2
      · rw [if_pos h2] at hb
        rw [hb] at h ⊢
        obtain ⟨a, h4, h5, h6⟩ := took_first (ptake_loc h) (by unfold ptakeE dlook; simp [gbad])
        refine ⟨c :: a, by rw [List.cons_append, ← h4], by rw [List.length_cons]; omega, fun r => ?_⟩
        dsimp only
        rw [uone_first, if_neg h1, if_pos h2, h6]
      · rw [if_neg h2] at hb
        by_cases h3 : c.toNat / 64 = 3
        · rw [if_pos h3] at hb
          rw [hb] at h ⊢
          obtain ⟨a, h4, h5, h6⟩ := took_first (gtake_loc h) (by unfold gtakeE dlook; simp [gbad])
          refine ⟨c :: a, by rw [List.cons_append, ← h4], by rw [List.length_cons]; omega, fun r => ?_⟩
          dsimp only
          rw [uone_first, if_neg h1, if_neg h2, if_pos h3, h6]
        · rw [if_neg h3] at hb
          rw [hb] at h ⊢
          dsimp only at h ⊢
          obtain ⟨a, h4, h5, h6⟩ := etake_loc h
          cases a with
          | nil =>
            have h7 := h6 []
            dsimp only at h7
            rw [List.append_nil] at h7
            have h8 := congrArg (fun p => p.2.2.2) h7
            simp [etake] at h8
          | cons d a =>
            rw [List.cons_append] at h4
            injection h4 with h7 h8
            subst h7
            refine ⟨c :: a, by rw [List.cons_append, ← h8], by omega, fun r => ?_⟩
            have h9 := h6 r
            dsimp only at h9 ⊢
            rw [uone_first, if_neg h1, if_neg h2, if_neg h3, h9]
/-- A run, taken of no more bytes than a run may need. -/
theorem uone_shown {b sh : List UInt8} {s : Bool} (hs : sh = b.take 4356) : ((uone sh s).2.2 ≠ 0 → (uone b s).2.2 ≠ 0) ∧ ((uone sh s).2.2 = 0 → (uone sh s).2.1.length ≤ sh.length ∧ uone b s = ((uone sh s).1, b.drop (sh.length - (uone sh s).2.1.length), 0)) := by
  subst hs
  refine ⟨fun h h2 => ?_, fun h => ?_⟩
  · have h3 := (took_cut (uone_loc h2)).1
    try dsimp only at h3
    rw [h3] at h
    exact h rfl
  · obtain ⟨q, hq⟩ : ∃ q, q = (uone (b.take 4356) s).2.1 := ⟨_, rfl⟩
    have h1 := uone_loc h
    rw [← hq] at h1 ⊢
    obtain ⟨a, h3, h4, h5⟩ := h1
    obtain ⟨h6, -⟩ := took_more (n := 4356) (f := fun b => uone b s) (ans := fun r => ((uone (b.take 4356) s).1, r, 0)) (k := 4356) (l := b) ⟨a, h3, h4, h5⟩
    try dsimp only at h6
    have hl : (b.take 4356).length = a.length + q.length := by rw [h3, List.length_append]
    refine ⟨by omega, ?_⟩
    rw [h6, hl, Nat.add_sub_cancel]
    congr 2
    have e : b = a ++ (q ++ b.drop 4356) := by rw [← List.append_assoc, ← h3, List.take_append_drop]
    have e2 : b.drop a.length = (a ++ (q ++ b.drop 4356)).drop a.length := by rw [← e]
    rw [e2, List.drop_left]
end Go.Proofs.YtnbiopihcbnkpaaGreatDoor

/- slices.Concat and slices.Grow at bytes. -/







namespace Go.Proofs.YtnbiopihcbnkpaaGreatDoor

open Go.RowKit

theorem own_zero {w : World} {base g G : Nat} {e : TypeId} {cur : Array Value} (hg : w.heap[g]? = some (.cells cur e (0, 0))) (hb : base ≤ g) (hG : G ≤ maxLen) (hs : cur.size = G) : w.ownsRow base e 1 (.slice (some ⟨g, 0, none⟩) 0 G) 0 [] :=
  ⟨rfl, .inr ⟨g, G, cur, rfl, hb, hg, Nat.zero_le _, hG, by rw [hs, Nat.mul_one], by simp⟩⟩
theorem zeroCells_size (z : Value) (n : Nat) : (Builtin.zeroCells #[z] n).size = n := by simp [Builtin.zeroCells]
set_option maxHeartbeats 2000000 in
set_option maxRecDepth 100000 in
theorem grow_own (n : Nat) (w : World) (hn : n ≤ 1000000) : Calls Tryz.prog 146 #[.slice none 0 0, .int .i64 (n : Int)] w fun e w' => ∃ v, e = .returned v ∧ w'.ownsRow w.heap.size 5 1 v 0 [] ∧ Below w.heap.size w w' := by
  have hnw : IntKind.i64.wrap (n : Int) = (n : Int) := by rw [IntKind.wrap_i64]; omega
  by_cases h0 : n = 0
  · subst h0
    go_enter Tryz.func146, Tryz.ntmps146
    go_wp2
    go_ret
    exact ⟨_, rfl, World.ownsRow_nil _ _ _ _, Below.refl _ _⟩
  · obtain ⟨i, hi, hz, hs, hby⟩ := elemB.info
    have hrz : ∀ ty, (Builtin.append_ #[25, 3] ty #[.slice none 0 0, .int .i64 (n : Int)]).run Tryz.prog w = .ok (.slice (some ⟨w.heap.size, 0, none⟩) n (grownCap w n 0 5)) (w.drew.alloc (.cells (Builtin.zeroCells (bv 0).cells n ++ Builtin.zeroCells (bv 0).cells (grownCap w n 0 5 - n)) 5)) := fun ty =>
      Lib.run_append_nil_zeros w 25 3 ty 5 i (bv 0) .i64 .i64 Tryz.underlying25 Tryz.underlying3 hi hz n (by omega) (by omega) (by omega) (by rw [hby]; omega)
    have hGn : n ≤ grownCap w n 0 5 := grownCap_ge w _ _ _
    have hGm := grownCap_le_maxLen w n 0 5 (by unfold maxLen; omega)
    obtain ⟨G, hG⟩ : ∃ G, G = grownCap w n 0 5 := ⟨_, rfl⟩
    rw [← hG] at hrz hGn hGm
    have hG63 : G ≤ 9223372036854775807 := by unfold maxLen at hGm; omega
    obtain ⟨cur, hcur⟩ : ∃ cur, cur = Builtin.zeroCells (bv 0).cells n ++ Builtin.zeroCells (bv 0).cells (G - n) := ⟨_, rfl⟩
    rw [← hcur] at hrz
    have HCS := Lib.hid (show cur.size = G by
      rw [hcur, Array.size_append]
      have h1 := zeroCells_size (.int .u8 0) n
      have h2 := zeroCells_size (.int .u8 0) (G - n)
      show (Builtin.zeroCells #[.int .u8 0] n).size + (Builtin.zeroCells #[.int .u8 0] (G - n)).size = G
      omega)
    have HGM := Lib.hid hGm
    have hn1 : 0 < (n : Int) := by omega
    clear hcur hGm hi hz hs hby hG h0
    go_enter Tryz.func146, Tryz.ntmps146
    go_wp2_with (at_builtin; refine Lib.wpList_append_run _ rfl _ _ _ _ rfl _ _ rfl rfl _ _ (hrz _) ?_)
    all_goals
      go_ret
      have h1 : w.drew.heap.size = w.heap.size := rfl
      refine ⟨_, rfl, own_zero (by rw [← h1]; exact heap_alloc_new w.drew _) (Nat.le_refl _) HGM.out HCS.out, ((Below.refl _ _).alloc (Nat.le_refl _) _).trans ⟨rfl, rfl, rfl, Nat.le_refl _, fun _ _ => rfl⟩⟩
def CatRel1 (xs : List (Value × List UInt8)) (w : World) (s i : Value) (wr : World) : Prop := ∃ k S : Nat, k ≤ xs.length ∧ i = .int .i64 (k : Int) ∧ s = .int .i64 (S : Int) ∧ S = ((xs.take k).flatMap (·.2)).length ∧ w = wr
def CatRel2 (xs : List (Value × List UInt8)) (w : World) (v i : Value) (wr : World) : Prop := ∃ (k : Nat) (l : List UInt8), k ≤ xs.length ∧ i = .int .i64 (k : Int) ∧ l = (xs.take k).flatMap (·.2) ∧ wr.ownsRow w.heap.size 5 1 v l.length (l.map bv) ∧ Below w.heap.size w wr
theorem flat_le {xs : List (Value × List UInt8)} (k : Nat) : ((xs.take k).flatMap (·.2)).length ≤ (xs.flatMap (·.2)).length := by
  have h : xs.flatMap (·.2) = (xs.take k).flatMap (·.2) ++ (xs.drop k).flatMap (·.2) := by rw [← List.flatMap_append, List.take_append_drop]
  rw [h, List.length_append]
  omega
set_option maxHeartbeats 2000000 in
set_option maxRecDepth 100000 in
theorem concat_own (xs : List (Value × List UInt8)) (v : Value) (w : World) (hv : IsV (·.1) xs v w) (hx : ∀ x ∈ xs, IsB x.2 x.1 w) (hm : xs.length ≤ 1000) (hb : (xs.flatMap (·.2)).length ≤ 1000000) :
    Calls Tryz.prog 127 #[v] w (RetOwn w (xs.flatMap (·.2))) := by
  obtain ⟨A, n, c, rfl⟩ := hv.shape
  have HN := Lib.hid hv.parts.1
  have HV := Lib.hid hv
  have HX := Lib.hid hx
  have HB := Lib.hid hb
  have hn6 : n ≤ 1000 := by have := HN.out; omega
  have HS := Lib.hid (show CatRel1 xs w (.int .i64 0) (.int .i64 0) w from ⟨0, 0, Nat.zero_le _, rfl, rfl, rfl, rfl⟩)
  clear hv hx hm hb
  go_enter Tryz.func127, Tryz.ntmps127
  go_wp2
  go_loopw [3, 11] (CatRel1 xs w) (fun _ i _ => n - (intOf i).toNat)
  case atStart => exact HS.out
  case round =>
    obtain ⟨k, S, hk, rfl, rfl, hS, rfl⟩ := hrel
    have hkn : k ≤ n := by have := HN.out; omega
    have HSE := Lib.hid hS
    have hS6 : S ≤ 1000000 := by rw [hS]; exact Nat.le_trans (flat_le k) HB.out
    clear hS hk
    by_cases hlt : k < n
    · have hkl : k < xs.length := by have := HN.out; omega
      have hlti : (k : Int) < (n : Int) := by omega
      obtain ⟨ad, rfl, had, hcell⟩ := HV.out.at hkl
      obtain ⟨x, hxe⟩ : ∃ x, x = xs[k] := ⟨_, rfl⟩
      rw [← hxe] at hcell
      have hxb := HX.out x (by rw [hxe]; exact List.getElem_mem hkl)
      have HNX := Lib.hid (show S + x.2.length = ((xs.take (k + 1)).flatMap (·.2)).length by rw [List.take_succ_eq_append_getElem hkl, List.flatMap_append, List.length_append, ← HSE.out, ← hxe]; simp)
      have hS2 : S + x.2.length ≤ 1000000 := by rw [HNX.out]; exact Nat.le_trans (flat_le (k + 1)) HB.out
      obtain ⟨A1, c1, hx1, _⟩ := hxb
      rw [hx1] at hcell
      obtain ⟨q, hq⟩ : ∃ q, q = x.2.length := ⟨_, rfl⟩
      rw [← hq] at hcell HNX hS2
      have hsw : IntKind.i64.wrap ((S : Int) + (q : Int)) = (S : Int) + (q : Int) := by rw [IntKind.wrap_i64]; omega
      have hneg : ¬ ((S : Int) + (q : Int) < 0) := by omega
      clear hxe hx1 hq
      go_wp2
      go_roundw
      case rel => exact ⟨k + 1, S + q, hkl, by go_num, by go_num, HNX.out, rfl⟩
      case measure => simp [intOf]; omega
    · obtain rfl : k = n := by omega
      have HGR := Lib.hid (grow_own S w hS6)
      clear HSE
      go_wp2_with (go_at_call 146; refine HGR.out.mono ?_; rintro e w1 ⟨v1, rfl, ho1, hb1⟩)
      have HS2 := Lib.hid (show CatRel2 xs w v1 (.int .i64 0) w1 from ⟨0, [], Nat.zero_le _, rfl, rfl, ho1, hb1⟩)
      clear ho1 hb1
      go_loopw [6, 27] (CatRel2 xs w) (fun _ i _ => k - (intOf i).toNat)
      case atStart => exact HS2.out
      case round =>
        obtain ⟨j, l, hj, rfl, hl, hown, hbw⟩ := hrel
        have hjn : j ≤ k := by have := HN.out; omega
        have HL := Lib.hid hl
        have hl6 : l.length ≤ 1000000 := by rw [hl]; exact Nat.le_trans (flat_le j) HB.out
        have hz := hbw.size
        clear hl hj
        by_cases hlt2 : j < k
        · have hkl : j < xs.length := by have := HN.out; omega
          have hlti : (j : Int) < (k : Int) := by omega
          obtain ⟨ad, rfl, had, hcell⟩ := (HV.out.below hbw).at hkl
          obtain ⟨x, hxe⟩ : ∃ x, x = xs[j] := ⟨_, rfl⟩
          rw [← hxe] at hcell
          have hxb := HX.out x (by rw [hxe]; exact List.getElem_mem hkl)
          have HNX := Lib.hid (show l ++ x.2 = (xs.take (j + 1)).flatMap (·.2) by rw [List.take_succ_eq_append_getElem hkl, List.flatMap_append, ← HL.out, ← hxe]; simp)
          have hS2 : (l ++ x.2).length ≤ 1000000 := by rw [HNX.out]; exact Nat.le_trans (flat_le (j + 1)) HB.out
          rw [List.length_append] at hS2
          obtain ⟨A1, c1, hx1, hA1, hnc1, hcm1, hl1⟩ := hxb
          rw [hx1] at hcell
          obtain ⟨q, hq⟩ : ∃ q, q = x.2.length := ⟨_, rfl⟩
          rw [← hq] at hcell hA1 hnc1 hS2
          have HL1 := Lib.hid (hl1.below hbw)
          have HQ := Lib.hid hq
          obtain ⟨m, hm⟩ : ∃ m, m = l.length := ⟨_, rfl⟩
          rw [← hm] at hown hS2 hl6
          have HM := Lib.hid hm
          clear hxe hx1 hq hm hl1
          go_wp2_with (at_builtin; refine wpList_join elemB rfl _ _ rfl w.heap.size _ m (l.map bv) A1 q c1 (x.2.map bv) w rfl rfl hA1 (by rw [List.length_map, HQ.out]) HL1.out (bv_one _) hown hbw hz (by omega) (by omega) ?_)
          intro v5 w5 ho5 hb5 _ _
          have HO5 := Lib.hid (show w5.ownsRow w.heap.size 5 1 v5 (l ++ x.2).length ((l ++ x.2).map bv) by rw [List.length_append, ← HM.out, ← HQ.out, List.map_append]; exact ho5)
          have HB5 := Lib.hid hb5
          clear ho5 hb5 hown hbw
          go_wp2
          go_roundw
          case rel => exact ⟨j + 1, _, hkl, by go_num, HNX.out, HO5.out, HB5.out⟩
          case measure => simp [intOf]; omega
        · obtain rfl : j = k := by omega
          have HE := Lib.hid (show l = xs.flatMap (·.2) by rw [HL.out, List.take_of_length_le (by have := HN.out; omega)])
          have HO := Lib.hid hown
          clear hown
          go_wp2
          go_ret
          rw [← HE.out]
          exact ⟨_, rfl, HO.out, hbw⟩
end Go.Proofs.YtnbiopihcbnkpaaGreatDoor

/- Operations of a region that draws: max, a struct's literal, a slice literal of two bytes, shifts by a constant; a struct's result beside two others. -/









namespace Go.Proofs.YtnbiopihcbnkpaaGreatDoor

open Go.RowKit

section

variable {P : Program} {o : Oper} {ρ : Operand → Value} {w : World} {R : Value → World → Prop}
theorem gives_max {ts : Array TypeId} {x y : Operand} {a b r : Int} (ho : o.op = .call { callee := .builtin .max, args := #[x, y], argTypes := ts }) (hx : ρ x = .int .i64 a) (hy : ρ y = .int .i64 b) (h : max a b = r) (hR : R (.int .i64 r) w) : Gives P o ρ w R := by
  refine gives_of (v := .int .i64 r) (w' := w) ?_ hR
  have hm : ∀ (ts : Array TypeId) (t : TypeId) (W : World), (Builtin.max_ ts t #[.int .i64 a, .int .i64 b]).run P W = .ok (.int .i64 r) W := fun ts t W => by
    rw [run_max_int2]
    congr 2
    rw [← h]
    split <;> omega
  unfold execOp
  simp only [ho, resolve, invoke, builtin, Sem.run_bind, Sem.run_pure, Result.andThen_ok, List.map_toArray, List.map_cons, List.map_nil, hx, hy, hm]
theorem gives_shl5 {t t' : TypeId} {x y : Operand} {a r : Int} (ho : o.op = .binOp .shl t x y t') (hx : ρ x = .int .i64 a) (hy : ρ y = .int .u64 5) (h : IntKind.i64.wrap (a * 32) = r) (hR : R (.int .i64 r) w) : Gives P o ρ w R := by
  refine gives_of (v := .int .i64 r) (w' := w) ?_ hR
  simp [execOp, ho, hx, hy, go_sem, h]
theorem gives_shr5 {t t' : TypeId} {x y : Operand} {a r : Int} (ho : o.op = .binOp .shr t x y t') (hx : ρ x = .int .u8 a) (hy : ρ y = .int .u64 5) (h : a / 32 = r) (hR : R (.int .u8 r) w) : Gives P o ρ w R := by
  refine gives_of (v := .int .u8 r) (w' := w) ?_ hR
  simp [execOp, ho, hx, hy, go_sem, h]
theorem gives_and8 {t t' : TypeId} {x y : Operand} {a b r : Int} (ho : o.op = .binOp .and t x y t') (hx : ρ x = .int .u8 a) (hy : ρ y = .int .u8 b) (h : bits .and .u8 a b = r) (hR : R (.int .u8 r) w) : Gives P o ρ w R := by
  refine gives_of (v := .int .u8 r) (w' := w) ?_ hR
  simp [execOp, ho, hx, hy, go_sem, h]
theorem gives_orI {t t' : TypeId} {x y : Operand} {a b r : Int} (ho : o.op = .binOp .or t x y t') (hx : ρ x = .int .i64 a) (hy : ρ y = .int .i64 b) (h : bits .or .i64 a b = r) (hR : R (.int .i64 r) w) : Gives P o ρ w R := by
  refine gives_of (v := .int .i64 r) (w' := w) ?_ hR
  simp [execOp, ho, hx, hy, go_sem, h]
theorem gives_or64 {t t' : TypeId} {x y : Operand} {a b r : Int} (ho : o.op = .binOp .or t x y t') (hx : ρ x = .int .u64 a) (hy : ρ y = .int .u64 b) (h : bits .or .u64 a b = r) (hR : R (.int .u64 r) w) : Gives P o ρ w R := by
  refine gives_of (v := .int .u64 r) (w' := w) ?_ hR
  simp [execOp, ho, hx, hy, go_sem, h]
/-- A slice literal of two bytes. -/
theorem gives_two {t e : TypeId} {bytes : Nat} {z u u' : Value} (E : Elem P t e bytes z) {x y : Operand} (ho : o.op = .buildSlice t 2 #[(0, x), (1, y)]) (hx : ρ x = u) (hy : ρ y = u') (hu : u.cells = #[u]) (hu' : u'.cells = #[u']) (hR : R (.slice (some ⟨w.heap.size, 0, none⟩) 2 2) (w.alloc (.cells #[u, u'] e))) : Gives P o ρ w R := by
  obtain ⟨i, h1, h2, h3, h4⟩ := E.info
  refine gives_of (v := .slice (some ⟨w.heap.size, 0, none⟩) 2 2) (w' := w.alloc (.cells #[u, u'] e)) ?_ hR
  have h5 : z.cells = #[z] := E.one
  have hf : Instr.fill (fun k => some (k * i.size, i.size)) ((Array.range (2 * i.size)).map (z.cells[· % z.cells.size]!)) [(0, u), (1, u')] = some #[u, u'] := by
    rw [h3, h5]
    have hr1 : Array.range 2 = #[0, 1] := by rw [Array.range_succ, Array.range_succ]; rfl
    rw [Nat.mul_one, hr1]
    simp [Instr.fill, hu, hu']
  have := run_buildSlice w t e 2 #[(0, u), (1, u')] #[u, u'] i z E.under h1 h2 (by rw [h3]; decide) (by rw [h3]; decide) hf
  simp [execOp, ho, hx, hy, this]
end
theorem gives_shape {o : Oper} {ρ : Operand → Value} {w : World} {R : Value → World → Prop} {x0 x1 x2 x3 x4 x5 : Operand} {m W n p g t : Int} (ho : o.op = .build 98 #[(0, x0), (1, x1), (2, x2), (3, x3), (4, x4), (5, x5)])
    (h0 : ρ x0 = .int .i64 m) (h1 : ρ x1 = .int .i64 W) (h2 : ρ x2 = .int .i64 n) (h3 : ρ x3 = .int .i64 p) (h4 : ρ x4 = .int .i64 g) (h5 : ρ x5 = .int .i64 t) (hR : R (shv m W n p g t) w) : Gives Tryz.prog o ρ w R := by
  refine gives_of (v := shv m W n p g t) (w' := w) ?_ hR
  simp [execOp, ho, h0, h1, h2, h3, h4, h5, go_sem]
  rfl
theorem results_row_tmp2 {P : Program} {fn : Func} {p u v : Tmp} {ty : TypeId} (h : fn.results = #[.cell p ty, .tmp u, .tmp v]) (tmps : Array Value) (w : World) (g : Nat) (t : TypeId) (cs : Array Value) (fr : Nat × Nat) (d : TypeDesc)
    (hp : tmps.getD p undef = .pointer (some ⟨g, 0, none⟩)) (hg : w.heap[g]? = some (.cells cs t fr))
    (hu : P.underlying ty = some d) (hd : (match d with | .struct _ | .array _ _ => true | _ => false) = true) (hi : (P.info? ty).map (·.size) = some cs.size) :
    (results fn tmps).run P w = .ok (.tuple #[.agg cs, tmps.getD u undef, tmps.getD v undef]) w := by
  have hp' : tmps[p]?.getD undef = Value.pointer (some ⟨g, 0, none⟩) := by simpa using hp
  simp only [results, h]
  simp [Result.andThen, hp', asAddr, run_loadVar_row w g t ty cs fr d hg hu hd hi]
theorem pairs_at0 (W : World) (g : Nat) : (Instr.fieldAt 133 (.pointer (some ⟨g, 0, none⟩)) 0).run Tryz.prog W = .ok (.pointer (some ⟨g, 0, none⟩)) W := by
  simp [Instr.fieldAt, run_underlying Tryz.underlying133, Instr.sureAddr, fieldPlace, Addr.add]
theorem pairs_at1 (W : World) (g : Nat) : (Instr.fieldAt 133 (.pointer (some ⟨g, 0, none⟩)) 1).run Tryz.prog W = .ok (.pointer (some ⟨g, 1, none⟩)) W := by
  simp [Instr.fieldAt, run_underlying Tryz.underlying133, Instr.sureAddr, fieldPlace, Addr.add]
theorem shape_size : (Tryz.prog.info? 98).map (·.size) = some 6 := by kernel_rfl
end Go.Proofs.YtnbiopihcbnkpaaGreatDoor

/- repeat's Take. -/





namespace Go.Proofs.YtnbiopihcbnkpaaGreatDoor

open Go.RowKit

set_option maxHeartbeats 1000000 in
set_option maxRecDepth 100000 in
theorem etake_own (l : List UInt8) (v : Value) (s : Bool) (w : World) (hv : IsB l v w) (hb : l.length ≤ 1000000) :
    Calls Tryz.prog 59 #[v, .bool s] w (RetT7O w (etake l s)) := by
  obtain ⟨A, c, rfl, hA, hnc, hcm, hl⟩ := hv
  obtain ⟨n, hn⟩ : ∃ n, n = l.length := ⟨_, rfl⟩
  rw [← hn] at hA hnc hb ⊢
  have hci : (c : Int) ≤ 9223372036854775807 := by unfold maxLen at hcm; omega
  have HN := Lib.hid hn
  by_cases h0 : n = 0
  · subst h0
    obtain rfl : l = [] := List.eq_nil_of_length_eq_zero hn.symm
    have hE := Lib.hid (etake_nil s)
    clear hn hl hcm hA hnc
    go_enter Tryz.func59, Tryz.ntmps59
    go_wp2_with (go_at_call 102; refine (elook_none _ _ _).mono ?_; rintro e w' ⟨rfl, rfl⟩)
    try simp only [Exit.inBlock, Exit.then]
    refine bodyPost_ret (results_tmp4 rfl _ _ _) rfl ?_
    rw [hE.out]
    exact RetT7O.no (Below.refl _ _)
  · have h0l : 0 < l.length := by omega
    obtain ⟨ad, rfl, hadlt, hcell⟩ := hl.cell (k := 0) (by rw [List.length_map]; exact h0l)
    obtain ⟨B, hB⟩ : ∃ B : Nat, B = l[0].toNat := ⟨_, rfl⟩
    have hB8 : B < 256 := by rw [hB]; exact UInt8.toNat_lt _
    have hc0 : w.cell? ad = some (.int .u8 (B : Int)) := by
      have h1 : ad.add 0 = ad := by unfold Addr.add; split <;> simp_all
      rw [← h1, hcell, List.getElem_map, hB]; rfl
    have HB := Lib.hid hB
    obtain ⟨K, hK⟩ : ∃ K, K = B / 8 + 1 := ⟨_, rfl⟩
    obtain ⟨T, hT⟩ : ∃ T, T = B % 8 + 3 := ⟨_, rfl⟩
    obtain ⟨ok, hok⟩ : ∃ ok, ok = decide (K ≤ 8 ∧ K < n) := ⟨_, rfl⟩
    have HLk := Lib.hid (elook_any ad n c B K T ok w hc0 hB8 (by omega) hb hK hT hok)
    have HK := Lib.hid (show K = l[0].toNat / 8 + 1 by rw [← HB.out]; exact hK)
    have hT10 : T ≤ 10 := by omega
    have hK32 : K ≤ 32 := by omega
    cases ok with
    | false =>
      have hE : Hid (etake l s = (0, 0, [], 2)) := by
        by_cases h64 : 64 ≤ B
        · exact Lib.hid (etake_big h0l (by rw [← HB.out]; exact h64))
        · exact Lib.hid (etake_short h0l HK.out (by have := of_decide_eq_false hok.symm; omega))
      clear hn hl hcm hA hnc hok hK hT hB hcell hc0
      go_enter Tryz.func59, Tryz.ntmps59
      go_wp2_with (go_at_call 102; refine HLk.out.mono ?_)
      rintro e w2 ⟨rfl, hb2⟩
      have HB2 := Lib.hid hb2
      clear hb2
      go_wp2
      try simp only [Exit.inBlock, Exit.then]
      refine bodyPost_ret (results_tmp4 rfl _ _ _) rfl ?_
      rw [hE.out]
      exact RetT7O.no HB2.out
    | true =>
      obtain ⟨hK8, hKn⟩ := of_decide_eq_true hok.symm
      have h64 : B < 64 := by omega
      obtain ⟨j, hj⟩ : ∃ j, j = K + 1 := ⟨_, rfl⟩
      have hji : 1 + (K : Int) = (j : Int) := by omega
      obtain ⟨d, hd⟩ : ∃ d, d = (l.drop 1).take K := ⟨_, rfl⟩
      have hdl : d.length = K := by rw [hd, List.length_take, List.length_drop, ← hn]; omega
      have HP := Lib.hid fun (W : World) (h : Below w.heap.size w W) => piece_named (P := Tryz.prog) elemB (i := 1) (k := j) (by omega) (by omega) hnc hcm hn.symm (hl.below h) hA
      rw [show j - 1 = K by omega, show ((1 : Nat) : Int) = 1 from rfl, ← hji, ← hd] at HP
      have HF := Lib.hid fun (W : World) (h : Below w.heap.size w W) => from_named (P := Tryz.prog) elemB (k := j) (by omega) hnc hcm hn.symm (hl.below h) hA
      rw [← hji] at HF
      have HNm := Lib.hid (fun v W (hv : IsB d v W) => enumber_any s d v W hv (by omega))
      obtain ⟨X, hX⟩ : ∃ X, X = (enum d s).getD 0 := ⟨_, rfl⟩
      obtain ⟨ok2, hok2⟩ : ∃ ok, ok = (enum d s).isSome := ⟨_, rfl⟩
      rw [← hX, ← hok2] at HNm
      have HT := Lib.hid (show T = l[0].toNat % 8 + 3 by rw [← HB.out]; exact hT)
      have HLen : Hid ((l.drop j).length ≤ 1000000) := Lib.hid (by rw [List.length_drop]; omega)
      clear hji
      cases ok2 with
      | false =>
        have hE : Hid (etake l s = (0, 0, [], 2)) := Lib.hid (etake_none (u := bval d) h0l HK.out (by rw [hd]) (by
          unfold enum at hok2
          split at hok2
          · exact .inl (by simpa using hok2.symm)
          · rename_i h; exact .inr (by rwa [hdl] at h)))
        clear hn hl hcm hA hnc hok hK hT hB hcell hc0 hX hok2 hd hdl
        go_enter Tryz.func59, Tryz.ntmps59
        go_wp2_with (go_at_call 102; refine HLk.out.mono ?_)
        rintro e w2 ⟨rfl, hb2⟩
        have HB2 := Lib.hid hb2
        obtain ⟨v3, hv3, hI3⟩ := HP.out w2 hb2
        have HI3 := Lib.hid hI3
        clear hb2 hI3
        go_wp2_with (first | (go_at_call 103; refine (HNm.out _ _ HI3.out).mono ?_; rintro e w' ⟨rfl, rfl⟩) | (refine wpList_sliced rfl _ _ _ _ rfl v3 (hv3 _) ?_))
        try simp only [Exit.inBlock, Exit.then]
        refine bodyPost_ret (results_tmp4 rfl _ _ _) rfl ?_
        rw [hE.out]
        exact RetT7O.no HB2.out
      | true =>
        have hE : Hid (etake l s = (X, (T : Int), l.drop j, 0)) := Lib.hid (by
          have h1 : ebytes (bval d) = K ∧ emade (bval d) s = some X := by
            unfold enum at hok2 hX
            split at hok2
            · rename_i h
              rw [if_pos h] at hX
              refine ⟨by rw [h, hdl], ?_⟩
              cases he : emade (bval d) s with
              | none => rw [he] at hok2; simp at hok2
              | some y => rw [he] at hX; simp at hX; rw [hX]
            · simp at hok2
          rw [etake_some (u := bval d) h0l HK.out (by rw [← HB.out]; exact h64) (by omega) (by rw [hd]) h1.2 h1.1, HT.out, hj])
        clear hn hl hcm hA hnc hok hK hT hB hcell hc0 hX hok2 hd hdl
        go_enter Tryz.func59, Tryz.ntmps59
        go_wp2_with (go_at_call 102; refine HLk.out.mono ?_)
        rintro e w2 ⟨rfl, hb2⟩
        have HB2 := Lib.hid hb2
        obtain ⟨v3, hv3, hI3⟩ := HP.out w2 hb2
        have HI3 := Lib.hid hI3
        obtain ⟨v4, hv4, hI4⟩ := HF.out w2 hb2
        have HI4 := Lib.hid hI4
        obtain ⟨A4, c4, hs4, hA4, _, _, hl4⟩ := hI4
        obtain ⟨n4, hn4⟩ : ∃ n, n = (l.drop j).length := ⟨_, rfl⟩
        rw [← hn4] at hs4 hA4
        subst hs4
        have hn46 : n4 ≤ 1000000 := by rw [hn4]; exact HLen.out
        have HN4 : Hid (((l.drop j).map bv).length = n4) := Lib.hid (by rw [List.length_map, hn4])
        clear hb2 hI3 hn4 hj
        go_wp2_with (first | (go_at_call 103; refine (HNm.out _ _ HI3.out).mono ?_; rintro e w' ⟨rfl, rfl⟩) | (refine wpList_sliced rfl _ _ _ _ rfl v3 (hv3 _) ?_) | (refine wpList_slicedL rfl _ _ _ rfl _ (hv4 _) ?_) | (at_builtin; refine wpList_join elemB rfl _ _ rfl w2.heap.size _ _ _ _ _ _ ((l.drop j).map bv) w2 rfl rfl hA4 HN4.out hl4 (bv_one _) (World.ownsRow_nil _ _ _ _) (Below.refl _ _) (Nat.le_refl _) (by omega) (by omega) ?_))
        intro v5 w5 hown5 hb5 _ _
        rw [← List.map_drop] at hown5
        have HV5 : Hid (OwnB w (l.drop j) v5 w5) := Lib.hid (OwnB.base HB2.out.size ⟨_, hown5⟩)
        have HB5 := Lib.hid (below_then HB2.out hb5)
        clear hown5 hb5
        go_wp2
        try simp only [Exit.inBlock, Exit.then]
        refine bodyPost_ret (results_tmp4 rfl _ _ _) rfl ?_
        rw [hE.out]
        exact ⟨_, rfl, HV5.out, HB5.out⟩
end Go.Proofs.YtnbiopihcbnkpaaGreatDoor

/- patched's own contracts: look. Written by gen_plook.py. -/





namespace Go.Proofs.YtnbiopihcbnkpaaGreatDoor

open Go.RowKit

theorem shape_info : ∃ i, Tryz.prog.info? 98 = some i ∧ i.zero = some (shv 0 0 0 0 0 0) := by
  have h : (Tryz.prog.info? 98).map (fun i => i.zero) = some (some (shv 0 0 0 0 0 0)) := by kernel_rfl
  cases hi : Tryz.prog.info? 98 with
  | none => rw [hi] at h; cases h
  | some i => rw [hi] at h; injection h with h; exact ⟨i, rfl, h⟩
def Fact.made (B : Nat) : Fact := ⟨fun v W => ∃ h, v = .pointer (some ⟨h, 0, none⟩) ∧ B ≤ h ∧ Row W h 98 (shc 0 0 0 0 0 0), fun _ _ _ ⟨h, h1, h2, h3⟩ hb => ⟨h, h1, h2, h3.below hb h3.lt⟩⟩
theorem wpList_storeWhole {P : Program} {w : World} {ops : Array Oper} {rest : List Oper} {o : Oper} {a : Act} {Q : Exit → Act → World → Prop} (hgd : o.guard = none) (t : TypeId) (x y : Operand) (ho : o.op = .store t x y) (g : Nat) (t' : TypeId) (old cs : List Value)
    (hx : a.eval x = .pointer (some ⟨g, 0, none⟩)) (hy : a.eval y = .agg cs.toArray) (hr : Row w g t' old) (hi : (P.info? t).map (·.size) = some cs.length) (hl : old.length = cs.length) (h1 : ∀ u ∈ cs, u.oneCell' = true)
    (h : ∀ w', w' = w.setRow g cs.toArray → wpList P ops Q rest (a.put o.dst undef) w') : wpList P ops Q (o :: rest) a w := by
  have hrun := run_storeVar_row (P := P) w g t' t old.toArray cs.toArray hr (by simpa using hi) (by simp [hl]) (by simpa using h1)
  refine wpList_plain hgd fun K hK => ?_
  unfold Oper.wp execOp
  simp only [ho, hx, hy, Instr.storeAt, Instr.sureAddr, Sem.run_bind, Sem.run_pure, Result.andThen_ok, hrun]
  exact hK _ _ (h _ rfl)
/-- One row may be written, to what it will hold. -/
def Writes (r : Nat) (T : TypeId) (z cs : List Value) (w w' : World) : Prop := w.grownBy w' (some r) ∧ (Row w r T z → Row w' r T z ∨ Row w' r T cs) ∧ (Row w r T cs → Row w' r T cs)
theorem writes_later (r : Nat) (T : TypeId) (z cs : List Value) : Later (Writes r T z cs) where
  refl := fun _ => ⟨⟨rfl, rfl, rfl, Nat.le_refl _, fun _ _ _ => rfl⟩, .inl, id⟩
  trans := fun ⟨a1, a2, a3⟩ ⟨b1, b2, b3⟩ => ⟨grown_trans a1 b1, fun h => (a2 h).elim b2 (fun h => .inr (b3 h)), fun h => b3 (a3 h)⟩
  draw := fun _ => ⟨⟨rfl, rfl, rfl, Nat.le_refl _, fun _ _ _ => rfl⟩, .inl, id⟩
theorem writes_below {r : Nat} {T : TypeId} {z cs : List Value} {w w' : World} (hr : r < w.heap.size) (h : Below w.heap.size w w') : Writes r T z cs w w' := ⟨grown_below h, fun k => .inl (k.below h hr), fun k => k.below h hr⟩
theorem writes_set {r : Nat} {T : TypeId} {z cs old : List Value} {w : World} (h : Row w r T old) : Writes r T z cs w (w.setRow r cs.toArray) :=
  ⟨⟨rfl, rfl, rfl, by simp [World.setRow], fun k _ hg => setRow_other w r k _ (fun e => hg (by rw [e]))⟩, fun _ => .inr (rowAll_set h), fun _ => rowAll_set h⟩
theorem bv_not (m W n p g t : Int) (b : UInt8) : bv b ∉ shc m W n p g t := by
  intro h
  simp only [shc, List.mem_cons, List.not_mem_nil, or_false] at h
  rcases h with h | h | h | h | h | h <;> cases h
theorem u8_and31 (a : Nat) (h : a < 256) : bits .and .u8 (a : Int) 31 = ((a % 32 : Nat) : Int) := by
  have h1 := u8_and_nat a 31 h (by omega)
  rw [show ((31 : Nat) : Int) = (31 : Int) from rfl] at h1
  rw [h1, show (31 : Nat) = 2 ^ 5 - 1 from rfl, Nat.and_two_pow_sub_one_eq_mod]
set_option maxHeartbeats 4000000 in
set_option maxRecDepth 100000 in
theorem look_no (l : List UInt8) (v : Value) (w : World) (hv : IsB l v w) (hb : l.length ≤ 1000000) (h : (dlook l).2.2.2.2 ≠ 0 ∨ (dlook l).1 ≠ 2 ∨ (dlook l).2.2.2.1.length < 2) :
    Calls Tryz.prog 85 #[v] w fun e w' => e = .returned (.tuple #[shv 0 0 0 0 0 0, .slice none 0 0, .bool false]) ∧ Below w.heap.size w w' := by
  obtain ⟨w1, hw1⟩ : ∃ w1, w1 = w.alloc (.cells (shc 0 0 0 0 0 0).toArray 98) := ⟨_, rfl⟩
  have q1 : Row w1 w.heap.size 98 (shc 0 0 0 0 0 0) := by rw [hw1]; exact heap_alloc_new w _
  have hb1 : Below w.heap.size w w1 := by rw [hw1]; exact (Below.refl _ _).alloc (Nat.le_refl _) _
  have HLK := Lib.hid (dlook_any l v w1 (hv.below hb1) hb)
  have HB1 := Lib.hid hb1
  have HQ1 := Lib.hid q1
  obtain ⟨K, C, M, r, x, hd⟩ : ∃ K C M r x, dlook l = (K, C, M, r, x) := ⟨_, _, _, _, _, rfl⟩
  rw [hd] at HLK h
  dsimp only at h
  obtain ⟨A0, c0, rfl, _⟩ := hv
  unfold shc at hw1
  clear hd q1 hb1
  go_enter Tryz.func85, Tryz.ntmps85
  go_wp2_with fail
  rw [← hw1]
  clear hw1
  refine HLK.out.mono ?_
  rintro e w2 ⟨rv, rfl, hrv, hb2⟩
  obtain ⟨A1, n1, c1, rfl⟩ := IsV.shape (f := bv) hrv
  have hrl : r.length = n1 := (IsV.parts (f := bv) hrv).1
  have HB2 := Lib.hid (HB1.out.trans (hb2.mono HB1.out.size))
  have HR2 := Lib.hid (HQ1.out.below hb2 HQ1.out.lt)
  clear hb2 hrv
  have hcase : (x != 0) = true ∨ ((x != 0) = false ∧ (K != 2) = true) ∨ ((x != 0) = false ∧ (K != 2) = false ∧ decide ((n1 : Int) < 2) = true) := by
    by_cases h0 : x = 0
    · by_cases h1 : K = 2
      · exact .inr (.inr ⟨by simpa using h0, by simpa using h1, decide_eq_true (by omega)⟩)
      · exact .inr (.inl ⟨by simpa using h0, by simpa using h1⟩)
    · exact .inl (by simpa using h0)
  clear h hrl
  rcases hcase with d0 | ⟨d0, d1⟩ | ⟨d0, d1, d2⟩
  all_goals
    go_wp2_with (refine wpList_storeW rfl _ _ _ rfl w.heap.size 0 98 (shc 0 0 0 0 0 0) (shc 0 0 0 0 0 0) (shc 0 0 0 0 0 0) rfl rfl rfl HR2.out shape_size (Nat.le_refl _) (shc_one _ _ _ _ _ _) w w.heap.size HB2.out (Nat.le_refl _) ?_)
    intro w3 hr3 hb3 _
    have HR3 := Lib.hid hr3
    have HB3 := Lib.hid hb3
    clear hr3 hb3
    go_wp2
    refine bodyPost_ret (results_row_tmp2 rfl _ _ _ 98 (shc 0 0 0 0 0 0).toArray (0, 0) _ rfl HR3.out Tryz.underlying98 rfl shape_size) rfl ?_
    exact ⟨rfl, HB3.out⟩
def LookPost (M W : Int) (n p g t : Nat) (r : List UInt8) (w : World) (e : Ending) (w' : World) : Prop :=
  ∃ rv, e = .returned (.tuple #[shv M W n p g t, rv, .bool (decide ((g : Int) + (p : Int) ≤ 64))]) ∧ IsB r rv w' ∧ Below w.heap.size w w'
set_option maxHeartbeats 8000000 in
set_option maxRecDepth 100000 in
theorem look_yes (l r : List UInt8) (v : Value) (w : World) (C M : Int) (b0 b1 n g t p : Nat) (ht : WTab w) (hv : IsB l v w) (hb : l.length ≤ 1000000) (hd : dlook l = (2, C, M, r, 0)) (h2 : 2 ≤ r.length) (hrb : r.length ≤ 1000000) (hC : inInt C)
    (h0 : b0 = r[0].toNat) (h1 : b1 = r[1].toNat) (hn : n = b0 / 32 + 1) (hg : g = b1 / 32 + 1) (htt : t = b1 % 32) (hp : wof ((b0 % 32 : Nat) : Int) = (p : Int)) (hp64 : p ≤ 64) :
    Calls Tryz.prog 85 #[v] w (LookPost M (wof C) n p g t (r.drop 2) w) := by
  obtain ⟨w1, hw1⟩ : ∃ w1, w1 = w.alloc (.cells (shc 0 0 0 0 0 0).toArray 98) := ⟨_, rfl⟩
  have q1 : Row w1 w.heap.size 98 (shc 0 0 0 0 0 0) := by rw [hw1]; exact heap_alloc_new w _
  have hb1 : Below w.heap.size w w1 := by rw [hw1]; exact (Below.refl _ _).alloc (Nat.le_refl _) _
  have HLK := Lib.hid (dlook_any l v w1 (hv.below hb1) hb)
  rw [hd] at HLK
  have HB1 := Lib.hid hb1
  have HQ1 := Lib.hid q1
  have HT0 := Lib.hid ht
  obtain ⟨A0, c0, rfl, _⟩ := hv
  obtain ⟨W, hW⟩ : ∃ W, W = wof C := ⟨_, rfl⟩
  have HOC := Lib.hid (fun X (h : WTab X) => of_any C X h hC.1 hC.2)
  obtain ⟨q, hq⟩ : ∃ q, q = b0 % 32 := ⟨_, rfl⟩
  have HOP := Lib.hid (fun X (h : WTab X) => of_any (q : Int) X h (by omega) (by omega))
  rw [← hW] at HOC ⊢
  rw [← hq] at hp
  rw [hp] at HOP
  have hb08 : b0 < 256 := by rw [h0]; exact UInt8.toNat_lt _
  have hb18 : b1 < 256 := by rw [h1]; exact UInt8.toNat_lt _
  obtain ⟨n0, hn0⟩ : ∃ n0, n0 = b0 / 32 := ⟨_, rfl⟩
  obtain ⟨g0, hg0⟩ : ∃ g0, g0 = b1 / 32 := ⟨_, rfl⟩
  have HS0 := Lib.hid (show (b0 : Int) / 32 = (n0 : Int) by omega)
  have HS1 := Lib.hid (show (b1 : Int) / 32 = (g0 : Int) by omega)
  have HV0 := Lib.hid (show IntKind.i64.wrap (n0 : Int) = (n0 : Int) by rw [IntKind.wrap_i64]; omega)
  have HVG := Lib.hid (show IntKind.i64.wrap (g0 : Int) = (g0 : Int) by rw [IntKind.wrap_i64]; omega)
  have HVQ := Lib.hid (show IntKind.i64.wrap (q : Int) = (q : Int) by rw [IntKind.wrap_i64]; omega)
  have HVT := Lib.hid (show IntKind.i64.wrap (t : Int) = (t : Int) by rw [IntKind.wrap_i64]; omega)
  have HN := Lib.hid (show (n0 : Int) + 1 = (n : Int) by omega)
  have HG := Lib.hid (show (g0 : Int) + 1 = (g : Int) by omega)
  have HA0 := Lib.hid (show bits .and .u8 (b0 : Int) 31 = (q : Int) by rw [u8_and31 b0 hb08, hq])
  have HA1 := Lib.hid (show bits .and .u8 (b1 : Int) 31 = (t : Int) by rw [u8_and31 b1 hb18, htt])
  have hn08 : n0 ≤ 8 := by omega
  have hg08 : g0 ≤ 8 := by omega
  have HRM := Lib.hid (fun X => proom_any M W (n : Int) (p : Int) (g : Int) (t : Int) X ⟨by omega, by omega⟩ ⟨by omega, by omega⟩)
  obtain ⟨d, hdd⟩ : ∃ d, d = decide ((g : Int) + (p : Int) ≤ 64) := ⟨_, rfl⟩
  rw [← hdd] at HRM
  unfold LookPost
  rw [← hdd]
  unfold shc at hw1
  have HH0 := Lib.hid h0
  have HH1 := Lib.hid h1
  clear hd q1 hb1 ht hW hq hn hg htt hp hn0 hg0 hdd hC h0 h1 hb08 hb18
  go_enter Tryz.func85, Tryz.ntmps85
  go_wp2_with fail
  rw [← hw1]
  clear hw1
  refine HLK.out.mono ?_
  rintro e w2 ⟨rv, rfl, hrv, hb2⟩
  have hrv' : IsB r rv w2 := hrv
  clear hrv
  have hrv := isB_iff.1 hrv'
  obtain ⟨A1, n1, c1, rfl⟩ := hrv.shape
  obtain ⟨hrl, hA1, hnc1, hcm1, hlie1⟩ := hrv.parts
  have HB2 := Lib.hid (HB1.out.trans (hb2.mono HB1.out.size))
  have HRZ0 := Lib.hid (HQ1.out.below hb2 HQ1.out.lt)
  have HT := Lib.hid (HT0.out.below HB2.out HT0.out.lt)
  obtain ⟨ad, rfl, had0, hc0⟩ := hrv.at (k := 0) (by omega)
  obtain ⟨ad', had', had1, hc1⟩ := hrv.at (k := 1) (by omega)
  injection had' with had'
  subst had'
  have HCB0 := Lib.hid (show w2.cell? (ad.add 0) = some (.int .u8 (b0 : Int)) by rw [hc0, HH0.out]; rfl)
  have HCB1 := Lib.hid (show w2.cell? (ad.add 1) = some (.int .u8 (b1 : Int)) by rw [hc1, HH1.out]; rfl)
  have HLA0 := Lib.hid (show (ad.add 0).block < w2.heap.size by rw [add_block]; exact had0)
  have HLA1 := Lib.hid (show (ad.add 1).block < w2.heap.size by rw [add_block]; exact had0)
  obtain ⟨v3, hv3, hI3⟩ := from_named (P := Tryz.prog) elemB (k := 2) (by omega) hnc1 hcm1 hrl hlie1 hA1
  rw [show ((2 : Nat) : Int) = 2 from rfl] at hv3
  have HV3 := Lib.hid hv3
  have HI2 := Lib.hid hI3
  have h0n : 0 < n1 := by omega
  have h1n : 1 < n1 := by omega
  have hn2 : decide ((n1 : Int) < 2) = false := decide_eq_false (by omega)
  clear hb2 hrv hrv' hc0 hc1 hv3 hI3 hlie1 hrl hA1 hcm1 had0 had1
  · go_wp2
    refine wp_region_list_tail 28 [.is (.int .i64 M), .is (.int .i64 C), .is (.int .i64 W), .is (.slice (some ad) n1 c1), .is (.pointer (some (ad.add 0))), .is (.int .u8 (b0 : Int)), .is (.int .u8 (n0 : Int)), .is (.int .i64 (n0 : Int)), .is (.int .i64 (n : Int)), .is (.slice (some ad) n1 c1), .is (.pointer (some (ad.add 0))), .is (.int .u8 (b0 : Int)), .is (.int .u8 (q : Int)), .is (.int .i64 (q : Int)), .is (.int .i64 (p : Int)), .is (.slice (some ad) n1 c1), .is (.pointer (some (ad.add 1))), .is (.int .u8 (b1 : Int)), .is (.int .u8 (g0 : Int)), .is (.int .i64 (g0 : Int)), .is (.int .i64 (g : Int)), .is (.slice (some ad) n1 c1), .is (.pointer (some (ad.add 1))), .is (.int .u8 (b1 : Int)), .is (.int .u8 (t : Int)), .is (.int .i64 (t : Int)), .is (shv M W n p g t), .made w2.heap.size] [some 31, some 32, some 33, some 34, some 35, some 36, some 37, some 38, some 39, some 40, some 41, some 42, some 43, some 44, some 45, some 46, some 47, some 48, some 49, some 50, some 51, some 52, some 53, some 54, some 55, some 56, some 57, some 10] (by kernel_rfl) (by kernel_rfl) (by kernel_rfl) (by kernel_rfl) rfl ⟨?_, ?_, ?_, ?_, ?_, ?_, ?_, ?_, ?_, ?_, ?_, ?_, ?_, ?_, ?_, ?_, ?_, ?_, ?_, ?_, ?_, ?_, ?_, ?_, ?_, ?_, ?_, ?_, trivial⟩ ?_
    · intro ρ W1 hb1 H
      exact gives_move rfl (H.old 7 _ (by kernel_rfl) rfl) ⟨rfl, Below.refl _ _⟩
    · intro ρ W1 hb1 H
      exact gives_move rfl (H.old 6 _ (by kernel_rfl) rfl) ⟨rfl, Below.refl _ _⟩
    · intro ρ W1 hb1 H
      have e0 : ρ (.tmp 32) = .int .i64 C := H.new 32 1 (by kernel_rfl)
      refine gives_call rfl (fun _ _ => by kernel_rfl) (H.func _) (args := #[.int .i64 C]) (by simp [e0]) ?_
      exact (HOC.out W1 (HT.out.below hb1 HT.out.lt)).mono fun e w' ⟨h1, h2⟩ => ⟨_, h1, rfl, h2 ▸ Below.refl _ _⟩
    · intro ρ W1 hb1 H
      exact gives_move rfl (H.old 8 _ (by kernel_rfl) rfl) ⟨rfl, Below.refl _ _⟩
    · intro ρ W1 hb1 H
      exact gives_index (k := 0) elemB rfl (H.new 34 3 (by kernel_rfl)) (H.const _) (h0n) ⟨rfl, Below.refl _ _⟩
    · intro ρ W1 hb1 H
      exact gives_load rfl (H.new 35 4 (by kernel_rfl)) Tryz.underlying5 rfl ((hb1.cell HLA0.out).trans HCB0.out) ⟨rfl, Below.refl _ _⟩
    · intro ρ W1 hb1 H
      exact gives_shr5 rfl (H.new 36 5 (by kernel_rfl)) (H.const _) HS0.out ⟨rfl, Below.refl _ _⟩
    · intro ρ W1 hb1 H
      exact gives_conv rfl (H.new 37 6 (by kernel_rfl)) (by kernel_rfl) Tryz.underlying3 HV0.out ⟨rfl, Below.refl _ _⟩
    · intro ρ W1 hb1 H
      exact gives_add rfl (H.new 38 7 (by kernel_rfl)) (H.const _) (by omega) (by omega) ⟨congrArg (Value.int .i64) HN.out, Below.refl _ _⟩
    · intro ρ W1 hb1 H
      exact gives_move rfl (H.old 8 _ (by kernel_rfl) rfl) ⟨rfl, Below.refl _ _⟩
    · intro ρ W1 hb1 H
      exact gives_index (k := 0) elemB rfl (H.new 40 9 (by kernel_rfl)) (H.const _) (h0n) ⟨rfl, Below.refl _ _⟩
    · intro ρ W1 hb1 H
      exact gives_load rfl (H.new 41 10 (by kernel_rfl)) Tryz.underlying5 rfl ((hb1.cell HLA0.out).trans HCB0.out) ⟨rfl, Below.refl _ _⟩
    · intro ρ W1 hb1 H
      exact gives_and8 rfl (H.new 42 11 (by kernel_rfl)) (H.const _) HA0.out ⟨rfl, Below.refl _ _⟩
    · intro ρ W1 hb1 H
      exact gives_conv rfl (H.new 43 12 (by kernel_rfl)) (by kernel_rfl) Tryz.underlying3 HVQ.out ⟨rfl, Below.refl _ _⟩
    · intro ρ W1 hb1 H
      have e0 : ρ (.tmp 44) = .int .i64 (q : Int) := H.new 44 13 (by kernel_rfl)
      refine gives_call rfl (fun _ _ => by kernel_rfl) (H.func _) (args := #[.int .i64 (q : Int)]) (by simp [e0]) ?_
      exact (HOP.out W1 (HT.out.below hb1 HT.out.lt)).mono fun e w' ⟨h1, h2⟩ => ⟨_, h1, rfl, h2 ▸ Below.refl _ _⟩
    · intro ρ W1 hb1 H
      exact gives_move rfl (H.old 8 _ (by kernel_rfl) rfl) ⟨rfl, Below.refl _ _⟩
    · intro ρ W1 hb1 H
      exact gives_index (k := 1) elemB rfl (H.new 46 15 (by kernel_rfl)) (H.const _) (h1n) ⟨rfl, Below.refl _ _⟩
    · intro ρ W1 hb1 H
      exact gives_load rfl (H.new 47 16 (by kernel_rfl)) Tryz.underlying5 rfl ((hb1.cell HLA1.out).trans HCB1.out) ⟨rfl, Below.refl _ _⟩
    · intro ρ W1 hb1 H
      exact gives_shr5 rfl (H.new 48 17 (by kernel_rfl)) (H.const _) HS1.out ⟨rfl, Below.refl _ _⟩
    · intro ρ W1 hb1 H
      exact gives_conv rfl (H.new 49 18 (by kernel_rfl)) (by kernel_rfl) Tryz.underlying3 HVG.out ⟨rfl, Below.refl _ _⟩
    · intro ρ W1 hb1 H
      exact gives_add rfl (H.new 50 19 (by kernel_rfl)) (H.const _) (by omega) (by omega) ⟨congrArg (Value.int .i64) HG.out, Below.refl _ _⟩
    · intro ρ W1 hb1 H
      exact gives_move rfl (H.old 8 _ (by kernel_rfl) rfl) ⟨rfl, Below.refl _ _⟩
    · intro ρ W1 hb1 H
      exact gives_index (k := 1) elemB rfl (H.new 52 21 (by kernel_rfl)) (H.const _) (h1n) ⟨rfl, Below.refl _ _⟩
    · intro ρ W1 hb1 H
      exact gives_load rfl (H.new 53 22 (by kernel_rfl)) Tryz.underlying5 rfl ((hb1.cell HLA1.out).trans HCB1.out) ⟨rfl, Below.refl _ _⟩
    · intro ρ W1 hb1 H
      exact gives_and8 rfl (H.new 54 23 (by kernel_rfl)) (H.const _) HA1.out ⟨rfl, Below.refl _ _⟩
    · intro ρ W1 hb1 H
      exact gives_conv rfl (H.new 55 24 (by kernel_rfl)) (by kernel_rfl) Tryz.underlying3 HVT.out ⟨rfl, Below.refl _ _⟩
    · intro ρ W1 hb1 H
      exact gives_shape rfl (H.new 31 0 (by kernel_rfl)) (H.new 33 2 (by kernel_rfl)) (H.new 39 8 (by kernel_rfl)) (H.new 45 14 (by kernel_rfl)) (H.new 51 20 (by kernel_rfl)) (H.new 56 25 (by kernel_rfl)) ⟨rfl, Below.refl _ _⟩
    · intro ρ W1 hb1 H
      exact gives_alloc shape_info.choose_spec.1 shape_info.choose_spec.2 rfl ⟨⟨_, rfl, hb1.size, heap_alloc_new W1 _⟩, (Below.refl _ _).alloc (Nat.le_refl _) _⟩
    · intro vs W1 hb1 hfs
      have f0 : vs 0 = .int .i64 M := hfs 0 (by decide)
      have f1 : vs 1 = .int .i64 C := hfs 1 (by decide)
      have f2 : vs 2 = .int .i64 W := hfs 2 (by decide)
      have f3 : vs 3 = .slice (some ad) n1 c1 := hfs 3 (by decide)
      have f4 : vs 4 = .pointer (some (ad.add 0)) := hfs 4 (by decide)
      have f5 : vs 5 = .int .u8 (b0 : Int) := hfs 5 (by decide)
      have f6 : vs 6 = .int .u8 (n0 : Int) := hfs 6 (by decide)
      have f7 : vs 7 = .int .i64 (n0 : Int) := hfs 7 (by decide)
      have f8 : vs 8 = .int .i64 (n : Int) := hfs 8 (by decide)
      have f9 : vs 9 = .slice (some ad) n1 c1 := hfs 9 (by decide)
      have f10 : vs 10 = .pointer (some (ad.add 0)) := hfs 10 (by decide)
      have f11 : vs 11 = .int .u8 (b0 : Int) := hfs 11 (by decide)
      have f12 : vs 12 = .int .u8 (q : Int) := hfs 12 (by decide)
      have f13 : vs 13 = .int .i64 (q : Int) := hfs 13 (by decide)
      have f14 : vs 14 = .int .i64 (p : Int) := hfs 14 (by decide)
      have f15 : vs 15 = .slice (some ad) n1 c1 := hfs 15 (by decide)
      have f16 : vs 16 = .pointer (some (ad.add 1)) := hfs 16 (by decide)
      have f17 : vs 17 = .int .u8 (b1 : Int) := hfs 17 (by decide)
      have f18 : vs 18 = .int .u8 (g0 : Int) := hfs 18 (by decide)
      have f19 : vs 19 = .int .i64 (g0 : Int) := hfs 19 (by decide)
      have f20 : vs 20 = .int .i64 (g : Int) := hfs 20 (by decide)
      have f21 : vs 21 = .slice (some ad) n1 c1 := hfs 21 (by decide)
      have f22 : vs 22 = .pointer (some (ad.add 1)) := hfs 22 (by decide)
      have f23 : vs 23 = .int .u8 (b1 : Int) := hfs 23 (by decide)
      have f24 : vs 24 = .int .u8 (t : Int) := hfs 24 (by decide)
      have f25 : vs 25 = .int .i64 (t : Int) := hfs 25 (by decide)
      have f26 : vs 26 = shv M W n p g t := hfs 26 (by decide)
      have f27 : ∃ h, vs 27 = .pointer (some ⟨h, 0, none⟩) ∧ w2.heap.size ≤ h ∧ Row W1 h 98 (shc 0 0 0 0 0 0) := hfs 27 (by decide)
      clear hfs
      simp only [putAll, Nat.zero_add, Nat.reduceAdd, List.drop_succ_cons, List.drop_zero]
      generalize vs 27 = z27 at f27 ⊢
      simp only [f0, f1, f2, f3, f4, f5, f6, f7, f8, f9, f10, f11, f12, f13, f14, f15, f16, f17, f18, f19, f20, f21, f22, f23, f24, f25, f26, Act.put, List.setIfInBounds_toArray, List.set_cons_succ, List.set_cons_zero]
      clear f0 f1 f2 f3 f4 f5 f6 f7 f8 f9 f10 f11 f12 f13 f14 f15 f16 f17 f18 f19 f20 f21 f22 f23 f24 f25 f26
      obtain ⟨h, f27, hBh, hrow⟩ := f27
      subst f27
      have hne : w.heap.size ≠ h := by have := HB2.out.size; have := HRZ0.out.lt; omega
      have hrz := HRZ0.out.below hb1 HRZ0.out.lt
      refine wpList_storeWhole rfl _ _ _ rfl h 98 (shc 0 0 0 0 0 0) (shc M W n p g t) rfl rfl hrow shape_size rfl (shc_one _ _ _ _ _ _) ?_
      intro w3 hw3
      have HRH : Hid (Row w3 h 98 (shc M W n p g t)) := Lib.hid (by rw [hw3]; exact rowAll_set hrow)
      have HB23 := Lib.hid (show Below w2.heap.size w2 w3 by rw [hw3]; exact below_setRow hb1 hBh _)
      have HB3 := Lib.hid (HB2.out.trans (HB23.out.mono HB2.out.size))
      have HI3 := Lib.hid (HI2.out.below HB23.out)
      have HRZ : Hid (Row w3 w.heap.size 98 (shc 0 0 0 0 0 0)) := Lib.hid (by rw [hw3]; exact rowAll_far hne hrz)
      clear hrz hrow hw3 hb1
      go_wp2
      refine wp_region_listR (writes_later w.heap.size 98 (shc 0 0 0 0 0 0) (shc M W n p g t)) [.is (shv M W n p g t), .is (.slice (some ad) n1 c1), .is v3, .is (shv M W n p g t), .is (.bool d), .of (fun _ X => Row X w.heap.size 98 (shc M W n p g t)) (fun _ _ _ h hk => hk.2.2 h), .is v3, .is (.bool d)]
        [some 58, some 59, some 60, some 61, some 62, none, some 3, some 4] (by kernel_rfl) (by kernel_rfl) (by kernel_rfl) (by kernel_rfl) rfl ⟨?_, ?_, ?_, ?_, ?_, ?_, ?_, ?_, trivial⟩ ?_
      · intro ρ vs W1 hb1 H
        exact gives_load_row (cs := shc M W n p g t) rfl (H.old 10 _ (by kernel_rfl) rfl) Tryz.underlying98 rfl shape_size (row_grown HRH.out hb1.1 (Ne.symm hne)) ⟨upd_at _ _ _, (writes_later _ _ _ _).refl _⟩
      · intro ρ vs W1 hb1 H
        exact gives_move rfl (H.old 8 _ (by kernel_rfl) rfl) ⟨upd_at _ _ _, (writes_later _ _ _ _).refl _⟩
      · intro ρ vs W1 hb1 H
        have e1 : ρ (.tmp 59) = .slice (some ad) n1 c1 := H.holds 59 1 (by kernel_rfl)
        exact gives_slice rfl e1 rfl rfl rfl (by simpa [H.const] using HV3.out W1) ⟨upd_at _ _ _, (writes_later _ _ _ _).refl _⟩
      · intro ρ vs W1 hb1 H
        exact gives_load_row (cs := shc M W n p g t) rfl (H.old 10 _ (by kernel_rfl) rfl) Tryz.underlying98 rfl shape_size (row_grown HRH.out hb1.1 (Ne.symm hne)) ⟨upd_at _ _ _, (writes_later _ _ _ _).refl _⟩
      · intro ρ vs W1 hb1 H
        have e0 : ρ (.tmp 61) = shv M W n p g t := H.holds 61 3 (by kernel_rfl)
        refine gives_call rfl (fun _ _ => by kernel_rfl) (H.func _) (args := #[shv M W n p g t]) (by simp [e0]) ?_
        exact (HRM.out W1).mono fun e w' ⟨h1, h2⟩ => ⟨_, h1, upd_at _ _ _, writes_below (Nat.lt_of_lt_of_le HRZ.out.lt hb1.1.size) h2⟩
      · intro ρ vs W1 hb1 H
        rcases hb1.2.1 HRZ.out with h5 | h5
        · exact gives_store_row rfl (H.old 2 _ (by kernel_rfl) rfl) (H.holds 58 0 (by kernel_rfl)) h5 shape_size rfl (shc_one _ _ _ _ _ _) ⟨rowAll_set h5, writes_set h5⟩
        · exact gives_store_row rfl (H.old 2 _ (by kernel_rfl) rfl) (H.holds 58 0 (by kernel_rfl)) h5 shape_size rfl (shc_one _ _ _ _ _ _) ⟨rowAll_set h5, writes_set h5⟩
      · intro ρ vs W1 hb1 H
        exact gives_assign rfl (H.holds 60 2 (by kernel_rfl)) ⟨upd_at _ _ _, (writes_later _ _ _ _).refl _⟩
      · intro ρ vs W1 hb1 H
        exact gives_assign rfl (H.holds 62 4 (by kernel_rfl)) ⟨upd_at _ _ _, (writes_later _ _ _ _).refl _⟩
      · intro vs W1 hb1 hfs
        have f5 : Row W1 w.heap.size 98 (shc M W n p g t) := hfs 5 (by decide)
        have f6 : vs 6 = v3 := hfs 6 (by decide)
        have f7 : vs 7 = .bool d := hfs 7 (by decide)
        clear hfs
        simp only [putAll, Nat.zero_add, Nat.reduceAdd]
        generalize vs 0 = z0
        generalize vs 1 = z1
        generalize vs 2 = z2
        generalize vs 3 = z3
        generalize vs 4 = z4
        generalize vs 5 = z5
        simp only [f6, f7, Act.put, List.setIfInBounds_toArray, List.set_cons_succ, List.set_cons_zero]
        clear f6 f7
        have HR6 := Lib.hid f5
        have HB6 := Lib.hid (below_grownR HB3.out hb1.1 (Nat.le_refl _) HB3.out.size)
        have HI6 := Lib.hid (isB_grown HI3.out HRZ.out (bv_not _ _ _ _ _ _) hb1.1)
        clear f5 hb1
        go_wp2
        refine bodyPost_ret (results_row_tmp2 rfl _ _ _ 98 (shc M W n p g t).toArray (0, 0) _ rfl HR6.out Tryz.underlying98 rfl shape_size) rfl ?_
        exact ⟨_, rfl, HI6.out, HB6.out⟩
end Go.Proofs.YtnbiopihcbnkpaaGreatDoor

/- patched's own contracts: head. Written by gen_phead.py. -/



namespace Go.Proofs.YtnbiopihcbnkpaaGreatDoor

open Go.RowKit

def Fact.ownRow (B : Nat) (l : List UInt8) : Fact := ⟨fun v w => w.ownsRow B 5 1 v l.length (l.map bv), fun _ _ _ h hb => own_below h hb⟩
theorem two_bytes {B0 B1 : Nat} (h0 : B0 < 256) (h1 : B1 < 256) (W : World) : IsB [UInt8.ofNat B0, UInt8.ofNat B1] (.slice (some ⟨W.heap.size, 0, none⟩) 2 2) (W.alloc (.cells #[.int .u8 (B0 : Int), .int .u8 (B1 : Int)] 5)) := by
  have h := isB_new W 5 [UInt8.ofNat B0, UInt8.ofNat B1] 2 rfl (by omega)
  simp only [List.map_cons, List.map_nil] at h
  rwa [← bv_low7 h0, ← bv_low7 h1] at h
set_option maxHeartbeats 4000000 in
set_option maxRecDepth 100000 in
theorem head_own (M W n p g t : Nat) (w : World) (ht : WTab w) (hM1 : 1 ≤ M) (hM : M ≤ 512) (hW : wcode (W : Int) = (pcode W : Int)) (hW31 : pcode W ≤ 31) (hn1 : 1 ≤ n) (hn8 : n ≤ 8) (hp : wcode (p : Int) = (pcode p : Int)) (hp31 : pcode p ≤ 31) (hg1 : 1 ≤ g) (hg8 : g ≤ 8) (ht31 : t ≤ 31) :
    Calls Tryz.prog 128 #[shv M W n p g t] w (RetOwn w (dheadN 2 (pcode W) M ++ [UInt8.ofNat (32 * (n - 1) + pcode p), UInt8.ofNat (32 * (g - 1) + t)])) := by
  obtain ⟨w1, hw1⟩ : ∃ w1, w1 = w.alloc (.cells (shc M W n p g t).toArray 98) := ⟨_, rfl⟩
  have q1 : Row w1 w.heap.size 98 (shc M W n p g t) := by rw [hw1]; exact heap_alloc_new w _
  have hb1 : Below w.heap.size w w1 := by rw [hw1]; exact (Below.refl _ _).alloc (Nat.le_refl _) _
  have HB0 := Lib.hid hb1
  have HLB := Lib.hid q1.lt
  have HC0 := Lib.hid (show w1.cell? ⟨w.heap.size, 0, none⟩ = some (.int .i64 (M : Int)) from q1.cell 0)
  have HC1 := Lib.hid (show w1.cell? ⟨w.heap.size, 1, none⟩ = some (.int .i64 (W : Int)) from q1.cell 1)
  have HC2 := Lib.hid (show w1.cell? ⟨w.heap.size, 2, none⟩ = some (.int .i64 (n : Int)) from q1.cell 2)
  have HC3 := Lib.hid (show w1.cell? ⟨w.heap.size, 3, none⟩ = some (.int .i64 (p : Int)) from q1.cell 3)
  have HC4 := Lib.hid (show w1.cell? ⟨w.heap.size, 4, none⟩ = some (.int .i64 (g : Int)) from q1.cell 4)
  have HC5 := Lib.hid (show w1.cell? ⟨w.heap.size, 5, none⟩ = some (.int .i64 (t : Int)) from q1.cell 5)
  have HT := Lib.hid (ht.below hb1 ht.lt)
  obtain ⟨cW, hcW⟩ : ∃ cW, cW = pcode W := ⟨_, rfl⟩
  obtain ⟨cp, hcp⟩ : ∃ cp, cp = pcode p := ⟨_, rfl⟩
  have HCW := Lib.hid (fun X (h : WTab X) => code_any (W : Int) X h)
  have HCD := Lib.hid (fun X (h : WTab X) => code_any (p : Int) X h)
  rw [hW, ← hcW] at HCW
  rw [hp, ← hcp] at HCD
  rw [← hcW] at hW31 ⊢
  rw [← hcp] at hp31 ⊢
  obtain ⟨hd, hhd⟩ : ∃ hd, hd = dheadN 2 cW M := ⟨_, rfl⟩
  have HHD := Lib.hid (fun X (h : WTab X) => dhead_own 2 (cW : Int) (M : Int) X h (by unfold inInt; omega) (by unfold inInt; omega) (by unfold inInt; omega))
  rw [show (2 : Int) = ((2 : Nat) : Int) from rfl, dhead_in (by omega) hW31 hM1 hM, ← hhd] at HHD
  rw [show ((2 : Nat) : Int) = (2 : Int) from rfl] at HHD
  have HHL := Lib.hid (show hd.length = 2 by rw [hhd, dheadN_len])
  obtain ⟨n1, hn1e⟩ : ∃ n1, n1 = n - 1 := ⟨_, rfl⟩
  obtain ⟨g1, hg1e⟩ : ∃ g1, g1 = g - 1 := ⟨_, rfl⟩
  obtain ⟨n32, hn32⟩ : ∃ n32, n32 = n1 * 32 := ⟨_, rfl⟩
  obtain ⟨g32, hg32⟩ : ∃ g32, g32 = g1 * 32 := ⟨_, rfl⟩
  obtain ⟨B0, hB0⟩ : ∃ B0, B0 = n32 + cp := ⟨_, rfl⟩
  obtain ⟨B1, hB1⟩ : ∃ B1, B1 = g32 + t := ⟨_, rfl⟩
  rw [show 32 * (n - 1) + cp = B0 by omega, show 32 * (g - 1) + t = B1 by omega, ← hhd]
  have HN1 := Lib.hid (show (n : Int) - 1 = (n1 : Int) by omega)
  have HG1 := Lib.hid (show (g : Int) - 1 = (g1 : Int) by omega)
  have HN32 := Lib.hid (show IntKind.i64.wrap ((n1 : Int) * 32) = (n32 : Int) by rw [IntKind.wrap_i64]; omega)
  have HG32 := Lib.hid (show IntKind.i64.wrap ((g1 : Int) * 32) = (g32 : Int) by rw [IntKind.wrap_i64]; omega)
  have HOR0 := Lib.hid (show bits .or .i64 (n32 : Int) (cp : Int) = (B0 : Int) by rw [hB0]; exact or_i64 5 n32 cp (by omega) (by omega) (by omega))
  have HOR1 := Lib.hid (show bits .or .i64 (g32 : Int) (t : Int) = (B1 : Int) by rw [hB1]; exact or_i64 5 g32 t (by omega) (by omega) (by omega))
  have HU0 := Lib.hid (show IntKind.u8.wrap (B0 : Int) = (B0 : Int) by rw [IntKind.wrap_u8]; omega)
  have HU1 := Lib.hid (show IntKind.u8.wrap (B1 : Int) = (B1 : Int) by rw [IntKind.wrap_u8]; omega)
  have HB0l := Lib.hid (show B0 < 256 by omega)
  have HB1l := Lib.hid (show B1 < 256 by omega)
  unfold shc at hw1
  unfold shv shc
  clear ht q1 hb1 hcW hcp hhd hn1e hg1e hn32 hg32 hB0 hB1 hW hp
  go_enter Tryz.func128, Tryz.ntmps128
  go_wp2
  rw [← hw1]
  clear hw1
  refine wp_region_list_tail 24 [.is (.pointer (some ⟨w.heap.size, 1, none⟩)), .is (.int .i64 (W : Int)), .is (.int .i64 (cW : Int)), .is (.pointer (some ⟨w.heap.size, 0, none⟩)), .is (.int .i64 (M : Int)), .ownRow w.heap.size hd, .is (.pointer (some ⟨w.heap.size, 2, none⟩)), .is (.int .i64 (n : Int)), .is (.int .i64 (n1 : Int)), .is (.int .i64 (n32 : Int)), .is (.pointer (some ⟨w.heap.size, 3, none⟩)), .is (.int .i64 (p : Int)), .is (.int .i64 (cp : Int)), .is (.int .i64 (B0 : Int)), .is (.int .u8 (B0 : Int)), .is (.pointer (some ⟨w.heap.size, 4, none⟩)), .is (.int .i64 (g : Int)), .is (.int .i64 (g1 : Int)), .is (.int .i64 (g32 : Int)), .is (.pointer (some ⟨w.heap.size, 5, none⟩)), .is (.int .i64 (t : Int)), .is (.int .i64 (B1 : Int)), .is (.int .u8 (B1 : Int)), .bytes ([UInt8.ofNat B0, UInt8.ofNat B1])] [some 3, some 4, some 5, some 6, some 7, some 8, some 9, some 10, some 11, some 12, some 13, some 14, some 15, some 16, some 17, some 18, some 19, some 20, some 21, some 22, some 23, some 24, some 25, some 26] (by kernel_rfl) (by kernel_rfl) (by kernel_rfl) (by kernel_rfl) rfl ⟨?_, ?_, ?_, ?_, ?_, ?_, ?_, ?_, ?_, ?_, ?_, ?_, ?_, ?_, ?_, ?_, ?_, ?_, ?_, ?_, ?_, ?_, ?_, ?_, trivial⟩ ?_
  · intro ρ W1 hb1 H
    exact gives_field rfl (H.old 1 _ (by kernel_rfl) rfl) (fun W => shape_at1 W _) ⟨rfl, Below.refl _ _⟩
  · intro ρ W1 hb1 H
    exact gives_load rfl (H.new 3 0 (by kernel_rfl)) Tryz.underlying3 rfl ((hb1.cell HLB.out).trans HC1.out) ⟨rfl, Below.refl _ _⟩
  · intro ρ W1 hb1 H
    have e0 : ρ (.tmp 4) = .int .i64 (W : Int) := H.new 4 1 (by kernel_rfl)
    refine gives_call rfl (fun _ _ => by kernel_rfl) (H.func _) (args := #[.int .i64 (W : Int)]) (by simp [e0]) ?_
    exact (HCW.out W1 (HT.out.below hb1 HT.out.lt)).mono fun e w' ⟨h1, h2⟩ => ⟨_, h1, rfl, h2 ▸ Below.refl _ _⟩
  · intro ρ W1 hb1 H
    exact gives_field rfl (H.old 1 _ (by kernel_rfl) rfl) (fun W => shape_at0 W _) ⟨rfl, Below.refl _ _⟩
  · intro ρ W1 hb1 H
    exact gives_load rfl (H.new 6 3 (by kernel_rfl)) Tryz.underlying3 rfl ((hb1.cell HLB.out).trans HC0.out) ⟨rfl, Below.refl _ _⟩
  · intro ρ W1 hb1 H
    have e1 : ρ (.tmp 5) = .int .i64 (cW : Int) := H.new 5 2 (by kernel_rfl)
    have e2 : ρ (.tmp 7) = .int .i64 (M : Int) := H.new 7 4 (by kernel_rfl)
    refine gives_call rfl (fun _ _ => by kernel_rfl) (H.func _) (args := #[.int .i64 2, .int .i64 (cW : Int), .int .i64 (M : Int)]) (by simp [H.const, e1, e2]) ?_
    exact (HHD.out W1 (HT.out.below hb1 HT.out.lt)).mono fun e w' ⟨v, h1, h2, h3⟩ => ⟨v, h1, own_base (Nat.le_trans HB0.out.size hb1.size) h2, h3⟩
  · intro ρ W1 hb1 H
    exact gives_field rfl (H.old 1 _ (by kernel_rfl) rfl) (fun W => shape_at2 W _) ⟨rfl, Below.refl _ _⟩
  · intro ρ W1 hb1 H
    exact gives_load rfl (H.new 9 6 (by kernel_rfl)) Tryz.underlying3 rfl ((hb1.cell HLB.out).trans HC2.out) ⟨rfl, Below.refl _ _⟩
  · intro ρ W1 hb1 H
    exact gives_sub rfl (H.new 10 7 (by kernel_rfl)) (H.const _) (by omega) (by omega) ⟨congrArg (Value.int .i64) HN1.out, Below.refl _ _⟩
  · intro ρ W1 hb1 H
    exact gives_shl5 rfl (H.new 11 8 (by kernel_rfl)) (H.const _) HN32.out ⟨rfl, Below.refl _ _⟩
  · intro ρ W1 hb1 H
    exact gives_field rfl (H.old 1 _ (by kernel_rfl) rfl) (fun W => shape_at3 W _) ⟨rfl, Below.refl _ _⟩
  · intro ρ W1 hb1 H
    exact gives_load rfl (H.new 13 10 (by kernel_rfl)) Tryz.underlying3 rfl ((hb1.cell HLB.out).trans HC3.out) ⟨rfl, Below.refl _ _⟩
  · intro ρ W1 hb1 H
    have e0 : ρ (.tmp 14) = .int .i64 (p : Int) := H.new 14 11 (by kernel_rfl)
    refine gives_call rfl (fun _ _ => by kernel_rfl) (H.func _) (args := #[.int .i64 (p : Int)]) (by simp [e0]) ?_
    exact (HCD.out W1 (HT.out.below hb1 HT.out.lt)).mono fun e w' ⟨h1, h2⟩ => ⟨_, h1, rfl, h2 ▸ Below.refl _ _⟩
  · intro ρ W1 hb1 H
    exact gives_orI rfl (H.new 12 9 (by kernel_rfl)) (H.new 15 12 (by kernel_rfl)) HOR0.out ⟨rfl, Below.refl _ _⟩
  · intro ρ W1 hb1 H
    exact gives_conv rfl (H.new 16 13 (by kernel_rfl)) (by kernel_rfl) Tryz.underlying5 HU0.out ⟨rfl, Below.refl _ _⟩
  · intro ρ W1 hb1 H
    exact gives_field rfl (H.old 1 _ (by kernel_rfl) rfl) (fun W => shape_at4 W _) ⟨rfl, Below.refl _ _⟩
  · intro ρ W1 hb1 H
    exact gives_load rfl (H.new 18 15 (by kernel_rfl)) Tryz.underlying3 rfl ((hb1.cell HLB.out).trans HC4.out) ⟨rfl, Below.refl _ _⟩
  · intro ρ W1 hb1 H
    exact gives_sub rfl (H.new 19 16 (by kernel_rfl)) (H.const _) (by omega) (by omega) ⟨congrArg (Value.int .i64) HG1.out, Below.refl _ _⟩
  · intro ρ W1 hb1 H
    exact gives_shl5 rfl (H.new 20 17 (by kernel_rfl)) (H.const _) HG32.out ⟨rfl, Below.refl _ _⟩
  · intro ρ W1 hb1 H
    exact gives_field rfl (H.old 1 _ (by kernel_rfl) rfl) (fun W => shape_at5 W _) ⟨rfl, Below.refl _ _⟩
  · intro ρ W1 hb1 H
    exact gives_load rfl (H.new 22 19 (by kernel_rfl)) Tryz.underlying3 rfl ((hb1.cell HLB.out).trans HC5.out) ⟨rfl, Below.refl _ _⟩
  · intro ρ W1 hb1 H
    exact gives_orI rfl (H.new 21 18 (by kernel_rfl)) (H.new 23 20 (by kernel_rfl)) HOR1.out ⟨rfl, Below.refl _ _⟩
  · intro ρ W1 hb1 H
    exact gives_conv rfl (H.new 24 21 (by kernel_rfl)) (by kernel_rfl) Tryz.underlying5 HU1.out ⟨rfl, Below.refl _ _⟩
  · intro ρ W1 hb1 H
    exact gives_two elemB rfl (H.new 17 14 (by kernel_rfl)) (H.new 25 22 (by kernel_rfl)) rfl rfl ⟨two_bytes HB0l.out HB1l.out W1, (Below.refl _ _).alloc (Nat.le_refl _) _⟩
  · intro vs W1 hb1 hfs
    have f5 : W1.ownsRow w.heap.size 5 1 (vs 5) hd.length (hd.map bv) := hfs 5 (by decide)
    have f23 : IsB ([UInt8.ofNat B0, UInt8.ofNat B1]) (vs 23) W1 := hfs 23 (by decide)
    clear hfs
    simp only [putAll, Nat.zero_add, Nat.reduceAdd, List.drop_succ_cons, List.drop_zero]
    generalize vs 0 = z0
    generalize vs 1 = z1
    generalize vs 2 = z2
    generalize vs 3 = z3
    generalize vs 4 = z4
    generalize vs 5 = z5 at f5 ⊢
    generalize vs 6 = z6
    generalize vs 7 = z7
    generalize vs 8 = z8
    generalize vs 9 = z9
    generalize vs 10 = z10
    generalize vs 11 = z11
    generalize vs 12 = z12
    generalize vs 13 = z13
    generalize vs 14 = z14
    generalize vs 15 = z15
    generalize vs 16 = z16
    generalize vs 17 = z17
    generalize vs 18 = z18
    generalize vs 19 = z19
    generalize vs 20 = z20
    generalize vs 21 = z21
    generalize vs 22 = z22
    generalize vs 23 = z23 at f23 ⊢
    simp only [Act.put, List.setIfInBounds_toArray, List.set_cons_succ, List.set_cons_zero]
    obtain ⟨A5, c5, rfl, hA5, hnc5, hcm5, hl5⟩ := f23
    have HL5 := Lib.hid hl5
    have HO5 := Lib.hid f5
    have HBB := Lib.hid (HB0.out.trans (hb1.mono HB0.out.size))
    have hz5 := HBB.out.size
    clear hl5 f5 hb1 hcm5
    go_wp2_with (at_builtin; refine wpList_join elemB rfl _ _ rfl w.heap.size z5 hd.length (hd.map bv) A5 2 c5 ([UInt8.ofNat B0, UInt8.ofNat B1].map bv) w rfl rfl hA5 (by simp) HL5.out (bv_one _) HO5.out HBB.out hz5 (by have := HHL.out; omega) (by omega) ?_)
    intro v6 w6 ho6 hb6 _ _
    have HO6 := Lib.hid ho6
    clear ho6
    go_wp2
    go_ret
    refine ⟨_, rfl, ?_, hb6⟩
    rw [List.length_append, List.map_append]
    exact HO6.out
end Go.Proofs.YtnbiopihcbnkpaaGreatDoor

/- patched's own contracts: shapeOf, joined, head, look. Written by gen_pshape.py. -/



namespace Go.Proofs.YtnbiopihcbnkpaaGreatDoor

open Go.RowKit

set_option maxHeartbeats 4000000 in
set_option maxRecDepth 100000 in
theorem shapeof_any (m W n : Int) (vg vp : Value) (ps : List (Nat × Nat)) (w : World) (ht : WTab w) (hvg : IsV uv (ps.map (·.1)) vg w) (hvp : IsV uv (ps.map (·.2)) vp w) (h1 : ∀ q ∈ ps, q.1 < 2 ^ 64) (h2 : ∀ q ∈ ps, q.2 < 2 ^ 64) (hb : ps.length ≤ 1000000) :
    Calls Tryz.prog 124 #[.int .i64 m, .int .i64 W, .int .i64 n, pairsV vg vp] w fun e w' => e = .returned (shv m W n (wclosest (wmost (ps.map (·.2)) : Int)) (pgw ps : Int) (ps.length : Int)) ∧ Below w.heap.size w w' := by
  obtain ⟨Ag, ng, cg, rfl⟩ := hvg.shape
  obtain ⟨Ap, np, cp, rfl⟩ := hvp.shape
  have hng : ps.length = ng := by rw [← hvg.parts.1, List.length_map]
  obtain ⟨w1, hw1⟩ : ∃ w1, w1 = w.alloc (.cells #[.slice Ag ng cg, .slice Ap np cp] 133) := ⟨_, rfl⟩
  have q1 : Row w1 w.heap.size 133 [.slice Ag ng cg, .slice Ap np cp] := by rw [hw1]; exact heap_alloc_new w _
  have z1 : w1.heap.size = w.heap.size + 1 := by rw [hw1]; simp
  obtain ⟨w2, hw2⟩ : ∃ w2, w2 = w1.alloc (.cells (shc 0 0 0 0 0 0).toArray 98) := ⟨_, rfl⟩
  have hb1 : Below w.heap.size w w1 := by rw [hw1]; exact (Below.refl _ _).alloc (Nat.le_refl _) _
  have hb2 : Below w.heap.size w w2 := by rw [hw2]; exact hb1.alloc hb1.size _
  have q2 : Row w2 w.heap.size 133 [.slice Ag ng cg, .slice Ap np cp] := by rw [hw2]; exact q1.alloc _
  have HRZ := Lib.hid (show Row w2 (w.heap.size + 1) 98 (shc 0 0 0 0 0 0) by rw [hw2, ← z1]; exact heap_alloc_new w1 _)
  have HB0 := Lib.hid hb2
  have HLB := Lib.hid q2.lt
  have HCG := Lib.hid (show w2.cell? ⟨w.heap.size, 0, none⟩ = some (.slice Ag ng cg) from q2.cell 0)
  have HCP := Lib.hid (show w2.cell? ⟨w.heap.size, 1, none⟩ = some (.slice Ap np cp) from q2.cell 1)
  have HVG := Lib.hid (hvg.below hb2)
  have HVP := Lib.hid (hvp.below hb2)
  have HT := Lib.hid (ht.below hb2 ht.lt)
  have HMG := Lib.hid (fun X (h : IsV uv (ps.map (·.1)) (.slice Ag ng cg) X) => most_is h (by rw [List.length_map]; exact hb) (fun x hx => by obtain ⟨q, hq, rfl⟩ := List.mem_map.1 hx; exact h1 q hq))
  have HMP := Lib.hid (fun X (h : IsV uv (ps.map (·.2)) (.slice Ap np cp) X) => most_is h (by rw [List.length_map]; exact hb) (fun x hx => by obtain ⟨q, hq, rfl⟩ := List.mem_map.1 hx; exact h2 q hq))
  obtain ⟨mp, hmp⟩ : ∃ mp, mp = wmost (ps.map (·.2)) := ⟨_, rfl⟩
  obtain ⟨mg, hmg⟩ : ∃ mg, mg = wmost (ps.map (·.1)) := ⟨_, rfl⟩
  obtain ⟨P, hP⟩ : ∃ P, P = wclosest (mp : Int) := ⟨_, rfl⟩
  obtain ⟨G, hG⟩ : ∃ G, G = (pgw ps : Int) := ⟨_, rfl⟩
  have HMX := Lib.hid (show max 1 (mg : Int) = G by rw [hG, hmg]; unfold pgw; omega)
  have HCL := Lib.hid (fun X (h : WTab X) => closest_any (mp : Int) X h)
  rw [← hmp] at HMP ⊢
  rw [← hmg] at HMG
  rw [← hP] at HCL ⊢
  rw [← hG, hng]
  unfold pairsV
  clear ht hvg hvp h1 h2 hb hng q1 q2 z1 hb1 hb2 hmp hmg hP hG
  unfold shc at hw2
  go_enter Tryz.func124, Tryz.ntmps124
  go_wp2
  rw [← hw1, ← hw2]
  clear hw1 hw2
  refine wp_region_list_tail 15 [.is (.int .i64 m), .is (.int .i64 W), .is (.int .i64 n), .is (.pointer (some ⟨w.heap.size, 1, none⟩)), .is (.slice Ap np cp), .is (.int .i64 (mp : Int)), .is (.int .i64 P), .is (.pointer (some ⟨w.heap.size, 0, none⟩)), .is (.slice Ag ng cg), .is (.int .i64 (mg : Int)), .is (.int .i64 G), .is (.pointer (some ⟨w.heap.size, 0, none⟩)), .is (.slice Ag ng cg), .is (.int .i64 (ng : Int)), .is (shv m W n P G (ng : Int))] [some 9, some 10, some 11, some 12, some 13, some 14, some 15, some 16, some 17, some 18, some 19, some 20, some 21, some 22, some 23] (by kernel_rfl) (by kernel_rfl) (by kernel_rfl) (by kernel_rfl) rfl ⟨?_, ?_, ?_, ?_, ?_, ?_, ?_, ?_, ?_, ?_, ?_, ?_, ?_, ?_, ?_, trivial⟩ ?_
  · intro ρ W1 hb1 H
    exact gives_move rfl (H.old 0 _ (by kernel_rfl) rfl) ⟨rfl, Below.refl _ _⟩
  · intro ρ W1 hb1 H
    exact gives_move rfl (H.old 1 _ (by kernel_rfl) rfl) ⟨rfl, Below.refl _ _⟩
  · intro ρ W1 hb1 H
    exact gives_move rfl (H.old 2 _ (by kernel_rfl) rfl) ⟨rfl, Below.refl _ _⟩
  · intro ρ W1 hb1 H
    exact gives_field rfl (H.old 7 _ (by kernel_rfl) rfl) (fun W => pairs_at1 W _) ⟨rfl, Below.refl _ _⟩
  · intro ρ W1 hb1 H
    exact gives_load rfl (H.new 12 3 (by kernel_rfl)) Tryz.underlying43 rfl ((hb1.cell HLB.out).trans HCP.out) ⟨rfl, Below.refl _ _⟩
  · intro ρ W1 hb1 H
    have e0 : ρ (.tmp 13) = .slice Ap np cp := H.new 13 4 (by kernel_rfl)
    refine gives_call rfl (fun _ _ => by kernel_rfl) (H.func _) (args := #[.slice Ap np cp]) (by simp [e0]) ?_
    exact (HMP.out W1 (HVP.out.below hb1)).mono fun e w' ⟨h1, h2⟩ => ⟨_, h1, rfl, h2 ▸ Below.refl _ _⟩
  · intro ρ W1 hb1 H
    have e0 : ρ (.tmp 14) = .int .i64 (mp : Int) := H.new 14 5 (by kernel_rfl)
    refine gives_call rfl (fun _ _ => by kernel_rfl) (H.func _) (args := #[.int .i64 (mp : Int)]) (by simp [e0]) ?_
    exact (HCL.out W1 (HT.out.below hb1 HT.out.lt)).mono fun e w' ⟨h1, h2⟩ => ⟨_, h1, rfl, h2 ▸ Below.refl _ _⟩
  · intro ρ W1 hb1 H
    exact gives_field rfl (H.old 7 _ (by kernel_rfl) rfl) (fun W => pairs_at0 W _) ⟨rfl, Below.refl _ _⟩
  · intro ρ W1 hb1 H
    exact gives_load rfl (H.new 16 7 (by kernel_rfl)) Tryz.underlying43 rfl ((hb1.cell HLB.out).trans HCG.out) ⟨rfl, Below.refl _ _⟩
  · intro ρ W1 hb1 H
    have e0 : ρ (.tmp 17) = .slice Ag ng cg := H.new 17 8 (by kernel_rfl)
    refine gives_call rfl (fun _ _ => by kernel_rfl) (H.func _) (args := #[.slice Ag ng cg]) (by simp [e0]) ?_
    exact (HMG.out W1 (HVG.out.below hb1)).mono fun e w' ⟨h1, h2⟩ => ⟨_, h1, rfl, h2 ▸ Below.refl _ _⟩
  · intro ρ W1 hb1 H
    exact gives_max rfl (H.const _) (H.new 18 9 (by kernel_rfl)) HMX.out ⟨rfl, Below.refl _ _⟩
  · intro ρ W1 hb1 H
    exact gives_field rfl (H.old 7 _ (by kernel_rfl) rfl) (fun W => pairs_at0 W _) ⟨rfl, Below.refl _ _⟩
  · intro ρ W1 hb1 H
    exact gives_load rfl (H.new 20 11 (by kernel_rfl)) Tryz.underlying43 rfl ((hb1.cell HLB.out).trans HCG.out) ⟨rfl, Below.refl _ _⟩
  · intro ρ W1 hb1 H
    exact gives_len elemU.under rfl (H.new 21 12 (by kernel_rfl)) ⟨rfl, Below.refl _ _⟩
  · intro ρ W1 hb1 H
    exact gives_shape rfl (H.new 9 0 (by kernel_rfl)) (H.new 10 1 (by kernel_rfl)) (H.new 11 2 (by kernel_rfl)) (H.new 15 6 (by kernel_rfl)) (H.new 19 10 (by kernel_rfl)) (H.new 22 13 (by kernel_rfl)) ⟨rfl, Below.refl _ _⟩
  · intro vs W1 hb1 hfs
    have f0 : vs 0 = .int .i64 m := hfs 0 (by decide)
    have f1 : vs 1 = .int .i64 W := hfs 1 (by decide)
    have f2 : vs 2 = .int .i64 n := hfs 2 (by decide)
    have f3 : vs 3 = .pointer (some ⟨w.heap.size, 1, none⟩) := hfs 3 (by decide)
    have f4 : vs 4 = .slice Ap np cp := hfs 4 (by decide)
    have f5 : vs 5 = .int .i64 (mp : Int) := hfs 5 (by decide)
    have f6 : vs 6 = .int .i64 P := hfs 6 (by decide)
    have f7 : vs 7 = .pointer (some ⟨w.heap.size, 0, none⟩) := hfs 7 (by decide)
    have f8 : vs 8 = .slice Ag ng cg := hfs 8 (by decide)
    have f9 : vs 9 = .int .i64 (mg : Int) := hfs 9 (by decide)
    have f10 : vs 10 = .int .i64 G := hfs 10 (by decide)
    have f11 : vs 11 = .pointer (some ⟨w.heap.size, 0, none⟩) := hfs 11 (by decide)
    have f12 : vs 12 = .slice Ag ng cg := hfs 12 (by decide)
    have f13 : vs 13 = .int .i64 (ng : Int) := hfs 13 (by decide)
    have f14 : vs 14 = shv m W n P G (ng : Int) := hfs 14 (by decide)
    clear hfs
    simp only [putAll, Nat.zero_add, Nat.reduceAdd, List.drop_succ_cons, List.drop_zero]
    simp only [f0, f1, f2, f3, f4, f5, f6, f7, f8, f9, f10, f11, f12, f13, f14, Act.put, List.setIfInBounds_toArray, List.set_cons_succ, List.set_cons_zero]
    clear f0 f1 f2 f3 f4 f5 f6 f7 f8 f9 f10 f11 f12 f13 f14
    have HR1 := Lib.hid (HRZ.out.below hb1 HRZ.out.lt)
    have HB1 := Lib.hid hb1
    clear hb1
    refine wpList_storeW rfl _ _ _ rfl (w.heap.size + 1) 0 98 (shc 0 0 0 0 0 0) (shc m W n P G (ng : Int)) (shc m W n P G (ng : Int)) rfl rfl rfl HR1.out shape_size (Nat.le_refl _) (shc_one _ _ _ _ _ _) w w.heap.size (HB0.out.trans (HB1.out.mono HB0.out.size)) (Nat.le_succ _) ?_
    intro w2 hr2 hb2 _
    go_wp2
    refine ret_struct rfl rfl hr2 Tryz.underlying98 rfl shape_size rfl ?_
    exact ⟨rfl, hb2⟩
def JnRel (T : List Nat) (g b n : Nat) (vg vp : Value) (w : World) (i : Value) (wr : World) : Prop := ∃ (k : Nat) (acc : List Nat), k ≤ n ∧ i = .int .i64 (k : Int) ∧ acc = T.take k ∧ Row wr g 53 (acc.map uv ++ List.replicate (n - k) (uv 0)) ∧ Row wr b 133 [vg, vp] ∧ Below w.heap.size w wr
set_option maxHeartbeats 4000000 in
set_option maxRecDepth 100000 in
theorem joined_any (vg vp : Value) (ps : List (Nat × Nat)) (p : Nat) (w : World) (hvg : IsV uv (ps.map (·.1)) vg w) (hvp : IsV uv (ps.map (·.2)) vp w) (h1 : ∀ q ∈ ps, q.1 * 2 ^ p < 2 ^ 64) (h2 : ∀ q ∈ ps, q.2 < 2 ^ p) (hp64 : p ≤ 64) (hb : ps.length ≤ 1000000) :
    Calls Tryz.prog 126 #[pairsV vg vp, .int .i64 (p : Int)] w fun e w' => ∃ v, e = .returned v ∧ IsV uv (pboth ps p) v w' ∧ Below w.heap.size w w' := by
  obtain ⟨Ag, n, cg, rfl⟩ := hvg.shape
  obtain ⟨Ap, np, cp, rfl⟩ := hvp.shape
  have hng : ps.length = n := by rw [← hvg.parts.1, List.length_map]
  obtain rfl : np = n := by rw [← hng, ← hvp.parts.1, List.length_map]
  obtain ⟨b, hbz⟩ : ∃ b, b = w.heap.size := ⟨_, rfl⟩
  obtain ⟨w1, hw1⟩ : ∃ w1, w1 = w.alloc (.cells #[.slice Ag np cg, .slice Ap np cp] 133) := ⟨_, rfl⟩
  have q1 : Row w1 b 133 [.slice Ag np cg, .slice Ap np cp] := by rw [hw1, hbz]; exact heap_alloc_new w _
  have z1 : w1.heap.size = b + 1 := by rw [hw1, hbz]; simp
  have hb1 : Below w.heap.size w w1 := by rw [hw1]; exact (Below.refl _ _).alloc (Nat.le_refl _) _
  have hc0 : w1.cell? ⟨b, 0, none⟩ = some (.slice Ag np cg) := q1.cell 0
  have HQ1 := Lib.hid q1
  have HB1 := Lib.hid hb1
  have HN := Lib.hid hng
  have HVG := Lib.hid hvg
  have HVP := Lib.hid hvp
  have H1 := Lib.hid h1
  have H2 := Lib.hid h2
  have hn6 : np ≤ 1000000 := by omega
  rw [hw1, hbz] at hc0
  have HBZ := Lib.hid hbz
  have HW1 := Lib.hid hw1
  unfold pairsV
  clear hvg hvp h1 h2 hb hng q1 hb1 hbz hw1
  go_enter Tryz.func126, Tryz.ntmps126
  go_wp2_with (refine wpList_make elemU rfl _ _ rfl _ _ _ _ np _ (w.heap.size + 1) rfl rfl rfl rfl (by omega) (by omega) (Below.refl _ _) (by simp) ?_)
  intro w2 hr2 hb2
  rw [← HW1.out, ← HBZ.out] at hb2
  rw [← HBZ.out] at hr2
  have hz2 := hr2.lt
  have HB2 := Lib.hid (HB1.out.trans (hb2.mono (by have := HBZ.out; omega)))
  have hq2 := HQ1.out.below hb2 (Nat.lt_succ_self b)
  have hc2 : w2.cell? ⟨b, 0, none⟩ = some (.slice Ag np cg) := hq2.cell 0
  rw [← HBZ.out]
  have HS := Lib.hid (show JnRel (pboth ps p) (b + 1) b np (.slice Ag np cg) (.slice Ap np cp) w (.int .i64 0) w2 from ⟨0, [], Nat.zero_le _, rfl, rfl, by rw [Nat.sub_zero]; simpa [uv] using hr2, hq2, HB2.out⟩)
  have hbg : b ≠ b + 1 := by omega
  have hg : w.heap.size ≤ b + 1 := by have := HBZ.out; omega
  clear hr2 hb2 hq2 hc0 hz2 z1
  generalize b + 1 = g at *
  go_wp2
  clear hc2
  go_loopw [15] (JnRel (pboth ps p) g b np (.slice Ag np cg) (.slice Ap np cp) w) (fun i _ => np - (intOf i).toNat)
  case atStart => exact HS.out
  case round =>
    obtain ⟨k, acc, hk, rfl, hacc, hr, hrb, hbw⟩ := hrel
    have hpl : (pboth ps p).length = np := by unfold pboth; rw [List.length_map, HN.out]
    have HAL := Lib.hid (show acc.length = k by rw [hacc, List.length_take]; omega)
    have HB := Lib.hid hbw
    have HR := Lib.hid hr
    have HRB := Lib.hid hrb
    have HACC := Lib.hid hacc
    have HPL := Lib.hid hpl
    clear hacc hr hrb hpl
    by_cases hlt : k < np
    · have hkl : k < ps.length := by have := HN.out; omega
      have hlti : (k : Int) < (np : Int) := by omega
      have hltn : k < np := hlt
      obtain ⟨adg, hAg, _, hcg⟩ := (HVG.out.below hbw).at (k := k) (by rw [List.length_map]; exact hkl)
      obtain ⟨ad, hAp, hadlt, hcp⟩ := (HVP.out.below hbw).at (k := k) (by rw [List.length_map]; exact hkl)
      subst hAg hAp
      obtain ⟨q, hq⟩ : ∃ q, q = ps[k] := ⟨_, rfl⟩
      have hqm : q ∈ ps := by rw [hq]; exact List.getElem_mem hkl
      obtain ⟨x, hx⟩ : ∃ x, x = q.1 := ⟨_, rfl⟩
      obtain ⟨y, hy⟩ : ∃ y, y = q.2 := ⟨_, rfl⟩
      have hcx : wr.cell? (adg.add k) = some (.int .u64 (x : Int)) := by rw [hcg, List.getElem_map, ← hq, ← hx]; rfl
      have HCY := Lib.hid (show wr.cell? (ad.add k) = some (.int .u64 (y : Int)) by rw [hcp, List.getElem_map, ← hq, ← hy]; rfl)
      have HLA := Lib.hid (show (ad.add k).block < wr.heap.size by rw [add_block]; exact hadlt)
      obtain ⟨Z, hZ⟩ : ∃ Z, Z = x * 2 ^ p := ⟨_, rfl⟩
      obtain ⟨V, hV⟩ : ∃ V, V = Z + y := ⟨_, rfl⟩
      have hZ64 : Z < 18446744073709551616 := by rw [hZ, hx]; exact H1.out q hqm
      have hy2 : y < 2 ^ p := by rw [hy]; exact H2.out q hqm
      have hpp : 2 ^ p ≤ 18446744073709551616 := Nat.pow_le_pow_right (n := 2) (i := p) (j := 64) (by omega) hp64
      have HZW : Hid (IntKind.u64.wrap ((x : Int) * 2 ^ p) = (Z : Int)) := Lib.hid (by rw [show (x : Int) * 2 ^ p = (Z : Int) by rw [hZ]; simp, IntKind.wrap_u64]; omega)
      have HOR : Hid (bits .or .u64 (Z : Int) (y : Int) = (V : Int)) := Lib.hid (by
        have hj := nat_join p Z y (by rw [hZ]; exact Nat.mul_mod_left _ _) hy2
        rw [u64_or _ _ (by omega) (by omega) (by omega) (by omega), Int.toNat_natCast, Int.toNat_natCast, hj, hV])
      have HNX := Lib.hid (show acc ++ [V] = (pboth ps p).take (k + 1) by
        rw [HACC.out, List.take_succ_eq_append_getElem (by rw [HPL.out]; exact hlt)]
        congr 1
        unfold pboth
        rw [List.getElem_map, ← hq, ← hx, ← hy, ← hZ, hV])
      have HCP := Lib.hid (show wr.cell? ⟨b, 1, none⟩ = some (.slice (some ad) np cp) from HRB.out.cell 1)
      have HLB := Lib.hid HRB.out.lt
      have HADD : Hid ((⟨g, 0, none⟩ : Addr).add k = ⟨g, k, none⟩) := Lib.hid (by unfold Addr.add; split <;> simp_all)
      clear hcg hcp hq hqm hx hy hZ hV hZ64 hy2 hpp hadlt hbw
      go_wp2
      refine wp_region_list_tail 12 [.is (.slice (some ⟨g, 0, none⟩) np np), .is (.int .i64 (k : Int)), .is (.int .u64 (x : Int)), .is (.int .i64 (p : Int)), .is (.int .u64 (Z : Int)), .is (.pointer (some ⟨b, 1, none⟩)), .is (.slice (some ad) np cp), .is (.int .i64 (k : Int)), .is (.pointer (some (ad.add k))), .is (.int .u64 (y : Int)), .is (.int .u64 (V : Int)), .is (.pointer (some ⟨g, k, none⟩))] [some 20, some 21, some 22, some 23, some 24, some 25, some 26, some 27, some 28, some 29, some 30, some 31] (by kernel_rfl) (by kernel_rfl) (by kernel_rfl) (by kernel_rfl) rfl ⟨?_, ?_, ?_, ?_, ?_, ?_, ?_, ?_, ?_, ?_, ?_, ?_, trivial⟩ ?_
      · intro ρ W1 hb1 H
        exact gives_move rfl (H.old 5 _ (by kernel_rfl) rfl) ⟨rfl, Below.refl _ _⟩
      · intro ρ W1 hb1 H
        exact gives_move rfl (H.old 6 _ (by kernel_rfl) rfl) ⟨rfl, Below.refl _ _⟩
      · intro ρ W1 hb1 H
        exact gives_move rfl (H.old 7 _ (by kernel_rfl) rfl) ⟨rfl, Below.refl _ _⟩
      · intro ρ W1 hb1 H
        exact gives_move rfl (H.old 1 _ (by kernel_rfl) rfl) ⟨rfl, Below.refl _ _⟩
      · intro ρ W1 hb1 H
        exact gives_shl64 (k := p) rfl (H.new 22 2 (by kernel_rfl)) (H.new 23 3 (by kernel_rfl)) hp64 HZW.out ⟨rfl, Below.refl _ _⟩
      · intro ρ W1 hb1 H
        exact gives_field rfl (H.old 2 _ (by kernel_rfl) rfl) (fun W => pairs_at1 W _) ⟨rfl, Below.refl _ _⟩
      · intro ρ W1 hb1 H
        exact gives_load rfl (H.new 25 5 (by kernel_rfl)) Tryz.underlying43 rfl ((hb1.cell HLB.out).trans HCP.out) ⟨rfl, Below.refl _ _⟩
      · intro ρ W1 hb1 H
        exact gives_move rfl (H.old 6 _ (by kernel_rfl) rfl) ⟨rfl, Below.refl _ _⟩
      · intro ρ W1 hb1 H
        exact gives_index (k := k) elemU rfl (H.new 26 6 (by kernel_rfl)) (H.new 27 7 (by kernel_rfl)) (hltn) ⟨rfl, Below.refl _ _⟩
      · intro ρ W1 hb1 H
        exact gives_load rfl (H.new 28 8 (by kernel_rfl)) Tryz.underlying53 rfl ((hb1.cell HLA.out).trans HCY.out) ⟨rfl, Below.refl _ _⟩
      · intro ρ W1 hb1 H
        exact gives_or64 rfl (H.new 24 4 (by kernel_rfl)) (H.new 29 9 (by kernel_rfl)) HOR.out ⟨rfl, Below.refl _ _⟩
      · intro ρ W1 hb1 H
        exact gives_index (k := k) elemU rfl (H.new 20 0 (by kernel_rfl)) (H.new 21 1 (by kernel_rfl)) (hltn) ⟨congrArg (fun q => Value.pointer (some q)) (HADD.out), Below.refl _ _⟩
      · intro vs W1 hb1 hfs
        have f0 : vs 0 = .slice (some ⟨g, 0, none⟩) np np := hfs 0 (by decide)
        have f1 : vs 1 = .int .i64 (k : Int) := hfs 1 (by decide)
        have f2 : vs 2 = .int .u64 (x : Int) := hfs 2 (by decide)
        have f3 : vs 3 = .int .i64 (p : Int) := hfs 3 (by decide)
        have f4 : vs 4 = .int .u64 (Z : Int) := hfs 4 (by decide)
        have f5 : vs 5 = .pointer (some ⟨b, 1, none⟩) := hfs 5 (by decide)
        have f6 : vs 6 = .slice (some ad) np cp := hfs 6 (by decide)
        have f7 : vs 7 = .int .i64 (k : Int) := hfs 7 (by decide)
        have f8 : vs 8 = .pointer (some (ad.add k)) := hfs 8 (by decide)
        have f9 : vs 9 = .int .u64 (y : Int) := hfs 9 (by decide)
        have f10 : vs 10 = .int .u64 (V : Int) := hfs 10 (by decide)
        have f11 : vs 11 = .pointer (some ⟨g, k, none⟩) := hfs 11 (by decide)
        clear hfs
        simp only [putAll, Nat.zero_add, Nat.reduceAdd, List.drop_succ_cons, List.drop_zero]
        simp only [f0, f1, f2, f3, f4, f5, f6, f7, f8, f9, f10, f11, Act.put, List.setIfInBounds_toArray, List.set_cons_succ, List.set_cons_zero]
        clear f0 f1 f2 f3 f4 f5 f6 f7 f8 f9 f10 f11
        have hr2 := HR.out.below hb1 HR.out.lt
        have hf2 := hr2.free k
        have hcu : ∃ z, W1.cell? ⟨g, k, none⟩ = some z := by
          rw [hr2.cell]
          exact ⟨_, List.getElem?_eq_getElem (by rw [List.length_append, List.length_map, List.length_replicate]; have := HAL.out; omega)⟩
        obtain ⟨u0, hcu⟩ := hcu
        have hset := hr2.set_ k (uv V)
        rw [fill_step hltn HAL.out] at hset
        have HSET := Lib.hid hset
        have HRB1 := Lib.hid ((HRB.out.below hb1 HRB.out.lt).far (p := ⟨g, k, none⟩) hbg (uv V))
        have HB3 := Lib.hid ((HB.out.trans (hb1.mono HB.out.size)).setCell (p := ⟨g, k, none⟩) hg (uv V))
        clear hset hr2 hb1
        go_wp2
        go_roundw
        case rel => exact ⟨k + 1, _, by omega, by go_num, HNX.out, HSET.out, HRB1.out, HB3.out⟩
        case measure => simp [intOf]; omega

    · obtain rfl : k = np := by omega
      have hlti : ¬ (k : Int) < (k : Int) := by omega
      have HE := Lib.hid (show acc = pboth ps p by rw [HACC.out, List.take_of_length_le (by rw [HPL.out]; exact Nat.le_refl _)])
      have hr := HR.out
      rw [Nat.sub_self, List.replicate_zero, List.append_nil] at hr
      have HO := Lib.hid (isV_row hr HAL.out (by omega))
      rw [HE.out] at HO
      clear hr
      go_wp2
      go_ret
      exact ⟨_, rfl, HO.out, HB.out⟩
end Go.Proofs.YtnbiopihcbnkpaaGreatDoor

/- patched's own contract of Put. Written by gen_pput.py. -/









namespace Go.Proofs.YtnbiopihcbnkpaaGreatDoor

open Go.RowKit

theorem lmin_pbase {l : List Int} (h : 1 ≤ l.length) : lmin l = pbase l := by
  cases l with
  | nil => simp at h
  | cons x l =>
    show l.foldl min x = (x :: l).foldl min x
    rw [List.foldl_cons, Int.min_self]
theorem pplain_neg {l : List Int} (h1 : 1 ≤ l.length) (h : pbase l < 0) : dplain l false = none := omap_none (pbase_mem h1) (by unfold eplain; rw [if_neg (by decide), if_neg (by omega)])
theorem pplain_some {l : List Int} {s : Bool} (h : s = true ∨ ∀ x ∈ l, 0 ≤ x) : dplain l s ≠ none := by
  unfold dplain
  induction l with
  | nil => simp [omap]
  | cons x l ih =>
    have h1 : ∃ u, eplain x s = some u := by
      unfold eplain
      rcases h with h | h
      · rw [if_pos h]; exact ⟨_, rfl⟩
      · have := h x List.mem_cons_self
        split
        · exact ⟨_, rfl⟩
        · first | exact ⟨_, rfl⟩ | (rw [if_pos this]; exact ⟨_, rfl⟩)
    obtain ⟨u, hu⟩ := h1
    have h2 := ih (h.imp id fun h y hy => h y (List.mem_cons_of_mem _ hy))
    rw [omap, hu]
    dsimp only
    cases hr : omap (eplain · s) l with
    | none => exact absurd hr h2
    | some r => simp
theorem wclose_one (n : Nat) : wclosest (n : Int) = wclosest ((max 1 n : Nat) : Int) := by
  by_cases h : n = 0
  · subst h; decide
  · rw [show max 1 n = n by omega]
def Fact.packed (l : List UInt8) : Fact := ⟨fun v w => ∃ b, v = .tuple #[b, .int .i64 0] ∧ IsB l b w, fun _ _ _ ⟨b, h1, h2⟩ hb => ⟨b, h1, h2.below hb⟩⟩
set_option maxHeartbeats 16000000 in
set_option maxRecDepth 100000 in
theorem pput_own (l : List Int) (v : Value) (Wi : Int) (s : Bool) (w : World) (ht : WTab w) (hv : IsV iv l v w) (hl : ∀ x ∈ l, inInt x) (hb : l.length ≤ 1000000) :
    Calls Tryz.prog 84 #[v, .int .i64 Wi, .bool s] w (RetEO w (pputE l Wi s)) := by
  obtain ⟨A, n, c, rfl⟩ := hv.shape
  have hn := hv.parts.1
  have HN := Lib.hid hn
  have HV := Lib.hid hv
  have HL := Lib.hid hl
  have HT := Lib.hid ht
  by_cases hc : 1 ≤ n ∧ n ≤ 512
  case neg =>
    have hE := Lib.hid (pputE_no (l := l) (W := Wi) (s := s) (by omega))
    have HC := Lib.hid (pcount_no (n : Int) w (by omega))
    clear hv hn hl hb ht hc
    go_enter Tryz.func84, Tryz.ntmps84
    go_wp2_with (go_at_call 119; refine HC.out.mono ?_; rintro e w' ⟨rfl, rfl⟩)
    go_ret2
    rw [hE.out]
    exact RetEO.nil _ (Below.refl _ _)
  case pos =>
  obtain ⟨hn1, hn5⟩ := hc
  have HC := Lib.hid (pcount_yes (n : Int) w (by omega) (by omega))
  have HI := Lib.hid (pisw_any Wi w ht)
  by_cases hwd : Wi < 64 ∧ 0 ≤ wcode Wi
  case neg =>
    have hE := Lib.hid (pputE_no (l := l) (W := Wi) (s := s) (by omega))
    rw [show (decide (Wi < 64) && decide (0 ≤ wcode Wi)) = false by simpa using hwd] at HI
    clear hv hn hl hb ht hwd
    go_enter Tryz.func84, Tryz.ntmps84
    go_wp2_with (first | (go_at_call 119; refine HC.out.mono ?_; rintro e w' ⟨rfl, rfl⟩) | (go_at_call 120; refine HI.out.mono ?_; rintro e w' ⟨rfl, rfl⟩))
    go_ret2
    rw [hE.out]
    exact RetEO.nil _ (Below.refl _ _)
  case pos =>
  rw [show (decide (Wi < 64) && decide (0 ≤ wcode Wi)) = true by simpa using hwd] at HI
  obtain ⟨W, rfl⟩ : ∃ W : Nat, Wi = (W : Int) := ⟨Wi.toNat, by have := wcode_range hwd.2; omega⟩
  have HMI := Lib.hid (min_any l _ w hv (by omega) hb)
  rw [lmin_pbase (by omega)] at HMI
  have hbi : inInt (pbase l) := hl _ (pbase_mem (by omega))
  have hW64 : W < 64 := by omega
  have HWC := Lib.hid (pcode_back hwd.2)
  have HW0 := Lib.hid hwd.2
  obtain ⟨base, hba⟩ : ∃ base, base = pbase l := ⟨_, rfl⟩
  by_cases hne : base = -9223372036854775808
  case pos =>
    have hE : Hid (pputE l (W : Int) s = ([], 1)) := Lib.hid (by
      unfold pputE
      split
      · rfl
      · split
        · rfl
        · rw [if_pos (.inl (by rw [← hba]; exact hne))])
    rw [← hba, hne] at HMI
    have HD := Lib.hid (fun X => digits_no X)
    clear hv hn hl hb ht hwd hbi hba hne
    go_enter Tryz.func84, Tryz.ntmps84
    go_wp2_with (first | (go_at_call 119; refine HC.out.mono ?_; rintro e w' ⟨rfl, rfl⟩) | (go_at_call 120; refine HI.out.mono ?_; rintro e w' ⟨rfl, rfl⟩) | (go_at_call 73; refine HMI.out.mono ?_; rintro e w' ⟨rfl, rfl⟩))
    refine (HD.out _).mono ?_
    rintro e w1 ⟨rfl, hb1⟩
    go_wp2
    go_ret2
    rw [hE.out]
    exact RetEO.nil _ hb1
  case neg =>
  have HD := Lib.hid (fun X => digits_yes base X (by rw [hba]; exact hbi) hne)
  have HBI := Lib.hid (show inInt base by rw [hba]; exact hbi)
  obtain ⟨hm1, hm8, _⟩ := pn_bd (psize_base HBI.out hne).2
  rw [← hba] at HMI
  by_cases hng : base < 0 ∧ s = false
  case pos =>
    obtain ⟨hng, rfl⟩ := hng
    have hE := Lib.hid (pputE_no (l := l) (W := (W : Int)) (s := false) (.inl (pplain_neg (by omega) (by rw [← hba]; exact hng))))
    have d1 : decide (base < 0) = true := decide_eq_true hng
    clear hv hn hl hb ht hwd hbi hba hne hng
    go_enter Tryz.func84, Tryz.ntmps84
    go_wp2_with (first | (go_at_call 119; refine HC.out.mono ?_; rintro e w' ⟨rfl, rfl⟩) | (go_at_call 120; refine HI.out.mono ?_; rintro e w' ⟨rfl, rfl⟩) | (go_at_call 73; refine HMI.out.mono ?_; rintro e w' ⟨rfl, rfl⟩))
    refine (HD.out _).mono ?_
    rintro e w1 ⟨g1, rfl, hg1, hr1, hb1⟩
    go_wp2
    go_ret2
    rw [hE.out]
    exact RetEO.nil _ hb1
  case neg =>
  have HNE := Lib.hid hne
  have hcase : decide (base < 0) = false ∨ (decide (base < 0) = true ∧ s = true) := by
    by_cases h : base < 0
    · exact .inr ⟨decide_eq_true h, by cases s with | true => rfl | false => exact absurd ⟨h, rfl⟩ hng⟩
    · exact .inl (decide_eq_false h)
  have HPL := Lib.hid (show dplain l s ≠ none from pplain_some (by
    rcases hcase with h | ⟨_, h⟩
    · exact .inr fun x hx => by have h1 := pbase_le hx; rw [← hba] at h1; have h2 := of_decide_eq_false h; omega
    · exact .inl h))
  have HSZ := Lib.hid (fun X (h : IsV iv l (.slice A n c) X) => sizes_any base l _ X h HBI.out hl hb)
  rw [show omap (pone base) l = pups l by rw [hba]; rfl] at HSZ
  cases hu : pups l with
  | none =>
    have hE := Lib.hid (pputE_ups (W := (W : Int)) (s := s) hu)
    rw [hu] at HSZ
    clear hv hn hl hb ht hwd hbi hba hne hng hu
    rcases hcase with d1 | ⟨d1, rfl⟩
    all_goals
      go_enter Tryz.func84, Tryz.ntmps84
      go_wp2_with (first | (go_at_call 119; refine HC.out.mono ?_; rintro e w' ⟨rfl, rfl⟩) | (go_at_call 120; refine HI.out.mono ?_; rintro e w' ⟨rfl, rfl⟩) | (go_at_call 73; refine HMI.out.mono ?_; rintro e w' ⟨rfl, rfl⟩))
      refine (HD.out _).mono ?_
      rintro e w1 ⟨g1, rfl, hg1, hr1, hb1⟩
      have HB1 := Lib.hid hb1
      clear hr1
      go_wp2_with fail
      refine (HSZ.out _ (HV.out.below hb1)).mono ?_
      rintro e w2 ⟨rfl, hb2⟩
      go_wp2
      go_ret2
      rw [hE.out]
      exact RetEO.nil _ (below_then HB1.out hb2)
  | some us =>
  have HES := Lib.hid (pputE_some (s := s) HPL.out (by omega) (by omega) hwd.2 hW64 hu)
  have HUL := Lib.hid (show us.length = n by rw [pups_len hu]; exact hn)
  have H64 : Hid (∀ u ∈ us, u < 2 ^ 64) := Lib.hid fun u h => by have := pups_lt hl hu u h; show u < 18446744073709551616; omega
  rw [← hba] at HES
  rw [hu] at HSZ
  obtain ⟨g1', g8', p1', p64', pc, pcc, p31', _, hq⟩ := ppairs_ok (w := W) H64.out
  have hq2 := (ppw_ok (w := W) H64.out).2.2
  have hpl := pst_len W us us.length
  have hpl2 := pst_last W us us.length
  obtain ⟨ps, hps⟩ : ∃ ps, ps = ppairs W us := ⟨_, rfl⟩
  rw [show (pst W us us.length).1 = ps from hps.symm] at hpl
  rw [← hps] at g1' g8' p1' p64' pc pcc p31' hq hq2 HES
  have HCUT := Lib.hid (fun X g (h : Row X g 53 (us.map uv)) => cut_any us W g n X h HUL.out H64.out (by omega) (by omega))
  unfold CutPost at HCUT
  rw [← hps] at HCUT
  obtain ⟨t, htl⟩ : ∃ t, t = ps.length := ⟨_, rfl⟩
  have ht1030 : t ≤ 1030 := by have := HUL.out; omega
  obtain ⟨m, hm⟩ : ∃ m, m = pn base := ⟨_, rfl⟩
  have HSO := Lib.hid (fun X vg vp (h : WTab X) (h1 : IsV uv (ps.map (·.1)) vg X) (h2 : IsV uv (ps.map (·.2)) vp X) => shapeof_any (n : Int) (W : Int) (m : Int) vg vp ps X h h1 h2 (fun q h => Nat.lt_of_le_of_lt (hq2 q h).1 (by decide)) (fun q h => (hq2 q h).2) (by omega))
  rw [wclose_one, pc] at HSO
  obtain ⟨G, hG⟩ : ∃ G, G = pgw ps := ⟨_, rfl⟩
  obtain ⟨P, hP⟩ : ∃ P, P = ppw ps := ⟨_, rfl⟩
  rw [← hG] at g1' g8' HES HSO hq
  rw [← hP] at p1' p64' pcc p31' HES HSO hq
  rw [← htl] at HES HSO
  have HPC := Lib.hid pcc
  have HQ := Lib.hid hq
  have HTL := Lib.hid htl
  have HPS := Lib.hid hps
  have HGE := Lib.hid hG
  have HPE := Lib.hid hP
  have HME := Lib.hid hm
  unfold RetDg at HD
  rw [← hm] at hm1 hm8 HD
  unfold pairsV at HSO
  clear hv hn hl hb ht hwd hbi hba hne hng hu hpl hpl2 hq hq2 htl hps hG hP hm pc pcc
  rcases hcase with d1 | ⟨d1, rfl⟩
  all_goals
    go_enter Tryz.func84, Tryz.ntmps84
    go_wp2_with (first | (go_at_call 119; refine HC.out.mono ?_; rintro e w' ⟨rfl, rfl⟩) | (go_at_call 120; refine HI.out.mono ?_; rintro e w' ⟨rfl, rfl⟩) | (go_at_call 73; refine HMI.out.mono ?_; rintro e w' ⟨rfl, rfl⟩))
    refine (HD.out _).mono ?_
    rintro e w1 ⟨gd, rfl, hgd, hr1, hb1⟩
    have HB1 := Lib.hid hb1
    have HR1 := Lib.hid hr1
    have HV1 := Lib.hid (HV.out.below hb1)
    clear hr1 hb1
    go_wp2_with fail
    refine (HSZ.out _ HV1.out).mono ?_
    rintro e w2 ⟨g2, rfl, hg2, hr2, hb2⟩
    rw [HUL.out]
    have HB2 := Lib.hid (HB1.out.trans (hb2.mono HB1.out.size))
    have HR2 := Lib.hid hr2
    have HDL := Lib.hid (show gd < g2 from Nat.lt_of_lt_of_le HR1.out.lt hg2)
    have HD2 := Lib.hid (HR1.out.below hb2 HR1.out.lt)
    have HG2 := Lib.hid (show w.heap.size ≤ g2 from Nat.le_trans HB1.out.size hg2)
    clear hr2 hb2
    go_wp2_with fail
    refine (HCUT.out _ _ HR2.out).mono ?_
    rintro e w3 ⟨u3, v3, rfl, hu3, hv3, hr3, hb3⟩
    obtain ⟨Ag, t1, cg, rfl⟩ := hu3.shape
    obtain ⟨Ap, t2, cp, rfl⟩ := hv3.shape
    obtain rfl : t = t1 := by have := hu3.parts.1; rw [List.length_map] at this; have := HTL.out; omega
    obtain rfl : t = t2 := by have := hv3.parts.1; rw [List.length_map] at this; have := HTL.out; omega
    have HB3 := Lib.hid (HB2.out.trans (hb3.mono HG2.out))
    have HD3 := Lib.hid (HD2.out.below hb3 HDL.out)
    have HS3 := Lib.hid hr3
    have HT3 := Lib.hid (HT.out.below HB3.out HT.out.lt)
    have HU3 := Lib.hid hu3
    have HV3 := Lib.hid hv3
    clear hr3 hu3 hv3 hb3
    obtain ⟨pb, hpb⟩ : ∃ pb, pb = w3.heap.size := ⟨_, rfl⟩
    obtain ⟨w4, hw4⟩ : ∃ w4, w4 = w3.alloc (.cells #[.slice Ag t cg, .slice Ap t cp] 133) := ⟨_, rfl⟩
    have hb4 : Below w3.heap.size w3 w4 := by rw [hw4]; exact (Below.refl _ _).alloc (Nat.le_refl _) _
    have hrp4 : Row w4 pb 133 [.slice Ag t cg, .slice Ap t cp] := by rw [hw4, hpb]; exact heap_alloc_new w3 _
    unfold pairsV
    have hset4 := hw4.symm
    have HB4 := Lib.hid (HB3.out.trans (hb4.mono HB3.out.size))
    have HD4 := Lib.hid (HD3.out.below hb4 HD3.out.lt)
    have HS4 := Lib.hid (HS3.out.below hb4 HS3.out.lt)
    have HU4 := Lib.hid (HU3.out.below hb4)
    have HV4 := Lib.hid (HV3.out.below hb4)
    have HRP4 := Lib.hid hrp4
    have hp0 : w4.cell? ⟨w3.heap.size, 0, none⟩ = some (.slice Ag t cg) := by rw [← hpb]; exact hrp4.cell 0
    have hp1 : w4.cell? ⟨w3.heap.size, 1, none⟩ = some (.slice Ap t cp) := by rw [← hpb]; exact hrp4.cell 1
    have HPB := Lib.hid hpb
    clear hb4 hrp4 hw4 hpb
    go_wp2_with fail
    refine (HSO.out w4 _ _ (HT.out.below HB4.out HT.out.lt) HU4.out HV4.out).mono ?_
    rintro e w5 ⟨rfl, hb5⟩
    rw [← HPB.out]
    clear hp0 hp1 hset4
    have HB5 := Lib.hid (HB4.out.trans (hb5.mono HB4.out.size))
    obtain ⟨sb, hsb⟩ : ∃ sb, sb = w5.heap.size := ⟨_, rfl⟩
    obtain ⟨w6, hw6⟩ : ∃ w6, w6 = w5.alloc (.cells (shc (n : Int) (W : Int) (m : Int) (P : Int) (G : Int) (t : Int)).toArray 98) := ⟨_, rfl⟩
    have hb6 : Below w4.heap.size w4 w6 := by rw [hw6]; exact hb5.alloc hb5.size _
    have hrs6 : Row w6 sb 98 (shc (n : Int) (W : Int) (m : Int) (P : Int) (G : Int) (t : Int)) := by rw [hw6, hsb]; exact heap_alloc_new w5 _
    have hset6 := hw6.symm
    unfold shc at hset6
    have HB6 := Lib.hid (HB4.out.trans (hb6.mono HB4.out.size))
    have HD6 := Lib.hid (HD4.out.below hb6 HD4.out.lt)
    have HS6 := Lib.hid (HS4.out.below hb6 HS4.out.lt)
    have HU6 := Lib.hid (HU4.out.below hb6)
    have HV6 := Lib.hid (HV4.out.below hb6)
    have HRP6 := Lib.hid (HRP4.out.below hb6 HRP4.out.lt)
    have HRS6 := Lib.hid hrs6
    have hc0 : w6.cell? ⟨sb, 0, none⟩ = some (.int .i64 (n : Int)) := hrs6.cell 0
    have hc1 : w6.cell? ⟨sb, 1, none⟩ = some (.int .i64 (W : Int)) := hrs6.cell 1
    have hc2 : w6.cell? ⟨sb, 2, none⟩ = some (.int .i64 (m : Int)) := hrs6.cell 2
    have hc3 : w6.cell? ⟨sb, 3, none⟩ = some (.int .i64 (P : Int)) := hrs6.cell 3
    have hc4 : w6.cell? ⟨sb, 4, none⟩ = some (.int .i64 (G : Int)) := hrs6.cell 4
    have hc5 : w6.cell? ⟨sb, 5, none⟩ = some (.int .i64 (t : Int)) := hrs6.cell 5
    rw [hsb] at hc0 hc1 hc2 hc3 hc4 hc5
    have HSB := Lib.hid hsb
    unfold shv shc
    clear hb5 hb6 hrs6 hw6 hsb
    by_cases h31 : 31 < t
    case pos =>
      have hE : Hid (pputE l (W : Int) _ = ([], 1)) := Lib.hid (by rw [HES.out, if_pos (.inr (.inl h31))])
      have d5 : decide ((31 : Int) < (t : Int)) = true := decide_eq_true (by omega)
      go_wp2
      go_ret2
      rw [hE.out]
      exact RetEO.nil _ HB6.out
    case neg =>
    have d5 : decide ((31 : Int) < (t : Int)) = false := decide_eq_false (by omega)
    have HRM := Lib.hid (proom_any (n : Int) (W : Int) (m : Int) (P : Int) (G : Int) (t : Int) w6 ⟨by omega, by omega⟩ ⟨by omega, by omega⟩)
    unfold shv shc at HRM
    by_cases hgp : 64 < G + P
    case pos =>
      have hE : Hid (pputE l (W : Int) _ = ([], 1)) := Lib.hid (by rw [HES.out, if_pos (.inr (.inr (.inl hgp)))])
      rw [decide_eq_false (by omega : ¬ ((G : Int) + (P : Int) ≤ 64))] at HRM
      go_wp2_with fail
      refine HRM.out.mono ?_
      rintro e w7 ⟨rfl, hb7⟩
      go_wp2
      go_ret2
      rw [hE.out]
      exact RetEO.nil _ (below_then HB6.out hb7)
    case neg =>
    rw [decide_eq_true (by omega : (G : Int) + (P : Int) ≤ 64)] at HRM
    go_wp2_with fail
    refine HRM.out.mono ?_
    rintro e w7 ⟨rfl, hb7⟩
    rw [← HSB.out]
    have hrs7 := HRS6.out.below hb7 HRS6.out.lt
    clear hc0 hc1 hc2 hc3 hc4 hc5
    have hc1 : w7.cell? ⟨sb, 1, none⟩ = some (.int .i64 (W : Int)) := hrs7.cell 1
    have hc3 : w7.cell? ⟨sb, 3, none⟩ = some (.int .i64 (P : Int)) := hrs7.cell 3
    have HB7 := Lib.hid (HB6.out.trans (hb7.mono HB6.out.size))
    have HD7 := Lib.hid (HD6.out.below hb7 HD6.out.lt)
    have HS7 := Lib.hid (HS6.out.below hb7 HS6.out.lt)
    have HU7 := Lib.hid (HU6.out.below hb7)
    have HV7 := Lib.hid (HV6.out.below hb7)
    have HRP7 := Lib.hid (HRP6.out.below hb7 HRP6.out.lt)
    have HRS7 := Lib.hid hrs7
    clear hb7 hrs7
    have hWPi : IntKind.i64.wrap ((W : Int) + (P : Int)) = (W : Int) + (P : Int) := by rw [IntKind.wrap_i64]; omega
    by_cases hwp : 64 < W + P
    case pos =>
      have hE : Hid (pputE l (W : Int) _ = ([], 1)) := Lib.hid (by rw [HES.out, if_pos (.inr (.inr (.inr hwp)))])
      have d6 : decide ((64 : Int) < (W : Int) + (P : Int)) = true := decide_eq_true (by omega)
      go_wp2
      go_ret2
      rw [hE.out]
      exact RetEO.nil _ HB7.out
    case neg =>
    have d6 : decide ((64 : Int) < (W : Int) + (P : Int)) = false := decide_eq_false (by omega)
    have hE : Hid (pputE l (W : Int) _ = (play base us W, 0)) := Lib.hid (by rw [HES.out, if_neg (by rintro (h | h | h | h) <;> first | exact HNE.out h | omega)])
    obtain ⟨pk, hpk⟩ : ∃ pk, pk = bpack (plow us W) W := ⟨_, rfl⟩
    have hplen : (plow us W).length = n := by unfold plow; rw [List.length_map, HUL.out]
    have hplt : ∀ x ∈ plow us W, x < 2 ^ W := fun x hx => by
      obtain ⟨u, _, rfl⟩ := List.mem_map.1 hx
      exact Nat.mod_lt _ (Nat.two_pow_pos W)
    have HPK := Lib.hid (pack_isO (W : Int) (show IsU (plow us W) (.slice (some ⟨g2, 0, none⟩) n n) w7 from isV_row HS7.out hplen (by omega)) (by omega) (fun x hx => Nat.lt_of_lt_of_le (hplt x hx) (Nat.pow_le_pow_right (by omega) (by omega))))
    rw [packsAny_in _ _ (by omega), packs_ok hplt, ← hpk] at HPK
    have HPKE := Lib.hid hpk
    have HPLN := Lib.hid hplen
    clear hpk hplen hplt
    go_wp2_with fail
    refine HPK.out.mono ?_
    rintro e w8 ⟨v8, rfl, ho8, hb8⟩
    have HB8 := Lib.hid (HB7.out.trans (hb8.mono HB7.out.size))
    have HK8 := Lib.hid (isB_own ho8)
    have HD8 := Lib.hid (HD7.out.below hb8 HD7.out.lt)
    have HGA := Lib.hid (HU7.out.below hb8)
    have HPA := Lib.hid (HV7.out.below hb8)
    have HRP := Lib.hid (HRP7.out.below hb8 HRP7.out.lt)
    have HRS := Lib.hid (HRS7.out.below hb8 HRS7.out.lt)
    have HT8 := Lib.hid (HT.out.below HB8.out HT.out.lt)
    have HLS := Lib.hid HRS.out.lt
    have HC3 := Lib.hid (show w8.cell? ⟨sb, 3, none⟩ = some (.int .i64 (P : Int)) from HRS.out.cell 3)
    clear ho8 hb8 hc1 hc3
    obtain ⟨V, hV⟩ : ∃ V, V = (wclosest ((G + P : Nat) : Int)).toNat := ⟨_, rfl⟩
    obtain ⟨_, V64, VGP, _, _, VE, _⟩ := pclose (n := G + P) (by omega)
    rw [← hV] at V64 VGP VE
    obtain ⟨jn, hjn⟩ : ∃ jn, jn = pboth ps P := ⟨_, rfl⟩
    obtain ⟨pj, hpj⟩ : ∃ pj, pj = bpack jn V := ⟨_, rfl⟩
    have hjl : jn.length = t := by rw [hjn]; unfold pboth; rw [List.length_map, HTL.out]
    have hjlt : ∀ x ∈ jn, x < 2 ^ V := fun x hx => Nat.lt_of_lt_of_le (pboth_lt HQ.out x (by rw [← hjn]; exact hx)) (Nat.pow_le_pow_right (by omega) VGP)
    have HJN := Lib.hid (fun X (h1 : IsV uv (ps.map (·.1)) (.slice Ag t cg) X) (h2 : IsV uv (ps.map (·.2)) (.slice Ap t cp) X) => joined_any (.slice Ag t cg) (.slice Ap t cp) ps P X h1 h2 (fun q h => by
      have h3 : q.1 * 2 ^ P < 2 ^ G * 2 ^ P := Nat.mul_lt_mul_of_pos_right (HQ.out q h).1 (Nat.two_pow_pos P)
      rw [← Nat.pow_add] at h3
      exact Nat.lt_of_lt_of_le h3 (Nat.pow_le_pow_right (by omega) (by omega))) (fun q h => (HQ.out q h).2) (by omega) (by have := HTL.out; omega))
    rw [← hjn] at HJN
    have HPW := Lib.hid (fun X (h : WTab X) => ppair_any (n : Int) (W : Int) (m : Int) (P : Int) (G : Int) (t : Int) X h ⟨by omega, by omega⟩ ⟨by omega, by omega⟩)
    rw [show wclosest ((G : Int) + (P : Int)) = (V : Int) by rw [← VE]; congr 1] at HPW
    have HPJ := Lib.hid (fun u X (h : IsV uv jn u X) => pack_is (V : Int) (show IsU jn u X from h) (by omega) (fun x hx => Nat.lt_of_lt_of_le (hjlt x hx) (Nat.pow_le_pow_right (by omega) V64)))
    rw [packsAny_in _ _ V64, packs_ok hjlt, ← hpj] at HPJ
    have HPJE := Lib.hid hpj
    have HJNE := Lib.hid hjn
    have HVE := Lib.hid hV
    have HJL := Lib.hid hjl
    clear hV hjn hpj hjl hjlt VE
    go_wp2
    refine wp_region_list [.is (pairsV (.slice Ag t cg) (.slice Ap t cp)), .is (.pointer (some ⟨sb, 3, none⟩)), .is (.int .i64 (P : Int)), .vals uv jn, .is (shv (n : Int) (W : Int) (m : Int) (P : Int) (G : Int) (t : Int)), .is (.int .i64 (V : Int)), .packed pj, .packed pj, .bytes (pj), .is (.int .i64 0), .bytes (pj), .is (.int .i64 0)] [some 87, some 88, some 89, some 90, some 91, some 92, some 93, some 86, some 94, some 95, some 16, some 15] (by kernel_rfl) (by kernel_rfl) (by kernel_rfl) rfl ⟨?_, ?_, ?_, ?_, ?_, ?_, ?_, ?_, ?_, ?_, ?_, ?_, trivial⟩ ?_
    · intro ρ W1 hb1 H
      exact gives_load_row (cs := [.slice Ag t cg, .slice Ap t cp]) rfl (H.old 12 _ (by kernel_rfl) rfl) Tryz.underlying133 rfl pairs_size (HRP.out.below hb1 HRP.out.lt) ⟨rfl, Below.refl _ _⟩
    · intro ρ W1 hb1 H
      exact gives_field rfl (H.old 13 _ (by kernel_rfl) rfl) (fun W => shape_at3 W _) ⟨rfl, Below.refl _ _⟩
    · intro ρ W1 hb1 H
      exact gives_load rfl (H.new 88 1 (by kernel_rfl)) Tryz.underlying3 rfl ((hb1.cell HLS.out).trans HC3.out) ⟨rfl, Below.refl _ _⟩
    · intro ρ W1 hb1 H
      have e0 : ρ (.tmp 87) = pairsV (.slice Ag t cg) (.slice Ap t cp) := H.new 87 0 (by kernel_rfl)
      have e1 : ρ (.tmp 89) = .int .i64 (P : Int) := H.new 89 2 (by kernel_rfl)
      refine gives_call rfl (fun _ _ => by kernel_rfl) (H.func _) (args := #[pairsV (.slice Ag t cg) (.slice Ap t cp), .int .i64 (P : Int)]) (by simp [e0, e1]) ?_
      exact (HJN.out W1 (HGA.out.below hb1) (HPA.out.below hb1)).mono fun e w' ⟨v, h1, h2, h3⟩ => ⟨v, h1, h2, h3⟩
    · intro ρ W1 hb1 H
      exact gives_load_row (cs := shc (n : Int) (W : Int) (m : Int) (P : Int) (G : Int) (t : Int)) rfl (H.old 13 _ (by kernel_rfl) rfl) Tryz.underlying98 rfl shape_size (HRS.out.below hb1 HRS.out.lt) ⟨rfl, Below.refl _ _⟩
    · intro ρ W1 hb1 H
      have e0 : ρ (.tmp 91) = shv (n : Int) (W : Int) (m : Int) (P : Int) (G : Int) (t : Int) := H.new 91 4 (by kernel_rfl)
      refine gives_call rfl (fun _ _ => by kernel_rfl) (H.func _) (args := #[shv (n : Int) (W : Int) (m : Int) (P : Int) (G : Int) (t : Int)]) (by simp [e0]) ?_
      exact (HPW.out W1 (HT8.out.below hb1 HT8.out.lt)).mono fun e w' ⟨h1, h2⟩ => ⟨_, h1, rfl, h2⟩
    · intro ρ W1 hb1 H
      have e0 : IsV uv jn (ρ (.tmp 90)) W1 := H.new 90 3 (by kernel_rfl)
      have e1 : ρ (.tmp 92) = .int .i64 (V : Int) := H.new 92 5 (by kernel_rfl)
      refine gives_call rfl (fun _ _ => by kernel_rfl) (H.func _) (args := #[ρ (.tmp 90), .int .i64 (V : Int)]) (by simp [e1]) ?_
      exact (HPJ.out _ W1 e0).mono fun e w' ⟨v, h1, h2, h3⟩ => ⟨_, h1, ⟨v, rfl, h2⟩, h3⟩
    · intro ρ W1 hb1 H
      exact gives_move rfl rfl ⟨H.new 93 6 (by kernel_rfl), Below.refl _ _⟩
    · intro ρ W1 hb1 H
      have h86 : ∃ b, ρ (.tmp 86) = .tuple #[b, .int .i64 0] ∧ IsB pj b W1 := H.new 86 7 (by kernel_rfl)
      obtain ⟨b, h1, h2⟩ := h86
      exact gives_extract rfl h1 rfl ⟨h2, Below.refl _ _⟩
    · intro ρ W1 hb1 H
      have h86 : ∃ b, ρ (.tmp 86) = .tuple #[b, .int .i64 0] ∧ IsB pj b W1 := H.new 86 7 (by kernel_rfl)
      obtain ⟨b, h1, h2⟩ := h86
      exact gives_extract rfl h1 rfl ⟨rfl, Below.refl _ _⟩
    · intro ρ W1 hb1 H
      exact gives_assign rfl rfl ⟨H.new 94 8 (by kernel_rfl), Below.refl _ _⟩
    · intro ρ W1 hb1 H
      exact gives_assign rfl (H.new 95 9 (by kernel_rfl)) ⟨rfl, Below.refl _ _⟩
    · intro vs W1 hb1 hfs
      have f10 : IsB (pj) (vs 10) W1 := hfs 10 (by decide)
      have f11 : vs 11 = .int .i64 0 := hfs 11 (by decide)
      clear hfs
      simp only [putAll, Nat.zero_add, Nat.reduceAdd]
      generalize vs 0 = z0
      generalize vs 1 = z1
      generalize vs 2 = z2
      generalize vs 3 = z3
      generalize vs 4 = z4
      generalize vs 5 = z5
      generalize vs 6 = z6
      generalize vs 7 = z7
      generalize vs 8 = z8
      generalize vs 9 = z9
      generalize vs 10 = z10 at f10 ⊢
      simp only [f11, Act.put, List.setIfInBounds_toArray, List.set_cons_succ, List.set_cons_zero]
      clear f11
      have HBJ := Lib.hid f10
      have hrow9 := HRS.out.below hb1 HRS.out.lt
      have hc0 : W1.cell? ⟨sb, 0, none⟩ = some (.int .i64 (n : Int)) := hrow9.cell 0
      have hc1 : W1.cell? ⟨sb, 1, none⟩ = some (.int .i64 (W : Int)) := hrow9.cell 1
      have hc2 : W1.cell? ⟨sb, 2, none⟩ = some (.int .i64 (m : Int)) := hrow9.cell 2
      have hc3 : W1.cell? ⟨sb, 3, none⟩ = some (.int .i64 (P : Int)) := hrow9.cell 3
      have hc4 : W1.cell? ⟨sb, 4, none⟩ = some (.int .i64 (G : Int)) := hrow9.cell 4
      have hc5 : W1.cell? ⟨sb, 5, none⟩ = some (.int .i64 (t : Int)) := hrow9.cell 5
      have HB9 := Lib.hid (HB8.out.trans (hb1.mono HB8.out.size))
      have HD9 := Lib.hid (HD8.out.below hb1 HD8.out.lt)
      have HK9 := Lib.hid (HK8.out.below hb1)
      have HT9 := Lib.hid (HT8.out.below hb1 HT8.out.lt)
      clear hrow9 f10 hb1
      have HHE := Lib.hid (head_own n W m P G t W1 HT9.out hn1 hn5 HWC.out.2.2 HWC.out.2.1 hm1 hm8 HPC.out p31' g1' g8' (by omega))
      unfold shv shc at HHE
      go_wp2_with fail
      refine HHE.out.mono ?_
      rintro e w10 ⟨v10, rfl, ho10, hb10⟩
      have HB10 := Lib.hid (HB9.out.trans (hb10.mono HB9.out.size))
      have HH10 := Lib.hid (isB_own ho10)
      have HD10 := Lib.hid (HD9.out.below hb10 HD9.out.lt)
      have HK10 := Lib.hid (HK9.out.below hb10)
      have HJ10 := Lib.hid (HBJ.out.below hb10)
      clear ho10 hb10 hc0 hc1 hc2 hc3 hc4 hc5
      obtain ⟨hd, hhd⟩ : ∃ hd, hd = dheadN 2 (pcode W) n ++ [UInt8.ofNat (32 * (m - 1) + pcode P), UInt8.ofNat (32 * (G - 1) + t)] := ⟨_, rfl⟩
      rw [← hhd] at HH10
      have HHL := Lib.hid (show hd.length = 4 by rw [hhd, List.length_append, dheadN_len]; rfl)
      have HHD := Lib.hid hhd
      clear hhd
      obtain ⟨A10, n10, c10, h10⟩ := (isB_iff.1 HH10.out).shape
      obtain ⟨A8, n8, c8, h8⟩ := (isB_iff.1 HK10.out).shape
      obtain ⟨Az, nz, cz, hz⟩ := (isB_iff.1 HJ10.out).shape
      subst h10 h8 hz
      obtain ⟨xs, hxs⟩ : ∃ xs : List (Value × List UInt8), xs = [(.slice A10 n10 c10, hd), (.slice (some ⟨gd, 0, none⟩) m m, pbased base), (.slice A8 n8 c8, pk), (.slice Az nz cz, pj)] := ⟨_, rfl⟩
      obtain ⟨w11, hw11⟩ : ∃ w11, w11 = w10.alloc (.cells #[.slice A10 n10 c10, .slice (some ⟨gd, 0, none⟩) m m, .slice A8 n8 c8, .slice Az nz cz] 25) := ⟨_, rfl⟩
      have hb11 : Below w10.heap.size w10 w11 := by rw [hw11]; exact (Below.refl _ _).alloc (Nat.le_refl _) _
      have hpkl : pk.length ≤ 5000 := by
        rw [HPKE.out, bpack_len]
        unfold bsize
        rw [HPLN.out]
        have : n * W ≤ 512 * 64 := Nat.mul_le_mul hn5 (by omega)
        omega
      have hpjl : pj.length ≤ 5000 := by
        rw [HPJE.out, bpack_len]
        unfold bsize
        rw [HJL.out]
        have : t * V ≤ 31 * 64 := Nat.mul_le_mul (by omega) V64
        omega
      have hdl : (pbased base).length = m := by rw [pbased_len, HME.out]
      have HCC := Lib.hid (concat_own xs (.slice (some ⟨w10.heap.size, 0, none⟩) 4 4) w11 (by rw [hw11, hxs]; exact isV_new (fun x : Value × List UInt8 => x.1) w10 25 _ 4 rfl (by omega)) (by
        intro x hx
        rw [hxs] at hx
        simp only [List.mem_cons, List.not_mem_nil, or_false] at hx
        rcases hx with h | h | h | h <;> subst h
        · exact HH10.out.below hb11
        · exact (isB_row HD10.out hdl (by omega)).below hb11
        · exact HK10.out.below hb11
        · exact HJ10.out.below hb11) (by rw [hxs]; simp) (by rw [hxs]; simp only [List.flatMap_cons, List.flatMap_nil, List.length_append, List.length_nil]; have := HHL.out; omega))
      have HPLAY := Lib.hid (show xs.flatMap (·.2) = play base us W by
        rw [hxs]
        simp only [List.flatMap_cons, List.flatMap_nil, List.append_nil]
        unfold play pheadb
        rw [← HPS.out, ← HPE.out, ← HGE.out, ← HME.out, ← HTL.out, HUL.out, ← HVE.out, ← HJNE.out, ← HPJE.out, ← HPKE.out, HHD.out]
        simp only [List.append_assoc])
      rw [HPLAY.out] at HCC
      have HB11 := Lib.hid (HB10.out.trans (hb11.mono HB10.out.size))
      have HW11 := Lib.hid hw11
      clear hxs hpkl hpjl hdl hb11 hw11
      go_wp2_with fail
      rw [← HW11.out]
      refine HCC.out.mono ?_
      rintro e w12 ⟨v12, rfl, ho12, hb12⟩
      have HO12 := Lib.hid ho12
      have HB12 := Lib.hid (below_then HB11.out hb12)
      clear ho12 hb12
      go_wp2
      go_ret2
      rw [hE.out]
      exact ⟨_, rfl, own_base HB11.out.size HO12.out, HB12.out⟩
      
end Go.Proofs.YtnbiopihcbnkpaaGreatDoor

/- patched's own contracts: Take; Put. Written by gen_pis.py. -/



namespace Go.Proofs.YtnbiopihcbnkpaaGreatDoor

open Go.RowKit

def Fact.ownU (w0 : World) (us : List Nat) : Fact := ⟨fun v w => w.ownsRow w0.heap.size 53 1 v us.length (us.map uv), fun _ _ _ h hb => own_below h hb⟩
def Fact.takenO (w0 : World) (us : List Nat) (q : List UInt8) (y : Int) : Fact := ⟨fun v w => ∃ u r, v = .tuple #[u, r, .int .i64 y] ∧ w.ownsRow w0.heap.size 53 1 u us.length (us.map uv) ∧ OwnB w0 q r w, fun _ _ _ ⟨u, r, h1, h2, h3⟩ hb => ⟨u, r, h1, own_below h2 hb, h3.below hb⟩⟩
theorem pput_any (l : List Int) (v : Value) (W : Int) (s : Bool) (w : World) (ht : WTab w) (hv : IsV iv l v w) (hl : ∀ x ∈ l, inInt x) (hb : l.length ≤ 1000000) (_hW : inInt W) : Calls Tryz.prog 84 #[v, .int .i64 W, .bool s] w (RetE w (pputE l W s)) :=
  (pput_own l v W s w ht hv hl hb).mono fun _ _ h => h.e
set_option maxHeartbeats 16000000 in
set_option maxRecDepth 100000 in
theorem ptake_own (l : List UInt8) (v : Value) (s : Bool) (w : World) (ht : WTab w) (hv : IsB l v w) (hb : l.length ≤ 1000000) :
    Calls Tryz.prog 39 #[v, .bool s] w (RetIO w (ptakeE l s)) := by
  by_cases hbad : (dlook l).2.2.2.2 ≠ 0 ∨ (dlook l).1 ≠ 2 ∨ (dlook l).2.2.2.1.length < 2
  case pos =>
    have HLN := Lib.hid (look_no l v w hv hb hbad)
    have hE : Hid (ptakeE l s = ([], [], 2)) := Lib.hid (by
      by_cases h : (dlook l).2.2.2.2 ≠ 0 ∨ (dlook l).1 ≠ 2
      · exact ptakeE_head h
      · have h1 : (dlook l).2.2.2.2 = 0 := Classical.byContradiction fun k => h (.inl k)
        have h2 : (dlook l).1 = 2 := Classical.byContradiction fun k => h (.inr k)
        have h3 : (dlook l).2.2.2.1.length < 2 := hbad.elim (fun k => absurd h1 k) (fun k => k.elim (fun k => absurd h2 k) id)
        obtain ⟨K, C, M, r, x, hd⟩ : ∃ K C M r x, dlook l = (K, C, M, r, x) := ⟨_, _, _, _, _, rfl⟩
        rw [hd] at h1 h2 h3
        dsimp only at h1 h2 h3
        subst h1 h2
        rw [ptakeE_in hd, pbody_short h3])
    obtain ⟨A0, c0, rfl, _⟩ := hv
    unfold shv shc at HLN
    clear hbad
    go_enter Tryz.func39, Tryz.ntmps39
    go_wp2_with fail
    refine HLN.out.mono ?_
    rintro e w1 ⟨rfl, hb1⟩
    go_wp2
    go_ret3
    rw [hE.out]
    exact RetIO.nil _ (hb1.alloc hb1.size _)
  case neg =>
  obtain ⟨hx0, hK2, hr2⟩ : (dlook l).2.2.2.2 = 0 ∧ (dlook l).1 = 2 ∧ 2 ≤ (dlook l).2.2.2.1.length :=
    ⟨Classical.byContradiction fun k => hbad (.inl k), Classical.byContradiction fun k => hbad (.inr (.inl k)), Nat.not_lt.1 fun k => hbad (.inr (.inr k))⟩
  rcases dlook_or l with ⟨_, hd⟩ | ⟨_, K, C, m, _, hC, hm1, hm5, hd⟩
  · rw [hd] at hx0; cases hx0
  rw [hd] at hK2 hr2
  dsimp only at hK2 hr2
  obtain ⟨r, hr⟩ : ∃ r, r = l.drop 2 := ⟨_, rfl⟩
  rw [← hr] at hd hr2
  rw [hK2] at hd
  have hrl : r.length ≤ 1000000 := by rw [hr, List.length_drop]; omega
  obtain ⟨b0, hb0⟩ : ∃ b : Nat, b = r[0].toNat := ⟨_, rfl⟩
  obtain ⟨b1, hb1'⟩ : ∃ b : Nat, b = r[1].toNat := ⟨_, rfl⟩
  have hb08 : b0 < 256 := by rw [hb0]; exact UInt8.toNat_lt _
  have hb18 : b1 < 256 := by rw [hb1']; exact UInt8.toNat_lt _
  obtain ⟨n, hn⟩ : ∃ n, n = b0 / 32 + 1 := ⟨_, rfl⟩
  obtain ⟨g, hg⟩ : ∃ g, g = b1 / 32 + 1 := ⟨_, rfl⟩
  obtain ⟨t, htt⟩ : ∃ t, t = b1 % 32 := ⟨_, rfl⟩
  obtain ⟨p, hp⟩ : ∃ p : Nat, wof ((b0 % 32 : Nat) : Int) = (p : Int) := ⟨(wof ((b0 % 32 : Nat) : Int)).toNat, by have := wof_bd ((b0 % 32 : Nat) : Int); omega⟩
  have hp64 : p ≤ 64 := by have := wof_bd ((b0 % 32 : Nat) : Int); omega
  obtain ⟨W, hW⟩ : ∃ W : Nat, wof (C : Int) = (W : Int) := ⟨(wof (C : Int)).toNat, by have := wof_bd (C : Int); omega⟩
  have hW64 : W ≤ 64 := by have := wof_bd (C : Int); omega
  have HLK := Lib.hid (look_yes l r v w (C : Int) (m : Int) b0 b1 n g t p ht hv hb hd hr2 hrl (by unfold inInt; omega) hb0 hb1' hn hg htt hp hp64)
  rw [hW] at HLK
  unfold LookPost at HLK
  obtain ⟨d, hdd⟩ : ∃ d, d = r.drop 2 := ⟨_, rfl⟩
  have HPB := Lib.hid (pbody_eq (s := s) (c := (C : Int)) (m := (m : Int)) hr2 hb0 hb1' hn hg htt hp hdd)
  have HE0 := Lib.hid (ptakeE_in (s := s) hd)
  rw [← hdd] at HLK
  have hd6 : d.length ≤ 1000000 := by rw [hdd, List.length_drop]; omega
  have HWC := Lib.hid hW
  have HT := Lib.hid ht
  have hn1 : 1 ≤ n := by omega
  have hn8 : n ≤ 8 := by omega
  have hg8 : g ≤ 8 := by omega
  have ht31 : t ≤ 31 := by omega
  obtain ⟨A0, c0, rfl, _⟩ := hv
  clear ht hbad hx0 hd hr hb0 hb1' hn hg htt hp hW hdd hrl hr2
  unfold shv shc at HLK
  obtain ⟨rm, hrm⟩ : ∃ rm, rm = decide ((g : Int) + (p : Int) ≤ 64) := ⟨_, rfl⟩
  rw [← hrm] at HLK
  by_cases hgp : 64 < g + p
  case pos =>
    have hE : Hid (ptakeE l s = ([], [], 2)) := Lib.hid (by rw [HE0.out, HPB.out, if_pos (.inl hgp)])
    obtain rfl : rm = false := by rw [hrm]; exact decide_eq_false (by omega)
    clear hrm
    go_enter Tryz.func39, Tryz.ntmps39
    go_wp2_with fail
    refine HLK.out.mono ?_
    rintro e w1 ⟨rv, rfl, hrv, hb1⟩
    obtain ⟨A1, n1, c1, rfl⟩ := (isB_iff.1 hrv).shape
    clear hrv
    go_wp2
    go_ret3
    rw [hE.out]
    exact RetIO.nil _ (hb1.alloc hb1.size _)
  case neg =>
  obtain rfl : rm = true := by rw [hrm]; exact decide_eq_true (by omega)
  clear hrm
  go_enter Tryz.func39, Tryz.ntmps39
  go_wp2_with fail
  refine HLK.out.mono ?_
  rintro e w1 ⟨rv, rfl, hrv, hb1⟩
  obtain ⟨A1, n1, c1, rfl⟩ := (isB_iff.1 hrv).shape
  have hn1d : d.length = n1 := (isB_iff.1 hrv).parts.1
  obtain ⟨sb, hsb⟩ : ∃ sb, sb = w1.heap.size := ⟨_, rfl⟩
  obtain ⟨w2, hw2⟩ : ∃ w2, w2 = w1.alloc (.cells (shc (m : Int) (W : Int) (n : Int) (p : Int) (g : Int) (t : Int)).toArray 98) := ⟨_, rfl⟩
  have hb2 : Below w1.heap.size w1 w2 := by rw [hw2]; exact (Below.refl _ _).alloc (Nat.le_refl _) _
  have hrs2 : Row w2 sb 98 (shc (m : Int) (W : Int) (n : Int) (p : Int) (g : Int) (t : Int)) := by rw [hw2, hsb]; exact heap_alloc_new w1 _
  have HB2 := Lib.hid (hb1.trans (hb2.mono hb1.size))
  have HR2 := Lib.hid (hrv.below hb2)
  have HRS2 := Lib.hid hrs2
  have HN1 := Lib.hid hn1d
  have hset2 := hw2.symm
  unfold shc at hset2
  have hc0 : w2.cell? ⟨sb, 0, none⟩ = some (.int .i64 (m : Int)) := hrs2.cell 0
  have hc1 : w2.cell? ⟨sb, 1, none⟩ = some (.int .i64 (W : Int)) := hrs2.cell 1
  have hc2 : w2.cell? ⟨sb, 2, none⟩ = some (.int .i64 (n : Int)) := hrs2.cell 2
  have hc3 : w2.cell? ⟨sb, 3, none⟩ = some (.int .i64 (p : Int)) := hrs2.cell 3
  have hc4 : w2.cell? ⟨sb, 4, none⟩ = some (.int .i64 (g : Int)) := hrs2.cell 4
  have hc5 : w2.cell? ⟨sb, 5, none⟩ = some (.int .i64 (t : Int)) := hrs2.cell 5
  rw [hsb] at hc0 hc1 hc2 hc3 hc4 hc5
  have HSB := Lib.hid hsb
  clear hrv hb1 hb2 hrs2 hw2 hn1d hsb
  by_cases hdn : n1 < n
  case pos =>
    have hE : Hid (ptakeE l s = ([], [], 2)) := Lib.hid (by rw [HE0.out, HPB.out, if_pos (.inr (by rw [HN1.out]; exact hdn))])
    have d1 : decide ((n1 : Int) < (n : Int)) = true := decide_eq_true (by omega)
    go_wp2
    go_ret3
    rw [hE.out]
    exact RetIO.nil _ HB2.out
  case neg =>
  have d1 : decide ((n1 : Int) < (n : Int)) = false := decide_eq_false (by omega)
  have HE1 := Lib.hid (show ptakeE l s = pbits s (pmade (d.take n)) (C : Int) (m : Int) g p t (d.drop n) by rw [HE0.out, HPB.out, if_neg (by have := HN1.out; omega)])
  obtain ⟨BA, hBA⟩ : ∃ BA, BA = pmade (d.take n) := ⟨_, rfl⟩
  have HNB := Lib.hid (number_any (d.take n) (.slice A1 n c1) w2 (isB_iff.2 ((isB_iff.1 HR2.out).take (by omega))) (by rw [List.length_take]; have := HN1.out; omega) (by rw [List.length_take]; omega))
  have HBI := Lib.hid (pmade_sign (x := d.take n) (by rw [List.length_take]; have := HN1.out; omega) (by rw [List.length_take]; omega) rfl rfl).2.1
  rw [← hBA] at HNB HE1 HBI
  clear hBA
  have hnc1 : n ≤ c1 := by have := (isB_iff.1 HR2.out).parts.2.2.1; omega
  have hci : (c1 : Int) ≤ 9223372036854775807 := by have := (isB_iff.1 HR2.out).parts.2.2.2.1; unfold maxLen at this; omega
  go_wp2_with fail
  refine HNB.out.mono ?_
  rintro e w3 ⟨rfl, hb3⟩
  rw [← HSB.out]
  have HB3 := Lib.hid (HB2.out.trans (hb3.mono HB2.out.size))
  have HRS := Lib.hid (HRS2.out.below hb3 HRS2.out.lt)
  have HLS := Lib.hid HRS.out.lt
  have HR3 := Lib.hid (HR2.out.below hb3)
  clear hb3 hc0 hc1 hc2 hc3 hc4 hc5 hset2
  obtain ⟨hp1, hp2, hp3, hp4, hp5⟩ := (isB_iff.1 HR3.out).parts
  obtain ⟨v3, hv3, hI3⟩ := from_named (P := Tryz.prog) (w := w3) elemB (k := n) (by omega) hp3 hp4 hp1 hp5 hp2
  have HI3 := Lib.hid hI3
  have HV3 := Lib.hid hv3
  clear hp1 hp2 hp3 hp4 hp5 hv3 hI3
  obtain ⟨us, q, e1, hu⟩ : ∃ us q y, unpacksAny (d.drop n) (m : Int) (W : Int) = (us, q, y) := ⟨_, _, _, rfl⟩
  have HUN := Lib.hid (fun X (h : IsB (d.drop n) v3 X) => unpack_isO (m : Int) (W : Int) h (by rw [List.length_drop]; omega))
  rw [hu] at HUN
  have hlt := (unpacksAny_lt (l := d.drop n) (M := (m : Int)) (W := (W : Int))).1
  rw [hu] at hlt
  dsimp only at hlt
  have HLT := Lib.hid hlt
  have HUE := Lib.hid hu
  clear hlt hu
  go_wp2
  refine wp_region_list [.is (.slice A1 n1 c1), .is (.pointer (some ⟨sb, 2, none⟩)), .is (.int .i64 (n : Int)), .is (v3), .is (.pointer (some ⟨sb, 0, none⟩)), .is (.int .i64 (m : Int)), .is (.pointer (some ⟨sb, 1, none⟩)), .is (.int .i64 (W : Int)), .takenO w3 us q e1, .takenO w3 us q e1, .ownU w3 us, .ownB w3 q, .is (.int .i64 e1), .ownU w3 us, .ownB w3 q, .is (.int .i64 e1)] [some 36, some 37, some 38, some 39, some 40, some 41, some 42, some 43, some 44, some 35, some 45, some 46, some 47, some 11, some 8, some 12] (by kernel_rfl) (by kernel_rfl) (by kernel_rfl) rfl ⟨?_, ?_, ?_, ?_, ?_, ?_, ?_, ?_, ?_, ?_, ?_, ?_, ?_, ?_, ?_, ?_, trivial⟩ ?_
  · intro ρ W1 hb1 H
    exact gives_move rfl (H.old 8 _ (by kernel_rfl) rfl) ⟨rfl, Below.refl _ _⟩
  · intro ρ W1 hb1 H
    exact gives_field rfl (H.old 7 _ (by kernel_rfl) rfl) (fun W => shape_at2 W _) ⟨rfl, Below.refl _ _⟩
  · intro ρ W1 hb1 H
    exact gives_load rfl (H.new 37 1 (by kernel_rfl)) Tryz.underlying3 rfl ((hb1.cell HLS.out).trans (HRS.out.cell 2)) ⟨rfl, Below.refl _ _⟩
  · intro ρ W1 hb1 H
    have e1 : ρ (.tmp 38) = .int .i64 (n : Int) := H.new 38 2 (by kernel_rfl)
    exact gives_slice rfl (H.new 36 0 (by kernel_rfl)) (by simp only [Option.map_some]; rw [e1]) rfl rfl (HV3.out W1) ⟨rfl, Below.refl _ _⟩
  · intro ρ W1 hb1 H
    exact gives_field rfl (H.old 7 _ (by kernel_rfl) rfl) (fun W => shape_at0 W _) ⟨rfl, Below.refl _ _⟩
  · intro ρ W1 hb1 H
    exact gives_load rfl (H.new 40 4 (by kernel_rfl)) Tryz.underlying3 rfl ((hb1.cell HLS.out).trans (HRS.out.cell 0)) ⟨rfl, Below.refl _ _⟩
  · intro ρ W1 hb1 H
    exact gives_field rfl (H.old 7 _ (by kernel_rfl) rfl) (fun W => shape_at1 W _) ⟨rfl, Below.refl _ _⟩
  · intro ρ W1 hb1 H
    exact gives_load rfl (H.new 42 6 (by kernel_rfl)) Tryz.underlying3 rfl ((hb1.cell HLS.out).trans (HRS.out.cell 1)) ⟨rfl, Below.refl _ _⟩
  · intro ρ W1 hb1 H
    have e0 : ρ (.tmp 39) = v3 := H.new 39 3 (by kernel_rfl)
    have e1 : ρ (.tmp 41) = .int .i64 (m : Int) := H.new 41 5 (by kernel_rfl)
    have e2 : ρ (.tmp 43) = .int .i64 (W : Int) := H.new 43 7 (by kernel_rfl)
    refine gives_call rfl (fun _ _ => by kernel_rfl) (H.func _) (args := #[v3, .int .i64 (m : Int), .int .i64 (W : Int)]) (by simp [e0, e1, e2]) ?_
    exact (HUN.out W1 (HI3.out.below hb1)).mono fun e w' ⟨u, r, h1, h2, h3, h4⟩ => ⟨_, h1, ⟨u, r, rfl, own_base hb1.size h2, OwnB.base hb1.size h3⟩, h4⟩
  · intro ρ W1 hb1 H
    exact gives_move rfl rfl ⟨H.new 44 8 (by kernel_rfl), Below.refl _ _⟩
  · intro ρ W1 hb1 H
    have h : ∃ u r, ρ (.tmp 35) = .tuple #[u, r, .int .i64 e1] ∧ W1.ownsRow w3.heap.size 53 1 u us.length (us.map uv) ∧ OwnB w3 q r W1 := H.new 35 9 (by kernel_rfl)
    obtain ⟨u, r, h1, h2, h3⟩ := h
    exact gives_extract rfl h1 rfl ⟨h2, Below.refl _ _⟩
  · intro ρ W1 hb1 H
    have h : ∃ u r, ρ (.tmp 35) = .tuple #[u, r, .int .i64 e1] ∧ W1.ownsRow w3.heap.size 53 1 u us.length (us.map uv) ∧ OwnB w3 q r W1 := H.new 35 9 (by kernel_rfl)
    obtain ⟨u, r, h1, h2, h3⟩ := h
    exact gives_extract rfl h1 rfl ⟨h3, Below.refl _ _⟩
  · intro ρ W1 hb1 H
    have h : ∃ u r, ρ (.tmp 35) = .tuple #[u, r, .int .i64 e1] ∧ W1.ownsRow w3.heap.size 53 1 u us.length (us.map uv) ∧ OwnB w3 q r W1 := H.new 35 9 (by kernel_rfl)
    obtain ⟨u, r, h1, h2, h3⟩ := h
    exact gives_extract rfl h1 rfl ⟨rfl, Below.refl _ _⟩
  · intro ρ W1 hb1 H
    exact gives_assign rfl rfl ⟨H.new 45 10 (by kernel_rfl), Below.refl _ _⟩
  · intro ρ W1 hb1 H
    exact gives_assign rfl rfl ⟨H.new 46 11 (by kernel_rfl), Below.refl _ _⟩
  · intro ρ W1 hb1 H
    exact gives_assign rfl (H.new 47 12 (by kernel_rfl)) ⟨rfl, Below.refl _ _⟩
  · intro vs W1 hb1 hfs
    have f13 : W1.ownsRow w3.heap.size 53 1 (vs 13) us.length (us.map uv) := hfs 13 (by decide)
    have f14 : OwnB w3 q (vs 14) W1 := hfs 14 (by decide)
    have f15 : vs 15 = .int .i64 e1 := hfs 15 (by decide)
    clear hfs
    simp only [putAll, Nat.zero_add, Nat.reduceAdd]
    generalize vs 0 = z0
    generalize vs 1 = z1
    generalize vs 2 = z2
    generalize vs 3 = z3
    generalize vs 4 = z4
    generalize vs 5 = z5
    generalize vs 6 = z6
    generalize vs 7 = z7
    generalize vs 8 = z8
    generalize vs 9 = z9
    generalize vs 10 = z10
    generalize vs 11 = z11
    generalize vs 12 = z12
    generalize vs 13 = z13 at f13 ⊢
    generalize vs 14 = z14 at f14 ⊢
    simp only [f15, Act.put, List.setIfInBounds_toArray, List.set_cons_succ, List.set_cons_zero]
    clear f15
    have HB4 := Lib.hid (HB3.out.trans (hb1.mono HB3.out.size))
    have hrs4 := HRS.out.below hb1 HRS.out.lt
    have HZ4 := Lib.hid hb1.size
    clear HRS HLS
    have HRS := Lib.hid hrs4
    have HLS := Lib.hid HRS.out.lt
    have HU4 := Lib.hid f13
    have HQ4' := Lib.hid f14
    have HQ4 := Lib.hid f14.isB
    clear f13 f14 hb1 hrs4
    by_cases he1 : e1 = 0
    case neg =>
      have hE : Hid (ptakeE l s = ([], [], 2)) := Lib.hid (by rw [HE1.out, pbits_cut (by rw [HWC.out]; exact HUE.out) he1])
      have d3 : (e1 != 0) = true := by simpa using he1
      obtain ⟨Aq, nq, cq, hq0⟩ := (isB_iff.1 HQ4.out).shape
      obtain ⟨Au, cu, hu0, _⟩ := own_shape HU4.out
      subst hq0 hu0
      go_wp2
      go_ret3
      rw [hE.out]
      exact RetIO.nil _ HB4.out
    case pos =>
    subst he1
    obtain ⟨hul, hql⟩ := unpacksAny_len HUE.out
    have hq6 : q.length ≤ 1000000 := by rw [List.length_drop] at hql; omega
    have HUL := Lib.hid hul
    have hu4 := HU4.out
    rw [hul] at hu4
    obtain ⟨g0, cu, hz13, hg0, hg4, hmc0, hc0m⟩ := own_block hu4 hm1
    subst hz13
    have HG4 := Lib.hid hg4
    have HG0 := Lib.hid (show w.heap.size ≤ g0 by have := HB3.out.size; omega)
    have HOW4 := Lib.hid hu4
    have HT4 := Lib.hid (HT.out.below HB4.out HT.out.lt)
    obtain ⟨V, hV⟩ : ∃ V : Nat, wclosest ((g + p : Nat) : Int) = (V : Int) := ⟨(wclosest ((g + p : Nat) : Int)).toNat, (pclose (by omega)).2.2.2.2.2.1⟩
    have HPW := Lib.hid (fun X (h : WTab X) => ppair_any (m : Int) (W : Int) (n : Int) (p : Int) (g : Int) (t : Int) X h ⟨by omega, by omega⟩ ⟨by omega, by omega⟩)
    rw [show wclosest ((g : Int) + (p : Int)) = (V : Int) by rw [← hV]; congr 1] at HPW
    have HVC := Lib.hid hV
    obtain ⟨bs, q2, e2, hv⟩ : ∃ us r y, unpacksAny q (t : Int) (V : Int) = (us, r, y) := ⟨_, _, _, rfl⟩
    have HUN2 := Lib.hid (fun u X (h : IsB q u X) => unpack_isO (t : Int) (V : Int) h hq6)
    rw [hv] at HUN2
    have hlt := (unpacksAny_lt (l := q) (M := (t : Int)) (W := (V : Int))).1
    rw [hv] at hlt
    dsimp only at hlt
    have HLT2 := Lib.hid hlt
    have HVE := Lib.hid hv
    generalize W1 = w4 at *
    clear hlt hv hV hul hql hu4 hg0 hg4 hc0m HU4
    obtain ⟨Aq, nq, cq, hq0⟩ := (isB_iff.1 HQ4.out).shape
    subst hq0
    go_wp2
    refine wp_region_list [.bytes (q), .is (.pointer (some ⟨sb, 5, none⟩)), .is (.int .i64 (t : Int)), .is (shv (m : Int) (W : Int) (n : Int) (p : Int) (g : Int) (t : Int)), .is (.int .i64 (V : Int)), .takenO w4 bs q2 e2, .takenO w4 bs q2 e2, .ownU w4 bs, .ownB w4 q2, .is (.int .i64 e2), .ownU w4 bs, .ownB w4 q2, .is (.int .i64 e2)] [some 51, some 52, some 53, some 54, some 55, some 56, some 50, some 57, some 58, some 59, some 13, some 8, some 12] (by kernel_rfl) (by kernel_rfl) (by kernel_rfl) rfl ⟨?_, ?_, ?_, ?_, ?_, ?_, ?_, ?_, ?_, ?_, ?_, ?_, ?_, trivial⟩ ?_
    · intro ρ W1 hb1 H
      exact gives_move rfl (H.old 8 _ (by kernel_rfl) rfl) ⟨HQ4.out.below hb1, Below.refl _ _⟩
    · intro ρ W1 hb1 H
      exact gives_field rfl (H.old 7 _ (by kernel_rfl) rfl) (fun W => shape_at5 W _) ⟨rfl, Below.refl _ _⟩
    · intro ρ W1 hb1 H
      exact gives_load rfl (H.new 52 1 (by kernel_rfl)) Tryz.underlying3 rfl ((hb1.cell HLS.out).trans (HRS.out.cell 5)) ⟨rfl, Below.refl _ _⟩
    · intro ρ W1 hb1 H
      exact gives_load_row (cs := shc (m : Int) (W : Int) (n : Int) (p : Int) (g : Int) (t : Int)) rfl (H.old 7 _ (by kernel_rfl) rfl) Tryz.underlying98 rfl shape_size (HRS.out.below hb1 HRS.out.lt) ⟨rfl, Below.refl _ _⟩
    · intro ρ W1 hb1 H
      have e0 : ρ (.tmp 54) = shv (m : Int) (W : Int) (n : Int) (p : Int) (g : Int) (t : Int) := H.new 54 3 (by kernel_rfl)
      refine gives_call rfl (fun _ _ => by kernel_rfl) (H.func _) (args := #[shv (m : Int) (W : Int) (n : Int) (p : Int) (g : Int) (t : Int)]) (by simp [e0]) ?_
      exact (HPW.out W1 (HT4.out.below hb1 HT4.out.lt)).mono fun e w' ⟨h1, h2⟩ => ⟨_, h1, rfl, h2⟩
    · intro ρ W1 hb1 H
      have e0 : IsB (q) (ρ (.tmp 51)) W1 := H.new 51 0 (by kernel_rfl)
      have e1 : ρ (.tmp 53) = .int .i64 (t : Int) := H.new 53 2 (by kernel_rfl)
      have e2 : ρ (.tmp 55) = .int .i64 (V : Int) := H.new 55 4 (by kernel_rfl)
      refine gives_call rfl (fun _ _ => by kernel_rfl) (H.func _) (args := #[ρ (.tmp 51), .int .i64 (t : Int), .int .i64 (V : Int)]) (by simp [e1, e2]) ?_
      exact (HUN2.out _ W1 e0).mono fun e w' ⟨u, r, h1, h2, h3, h4⟩ => ⟨_, h1, ⟨u, r, rfl, own_base hb1.size h2, OwnB.base hb1.size h3⟩, h4⟩
    · intro ρ W1 hb1 H
      exact gives_move rfl rfl ⟨H.new 56 5 (by kernel_rfl), Below.refl _ _⟩
    · intro ρ W1 hb1 H
      have h : ∃ u r, ρ (.tmp 50) = .tuple #[u, r, .int .i64 e2] ∧ W1.ownsRow w4.heap.size 53 1 u bs.length (bs.map uv) ∧ OwnB w4 q2 r W1 := H.new 50 6 (by kernel_rfl)
      obtain ⟨u, r, h1, h2, h3⟩ := h
      exact gives_extract rfl h1 rfl ⟨h2, Below.refl _ _⟩
    · intro ρ W1 hb1 H
      have h : ∃ u r, ρ (.tmp 50) = .tuple #[u, r, .int .i64 e2] ∧ W1.ownsRow w4.heap.size 53 1 u bs.length (bs.map uv) ∧ OwnB w4 q2 r W1 := H.new 50 6 (by kernel_rfl)
      obtain ⟨u, r, h1, h2, h3⟩ := h
      exact gives_extract rfl h1 rfl ⟨h3, Below.refl _ _⟩
    · intro ρ W1 hb1 H
      have h : ∃ u r, ρ (.tmp 50) = .tuple #[u, r, .int .i64 e2] ∧ W1.ownsRow w4.heap.size 53 1 u bs.length (bs.map uv) ∧ OwnB w4 q2 r W1 := H.new 50 6 (by kernel_rfl)
      obtain ⟨u, r, h1, h2, h3⟩ := h
      exact gives_extract rfl h1 rfl ⟨rfl, Below.refl _ _⟩
    · intro ρ W1 hb1 H
      exact gives_assign rfl rfl ⟨H.new 57 7 (by kernel_rfl), Below.refl _ _⟩
    · intro ρ W1 hb1 H
      exact gives_assign rfl rfl ⟨H.new 58 8 (by kernel_rfl), Below.refl _ _⟩
    · intro ρ W1 hb1 H
      exact gives_assign rfl (H.new 59 9 (by kernel_rfl)) ⟨rfl, Below.refl _ _⟩
    · intro vs W1 hb1 hfs
      have f10 : W1.ownsRow w4.heap.size 53 1 (vs 10) bs.length (bs.map uv) := hfs 10 (by decide)
      have f11 : OwnB w4 q2 (vs 11) W1 := hfs 11 (by decide)
      have f12 : vs 12 = .int .i64 e2 := hfs 12 (by decide)
      clear hfs
      simp only [putAll, Nat.zero_add, Nat.reduceAdd]
      generalize vs 0 = z0
      generalize vs 1 = z1
      generalize vs 2 = z2
      generalize vs 3 = z3
      generalize vs 4 = z4
      generalize vs 5 = z5
      generalize vs 6 = z6
      generalize vs 7 = z7
      generalize vs 8 = z8
      generalize vs 9 = z9
      generalize vs 10 = z10 at f10 ⊢
      generalize vs 11 = z11 at f11 ⊢
      simp only [f12, Act.put, List.setIfInBounds_toArray, List.set_cons_succ, List.set_cons_zero]
      clear f12
      have HB5 := Lib.hid (HB4.out.trans (hb1.mono HB4.out.size))
      have hrs5 := HRS.out.below hb1 HRS.out.lt
      have hc0 : W1.cell? ⟨sb, 0, none⟩ = some (.int .i64 (m : Int)) := hrs5.cell 0
      have hc1 : W1.cell? ⟨sb, 1, none⟩ = some (.int .i64 (W : Int)) := hrs5.cell 1
      have hc2 : W1.cell? ⟨sb, 2, none⟩ = some (.int .i64 (n : Int)) := hrs5.cell 2
      have hc3 : W1.cell? ⟨sb, 3, none⟩ = some (.int .i64 (p : Int)) := hrs5.cell 3
      have hc4 : W1.cell? ⟨sb, 4, none⟩ = some (.int .i64 (g : Int)) := hrs5.cell 4
      have hc5 : W1.cell? ⟨sb, 5, none⟩ = some (.int .i64 (t : Int)) := hrs5.cell 5
      have HV5 := Lib.hid f10
      have HQ5 := Lib.hid f11
      have HOW5 := Lib.hid (own_below HOW4.out hb1)
      have HGZ := Lib.hid (show g0 < W1.heap.size from Nat.lt_of_lt_of_le HG4.out hb1.size)
      have HBG := Lib.hid hb1
      clear f10 f11 hb1 hrs5
      obtain ⟨A6, n6, c6, hq6'⟩ := (isB_iff.1 HQ5.out.isB).shape
      obtain ⟨Av, cv, hv0, _⟩ := own_shape HV5.out
      subst hq6' hv0
      by_cases he2 : e2 = 0
      case neg =>
        have hE : Hid (ptakeE l s = ([], [], 2)) := Lib.hid (by rw [HE1.out, pbits_cut2 (by rw [HWC.out]; exact HUE.out) (by rw [HVC.out]; exact HVE.out) he2])
        have d4 : (e2 != 0) = true := by simpa using he2
        go_wp2
        go_ret3
        rw [hE.out]
        exact RetIO.nil _ HB5.out
      case pos =>
      subst he2
      have HVL := Lib.hid (unpacksAny_len HVE.out).1
      have HPA := Lib.hid (patch_any g0 m w3.heap.size w4.heap.size W cu p g (m : Int) (n : Int) (t : Int) us bs (.slice Av bs.length cv) W1 HOW5.out HGZ.out HV5.out HG4.out HUL.out HLT.out HLT2.out hm1 hm5 (by have := HVL.out; omega) hW64 hp64 hg8)
      unfold shv shc at HPA
      have HE2 := Lib.hid (show ptakeE l s = pend s BA W g p m us bs q2 by
        rw [HE1.out, pbits_in (by rw [HWC.out]; exact HUE.out) (by rw [HVC.out]; exact HVE.out), HWC.out]; rfl)
      cases hpa : pall W g p m (0, us) bs with
      | none =>
        have hE := Lib.hid (show ptakeE l s = ([], [], 2) by rw [HE2.out, pend_none hpa])
        rw [hpa] at HPA
        clear hpa
        go_wp2_with fail
        refine HPA.out.mono ?_
        rintro e w6 ⟨rfl, hg6⟩
        go_wp2
        go_ret3
        rw [hE.out]
        exact RetIO.nil _ (below_grownR HB5.out hg6 HG0.out HB5.out.size)
      | some st =>
        obtain ⟨a, low⟩ := st
        rw [hpa] at HPA
        have HE3 := Lib.hid (pend_some (s := s) (base := BA) (q := q2) hpa)
        clear hpa
        go_wp2_with fail
        refine HPA.out.mono ?_
        rintro e w6 ⟨rfl, ho6, hl6, hl64, hg6⟩
        have HB6 := Lib.hid (below_grownR HB5.out hg6 HG0.out HB5.out.size)
        have HQ6 : Hid (OwnB w q2 (.slice A6 n6 c6) w6) := Lib.hid (OwnB.base HB4.out.size (HQ5.out.elim fun _ h => ⟨_, h.kept hg6 (own_not h HG4.out)⟩))
        have HNF := Lib.hid (numbers_from BA low _ s w6 (isV_own (f := uv) ho6) HBI.out hl64 (by dsimp only at hl6; omega))
        clear ho6 hl6 hl64 hg6 hc0 hc1 hc2 hc3 hc4 hc5
        cases hom : omap (gnext s false BA) low with
        | none =>
          rw [hom] at HNF
          have hE := Lib.hid (show ptakeE l s = ([], [], 2) by rw [HE2.out, HE3.out, hom])
          go_wp2_with fail
          refine HNF.out.mono ?_
          rintro e w7 ⟨rfl, hb7⟩
          go_wp2
          go_ret3
          rw [hE.out]
          exact RetIO.nil _ (below_then HB6.out hb7)
        | some xs =>
          rw [hom] at HNF
          have hE := Lib.hid (show ptakeE l s = (xs, q2, 0) by rw [HE2.out, HE3.out, hom])
          go_wp2_with fail
          refine HNF.out.mono ?_
          rintro e w7 ⟨v7, rfl, hv7, hb7⟩
          have HV7 := Lib.hid hv7
          have HQ7 := Lib.hid (HQ6.out.below hb7)
          have HB7 := Lib.hid (below_then HB6.out hb7)
          clear hv7 hb7
          go_wp2
          go_ret3
          rw [hE.out]
          exact ⟨_, _, rfl, HV7.out, HQ7.out, HB7.out⟩
end Go.Proofs.YtnbiopihcbnkpaaGreatDoor

/- rle's own contracts: kinds, putRepeat, shortest with its two closures, putPatched, Run. Written by gen_ubest.py. -/













namespace Go.Proofs.YtnbiopihcbnkpaaGreatDoor

open Go.RowKit

section

variable {P : Program} {o : Oper} {ρ : Operand → Value} {w : World} {R : Value → World → Prop}
/-- A call of a Go function that a slot holds, by its contract. -/
theorem gives_callV {f : FuncId} {x : Operand} {xs : Array Operand} {ts : Array TypeId} {args : Array Value} (ho : o.op = .call { callee := .value x, args := xs, argTypes := ts })
    (hent : ∀ (args : Array Value) (w : World), (callFunc f args).run P w = .ok (.enter f args) w) (hf : ρ x = .func (.func f) #[] #[]) (ha : xs.map ρ = args)
    (h : Calls P f args w fun e w' => ∃ v, e = .returned v ∧ R v w') : Gives P o ρ w R := by
  have hr : (execOp ρ o).run P w = .ok (.enter f args) w := by
    simp [execOp, ho, resolve, hf, ha, Deferred.ofValue, invoke, hent]
  unfold Gives
  rw [hr]
  exact h
theorem gives_indexW {t e : TypeId} {bytes m : Nat} {zv : Value} (E : ElemW P t e bytes m zv) {x y : Operand} {ad : Addr} {n c k : Nat} (ho : o.op = .indexAddr t x y) (hx : ρ x = .slice (some ad) n c) (hy : ρ y = .int .i64 (k : Int)) (hk : k < n)
    (hR : R (.pointer (some (ad.add (k * m)))) w) : Gives P o ρ w R := by
  refine gives_of (v := .pointer (some (ad.add (k * m)))) (w' := w) ?_ hR
  have ht := E.under
  have hs := E.size_ w
  have h0 : (0 : Int) ≤ (k : Int) := by omega
  have h1 : (k : Int) < (n : Int) := by omega
  simp [execOp, ho, hx, hy, go_sem, ht, hs, h0, h1]
end
def Fact.putE (l : List UInt8) (x : Int) : Fact := ⟨fun v w => ∃ b, v = .tuple #[b, .int .i64 x] ∧ IsB l b w, fun _ _ _ ⟨b, h1, h2⟩ hb => ⟨b, h1, IsB.below h2 hb⟩⟩
/-- The kinds of runs: their bits, their Put, their Take. -/
def kcs : Nat → List Value
  | 0 => [.int .u8 0, .func (.func 32) #[] #[], .func (.func 33) #[] #[]]
  | 1 => [.int .u8 1, .func (.func 34) #[] #[], .func (.func 35) #[] #[]]
  | 2 => [.int .u8 3, .func (.func 36) #[] #[], .func (.func 37) #[] #[]]
  | _ => [.int .u8 2, .func (.func 38) #[] #[], .func (.func 39) #[] #[]]
def kcells : List Value := kcs 0 ++ (kcs 1 ++ (kcs 2 ++ kcs 3))
def kz : Value := .agg #[.int .u8 0, .nilFunc, .nilFunc]
theorem Tryz.infoK : (Tryz.prog.info? 41).map (fun i => (i.zero, i.size, i.bytes)) = some (some kz, 3, 24) := by kernel_rfl
theorem elemK : ElemW Tryz.prog 36 41 24 3 kz := by
  obtain ⟨i0, hi, hz0, hz1, hz2⟩ := info_parts Tryz.infoK
  exact ⟨Tryz.underlying36, rfl, by omega, i0, hi, hz0, hz1, hz2⟩
theorem kind_at1 (j : Nat) (W : World) (g : Nat) : (Instr.fieldAt 41 (.pointer (some ⟨g, j, none⟩)) 1).run Tryz.prog W = .ok (.pointer (some ⟨g, j + 1, none⟩)) W := by kernel_rfl
theorem uadd_zero (ad : Addr) : ad.add 0 = ad := by unfold Addr.add; split <;> simp_all
set_option maxRecDepth 100000 in
theorem kinds_any (w : World) : Calls Tryz.prog 18 #[] w fun e w' => e = .returned (.slice (some ⟨w.heap.size, 0, none⟩) 4 4) ∧ w' = w.alloc (.cells kcells.toArray 41) := by
  go_enter Tryz.func18, Tryz.ntmps18
  go_wp2
  go_ret
  exact ⟨rfl, rfl⟩
set_option maxHeartbeats 1000000 in
set_option maxRecDepth 100000 in
theorem uputrep_any (l : List Int) (v : Value) (s : Bool) (w : World) (hv : IsV iv l v w) (hl : ∀ x ∈ l, inInt x) (hb : l.length ≤ 1000000) :
    Calls Tryz.prog 32 #[v, .bool s] w (RetE w (urep l s)) := by
  obtain ⟨A, n, c, rfl⟩ := hv.shape
  have HN := Lib.hid hv.parts.1
  by_cases h0 : n = 0
  · subst h0
    have HE : Hid (urep l s = ([], 1)) := Lib.hid (by unfold urep; rw [if_pos (.inl HN.out)])
    clear hv hl hb
    go_enter Tryz.func32, Tryz.ntmps32
    go_wp2
    go_ret2
    rw [HE.out]
    exact RetE.nil _ (Below.refl _ _)
  · have hn6 : n ≤ 1000000 := by have := HN.out; omega
    have h0i : ((n : Int) == 0) = false := by simp; omega
    have hn0 : (0 : Int) < (n : Int) := by omega
    obtain ⟨u, hu⟩ : ∃ u, u = min (usame l) n := ⟨_, rfl⟩
    have HA := Lib.hid (ualike_any l _ n w hv hb hn6)
    rw [← hu] at HA
    have hun : u = usame l := by have := usame_le l; have := HN.out; omega
    by_cases hlt : u < n
    · have hlti : (u : Int) < (n : Int) := by omega
      have HE : Hid (urep l s = ([], 1)) := Lib.hid (by unfold urep; rw [if_pos (.inr (by rw [← hun, HN.out]; exact hlt))])
      clear hv hl hb hu hun h0
      go_enter Tryz.func32, Tryz.ntmps32
      go_wp2_with fail
      refine HA.out.mono ?_
      rintro e w1 ⟨rfl, hb1⟩
      have HB := Lib.hid hb1
      clear hb1
      go_wp2
      go_ret2
      rw [HE.out]
      exact RetE.nil _ HB.out
    · have hlti : ¬ (u : Int) < (n : Int) := by omega
      have hkl : 0 < l.length := by have := HN.out; omega
      obtain ⟨x0, hx0⟩ : ∃ x, x = l[0] := ⟨_, rfl⟩
      have HE : Hid (urep l s = eput x0 (n : Int) s) := Lib.hid (by
        unfold urep
        rw [if_neg (by rw [← hun, HN.out]; omega), HN.out, hx0]
        congr 1
        cases l with
        | nil => simp at hkl
        | cons y t => rfl)
      have HX := Lib.hid (hl x0 (by rw [hx0]; exact List.getElem_mem hkl))
      obtain ⟨ad, rfl, had, hcell⟩ := hv.at hkl
      have hc0 : w.cell? ad = some (.int .i64 x0) := by
        rw [← uadd_zero ad, hcell, hx0]; rfl
      have HC := Lib.hid hc0
      have HAD := Lib.hid had
      clear hv hl hb hu hun h0 hcell hc0 hx0 had hkl
      go_enter Tryz.func32, Tryz.ntmps32
      go_wp2_with fail
      refine HA.out.mono ?_
      rintro e w1 ⟨rfl, hb1⟩
      have HB := Lib.hid hb1
      have hc1 : w1.cell? ad = some (.int .i64 x0) := (hb1.cell HAD.out).trans HC.out
      clear hb1
      go_wp2_with fail
      refine (eput_any x0 (n : Int) s w1 HX.out.1 HX.out.2).mono ?_
      rintro e w2 ⟨v2, rfl, hv2, hb2⟩
      have HV2 := Lib.hid hv2
      have HB2 := Lib.hid (below_then HB.out hb2)
      clear hv2 hb2
      go_wp2
      go_ret2
      rw [HE.out]
      exact ⟨_, rfl, HV2.out, HB2.out⟩
set_option maxHeartbeats 2000000 in
set_option maxRecDepth 100000 in
theorem uppat1_any (k : Nat) (hk : k < 31) (b1 b2 : Nat) (l : List Int) (v : Value) (s : Bool) (w : World) (ht : WTab w) (hv : IsV iv l v w) (hl : ∀ x ∈ l, inInt x) (hb : l.length ≤ 1000000) (h1 : Row w b1 22 [v]) (h2 : Row w b2 4 [.bool s]) :
    Calls Tryz.prog 83 #[.int .i64 (k : Int), .pointer (some ⟨b1, 0, none⟩), .pointer (some ⟨b2, 0, none⟩)] w (RetE w (pputE l (wof (k : Int)) s)) := by
  have HT := Lib.hid ht
  have HV := Lib.hid hv
  obtain ⟨K, hK⟩ := wof_nat k
  have hK64 := wof_bd (k : Int)
  rw [hK] at hK64 ⊢
  have HOF := Lib.hid (fun W (h : WTab W) => of_any (k : Int) W h (by omega) (by omega))
  rw [hK] at HOF
  have HP := Lib.hid (fun W (h : IsV iv l v W) (ht : WTab W) => pput_any l v (K : Int) s W ht h hl hb (by unfold inInt; omega))
  have HC1 := Lib.hid (show w.cell? ⟨b1, 0, none⟩ = some v from h1.cell 0)
  have HC2 := Lib.hid (show w.cell? ⟨b2, 0, none⟩ = some (.bool s) from h2.cell 0)
  have HL1 := Lib.hid h1.lt
  have HL2 := Lib.hid h2.lt
  obtain ⟨pl, px, hE⟩ : ∃ pl px, pputE l (K : Int) s = (pl, px) := ⟨_, _, rfl⟩
  rw [hE] at HP
  have HE := Lib.hid hE
  clear ht hv hl hb h1 h2 hE hK hK64
  go_enter Tryz.func83, Tryz.ntmps83
  go_wp2_with fail
  refine wp_region_list [.is (v), .is (.int .i64 (k : Int)), .is (.int .i64 (K : Int)), .is (.bool s), .putE (pl) (px), .bytes (pl), .is (.int .i64 px), .bytes (pl), .is (.int .i64 px)] [some 6, some 7, some 8, some 9, some 10, some 11, some 12, some 4, some 5] (by kernel_rfl) (by kernel_rfl) (by kernel_rfl) rfl ⟨?_, ?_, ?_, ?_, ?_, ?_, ?_, ?_, ?_, trivial⟩ ?_
  · intro ρ W1 hb1 H
    exact gives_load rfl (H.old 1 _ (by kernel_rfl) rfl) Tryz.underlying22 rfl ((hb1.cell HL1.out).trans HC1.out) ⟨rfl, Below.refl _ _⟩
  · intro ρ W1 hb1 H
    exact gives_move rfl (H.old 0 _ (by kernel_rfl) rfl) ⟨rfl, Below.refl _ _⟩
  · intro ρ W1 hb1 H
    have e0 : ρ (.tmp 7) = .int .i64 (k : Int) := H.new 7 1 (by kernel_rfl)
    refine gives_call rfl (fun _ _ => by kernel_rfl) (H.func _) (args := #[.int .i64 (k : Int)]) (by simp [e0]) ?_
    exact (HOF.out W1 (HT.out.below hb1 HT.out.lt)).mono fun e w' ⟨h1, h2⟩ => ⟨_, h1, rfl, h2 ▸ Below.refl _ _⟩
  · intro ρ W1 hb1 H
    exact gives_load rfl (H.old 2 _ (by kernel_rfl) rfl) Tryz.underlying4 rfl ((hb1.cell HL2.out).trans HC2.out) ⟨rfl, Below.refl _ _⟩
  · intro ρ W1 hb1 H
    have e0 : ρ (.tmp 6) = v := H.new 6 0 (by kernel_rfl)
    have e1 : ρ (.tmp 8) = .int .i64 (K : Int) := H.new 8 2 (by kernel_rfl)
    have e2 : ρ (.tmp 9) = .bool s := H.new 9 3 (by kernel_rfl)
    refine gives_call rfl (fun _ _ => by kernel_rfl) (H.func _) (args := #[v, .int .i64 (K : Int), .bool s]) (by simp [e0, e1, e2]) ?_
    exact (HP.out W1 (HV.out.below hb1) (HT.out.below hb1 HT.out.lt)).mono fun e w' ⟨b, h1, h2, h3⟩ => ⟨_, h1, ⟨b, rfl, h2⟩, h3⟩
  · intro ρ W1 hb1 H
    obtain ⟨b, h1, h2⟩ := (show ∃ b, ρ (.tmp 10) = .tuple #[b, .int .i64 px] ∧ IsB pl b W1 from H.new 10 4 (by kernel_rfl))
    exact gives_extract rfl h1 rfl ⟨h2, Below.refl _ _⟩
  · intro ρ W1 hb1 H
    obtain ⟨b, h1, h2⟩ := (show ∃ b, ρ (.tmp 10) = .tuple #[b, .int .i64 px] ∧ IsB pl b W1 from H.new 10 4 (by kernel_rfl))
    exact gives_extract rfl h1 rfl ⟨rfl, Below.refl _ _⟩
  · intro ρ W1 hb1 H
    exact gives_assign rfl rfl ⟨H.new 11 5 (by kernel_rfl), Below.refl _ _⟩
  · intro ρ W1 hb1 H
    exact gives_assign rfl (H.new 12 6 (by kernel_rfl)) ⟨rfl, Below.refl _ _⟩
  · intro vs W1 hb1 hfs
    have f7 : IsB (pl) (vs 7) W1 := hfs 7 (by decide)
    have f8 : vs 8 = .int .i64 px := hfs 8 (by decide)
    clear hfs
    simp only [putAll, Nat.zero_add, Nat.reduceAdd]
    generalize vs 0 = z0
    generalize vs 1 = z1
    generalize vs 2 = z2
    generalize vs 3 = z3
    generalize vs 4 = z4
    generalize vs 5 = z5
    generalize vs 6 = z6
    generalize vs 7 = z7 at f7 ⊢
    simp only [f8, Act.put, List.setIfInBounds_toArray, List.set_cons_succ, List.set_cons_zero]
    clear f8
    have HB := Lib.hid f7
    have HW := Lib.hid hb1
    clear f7 hb1
    go_wp2
    go_ret2
    rw [HE.out]
    exact ⟨_, rfl, HB.out, HW.out⟩
theorem unil_eq (W : World) : (binOp .eql 25 (.slice none 0 0) (.slice none 0 0)).run Tryz.prog W = .ok (.bool true) W := Lib.run_eql_slice_nil W _ _ none 0 0 0 0 Tryz.underlying25
theorem unil_ne (ad : Addr) (n c : Nat) (W : World) : (binOp .eql 25 (.slice (some ad) n c) (.slice none 0 0)).run Tryz.prog W = .ok (.bool false) W := Lib.run_eql_slice_nil W _ _ (some ad) n c 0 0 Tryz.underlying25
/-- What best holds. -/
def UBest (o : Option (List UInt8)) (v : Value) (w : World) : Prop := match o with | none => v = .slice none 0 0 | some a => IsB a v w ∧ 1 ≤ a.length
def UBRel (F : Nat → List UInt8 × Int) (N : Nat) (w : World) (b i : Value) (wr : World) : Prop := ∃ k : Nat, k ≤ N ∧ i = .int .i64 (k : Int) ∧ UBest (((List.range k).map F).foldl ubest none) b wr ∧ Below w.heap.size w wr
set_option maxHeartbeats 4000000 in
set_option maxRecDepth 100000 in
theorem ushortest_pat (N : Nat) (F : Nat → List UInt8 × Int) (p1 p2 : Nat) (w : World) (hN : N ≤ 1000) (hf : ∀ (k : Nat) (W : World), k < N → Below w.heap.size w W → Calls Tryz.prog 83 #[.int .i64 (k : Int), .pointer (some ⟨p1, 0, none⟩), .pointer (some ⟨p2, 0, none⟩)] W (RetE W (F k)))
    (hlen : ∀ k, k < N → (F k).2 = 0 → 1 ≤ (F k).1.length) :
    Calls Tryz.prog 19 #[.int .i64 (N : Int), .func (.func 83) #[] #[.pointer (some ⟨p1, 0, none⟩), .pointer (some ⟨p2, 0, none⟩)]] w (RetE w (uans (((List.range N).map F).foldl ubest none))) := by
  have HF := Lib.hid hf
  have HLEN := Lib.hid hlen
  have HS : Hid (UBRel F N w (.slice none 0 0) (.int .i64 0) w) := Lib.hid ⟨0, Nat.zero_le _, rfl, rfl, Below.refl _ _⟩
  clear hf hlen
  go_enter Tryz.func19, Tryz.ntmps19
  go_wp2
  go_loopw [6, 11] (UBRel F N w) (fun _ i _ => N - (intOf i).toNat)
  case atStart => exact HS.out
  case round =>
    obtain ⟨k, hk, rfl, hbest, hbw⟩ := hrel
    clear HS
    have HBW := Lib.hid hbw
    have HFS := Lib.hid (show ((List.range (k + 1)).map F).foldl ubest none = ubest (((List.range k).map F).foldl ubest none) (F k) by
      rw [List.range_succ, List.map_append, List.foldl_append]; rfl)
    obtain ⟨o, ho⟩ : ∃ o, o = ((List.range k).map F).foldl ubest none := ⟨_, rfl⟩
    rw [← ho] at hbest HFS
    have HO := Lib.hid ho
    clear hbw ho
    by_cases hlt : k < N
    · have hlti : (k : Int) < (N : Int) := by omega
      have HFK := Lib.hid (HF.out k wr hlt HBW.out)
      have HLK := Lib.hid (HLEN.out k hlt)
      obtain ⟨fl, fx, hfk⟩ : ∃ fl fx, F k = (fl, fx) := ⟨_, _, rfl⟩
      rw [hfk] at HFK HFS HLK
      clear hfk
      rcases o with _ | a
      · obtain rfl : _ = Value.slice none 0 0 := hbest
        have hnil := unil_eq
        by_cases hx : fx = 0
        · subst hx
          go_wp2_with (go_at_call 83; refine HFK.out.mono ?_; rintro e w2 ⟨v2, rfl, hv2, hb2⟩; have HV2 := Lib.hid hv2; have HB2 := Lib.hid (below_then HBW.out hb2); clear hv2 hb2)
          go_roundw
          case rel => exact ⟨k + 1, hlt, by go_num, by rw [HFS.out, ubest_none rfl]; exact ⟨HV2.out, HLK.out (by trivial)⟩, HB2.out⟩
          case measure => simp [intOf]; omega
        · have d1 : (fx == 0) = false := by simpa using hx
          have HX := Lib.hid hx
          clear hx
          go_wp2_with (go_at_call 83; refine HFK.out.mono ?_; rintro e w2 ⟨v2, rfl, hv2, hb2⟩; have HV2 := Lib.hid hv2; have HB2 := Lib.hid (below_then HBW.out hb2); clear hv2 hb2)
          go_roundw
          case rel => exact ⟨k + 1, hlt, by go_num, by rw [HFS.out, ubest_bad HX.out]; rfl, HB2.out⟩
          case measure => simp [intOf]; omega
      · obtain ⟨ha, ha1⟩ := hbest
        obtain ⟨A6, n6, c6, rfl⟩ := IsV.shape (f := bv) ha
        have hp6 := IsV.parts (f := bv) (show IsV bv a _ _ from ha)
        have HN6 := Lib.hid hp6.1
        have hn61 : 1 ≤ n6 := by rw [← hp6.1]; exact ha1
        have hci6 : (n6 : Int) ≤ 9223372036854775807 := by have h1 := hp6.2.2.1; have h2 := hp6.2.2.2.1; unfold maxLen at h2; omega
        have hAs : ∃ ad, A6 = some ad := by
          cases A6 with
          | none => have := hp6.2.1 rfl; omega
          | some ad => exact ⟨ad, rfl⟩
        obtain ⟨ad6, rfl⟩ := hAs
        have hnil := fun W => unil_ne ad6 n6 c6 W
        have HA := Lib.hid ha
        have HA1 := Lib.hid ha1
        clear ha ha1 hp6
        by_cases hx : fx = 0
        · subst hx
          go_wp2_with fail
          refine HFK.out.mono ?_
          rintro e w2 ⟨v2, rfl, hv2, hb2⟩
          obtain ⟨A8, n8, c8, rfl⟩ := IsV.shape (f := bv) hv2
          have hn8 := (IsV.parts (f := bv) (show IsV bv fl _ _ from hv2)).1
          have HN8 := Lib.hid hn8
          have HV2 := Lib.hid hv2
          have HB2 := Lib.hid (below_then HBW.out hb2)
          have HA2 := Lib.hid (IsB.below HA.out hb2)
          clear hv2 hb2 hn8
          by_cases hlt8 : n8 < n6
          · have hlt8i : (n8 : Int) < (n6 : Int) := by omega
            have d2 : decide ((n8 : Int) < (n6 : Int)) = true := decide_eq_true hlt8i
            go_wp2
            go_roundw
            case rel => exact ⟨k + 1, hlt, by go_num, by rw [HFS.out, ubest_less rfl (by have := HN8.out; have := HN6.out; dsimp only; omega)]; exact ⟨HV2.out, HLK.out (by trivial)⟩, HB2.out⟩
            case measure => simp [intOf]; omega
          · have hlt8i : ¬ (n8 : Int) < (n6 : Int) := by omega
            have d2 : decide ((n8 : Int) < (n6 : Int)) = false := decide_eq_false hlt8i
            go_wp2
            go_roundw
            case rel => exact ⟨k + 1, hlt, by go_num, by rw [HFS.out, ubest_more (by have := HN8.out; have := HN6.out; dsimp only; omega)]; exact ⟨HA2.out, HA1.out⟩, HB2.out⟩
            case measure => simp [intOf]; omega
        · have d1 : (fx == 0) = false := by simpa using hx
          have HX := Lib.hid hx
          clear hx
          go_wp2_with (go_at_call 83; refine HFK.out.mono ?_; rintro e w2 ⟨v2, rfl, hv2, hb2⟩; have HB2 := Lib.hid (below_then HBW.out hb2); have HA2 := Lib.hid (IsB.below HA.out hb2); clear hv2 hb2)
          go_roundw
          case rel => exact ⟨k + 1, hlt, by go_num, by rw [HFS.out, ubest_bad HX.out]; exact ⟨HA2.out, HA1.out⟩, HB2.out⟩
          case measure => simp [intOf]; omega
    · obtain rfl : k = N := by omega
      have hlti : ¬ (k : Int) < (k : Int) := by omega
      rcases o with _ | a
      · obtain rfl : _ = Value.slice none 0 0 := hbest
        have hnil := unil_eq
        go_wp2
        go_ret2
        rw [← HO.out]
        exact RetE.nil _ HBW.out
      · obtain ⟨ha, ha1⟩ := hbest
        obtain ⟨A6, n6, c6, rfl⟩ := IsV.shape (f := bv) ha
        have hp6 := IsV.parts (f := bv) (show IsV bv a _ _ from ha)
        have hn61 : 1 ≤ n6 := by rw [← hp6.1]; exact ha1
        have hAs : ∃ ad, A6 = some ad := by
          cases A6 with
          | none => have := hp6.2.1 rfl; omega
          | some ad => exact ⟨ad, rfl⟩
        obtain ⟨ad6, rfl⟩ := hAs
        have hnil := fun W => unil_ne ad6 n6 c6 W
        have HA := Lib.hid ha
        clear ha ha1 hp6
        go_wp2
        go_ret2
        rw [← HO.out]
        exact ⟨_, rfl, HA.out, HBW.out⟩
set_option maxHeartbeats 4000000 in
set_option maxRecDepth 100000 in
theorem ushortest_run (N : Nat) (F : Nat → List UInt8 × Int) (p6 p2 p3 : Nat) (w : World) (hN : N ≤ 1000) (hf : ∀ (k : Nat) (W : World), k < N → Below w.heap.size w W → Calls Tryz.prog 20 #[.int .i64 (k : Int), .pointer (some ⟨p6, 0, none⟩), .pointer (some ⟨p2, 0, none⟩), .pointer (some ⟨p3, 0, none⟩)] W (RetE W (F k)))
    (hlen : ∀ k, k < N → (F k).2 = 0 → 1 ≤ (F k).1.length) :
    Calls Tryz.prog 19 #[.int .i64 (N : Int), .func (.func 20) #[] #[.pointer (some ⟨p6, 0, none⟩), .pointer (some ⟨p2, 0, none⟩), .pointer (some ⟨p3, 0, none⟩)]] w (RetE w (uans (((List.range N).map F).foldl ubest none))) := by
  have HF := Lib.hid hf
  have HLEN := Lib.hid hlen
  have HS : Hid (UBRel F N w (.slice none 0 0) (.int .i64 0) w) := Lib.hid ⟨0, Nat.zero_le _, rfl, rfl, Below.refl _ _⟩
  clear hf hlen
  go_enter Tryz.func19, Tryz.ntmps19
  go_wp2
  go_loopw [6, 11] (UBRel F N w) (fun _ i _ => N - (intOf i).toNat)
  case atStart => exact HS.out
  case round =>
    obtain ⟨k, hk, rfl, hbest, hbw⟩ := hrel
    clear HS
    have HBW := Lib.hid hbw
    have HFS := Lib.hid (show ((List.range (k + 1)).map F).foldl ubest none = ubest (((List.range k).map F).foldl ubest none) (F k) by
      rw [List.range_succ, List.map_append, List.foldl_append]; rfl)
    obtain ⟨o, ho⟩ : ∃ o, o = ((List.range k).map F).foldl ubest none := ⟨_, rfl⟩
    rw [← ho] at hbest HFS
    have HO := Lib.hid ho
    clear hbw ho
    by_cases hlt : k < N
    · have hlti : (k : Int) < (N : Int) := by omega
      have HFK := Lib.hid (HF.out k wr hlt HBW.out)
      have HLK := Lib.hid (HLEN.out k hlt)
      obtain ⟨fl, fx, hfk⟩ : ∃ fl fx, F k = (fl, fx) := ⟨_, _, rfl⟩
      rw [hfk] at HFK HFS HLK
      clear hfk
      rcases o with _ | a
      · obtain rfl : _ = Value.slice none 0 0 := hbest
        have hnil := unil_eq
        by_cases hx : fx = 0
        · subst hx
          go_wp2_with (go_at_call 20; refine HFK.out.mono ?_; rintro e w2 ⟨v2, rfl, hv2, hb2⟩; have HV2 := Lib.hid hv2; have HB2 := Lib.hid (below_then HBW.out hb2); clear hv2 hb2)
          go_roundw
          case rel => exact ⟨k + 1, hlt, by go_num, by rw [HFS.out, ubest_none rfl]; exact ⟨HV2.out, HLK.out (by trivial)⟩, HB2.out⟩
          case measure => simp [intOf]; omega
        · have d1 : (fx == 0) = false := by simpa using hx
          have HX := Lib.hid hx
          clear hx
          go_wp2_with (go_at_call 20; refine HFK.out.mono ?_; rintro e w2 ⟨v2, rfl, hv2, hb2⟩; have HV2 := Lib.hid hv2; have HB2 := Lib.hid (below_then HBW.out hb2); clear hv2 hb2)
          go_roundw
          case rel => exact ⟨k + 1, hlt, by go_num, by rw [HFS.out, ubest_bad HX.out]; rfl, HB2.out⟩
          case measure => simp [intOf]; omega
      · obtain ⟨ha, ha1⟩ := hbest
        obtain ⟨A6, n6, c6, rfl⟩ := IsV.shape (f := bv) ha
        have hp6 := IsV.parts (f := bv) (show IsV bv a _ _ from ha)
        have HN6 := Lib.hid hp6.1
        have hn61 : 1 ≤ n6 := by rw [← hp6.1]; exact ha1
        have hci6 : (n6 : Int) ≤ 9223372036854775807 := by have h1 := hp6.2.2.1; have h2 := hp6.2.2.2.1; unfold maxLen at h2; omega
        have hAs : ∃ ad, A6 = some ad := by
          cases A6 with
          | none => have := hp6.2.1 rfl; omega
          | some ad => exact ⟨ad, rfl⟩
        obtain ⟨ad6, rfl⟩ := hAs
        have hnil := fun W => unil_ne ad6 n6 c6 W
        have HA := Lib.hid ha
        have HA1 := Lib.hid ha1
        clear ha ha1 hp6
        by_cases hx : fx = 0
        · subst hx
          go_wp2_with fail
          refine HFK.out.mono ?_
          rintro e w2 ⟨v2, rfl, hv2, hb2⟩
          obtain ⟨A8, n8, c8, rfl⟩ := IsV.shape (f := bv) hv2
          have hn8 := (IsV.parts (f := bv) (show IsV bv fl _ _ from hv2)).1
          have HN8 := Lib.hid hn8
          have HV2 := Lib.hid hv2
          have HB2 := Lib.hid (below_then HBW.out hb2)
          have HA2 := Lib.hid (IsB.below HA.out hb2)
          clear hv2 hb2 hn8
          by_cases hlt8 : n8 < n6
          · have hlt8i : (n8 : Int) < (n6 : Int) := by omega
            have d2 : decide ((n8 : Int) < (n6 : Int)) = true := decide_eq_true hlt8i
            go_wp2
            go_roundw
            case rel => exact ⟨k + 1, hlt, by go_num, by rw [HFS.out, ubest_less rfl (by have := HN8.out; have := HN6.out; dsimp only; omega)]; exact ⟨HV2.out, HLK.out (by trivial)⟩, HB2.out⟩
            case measure => simp [intOf]; omega
          · have hlt8i : ¬ (n8 : Int) < (n6 : Int) := by omega
            have d2 : decide ((n8 : Int) < (n6 : Int)) = false := decide_eq_false hlt8i
            go_wp2
            go_roundw
            case rel => exact ⟨k + 1, hlt, by go_num, by rw [HFS.out, ubest_more (by have := HN8.out; have := HN6.out; dsimp only; omega)]; exact ⟨HA2.out, HA1.out⟩, HB2.out⟩
            case measure => simp [intOf]; omega
        · have d1 : (fx == 0) = false := by simpa using hx
          have HX := Lib.hid hx
          clear hx
          go_wp2_with (go_at_call 20; refine HFK.out.mono ?_; rintro e w2 ⟨v2, rfl, hv2, hb2⟩; have HB2 := Lib.hid (below_then HBW.out hb2); have HA2 := Lib.hid (IsB.below HA.out hb2); clear hv2 hb2)
          go_roundw
          case rel => exact ⟨k + 1, hlt, by go_num, by rw [HFS.out, ubest_bad HX.out]; exact ⟨HA2.out, HA1.out⟩, HB2.out⟩
          case measure => simp [intOf]; omega
    · obtain rfl : k = N := by omega
      have hlti : ¬ (k : Int) < (k : Int) := by omega
      rcases o with _ | a
      · obtain rfl : _ = Value.slice none 0 0 := hbest
        have hnil := unil_eq
        go_wp2
        go_ret2
        rw [← HO.out]
        exact RetE.nil _ HBW.out
      · obtain ⟨ha, ha1⟩ := hbest
        obtain ⟨A6, n6, c6, rfl⟩ := IsV.shape (f := bv) ha
        have hp6 := IsV.parts (f := bv) (show IsV bv a _ _ from ha)
        have hn61 : 1 ≤ n6 := by rw [← hp6.1]; exact ha1
        have hAs : ∃ ad, A6 = some ad := by
          cases A6 with
          | none => have := hp6.2.1 rfl; omega
          | some ad => exact ⟨ad, rfl⟩
        obtain ⟨ad6, rfl⟩ := hAs
        have hnil := fun W => unil_ne ad6 n6 c6 W
        have HA := Lib.hid ha
        clear ha ha1 hp6
        go_wp2
        go_ret2
        rw [← HO.out]
        exact ⟨_, rfl, HA.out, HBW.out⟩
set_option maxHeartbeats 1000000 in
set_option maxRecDepth 100000 in
theorem uputpat_any (l : List Int) (v : Value) (s : Bool) (w : World) (ht : WTab w) (hv : IsV iv l v w) (hl : ∀ x ∈ l, inInt x) (hb : l.length ≤ 1000000) :
    Calls Tryz.prog 38 #[v, .bool s] w (RetE w (upat l s)) := by
  obtain ⟨A, n, c, rfl⟩ := hv.shape
  obtain ⟨v, hv0⟩ : ∃ v, v = Value.slice A n c := ⟨_, rfl⟩
  rw [← hv0] at hv
  obtain ⟨w1, hw1⟩ : ∃ w1, w1 = (w.alloc (.cells #[v] 22)).alloc (.cells #[.bool s] 4) := ⟨_, rfl⟩
  have hb1 : Below w.heap.size w w1 := by rw [hw1]; exact ((Below.refl _ _).alloc (Nat.le_refl _) _).alloc (by simp) _
  have r1 : Row w1 w.heap.size 22 [v] := by
    have h0 : Row (w.alloc (.cells #[v] 22)) w.heap.size 22 [v] := heap_alloc_new w _
    rw [hw1]; exact h0.alloc _
  have r2 : Row w1 (w.heap.size + 1) 4 [.bool s] := by
    rw [hw1]
    have h0 := heap_alloc_new (w.alloc (.cells #[v] 22)) (.cells #[.bool s] 4)
    rw [show (w.alloc (.cells #[v] 22)).heap.size = w.heap.size + 1 by simp] at h0
    exact h0
  have HS := Lib.hid (ushortest_pat 31 (fun c : Nat => pputE l (wof (c : Int)) s) w.heap.size (w.heap.size + 1) w1 (by omega)
    (fun k W hk hW => uppat1_any k hk _ _ l v s W (ht.below (below_then hb1 hW) ht.lt) (hv.below (below_then hb1 hW)) hl hb (r1.below hW r1.lt) (r2.below hW r2.lt))
    (fun k hk h0 => Nat.pos_of_ne_zero (ulen_pput h0)))
  have HE := Lib.hid (show uans (((List.range 31).map fun c : Nat => pputE l (wof (c : Int)) s).foldl ubest none) = upat l s from rfl)
  rw [HE.out, show ((31 : Nat) : Int) = 31 from rfl] at HS
  have HB := Lib.hid hb1
  rw [hw1, hv0] at HS HB
  clear ht hv hl hb r1 r2 hw1 hb1
  go_enter Tryz.func38, Tryz.ntmps38
  go_wp2_with (go_at_call 19; refine HS.out.mono ?_; rintro e w2 ⟨v2, rfl, hv2, hb2⟩; have HV2 := Lib.hid hv2; have HB2 := Lib.hid (below_then HB.out hb2); clear hv2 hb2)
  go_ret2
  exact ⟨_, rfl, HV2.out, HB2.out⟩
set_option maxHeartbeats 4000000 in
set_option maxRecDepth 100000 in
theorem urun1_0 (p6 p2 p3 g : Nat) (l : List Int) (v : Value) (s : Bool) (w : World) (ht : WTab w) (hv : IsV iv l v w) (hl : ∀ x ∈ l, inInt x) (hb : l.length ≤ 1000000)
    (h6 : Row w p6 36 [.slice (some ⟨g, 0, none⟩) 4 4]) (h2 : Row w p2 22 [v]) (h3 : Row w p3 4 [.bool s]) (hg : Row w g 41 kcells) :
    Calls Tryz.prog 20 #[.int .i64 0, .pointer (some ⟨p6, 0, none⟩), .pointer (some ⟨p2, 0, none⟩), .pointer (some ⟨p3, 0, none⟩)] w (RetE w (urep l s)) := by
  have HT := Lib.hid ht
  have HV := Lib.hid hv
  have HPR := Lib.hid (fun W (h : IsV iv l v W) (ht : WTab W) => uputrep_any l v s W h hl hb)
  have HC6 := Lib.hid (show w.cell? ⟨p6, 0, none⟩ = some (.slice (some ⟨g, 0, none⟩) 4 4) from h6.cell 0)
  have HC2 := Lib.hid (show w.cell? ⟨p2, 0, none⟩ = some v from h2.cell 0)
  have HC3 := Lib.hid (show w.cell? ⟨p3, 0, none⟩ = some (.bool s) from h3.cell 0)
  have HF := Lib.hid (show w.cell? ⟨g, 1, none⟩ = some (.func (.func 32) #[] #[]) from hg.cell 1)
  have HL6 := Lib.hid h6.lt
  have HL2 := Lib.hid h2.lt
  have HL3 := Lib.hid h3.lt
  have HLG := Lib.hid hg.lt
  obtain ⟨pl, px, hE⟩ : ∃ pl px, urep l s = (pl, px) := ⟨_, _, rfl⟩
  rw [hE] at HPR
  have HE := Lib.hid hE
  clear ht hv hl hb h6 h2 h3 hg hE
  go_enter Tryz.func20, Tryz.ntmps20
  go_wp2_with fail
  refine wp_region_list [.is (.slice (some ⟨g, 0, none⟩) 4 4), .is (.int .i64 0), .is (.pointer (some ⟨g, 0, none⟩)), .is (.pointer (some ⟨g, 1, none⟩)), .is (.func (.func 32) #[] #[]), .is (v), .is (.bool s), .putE (pl) (px), .bytes (pl), .is (.int .i64 px), .bytes (pl), .is (.int .i64 px)] [some 7, some 8, some 9, some 10, some 11, some 12, some 13, some 14, some 15, some 16, some 5, some 6] (by kernel_rfl) (by kernel_rfl) (by kernel_rfl) rfl ⟨?_, ?_, ?_, ?_, ?_, ?_, ?_, ?_, ?_, ?_, ?_, ?_, trivial⟩ ?_
  · intro ρ W1 hb1 H
    exact gives_load rfl (H.old 1 _ (by kernel_rfl) rfl) Tryz.underlying36 rfl ((hb1.cell HL6.out).trans HC6.out) ⟨rfl, Below.refl _ _⟩
  · intro ρ W1 hb1 H
    exact gives_move rfl (H.old 0 _ (by kernel_rfl) rfl) ⟨rfl, Below.refl _ _⟩
  · intro ρ W1 hb1 H
    exact gives_indexW (k := 0) elemK rfl (H.new 7 0 (by kernel_rfl)) (H.new 8 1 (by kernel_rfl)) (by omega) ⟨congrArg (fun q => Value.pointer (some q)) (by simp [Addr.add]), Below.refl _ _⟩
  · intro ρ W1 hb1 H
    exact gives_field rfl (H.new 9 2 (by kernel_rfl)) (fun W => kind_at1 0 W _) ⟨rfl, Below.refl _ _⟩
  · intro ρ W1 hb1 H
    exact gives_load rfl (H.new 10 3 (by kernel_rfl)) Tryz.underlying28 rfl ((hb1.cell HLG.out).trans HF.out) ⟨rfl, Below.refl _ _⟩
  · intro ρ W1 hb1 H
    exact gives_load rfl (H.old 2 _ (by kernel_rfl) rfl) Tryz.underlying22 rfl ((hb1.cell HL2.out).trans HC2.out) ⟨rfl, Below.refl _ _⟩
  · intro ρ W1 hb1 H
    exact gives_load rfl (H.old 3 _ (by kernel_rfl) rfl) Tryz.underlying4 rfl ((hb1.cell HL3.out).trans HC3.out) ⟨rfl, Below.refl _ _⟩
  · intro ρ W1 hb1 H
    have e0 : ρ (.tmp 12) = v := H.new 12 5 (by kernel_rfl)
    have e1 : ρ (.tmp 13) = .bool s := H.new 13 6 (by kernel_rfl)
    refine gives_callV rfl (fun _ _ => by kernel_rfl) (H.new 11 4 (by kernel_rfl)) (args := #[v, .bool s]) (by simp [e0, e1]) ?_
    exact (HPR.out W1 (HV.out.below hb1) (HT.out.below hb1 HT.out.lt)).mono fun e w' ⟨b, h1, h2, h3⟩ => ⟨_, h1, ⟨b, rfl, h2⟩, h3⟩
  · intro ρ W1 hb1 H
    obtain ⟨b, h1, h2⟩ := (show ∃ b, ρ (.tmp 14) = .tuple #[b, .int .i64 px] ∧ IsB pl b W1 from H.new 14 7 (by kernel_rfl))
    exact gives_extract rfl h1 rfl ⟨h2, Below.refl _ _⟩
  · intro ρ W1 hb1 H
    obtain ⟨b, h1, h2⟩ := (show ∃ b, ρ (.tmp 14) = .tuple #[b, .int .i64 px] ∧ IsB pl b W1 from H.new 14 7 (by kernel_rfl))
    exact gives_extract rfl h1 rfl ⟨rfl, Below.refl _ _⟩
  · intro ρ W1 hb1 H
    exact gives_assign rfl rfl ⟨H.new 15 8 (by kernel_rfl), Below.refl _ _⟩
  · intro ρ W1 hb1 H
    exact gives_assign rfl (H.new 16 9 (by kernel_rfl)) ⟨rfl, Below.refl _ _⟩
  · intro vs W1 hb1 hfs
    have f10 : IsB (pl) (vs 10) W1 := hfs 10 (by decide)
    have f11 : vs 11 = .int .i64 px := hfs 11 (by decide)
    clear hfs
    simp only [putAll, Nat.zero_add, Nat.reduceAdd]
    generalize vs 0 = z0
    generalize vs 1 = z1
    generalize vs 2 = z2
    generalize vs 3 = z3
    generalize vs 4 = z4
    generalize vs 5 = z5
    generalize vs 6 = z6
    generalize vs 7 = z7
    generalize vs 8 = z8
    generalize vs 9 = z9
    generalize vs 10 = z10 at f10 ⊢
    simp only [f11, Act.put, List.setIfInBounds_toArray, List.set_cons_succ, List.set_cons_zero]
    clear f11
    have HB := Lib.hid f10
    have HW := Lib.hid hb1
    clear f10 hb1
    go_wp2
    go_ret2
    rw [HE.out]
    exact ⟨_, rfl, HB.out, HW.out⟩
set_option maxHeartbeats 4000000 in
set_option maxRecDepth 100000 in
theorem urun1_1 (p6 p2 p3 g : Nat) (l : List Int) (v : Value) (s : Bool) (w : World) (ht : WTab w) (hv : IsV iv l v w) (hl : ∀ x ∈ l, inInt x) (hb : l.length ≤ 1000000)
    (h6 : Row w p6 36 [.slice (some ⟨g, 0, none⟩) 4 4]) (h2 : Row w p2 22 [v]) (h3 : Row w p3 4 [.bool s]) (hg : Row w g 41 kcells) :
    Calls Tryz.prog 20 #[.int .i64 1, .pointer (some ⟨p6, 0, none⟩), .pointer (some ⟨p2, 0, none⟩), .pointer (some ⟨p3, 0, none⟩)] w (RetE w (dputE l s)) := by
  have HT := Lib.hid ht
  have HV := Lib.hid hv
  have HPD := Lib.hid (fun W (h : IsV iv l v W) (ht : WTab W) => dput_any l v s W ht h hl hb)
  have HC6 := Lib.hid (show w.cell? ⟨p6, 0, none⟩ = some (.slice (some ⟨g, 0, none⟩) 4 4) from h6.cell 0)
  have HC2 := Lib.hid (show w.cell? ⟨p2, 0, none⟩ = some v from h2.cell 0)
  have HC3 := Lib.hid (show w.cell? ⟨p3, 0, none⟩ = some (.bool s) from h3.cell 0)
  have HF := Lib.hid (show w.cell? ⟨g, 4, none⟩ = some (.func (.func 34) #[] #[]) from hg.cell 4)
  have HL6 := Lib.hid h6.lt
  have HL2 := Lib.hid h2.lt
  have HL3 := Lib.hid h3.lt
  have HLG := Lib.hid hg.lt
  obtain ⟨pl, px, hE⟩ : ∃ pl px, dputE l s = (pl, px) := ⟨_, _, rfl⟩
  rw [hE] at HPD
  have HE := Lib.hid hE
  clear ht hv hl hb h6 h2 h3 hg hE
  go_enter Tryz.func20, Tryz.ntmps20
  go_wp2_with fail
  refine wp_region_list [.is (.slice (some ⟨g, 0, none⟩) 4 4), .is (.int .i64 1), .is (.pointer (some ⟨g, 3, none⟩)), .is (.pointer (some ⟨g, 4, none⟩)), .is (.func (.func 34) #[] #[]), .is (v), .is (.bool s), .putE (pl) (px), .bytes (pl), .is (.int .i64 px), .bytes (pl), .is (.int .i64 px)] [some 7, some 8, some 9, some 10, some 11, some 12, some 13, some 14, some 15, some 16, some 5, some 6] (by kernel_rfl) (by kernel_rfl) (by kernel_rfl) rfl ⟨?_, ?_, ?_, ?_, ?_, ?_, ?_, ?_, ?_, ?_, ?_, ?_, trivial⟩ ?_
  · intro ρ W1 hb1 H
    exact gives_load rfl (H.old 1 _ (by kernel_rfl) rfl) Tryz.underlying36 rfl ((hb1.cell HL6.out).trans HC6.out) ⟨rfl, Below.refl _ _⟩
  · intro ρ W1 hb1 H
    exact gives_move rfl (H.old 0 _ (by kernel_rfl) rfl) ⟨rfl, Below.refl _ _⟩
  · intro ρ W1 hb1 H
    exact gives_indexW (k := 1) elemK rfl (H.new 7 0 (by kernel_rfl)) (H.new 8 1 (by kernel_rfl)) (by omega) ⟨congrArg (fun q => Value.pointer (some q)) (by simp [Addr.add]), Below.refl _ _⟩
  · intro ρ W1 hb1 H
    exact gives_field rfl (H.new 9 2 (by kernel_rfl)) (fun W => kind_at1 3 W _) ⟨rfl, Below.refl _ _⟩
  · intro ρ W1 hb1 H
    exact gives_load rfl (H.new 10 3 (by kernel_rfl)) Tryz.underlying28 rfl ((hb1.cell HLG.out).trans HF.out) ⟨rfl, Below.refl _ _⟩
  · intro ρ W1 hb1 H
    exact gives_load rfl (H.old 2 _ (by kernel_rfl) rfl) Tryz.underlying22 rfl ((hb1.cell HL2.out).trans HC2.out) ⟨rfl, Below.refl _ _⟩
  · intro ρ W1 hb1 H
    exact gives_load rfl (H.old 3 _ (by kernel_rfl) rfl) Tryz.underlying4 rfl ((hb1.cell HL3.out).trans HC3.out) ⟨rfl, Below.refl _ _⟩
  · intro ρ W1 hb1 H
    have e0 : ρ (.tmp 12) = v := H.new 12 5 (by kernel_rfl)
    have e1 : ρ (.tmp 13) = .bool s := H.new 13 6 (by kernel_rfl)
    refine gives_callV rfl (fun _ _ => by kernel_rfl) (H.new 11 4 (by kernel_rfl)) (args := #[v, .bool s]) (by simp [e0, e1]) ?_
    exact (HPD.out W1 (HV.out.below hb1) (HT.out.below hb1 HT.out.lt)).mono fun e w' ⟨b, h1, h2, h3⟩ => ⟨_, h1, ⟨b, rfl, h2⟩, h3⟩
  · intro ρ W1 hb1 H
    obtain ⟨b, h1, h2⟩ := (show ∃ b, ρ (.tmp 14) = .tuple #[b, .int .i64 px] ∧ IsB pl b W1 from H.new 14 7 (by kernel_rfl))
    exact gives_extract rfl h1 rfl ⟨h2, Below.refl _ _⟩
  · intro ρ W1 hb1 H
    obtain ⟨b, h1, h2⟩ := (show ∃ b, ρ (.tmp 14) = .tuple #[b, .int .i64 px] ∧ IsB pl b W1 from H.new 14 7 (by kernel_rfl))
    exact gives_extract rfl h1 rfl ⟨rfl, Below.refl _ _⟩
  · intro ρ W1 hb1 H
    exact gives_assign rfl rfl ⟨H.new 15 8 (by kernel_rfl), Below.refl _ _⟩
  · intro ρ W1 hb1 H
    exact gives_assign rfl (H.new 16 9 (by kernel_rfl)) ⟨rfl, Below.refl _ _⟩
  · intro vs W1 hb1 hfs
    have f10 : IsB (pl) (vs 10) W1 := hfs 10 (by decide)
    have f11 : vs 11 = .int .i64 px := hfs 11 (by decide)
    clear hfs
    simp only [putAll, Nat.zero_add, Nat.reduceAdd]
    generalize vs 0 = z0
    generalize vs 1 = z1
    generalize vs 2 = z2
    generalize vs 3 = z3
    generalize vs 4 = z4
    generalize vs 5 = z5
    generalize vs 6 = z6
    generalize vs 7 = z7
    generalize vs 8 = z8
    generalize vs 9 = z9
    generalize vs 10 = z10 at f10 ⊢
    simp only [f11, Act.put, List.setIfInBounds_toArray, List.set_cons_succ, List.set_cons_zero]
    clear f11
    have HB := Lib.hid f10
    have HW := Lib.hid hb1
    clear f10 hb1
    go_wp2
    go_ret2
    rw [HE.out]
    exact ⟨_, rfl, HB.out, HW.out⟩
set_option maxHeartbeats 4000000 in
set_option maxRecDepth 100000 in
theorem urun1_2 (p6 p2 p3 g : Nat) (l : List Int) (v : Value) (s : Bool) (w : World) (ht : WTab w) (hv : IsV iv l v w) (hl : ∀ x ∈ l, inInt x) (hb : l.length ≤ 1000000)
    (h6 : Row w p6 36 [.slice (some ⟨g, 0, none⟩) 4 4]) (h2 : Row w p2 22 [v]) (h3 : Row w p3 4 [.bool s]) (hg : Row w g 41 kcells) :
    Calls Tryz.prog 20 #[.int .i64 2, .pointer (some ⟨p6, 0, none⟩), .pointer (some ⟨p2, 0, none⟩), .pointer (some ⟨p3, 0, none⟩)] w (RetE w (gputE l s)) := by
  have HT := Lib.hid ht
  have HV := Lib.hid hv
  have HPG := Lib.hid (fun W (h : IsV iv l v W) (ht : WTab W) => tput_any l v s W ht h hl hb)
  have HC6 := Lib.hid (show w.cell? ⟨p6, 0, none⟩ = some (.slice (some ⟨g, 0, none⟩) 4 4) from h6.cell 0)
  have HC2 := Lib.hid (show w.cell? ⟨p2, 0, none⟩ = some v from h2.cell 0)
  have HC3 := Lib.hid (show w.cell? ⟨p3, 0, none⟩ = some (.bool s) from h3.cell 0)
  have HF := Lib.hid (show w.cell? ⟨g, 7, none⟩ = some (.func (.func 36) #[] #[]) from hg.cell 7)
  have HL6 := Lib.hid h6.lt
  have HL2 := Lib.hid h2.lt
  have HL3 := Lib.hid h3.lt
  have HLG := Lib.hid hg.lt
  obtain ⟨pl, px, hE⟩ : ∃ pl px, gputE l s = (pl, px) := ⟨_, _, rfl⟩
  rw [hE] at HPG
  have HE := Lib.hid hE
  clear ht hv hl hb h6 h2 h3 hg hE
  go_enter Tryz.func20, Tryz.ntmps20
  go_wp2_with fail
  refine wp_region_list [.is (.slice (some ⟨g, 0, none⟩) 4 4), .is (.int .i64 2), .is (.pointer (some ⟨g, 6, none⟩)), .is (.pointer (some ⟨g, 7, none⟩)), .is (.func (.func 36) #[] #[]), .is (v), .is (.bool s), .putE (pl) (px), .bytes (pl), .is (.int .i64 px), .bytes (pl), .is (.int .i64 px)] [some 7, some 8, some 9, some 10, some 11, some 12, some 13, some 14, some 15, some 16, some 5, some 6] (by kernel_rfl) (by kernel_rfl) (by kernel_rfl) rfl ⟨?_, ?_, ?_, ?_, ?_, ?_, ?_, ?_, ?_, ?_, ?_, ?_, trivial⟩ ?_
  · intro ρ W1 hb1 H
    exact gives_load rfl (H.old 1 _ (by kernel_rfl) rfl) Tryz.underlying36 rfl ((hb1.cell HL6.out).trans HC6.out) ⟨rfl, Below.refl _ _⟩
  · intro ρ W1 hb1 H
    exact gives_move rfl (H.old 0 _ (by kernel_rfl) rfl) ⟨rfl, Below.refl _ _⟩
  · intro ρ W1 hb1 H
    exact gives_indexW (k := 2) elemK rfl (H.new 7 0 (by kernel_rfl)) (H.new 8 1 (by kernel_rfl)) (by omega) ⟨congrArg (fun q => Value.pointer (some q)) (by simp [Addr.add]), Below.refl _ _⟩
  · intro ρ W1 hb1 H
    exact gives_field rfl (H.new 9 2 (by kernel_rfl)) (fun W => kind_at1 6 W _) ⟨rfl, Below.refl _ _⟩
  · intro ρ W1 hb1 H
    exact gives_load rfl (H.new 10 3 (by kernel_rfl)) Tryz.underlying28 rfl ((hb1.cell HLG.out).trans HF.out) ⟨rfl, Below.refl _ _⟩
  · intro ρ W1 hb1 H
    exact gives_load rfl (H.old 2 _ (by kernel_rfl) rfl) Tryz.underlying22 rfl ((hb1.cell HL2.out).trans HC2.out) ⟨rfl, Below.refl _ _⟩
  · intro ρ W1 hb1 H
    exact gives_load rfl (H.old 3 _ (by kernel_rfl) rfl) Tryz.underlying4 rfl ((hb1.cell HL3.out).trans HC3.out) ⟨rfl, Below.refl _ _⟩
  · intro ρ W1 hb1 H
    have e0 : ρ (.tmp 12) = v := H.new 12 5 (by kernel_rfl)
    have e1 : ρ (.tmp 13) = .bool s := H.new 13 6 (by kernel_rfl)
    refine gives_callV rfl (fun _ _ => by kernel_rfl) (H.new 11 4 (by kernel_rfl)) (args := #[v, .bool s]) (by simp [e0, e1]) ?_
    exact (HPG.out W1 (HV.out.below hb1) (HT.out.below hb1 HT.out.lt)).mono fun e w' ⟨b, h1, h2, h3⟩ => ⟨_, h1, ⟨b, rfl, h2⟩, h3⟩
  · intro ρ W1 hb1 H
    obtain ⟨b, h1, h2⟩ := (show ∃ b, ρ (.tmp 14) = .tuple #[b, .int .i64 px] ∧ IsB pl b W1 from H.new 14 7 (by kernel_rfl))
    exact gives_extract rfl h1 rfl ⟨h2, Below.refl _ _⟩
  · intro ρ W1 hb1 H
    obtain ⟨b, h1, h2⟩ := (show ∃ b, ρ (.tmp 14) = .tuple #[b, .int .i64 px] ∧ IsB pl b W1 from H.new 14 7 (by kernel_rfl))
    exact gives_extract rfl h1 rfl ⟨rfl, Below.refl _ _⟩
  · intro ρ W1 hb1 H
    exact gives_assign rfl rfl ⟨H.new 15 8 (by kernel_rfl), Below.refl _ _⟩
  · intro ρ W1 hb1 H
    exact gives_assign rfl (H.new 16 9 (by kernel_rfl)) ⟨rfl, Below.refl _ _⟩
  · intro vs W1 hb1 hfs
    have f10 : IsB (pl) (vs 10) W1 := hfs 10 (by decide)
    have f11 : vs 11 = .int .i64 px := hfs 11 (by decide)
    clear hfs
    simp only [putAll, Nat.zero_add, Nat.reduceAdd]
    generalize vs 0 = z0
    generalize vs 1 = z1
    generalize vs 2 = z2
    generalize vs 3 = z3
    generalize vs 4 = z4
    generalize vs 5 = z5
    generalize vs 6 = z6
    generalize vs 7 = z7
    generalize vs 8 = z8
    generalize vs 9 = z9
    generalize vs 10 = z10 at f10 ⊢
    simp only [f11, Act.put, List.setIfInBounds_toArray, List.set_cons_succ, List.set_cons_zero]
    clear f11
    have HB := Lib.hid f10
    have HW := Lib.hid hb1
    clear f10 hb1
    go_wp2
    go_ret2
    rw [HE.out]
    exact ⟨_, rfl, HB.out, HW.out⟩
set_option maxHeartbeats 4000000 in
set_option maxRecDepth 100000 in
theorem urun1_3 (p6 p2 p3 g : Nat) (l : List Int) (v : Value) (s : Bool) (w : World) (ht : WTab w) (hv : IsV iv l v w) (hl : ∀ x ∈ l, inInt x) (hb : l.length ≤ 1000000)
    (h6 : Row w p6 36 [.slice (some ⟨g, 0, none⟩) 4 4]) (h2 : Row w p2 22 [v]) (h3 : Row w p3 4 [.bool s]) (hg : Row w g 41 kcells) :
    Calls Tryz.prog 20 #[.int .i64 3, .pointer (some ⟨p6, 0, none⟩), .pointer (some ⟨p2, 0, none⟩), .pointer (some ⟨p3, 0, none⟩)] w (RetE w (upat l s)) := by
  have HT := Lib.hid ht
  have HV := Lib.hid hv
  have HPP := Lib.hid (fun W (h : IsV iv l v W) (ht : WTab W) => uputpat_any l v s W ht h hl hb)
  have HC6 := Lib.hid (show w.cell? ⟨p6, 0, none⟩ = some (.slice (some ⟨g, 0, none⟩) 4 4) from h6.cell 0)
  have HC2 := Lib.hid (show w.cell? ⟨p2, 0, none⟩ = some v from h2.cell 0)
  have HC3 := Lib.hid (show w.cell? ⟨p3, 0, none⟩ = some (.bool s) from h3.cell 0)
  have HF := Lib.hid (show w.cell? ⟨g, 10, none⟩ = some (.func (.func 38) #[] #[]) from hg.cell 10)
  have HL6 := Lib.hid h6.lt
  have HL2 := Lib.hid h2.lt
  have HL3 := Lib.hid h3.lt
  have HLG := Lib.hid hg.lt
  obtain ⟨pl, px, hE⟩ : ∃ pl px, upat l s = (pl, px) := ⟨_, _, rfl⟩
  rw [hE] at HPP
  have HE := Lib.hid hE
  clear ht hv hl hb h6 h2 h3 hg hE
  go_enter Tryz.func20, Tryz.ntmps20
  go_wp2_with fail
  refine wp_region_list [.is (.slice (some ⟨g, 0, none⟩) 4 4), .is (.int .i64 3), .is (.pointer (some ⟨g, 9, none⟩)), .is (.pointer (some ⟨g, 10, none⟩)), .is (.func (.func 38) #[] #[]), .is (v), .is (.bool s), .putE (pl) (px), .bytes (pl), .is (.int .i64 px), .bytes (pl), .is (.int .i64 px)] [some 7, some 8, some 9, some 10, some 11, some 12, some 13, some 14, some 15, some 16, some 5, some 6] (by kernel_rfl) (by kernel_rfl) (by kernel_rfl) rfl ⟨?_, ?_, ?_, ?_, ?_, ?_, ?_, ?_, ?_, ?_, ?_, ?_, trivial⟩ ?_
  · intro ρ W1 hb1 H
    exact gives_load rfl (H.old 1 _ (by kernel_rfl) rfl) Tryz.underlying36 rfl ((hb1.cell HL6.out).trans HC6.out) ⟨rfl, Below.refl _ _⟩
  · intro ρ W1 hb1 H
    exact gives_move rfl (H.old 0 _ (by kernel_rfl) rfl) ⟨rfl, Below.refl _ _⟩
  · intro ρ W1 hb1 H
    exact gives_indexW (k := 3) elemK rfl (H.new 7 0 (by kernel_rfl)) (H.new 8 1 (by kernel_rfl)) (by omega) ⟨congrArg (fun q => Value.pointer (some q)) (by simp [Addr.add]), Below.refl _ _⟩
  · intro ρ W1 hb1 H
    exact gives_field rfl (H.new 9 2 (by kernel_rfl)) (fun W => kind_at1 9 W _) ⟨rfl, Below.refl _ _⟩
  · intro ρ W1 hb1 H
    exact gives_load rfl (H.new 10 3 (by kernel_rfl)) Tryz.underlying28 rfl ((hb1.cell HLG.out).trans HF.out) ⟨rfl, Below.refl _ _⟩
  · intro ρ W1 hb1 H
    exact gives_load rfl (H.old 2 _ (by kernel_rfl) rfl) Tryz.underlying22 rfl ((hb1.cell HL2.out).trans HC2.out) ⟨rfl, Below.refl _ _⟩
  · intro ρ W1 hb1 H
    exact gives_load rfl (H.old 3 _ (by kernel_rfl) rfl) Tryz.underlying4 rfl ((hb1.cell HL3.out).trans HC3.out) ⟨rfl, Below.refl _ _⟩
  · intro ρ W1 hb1 H
    have e0 : ρ (.tmp 12) = v := H.new 12 5 (by kernel_rfl)
    have e1 : ρ (.tmp 13) = .bool s := H.new 13 6 (by kernel_rfl)
    refine gives_callV rfl (fun _ _ => by kernel_rfl) (H.new 11 4 (by kernel_rfl)) (args := #[v, .bool s]) (by simp [e0, e1]) ?_
    exact (HPP.out W1 (HV.out.below hb1) (HT.out.below hb1 HT.out.lt)).mono fun e w' ⟨b, h1, h2, h3⟩ => ⟨_, h1, ⟨b, rfl, h2⟩, h3⟩
  · intro ρ W1 hb1 H
    obtain ⟨b, h1, h2⟩ := (show ∃ b, ρ (.tmp 14) = .tuple #[b, .int .i64 px] ∧ IsB pl b W1 from H.new 14 7 (by kernel_rfl))
    exact gives_extract rfl h1 rfl ⟨h2, Below.refl _ _⟩
  · intro ρ W1 hb1 H
    obtain ⟨b, h1, h2⟩ := (show ∃ b, ρ (.tmp 14) = .tuple #[b, .int .i64 px] ∧ IsB pl b W1 from H.new 14 7 (by kernel_rfl))
    exact gives_extract rfl h1 rfl ⟨rfl, Below.refl _ _⟩
  · intro ρ W1 hb1 H
    exact gives_assign rfl rfl ⟨H.new 15 8 (by kernel_rfl), Below.refl _ _⟩
  · intro ρ W1 hb1 H
    exact gives_assign rfl (H.new 16 9 (by kernel_rfl)) ⟨rfl, Below.refl _ _⟩
  · intro vs W1 hb1 hfs
    have f10 : IsB (pl) (vs 10) W1 := hfs 10 (by decide)
    have f11 : vs 11 = .int .i64 px := hfs 11 (by decide)
    clear hfs
    simp only [putAll, Nat.zero_add, Nat.reduceAdd]
    generalize vs 0 = z0
    generalize vs 1 = z1
    generalize vs 2 = z2
    generalize vs 3 = z3
    generalize vs 4 = z4
    generalize vs 5 = z5
    generalize vs 6 = z6
    generalize vs 7 = z7
    generalize vs 8 = z8
    generalize vs 9 = z9
    generalize vs 10 = z10 at f10 ⊢
    simp only [f11, Act.put, List.setIfInBounds_toArray, List.set_cons_succ, List.set_cons_zero]
    clear f11
    have HB := Lib.hid f10
    have HW := Lib.hid hb1
    clear f10 hb1
    go_wp2
    go_ret2
    rw [HE.out]
    exact ⟨_, rfl, HB.out, HW.out⟩
set_option maxHeartbeats 1000000 in
set_option maxRecDepth 100000 in
theorem urun_any (l : List Int) (v : Value) (s : Bool) (w : World) (ht : WTab w) (hv : IsV iv l v w) (hl : ∀ x ∈ l, inInt x) (hb : l.length ≤ 1000000) : Calls Tryz.prog 9 #[v, .bool s] w (RetE w (urunE l s)) := by
  obtain ⟨A, n, c, rfl⟩ := hv.shape
  obtain ⟨v, hv0⟩ : ∃ v, v = Value.slice A n c := ⟨_, rfl⟩
  rw [← hv0] at hv
  obtain ⟨w1, hw1⟩ : ∃ w1, w1 = (w.alloc (.cells #[v] 22)).alloc (.cells #[.bool s] 4) := ⟨_, rfl⟩
  have hb1 : Below w.heap.size w w1 := by rw [hw1]; exact ((Below.refl _ _).alloc (Nat.le_refl _) _).alloc (by simp) _
  have r2 : Row w1 w.heap.size 22 [v] := by
    have h0 : Row (w.alloc (.cells #[v] 22)) w.heap.size 22 [v] := heap_alloc_new w _
    rw [hw1]; exact h0.alloc _
  have r3 : Row w1 (w.heap.size + 1) 4 [.bool s] := by
    rw [hw1]
    have h0 := heap_alloc_new (w.alloc (.cells #[v] 22)) (.cells #[.bool s] 4)
    rw [show (w.alloc (.cells #[v] 22)).heap.size = w.heap.size + 1 by simp] at h0
    exact h0
  have hz1 : w1.heap.size = w.heap.size + 2 := by rw [hw1]; simp
  obtain ⟨w2, hw2⟩ : ∃ w2, w2 = w1.alloc (.cells kcells.toArray 41) := ⟨_, rfl⟩
  have rg : Row w2 w1.heap.size 41 kcells := by rw [hw2]; exact heap_alloc_new w1 _
  have hz2 : w2.heap.size = w.heap.size + 3 := by rw [hw2]; simp [hz1]
  have HKI := Lib.hid (show Calls Tryz.prog 18 #[] w1 fun e w' => e = .returned (.slice (some ⟨w1.heap.size, 0, none⟩) 4 4) ∧ w' = w2 from (kinds_any w1).mono fun e w' ⟨h1, h2⟩ => ⟨h1, by rw [h2, hw2]⟩)
  obtain ⟨w3, hw3⟩ : ∃ w3, w3 = w2.alloc (.cells #[.slice (some ⟨w1.heap.size, 0, none⟩) 4 4] 36) := ⟨_, rfl⟩
  have r6 : Row w3 w2.heap.size 36 [.slice (some ⟨w1.heap.size, 0, none⟩) 4 4] := by rw [hw3]; exact heap_alloc_new w2 _
  have hb2 : Below w1.heap.size w1 w2 := by rw [hw2]; exact (Below.refl _ _).alloc (Nat.le_refl _) _
  have hb3 : Below w2.heap.size w2 w3 := by rw [hw3]; exact (Below.refl _ _).alloc (Nat.le_refl _) _
  have hb13 := below_then hb2 hb3
  have hbA := below_then hb1 hb13
  have q2 := r2.below hb13 r2.lt
  have q3 := r3.below hb13 r3.lt
  have qg := rg.below hb3 rg.lt
  have HS := Lib.hid (ushortest_run 4 (fun k => (ukinds l s).getD k ([], 1)) w2.heap.size w.heap.size (w.heap.size + 1) w3 (by omega)
    (fun k W hk hW => by
      have t1 := ht.below (below_then hbA hW) ht.lt
      have t2 := hv.below (below_then hbA hW)
      have t6 := r6.below hW r6.lt
      have t3 := q2.below hW q2.lt
      have t4 := q3.below hW q3.lt
      have t5 := qg.below hW qg.lt
      rcases (by omega : k = 0 ∨ k = 1 ∨ k = 2 ∨ k = 3) with rfl | rfl | rfl | rfl
      · exact urun1_0 _ _ _ _ l v s W t1 t2 hl hb t6 t3 t4 t5
      · exact urun1_1 _ _ _ _ l v s W t1 t2 hl hb t6 t3 t4 t5
      · exact urun1_2 _ _ _ _ l v s W t1 t2 hl hb t6 t3 t4 t5
      · exact urun1_3 _ _ _ _ l v s W t1 t2 hl hb t6 t3 t4 t5)
    (fun k hk h0 => by
      have hmem : (ukinds l s).getD k ([], 1) ∈ ukinds l s := by
        unfold ukinds
        rcases (by omega : k = 0 ∨ k = 1 ∨ k = 2 ∨ k = 3) with rfl | rfl | rfl | rfl <;> simp
      exact Nat.pos_of_ne_zero (ukinds_len _ hmem h0)))
  have HE := Lib.hid (show uans (((List.range 4).map fun k => (ukinds l s).getD k ([], 1)).foldl ubest none) = urunE l s by rw [urun_kinds]; rfl)
  rw [HE.out, show ((4 : Nat) : Int) = 4 from rfl, hz2] at HS
  have HB := Lib.hid hbA
  rw [hw3, hz1] at HS HB
  rw [hz1, hw1, hv0] at HKI
  clear ht hv hl hb r2 r3 rg r6 hb1 hb2 hb3 hb13 hbA q2 q3 qg hw2 hw3
  go_enter Tryz.func9, Tryz.ntmps9
  go_wp2_with (first | (go_at_call 18; refine HKI.out.mono ?_; rintro e w' ⟨rfl, rfl⟩) | (go_at_call 19; refine HS.out.mono ?_; rintro e w4 ⟨v4, rfl, hv4, hb4⟩; have HV4 := Lib.hid hv4; have HB4 := Lib.hid (below_then HB.out hb4); clear hv4 hb4))
  go_ret2
  exact ⟨_, rfl, HV4.out, HB4.out⟩
end Go.Proofs.YtnbiopihcbnkpaaGreatDoor
