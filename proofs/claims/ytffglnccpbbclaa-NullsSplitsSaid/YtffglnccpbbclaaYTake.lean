
/- The contract of byterle.Take. -/

import Derived.Test.YtffglnccpbbclaaYPut

namespace Go.Proofs.Ytffglnccpbbclaa

open Go.RowKit Go.Shelf

attribute [local go_sem] Oper.semAt_some

/-- The bytes of the part at a. -/
def spiece (l : List UInt8) (a : Nat) : List UInt8 := (l.drop (a + 1)).take (slen (sAt l a))
theorem spiece_len {l : List UInt8} {a : Nat} (h : Stands l a) : (spiece l a).length = slen (sAt l a) := by
  obtain ⟨h1, h2⟩ := h
  unfold spiece
  rw [List.length_take, List.length_drop, sAt_eq h1]
  omega
/-- So many times the same bytes. -/
def rep (p : List UInt8) : Nat → List UInt8
  | 0 => []
  | k + 1 => rep p k ++ p
theorem rep_len (p : List UInt8) : ∀ k, (rep p k).length = k * p.length
  | 0 => by simp [rep]
  | k + 1 => by rw [rep, List.length_append, rep_len p k, Nat.succ_mul]
theorem rep_one (p : List UInt8) : rep p 1 = p := by simp [rep]
theorem rep_single (x : UInt8) : ∀ k, rep [x] k = List.replicate k x
  | 0 => rfl
  | k + 1 => by rw [rep, rep_single x k, List.replicate_succ']
/-- What the parts come to. -/
def scont {l : List UInt8} (xs : List {a : Nat // Stands l a}) : List UInt8 := xs.flatMap fun x => rep (spiece l x.1) (stimes (sAt l x.1))
theorem scont_snoc {l : List UInt8} (xs : List {a : Nat // Stands l a}) (x : {a : Nat // Stands l a}) : scont (xs ++ [x]) = scont xs ++ rep (spiece l x.1) (stimes (sAt l x.1)) := by simp [scont]
/-- Where they end. -/
def spos {l : List UInt8} (xs : List {a : Nat // Stands l a}) : Nat := (xs.map fun x => 1 + slen (sAt l x.1)).sum
theorem spos_snoc {l : List UInt8} (xs : List {a : Nat // Stands l a}) (x : {a : Nat // Stands l a}) : spos (xs ++ [x]) = spos xs + (1 + slen (sAt l x.1)) := by simp [spos]
theorem spos_chain {l : List UInt8} {xs : List {a : Nat // Stands l a}} {a : Nat} (h : Chain (·.1) (fun x => 1 + slen (sAt l x.1)) xs a) : spos xs = a := by
  induction h with
  | nil => rfl
  | snoc h x hx ih => rw [spos_snoc, ih]
theorem spos_le {l : List UInt8} : ∀ (xs : List {a : Nat // Stands l a}), spos xs ≤ 129 * xs.length
  | [] => by simp [spos]
  | x :: xs => by
    have h1 := spos_le xs
    have h2 := (slen_le (sAt l x.1)).2
    have h3 : spos (x :: xs) = 1 + slen (sAt l x.1) + spos xs := by simp [spos]
    rw [h3, List.length_cons]
    omega
/-- Before each of these parts there were too few. -/
def Few (M : Nat) {l : List UInt8} (xs : List {a : Nat // Stands l a}) : Prop := ∀ ys zs, xs = ys ++ zs → zs ≠ [] → (scont ys).length < M
theorem Few.snoc {M : Nat} {l : List UInt8} {xs : List {a : Nat // Stands l a}} (h : Few M xs) (hl : (scont xs).length < M) (x : {a : Nat // Stands l a}) : Few M (xs ++ [x]) := by
  intro ys zs he hz
  rcases List.eq_nil_or_concat zs with rfl | ⟨zs', z, rfl⟩
  · exact absurd rfl hz
  · rw [List.concat_eq_append, ← List.append_assoc] at he
    have h1 := List.append_inj_left' he rfl
    by_cases h2 : zs' = []
    · subst h2
      rw [List.append_nil] at h1
      rw [← h1]; exact hl
    · exact h ys zs' h1 h2
theorem Few.left {M : Nat} {l : List UInt8} {xs : List {a : Nat // Stands l a}} {x : {a : Nat // Stands l a}} (h : Few M (xs ++ [x])) : Few M xs ∧ (scont xs).length < M :=
  ⟨fun ys zs he hz => h ys (zs ++ [x]) (by rw [he, List.append_assoc]) (by simp), h xs [x] rfl (by simp)⟩
theorem left_chain {l : List UInt8} {M : Nat} {xs : List {a : Nat // Stands l a}} {a : Nat} (h : Chain (·.1) (fun x => 1 + slen (sAt l x.1)) xs a) : Few M xs → YLeft l M a (scont xs) := by
  induction h with
  | nil => exact fun _ => YLeft.start l M
  | snoc h x hx ih =>
    intro hf
    obtain ⟨hf1, hf2⟩ := hf.left
    have h1 := ih hf1
    obtain ⟨x, h3, h4⟩ := x
    dsimp only at hx
    subst hx
    rw [scont_snoc]
    dsimp only
    unfold spiece
    rw [sAt_eq h3]
    by_cases h128 : l[x].toNat < 128
    · have e1 : slen l[x] = 1 := by unfold slen; rw [if_pos h128]
      have e2 : stimes l[x] = l[x].toNat + 3 := by unfold stimes; rw [if_pos h128]
      rw [e1] at h4
      have e3 : (l.drop (x + 1)).take 1 = [l[x + 1]] := by rw [drop_at (by omega)]; rfl
      rw [e1, e2, e3, rep_single]
      exact h1.run hf2 (by omega) rfl h128
    · have e1 : slen l[x] = 256 - l[x].toNat := by unfold slen; rw [if_neg h128]
      have e2 : stimes l[x] = 1 := by unfold stimes; rw [if_neg h128]
      rw [e1] at h4
      rw [e1, e2, rep_one, ← Nat.add_assoc]
      exact h1.list hf2 h3 rfl h128 (by omega)
theorem end_none {l m : List UInt8} {M a : Nat} (h : YLeft l M a m) (hm : m.length < M) (ha : ¬ Stands l a) (hal : a ≤ l.length) : ytake M l = none := by
  by_cases h1 : a < l.length
  · by_cases h128 : l[a].toNat < 128
    · refine h.short hm ?_
      have e1 : slen l[a] = 1 := by unfold slen; rw [if_pos h128]
      have : ¬ a + 1 + 1 ≤ l.length := fun h2 => ha ⟨h1, by rw [e1]; exact h2⟩
      omega
    · have e1 : slen l[a] = 256 - l[a].toNat := by unfold slen; rw [if_neg h128]
      have : ¬ a + 1 + (256 - l[a].toNat) ≤ l.length := fun h2 => ha ⟨h1, by rw [e1]; exact h2⟩
      exact h.cut hm h1 rfl h128 (by omega)
  · exact h.short hm (by omega)

/-- whole hands out a function value that captures a box with the bytes. -/
theorem whole_any (v : Value) (w : World) (hv : ∃ A n c, v = .slice A n c) :
    Calls Try.prog 48 #[v] w (fun e w' => e = .returned (.func (.func 52) #[] #[.pointer (some ⟨w.heap.size, 0, none⟩)]) ∧ w' = w.alloc (.cells #[v] 34)) := by
  obtain ⟨A, n, c, rfl⟩ := hv
  go_enter Try.func48, Try.ntmps48
  go_wp2
  go_ret
  exact ⟨rfl, rfl⟩

/-- Between two rounds: what the boxes hold (out: g, at: g + 1, many: z, the iterator's bytes: g + 2). -/
def TakeI (l : List UInt8) (M : Nat) (A : Option Addr) (n c g : Nat) (w : World) (pre : List {a : Nat // Stands l a}) (W : World) : Prop :=
  (∃ v, Boxed W g 34 v ∧ W.ownsRow w.heap.size 5 1 v (scont pre).length ((scont pre).map bv) ∧ True) ∧
    ((Row W (g + 1) 3 [.int .i64 (spos pre : Int)] ∧ Row W w.heap.size 3 [.int .i64 (M : Int)]) ∧ (Row W (g + 2) 34 [.slice A n c] ∧ Below w.heap.size w W)) ∧ Few M pre
theorem takeI_own (l : List UInt8) (M : Nat) (A : Option Addr) (n c g B : Nat) (w : World) (hB : w.heap.size ≤ B) : OwnFrom B (TakeI l M A n c g w) :=
  OwnFrom.and (Own.from (holdsRow_own w.heap.size g 34 5 1 (fun pre => (scont pre).length) (fun pre => (scont pre).map bv) (fun _ _ => True)) _)
    (OwnFrom.and (OwnFrom.and (OwnFrom.and (Own.from (row_own (g + 1) 3 (fun pre => [.int .i64 (spos pre : Int)])) _) (Own.from (row_own w.heap.size 3 (fun _ => [.int .i64 (M : Int)])) _))
      (OwnFrom.and (Own.from (row_own (g + 2) 34 (fun _ => [.slice A n c])) _) (ownFrom_below (Nat.le_refl _) hB))) (ownFrom_pure _ _))
/-- A round has been left: ahead of its part there were enough. -/
def TakeX (l : List UInt8) (M : Nat) (A : Option Addr) (n c g : Nat) (w : World) (x : Code) (s : List {a : Nat // Stands l a}) (W : World) : Prop :=
  x = .exit 0 ∧ ∃ pre y, s = pre ++ [y] ∧ M ≤ (scont pre).length ∧ TakeI l M A n c g w pre W
def InRel (g t : Nat) (M P : Int) (out piece : List UInt8) (w W : World) (v : Value) (wr : World) : Prop :=
  ∃ (j : Nat) (u : Value), v = .int .i64 (j : Int) ∧ j ≤ t ∧ Boxed wr g 34 u ∧ wr.ownsRow w.heap.size 5 1 u (out ++ rep piece j).length ((out ++ rep piece j).map bv) ∧
    Row wr (g + 1) 3 [.int .i64 P] ∧ Row wr w.heap.size 3 [.int .i64 M] ∧ KeepsOthers W wr ∧ Kps (g + 2) 70 w.heap.size W wr

set_option maxHeartbeats 4000000 in
set_option maxRecDepth 100000 in
theorem btake_any (l : List UInt8) (v : Value) (many : Int) (w : World) (hv : IsB l v w) (hb : l.length ≤ 1000000) :
    Calls Try.prog 38 #[v, .int .i64 many] w (RetBB w (ytakeE l many)) := by
  obtain ⟨A, c, rfl, hA, hnc, hcm, hl⟩ := hv
  obtain ⟨n, hn⟩ : ∃ n, n = l.length := ⟨_, rfl⟩
  rw [← hn] at hA hnc hb ⊢
  have hci : (c : Int) ≤ 9223372036854775807 := by unfold maxLen at hcm; omega
  by_cases h0 : many < 0
  · have hE := Lib.hid (ytakeE_arg (l := l) (Or.inl h0))
    have d1 : decide (many < 0) = true := decide_eq_true h0
    clear hn hl hcm hA hnc
    go_enter Try.func38, Try.ntmps38
    go_wp2
    go_ret3
    rw [hE.out]
    exact RetBB.nil _ ((Below.refl _ _).alloc (Nat.le_refl _) _)
  · have d1 : decide (many < 0) = false := decide_eq_false h0
    by_cases h4 : 4096 < many
    · have hE := Lib.hid (ytakeE_arg (l := l) (Or.inr h4))
      have d2 : decide ((4096 : Int) < many) = true := decide_eq_true h4
      clear hn hl hcm hA hnc
      go_enter Try.func38, Try.ntmps38
      go_wp2
      go_ret3
      rw [hE.out]
      exact RetBB.nil _ ((Below.refl _ _).alloc (Nat.le_refl _) _)
    · obtain ⟨M, rfl⟩ := Int.eq_ofNat_of_zero_le (show 0 ≤ many by omega)
      have hM : M ≤ 4096 := by omega
      have d2 : decide ((4096 : Int) < (M : Int)) = false := decide_eq_false (by omega)
      have HN := Lib.hid hn
      have HS := Lib.hid fun (W : World) => whole_any (.slice A n c) W ⟨_, _, _, rfl⟩
      have hW0 : Below w.heap.size w (w.alloc (.cells #[.int .i64 (M : Int)] 3)) := (Below.refl _ _).alloc (Nat.le_refl _) _
      have hZ0 : w.heap.size ≤ (w.alloc (.cells #[.int .i64 (M : Int)] 3)).heap.size := hW0.size
      have hR0 : Row (w.alloc (.cells #[.int .i64 (M : Int)] 3)) w.heap.size 3 [.int .i64 (M : Int)] := heap_alloc_new w _
      refine (callsIn_wide (n := 9)).1 ?_
      refine callsIn_of_wp_marks Try.func38 rfl trivial ?_ rfl
      simp only [Try.ntmps38, List.size_toArray, List.length_cons, List.length_nil, Nat.reduceAdd, Nat.reduceSub, Array.replicate_succ, Array.replicate_zero, List.push_toArray, List.append_toArray, List.nil_append, List.cons_append]
      clear hn
      refine wpIn_wide.2 ?_
      have hZ1 : w.heap.size + 1 ≤ (w.alloc (.cells #[.int .i64 (M : Int)] 3)).heap.size := by simp
      go_wp2_with (refine wpList_make0 elemB rfl _ _ rfl .i64 .i64 (M : Int) M (w.heap.size + 1) (w.alloc (.cells #[.int .i64 (M : Int)] 3)) rfl rfl rfl (by omega) (by omega) (Below.refl _ _) hZ1 ?_)
      intro w1 hown1 hb1 hz1
      have hm1 : Row w1 w.heap.size 3 [.int .i64 (M : Int)] := hR0.below hb1 (by omega)
      have hB1 : Below w.heap.size w w1 := hW0.trans (hb1.mono (by omega))
      have hown2 : w1.ownsRow w.heap.size 5 1 (.slice (some ⟨w.heap.size + 1, 0, none⟩) 0 M) 0 [] := own_le hown1 (by omega)
      obtain ⟨g, hg⟩ : ∃ g, g = w1.heap.size := ⟨_, rfl⟩
      have HG := Lib.hid hg
      clear hown1 hb1 hW0 hZ0 hR0 hZ1
      -- THE LOOP
      go_wp2_with fail
      refine (HS.out _).mono ?_
      rintro e w' ⟨rfl, rfl⟩
      have bO : Boxed (((w1.alloc (.cells #[.slice (some ⟨w.heap.size + 1, 0, none⟩) 0 M] 34)).alloc (.cells #[.int .i64 0] 3)).alloc (.cells #[.slice A n c] 34)) w1.heap.size 34 (.slice (some ⟨w.heap.size + 1, 0, none⟩) 0 M) := ((Boxed.new w1 _ _).alloc _).alloc _
      have bP : Row (((w1.alloc (.cells #[.slice (some ⟨w.heap.size + 1, 0, none⟩) 0 M] 34)).alloc (.cells #[.int .i64 0] 3)).alloc (.cells #[.slice A n c] 34)) (w1.heap.size + 1) 3 [.int .i64 0] := by
        have h := (show Row ((w1.alloc (.cells #[.slice (some ⟨w.heap.size + 1, 0, none⟩) 0 M] 34)).alloc (.cells #[.int .i64 0] 3)) (w1.alloc (.cells #[.slice (some ⟨w.heap.size + 1, 0, none⟩) 0 M] 34)).heap.size 3 [.int .i64 0] from heap_alloc_new _ _).alloc (.cells #[.slice A n c] 34)
        rwa [World.size_alloc] at h
      have bN : Row (((w1.alloc (.cells #[.slice (some ⟨w.heap.size + 1, 0, none⟩) 0 M] 34)).alloc (.cells #[.int .i64 0] 3)).alloc (.cells #[.slice A n c] 34)) (w1.heap.size + 2) 34 [.slice A n c] := by
        have h := (show Row (((w1.alloc (.cells #[.slice (some ⟨w.heap.size + 1, 0, none⟩) 0 M] 34)).alloc (.cells #[.int .i64 0] 3)).alloc (.cells #[.slice A n c] 34)) ((w1.alloc (.cells #[.slice (some ⟨w.heap.size + 1, 0, none⟩) 0 M] 34)).alloc (.cells #[.int .i64 0] 3)).heap.size 34 [.slice A n c] from heap_alloc_new _ _)
        rwa [World.size_alloc, World.size_alloc] at h
      have hb3 : Below w1.heap.size w1 (((w1.alloc (.cells #[.slice (some ⟨w.heap.size + 1, 0, none⟩) 0 M] 34)).alloc (.cells #[.int .i64 0] 3)).alloc (.cells #[.slice A n c] 34)) := (((Below.refl _ w1).alloc (Nat.le_refl _) _).alloc (by simp) _).alloc (by simp; omega) _
      have hm3 : Row (((w1.alloc (.cells #[.slice (some ⟨w.heap.size + 1, 0, none⟩) 0 M] 34)).alloc (.cells #[.int .i64 0] 3)).alloc (.cells #[.slice A n c] 34)) w.heap.size 3 [.int .i64 (M : Int)] := hm1.below hb3 hm1.lt
      have hB3 : Below w.heap.size w (((w1.alloc (.cells #[.slice (some ⟨w.heap.size + 1, 0, none⟩) 0 M] 34)).alloc (.cells #[.int .i64 0] 3)).alloc (.cells #[.slice A n c] 34)) := hB1.trans (hb3.mono hB1.size)
      have hown3 := own_later hown2 hb3
      have hwg : w.heap.size + 2 ≤ w1.heap.size := by
        have := (own_shape hown2)
        have h := hz1
        have h2 := hown2.lt
        have h3 := (h2 (w.heap.size + 1) rfl).2
        omega
      obtain ⟨w3, hw3⟩ : ∃ w3, w3 = (((w1.alloc (.cells #[.slice (some ⟨w.heap.size + 1, 0, none⟩) 0 M] 34)).alloc (.cells #[.int .i64 0] 3)).alloc (.cells #[.slice A n c] 34)) := ⟨_, rfl⟩
      have hs3 : w3.heap.size = w1.heap.size + 3 := by rw [hw3]; simp
      rw [← hw3] at bO bP bN hb3 hm3 hB3 hown3 ⊢
      clear hw3 hb3 hown2 hm1 hB1
      go_wp2_with fail
      refine (wpIn_wide (n := 9)).1 ?_
      refine wpIn_rangeFunc_ownH rfl (by omega) (gf := 52) (lb := #[.pointer (some ⟨w1.heap.size + 2, 0, none⟩)]) rfl trivial (enters_of Try.func52 (by kernel_rfl) rfl)
        (whole_stops l A n c (w1.heap.size + 2) w _ HN.out.symm hb hnc hcm hl hB3 bN 8 (by omega)) (fun h k => Kps.trans h k) (Kps.turn (by omega) (by omega)) (Below.refl _ _) (fun _ => rfl)
        (TakeI l M A n c w1.heap.size w) (TakeX l M A n c w1.heap.size w) (takeI_own l M A n c w1.heap.size _ w (by omega))
        (fun _ s X Y row ⟨h1, pre, y, h2, h3, h4⟩ hg hr => ⟨h1, pre, y, h2, h3, takeI_own l M A n c w1.heap.size _ w (by omega) pre X Y row h4 hg hr⟩)
        ⟨⟨_, bO, hown3, trivial⟩, ⟨⟨bP, hm3⟩, bN, hB3⟩, fun ys zs he hz => by simp at he; exact absurd he.2 hz⟩
        (fun x a' W => ∃ Bx, Row W Bx 70 [.slice (addrAt A (x.1 + 1)) (slen (sAt l x.1)) (c - x.1 - 1), .int .i64 (stimes (sAt l x.1) : Int)] ∧ a' = { tmps := #[.slice A n c, .int .i64 (M : Int), undef, .pointer (some ⟨w.heap.size, 0, none⟩), .slice none 0 0, .slice none 0 0, .int .i64 0, .pointer (some ⟨w1.heap.size, 0, none⟩), .pointer (some ⟨w1.heap.size + 1, 0, none⟩), .pointer (some ⟨Bx, 0, none⟩), .int .i64 (M : Int), .bool false, .bool false, .int .i64 (M : Int), .bool false, .bool false, .int .i64 (M : Int), .slice (some ⟨w.heap.size + 1, 0, none⟩) 0 M, .slice A n c, .func (.func 52) #[] #[.pointer (some ⟨w1.heap.size + 2, 0, none⟩)], wholeV A c l x.1, undef, undef, undef, undef, undef, undef, undef, undef, undef, undef, undef, undef, undef, undef, undef, undef, undef, undef, undef, undef, undef, undef, undef, undef, undef, undef], defers := [] })
        (fun x a' s X Y row hs hg hrow => by
          obtain ⟨Bx, h2, h3⟩ := hs
          exact ⟨Bx, (Own.from (row_own Bx 70 (fun (_ : Unit) => _)) _) () X Y row h2 hg hrow, h3⟩)
        ?assign ?body ?done ?stop
      case assign =>
        rintro q pre x W K ⟨⟨v, hv, hrow, _⟩, ⟨⟨hp, hm⟩, hbs, hB⟩, hf⟩ hK
        unfold wholeV
        gi_wp2
        exact hK _ _ ((KeepsOthers.alloc _ _).from _) (Kps.of_below ((Below.refl _ W).alloc (Nat.le_refl _) _) hB.size) ⟨⟨v, hv.alloc _, hrow.alloc _, trivial⟩, ⟨⟨Row.alloc hp _, Row.alloc hm _⟩, Row.alloc hbs _, hB.alloc hB.size _⟩, hf⟩ ⟨W.heap.size, heap_alloc_new W _, rfl⟩
      case body =>
        rintro q pre x a' W _ _ ⟨⟨v, hv, hrow, _⟩, ⟨⟨hp, hm⟩, hbs, hB⟩, hf⟩ ⟨Bx, bX, rfl⟩ hlt
        have hI : TakeI l M A n c w1.heap.size w pre W := ⟨⟨v, hv, hrow, trivial⟩, ⟨⟨hp, hm⟩, hbs, hB⟩, hf⟩
        have HI := Lib.hid hI
        obtain ⟨a, hS⟩ := x
        dsimp only at bX ⊢
        unfold wholeV
        obtain ⟨B1, hB1⟩ : ∃ B1, B1 = addrAt A (a + 1) := ⟨_, rfl⟩
        obtain ⟨k, hk⟩ : ∃ k, k = slen (sAt l a) := ⟨_, rfl⟩
        obtain ⟨t, ht⟩ : ∃ t, t = stimes (sAt l a) := ⟨_, rfl⟩
        obtain ⟨P, hP⟩ : ∃ P, P = spos pre := ⟨_, rfl⟩
        obtain ⟨out, hout⟩ : ∃ out, out = scont pre := ⟨_, rfl⟩
        obtain ⟨piece, hpc⟩ : ∃ piece, piece = spiece l a := ⟨_, rfl⟩
        rw [← hB1, ← hk, ← ht] at bX ⊢
        rw [← hP] at hp
        rw [← hout] at hrow
        have hal := hS.2
        rw [← sAt_eq hS.1, ← hk] at hal
        have hk1 : 1 ≤ k ∧ k ≤ 128 := by rw [hk]; exact slen_le _
        have ht1 : 1 ≤ t ∧ t ≤ 130 := by rw [ht]; exact stimes_le _
        have hkt : k * t ≤ 130 := by rw [hk, ht]; exact slen_stimes _
        have hpl : piece.length = k := by rw [hpc, hk]; exact spiece_len hS
        have hPle : P ≤ 129 * pre.length := by rw [hP]; exact spos_le pre
        obtain ⟨L, hL⟩ : ∃ L, L = out.length := ⟨_, rfl⟩
        rw [← hL] at hrow
        obtain ⟨B, cb, rfl, _, _, _, _, _⟩ := own_shape hrow
        have HL := Lib.hid hL
        have HOUT := Lib.hid hout
        have HPC := Lib.hid hpc
        have HP := Lib.hid hP
        have HK := Lib.hid hk
        have HT := Lib.hid ht
        have HB1 := Lib.hid hB1
        have HF := Lib.hid hf
        have hc1 := hv.cell
        have hc2 := hm.cell 0
        simp only [List.getElem?_cons_zero] at hc2
        clear hL hout hpc hP hk ht hB1 hI hf
        by_cases hML : M ≤ L
        · have d1 : decide (M ≤ L) = true := decide_eq_true hML
          have hMo : M ≤ (scont pre).length := by rw [← HOUT.out, ← HL.out]; exact hML
          have HMO := Lib.hid hMo
          clear hMo bX hv hm hp hbs hB hrow hpl
          gi_wp2
          exact ⟨KeepsFrom.refl _ _, rfl, pre, ⟨a, hS⟩, rfl, HMO.out, HI.out⟩
        · have d1 : decide (M ≤ L) = false := decide_eq_false hML
          have hLM : L < M := by omega
          have hx1 := bX.cell 1
          simp only [List.getElem?_cons_succ, List.getElem?_cons_zero] at hx1
          have hst : InRel w1.heap.size t (M : Int) (P : Int) out piece w W (.int .i64 0) W :=
            ⟨0, _, rfl, by omega, hv, by rw [rep, List.append_nil, ← HL.out]; exact hrow, hp, hm, KeepsOthers.refl _, Kps.refl _ _ _ _⟩
          have HST := Lib.hid hst
          have HBX := Lib.hid bX
          have HBS := Lib.hid hbs
          have HB := Lib.hid hB
          have HV := Lib.hid hv
          have HPL := Lib.hid hpl
          clear hv hm hp hbs hB hrow hst bX hpl
          gi_wp2
          gi_loopw [27] (InRel w1.heap.size t (M : Int) (P : Int) out piece w W) (fun v _ => t - (intOf v).toNat)
          case atStart => exact HST.out
          case round =>
            obtain ⟨j, u, rfl, hj, hbo, hown, hpo, hmo, hko, hkp⟩ := hrel
            have hjk : j * k ≤ 130 := by
              have h1 := Nat.mul_le_mul_right k hj
              rw [Nat.mul_comm t k] at h1
              omega
            obtain ⟨Lj, hLj⟩ : ∃ Lj, Lj = (out ++ rep piece j).length := ⟨_, rfl⟩
            have hLjb : Lj ≤ 5000 := by rw [hLj, List.length_append, rep_len, ← HL.out, HPL.out]; omega
            have hBr : Below w.heap.size w wr := HB.out.trans hkp.1
            have hbr := hkp.row HBX.out
            have hbsr := hkp.box HBS.out
            have hco := hbo.cell
            have hx0 := hbr.cell 0
            simp only [List.getElem?_cons_zero] at hx0
            by_cases hjt : j < t
            · have hjti : (j : Int) < (t : Int) := by omega
              have hlr : Lies wr B1 (piece.map bv) := by
                have h1 := (hl.below hBr).drop (k := a + 1) (cap := c) (by rw [List.length_map]; have := HN.out; omega)
                have h0 := HN.out
                rw [if_neg (by omega)] at h1
                have h2 := h1.take k
                rw [← List.map_drop, ← List.map_take, HK.out] at h2
                rw [HPC.out, HB1.out]
                exact h2
              have hA1 : B1 = none → k = 0 := by
                intro h
                rw [HB1.out] at h
                have := hA (by simpa [addrAt] using h)
                have := HN.out
                omega
              have hpm : (piece.map bv).length = k := by rw [List.length_map]; exact HPL.out
              have HPM := Lib.hid hpm
              have hrow4 : (out ++ rep piece (j + 1)).length = Lj + k := by rw [rep, ← List.append_assoc, List.length_append, ← hLj, HPL.out]
              have hmap4 : (out ++ rep piece (j + 1)).map bv = (out ++ rep piece j).map bv ++ piece.map bv := by rw [rep, ← List.append_assoc, List.map_append]
              rw [← hLj] at hown
              obtain ⟨ml, hml⟩ : ∃ ml, ml = (out ++ rep piece j).map bv := ⟨_, rfl⟩
              rw [← hml] at hown hmap4
              obtain ⟨Bu, cu, rfl, _, _, _, _, _⟩ := own_shape hown
              have HR4 := Lib.hid hrow4
              have HM4 := Lib.hid hmap4
              have HKO := Lib.hid hko
              have HKP := Lib.hid hkp
              have HBO := Lib.hid hbo
              have HBSR := Lib.hid hbsr
              have HPO := Lib.hid hpo
              have HMO := Lib.hid hmo
              clear hLj hrow4 hmap4 hml hpm hko hkp hbo hbr hbsr hpo hmo
              have hz := hBr.size
              gi_wp2_with (gi_at_builtin; refine wpListIn_plainly (by kernel_rfl) ?_; refine wpList_join elemB rfl _ _ rfl w.heap.size _ _ _ _ _ _ (piece.map bv) w rfl rfl hA1 HPM.out hlr (bv_one _) hown hBr hz (by omega) (by omega) ?_)
              intro v4 w4 hown4 hb4 hg4 _
              obtain ⟨pb1, pb2, pb3, pb4⟩ := Boxed.put HBO.out (by decide) hown hown4 hg4
              have pk := Kps.append (T := 70) hown (Nat.le_refl _) (by decide) HBSR.out (by decide) hg4 hz
              have pp := (Row.kept HPO.out (by decide) hown hg4).far (p := ⟨w1.heap.size, 0, none⟩) (show w1.heap.size + 1 ≠ w1.heap.size by omega) v4
              have pm := (Row.kept HMO.out (by decide) hown hg4).far (p := ⟨w1.heap.size, 0, none⟩) (show w.heap.size ≠ w1.heap.size by omega) v4
              obtain ⟨B4, c4, rfl, _, _, _, _, _⟩ := own_shape hown4
              have hcw := pb1.cell
              have hfw := pb1.frozen
              have hrel : InRel w1.heap.size t (M : Int) (P : Int) out piece w W (.int .i64 ((j + 1 : Nat) : Int)) (w4.setCell ⟨w1.heap.size, 0, none⟩ (.slice B4 (Lj + k) c4)) :=
                ⟨j + 1, _, rfl, hjt, pb2, by rw [HR4.out, HM4.out]; exact pb3, pp, pm, HKO.out.trans pb4, (HKP.out.trans pk).trans (Kps.set pb1 (by decide) (by omega) (by omega) _)⟩
              have HREL := Lib.hid hrel
              clear pb1 pb2 pb3 pb4 pk pp pm hown4 hg4 hown hBr hz hlr hA1 hb4 hrel hco hx0
              go_wp2
              refine goesOn_normal ?_
              gi_wp2
              go_roundw
              case rel => exact HREL.out
              case measure => simp [intOf]; omega
            · obtain rfl : j = t := by omega
              have hjti : ¬ (j : Int) < (j : Int) := by omega
              have hcont : scont (pre ++ [⟨a, hS⟩]) = out ++ rep piece j := by rw [scont_snoc, ← HOUT.out, HPC.out, HT.out]
              have hpos : (spos (pre ++ [⟨a, hS⟩]) : Int) = (P : Int) + ((1 + k : Nat) : Int) := by rw [spos_snoc, ← HP.out, HK.out]; exact Int.natCast_add _ _
              have hfew : Few M (pre ++ [⟨a, hS⟩]) := HF.out.snoc (by rw [← HOUT.out, ← HL.out]; exact hLM) ⟨a, hS⟩
              have HCT := Lib.hid hcont
              have HPS := Lib.hid hpos
              have HFW := Lib.hid hfew
              have HKO := Lib.hid hko
              have HKP := Lib.hid hkp
              have HBO := Lib.hid hbo
              have HBSR := Lib.hid hbsr
              have HPO := Lib.hid hpo
              have HMO := Lib.hid hmo
              have HBR := Lib.hid hbr
              have HOWN := Lib.hid hown
              have HBW := Lib.hid hBr
              clear hcont hpos hfew hko hkp hbo hbsr hpo hmo hbr hown hBr hLj hco hx0
              gi_wp2_with fail
              refine wpIn_round_any (by kernel_rfl) (by kernel_rfl) ?_
              refine wpAny_region_list_tail 4 [.is (.int .i64 (P : Int)), .is (.agg #[.slice B1 k (c - a - 1), .int .i64 (j : Int)]), .is (.int .i64 ((1 + k : Nat) : Int)), .is (.int .i64 ((P : Int) + ((1 + k : Nat) : Int)))] [some 34, some 35, some 36, some 37] (by kernel_rfl) (by kernel_rfl) (by kernel_rfl) rfl ⟨?_, ?_, ?_, ?_, trivial⟩ ?_
              · intro ρ W1 hb1 H
                exact gives_load rfl (H.old 8 _ (by kernel_rfl) rfl) Try.underlying3 rfl ((HPO.out.below hb1 HPO.out.lt).cell 0) ⟨rfl, Below.refl _ _⟩
              · intro ρ W1 hb1 H
                exact gives_load_row rfl (H.old 9 _ (by kernel_rfl) rfl) Try.underlying70 rfl (by kernel_rfl) (HBR.out.below hb1 HBR.out.lt) ⟨rfl, Below.refl _ _⟩
              · intro ρ W1 hb1 H
                have e1 : ρ (.tmp 35) = .agg #[.slice B1 k (c - a - 1), .int .i64 (j : Int)] := H.new 35 1 (by kernel_rfl)
                refine gives_call rfl (fun _ _ => by kernel_rfl) (H.func _) (args := #[.agg #[.slice B1 k (c - a - 1), .int .i64 (j : Int)]]) (by simp [e1]) ?_
                exact (ysize_any _ k _ (.int .i64 (j : Int)) W1 (by omega)).mono fun _ _ h => ⟨_, h.1, rfl, h.2⟩
              · intro ρ W1 hb1 H
                have e1 : ρ (.tmp 34) = .int .i64 (P : Int) := H.new 34 0 (by kernel_rfl)
                have e2 : ρ (.tmp 36) = .int .i64 ((1 + k : Nat) : Int) := H.new 36 2 (by kernel_rfl)
                exact gives_add rfl e1 e2 (by omega) (by omega) ⟨rfl, Below.refl _ _⟩
              · intro vs W1 hb1 hfs
                have f0 : vs 0 = .int .i64 (P : Int) := hfs 0 (by decide)
                have f1 : vs 1 = .agg #[.slice B1 k (c - a - 1), .int .i64 (j : Int)] := hfs 1 (by decide)
                have f2 : vs 2 = .int .i64 ((1 + k : Nat) : Int) := hfs 2 (by decide)
                have f3 : vs 3 = .int .i64 ((P : Int) + ((1 + k : Nat) : Int)) := hfs 3 (by decide)
                clear hfs
                simp only [putAll, Nat.zero_add, Nat.reduceAdd, List.drop_succ_cons, List.drop_zero]
                rw [f0, f1, f2, f3]
                obtain ⟨S, hS2⟩ : ∃ S : Nat, (P : Int) + ((1 + k : Nat) : Int) = (S : Int) := ⟨P + (1 + k), by omega⟩
                rw [hS2]
                have hpo1 := HPO.out.below hb1 HPO.out.lt
                have hcp := hpo1.cell 0
                have hfp := hpo1.free 0
                simp only [List.getElem?_cons_zero] at hcp
                have HPO1 := Lib.hid hpo1
                have HS2 := Lib.hid hS2
                have HB11 := Lib.hid hb1
                clear f0 f1 f2 f3 hS2 hpo1 hb1
                go_wp2
                refine goesOn_normal ?_
                have hu := Kps.set (Bs := w1.heap.size + 2) (T := 70) (n₀ := w.heap.size) (show Boxed W1 (w1.heap.size + 1) 3 (.int .i64 (P : Int)) from HPO1.out) (by decide) (by omega) (by omega) (.int .i64 (S : Int))
                have hown5 := (own_later HOWN.out HB11.out).kept (grownBy_setCell' W1 (w1.heap.size + 1) (.int .i64 (S : Int))) (.inr ((show Boxed W1 (w1.heap.size + 1) 3 (.int .i64 (P : Int)) from HPO1.out).not_row (by decide) (own_later HOWN.out HB11.out)).symm)
                have hkps : Kps (w1.heap.size + 2) 70 w.heap.size W (W1.setCell ⟨w1.heap.size + 1, 0, none⟩ (.int .i64 (S : Int))) := (HKP.out.trans (Kps.of_below HB11.out HBW.out.size)).trans hu
                have HU := Lib.hid hkps
                have HOWN5 := Lib.hid hown5
                clear hu hown5 hkps hcp hfp
                gi_wp2
                refine ⟨((HKO.out.trans (below_others HB11.out)).trans (KeepsOthers.setCell _ _ _)).from _, HU.out, ⟨_, (Row.below HBO.out HB11.out (Row.lt HBO.out)).far (p := ⟨w1.heap.size + 1, 0, none⟩) (show w1.heap.size ≠ w1.heap.size + 1 by omega) _, ?_, trivial⟩, ⟨⟨?_, (HMO.out.below HB11.out HMO.out.lt).far (p := ⟨w1.heap.size + 1, 0, none⟩) (show w.heap.size ≠ w1.heap.size + 1 by omega) _⟩, HU.out.box HBS.out, HB.out.trans HU.out.1⟩, HFW.out⟩
                · rw [HCT.out]; exact HOWN5.out
                · have h := HPO1.out.set_ 0 (.int .i64 (S : Int))
                  rw [HPS.out, HS2.out]
                  exact h
      case done =>
        rintro D xs W hD ⟨a, hch, hal, hns⟩ ⟨⟨v, hv, hrow, _⟩, ⟨⟨hp, hm⟩, hbs, hB⟩, hf⟩ hK
        have hleft := left_chain hch hf
        have hres : (scont xs).length < M → ytake M l = none := fun h => end_none hleft h hns hal
        clear hns
        have hsp : spos xs = a := spos_chain hch
        rw [hsp] at hp
        obtain ⟨m, hmm⟩ : ∃ m, m = scont xs := ⟨_, rfl⟩
        have hrow := hrow
        rw [← hmm] at hleft hres hrow
        have hal' : a ≤ n := by have := HN.out; omega
        obtain ⟨L, hL⟩ : ∃ L, L = m.length := ⟨_, rfl⟩
        rw [← hL] at hrow hres
        obtain ⟨B, cb, rfl, _, _, _, _, _⟩ := own_shape hrow
        have HB := Lib.hid hB
        have HV := Lib.hid hv
        have HP := Lib.hid hp
        have HROW := Lib.hid hrow
        have HLM := Lib.hid hL
        have HKD := Lib.hid hK
        have hc1 := hv.cell
        have hc2 := hm.cell 0
        simp only [List.getElem?_cons_zero] at hc2
        have hDw : w3.heap.size ≤ D := hD
        by_cases hLM : L = M
        · subst hLM
          have hE := Lib.hid (ytakeE_some hM (p := m) (q := l.drop a) (by rw [hL]; rw [hL] at hleft; exact hleft.done))
          obtain ⟨v6, hv6, hi6⟩ := from_named (P := Try.prog) (w := W) elemB (k := a) hal' hnc hcm HN.out.symm (hl.below hB) hA
          have HV6 := Lib.hid hv6
          have HI6 := Lib.hid hi6
          have d1 : ((L : Int) != (L : Int)) = false := by simp
          have d2 : ((L : Int) == (L : Int)) = true := by simp
          clear hmm hleft hres hv hm hp hbs hB hrow hL hK hD hv6 hi6
          go_wp2
          refine wp_region_list [.is (.slice B L cb), .is (.slice A n c), .is (.int .i64 (a : Int)), .is v6, .bytes (l.drop a), .is (.slice B L cb), .bytes (l.drop a), .is (.int .i64 0)] [some 42, some 43, some 44, some 45, some 46, some 4, some 5, some 6] (by kernel_rfl) (by kernel_rfl) (by kernel_rfl) rfl ⟨?_, ?_, ?_, ?_, ?_, ?_, ?_, ?_, trivial⟩ ?_
          · intro ρ W1 hb1 H
            exact gives_load rfl (H.old 7 _ (by kernel_rfl) rfl) Try.underlying34 rfl ((hb1.cell HV.out.lt).trans HV.out.cell) ⟨rfl, Below.refl _ _⟩
          · intro ρ W1 hb1 H
            exact gives_move rfl (H.old 0 _ (by kernel_rfl) rfl) ⟨rfl, Below.refl _ _⟩
          · intro ρ W1 hb1 H
            exact gives_load rfl (H.old 8 _ (by kernel_rfl) rfl) Try.underlying3 rfl ((HP.out.below hb1 HP.out.lt).cell 0) ⟨rfl, Below.refl _ _⟩
          · intro ρ W1 hb1 H
            have e1 : ρ (.tmp 43) = .slice A n c := H.new 43 1 (by kernel_rfl)
            have e2 : ρ (.tmp 44) = .int .i64 (a : Int) := H.new 44 2 (by kernel_rfl)
            exact gives_slice rfl e1 (lo' := some (.int .i64 (a : Int))) (by simp [e2]) (hi' := none) rfl (mx' := none) rfl (HV6.out W1) ⟨rfl, Below.refl _ _⟩
          · intro ρ W1 hb1 H
            have e1 : ρ (.tmp 45) = v6 := H.new 45 3 (by kernel_rfl)
            exact gives_copy elemB rfl (H.const _) e1 (HI6.out.below hb1) (by rw [List.length_drop]; have := HN.out; omega) fun v' w' h1 h2 => ⟨h1, h2⟩
          · intro ρ W1 hb1 H
            exact gives_assign rfl (H.new 42 0 (by kernel_rfl)) ⟨rfl, Below.refl _ _⟩
          · intro ρ W1 hb1 H
            have e1 : IsB (l.drop a) (ρ (.tmp 46)) W1 := H.new 46 4 (by kernel_rfl)
            exact gives_assign rfl rfl ⟨e1, Below.refl _ _⟩
          · intro ρ W1 hb1 H
            exact gives_assign rfl (H.const _) ⟨rfl, Below.refl _ _⟩
          · intro vs W1 hb1 hfs
            have f5 : vs 5 = .slice B L cb := hfs 5 (by decide)
            have f6 : IsB (l.drop a) (vs 6) W1 := hfs 6 (by decide)
            have f7 : vs 7 = .int .i64 0 := hfs 7 (by decide)
            clear hfs
            simp only [putAll, Nat.zero_add, Nat.reduceAdd]
            rw [f5, f7]
            generalize vs 0 = z0
            generalize vs 1 = z1
            generalize vs 2 = z2
            generalize vs 3 = z3
            generalize vs 4 = z4
            revert f6
            generalize vs 6 = z6
            intro f6
            have F6 := Lib.hid f6
            have HB11 := Lib.hid hb1
            have hDlt := (Array.getElem?_eq_some_iff.1 HKD.out).1
            have hKD1 : W1.heap[D]? = some (.deferred (some [])) := (hb1.block D hDlt).trans HKD.out
            have HKD1 := Lib.hid hKD1
            clear f5 f6 f7 hb1 hKD1
            go_wp2
            go_simp
            refine ⟨by simp, .inl ⟨_, _, rfl, run_takeDeferred HKD1.out, ?_⟩⟩
            refine ⟨_, results_tmp3 rfl _ _ _, ?_⟩
            rw [hE.out]
            exact ⟨_, _, rfl, isB_turn (isB_own (own_later HROW.out HB11.out)) _ HKD1.out rfl, isB_turn F6.out _ HKD1.out rfl, (HB.out.trans (HB11.out.mono HB.out.size)).trans (belowK_b (w := w) (Nat.le_refl _) W1 D _ _ (by omega) HKD1.out rfl rfl)⟩
        · have hE := Lib.hid (ytakeE_none hM (l := l) (by
            rcases Nat.lt_or_ge L M with h | h
            · exact hres h
            · exact hleft.over (by omega)))
          have d1 : ((L : Int) != (M : Int)) = true := by simp; omega
          have d2 : ((L : Int) == (M : Int)) = false := by simp; omega
          clear hmm hleft hres hv hm hp hbs hB hrow hL hK hD
          go_wp2
          refine ⟨by simp, .inl ⟨_, _, rfl, run_takeDeferred HKD.out, ?_⟩⟩
          refine ⟨_, results_tmp3 rfl _ _ _, ?_⟩
          rw [hE.out]
          exact RetBB.nil _ (HB.out.trans (belowK_b (w := w) (Nat.le_refl _) W D _ _ (by omega) HKD.out rfl rfl))
      case stop =>
        rintro D x s W hD ⟨pre', y', hs', hch⟩ ⟨rfl, pre, y, hs, hML, ⟨v, hv, hrow, _⟩, ⟨⟨hp, hm⟩, hbs, hB⟩, hf⟩ hK
        have hpp : pre' = pre := List.append_inj_left' (hs'.symm.trans hs) rfl
        subst hpp
        have hal := Nat.le_of_lt y'.2.1
        have hleft := left_chain hch hf
        have hres : (scont pre').length < M → ytake M l = none := fun h => absurd h (by omega)
        obtain ⟨a, ha⟩ : ∃ a, a = y'.1 := ⟨_, rfl⟩
        rw [← ha] at hch hal hleft
        clear hs hs' hML ha
        have hsp : spos pre' = a := spos_chain hch
        rw [hsp] at hp
        obtain ⟨m, hmm⟩ : ∃ m, m = scont pre' := ⟨_, rfl⟩
        have hrow := hrow
        rw [← hmm] at hleft hres hrow
        have hal' : a ≤ n := by have := HN.out; omega
        obtain ⟨L, hL⟩ : ∃ L, L = m.length := ⟨_, rfl⟩
        rw [← hL] at hrow hres
        obtain ⟨B, cb, rfl, _, _, _, _, _⟩ := own_shape hrow
        have HB := Lib.hid hB
        have HV := Lib.hid hv
        have HP := Lib.hid hp
        have HROW := Lib.hid hrow
        have HLM := Lib.hid hL
        have HKD := Lib.hid hK
        have hc1 := hv.cell
        have hc2 := hm.cell 0
        simp only [List.getElem?_cons_zero] at hc2
        have hDw : w3.heap.size ≤ D := hD
        by_cases hLM : L = M
        · subst hLM
          have hE := Lib.hid (ytakeE_some hM (p := m) (q := l.drop a) (by rw [hL]; rw [hL] at hleft; exact hleft.done))
          obtain ⟨v6, hv6, hi6⟩ := from_named (P := Try.prog) (w := W) elemB (k := a) hal' hnc hcm HN.out.symm (hl.below hB) hA
          have HV6 := Lib.hid hv6
          have HI6 := Lib.hid hi6
          have d1 : ((L : Int) != (L : Int)) = false := by simp
          have d2 : ((L : Int) == (L : Int)) = true := by simp
          clear hmm hleft hres hv hm hp hbs hB hrow hL hK hD hv6 hi6
          gi_wp2
          go_wp2
          refine wp_region_list [.is (.slice B L cb), .is (.slice A n c), .is (.int .i64 (a : Int)), .is v6, .bytes (l.drop a), .is (.slice B L cb), .bytes (l.drop a), .is (.int .i64 0)] [some 42, some 43, some 44, some 45, some 46, some 4, some 5, some 6] (by kernel_rfl) (by kernel_rfl) (by kernel_rfl) rfl ⟨?_, ?_, ?_, ?_, ?_, ?_, ?_, ?_, trivial⟩ ?_
          · intro ρ W1 hb1 H
            exact gives_load rfl (H.old 7 _ (by kernel_rfl) rfl) Try.underlying34 rfl ((hb1.cell HV.out.lt).trans HV.out.cell) ⟨rfl, Below.refl _ _⟩
          · intro ρ W1 hb1 H
            exact gives_move rfl (H.old 0 _ (by kernel_rfl) rfl) ⟨rfl, Below.refl _ _⟩
          · intro ρ W1 hb1 H
            exact gives_load rfl (H.old 8 _ (by kernel_rfl) rfl) Try.underlying3 rfl ((HP.out.below hb1 HP.out.lt).cell 0) ⟨rfl, Below.refl _ _⟩
          · intro ρ W1 hb1 H
            have e1 : ρ (.tmp 43) = .slice A n c := H.new 43 1 (by kernel_rfl)
            have e2 : ρ (.tmp 44) = .int .i64 (a : Int) := H.new 44 2 (by kernel_rfl)
            exact gives_slice rfl e1 (lo' := some (.int .i64 (a : Int))) (by simp [e2]) (hi' := none) rfl (mx' := none) rfl (HV6.out W1) ⟨rfl, Below.refl _ _⟩
          · intro ρ W1 hb1 H
            have e1 : ρ (.tmp 45) = v6 := H.new 45 3 (by kernel_rfl)
            exact gives_copy elemB rfl (H.const _) e1 (HI6.out.below hb1) (by rw [List.length_drop]; have := HN.out; omega) fun v' w' h1 h2 => ⟨h1, h2⟩
          · intro ρ W1 hb1 H
            exact gives_assign rfl (H.new 42 0 (by kernel_rfl)) ⟨rfl, Below.refl _ _⟩
          · intro ρ W1 hb1 H
            have e1 : IsB (l.drop a) (ρ (.tmp 46)) W1 := H.new 46 4 (by kernel_rfl)
            exact gives_assign rfl rfl ⟨e1, Below.refl _ _⟩
          · intro ρ W1 hb1 H
            exact gives_assign rfl (H.const _) ⟨rfl, Below.refl _ _⟩
          · intro vs W1 hb1 hfs
            have f5 : vs 5 = .slice B L cb := hfs 5 (by decide)
            have f6 : IsB (l.drop a) (vs 6) W1 := hfs 6 (by decide)
            have f7 : vs 7 = .int .i64 0 := hfs 7 (by decide)
            clear hfs
            simp only [putAll, Nat.zero_add, Nat.reduceAdd]
            rw [f5, f7]
            generalize vs 0 = z0
            generalize vs 1 = z1
            generalize vs 2 = z2
            generalize vs 3 = z3
            generalize vs 4 = z4
            revert f6
            generalize vs 6 = z6
            intro f6
            have F6 := Lib.hid f6
            have HB11 := Lib.hid hb1
            have hDlt := (Array.getElem?_eq_some_iff.1 HKD.out).1
            have hKD1 : W1.heap[D]? = some (.deferred (some [])) := (hb1.block D hDlt).trans HKD.out
            have HKD1 := Lib.hid hKD1
            clear f5 f6 f7 hb1 hKD1
            go_wp2
            go_simp
            refine ⟨by simp, .inl ⟨_, _, rfl, run_takeDeferred HKD1.out, ?_⟩⟩
            refine ⟨_, results_tmp3 rfl _ _ _, ?_⟩
            rw [hE.out]
            exact ⟨_, _, rfl, isB_turn (isB_own (own_later HROW.out HB11.out)) _ HKD1.out rfl, isB_turn F6.out _ HKD1.out rfl, (HB.out.trans (HB11.out.mono HB.out.size)).trans (belowK_b (w := w) (Nat.le_refl _) W1 D _ _ (by omega) HKD1.out rfl rfl)⟩
        · have hE := Lib.hid (ytakeE_none hM (l := l) (by
            rcases Nat.lt_or_ge L M with h | h
            · exact hres h
            · exact hleft.over (by omega)))
          have d1 : ((L : Int) != (M : Int)) = true := by simp; omega
          have d2 : ((L : Int) == (M : Int)) = false := by simp; omega
          clear hmm hleft hres hv hm hp hbs hB hrow hL hK hD
          gi_wp2
          go_wp2
          refine ⟨by simp, .inl ⟨_, _, rfl, run_takeDeferred HKD.out, ?_⟩⟩
          refine ⟨_, results_tmp3 rfl _ _ _, ?_⟩
          rw [hE.out]
          exact RetBB.nil _ (HB.out.trans (belowK_b (w := w) (Nat.le_refl _) W D _ _ (by omega) HKD.out rfl rfl))
end Go.Proofs.Ytffglnccpbbclaa
