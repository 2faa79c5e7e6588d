/- Texts that the claims of this seat share, part 3: HPlain HHold HOpen HRef HFit HEval HNam HFits. -/
import Derived.SizedLaws
import Derived.Test.YtniniophoocalaaDoorG2
/- Predicates (layer 18), as plain mathematics. -/



namespace Go.Proofs.YtniniophoocalaaDoor

/-- A node of a predicate, as it lies: with the values of its two slices. -/
structure HN where
  op : Int
  col : Int
  v : CV
  vals : List CV
  ls : List Int
  vv : Value
  lv : Value
def hpsome (k : Int) (x : CV) : Bool := kmay k x && !x.null
/-- The deepest of the nodes that are named, if all are there. -/
def hpdeep (ds : List Int) : List Int → Int → Option Int
  | [], a => some a
  | q :: qs, a => if q < 0 ∨ (ds.length : Int) ≤ q then none else hpdeep ds qs (max a (ds.getD q.toNat 0))
/-- How deep the nodes are that a node names, if it may be. -/
def hpnode (ks ds : List Int) (n : HN) : Option Int :=
  if n.op = 1 ∨ n.op = 2 ∨ n.op = 3 then
    if n.ls.length < 1 ∨ (n.op = 3 ∧ 1 < n.ls.length) then none else hpdeep ds n.ls 0
  else if n.op < 4 ∨ 9 < n.op ∨ (n.op ≠ 9 ∧ (n.col < 0 ∨ (ks.length : Int) ≤ n.col)) then none
  else if (n.op = 4 ∨ n.op = 5 ∨ n.op = 6) ∧ hpsome (ks.getD n.col.toNat 0) n.v = false then none
  else if n.op = 7 ∧ (n.vals.all (hpsome (ks.getD n.col.toNat 0)) = false ∨ n.vals.length < 1 ∨ 10 < n.vals.length) then none
  else some 0
def hpdepths (ks : List Int) : List HN → List Int → Option (List Int)
  | [], ds => some ds
  | n :: l, ds => match hpnode ks ds n with
    | none => none
    | some d => if 6 < d + 1 then none else hpdepths ks l (ds ++ [d + 1])
/-- What May answers. -/
def hpmayE (ks : List Int) (l : List HN) : Bool := decide (1 ≤ l.length ∧ l.length ≤ 40) && (hpdepths ks l []).isSome
/-- What is known of a node of one that may be, at place i. -/
structure HOk (ks : List Int) (i : Nat) (n : HN) : Prop where
  ops : 1 ≤ n.op ∧ n.op ≤ 9
  named : n.op ≤ 3 → 1 ≤ n.ls.length ∧ (n.op = 3 → n.ls.length = 1) ∧ ∀ q ∈ n.ls, 0 ≤ q ∧ q < (i : Int)
  column : 4 ≤ n.op → n.op ≠ 9 → 0 ≤ n.col ∧ n.col < (ks.length : Int)
  value : 4 ≤ n.op → n.op ≤ 6 → hpsome (ks.getD n.col.toNat 0) n.v = true
  values : n.op = 7 → (∀ x ∈ n.vals, hpsome (ks.getD n.col.toNat 0) x = true) ∧ 1 ≤ n.vals.length ∧ n.vals.length ≤ 10
theorem hpdeep_in {ds : List Int} : ∀ {qs : List Int} {a d : Int}, hpdeep ds qs a = some d → ∀ q ∈ qs, 0 ≤ q ∧ q < (ds.length : Int)
  | [], _, _, _, q, hq => by cases hq
  | p :: qs, a, d, h, q, hq => by
    rw [hpdeep] at h
    split at h
    · cases h
    · rename_i hp
      rcases List.mem_cons.1 hq with rfl | hq
      · omega
      · exact hpdeep_in h q hq
theorem hpnode_ok {ks ds : List Int} {n : HN} {d : Int} (h : hpnode ks ds n = some d) : HOk ks ds.length n := by
  unfold hpnode at h
  split at h
  · rename_i h1
    split at h
    · cases h
    · rename_i h2
      refine ⟨by omega, fun _ => ⟨by omega, fun h3 => by omega, hpdeep_in h⟩, fun h4 => by omega, fun h4 => by omega, fun h4 => by omega⟩
  · rename_i h1
    split at h
    · cases h
    · rename_i h2
      split at h
      · cases h
      · rename_i h3
        split at h
        · cases h
        · rename_i h4
          refine ⟨by omega, fun h5 => by omega, fun _ h9 => by omega, fun h5 h6 => ?_, fun h7 => ?_⟩
          · cases hs : hpsome (ks.getD n.col.toNat 0) n.v with
            | true => rfl
            | false => exact absurd ⟨by omega, hs⟩ h3
          · refine ⟨fun x hx => ?_, ?_⟩
            · cases ha : n.vals.all (hpsome (ks.getD n.col.toNat 0)) with
              | true => exact List.all_eq_true.1 ha x hx
              | false => exact absurd ⟨h7, .inl ha⟩ h4
            · by_cases h8 : 1 ≤ n.vals.length ∧ n.vals.length ≤ 10
              · exact h8
              · exact absurd ⟨h7, .inr (by omega)⟩ h4
theorem hpdepths_ok {ks : List Int} : ∀ {l : List HN} {ds es : List Int}, hpdepths ks l ds = some es → ∀ i (h : i < l.length), HOk ks (ds.length + i) l[i]
  | [], _, _, _, i, h => by simp at h
  | n :: l, ds, es, he, i, h => by
    rw [hpdepths] at he
    split at he
    · cases he
    · rename_i d hd
      split at he
      · cases he
      · cases i with
        | zero => exact hpnode_ok hd
        | succ i =>
          have h1 := hpdepths_ok he i (by simpa using h)
          rw [List.length_append, List.length_singleton] at h1
          rw [show ds.length + (i + 1) = ds.length + 1 + i by omega]
          exact h1
theorem hpmay_ok {ks : List Int} {l : List HN} (h : hpmayE ks l = true) : 1 ≤ l.length ∧ l.length ≤ 40 ∧ ∀ i (h : i < l.length), HOk ks i l[i] := by
  unfold hpmayE at h
  rw [Bool.and_eq_true, decide_eq_true_iff] at h
  obtain ⟨⟨h1, h2⟩, h3⟩ := h
  obtain ⟨es, he⟩ := Option.isSome_iff_exists.1 h3
  refine ⟨h1, h2, fun i hi => ?_⟩
  have h4 := hpdepths_ok he i hi
  simpa using h4
/-- The nodes so far, and one more. -/
theorem hpdepths_app {ks : List Int} : ∀ (a b : List HN) (ds : List Int), hpdepths ks (a ++ b) ds = (hpdepths ks a ds).bind (hpdepths ks b)
  | [], _, _ => rfl
  | n :: a, b, ds => by
    rw [List.cons_append, hpdepths, hpdepths]
    cases hpnode ks ds n with
    | none => rfl
    | some d =>
      dsimp only
      split
      · rfl
      · exact hpdepths_app a b _
theorem hpdepths_len {ks : List Int} : ∀ {l : List HN} {ds es : List Int}, hpdepths ks l ds = some es → es.length = ds.length + l.length
  | [], _, _, h => by injection h with h; rw [h]; simp
  | n :: l, ds, es, h => by
    rw [hpdepths] at h
    split at h
    · cases h
    · split at h
      · cases h
      · have h1 := hpdepths_len h
        rw [List.length_append, List.length_singleton] at h1
        rw [List.length_cons]
        omega
def hpyes (b : Bool) : Int := if b then 2 else 0
/-- What a node that names none comes to. -/
def hpleaf (n : HN) (r : List CV) : Int :=
  if n.op = 9 then 2 else if n.op = 8 then hpyes (r.getD n.col.toNat nul).null else if (r.getD n.col.toNat nul).null = true then 1
  else if n.op = 4 then hpyes (kcmp (r.getD n.col.toNat nul) n.v == 0) else if n.op = 5 then hpyes (decide (kcmp (r.getD n.col.toNat nul) n.v < 0)) else if n.op = 6 then hpyes (decide (kcmp (r.getD n.col.toNat nul) n.v ≤ 0))
  else hpyes (n.vals.any fun x => kcmp (r.getD n.col.toNat nul) x == 0)
/-- What a node comes to, by what those ahead of it come to. -/
def hpval (n : HN) (r : List CV) (out : List Int) : Int :=
  if n.op = 1 then n.ls.foldl (fun x q => min x (out.getD q.toNat 0)) 2 else if n.op = 2 then n.ls.foldl (fun x q => max x (out.getD q.toNat 0)) 0
  else if n.op = 3 then 2 - out.getD (n.ls.headD 0).toNat 0 else hpleaf n r
def hpvals (r : List CV) : List HN → List Int → List Int
  | [], out => out
  | n :: l, out => hpvals r l (out ++ [hpval n r out])
/-- What Eval answers. -/
def hpevalE (l : List HN) (r : List CV) : Int := (hpvals r l []).getLastD 0
theorem hpvals_app (r : List CV) : ∀ (a b : List HN) (out : List Int), hpvals r (a ++ b) out = hpvals r b (hpvals r a out)
  | [], _, _ => rfl
  | _ :: a, b, _ => hpvals_app r a b _
theorem hpvals_len (r : List CV) : ∀ (l : List HN) (out : List Int), (hpvals r l out).length = out.length + l.length
  | [], out => rfl
  | n :: l, out => by rw [hpvals, hpvals_len r l, List.length_append, List.length_singleton, List.length_cons]; omega
theorem hpvals_next (r : List CV) {l : List HN} {k : Nat} (h : k < l.length) : hpvals r (l.take (k + 1)) [] = hpvals r (l.take k) [] ++ [hpval l[k] r (hpvals r (l.take k) [])] := by
  rw [List.take_succ_eq_append_getElem h, hpvals_app]
  rfl
theorem hpyes_in (b : Bool) : 0 ≤ hpyes b ∧ hpyes b ≤ 2 := by cases b <;> simp [hpyes]
theorem hpleaf_in (n : HN) (r : List CV) : 0 ≤ hpleaf n r ∧ hpleaf n r ≤ 2 := by
  unfold hpleaf
  repeat' split
  all_goals first | omega | exact hpyes_in _
theorem foldl_in {f : Int → Int → Int} (hf : ∀ a b, (0 ≤ a ∧ a ≤ 2) → (0 ≤ b ∧ b ≤ 2) → 0 ≤ f a b ∧ f a b ≤ 2) {out : List Int} (ho : ∀ i, 0 ≤ out.getD i 0 ∧ out.getD i 0 ≤ 2) : ∀ (l : List Int) (a : Int), 0 ≤ a ∧ a ≤ 2 → 0 ≤ l.foldl (fun x q => f x (out.getD q.toNat 0)) a ∧ l.foldl (fun x q => f x (out.getD q.toNat 0)) a ≤ 2
  | [], _, h => h
  | _ :: l, a, h => foldl_in hf ho l _ (hf a _ h (ho _))
theorem hpval_in (n : HN) (r : List CV) {out : List Int} (ho : ∀ i, 0 ≤ out.getD i 0 ∧ out.getD i 0 ≤ 2) : 0 ≤ hpval n r out ∧ hpval n r out ≤ 2 := by
  unfold hpval
  split
  · exact foldl_in (f := min) (fun a b h1 h2 => by omega) ho _ _ (by omega)
  · split
    · exact foldl_in (f := max) (fun a b h1 h2 => by omega) ho _ _ (by omega)
    · split
      · have := ho (n.ls.headD 0).toNat; omega
      · exact hpleaf_in n r
theorem getDL {α : Type} {l m : List α} {i : Nat} {d : α} (h : i < l.length) : (l ++ m).getD i d = l.getD i d := by simp [List.getD, List.getElem?_append_left h]
theorem getDR {α : Type} {l m : List α} {i : Nat} {d : α} (h : l.length ≤ i) : (l ++ m).getD i d = m.getD (i - l.length) d := by simp [List.getD, List.getElem?_append_right h]
theorem getDN {α : Type} {l : List α} {i : Nat} {d : α} (h : l.length ≤ i) : l.getD i d = d := by simp [List.getD, List.getElem?_eq_none h]
theorem getD_snoc {out : List Int} {x : Int} (ho : ∀ i, 0 ≤ out.getD i 0 ∧ out.getD i 0 ≤ 2) (hx : 0 ≤ x ∧ x ≤ 2) : ∀ i, 0 ≤ (out ++ [x]).getD i 0 ∧ (out ++ [x]).getD i 0 ≤ 2 := by
  intro i
  rcases Nat.lt_trichotomy i out.length with h | h | h
  · rw [getDL h]; exact ho i
  · subst h; rw [getDR (Nat.le_refl _)]; simpa using hx
  · rw [getDN (by simp; omega)]; omega
theorem hpvals_in (r : List CV) : ∀ (l : List HN) (out : List Int), (∀ i, 0 ≤ out.getD i 0 ∧ out.getD i 0 ≤ 2) → ∀ i, 0 ≤ (hpvals r l out).getD i 0 ∧ (hpvals r l out).getD i 0 ≤ 2
  | [], _, ho => ho
  | n :: l, _, ho => hpvals_in r l _ (getD_snoc ho (hpval_in n r ho))
/-- What may come out: No, Unknown, Yes. -/
structure T3 where
  no : Bool
  un : Bool
  yes : Bool
def T3.at_ (t : T3) (a : Int) : Bool := if a = 0 then t.no else if a = 1 then t.un else t.yes
/-- What may come out of And of two. -/
def hpboth (x y : T3) : T3 := ⟨(x.no && (y.no || y.un || y.yes)) || (y.no && (x.un || x.yes)), (x.un && (y.un || y.yes)) || (x.yes && y.un), x.yes && y.yes⟩
def T3.turn (t : T3) : T3 := ⟨t.yes, t.un, t.no⟩
/-- What may come out of Or of two. -/
def hpone (x y : T3) : T3 := (hpboth x.turn y.turn).turn
theorem hpboth_at {x y : T3} {a b : Int} (ha : 0 ≤ a ∧ a ≤ 2) (hb : 0 ≤ b ∧ b ≤ 2) (h1 : x.at_ a = true) (h2 : y.at_ b = true) : (hpboth x y).at_ (min a b) = true := by
  obtain ⟨x0, x1, x2⟩ := x
  obtain ⟨y0, y1, y2⟩ := y
  rcases (by omega : a = 0 ∨ a = 1 ∨ a = 2) with rfl | rfl | rfl <;> rcases (by omega : b = 0 ∨ b = 1 ∨ b = 2) with rfl | rfl | rfl <;>
    (clear ha hb; revert h1 h2; revert x0 x1 x2 y0 y1 y2; decide)
theorem turn_at {x : T3} {a : Int} (ha : 0 ≤ a ∧ a ≤ 2) (h : x.at_ a = true) : x.turn.at_ (2 - a) = true := by
  rcases (by omega : a = 0 ∨ a = 1 ∨ a = 2) with rfl | rfl | rfl <;> simpa [T3.at_, T3.turn] using h
theorem hpone_at {x y : T3} {a b : Int} (ha : 0 ≤ a ∧ a ≤ 2) (hb : 0 ≤ b ∧ b ≤ 2) (h1 : x.at_ a = true) (h2 : y.at_ b = true) : (hpone x y).at_ (max a b) = true := by
  have h := turn_at (by omega) (hpboth_at (by omega) (by omega) (turn_at ha h1) (turn_at hb h2))
  rw [show (2 : Int) - min (2 - a) (2 - b) = max a b by omega] at h
  exact h
def hpnull : GS := ⟨0, false, nul, nul, 0, false⟩
/-- What may come out of a node that names none, by what is known. -/
def hpknown (n : HN) (l : List GS) : T3 :=
  if n.op = 9 then ⟨false, false, true⟩ else if n.op = 8 then ⟨decide (0 < (l.getD n.col.toNat hpnull).count), false, (l.getD n.col.toNat hpnull).has⟩
  else if (l.getD n.col.toNat hpnull).count = 0 then ⟨false, (l.getD n.col.toNat hpnull).has, false⟩
  else
    let s := l.getD n.col.toNat hpnull
    let a := kcmp s.min n.v
    let b := kcmp s.max n.v
    if n.op = 4 then ⟨decide (a ≠ 0) || decide (b ≠ 0), s.has, decide (a ≤ 0) && decide (0 ≤ b)⟩
    else if n.op = 5 then ⟨decide (0 ≤ b), s.has, decide (a < 0)⟩
    else if n.op = 6 then ⟨decide (0 < b), s.has, decide (a ≤ 0)⟩
    else ⟨decide (kcmp s.min s.max ≠ 0) || !(n.vals.any fun v => kcmp v s.min == 0), s.has, n.vals.any fun v => decide (0 ≤ kcmp v s.min) && decide (kcmp v s.max ≤ 0)⟩
def hpno3 : T3 := ⟨false, false, false⟩
def hpout1 (n : HN) (s : List GS) (out : List T3) : T3 :=
  if n.op = 1 then n.ls.tail.foldl (fun x q => hpboth x (out.getD q.toNat hpno3)) (out.getD (n.ls.headD 0).toNat hpno3)
  else if n.op = 2 then n.ls.tail.foldl (fun x q => hpone x (out.getD q.toNat hpno3)) (out.getD (n.ls.headD 0).toNat hpno3)
  else if n.op = 3 then (out.getD (n.ls.headD 0).toNat hpno3).turn else hpknown n s
def hpouts (s : List GS) : List HN → List T3 → List T3
  | [], out => out
  | n :: l, out => hpouts s l (out ++ [hpout1 n s out])
/-- What Outcomes answers. -/
def hpoutE (l : List HN) (s : List GS) : T3 := (hpouts s l []).getLastD hpno3
theorem hpouts_app (s : List GS) : ∀ (a b : List HN) (out : List T3), hpouts s (a ++ b) out = hpouts s b (hpouts s a out)
  | [], _, _ => rfl
  | _ :: a, b, _ => hpouts_app s a b _
theorem hpouts_len (s : List GS) : ∀ (l : List HN) (out : List T3), (hpouts s l out).length = out.length + l.length
  | [], out => rfl
  | n :: l, out => by rw [hpouts, hpouts_len s l, List.length_append, List.length_singleton, List.length_cons]; omega
theorem hpouts_next (s : List GS) {l : List HN} {k : Nat} (h : k < l.length) : hpouts s (l.take (k + 1)) [] = hpouts s (l.take k) [] ++ [hpout1 l[k] s (hpouts s (l.take k) [])] := by
  rw [List.take_succ_eq_append_getElem h, hpouts_app]
  rfl
end Go.Proofs.YtniniophoocalaaDoor

/- What comes out of a row may come out of what is known of rows with it (layer 18: P18.4); what Not, And and Or come to (P18.2). -/



namespace Go.Proofs.YtniniophoocalaaDoor

/-- A value is one of those of which something is known. -/
def hpwithin (s : GS) (v : CV) : Prop := (v.null = true → s.has = true) ∧ (v.null = false → 0 < s.count ∧ kcmp s.min v ≤ 0 ∧ kcmp v s.max ≤ 0)
theorem at_yes (t : T3) (b : Bool) (h : b = true → t.yes = true) (h2 : b = false → t.no = true) : t.at_ (hpyes b) = true := by
  cases b with
  | true => simpa [T3.at_, hpyes] using h rfl
  | false => simpa [T3.at_, hpyes] using h2 rfl
theorem hpknown_at {n : HN} {r : List CV} {s : List GS} (hw : n.op ≠ 9 → hpwithin (s.getD n.col.toNat hpnull) (r.getD n.col.toNat nul)) : (hpknown n s).at_ (hpleaf n r) = true := by
  unfold hpknown hpleaf
  by_cases h9 : n.op = 9
  · rw [if_pos h9, if_pos h9]; rfl
  rw [if_neg h9, if_neg h9]
  obtain ⟨w1, w2⟩ := hw h9
  generalize s.getD n.col.toNat hpnull = g at w1 w2 ⊢
  generalize r.getD n.col.toNat nul = v at w1 w2 ⊢
  by_cases h8 : n.op = 8
  · rw [if_pos h8, if_pos h8]
    exact at_yes _ _ (fun h => w1 h) (fun h => decide_eq_true (w2 h).1)
  rw [if_neg h8, if_neg h8]
  cases hn : v.null with
  | true =>
    rw [if_pos rfl]
    by_cases hc : g.count = 0
    · rw [if_pos hc]; simpa [T3.at_] using w1 hn
    · rw [if_neg hc]
      dsimp only
      repeat' split
      all_goals simpa [T3.at_] using w1 hn
  | false =>
    obtain ⟨c1, c2, c3⟩ := w2 hn
    rw [if_neg (show ¬ g.count = 0 by omega), if_neg (show ¬ (false = true) by simp)]
    dsimp only
    have k1 := kcmp_neg g.min n.v
    have k2 := kcmp_neg g.max n.v
    have k3 := kcmp_neg v n.v
    by_cases h4 : n.op = 4
    · rw [if_pos h4, if_pos h4]
      refine at_yes _ _ (fun h => ?_) (fun h => ?_)
      · have e := kcmp_zero.1 (beq_iff_eq.1 h)
        rw [e] at c2 c3
        show (decide (kcmp g.min n.v ≤ 0) && decide (0 ≤ kcmp g.max n.v)) = true
        rw [decide_eq_true c2, decide_eq_true (by omega)]
        rfl
      · show (decide (kcmp g.min n.v ≠ 0) || decide (kcmp g.max n.v ≠ 0)) = true
        by_cases e : kcmp g.min n.v = 0 ∧ kcmp g.max n.v = 0
        · obtain ⟨e1, e2⟩ := e
          rw [kcmp_zero] at e1 e2
          rw [e1] at c2
          rw [e2] at c3
          have e3 := kcmp_anti c3 c2
          rw [e3, kcmp_self] at h
          cases h
        · rw [Bool.or_eq_true, decide_eq_true_iff, decide_eq_true_iff]
          omega
    rw [if_neg h4, if_neg h4]
    by_cases h5 : n.op = 5
    · rw [if_pos h5, if_pos h5]
      refine at_yes _ _ (fun h => ?_) (fun h => ?_)
      · rw [decide_eq_true_iff] at h
        refine decide_eq_true ?_
        by_cases e : kcmp g.min n.v < 0
        · exact e
        · exfalso
          have h1 : kcmp n.v g.min ≤ 0 := by omega
          have h2 := kcmp_trans h1 c2
          omega
      · rw [decide_eq_false_iff_not] at h
        refine decide_eq_true ?_
        have h1 : kcmp n.v v ≤ 0 := by omega
        have h2 := kcmp_trans h1 c3
        omega
    rw [if_neg h5, if_neg h5]
    by_cases h6 : n.op = 6
    · rw [if_pos h6, if_pos h6]
      refine at_yes _ _ (fun h => ?_) (fun h => ?_)
      · rw [decide_eq_true_iff] at h
        exact decide_eq_true (kcmp_trans c2 h)
      · rw [decide_eq_false_iff_not] at h
        refine decide_eq_true ?_
        by_cases e : 0 < kcmp g.max n.v
        · exact e
        · exfalso
          exact h (kcmp_trans c3 (by omega))
    rw [if_neg h6, if_neg h6]
    refine at_yes _ _ (fun h => ?_) (fun h => ?_)
    · obtain ⟨x, hx, he⟩ := List.any_eq_true.1 h
      have e := kcmp_zero.1 (beq_iff_eq.1 he)
      refine List.any_eq_true.2 ⟨x, hx, ?_⟩
      rw [← e]
      have k4 := kcmp_neg v g.min
      rw [Bool.and_eq_true]
      exact ⟨decide_eq_true (by omega), decide_eq_true c3⟩
    · show (decide (kcmp g.min g.max ≠ 0) || !(n.vals.any fun x => kcmp x g.min == 0)) = true
      by_cases e : kcmp g.min g.max = 0
      · rw [kcmp_zero] at e
        rw [← e] at c3
        have e3 := kcmp_anti c3 c2
        rw [Bool.or_eq_true]
        right
        rw [Bool.not_eq_true', List.any_eq_false]
        intro x hx
        have h1 := List.any_eq_false.1 h x hx
        rw [e3] at h1
        rw [beq_iff_eq, kcmp_zero] at h1 ⊢
        exact fun he => h1 he.symm
      · rw [decide_eq_true e]; rfl
theorem getD_lt {α : Type} {l : List α} {i : Nat} {d : α} (h : i < l.length) : l.getD i d = l[i] := by simp [List.getD, List.getElem?_eq_getElem h]
theorem fold_both {out : List T3} {vs : List Int} (hv : ∀ i, 0 ≤ vs.getD i 0 ∧ vs.getD i 0 ≤ 2) : ∀ (qs : List Int), (∀ q ∈ qs, (out.getD q.toNat hpno3).at_ (vs.getD q.toNat 0) = true) → ∀ (t : T3) (x : Int), (0 ≤ x ∧ x ≤ 2) → t.at_ x = true →
    (qs.foldl (fun x q => hpboth x (out.getD q.toNat hpno3)) t).at_ (qs.foldl (fun x q => min x (vs.getD q.toNat 0)) x) = true
  | [], _, _, _, _, h => h
  | q :: qs, hq, t, x, hx, h => fold_both hv qs (fun p hp => hq p (List.mem_cons_of_mem _ hp)) _ _ (by have := hv q.toNat; dsimp only; omega) (hpboth_at hx (hv _) h (hq q List.mem_cons_self))
theorem fold_one {out : List T3} {vs : List Int} (hv : ∀ i, 0 ≤ vs.getD i 0 ∧ vs.getD i 0 ≤ 2) : ∀ (qs : List Int), (∀ q ∈ qs, (out.getD q.toNat hpno3).at_ (vs.getD q.toNat 0) = true) → ∀ (t : T3) (x : Int), (0 ≤ x ∧ x ≤ 2) → t.at_ x = true →
    (qs.foldl (fun x q => hpone x (out.getD q.toNat hpno3)) t).at_ (qs.foldl (fun x q => max x (vs.getD q.toNat 0)) x) = true
  | [], _, _, _, _, h => h
  | q :: qs, hq, t, x, hx, h => fold_one hv qs (fun p hp => hq p (List.mem_cons_of_mem _ hp)) _ _ (by have := hv q.toNat; dsimp only; omega) (hpone_at hx (hv _) h (hq q List.mem_cons_self))
/-- One node more. -/
theorem hpout1_at {ks : List Int} {i : Nat} {n : HN} (ho : HOk ks i n) {r : List CV} {s : List GS} (hw : 4 ≤ n.op → n.op ≠ 9 → hpwithin (s.getD n.col.toNat hpnull) (r.getD n.col.toNat nul))
    {out : List T3} {vs : List Int} (hv : ∀ i, 0 ≤ vs.getD i 0 ∧ vs.getD i 0 ≤ 2) (ha : ∀ j, j < i → (out.getD j hpno3).at_ (vs.getD j 0) = true) : (hpout1 n s out).at_ (hpval n r vs) = true := by
  unfold hpout1 hpval
  by_cases h3 : n.op ≤ 3
  · obtain ⟨n1, n2, n3⟩ := ho.named h3
    have hq : ∀ q ∈ n.ls, (out.getD q.toNat hpno3).at_ (vs.getD q.toNat 0) = true := fun q hq => ha _ (by have := n3 q hq; omega)
    obtain ⟨q, qs, hl⟩ : ∃ q qs, n.ls = q :: qs := by
      cases hl : n.ls with
      | nil => rw [hl] at n1; simp at n1
      | cons q qs => exact ⟨q, qs, rfl⟩
    rw [hl] at hq ⊢
    have hq0 := hq q List.mem_cons_self
    have hqs : ∀ p ∈ qs, (out.getD p.toNat hpno3).at_ (vs.getD p.toNat 0) = true := fun p hp => hq p (List.mem_cons_of_mem _ hp)
    have hvq := hv q.toNat
    by_cases h1 : n.op = 1
    · rw [if_pos h1, if_pos h1]
      have h := fold_both hv qs hqs (out.getD q.toNat hpno3) (vs.getD q.toNat 0) hvq hq0
      rw [List.foldl_cons, show min (2 : Int) (vs.getD q.toNat 0) = vs.getD q.toNat 0 by omega]
      exact h
    rw [if_neg h1, if_neg h1]
    by_cases h2 : n.op = 2
    · rw [if_pos h2, if_pos h2]
      have h := fold_one hv qs hqs (out.getD q.toNat hpno3) (vs.getD q.toNat 0) hvq hq0
      rw [List.foldl_cons, show max (0 : Int) (vs.getD q.toNat 0) = vs.getD q.toNat 0 by omega]
      exact h
    rw [if_neg h2, if_neg h2, if_pos (by have := ho.ops; omega), if_pos (by have := ho.ops; omega)]
    exact turn_at hvq hq0
  · rw [if_neg (by omega), if_neg (by omega), if_neg (by omega), if_neg (by omega), if_neg (by omega), if_neg (by omega)]
    exact hpknown_at (hw (by omega))
theorem getD_snoc3 {out : List T3} {vs : List Int} {k : Nat} (h1 : out.length = k) (h2 : vs.length = k) {t : T3} {x : Int} (ha : ∀ j, j < k → (out.getD j hpno3).at_ (vs.getD j 0) = true) (h : t.at_ x = true) :
    ∀ j, j < k + 1 → ((out ++ [t]).getD j hpno3).at_ ((vs ++ [x]).getD j 0) = true := by
  intro j hj
  rcases Nat.lt_or_ge j k with h3 | h3
  · rw [getDL (by omega), getDL (by omega)]; exact ha j h3
  · obtain rfl : j = k := by omega
    rw [getDR (by omega), getDR (by omega), h1, h2]
    simpa using h
/-- P18.4 -/
theorem hpholds_at {ks : List Int} {l : List HN} (hl : ∀ i (h : i < l.length), HOk ks i l[i]) {r : List CV} {s : List GS} (hw : ∀ c, c < ks.length → hpwithin (s.getD c hpnull) (r.getD c nul)) : ∀ k, k ≤ l.length → ∀ j, j < k → ((hpouts s (l.take k) []).getD j hpno3).at_ ((hpvals r (l.take k) []).getD j 0) = true
  | 0, _, j, hj => by omega
  | k + 1, hk, j, hj => by
    have ih := hpholds_at hl hw k (by omega)
    have hkl : k < l.length := by omega
    rw [hpouts_next s hkl, hpvals_next r hkl]
    have hvs := hpvals_in r (l.take k) [] (by intro i; simp)
    have ho := hl k hkl
    refine getD_snoc3 (by rw [hpouts_len]; simp; omega) (by rw [hpvals_len]; simp; omega) ih (hpout1_at ho (fun h4 h9 => ?_) hvs ih) j hj
    have hc := ho.column h4 h9
    exact hw _ (by omega)
theorem getLastD_getD {α : Type} (l : List α) (d : α) : l.getLastD d = l.getD (l.length - 1) d := by
  cases l with
  | nil => rfl
  | cons a l =>
    rw [List.getLastD_cons]
    simp [List.getD, List.getLast?_eq_getElem?]
    cases l with
    | nil => rfl
    | cons b l => simp
theorem hpholds {ks : List Int} {l : List HN} (h1 : 1 ≤ l.length) (hl : ∀ i (h : i < l.length), HOk ks i l[i]) {r : List CV} {s : List GS} (hw : ∀ c, c < ks.length → hpwithin (s.getD c hpnull) (r.getD c nul)) :
    (0 ≤ hpevalE l r ∧ hpevalE l r ≤ 2) ∧ (hpoutE l s).at_ (hpevalE l r) = true := by
  have h2 := hpholds_at hl hw l.length (Nat.le_refl _) (l.length - 1) (by omega)
  have h3 := hpvals_in r l [] (by intro i; simp) (l.length - 1)
  rw [List.take_length] at h2
  unfold hpevalE hpoutE
  rw [getLastD_getD, getLastD_getD, hpvals_len, hpouts_len]
  simp only [List.length_nil, Nat.zero_add]
  exact ⟨h3, h2⟩
/-- Eval of what stands above. -/
theorem hpeval_more (l : List HN) (n : HN) (r : List CV) : hpevalE (l ++ [n]) r = hpval n r (hpvals r l []) := by
  unfold hpevalE
  rw [hpvals_app]
  show (hpvals r l [] ++ [_]).getLastD 0 = _
  simp
theorem hpeval_top (l : List HN) (r : List CV) : (hpvals r l []).getD (l.length - 1) 0 = hpevalE l r := by
  unfold hpevalE
  rw [getLastD_getD, hpvals_len]
  simp
end Go.Proofs.YtniniophoocalaaDoor

/- Predicates, rows, and what is known of each column, that come in. -/









namespace Go.Proofs.YtniniophoocalaaDoor

open Go.RowKit Go.ChangeShapes Go.WideShapes Go.Deep

def hpcells (n : HN) : List Value := [.int .i64 n.op, .int .i64 n.col, .bool n.v.null, .int .i64 n.v.n, .string n.v.s, n.vv, n.lv]
/-- What a node's slices hold, and that all of it is what may come in. -/
structure HAt (n : HN) (w : World) : Prop where
  vals : IsR kcells n.vals n.vv w
  ls : IsV iv n.ls n.lv w
  iop : inInt n.op
  icol : inInt n.col
  iv_ : n.v.inInt
  sv : n.v.s.size ≤ maxLen
  ivals : ∀ x ∈ n.vals, x.inInt
  svals : ∀ x ∈ n.vals, x.s.size ≤ maxLen
  ils : ∀ q ∈ n.ls, inInt q
  lls : n.ls.length ≤ 17592186044415
theorem HAt.below {n : HN} {w w' : World} (h : HAt n w) (hb : Below w.heap.size w w') : HAt n w' := ⟨h.vals.below hb, h.ls.below hb, h.iop, h.icol, h.iv_, h.sv, h.ivals, h.svals, h.ils, h.lls⟩
def IsPreds (l : List HN) (v : Value) (w : World) : Prop := IsR hpcells l v w ∧ ∀ n ∈ l, HAt n w
theorem IsPreds.below {l : List HN} {v : Value} {w w' : World} (h : IsPreds l v w) (hb : Below w.heap.size w w') : IsPreds l v w' := ⟨h.1.below hb, fun n hn => (h.2 n hn).below hb⟩
/-- A row of values, as a slice of rows holds it. -/
def hrcells (r : List CV × Value) : List Value := [r.2]
structure HRow (r : List CV) (v : Value) (w : World) : Prop where
  row : IsR kcells r v w
  ints : ∀ x ∈ r, x.inInt
  sizes : ∀ x ∈ r, x.s.size ≤ maxLen
theorem HRow.below {r : List CV} {v : Value} {w w' : World} (h : HRow r v w) (hb : Below w.heap.size w w') : HRow r v w' := ⟨h.row.below hb, h.ints, h.sizes⟩
def IsRows (l : List (List CV × Value)) (v : Value) (w : World) : Prop := IsR hrcells l v w ∧ ∀ r ∈ l, HRow r.1 r.2 w
theorem IsRows.below {l : List (List CV × Value)} {v : Value} {w w' : World} (h : IsRows l v w) (hb : Below w.heap.size w w') : IsRows l v w' := ⟨h.1.below hb, fun n hn => (h.2 n hn).below hb⟩
instance : Inhabited HN := ⟨⟨0, 0, ⟨false, 0, ⟨#[]⟩⟩, [], [], .slice none 0 0, .slice none 0 0⟩⟩
instance : Inhabited (List CV × Value) := ⟨([], .slice none 0 0)⟩
instance : Inhabited GS := ⟨hpnull⟩
section

variable {H : Type} {enc : TypeId × Value → H} {W : World} {v : Value} {d : DataW H} {ps : List MemPlace} {base : Nat}
theorem Tryd.cells_valH : Tryd.prog.cellsOf 41 = 3 := by kernel_rfl
theorem Tryd.cells_valsH : Tryd.prog.cellsOf 31 = 1 := by kernel_rfl
theorem Tryd.cells_intsH : Tryd.prog.cellsOf 49 = 1 := by kernel_rfl
theorem each_val {cs : List Value} {n : Nat} {x : DataW H × List MemPlace} (hlen : cs.length = 3) (h : DataW.trod enc Tryd.prog W 0 (fun _ => true) true n 41 cs = some x) : ∃ a : CV, cs = kcells a ∧ a.inInt ∧ a.s.size ≤ maxLen := by
  match cs, hlen with
  | [v0, v1, v2], _ =>
    obtain ⟨a, rfl, rfl, rfl, h1, h2⟩ := open_val0 h
    exact ⟨a, rfl, h1, h2⟩
set_option maxRecDepth 100000 in
theorem open_valsF {v : Value} {n : Nat} {y : DataW H × List MemPlace} {t : TypeId} (ht : Tryd.prog.underlying t = some (.slice 41)) (h : DataW.trod enc Tryd.prog W 0 (fun _ => true) true n t [v] = some y) (hlt : ∀ x ∈ y.2, x.block < W.heap.size) :
    ∃ l : List CV, IsR kcells l v W ∧ ∀ x ∈ l, x.inInt ∧ x.s.size ≤ maxLen :=
  open_wide0 (enc := enc) (f := kcells) (m := 3) (p := fun x => x.inInt ∧ x.s.size ≤ maxLen) ht (by kernel_rfl) (by omega) (fun _ => rfl) (fun cs n x hlen h _ => each_val hlen h) h hlt
theorem weightsAll_memH {P : Program} {e : TypeId} : ∀ {l : List (DataW H)} {d : DataW H}, d ∈ l → ∀ n ∈ d.weights P e, n ∈ DataW.weightsAll P e l
  | [], _, h, _, _ => by cases h
  | x :: l, d, h, n, hn => by
    rw [DataW.weightsAll, List.mem_append]
    rcases List.mem_cons.1 h with rfl | h
    · exact .inl hn
    · exact .inr (weightsAll_memH h n hn)
/-- What a reading weighs is within the form's reach. -/
def Reached (P : Program) (t : TypeId) (d : DataW H) : Prop := ∀ n ∈ d.weights P t, n ≤ reachBytes
/-- A slice, in a field, of values of several cells each, with its weight. -/
theorem open_wideS {P : Program} {α : Type} [Inhabited α] {f : α → List Value} {m : Nat} {p : α → Prop} {t e : TypeId} {v : Value} {y : DataW H × List MemPlace} {fuel : Nat}
    (ht : P.underlying t = some (.slice e)) (hc : P.cellsOf e = m) (hm : 0 < m) (hf : ∀ x, (f x).length = m) (hw : Reached P t y.1)
    (each : ∀ cs n x, cs.length = m → DataW.trod enc P W 0 (fun _ => true) true n e cs = some x → (∀ q ∈ x.2, q.block < W.heap.size) → Reached P e x.1 → ∃ a : α, cs = f a ∧ p a)
    (hf0 : DataW.trod enc P W 0 (fun _ => true) true fuel t [v] = some y) (hlt : ∀ x ∈ y.2, x.block < W.heap.size) :
    ∃ l : List α, IsR f l v W ∧ (∀ x ∈ l, p x) ∧ l.length * P.bytesOf e ≤ reachBytes := by
  obtain ⟨d, ps⟩ := y
  rcases open_slice ht hf0 with ⟨hcs, hx⟩ | ⟨a, len, cap, k, n, D, Pl, hcs, _, hl, hmx, hk, hx, hcell⟩
  · simp at hcs
    subst hcs
    exact ⟨[], ⟨none, 0, rfl, by simp, by simp, by unfold maxLen; omega, Lies.nil⟩, by simp, by simp⟩
  · simp at hcs
    subst hcs
    simp only [Prod.mk.injEq] at hx
    obtain ⟨rfl, rfl⟩ := hx
    simp only [if_true] at hk
    have hwt : ∀ n, n ∈ (((List.range len).map D).length * P.bytesOf e + ((List.range (k - len)).map fun j => D (len + j)).length * P.bytesOf e) :: (DataW.weightsAll P e ((List.range len).map D) ++ DataW.weightsAll P e ((List.range (k - len)).map fun j => D (len + j))) → n ≤ reachBytes := by
      intro n hn
      refine hw n ?_
      show n ∈ DataW.weights P t (DataW.slice _ _)
      rw [DataW.weights, ht]
      rw [← Nat.add_mul] at hn
      exact hn
    have hlw : len * P.bytesOf e ≤ reachBytes := by
      have h := hwt _ (List.mem_cons_self)
      simp only [List.length_map, List.length_range] at h
      omega
    obtain ⟨F, hF⟩ := choose_lt (n := len) (p := fun i (a' : α) => p a' ∧ ∀ j u, (f a')[j]? = some u → W.cell? (a.add (i * m + j)) = some u) fun i hi => by
      obtain ⟨cs', h1, h2⟩ := hcell i (by omega)
      rw [hc] at h1
      obtain ⟨_, hlen, hce⟩ := World.cells?_some h1
      obtain ⟨a', rfl, ha⟩ := each cs' n _ hlen h2 (fun q hq => hlt q (List.mem_append_right _ (List.mem_flatMap.2 ⟨i, List.mem_range.2 (by omega), hq⟩)))
        (fun q hq => hwt q (List.mem_cons_of_mem _ (List.mem_append_left _ (weightsAll_memH (List.mem_map.2 ⟨i, List.mem_range.2 hi, rfl⟩) q hq))))
      refine ⟨a', ha, fun j u hu => ?_⟩
      have hj : j < m := by rw [← hf a']; exact (List.getElem?_eq_some_iff.1 hu).1
      have h3 := hce j hj
      rw [add_add, hu] at h3
      exact h3
    have hll : ((List.range len).map F).length = len := by simp
    refine ⟨(List.range len).map F, ⟨some a, cap, by rw [hll], by simp, by rw [hll]; exact hl, hmx, ?_⟩, fun x hx => ?_, by rw [hll]; exact hlw⟩
    · by_cases h0 : len = 0
      · subst h0; exact .inl (by simp)
      · refine .inr ⟨a, rfl, ?_, fun j u hu => ?_⟩
        · have h1 := (hF 0 (by omega)).2 0 _ (List.getElem?_eq_getElem (by rw [hf]; exact hm))
          have hs : a.spot = none := by
            have h2 : a.add (0 * m + 0) = a := by simp [Addr.add]
            rw [h2] at h1
            exact World.cell?_spot h1
          obtain ⟨b, off, spot⟩ := a
          exact hlt (.cell b off) (List.mem_append_left _ (MemPlace.mem_row.2 ⟨0, by rw [hc]; exact Nat.mul_pos (by omega) hm, by simp⟩))
        · have hjl : j < len * m := by
            have h1 := (List.getElem?_eq_some_iff.1 hu).1
            rwa [flat_len hf, hll] at h1
          have hk2 : j / m < len := Nat.div_lt_of_lt_mul (by rwa [Nat.mul_comm])
          have e1 : j / m * m + j % m = j := by rw [Nat.mul_comm]; exact Nat.div_add_mod j m
          have h1 := flat_at hf ((List.range len).map F) (j / m) (by rw [hll]; exact hk2) (j % m) (Nat.mod_lt _ hm)
          rw [e1, List.getElem_map, List.getElem_range] at h1
          have h2 := (hF (j / m) hk2).2 (j % m) u (by rw [← h1]; exact hu)
          rwa [e1] at h2
    · obtain ⟨i, hi, rfl⟩ := List.mem_map.1 hx
      exact (hF i (by simpa using hi)).1
set_option maxRecDepth 100000 in
theorem open_intsF {v : Value} {n : Nat} {y : DataW H × List MemPlace} (hw : Reached Tryd.prog 49 y.1) (h : DataW.trod enc Tryd.prog W 0 (fun _ => true) true n 49 [v] = some y) (hlt : ∀ x ∈ y.2, x.block < W.heap.size) :
    ∃ l : List Int, IsV iv l v W ∧ (∀ x ∈ l, inInt x) ∧ l.length ≤ 17592186044415 := by
  obtain ⟨l, h1, h2, h3⟩ := open_wideS (enc := enc) (f := fun x : Int => [iv x]) (m := 1) (p := fun x : Int => inInt x) Tryd.underlying49 (by kernel_rfl) (by omega) (fun _ => rfl) hw (fun cs n x hlen h _ _ => by
    match cs, hlen with
    | [v0], _ =>
      obtain ⟨i, e, _, hw⟩ := DataW.trod_int Tryd.underlying3 h
      simp at e
      subst e
      exact ⟨i, rfl, wf_i64 hw⟩) h hlt
  obtain ⟨A, c, g1, g2, g3, g4, g5⟩ := h1
  rw [show Tryd.prog.bytesOf 3 = 8 by kernel_rfl] at h3
  unfold reachBytes at h3
  exact ⟨l, ⟨A, c, g1, g2, g3, g4, by rw [List.map_eq_flatMap]; exact g5⟩, h2, by omega⟩
set_option maxRecDepth 100000 in
set_option maxHeartbeats 2000000 in
theorem open_preds (hw : Reached Tryd.prog 23 d) (hval : Value.okWide Tryd.prog W .any base 23 v) (hd : DataW.Trod enc Tryd.prog W 0 (fun _ => true) true 23 v d ps) (hlt : ∀ x ∈ ps, x.block < W.heap.size) : ∃ l : List HN, IsPreds l v W := by
  obtain ⟨a0, len, cap, rfl⟩ := okWide_slice Tryd.underlying23 hval
  obtain ⟨fuel, hf0⟩ := hd
  obtain ⟨l, h1, h2, _⟩ := open_wideS (enc := enc) (f := hpcells) (m := 7) (p := fun n => HAt n W) (y := (d, ps)) Tryd.underlying23 (by kernel_rfl) (by omega) (fun _ => rfl) hw (fun cs n x hlen h hq hwx => by
    obtain ⟨xs, k, hk, hxy, _, hxl, hf⟩ := DataW.trod_struct Tryd.underlying51 h
    match xs, hxl, cs, hlen with
    | [y0, y1, y2, y3, y4], _, [v0, v1, v2, v3, v4, v5, v6], _ =>
      have g0 := hf 0 _ rfl
      have g1 := hf 1 _ rfl
      have g2 := hf 2 _ rfl
      have g3 := hf 3 _ rfl
      have g4 := hf 4 _ rfl
      have hwx4 : Reached Tryd.prog 49 y4.1 := fun q hq4 => hwx q (by rw [hxy, DataW.weights, Tryd.underlying51]; exact DataW.weights_mem_each (j := 4) rfl rfl q hq4)
      simp [Tryd.cells_int, Tryd.cells_valH, Tryd.cells_valsH, Tryd.cells_intsH] at g0 g1 g2 g3 g4
      obtain ⟨i0, e0, _, w0⟩ := DataW.trod_int Tryd.underlying3 g0
      obtain ⟨i1, e1, _, w1⟩ := DataW.trod_int Tryd.underlying3 g1
      obtain ⟨c, rfl, rfl, rfl, c1, c2⟩ := open_val0 g2
      obtain ⟨l3, l31, l32⟩ := open_valsF Tryd.underlying31 g3 fun q hq2 => hq q (by rw [hxy]; simp [hq2])
      obtain ⟨l4, l41, l42, l43⟩ := open_intsF (hwx4) g4 fun q hq2 => hq q (by rw [hxy]; simp [hq2])
      simp at e0 e1
      subst e0 e1
      exact ⟨⟨i0, i1, c, l3, l4, v5, v6⟩, rfl, l31, l41, wf_i64 w0, wf_i64 w1, c1, c2, fun x hx => (l32 x hx).1, fun x hx => (l32 x hx).2, l42, l43⟩) (by simpa [Value.cells] using hf0) hlt
  exact ⟨l, h1, h2⟩
set_option maxRecDepth 100000 in
theorem open_rows (hval : Value.okWide Tryd.prog W .any base 27 v) (hd : DataW.Trod enc Tryd.prog W 0 (fun _ => true) true 27 v d ps) (hlt : ∀ x ∈ ps, x.block < W.heap.size) : ∃ l : List (List CV × Value), IsRows l v W := by
  obtain ⟨a0, len, cap, rfl⟩ := okWide_slice Tryd.underlying27 hval
  obtain ⟨fuel, hf0⟩ := hd
  obtain ⟨l, h1, h2⟩ := open_wide0 (enc := enc) (f := hrcells) (m := 1) (p := fun r => HRow r.1 r.2 W) Tryd.underlying27 (by kernel_rfl) (by omega) (fun _ => rfl) (fun cs n x hlen h hq => by
    match cs, hlen with
    | [v0], _ =>
      obtain ⟨l0, g1, g2⟩ := open_valsF Tryd.underlying32 h hq
      exact ⟨(l0, v0), rfl, g1, fun x hx => (g2 x hx).1, fun x hx => (g2 x hx).2⟩) (y := (d, ps)) (by simpa [Value.cells] using hf0) hlt
  exact ⟨l, h1, h2⟩
set_option maxRecDepth 100000 in
theorem open_row (hval : Value.okWide Tryd.prog W .any base 32 v) (hd : DataW.Trod enc Tryd.prog W 0 (fun _ => true) true 32 v d ps) (hlt : ∀ x ∈ ps, x.block < W.heap.size) : ∃ r : List CV, HRow r v W := by
  obtain ⟨a0, len, cap, rfl⟩ := okWide_slice Tryd.underlying32 hval
  obtain ⟨fuel, hf0⟩ := hd
  obtain ⟨l, h1, h2⟩ := open_valsF (y := (d, ps)) Tryd.underlying32 (by simpa [Value.cells] using hf0) hlt
  exact ⟨l, h1, fun x hx => (h2 x hx).1, fun x hx => (h2 x hx).2⟩
set_option maxRecDepth 100000 in
set_option maxHeartbeats 2000000 in
theorem open_statss (hval : Value.okWide Tryd.prog W .any base 36 v) (hd : DataW.Trod enc Tryd.prog W 0 (fun _ => true) true 36 v d ps) (hlt : ∀ x ∈ ps, x.block < W.heap.size) :
    ∃ l : List GS, IsR gcells l v W ∧ ∀ s ∈ l, s.inInt ∧ s.min.s.size ≤ maxLen ∧ s.max.s.size ≤ maxLen := by
  obtain ⟨a0, len, cap, rfl⟩ := okWide_slice Tryd.underlying36 hval
  obtain ⟨fuel, hf0⟩ := hd
  obtain ⟨l, h1, h2⟩ := open_wide0 (enc := enc) (f := gcells) (m := 10) (p := fun s => s.inInt ∧ s.min.s.size ≤ maxLen ∧ s.max.s.size ≤ maxLen) Tryd.underlying36 (by kernel_rfl) (by omega) (fun _ => rfl) (fun cs n x hlen h hq => by
    obtain ⟨xs, k, hk, hxy, _, hxl, hf⟩ := DataW.trod_struct Tryd.underlying43 h
    match xs, hxl, cs, hlen with
    | [y0, y1, y2, y3, y4, y5], _, [v0, v1, v2, v3, v4, v5, v6, v7, v8, v9], _ =>
      have g0 := hf 0 _ rfl
      have g1 := hf 1 _ rfl
      have g2 := hf 2 _ rfl
      have g3 := hf 3 _ rfl
      have g4 := hf 4 _ rfl
      have g5 := hf 5 _ rfl
      simp [Tryd.cells_int, Tryd.cells_valH, Tryd.cells_bool] at g0 g1 g2 g3 g4 g5
      obtain ⟨i0, e0, _, w0⟩ := DataW.trod_int Tryd.underlying3 g0
      obtain ⟨b1, e1, _⟩ := DataW.trod_bool Tryd.underlying4 g1
      obtain ⟨c, rfl, rfl, rfl, c1, c2⟩ := open_val0 g2
      obtain ⟨c', rfl, rfl, rfl, c1', c2'⟩ := open_val0 g3
      obtain ⟨i4, e4, _, w4⟩ := DataW.trod_int Tryd.underlying3 g4
      obtain ⟨b5, e5, _⟩ := DataW.trod_bool Tryd.underlying4 g5
      simp at e0 e1 e4 e5
      subst e0 e1 e4 e5
      have u0 := wf_i64 w0
      have u4 := wf_i64 w4
      exact ⟨⟨i0, b1, c, c', i4, b5⟩, rfl, ⟨u0.1, u0.2, c1, c1', u4.1, u4.2⟩, c2, c2'⟩) (y := (d, ps)) (by simpa [Value.cells] using hf0) hlt
  exact ⟨l, h1, h2⟩
end

end Go.Proofs.YtniniophoocalaaDoor

/- Contracts of layer 18's reference: some, yes, leaf. Written by gen_href.py. -/







namespace Go.Proofs.YtniniophoocalaaDoor

open Go.RowKit

def hpv (n : HN) : Value := .agg (hpcells n).toArray
theorem gives_notH {P : Program} {o : Oper} {ρ : Operand → Value} {w : World} {R : Value → World → Prop} {t : TypeId} {x : Operand} {b : Bool} (ho : o.op = .unOp .not t x) (hx : ρ x = .bool b) (hR : R (.bool !b) w) : Gives P o ρ w R := by
  refine gives_of (v := .bool !b) (w' := w) ?_ hR
  unfold execOp
  simp only [ho, hx]
  rfl
theorem cv_sizeH : ∀ W, (sizeOf 41).run Tryd.prog W = .ok 3 W := Tryd.sizeOf41
theorem infoVH_size : (Tryd.prog.info? 41).map (·.size) = some 3 := by kernel_rfl
theorem pred_at3 (W : World) (g : Nat) : (Instr.fieldAt 51 (.pointer (some ⟨g, 0, none⟩)) 3).run Tryd.prog W = .ok (.pointer (some ⟨g, 5, none⟩)) W := by kernel_rfl
theorem wide_atH {l : List CV} {ad : Addr} {n c : Nat} {W : World} {x : CV} {k : Nat} (hx : ∀ hk : k < l.length, x = l[k]) (h : IsR kcells l (.slice (some ad) n c) W) (hk : k < l.length) : ∀ q v, (kcells x)[q]? = some v → W.cell? ((ad.add (k * 3)).add q) = some v := by
  obtain ⟨ad', hA, _, hc⟩ := h.at (m := 3) (fun _ => rfl) (by omega) hk
  injection hA with hA
  subst hA
  intro q v hq
  have hq3 : q < 3 := (List.getElem?_eq_some_iff.1 hq).1
  rw [add_add, hc q hq3, ← hx hk]
  exact hq
theorem row_atH {W : World} {g : Nat} {t : TypeId} {cs : List Value} {x : CV} (h : Row W g t cs) (off : Nat) (hx : ∀ q, q < 3 → cs[off + q]? = (kcells x)[q]?) : ∀ q v, (kcells x)[q]? = some v → W.cell? ((⟨g, off, none⟩ : Addr).add q) = some v := by
  intro q v hq
  have hq3 : q < 3 := (List.getElem?_eq_some_iff.1 hq).1
  have ha : (⟨g, off, none⟩ : Addr).add q = ⟨g, off + q, none⟩ := by
    unfold Addr.add
    split
    · rename_i h0; subst h0; rfl
    · rfl
  rw [ha, h.cell, hx q hq3]
  exact hq
theorem box_rowH (x : CV) (w : World) : Row (w.alloc (.cells #[.bool x.null, .int .i64 x.n, .string x.s] 41)) w.heap.size 41 [.bool x.null, .int .i64 x.n, .string x.s] := heap_alloc_new w _
theorem rsome18_any (k : Int) (x : CV) (w : World) (hU : Tryd.U8 w) (hs : x.s.size ≤ maxLen) : Calls Tryd.prog 26 #[.int .i64 k, cv x] w fun e w' => e = .returned (.bool (hpsome k x)) ∧ Below w.heap.size w w' := by
  have hb0 : ∀ o, Below w.heap.size w (w.alloc o) := fun o => (Below.refl _ _).alloc (Nat.le_refl _) _
  obtain ⟨p, hp⟩ : ∃ p, p = kmay k x := ⟨_, rfl⟩
  have HE := Lib.hid (show hpsome k x = (p && !x.null) by rw [hp]; rfl)
  have HM := Lib.hid (rmay12_any k x (w.alloc (.cells #[.bool x.null, .int .i64 x.n, .string x.s] 41)) (Utf8Tabs_below hU (hb0 _)) hs)
  rw [← hp] at HM
  rw [HE.out]
  clear hp HE
  obtain ⟨xb, xn, xs⟩ := x
  have HB0 := Lib.hid (hb0 (.cells #[.bool xb, .int .i64 xn, .string xs] 41))
  have HA := Lib.hid (box_rowH ⟨xb, xn, xs⟩ w)
  have a0 := HA.out.cell 0
  have a1 := HA.out.cell 1
  have a2 := HA.out.cell 2
  unfold cv at HM ⊢
  dsimp only at HM ⊢
  clear hb0 hU hs
  go_enter Tryd.func26, Tryd.ntmps26
  go_wp2_with fail
  refine HM.out.mono ?_
  rintro e w2 ⟨rfl, hb2⟩
  have HA2 := Lib.hid (HA.out.below hb2 HA.out.lt)
  have HB2 := Lib.hid (below_then HB0.out hb2)
  have b0 := HA2.out.cell 0
  clear hb2 a0 a1 a2
  cases p with
  | true =>
    go_wp2
    go_ret
    exact ⟨rfl, HB2.out⟩
  | false =>
    go_wp2
    go_ret
    exact ⟨rfl, HB2.out⟩
theorem ryes18_any (b : Bool) (w : World) : Calls Tryd.prog 48 #[.bool b] w fun e w' => e = .returned (.int .i64 (hpyes b)) ∧ Below w.heap.size w w' := by
  cases b with
  | true =>
    go_enter Tryd.func48, Tryd.ntmps48
    go_wp2
    go_ret
    exact ⟨rfl, Below.refl _ _⟩
  | false =>
    go_enter Tryd.func48, Tryd.ntmps48
    go_wp2
    go_ret
    exact ⟨rfl, Below.refl _ _⟩
def HLeafRel (v : CV) (vals : List CV) (w : World) (is i : Value) (wr : World) : Prop :=
  ∃ j : Nat, j ≤ vals.length ∧ i = .int .i64 (j : Int) ∧ is = .bool ((vals.take j).any fun x => kcmp v x == 0) ∧ Below w.heap.size w wr
set_option maxHeartbeats 4000000 in
set_option maxRecDepth 100000 in
theorem rleaf18_any (n : HN) (r : List CV) (rv : Value) (w : World) (hn : HAt n w) (hr : IsR kcells r rv w) (hcol : n.op ≠ 9 → 0 ≤ n.col ∧ n.col < (r.length : Int)) (_hb : r.length ≤ 1000000) (hop : 4 ≤ n.op ∧ n.op ≤ 9) (hvl : n.op = 7 → n.vals.length ≤ 1000000) :
    Calls Tryd.prog 32 #[hpv n, rv] w fun e w' => e = .returned (.int .i64 (hpleaf n r)) ∧ Below w.heap.size w w' := by
  obtain ⟨op, col, ⟨nb, nn, ns⟩, vals, ls, vv, lv⟩ := n
  dsimp only at hcol hop hvl
  have HMV0 := Lib.hid hn.vals
  dsimp only at HMV0
  obtain ⟨W1, hW1⟩ : ∃ W1, W1 = w.alloc (.cells #[.int .i64 op, .int .i64 col, .bool nb, .int .i64 nn, .string ns, vv, lv] 51) := ⟨_, rfl⟩
  have RB1 : Hid (Row W1 w.heap.size 51 [.int .i64 op, .int .i64 col, .bool nb, .int .i64 nn, .string ns, vv, lv]) := Lib.hid (by rw [hW1]; exact heap_alloc_new w _)
  have HB1 : Hid (Below w.heap.size w W1) := Lib.hid (by rw [hW1]; exact (Below.refl _ _).alloc (Nat.le_refl _) _)
  unfold hpv hpcells
  dsimp only
  by_cases h9 : op = 9
  · subst h9
    have HE := Lib.hid (show hpleaf ⟨9, col, ⟨nb, nn, ns⟩, vals, ls, vv, lv⟩ r = 2 from rfl)
    have b0 := RB1.out.cell 0
    clear hn hr hcol hop hvl
    subst hW1
    go_enter Tryd.func32, Tryd.ntmps32
    go_wp2
    go_ret
    exact ⟨by rw [HE.out]; rfl, HB1.out⟩
  obtain ⟨h0, h1⟩ := hcol h9
  obtain ⟨c, rfl⟩ := Int.eq_ofNat_of_zero_le h0
  have hcl : c < r.length := by omega
  have d9 : (op == 9) = false := by simpa using h9
  obtain ⟨A, rn, rc, rfl⟩ := hr.shape
  have hrn := hr.parts.1
  have hcr : c < rn := by omega
  have hcri : (c : Int) < (rn : Int) := by omega
  obtain ⟨ad, rfl, had, hcell⟩ := (hr.below HB1.out).at (m := 3) (fun _ => rfl) (by omega) hcl
  obtain ⟨v, hv⟩ : ∃ v, v = r[c] := ⟨_, rfl⟩
  have hgetv : r.getD (c : Int).toNat nul = v := by rw [Int.toNat_natCast, hv]; simp [List.getD, List.getElem?_eq_getElem hcl]
  rw [← hv] at hcell
  obtain ⟨k0, k1, k2⟩ := cells3 hcell
  obtain ⟨vb, vn, vz⟩ := v
  dsimp only at k0 k1 k2
  obtain ⟨W2, hW2⟩ : ∃ W2, W2 = W1.alloc (.cells #[.bool vb, .int .i64 vn, .string vz] 41) := ⟨_, rfl⟩
  have hbn : Below W1.heap.size W1 W2 := by rw [hW2]; exact (Below.refl _ _).alloc (Nat.le_refl _) _
  have RB2 := Lib.hid (RB1.out.below hbn RB1.out.lt)
  have RV2 : Hid (Row W2 (w.heap.size + 1) 41 [.bool vb, .int .i64 vn, .string vz]) := Lib.hid (by
    have h : Row W2 W1.heap.size 41 [.bool vb, .int .i64 vn, .string vz] := by rw [hW2]; exact heap_alloc_new W1 _
    have hz : W1.heap.size = w.heap.size + 1 := by rw [hW1]; simp
    rwa [hz] at h)
  have HB2 := Lib.hid (below_then HB1.out hbn)
  have b0 := RB1.out.cell 0
  have b1 := RB1.out.cell 1
  have g0 := RB2.out.cell 0
  have x0 := RV2.out.cell 0
  clear hcell had hv hbn hrn hr hn h0 h1 hcl
  by_cases h8 : op = 8
  · subst h8
    have HE := Lib.hid (show hpleaf ⟨8, (c : Int), ⟨nb, nn, ns⟩, vals, ls, vv, lv⟩ r = hpyes vb by unfold hpleaf; dsimp only; rw [if_neg (by decide), if_pos rfl, hgetv])
    have HBC := HB2
    clear hgetv
    subst hW2
    subst hW1
    go_enter Tryd.func32, Tryd.ntmps32
    go_wp2_with fail
    refine (ryes18_any vb _).mono ?_
    rintro e w4 ⟨rfl, hb4⟩
    have HB4 := Lib.hid (below_then HBC.out hb4)
    clear hb4
    go_wp2
    go_ret
    exact ⟨by rw [HE.out]; rfl, HB4.out⟩
  have d8 : (op == 8) = false := by simpa using h8
  cases vb with
  | true =>
    have HE := Lib.hid (show hpleaf ⟨op, (c : Int), ⟨nb, nn, ns⟩, vals, ls, vv, lv⟩ r = 1 by unfold hpleaf; dsimp only; rw [if_neg h9, if_neg h8, hgetv, if_pos rfl])
    clear hgetv
    subst hW2
    subst hW1
    go_enter Tryd.func32, Tryd.ntmps32
    go_wp2
    go_ret
    exact ⟨by rw [HE.out]; rfl, HB2.out⟩
  | false =>
  have HC := Lib.hid (rcmp12_any ⟨false, vn, vz⟩ ⟨nb, nn, ns⟩ W2)
  unfold cv at HC
  dsimp only at HC
  have x1 := RV2.out.cell 1
  have x2 := RV2.out.cell 2
  have g2 := RB2.out.cell 2
  have g3 := RB2.out.cell 3
  have g4 := RB2.out.cell 4
  have HMV2 := Lib.hid (HMV0.out.below HB2.out)
  obtain ⟨q, hq⟩ : ∃ q, q = kcmp ⟨false, vn, vz⟩ ⟨nb, nn, ns⟩ := ⟨_, rfl⟩
  rw [← hq] at HC
  have HQ := Lib.hid hq
  clear hq
  subst hW2
  subst hW1
  go_enter Tryd.func32, Tryd.ntmps32
  go_wp2_with fail
  refine HC.out.mono ?_
  rintro e w3 ⟨rfl, hb3⟩
  have HBC := Lib.hid (below_then HB2.out hb3)
  have RB3 := Lib.hid (RB2.out.below hb3 RB2.out.lt)
  have RV3 := Lib.hid (RV2.out.below hb3 RV2.out.lt)
  have HMV3 := Lib.hid (HMV2.out.below hb3)
  have z0 := RB3.out.cell 0
  clear b0 b1 g0 x0 x1 x2 g2 g3 g4 k0 k1 k2 hb3
  by_cases h4 : op = 4
  · subst h4
    have HE := Lib.hid (show hpleaf ⟨4, (c : Int), ⟨nb, nn, ns⟩, vals, ls, vv, lv⟩ r = hpyes (q == 0) by unfold hpleaf; dsimp only; rw [if_neg (by decide), if_neg (by decide), hgetv]; rw [HQ.out]; simp)
    clear hgetv
    go_wp2_with fail
    refine (ryes18_any (q == 0) _).mono ?_
    rintro e w4 ⟨rfl, hb4⟩
    have HB4 := Lib.hid (below_then HBC.out hb4)
    clear hb4
    go_wp2
    go_ret
    exact ⟨by rw [HE.out]; rfl, HB4.out⟩
  by_cases h5 : op = 5
  · subst h5
    have HE := Lib.hid (show hpleaf ⟨5, (c : Int), ⟨nb, nn, ns⟩, vals, ls, vv, lv⟩ r = hpyes (decide (q < 0)) by unfold hpleaf; dsimp only; rw [if_neg (by decide), if_neg (by decide), hgetv]; rw [HQ.out]; simp)
    clear hgetv
    go_wp2_with fail
    refine (ryes18_any (decide (q < 0)) _).mono ?_
    rintro e w4 ⟨rfl, hb4⟩
    have HB4 := Lib.hid (below_then HBC.out hb4)
    clear hb4
    go_wp2
    go_ret
    exact ⟨by rw [HE.out]; rfl, HB4.out⟩
  by_cases h6 : op = 6
  · subst h6
    have HE := Lib.hid (show hpleaf ⟨6, (c : Int), ⟨nb, nn, ns⟩, vals, ls, vv, lv⟩ r = hpyes (decide (q ≤ 0)) by unfold hpleaf; dsimp only; rw [if_neg (by decide), if_neg (by decide), hgetv]; rw [HQ.out]; simp)
    clear hgetv
    go_wp2_with fail
    refine (ryes18_any (decide (q ≤ 0)) _).mono ?_
    rintro e w4 ⟨rfl, hb4⟩
    have HB4 := Lib.hid (below_then HBC.out hb4)
    clear hb4
    go_wp2
    go_ret
    exact ⟨by rw [HE.out]; rfl, HB4.out⟩
  have HE := Lib.hid (show hpleaf ⟨op, (c : Int), ⟨nb, nn, ns⟩, vals, ls, vv, lv⟩ r = hpyes (vals.any fun x => kcmp ⟨false, vn, vz⟩ x == 0) by unfold hpleaf; dsimp only; rw [if_neg h9, if_neg h8, hgetv, if_neg (by simp), if_neg h4, if_neg h5, if_neg h6])
  have d4 : (op == 4) = false := by simpa using h4
  have d5 : (op == 5) = false := by simpa using h5
  have d6 : (op == 6) = false := by simpa using h6
  obtain ⟨vA, vm, vc, rfl⟩ := HMV3.out.shape
  have HVM := Lib.hid HMV3.out.parts.1
  have hvm6 : vm ≤ 1000000 := by have := HVM.out; have := hvl (by omega); omega
  have HST := Lib.hid (show HLeafRel ⟨false, vn, vz⟩ vals w3 (.bool false) (.int .i64 0) w3 from ⟨0, Nat.zero_le _, rfl, rfl, Below.refl _ _⟩)
  clear hgetv
  go_wp2
  go_loopw [7, 8] (HLeafRel ⟨false, vn, vz⟩ vals w3) (fun _ i _ => vm - (intOf i).toNat)
  case atStart => exact HST.out
  case round =>
    obtain ⟨j, hj, rfl, rfl, hbw⟩ := hrel
    have HBW := Lib.hid hbw
    have HZ := Lib.hid hbw.size
    have HRB := Lib.hid (RB3.out.below hbw RB3.out.lt)
    have HRV := Lib.hid (RV3.out.below hbw RV3.out.lt)
    have z5 := HRB.out.cell 5
    have hjm : j ≤ vm := by have := HVM.out; omega
    obtain ⟨b, hbb⟩ : ∃ b, b = (vals.take j).any (fun x => kcmp ⟨false, vn, vz⟩ x == 0) := ⟨_, rfl⟩
    have HBB := Lib.hid hbb
    rw [← hbb]
    clear hbb hj hbw
    by_cases hlt : j < vm
    · have hjl : j < vals.length := by have := HVM.out; omega
      have hlti : (j : Int) < (vm : Int) := by omega
      obtain ⟨ad2, rfl, _, _⟩ := (HMV3.out.below HBW.out).at (m := 3) (fun _ => rfl) (by omega) hjl
      have HMV := HMV3
      obtain ⟨x, hx⟩ : ∃ x, x = vals[j] := ⟨_, rfl⟩
      have HX : Hid (∀ hk : j < vals.length, x = vals[j]) := Lib.hid (fun _ => hx)
      have HTK0 : Hid ((vals.take (j + 1)).any (fun x => kcmp ⟨false, vn, vz⟩ x == 0) = (b || (kcmp ⟨false, vn, vz⟩ x == 0))) := Lib.hid (by rw [List.take_succ_eq_append_getElem hjl, List.any_append, ← HBB.out, hx]; simp)
      clear hx
      obtain ⟨xb, xn, xs⟩ := x
      cases b with
      | true =>
        have HTK : Hid ((vals.take (j + 1)).any (fun x => kcmp ⟨false, vn, vz⟩ x == 0) = true) := Lib.hid (by rw [HTK0.out]; rfl)
        go_wp2_with fail
        refine wp_region_list [.is (.bool true), .is (.bool true), .any, .any, .any, .any, .any, .any, .any, .any, .is (.bool true), .is (.bool true)] [some 53, some 54, some 55, some 56, some 57, some 58, some 59, some 60, some 61, some 62, some 63, some 7] (by kernel_rfl) (by kernel_rfl) (by kernel_rfl) rfl ⟨?_, ?_, ?_, ?_, ?_, ?_, ?_, ?_, ?_, ?_, ?_, ?_, trivial⟩ ?_
        · intro ρ W1 hb1 H
          exact gives_move rfl (H.old 7 _ (by kernel_rfl) rfl) ⟨rfl, Below.refl _ _⟩
        · intro ρ W1 hb1 H
          exact gives_move rfl (H.new 53 0 (by kernel_rfl)) ⟨rfl, Below.refl _ _⟩
        · intro ρ W1 hb1 H d hd
          have hd' : (some 54 : Option Tmp) = some d := hd
          injection hd' with hd'
          subst hd'
          exact ⟨(fun hh => by cases hh.symm.trans (H.new 54 1 (by kernel_rfl))), fun _ => trivial⟩
        · intro ρ W1 hb1 H d hd
          have hd' : (some 54 : Option Tmp) = some d := hd
          injection hd' with hd'
          subst hd'
          exact ⟨(fun hh => by cases hh.symm.trans (H.new 54 1 (by kernel_rfl))), fun _ => trivial⟩
        · intro ρ W1 hb1 H d hd
          have hd' : (some 54 : Option Tmp) = some d := hd
          injection hd' with hd'
          subst hd'
          exact ⟨(fun hh => by cases hh.symm.trans (H.new 54 1 (by kernel_rfl))), fun _ => trivial⟩
        · intro ρ W1 hb1 H d hd
          have hd' : (some 54 : Option Tmp) = some d := hd
          injection hd' with hd'
          subst hd'
          exact ⟨(fun hh => by cases hh.symm.trans (H.new 54 1 (by kernel_rfl))), fun _ => trivial⟩
        · intro ρ W1 hb1 H d hd
          have hd' : (some 54 : Option Tmp) = some d := hd
          injection hd' with hd'
          subst hd'
          exact ⟨(fun hh => by cases hh.symm.trans (H.new 54 1 (by kernel_rfl))), fun _ => trivial⟩
        · intro ρ W1 hb1 H d hd
          have hd' : (some 54 : Option Tmp) = some d := hd
          injection hd' with hd'
          subst hd'
          exact ⟨(fun hh => by cases hh.symm.trans (H.new 54 1 (by kernel_rfl))), fun _ => trivial⟩
        · intro ρ W1 hb1 H d hd
          have hd' : (some 54 : Option Tmp) = some d := hd
          injection hd' with hd'
          subst hd'
          exact ⟨(fun hh => by cases hh.symm.trans (H.new 54 1 (by kernel_rfl))), fun _ => trivial⟩
        · intro ρ W1 hb1 H d hd
          have hd' : (some 54 : Option Tmp) = some d := hd
          injection hd' with hd'
          subst hd'
          exact ⟨(fun hh => by cases hh.symm.trans (H.new 54 1 (by kernel_rfl))), fun _ => trivial⟩
        · intro ρ W1 hb1 H
          exact gives_pick_t rfl (H.new 54 1 (by kernel_rfl)) (H.const _) ⟨rfl, Below.refl _ _⟩
        · intro ρ W1 hb1 H
          exact gives_assign rfl (H.new 63 10 (by kernel_rfl)) ⟨rfl, Below.refl _ _⟩
        · intro vs W1 hb1 hfs
          have f11 : vs 11 = .bool true := hfs 11 (by decide)
          clear hfs
          simp only [putAll, Nat.zero_add, Nat.reduceAdd]
          generalize vs 0 = z0
          generalize vs 1 = z1
          generalize vs 2 = z2
          generalize vs 3 = z3
          generalize vs 4 = z4
          generalize vs 5 = z5
          generalize vs 6 = z6
          generalize vs 7 = z7
          generalize vs 8 = z8
          generalize vs 9 = z9
          generalize vs 10 = z10
          simp only [f11, Act.put, List.setIfInBounds_toArray, List.set_cons_succ, List.set_cons_zero]
          clear f11
          have HBE := Lib.hid (HBW.out.trans (hb1.mono HZ.out))
          clear hb1
          go_wp2
          go_roundw
          case rel => exact ⟨j + 1, hjl, by go_num, by rw [HTK.out], HBE.out⟩
          case measure => simp [intOf]; omega
      | false =>
        have HTK : Hid ((vals.take (j + 1)).any (fun x => kcmp ⟨false, vn, vz⟩ x == 0) = (kcmp ⟨false, vn, vz⟩ ⟨xb, xn, xs⟩ == 0)) := Lib.hid (by rw [HTK0.out]; rfl)
        go_wp2_with fail
        refine wp_region_list [.is (.bool false), .is (.bool false), .is (cv ⟨false, vn, vz⟩), .is (.pointer (some ⟨w.heap.size, 5, none⟩)), .is (.slice (some ad2) vm vc), .is (.int .i64 (j : Int)), .is (.pointer (some (ad2.add (j * 3)))), .is (cv ⟨xb, xn, xs⟩), .is (.int .i64 (kcmp ⟨false, vn, vz⟩ ⟨xb, xn, xs⟩)), .is (.bool (kcmp ⟨false, vn, vz⟩ ⟨xb, xn, xs⟩ == 0)), .is (.bool (kcmp ⟨false, vn, vz⟩ ⟨xb, xn, xs⟩ == 0)), .is (.bool (kcmp ⟨false, vn, vz⟩ ⟨xb, xn, xs⟩ == 0))] [some 53, some 54, some 55, some 56, some 57, some 58, some 59, some 60, some 61, some 62, some 63, some 7] (by kernel_rfl) (by kernel_rfl) (by kernel_rfl) rfl ⟨?_, ?_, ?_, ?_, ?_, ?_, ?_, ?_, ?_, ?_, ?_, ?_, trivial⟩ ?_
        · intro ρ W1 hb1 H
          exact gives_move rfl (H.old 7 _ (by kernel_rfl) rfl) ⟨rfl, Below.refl _ _⟩
        · intro ρ W1 hb1 H
          exact gives_move rfl (H.new 53 0 (by kernel_rfl)) ⟨rfl, Below.refl _ _⟩
        · intro ρ W1 hb1 H d hd
          have hd' : (some 54 : Option Tmp) = some d := hd
          injection hd' with hd'
          subst hd'
          refine ⟨fun _ => ?_, fun hne => absurd (H.new 54 1 (by kernel_rfl)) hne⟩
          exact gives_load_row (cs := kcells ⟨false, vn, vz⟩) rfl (H.old 5 _ (by kernel_rfl) rfl) Tryd.underlying41 rfl infoVH_size (HRV.out.below hb1 HRV.out.lt) ⟨rfl, Below.refl _ _⟩
        · intro ρ W1 hb1 H d hd
          have hd' : (some 54 : Option Tmp) = some d := hd
          injection hd' with hd'
          subst hd'
          refine ⟨fun _ => ?_, fun hne => absurd (H.new 54 1 (by kernel_rfl)) hne⟩
          exact gives_field rfl (H.old 2 _ (by kernel_rfl) rfl) (fun W => pred_at3 W w.heap.size) ⟨rfl, Below.refl _ _⟩
        · intro ρ W1 hb1 H d hd
          have hd' : (some 54 : Option Tmp) = some d := hd
          injection hd' with hd'
          subst hd'
          refine ⟨fun _ => ?_, fun hne => absurd (H.new 54 1 (by kernel_rfl)) hne⟩
          exact gives_load rfl (H.new 56 3 (by kernel_rfl)) Tryd.underlying31 rfl ((hb1.cell HRB.out.lt).trans (HRB.out.cell 5)) ⟨rfl, Below.refl _ _⟩
        · intro ρ W1 hb1 H d hd
          have hd' : (some 54 : Option Tmp) = some d := hd
          injection hd' with hd'
          subst hd'
          refine ⟨fun _ => ?_, fun hne => absurd (H.new 54 1 (by kernel_rfl)) hne⟩
          exact gives_move rfl (H.old 8 _ (by kernel_rfl) rfl) ⟨rfl, Below.refl _ _⟩
        · intro ρ W1 hb1 H d hd
          have hd' : (some 54 : Option Tmp) = some d := hd
          injection hd' with hd'
          subst hd'
          refine ⟨fun _ => ?_, fun hne => absurd (H.new 54 1 (by kernel_rfl)) hne⟩
          exact gives_index_wide (k := j) Tryd.underlying31 cv_sizeH rfl (H.new 57 4 (by kernel_rfl)) (H.new 58 5 (by kernel_rfl)) (by omega) ⟨rfl, Below.refl _ _⟩
        · intro ρ W1 hb1 H d hd
          have hd' : (some 54 : Option Tmp) = some d := hd
          injection hd' with hd'
          subst hd'
          refine ⟨fun _ => ?_, fun hne => absurd (H.new 54 1 (by kernel_rfl)) hne⟩
          exact gives_load_wide (cs := kcells ⟨xb, xn, xs⟩) rfl (H.new 59 6 (by kernel_rfl)) Tryd.underlying41 rfl cv_sizeH (wide_atH HX.out (HMV.out.below (HBW.out.trans (hb1.mono HZ.out))) hjl) ⟨rfl, Below.refl _ _⟩
        · intro ρ W1 hb1 H d hd
          have hd' : (some 54 : Option Tmp) = some d := hd
          injection hd' with hd'
          subst hd'
          refine ⟨fun _ => ?_, fun hne => absurd (H.new 54 1 (by kernel_rfl)) hne⟩
          have e0 : ρ (.tmp 55) = cv ⟨false, vn, vz⟩ := H.new 55 2 (by kernel_rfl)
          have e1 : ρ (.tmp 60) = cv ⟨xb, xn, xs⟩ := H.new 60 7 (by kernel_rfl)
          refine gives_call rfl (fun _ _ => by kernel_rfl) (H.func _) (args := #[cv ⟨false, vn, vz⟩, cv ⟨xb, xn, xs⟩]) (by simp [e0, e1]) ?_
          exact (rcmp12_any ⟨false, vn, vz⟩ ⟨xb, xn, xs⟩ W1).mono fun e w' ⟨h1, h2⟩ => ⟨_, h1, rfl, h2⟩
        · intro ρ W1 hb1 H d hd
          have hd' : (some 54 : Option Tmp) = some d := hd
          injection hd' with hd'
          subst hd'
          refine ⟨fun _ => ?_, fun hne => absurd (H.new 54 1 (by kernel_rfl)) hne⟩
          exact gives_inteq rfl (H.new 61 8 (by kernel_rfl)) (H.const _) ⟨rfl, Below.refl _ _⟩
        · intro ρ W1 hb1 H
          exact gives_pick_f rfl (H.new 54 1 (by kernel_rfl)) (H.new 62 9 (by kernel_rfl)) ⟨rfl, Below.refl _ _⟩
        · intro ρ W1 hb1 H
          exact gives_assign rfl (H.new 63 10 (by kernel_rfl)) ⟨rfl, Below.refl _ _⟩
        · intro vs W1 hb1 hfs
          have f11 : vs 11 = .bool (kcmp ⟨false, vn, vz⟩ ⟨xb, xn, xs⟩ == 0) := hfs 11 (by decide)
          clear hfs
          simp only [putAll, Nat.zero_add, Nat.reduceAdd]
          generalize vs 0 = z0
          generalize vs 1 = z1
          generalize vs 2 = z2
          generalize vs 3 = z3
          generalize vs 4 = z4
          generalize vs 5 = z5
          generalize vs 6 = z6
          generalize vs 7 = z7
          generalize vs 8 = z8
          generalize vs 9 = z9
          generalize vs 10 = z10
          simp only [f11, Act.put, List.setIfInBounds_toArray, List.set_cons_succ, List.set_cons_zero]
          clear f11
          have HBE := Lib.hid (HBW.out.trans (hb1.mono HZ.out))
          clear hb1
          go_wp2
          go_roundw
          case rel => exact ⟨j + 1, hjl, by go_num, by rw [HTK.out], HBE.out⟩
          case measure => simp [intOf]; omega
    · obtain rfl : j = vm := by omega
      have hlti : ¬ (j : Int) < (j : Int) := by omega
      have HF : Hid (vals.any (fun x => kcmp ⟨false, vn, vz⟩ x == 0) = b) := Lib.hid (by
        have h := HBB.out
        rw [List.take_of_length_le (by have := HVM.out; omega)] at h
        exact h.symm)
      have HB3 := Lib.hid (below_then HBC.out HBW.out)
      go_wp2_with fail
      refine (ryes18_any b _).mono ?_
      rintro e w4 ⟨rfl, hb4⟩
      have HB4 := Lib.hid (below_then HB3.out hb4)
      clear hb4
      go_wp2
      go_ret
      exact ⟨by rw [HE.out, HF.out]; rfl, HB4.out⟩
end Go.Proofs.YtniniophoocalaaDoor

/- Predicates (layer 18), as the program reckons them: what fits, what each node comes to by what those that it names came to. Plain mathematics. -/



namespace Go.Proofs.YtniniophoocalaaDoor

/-- The places that a node names. -/
def hpnm (n : HN) : List Int := if n.op = 1 ∨ n.op = 2 ∨ n.op = 3 then n.ls else []
/-- Whether a node may stand at a place, above so many columns. -/
def hstand (i k : Int) (n : HN) : Bool :=
  (hpnm n).all (fun q => decide (0 ≤ q ∧ q < i)) && (if n.op = 1 ∨ n.op = 2 then decide (0 < n.ls.length) else if n.op = 3 then decide (n.ls.length = 1) else if 4 ≤ n.op ∧ n.op ≤ 8 then decide (0 ≤ n.col ∧ n.col < k) else decide (n.op = 9))
def hfitsL (k : Int) : List HN → Nat → Bool
  | [], _ => true
  | n :: l, i => hstand (i : Int) k n && hfitsL k l (i + 1)
def hfitsE (k : Int) (l : List HN) : Bool := decide (1 ≤ l.length ∧ l.length ≤ 40) && hfitsL k l 0
/-- Whether a node that fits holds its column against what may be there. -/
def hholdE (ks : List Int) (n : HN) : Bool :=
  if n.op = 4 ∨ n.op = 5 ∨ n.op = 6 then hpsome (ks.getD n.col.toNat 0) n.v
  else if n.op = 7 then decide (1 ≤ n.vals.length ∧ n.vals.length ≤ 10) && n.vals.all (hpsome (ks.getD n.col.toNat 0)) else true
/-- What each node comes to. -/
def heach {T : Type} (d : T) (f : HN → List T → T) : List HN → List T → List T
  | [], out => out
  | n :: l, out => heach d f l (out ++ [f n ((hpnm n).map fun q => out.getD q.toNat d)])
def hdep (bs : List Int) : Int := bs.foldl max 0 + 1
def hdeps (l : List HN) : List Int := heach 0 (fun _ bs => hdep bs) l []
theorem hfitsL_at {k : Int} : ∀ {l : List HN} {i : Nat}, hfitsL k l i = true → ∀ j (h : j < l.length), hstand ((i + j : Nat) : Int) k l[j] = true
  | [], _, _, j, h => by simp at h
  | n :: l, i, he, j, h => by
    rw [hfitsL, Bool.and_eq_true] at he
    cases j with
    | zero => exact he.1
    | succ j =>
      have h1 := hfitsL_at he.2 j (by simpa using h)
      rw [show i + (j + 1) = i + 1 + j by omega]
      exact h1
theorem hfitsL_of {k : Int} : ∀ {l : List HN} {i : Nat}, (∀ j (h : j < l.length), hstand ((i + j : Nat) : Int) k l[j] = true) → hfitsL k l i = true
  | [], _, _ => rfl
  | n :: l, i, he => by
    rw [hfitsL, Bool.and_eq_true]
    refine ⟨he 0 (by simp), hfitsL_of fun j h => ?_⟩
    have h1 := he (j + 1) (by simpa using h)
    rw [show i + (j + 1) = i + 1 + j by omega] at h1
    exact h1
theorem hfitsL_no {k : Int} {l : List HN} {i j : Nat} (h : j < l.length) (hs : hstand ((i + j : Nat) : Int) k l[j] = false) : hfitsL k l i = false := by
  cases hf : hfitsL k l i with
  | false => rfl
  | true => rw [hfitsL_at hf j h] at hs; cases hs
theorem hok_nm {ks : List Int} {i : Nat} {n : HN} (h : HOk ks i n) : ∀ q ∈ hpnm n, 0 ≤ q ∧ q < (i : Int) := by
  intro q hq
  unfold hpnm at hq
  split at hq
  · exact (h.named (by omega)).2.2 q hq
  · cases hq
theorem hok_stand {ks : List Int} {i : Nat} {n : HN} {k : Int} (h : HOk ks i n) (hk : (ks.length : Int) ≤ k) : hstand (i : Int) k n = true := by
  have ho := h.ops
  unfold hstand
  rw [Bool.and_eq_true]
  refine ⟨List.all_eq_true.2 fun q hq => decide_eq_true (hok_nm h q hq), ?_⟩
  split
  · have := (h.named (by omega)).1
    exact decide_eq_true (by omega)
  · split
    · have := (h.named (by omega)).2.1 (by omega)
      exact decide_eq_true this
    · split
      · have := h.column (by omega) (by omega)
        exact decide_eq_true (by omega)
      · exact decide_eq_true (by omega)
theorem hok_fits {ks : List Int} {l : List HN} {k : Int} (hok : ∀ i (h : i < l.length), HOk ks i l[i]) (h1 : 1 ≤ l.length) (h40 : l.length ≤ 40) (hk : (ks.length : Int) ≤ k) : hfitsE k l = true := by
  unfold hfitsE
  rw [Bool.and_eq_true]
  exact ⟨decide_eq_true ⟨h1, h40⟩, hfitsL_of fun j h => by rw [Nat.zero_add]; exact hok_stand (hok j h) hk⟩
/-- What fits, and holds, is what is known of one that may be. -/
theorem heach_app {T : Type} (d : T) (f : HN → List T → T) : ∀ (a b : List HN) (out : List T), heach d f (a ++ b) out = heach d f b (heach d f a out)
  | [], _, _ => rfl
  | _ :: a, b, _ => heach_app d f a b _
theorem heach_len {T : Type} (d : T) (f : HN → List T → T) : ∀ (l : List HN) (out : List T), (heach d f l out).length = out.length + l.length
  | [], out => rfl
  | n :: l, out => by rw [heach, heach_len d f l, List.length_append, List.length_singleton, List.length_cons]; omega
theorem heach_next {T : Type} (d : T) (f : HN → List T → T) {l : List HN} {k : Nat} (h : k < l.length) : heach d f (l.take (k + 1)) [] = heach d f (l.take k) [] ++ [f l[k] ((hpnm l[k]).map fun q => (heach d f (l.take k) []).getD q.toNat d)] := by
  rw [List.take_succ_eq_append_getElem h, heach_app]
  rfl
theorem hpdeep_all (ds : List Int) : ∀ (qs : List Int) (a : Int), hpdeep ds qs a = if qs.all (fun q => decide (0 ≤ q ∧ q < (ds.length : Int))) = true then some (qs.foldl (fun a q => max a (ds.getD q.toNat 0)) a) else none
  | [], a => rfl
  | q :: qs, a => by
    rw [hpdeep, List.all_cons]
    by_cases hq : q < 0 ∨ (ds.length : Int) ≤ q
    · rw [if_pos hq, decide_eq_false (by omega)]
      rfl
    · rw [if_neg hq, decide_eq_true (show 0 ≤ q ∧ q < (ds.length : Int) by omega), Bool.true_and, hpdeep_all ds qs]
      rfl
theorem hpnode_eq (ks ds : List Int) (n : HN) : hpnode ks ds n = if (hstand (ds.length : Int) (ks.length : Int) n && hholdE ks n) = true then some (((hpnm n).map fun q => ds.getD q.toNat 0).foldl max 0) else none := by
  unfold hpnode
  by_cases h1 : n.op = 1 ∨ n.op = 2 ∨ n.op = 3
  · rw [if_pos h1]
    have hh : hholdE ks n = true := by unfold hholdE; rw [if_neg (by omega), if_neg (by omega)]
    have hn : hpnm n = n.ls := by unfold hpnm; rw [if_pos h1]
    rw [hh, Bool.and_true]
    unfold hstand
    rw [hn]
    by_cases h2 : n.ls.length < 1 ∨ (n.op = 3 ∧ 1 < n.ls.length)
    · rw [if_pos h2]
      have h3 : (if n.op = 1 ∨ n.op = 2 then decide (0 < n.ls.length) else if n.op = 3 then decide (n.ls.length = 1) else if 4 ≤ n.op ∧ n.op ≤ 8 then decide (0 ≤ n.col ∧ n.col < (ks.length : Int)) else decide (n.op = 9)) = false := by
        split
        · exact decide_eq_false (by omega)
        · rw [if_pos (by omega)]; exact decide_eq_false (by omega)
      rw [h3, Bool.and_false]
      rfl
    · rw [if_neg h2, hpdeep_all]
      have h3 : (if n.op = 1 ∨ n.op = 2 then decide (0 < n.ls.length) else if n.op = 3 then decide (n.ls.length = 1) else if 4 ≤ n.op ∧ n.op ≤ 8 then decide (0 ≤ n.col ∧ n.col < (ks.length : Int)) else decide (n.op = 9)) = true := by
        split
        · exact decide_eq_true (by omega)
        · rw [if_pos (by omega)]; exact decide_eq_true (by omega)
      rw [h3, Bool.and_true, List.foldl_map]
  · rw [if_neg h1]
    have hn : hpnm n = [] := by unfold hpnm; rw [if_neg h1]
    unfold hstand
    rw [hn, List.all_nil, Bool.true_and, if_neg (show ¬ (n.op = 1 ∨ n.op = 2) by omega), if_neg (show ¬ n.op = 3 by omega)]
    by_cases h2 : n.op < 4 ∨ 9 < n.op ∨ (n.op ≠ 9 ∧ (n.col < 0 ∨ (ks.length : Int) ≤ n.col))
    · rw [if_pos h2]
      have h3 : (if 4 ≤ n.op ∧ n.op ≤ 8 then decide (0 ≤ n.col ∧ n.col < (ks.length : Int)) else decide (n.op = 9)) = false := by
        split
        · exact decide_eq_false (by omega)
        · exact decide_eq_false (by omega)
      rw [h3, Bool.false_and]
      rfl
    · rw [if_neg h2]
      have h3 : (if 4 ≤ n.op ∧ n.op ≤ 8 then decide (0 ≤ n.col ∧ n.col < (ks.length : Int)) else decide (n.op = 9)) = true := by
        split
        · exact decide_eq_true (by omega)
        · exact decide_eq_true (by omega)
      rw [h3, Bool.true_and]
      unfold hholdE
      by_cases h4 : n.op = 4 ∨ n.op = 5 ∨ n.op = 6
      · rw [if_pos h4]
        cases hp : hpsome (ks.getD n.col.toNat 0) n.v with
        | false => rw [if_pos ⟨h4, rfl⟩]; rfl
        | true =>
          rw [if_neg (by simp), if_neg (by omega)]
          rfl
      · rw [if_neg h4, if_neg (fun h => h4 h.1)]
        by_cases h5 : n.op = 7
        · rw [if_pos h5]
          by_cases h6 : 1 ≤ n.vals.length ∧ n.vals.length ≤ 10
          · rw [decide_eq_true h6, Bool.true_and]
            cases ha : n.vals.all (hpsome (ks.getD n.col.toNat 0)) with
            | false => rw [if_pos ⟨h5, .inl rfl⟩]; rfl
            | true => rw [if_neg (fun h => h.2.elim (fun h => by cases h) (fun h => by omega))]; rfl
          · rw [decide_eq_false h6, Bool.false_and, if_pos ⟨h5, .inr (by omega)⟩]
            rfl
        · rw [if_neg h5, if_neg (fun h => h5 h.1)]
          rfl
theorem hpdepths_eq (ks : List Int) : ∀ (l : List HN) (ds : List Int), hpdepths ks l ds = if (hfitsL (ks.length : Int) l ds.length && (l.all (hholdE ks) && ((heach 0 (fun _ bs => hdep bs) l ds).drop ds.length).all fun x => decide (x ≤ 6))) = true then some (heach 0 (fun _ bs => hdep bs) l ds) else none
  | [], ds => by simp [hpdepths, hfitsL, heach]
  | n :: l, ds => by
    rw [hpdepths, hpnode_eq, hfitsL, List.all_cons, heach]
    have hlen : (ds ++ [hdep ((hpnm n).map fun q => ds.getD q.toNat 0)]).length = ds.length + 1 := by simp
    obtain ⟨e, he⟩ : ∃ e, e = heach 0 (fun _ bs => hdep bs) l (ds ++ [hdep ((hpnm n).map fun q => ds.getD q.toNat 0)]) := ⟨_, rfl⟩
    have hpre : e.take (ds.length + 1) = ds ++ [hdep ((hpnm n).map fun q => ds.getD q.toNat 0)] := by
      rw [he, ← hlen]
      have : ∀ (l : List HN) (out : List Int), (heach 0 (fun _ bs => hdep bs) l out).take out.length = out := by
        intro l
        induction l with
        | nil => intro out; exact List.take_length
        | cons n l ih =>
          intro out
          rw [heach]
          have h := ih (out ++ [hdep ((hpnm n).map fun q => out.getD q.toNat 0)])
          rw [List.length_append, List.length_singleton] at h
          have h2 := congrArg (List.take out.length) h
          rw [List.take_take, Nat.min_eq_left (by omega), List.take_left] at h2
          exact h2
      exact this l _
    have hdrop : e.drop ds.length = hdep ((hpnm n).map fun q => ds.getD q.toNat 0) :: e.drop (ds.length + 1) := by
      have h := List.take_append_drop (ds.length + 1) e
      rw [hpre] at h
      have h2 := congrArg (List.drop ds.length) h
      rw [List.append_assoc, List.drop_left] at h2
      exact h2.symm
    rw [← he, hdrop, List.all_cons]
    cases hs : hstand (ds.length : Int) (ks.length : Int) n with
    | false => simp
    | true =>
      cases hh : hholdE ks n with
      | false => simp
      | true =>
        rw [Bool.true_and, Bool.true_and, Bool.true_and, if_pos rfl]
        dsimp only
        have hd : hdep ((hpnm n).map fun q => ds.getD q.toNat 0) = ((hpnm n).map fun q => ds.getD q.toNat 0).foldl max 0 + 1 := rfl
        by_cases h6 : 6 < ((hpnm n).map fun q => ds.getD q.toNat 0).foldl max 0 + 1
        · rw [if_pos h6, hd, decide_eq_false (by omega)]
          simp
        · rw [if_neg h6, ← hd, hpdepths_eq ks l, hlen, ← he, hd, decide_eq_true (show ((hpnm n).map fun q => ds.getD q.toNat 0).foldl max 0 + 1 ≤ 6 by omega), Bool.true_and]
/-- What May answers, as the program reckons it. -/
theorem hpmay_eq (ks : List Int) (l : List HN) : hpmayE ks l = (hfitsE (ks.length : Int) l && (l.all (hholdE ks) && (hdeps l).all fun x => decide (x ≤ 6))) := by
  unfold hpmayE hfitsE hdeps
  rw [hpdepths_eq, Bool.and_assoc]
  congr 1
  rw [List.length_nil, List.drop_zero]
  cases (hfitsL (ks.length : Int) l 0 && (l.all (hholdE ks) && (heach 0 (fun _ bs => hdep bs) l []).all fun x => decide (x ≤ 6))) <;> rfl
theorem hdep_nat {bs : List Int} {m : Int} (h : ∀ x ∈ bs, 0 ≤ x ∧ x ≤ m) (hm : 0 ≤ m) : 1 ≤ hdep bs ∧ hdep bs ≤ m + 1 := by
  have : ∀ (bs : List Int) (a : Int), (∀ x ∈ bs, 0 ≤ x ∧ x ≤ m) → 0 ≤ a → a ≤ m → 0 ≤ bs.foldl max a ∧ bs.foldl max a ≤ m := by
    intro bs
    induction bs with
    | nil => intro a _ h1 h2; exact ⟨h1, h2⟩
    | cons b bs ih =>
      intro a h h1 h2
      have hb := h b (by simp)
      exact ih (max a b) (fun x hx => h x (List.mem_cons_of_mem _ hx)) (by omega) (by omega)
  have := this bs 0 h (by omega) hm
  unfold hdep
  omega
end Go.Proofs.YtniniophoocalaaDoor

/- The contract of layer 18's reference: Eval. Written by gen_heval.py. -/





namespace Go.Proofs.YtniniophoocalaaDoor

open Go.RowKit

theorem cells7 {w : World} {ad : Addr} {k : Nat} {x : HN} (h : ∀ i, i < 7 → w.cell? (ad.add (k * 7 + i)) = (hpcells x)[i]?) :
    w.cell? (ad.add (k * 7)) = some (.int .i64 x.op) ∧ w.cell? ⟨(ad.add (k * 7)).block, (ad.add (k * 7)).off + 1, none⟩ = some (.int .i64 x.col) ∧ w.cell? ⟨(ad.add (k * 7)).block, (ad.add (k * 7)).off + 2, none⟩ = some (.bool x.v.null) ∧ w.cell? ⟨(ad.add (k * 7)).block, (ad.add (k * 7)).off + 3, none⟩ = some (.int .i64 x.v.n) ∧
    w.cell? ⟨(ad.add (k * 7)).block, (ad.add (k * 7)).off + 4, none⟩ = some (.string x.v.s) ∧ w.cell? ⟨(ad.add (k * 7)).block, (ad.add (k * 7)).off + 5, none⟩ = some x.vv ∧ w.cell? ⟨(ad.add (k * 7)).block, (ad.add (k * 7)).off + 6, none⟩ = some x.lv := by
  refine ⟨h 0 (by omega), ?_, ?_, ?_, ?_, ?_, ?_⟩
  · have h1 := h 1 (by omega); rw [← add_add] at h1; exact h1
  · have h1 := h 2 (by omega); rw [← add_add] at h1; exact h1
  · have h1 := h 3 (by omega); rw [← add_add] at h1; exact h1
  · have h1 := h 4 (by omega); rw [← add_add] at h1; exact h1
  · have h1 := h 5 (by omega); rw [← add_add] at h1; exact h1
  · have h1 := h 6 (by omega); rw [← add_add] at h1; exact h1
/-- append of one value, where the new block's number stands as g. -/
theorem wpList_pushH {P : Program} {W : World} {ops : Array Oper} {rest : List Oper} {o : Oper} {a : Act} {Q : Exit → Act → World → Prop} {t e : TypeId} {bytes : Nat} {z : Value} (E : Elem P t e bytes z)
    (hgd : o.guard = none) (s x : Operand) (ho : o.op = .call { callee := .builtin .append, args := #[s, x], argTypes := #[t, t] })
    (base : Nat) (v : Value) (n : Nat) (xs : List Value) (u : Value) (w w0 : World) (g : Nat) (hgs : g = w.heap.size) (hs : a.eval s = v) (hx : a.eval x = .slice (some ⟨g, 0, none⟩) 1 1) (hW : W = w.alloc (.cells #[u] e))
    (hu : u.oneCell' = true) (hown : w.ownsRow base e 1 v n xs) (hb : Below base w0 w) (hbase : base ≤ w.heap.size) (hn : n ≤ 1000000000) (hby : bytes ≤ 100)
    (h : ∀ v' w', w'.ownsRow base e 1 v' (n + 1) (xs ++ [u]) → Below base w0 w' → w.grownBy w' v.ownBlock → (v'.ownBlock = v.ownBlock ∨ v'.ownBlock = some (w.heap.size + 1)) → wpList P ops Q rest (a.put o.dst v') w') : wpList P ops Q (o :: rest) a W := by
  subst hgs
  exact wpList_push E hgd s x ho base v n xs u w w0 hs hx hW hu hown hb hbase hn hby h
def HEvalRel (l : List HN) (r : List CV) (w : World) (ov i : Value) (wr : World) : Prop :=
  ∃ j : Nat, j ≤ l.length ∧ i = .int .i64 (j : Int) ∧ wr.ownsRow w.heap.size 3 1 ov j ((hpvals r (l.take j) []).map iv) ∧ Below w.heap.size w wr
/-- What is named so far, put together. -/
def HFoldRel (f : Int → Int → Int) (a : Int) (ls out : List Int) (W : World) (x k : Value) (wr : World) : Prop :=
  ∃ m : Nat, m ≤ ls.length ∧ k = .int .i64 (m : Int) ∧ x = .int .i64 ((ls.take m).foldl (fun x q => f x (out.getD q.toNat 0)) a) ∧ wr = W
set_option maxHeartbeats 8000000 in
set_option maxRecDepth 100000 in
theorem reval18_any (ks : List Int) (l : List HN) (r : List CV) (lvv rv : Value) (w : World) (hl : IsPreds l lvv w) (hr : IsR kcells r rv w) (hok : ∀ i (h : i < l.length), HOk ks i l[i]) (h1 : 1 ≤ l.length) (h40 : l.length ≤ 40) (hrl : r.length = ks.length) (hb : r.length ≤ 1000000) :
    Calls Tryd.prog 15 #[lvv, rv] w fun e w' => e = .returned (.int .i64 (hpevalE l r)) ∧ Below w.heap.size w w' := by
  have HL := Lib.hid hl
  have HR := Lib.hid hr
  have HOKS := Lib.hid hok
  have HRL := Lib.hid hrl
  have HRB := Lib.hid hb
  have HL1 := Lib.hid h1
  obtain ⟨A, n, c, rfl⟩ := hl.1.shape
  have HN := Lib.hid hl.1.parts.1
  have hn40 : n ≤ 40 := by have := HN.out; omega
  have HST : Hid (HEvalRel l r w (.slice (some ⟨w.heap.size, 0, none⟩) 0 0) (.int .i64 0) (w.alloc (.cells #[] 3))) := Lib.hid ⟨0, Nat.zero_le _, rfl, ownW_made w _ 1, (Below.refl _ _).alloc (Nat.le_refl _) _⟩
  clear hl hr hok hrl hb h1 h40
  go_enter Tryd.func15, Tryd.ntmps15
  go_wp2
  go_loopw [5, 6] (HEvalRel l r w) (fun _ i _ => n - (intOf i).toNat)
  case atStart => exact HST.out
  case round =>
    obtain ⟨j, hj, rfl, hown, hbw⟩ := hrel
    have hjn : j ≤ n := by have := HN.out; omega
    have HOWN := Lib.hid hown
    have HBW := Lib.hid hbw
    obtain ⟨O, hO⟩ : ∃ O, O = hpvals r (l.take j) [] := ⟨_, rfl⟩
    rw [← hO] at HOWN
    have HOL : Hid (O.length = j) := Lib.hid (by rw [hO, hpvals_len, List.length_take, Nat.min_eq_left hj]; simp)
    have HOR : Hid (∀ i, 0 ≤ O.getD i 0 ∧ O.getD i 0 ≤ 2) := Lib.hid (by rw [hO]; exact hpvals_in r _ [] (by intro i; simp))
    have HOE := Lib.hid hO
    clear hj hown hbw hO
    by_cases hlt : j < n
    · have hjl : j < l.length := by have := HN.out; omega
      have hlti : (j : Int) < (n : Int) := by omega
      obtain ⟨ad, rfl, had, hcell⟩ := (HL.out.1.below HBW.out).at (m := 7) (fun _ => rfl) (by omega) hjl
      have HNEXT : Hid (hpvals r (l.take (j + 1)) [] = O ++ [hpval l[j] r O]) := Lib.hid (by rw [hpvals_next r hjl, ← HOE.out])
      have HOK := Lib.hid (HOKS.out j hjl)
      have HAT0 := Lib.hid ((HL.out.2 l[j] (List.getElem_mem hjl)).below HBW.out)
      obtain ⟨x, hx⟩ : ∃ x, x = l[j] := ⟨_, rfl⟩
      rw [← hx] at hcell HNEXT HOK HAT0
      obtain ⟨k0, k1, k2, k3, k4, k5, k6⟩ := cells7 hcell
      obtain ⟨op, col, ⟨nb, nn, ns⟩, vals, ls, vv, lv⟩ := x
      dsimp only at k0 k1 k2 k3 k4 k5 k6
      obtain ⟨vA, vm, vc, rfl⟩ := HAT0.out.vals.shape
      obtain ⟨lA, lm, lc, rfl⟩ := HAT0.out.ls.shape
      clear hcell had hx
      have HBX : Hid (Row (wr.alloc (.cells #[.int .i64 op, .int .i64 col, .bool nb, .int .i64 nn, .string ns, .slice vA vm vc, .slice lA lm lc] 51)) wr.heap.size 51 [.int .i64 op, .int .i64 col, .bool nb, .int .i64 nn, .string ns, .slice vA vm vc, .slice lA lm lc]) := Lib.hid (heap_alloc_new wr _)
      have hb1 : Below wr.heap.size wr (wr.alloc (.cells #[.int .i64 op, .int .i64 col, .bool nb, .int .i64 nn, .string ns, .slice vA vm vc, .slice lA lm lc] 51)) := (Below.refl _ _).alloc (Nat.le_refl _) _
      have HAT := Lib.hid (HAT0.out.below hb1)
      have HLS : Hid (IsV iv ls (.slice lA lm lc) (wr.alloc (.cells #[.int .i64 op, .int .i64 col, .bool nb, .int .i64 nn, .string ns, .slice vA vm vc, .slice lA lm lc] 51))) := Lib.hid HAT.out.ls
      have HBW1 := Lib.hid (below_then HBW.out hb1)
      have HOWN1 := Lib.hid (own_below HOWN.out hb1)
      have HOV1 := Lib.hid (isV_own (f := iv) HOWN1.out)
      have HR1 := Lib.hid (HR.out.below HBW1.out)
      clear hb1
      obtain ⟨oA, on, oc, rfl⟩ := HOV1.out.shape
      have HON : Hid (on = j) := Lib.hid (by rw [← HOV1.out.parts.1]; exact HOL.out)
      have HOV := HOV1
      by_cases h1 : op = 1
      · subst h1
        obtain ⟨n1, _, n3⟩ := HOK.out.named (by dsimp only; omega)
        have HNX : Hid ((hpvals r (l.take (j + 1)) []).map iv = O.map iv ++ [iv (ls.foldl (fun x q => min x (O.getD q.toNat 0)) 2)]) := Lib.hid (by rw [HNEXT.out, List.map_append]; rfl)
        have HN3 := Lib.hid n3
        have HLM := Lib.hid HLS.out.parts.1
        have HST := Lib.hid (show HFoldRel min 2 ls O (wr.alloc (.cells #[.int .i64 1, .int .i64 col, .bool nb, .int .i64 nn, .string ns, .slice vA vm vc, .slice lA lm lc] 51)) (.int .i64 2) (.int .i64 0) _ from ⟨0, Nat.zero_le _, rfl, rfl, rfl⟩)
        have hlm6 : (lm : Int) ≤ 9223372036854775807 := by have h := HLS.out.parts; have h2 := h.2.2.1; have h3 := h.2.2.2.1; unfold maxLen at h3; omega
        have b0 := HBX.out.cell 0
        have b6 := HBX.out.cell 6
        clear n1 n3
        go_wp2
        go_loopw [8, 9] (HFoldRel min 2 ls O (wr.alloc (.cells #[.int .i64 1, .int .i64 col, .bool nb, .int .i64 nn, .string ns, .slice vA vm vc, .slice lA lm lc] 51))) (fun _ i _ => lm - (intOf i).toNat)
        case atStart => exact HST.out
        case round =>
          obtain ⟨m, hm, rfl, rfl, rfl⟩ := hrel
          have hmm : m ≤ lm := by have := HLM.out; omega
          obtain ⟨y, hy⟩ : ∃ y, y = (ls.take m).foldl (fun x q => min x (O.getD q.toNat 0)) 2 := ⟨_, rfl⟩
          have HY := Lib.hid hy
          have hyr : 0 ≤ y ∧ y ≤ 2 := by rw [hy]; exact foldl_in (f := min) (fun a b h1 h2 => by omega) HOR.out _ _ (by omega)
          rw [← hy]
          clear hm hy
          by_cases hlt : m < lm
          · have hml : m < ls.length := by have := HLM.out; omega
            have hlti : (m : Int) < (lm : Int) := by omega
            obtain ⟨a2, rfl, _, hc2⟩ := HLS.out.at hml
            obtain ⟨q, hq⟩ : ∃ q, q = ls[m] := ⟨_, rfl⟩
            have hqr := HN3.out q (by rw [hq]; exact List.getElem_mem hml)
            rw [← hq] at hc2
            obtain ⟨qn, rfl⟩ := Int.eq_ofNat_of_zero_le hqr.1
            have hqn : qn < j := by omega
            have hqi : (qn : Int) < (on : Int) := by have := HON.out; omega
            have hc3 : (wr.alloc (.cells #[.int .i64 1, .int .i64 col, .bool nb, .int .i64 nn, .string ns, .slice vA vm vc, .slice (some a2) lm lc] 51)).cell? (a2.add m) = some (.int .i64 (qn : Int)) := hc2
            obtain ⟨z, hz⟩ : ∃ z, z = O.getD qn 0 := ⟨_, rfl⟩
            have hzr : 0 ≤ z ∧ z ≤ 2 := by rw [hz]; exact HOR.out qn
            obtain ⟨oa, hOA, _, hc4⟩ := HOV.out.at (k := qn) (by rw [HOL.out]; exact hqn)
            subst hOA
            have hc5 : (wr.alloc (.cells #[.int .i64 1, .int .i64 col, .bool nb, .int .i64 nn, .string ns, .slice vA vm vc, .slice (some a2) lm lc] 51)).cell? (oa.add qn) = some (.int .i64 z) := by rw [hc4, hz, getD_lt (by rw [HOL.out]; exact hqn)]; rfl
            have HFN : Hid ((ls.take (m + 1)).foldl (fun x q => min x (O.getD q.toNat 0)) 2 = min y z) := Lib.hid (by rw [List.take_succ_eq_append_getElem hml, List.foldl_append, ← HY.out, ← hq, hz]; rfl)
            clear hc2 hc4 hz hq hqr
            go_wp2
            go_roundw
            case rel => exact ⟨m + 1, hml, by go_num, by rw [HFN.out], rfl⟩
            case measure => simp [intOf]; omega
          · obtain rfl : m = lm := by omega
            have hlti : ¬ (m : Int) < (m : Int) := by omega
            have HYE : Hid (ls.foldl (fun x q => min x (O.getD q.toNat 0)) 2 = y) := Lib.hid (by
              have h := HY.out
              rw [List.take_of_length_le (by have := HLM.out; omega)] at h
              exact h.symm)
            rw [HYE.out] at HNX
            clear b0 b6
            obtain ⟨W2, hW2⟩ : ∃ W2, W2 = wr.alloc (.cells #[.int .i64 1, .int .i64 col, .bool nb, .int .i64 nn, .string ns, .slice vA vm vc, .slice lA m lc] 51) := ⟨_, rfl⟩
            rw [← hW2]
            have c6 : W2.cell? ⟨wr.heap.size, 6, none⟩ = some (.slice lA m lc) := by rw [hW2]; exact HBX.out.cell 6
            have HOW2 : Hid (W2.ownsRow w.heap.size 3 1 (.slice oA on oc) j (O.map iv)) := Lib.hid (by rw [hW2]; exact HOWN1.out)
            have HBW2 : Hid (Below w.heap.size w W2) := Lib.hid (by rw [hW2]; exact HBW1.out)
            have HZ2 : Hid (w.heap.size ≤ W2.heap.size) := Lib.hid HBW2.out.size
            clear hW2
            have hown2 := HOW2.out
            have hbw2 := HBW2.out
            have hz2 := HZ2.out
            go_wp2_with (at_builtin; refine wpList_push elemI rfl _ _ rfl w.heap.size _ _ _ (iv (y)) W2 w rfl rfl rfl rfl hown2 hbw2 hz2 (by omega) (by omega) ?_)
            intro v7 w7 hown7 hb7 _ _
            have HREL : Hid (HEvalRel l r w v7 (.int .i64 ((j : Int) + 1)) w7) := Lib.hid ⟨j + 1, hjl, by go_num, by rw [HNX.out]; exact hown7, hb7⟩
            clear hown7 hb7 hown2 hbw2 hz2
            go_wp2
            go_roundw
            case rel => exact HREL.out
            case measure => simp [intOf]; omega
      by_cases h2 : op = 2
      · subst h2
        obtain ⟨n1, _, n3⟩ := HOK.out.named (by dsimp only; omega)
        have HNX : Hid ((hpvals r (l.take (j + 1)) []).map iv = O.map iv ++ [iv (ls.foldl (fun x q => max x (O.getD q.toNat 0)) 0)]) := Lib.hid (by rw [HNEXT.out, List.map_append]; rfl)
        have HN3 := Lib.hid n3
        have HLM := Lib.hid HLS.out.parts.1
        have HST := Lib.hid (show HFoldRel max 0 ls O (wr.alloc (.cells #[.int .i64 2, .int .i64 col, .bool nb, .int .i64 nn, .string ns, .slice vA vm vc, .slice lA lm lc] 51)) (.int .i64 0) (.int .i64 0) _ from ⟨0, Nat.zero_le _, rfl, rfl, rfl⟩)
        have hlm6 : (lm : Int) ≤ 9223372036854775807 := by have h := HLS.out.parts; have h2 := h.2.2.1; have h3 := h.2.2.2.1; unfold maxLen at h3; omega
        have b0 := HBX.out.cell 0
        have b6 := HBX.out.cell 6
        clear n1 n3
        go_wp2
        go_loopw [8, 10] (HFoldRel max 0 ls O (wr.alloc (.cells #[.int .i64 2, .int .i64 col, .bool nb, .int .i64 nn, .string ns, .slice vA vm vc, .slice lA lm lc] 51))) (fun _ i _ => lm - (intOf i).toNat)
        case atStart => exact HST.out
        case round =>
          obtain ⟨m, hm, rfl, rfl, rfl⟩ := hrel
          have hmm : m ≤ lm := by have := HLM.out; omega
          obtain ⟨y, hy⟩ : ∃ y, y = (ls.take m).foldl (fun x q => max x (O.getD q.toNat 0)) 0 := ⟨_, rfl⟩
          have HY := Lib.hid hy
          have hyr : 0 ≤ y ∧ y ≤ 2 := by rw [hy]; exact foldl_in (f := max) (fun a b h1 h2 => by omega) HOR.out _ _ (by omega)
          rw [← hy]
          clear hm hy
          by_cases hlt : m < lm
          · have hml : m < ls.length := by have := HLM.out; omega
            have hlti : (m : Int) < (lm : Int) := by omega
            obtain ⟨a2, rfl, _, hc2⟩ := HLS.out.at hml
            obtain ⟨q, hq⟩ : ∃ q, q = ls[m] := ⟨_, rfl⟩
            have hqr := HN3.out q (by rw [hq]; exact List.getElem_mem hml)
            rw [← hq] at hc2
            obtain ⟨qn, rfl⟩ := Int.eq_ofNat_of_zero_le hqr.1
            have hqn : qn < j := by omega
            have hqi : (qn : Int) < (on : Int) := by have := HON.out; omega
            have hc3 : (wr.alloc (.cells #[.int .i64 2, .int .i64 col, .bool nb, .int .i64 nn, .string ns, .slice vA vm vc, .slice (some a2) lm lc] 51)).cell? (a2.add m) = some (.int .i64 (qn : Int)) := hc2
            obtain ⟨z, hz⟩ : ∃ z, z = O.getD qn 0 := ⟨_, rfl⟩
            have hzr : 0 ≤ z ∧ z ≤ 2 := by rw [hz]; exact HOR.out qn
            obtain ⟨oa, hOA, _, hc4⟩ := HOV.out.at (k := qn) (by rw [HOL.out]; exact hqn)
            subst hOA
            have hc5 : (wr.alloc (.cells #[.int .i64 2, .int .i64 col, .bool nb, .int .i64 nn, .string ns, .slice vA vm vc, .slice (some a2) lm lc] 51)).cell? (oa.add qn) = some (.int .i64 z) := by rw [hc4, hz, getD_lt (by rw [HOL.out]; exact hqn)]; rfl
            have HFN : Hid ((ls.take (m + 1)).foldl (fun x q => max x (O.getD q.toNat 0)) 0 = max y z) := Lib.hid (by rw [List.take_succ_eq_append_getElem hml, List.foldl_append, ← HY.out, ← hq, hz]; rfl)
            clear hc2 hc4 hz hq hqr
            go_wp2
            go_roundw
            case rel => exact ⟨m + 1, hml, by go_num, by rw [HFN.out], rfl⟩
            case measure => simp [intOf]; omega
          · obtain rfl : m = lm := by omega
            have hlti : ¬ (m : Int) < (m : Int) := by omega
            have HYE : Hid (ls.foldl (fun x q => max x (O.getD q.toNat 0)) 0 = y) := Lib.hid (by
              have h := HY.out
              rw [List.take_of_length_le (by have := HLM.out; omega)] at h
              exact h.symm)
            rw [HYE.out] at HNX
            clear b0 b6
            obtain ⟨W2, hW2⟩ : ∃ W2, W2 = wr.alloc (.cells #[.int .i64 2, .int .i64 col, .bool nb, .int .i64 nn, .string ns, .slice vA vm vc, .slice lA m lc] 51) := ⟨_, rfl⟩
            rw [← hW2]
            have c6 : W2.cell? ⟨wr.heap.size, 6, none⟩ = some (.slice lA m lc) := by rw [hW2]; exact HBX.out.cell 6
            have HOW2 : Hid (W2.ownsRow w.heap.size 3 1 (.slice oA on oc) j (O.map iv)) := Lib.hid (by rw [hW2]; exact HOWN1.out)
            have HBW2 : Hid (Below w.heap.size w W2) := Lib.hid (by rw [hW2]; exact HBW1.out)
            have HZ2 : Hid (w.heap.size ≤ W2.heap.size) := Lib.hid HBW2.out.size
            clear hW2
            have hown2 := HOW2.out
            have hbw2 := HBW2.out
            have hz2 := HZ2.out
            go_wp2_with (at_builtin; refine wpList_push elemI rfl _ _ rfl w.heap.size _ _ _ (iv (y)) W2 w rfl rfl rfl rfl hown2 hbw2 hz2 (by omega) (by omega) ?_)
            intro v7 w7 hown7 hb7 _ _
            have HREL : Hid (HEvalRel l r w v7 (.int .i64 ((j : Int) + 1)) w7) := Lib.hid ⟨j + 1, hjl, by go_num, by rw [HNX.out]; exact hown7, hb7⟩
            clear hown7 hb7 hown2 hbw2 hz2
            go_wp2
            go_roundw
            case rel => exact HREL.out
            case measure => simp [intOf]; omega
      by_cases h3 : op = 3
      · subst h3
        obtain ⟨_, n2, n3⟩ := HOK.out.named (by dsimp only; omega)
        have n2 := n2 rfl
        dsimp only at n2 n3
        obtain ⟨q, hq⟩ : ∃ q, ls = [q] := by
          match ls, n2 with
          | [q], _ => exact ⟨q, rfl⟩
        subst hq
        have hqr := n3 q (by simp)
        obtain rfl : lm = 1 := HLS.out.parts.1.symm
        obtain ⟨a2, rfl, _, hc2⟩ := HLS.out.at (k := 0) (by simp)
        obtain ⟨qn, rfl⟩ := Int.eq_ofNat_of_zero_le hqr.1
        have hqn : qn < j := by omega
        have hqi : (qn : Int) < (on : Int) := by have := HON.out; omega
        have ha0 : a2.add 0 = a2 := by simp [Addr.add]
        rw [ha0] at hc2
        have hc3 : (wr.alloc (.cells #[.int .i64 3, .int .i64 col, .bool nb, .int .i64 nn, .string ns, .slice vA vm vc, .slice (some a2) 1 lc] 51)).cell? a2 = some (.int .i64 (qn : Int)) := hc2
        obtain ⟨z, hz⟩ : ∃ z, z = O.getD qn 0 := ⟨_, rfl⟩
        have hzr : 0 ≤ z ∧ z ≤ 2 := by rw [hz]; exact HOR.out qn
        obtain ⟨oa, hOA, _, hc4⟩ := HOV.out.at (k := qn) (by rw [HOL.out]; exact hqn)
        subst hOA
        have hc5 : (wr.alloc (.cells #[.int .i64 3, .int .i64 col, .bool nb, .int .i64 nn, .string ns, .slice vA vm vc, .slice (some a2) 1 lc] 51)).cell? (oa.add qn) = some (.int .i64 z) := by rw [hc4, hz, getD_lt (by rw [HOL.out]; exact hqn)]; rfl
        have HNX : Hid ((hpvals r (l.take (j + 1)) []).map iv = O.map iv ++ [iv (2 - z)]) := Lib.hid (by rw [HNEXT.out, List.map_append, hz]; rfl)
        have e1 : IntKind.i64.wrap (2 - z) = 2 - z := by rw [IntKind.wrap_i64]; omega
        have b0 := HBX.out.cell 0
        have b6 := HBX.out.cell 6
        clear hc2 hc4 hz hqr n2 n3
        obtain ⟨W2, hW2⟩ : ∃ W2, W2 = wr.alloc (.cells #[.int .i64 3, .int .i64 col, .bool nb, .int .i64 nn, .string ns, .slice vA vm vc, .slice (some a2) 1 lc] 51) := ⟨_, rfl⟩
        have hown2 : W2.ownsRow w.heap.size 3 1 (.slice (some oa) on oc) j (O.map iv) := by rw [hW2]; exact HOWN1.out
        have hbw2 : Below w.heap.size w W2 := by rw [hW2]; exact HBW1.out
        have hz2 : w.heap.size ≤ W2.heap.size := hbw2.size
        subst hW2
        go_wp2_with (at_builtin; refine wpList_pushH elemI rfl _ _ rfl w.heap.size _ _ _ (iv (2 - z)) _ w (wr.heap.size + 1) (by simp) rfl rfl rfl rfl hown2 hbw2 hz2 (by omega) (by omega) ?_)
        intro v7 w7 hown7 hb7 _ _
        have HREL : Hid (HEvalRel l r w v7 (.int .i64 ((j : Int) + 1)) w7) := Lib.hid ⟨j + 1, hjl, by go_num, by rw [HNX.out]; exact hown7, hb7⟩
        clear hown7 hb7 hown2 hbw2 hz2
        go_wp2
        go_roundw
        case rel => exact HREL.out
        case measure => simp [intOf]; omega
      have ho4 : 4 ≤ op ∧ op ≤ 9 := by have := HOK.out.ops; dsimp only at this; omega
      have HNX : Hid ((hpvals r (l.take (j + 1)) []).map iv = O.map iv ++ [iv (hpleaf ⟨op, col, ⟨nb, nn, ns⟩, vals, ls, .slice vA vm vc, .slice lA lm lc⟩ r)]) := Lib.hid (by rw [HNEXT.out, List.map_append]; unfold hpval; rw [if_neg h1, if_neg h2, if_neg h3]; rfl)
      have HLF := Lib.hid (rleaf18_any ⟨op, col, ⟨nb, nn, ns⟩, vals, ls, .slice vA vm vc, .slice lA lm lc⟩ r rv (wr.alloc (.cells #[.int .i64 op, .int .i64 col, .bool nb, .int .i64 nn, .string ns, .slice vA vm vc, .slice lA lm lc] 51)) HAT.out HR1.out (fun h9 => by have h := HOK.out.column ho4.1 h9; rw [HRL.out]; exact h) HRB.out ho4 (fun h7 => by have h := (HOK.out.values h7).2.2; dsimp only at h ⊢; omega))
      obtain ⟨z, hz⟩ : ∃ z, z = hpleaf ⟨op, col, ⟨nb, nn, ns⟩, vals, ls, .slice vA vm vc, .slice lA lm lc⟩ r := ⟨_, rfl⟩
      rw [← hz] at HLF HNX
      unfold hpv hpcells at HLF
      dsimp only at HLF
      have d1 : (op == 1) = false := by simpa using h1
      have d2 : (op == 2) = false := by simpa using h2
      have d3 : (op == 3) = false := by simpa using h3
      have b0 := HBX.out.cell 0
      have b1 := HBX.out.cell 1
      have b2 := HBX.out.cell 2
      have b3 := HBX.out.cell 3
      have b4 := HBX.out.cell 4
      have b5 := HBX.out.cell 5
      have b6 := HBX.out.cell 6
      clear hz ho4 h1 h2 h3
      go_wp2_with fail
      refine HLF.out.mono ?_
      rintro e W2 ⟨rfl, hb2⟩
      have HBW2 := Lib.hid (below_then HBW1.out hb2)
      have HOW2 := Lib.hid (own_below HOWN1.out hb2)
      have HZ2 := Lib.hid HBW2.out.size
      clear hb2 b0 b1 b2 b3 b4 b5 b6
      have hown2 := HOW2.out
      have hbw2 := HBW2.out
      have hz2 := HZ2.out
      go_wp2_with (at_builtin; refine wpList_push elemI rfl _ _ rfl w.heap.size _ _ _ (iv (z)) W2 w rfl rfl rfl rfl hown2 hbw2 hz2 (by omega) (by omega) ?_)
      intro v7 w7 hown7 hb7 _ _
      have HREL : Hid (HEvalRel l r w v7 (.int .i64 ((j : Int) + 1)) w7) := Lib.hid ⟨j + 1, hjl, by go_num, by rw [HNX.out]; exact hown7, hb7⟩
      clear hown7 hb7 hown2 hbw2 hz2
      go_wp2
      go_roundw
      case rel => exact HREL.out
      case measure => simp [intOf]; omega
    · obtain rfl : j = n := by omega
      have hlti : ¬ (j : Int) < (j : Int) := by omega
      have HV := Lib.hid (isV_own (f := iv) HOWN.out)
      obtain ⟨oA, on, oc, rfl⟩ := HV.out.shape
      have hon : on = j := by rw [← HV.out.parts.1]; exact HOL.out
      subst hon
      have hj1 : 1 ≤ on := by have := HN.out; have := HL1.out; omega
      obtain ⟨m, rfl⟩ : ∃ m, on = m + 1 := ⟨on - 1, by omega⟩
      obtain ⟨oa, rfl, _, hc⟩ := HV.out.at (k := m) (by rw [HOL.out]; omega)
      have HF : Hid (hpevalE l r = O[m]'(by rw [HOL.out]; omega)) := Lib.hid (by
        unfold hpevalE
        have h := HOE.out
        rw [List.take_of_length_le (by have := HN.out; omega)] at h
        rw [← h, getLastD_getD, show O.length - 1 = m by have := HOL.out; omega, getD_lt (by rw [HOL.out]; omega)])
      obtain ⟨z, hz⟩ : ∃ z, z = O[m]'(by rw [HOL.out]; omega) := ⟨_, rfl⟩
      have hc2 : wr.cell? (oa.add m) = some (.int .i64 z) := by rw [hc, hz]; rfl
      rw [← hz] at HF
      have e1 : IntKind.i64.wrap (((m + 1 : Nat) : Int) - 1) = (m : Int) := by rw [IntKind.wrap_i64]; omega
      have e2 : (m : Int) < ((m + 1 : Nat) : Int) := by omega
      clear hc hz
      go_wp2
      go_ret
      exact ⟨by rw [HF.out]; rfl, HBW.out⟩
end Go.Proofs.YtniniophoocalaaDoor

/- Predicates' own contracts: named, depth, mayStand, fits. -/







namespace Go.Proofs.YtniniophoocalaaDoor

open Go.RowKit

theorem box_rowP (op col : Int) (nb : Bool) (nn : Int) (ns : ByteArray) (vv lv : Value) (w : World) : Row (w.alloc (.cells #[.int .i64 op, .int .i64 col, .bool nb, .int .i64 nn, .string ns, vv, lv] 51)) w.heap.size 51 [.int .i64 op, .int .i64 col, .bool nb, .int .i64 nn, .string ns, vv, lv] := heap_alloc_new w _
theorem hnamed_any (n : HN) (w : World) : Calls Tryd.prog 45 #[hpv n] w fun e w' => (∃ v, e = .returned v ∧ ∀ W, HAt n W → IsV iv (hpnm n) v W) ∧ Below w.heap.size w w' := by
  obtain ⟨op, col, ⟨nb, nn, ns⟩, vals, ls, vv, lv⟩ := n
  have RB1 := Lib.hid (box_rowP op col nb nn ns vv lv w)
  have HB1 : Hid (Below w.heap.size w (w.alloc (.cells #[.int .i64 op, .int .i64 col, .bool nb, .int .i64 nn, .string ns, vv, lv] 51))) := Lib.hid ((Below.refl _ _).alloc (Nat.le_refl _) _)
  unfold hpv hpcells
  dsimp only
  have b0 := RB1.out.cell 0
  have b6 := RB1.out.cell 6
  by_cases h1 : op = 1 ∨ op = 2 ∨ op = 3
  · have HE : Hid (∀ W, HAt ⟨op, col, ⟨nb, nn, ns⟩, vals, ls, vv, lv⟩ W → IsV iv (hpnm ⟨op, col, ⟨nb, nn, ns⟩, vals, ls, vv, lv⟩) lv W) := Lib.hid (fun W h => by unfold hpnm; rw [if_pos h1]; exact h.ls)
    rcases h1 with rfl | rfl | rfl
    all_goals
      go_enter Tryd.func45, Tryd.ntmps45
      go_wp2
      go_ret
      exact ⟨⟨_, rfl, HE.out⟩, HB1.out⟩
  · have HE : Hid (∀ W, HAt ⟨op, col, ⟨nb, nn, ns⟩, vals, ls, vv, lv⟩ W → IsV iv (hpnm ⟨op, col, ⟨nb, nn, ns⟩, vals, ls, vv, lv⟩) (.slice none 0 0) W) := Lib.hid (fun W _ => by unfold hpnm; rw [if_neg h1]; exact isV_nil _ _)
    have d1 : (op == 1) = false := by simpa using fun h => h1 (.inl h)
    have d2 : (op == 2) = false := by simpa using fun h => h1 (.inr (.inl h))
    have d3 : (op == 3) = false := by simpa using fun h => h1 (.inr (.inr h))
    clear h1
    go_enter Tryd.func45, Tryd.ntmps45
    go_wp2
    go_ret
    exact ⟨⟨_, rfl, HE.out⟩, HB1.out⟩
theorem foldl_max_in : ∀ {bs : List Int} {a m : Int}, (∀ x ∈ bs, 0 ≤ x ∧ x ≤ m) → 0 ≤ a → a ≤ m → 0 ≤ bs.foldl max a ∧ bs.foldl max a ≤ m
  | [], _, _, _, h1, h2 => ⟨h1, h2⟩
  | b :: bs, a, m, h, h1, h2 => by
    have hb := h b (by simp)
    exact foldl_max_in (bs := bs) (a := max a b) (fun x hx => h x (List.mem_cons_of_mem _ hx)) (by omega) (by omega)
def HDepRel (bs : List Int) (W : World) (x k : Value) (wr : World) : Prop :=
  ∃ m : Nat, m ≤ bs.length ∧ k = .int .i64 (m : Int) ∧ x = .int .i64 ((bs.take m).foldl max 0) ∧ Below W.heap.size W wr
set_option maxHeartbeats 2000000 in
set_option maxRecDepth 100000 in
theorem hdepth_any (n : HN) (bs : List Int) (bv_ : Value) (w : World) (hbv : IsV iv bs bv_ w) (hbs : ∀ x ∈ bs, 0 ≤ x ∧ x ≤ 1000) : Calls Tryd.prog 24 #[hpv n, bv_] w fun e w' => e = .returned (.int .i64 (hdep bs)) ∧ Below w.heap.size w w' := by
  obtain ⟨op, col, ⟨nb, nn, ns⟩, vals, ls, vv, lv⟩ := n
  have hb1 : Below w.heap.size w (w.alloc (.cells #[.int .i64 op, .int .i64 col, .bool nb, .int .i64 nn, .string ns, vv, lv] 51)) := (Below.refl _ _).alloc (Nat.le_refl _) _
  obtain ⟨A, n, c, rfl⟩ := hbv.shape
  have HV := Lib.hid hbv
  have HN := Lib.hid hbv.parts.1
  have HBS := Lib.hid hbs
  have hni : (n : Int) ≤ 9223372036854775807 := by have h := hbv.parts; have h2 := h.2.2.1; have h3 := h.2.2.2.1; unfold maxLen at h3; omega
  have HST := Lib.hid (show HDepRel bs w (.int .i64 0) (.int .i64 0) _ from ⟨0, Nat.zero_le _, rfl, rfl, hb1⟩)
  unfold hpv hpcells
  dsimp only
  clear hb1 hbv hbs
  go_enter Tryd.func24, Tryd.ntmps24
  go_wp2
  go_loopw [5, 10] (HDepRel bs w) (fun _ i _ => n - (intOf i).toNat)
  case atStart => exact HST.out
  case round =>
    obtain ⟨m, hm, rfl, rfl, hbw⟩ := hrel
    have hmn : m ≤ n := by have := HN.out; omega
    have HB := Lib.hid hbw
    obtain ⟨y, hy⟩ : ∃ y, y = (bs.take m).foldl max 0 := ⟨_, rfl⟩
    have HY := Lib.hid hy
    have hyr : 0 ≤ y ∧ y ≤ 1000 := by rw [hy]; exact foldl_max_in (fun x hx => HBS.out x (List.mem_of_mem_take hx)) (by omega) (by omega)
    rw [← hy]
    clear hm hy
    by_cases hlt : m < n
    · have hml : m < bs.length := by have := HN.out; omega
      have hlti : (m : Int) < (n : Int) := by omega
      obtain ⟨a2, rfl, _, hc2⟩ := (HV.out.below hbw).at hml
      obtain ⟨z, hz⟩ : ∃ z, z = bs[m] := ⟨_, rfl⟩
      have hzr := HBS.out z (by rw [hz]; exact List.getElem_mem hml)
      rw [← hz] at hc2
      have hc3 : wr.cell? (a2.add m) = some (.int .i64 z) := hc2
      have HFN : Hid ((bs.take (m + 1)).foldl max 0 = max y z) := Lib.hid (by rw [List.take_succ_eq_append_getElem hml, List.foldl_append, ← HY.out, ← hz]; rfl)
      clear hc2 hz hbw
      go_wp2
      go_roundw
      case rel => exact ⟨m + 1, hml, by go_num, by rw [HFN.out], HB.out⟩
      case measure => simp [intOf]; omega
    · obtain rfl : m = n := by omega
      have hlti : ¬ (m : Int) < (m : Int) := by omega
      have HYE : Hid (hdep bs = y + 1) := Lib.hid (by
        have h := HY.out
        rw [List.take_of_length_le (by have := HN.out; omega)] at h
        unfold hdep
        rw [← h])
      go_wp2
      go_ret
      exact ⟨by rw [HYE.out]; exact ret_int (by omega), HB.out⟩
def HStRel (nm : List Int) (i : Nat) (W : World) (k : Value) (wr : World) : Prop :=
  ∃ m : Nat, m ≤ nm.length ∧ k = .int .i64 (m : Int) ∧ (nm.take m).all (fun q => decide (0 ≤ q ∧ q < (i : Int))) = true ∧ wr = W
set_option maxHeartbeats 8000000 in
set_option maxRecDepth 100000 in
theorem hstand_any (n : HN) (i k : Nat) (w : World) (hn : HAt n w) : Calls Tryd.prog 43 #[hpv n, .int .i64 (i : Int), .int .i64 (k : Int)] w fun e w' => e = .returned (.bool (hstand (i : Int) (k : Int) n)) ∧ Below w.heap.size w w' := by
  have HNM := Lib.hid (hnamed_any n)
  obtain ⟨nm, hnm⟩ : ∃ nm, nm = hpnm n := ⟨_, rfl⟩
  rw [← hnm] at HNM
  obtain ⟨tail, htail⟩ : ∃ t, t = (if n.op = 1 ∨ n.op = 2 then decide (0 < n.ls.length) else if n.op = 3 then decide (n.ls.length = 1) else if 4 ≤ n.op ∧ n.op ≤ 8 then decide (0 ≤ n.col ∧ n.col < (k : Int)) else decide (n.op = 9)) := ⟨_, rfl⟩
  have HSE : Hid (hstand (i : Int) (k : Int) n = (nm.all (fun q => decide (0 ≤ q ∧ q < (i : Int))) && tail)) := Lib.hid (by rw [hnm, htail]; rfl)
  have HAT := Lib.hid hn
  obtain ⟨lA, lm, lc, hlv⟩ := hn.ls.shape
  have HLM : Hid (n.ls.length = lm) := Lib.hid (by have h := hn.ls; rw [hlv] at h; exact h.parts.1)
  have hlmI : (lm : Int) ≤ 9223372036854775807 := by have h := hn.ls; rw [hlv] at h; have h := h.parts; have h2 := h.2.2.1; have h3 := h.2.2.2.1; unfold maxLen at h3; omega
  have HTL := Lib.hid htail
  obtain ⟨op, col, ⟨nb, nn, ns⟩, vals, ls, vv, lv⟩ := n
  dsimp only at hlv HLM HTL
  subst hlv
  have RB1 := Lib.hid (box_rowP op col nb nn ns vv (.slice lA lm lc) w)
  have hb1 : Below w.heap.size w (w.alloc (.cells #[.int .i64 op, .int .i64 col, .bool nb, .int .i64 nn, .string ns, vv, .slice lA lm lc] 51)) := (Below.refl _ _).alloc (Nat.le_refl _) _
  have HB1 := Lib.hid hb1
  have HCALL := Lib.hid (HNM.out (w.alloc (.cells #[.int .i64 op, .int .i64 col, .bool nb, .int .i64 nn, .string ns, vv, .slice lA lm lc] 51)))
  unfold hpv hpcells at *
  dsimp only at HCALL ⊢
  have a0 := RB1.out.cell 0
  have a1 := RB1.out.cell 1
  have a2 := RB1.out.cell 2
  have a3 := RB1.out.cell 3
  have a4 := RB1.out.cell 4
  have a5 := RB1.out.cell 5
  have a6 := RB1.out.cell 6
  clear hn hnm htail hb1
  go_enter Tryd.func43, Tryd.ntmps43
  go_wp2_with fail
  refine HCALL.out.mono ?_
  rintro e w2 ⟨⟨v, rfl, hv⟩, hb2⟩
  have hv2 := hv w2 ((HAT.out.below HB1.out).below hb2)
  obtain ⟨vA, vm, vc, rfl⟩ := hv2.shape
  have HV := Lib.hid hv2
  have HVM := Lib.hid hv2.parts.1
  have hvmI : (vm : Int) ≤ 9223372036854775807 := by have h := hv2.parts; have h2 := h.2.2.1; have h3 := h.2.2.2.1; unfold maxLen at h3; omega
  have HB2 := Lib.hid (below_then HB1.out hb2)
  have RB2 := Lib.hid (RB1.out.below hb2 RB1.out.lt)
  have HST := Lib.hid (show HStRel nm i w2 (.int .i64 0) w2 from ⟨0, Nat.zero_le _, rfl, rfl, rfl⟩)
  clear hv hv2 hb2 a0 a1 a2 a3 a4 a5 a6
  go_wp2
  go_loopw [12] (HStRel nm i w2) (fun i _ => vm - (intOf i).toNat)
  case atStart => exact HST.out
  case round =>
    obtain ⟨m, hm, rfl, hall, rfl⟩ := hrel
    have HALL := Lib.hid hall
    have hmm : m ≤ vm := by have := HVM.out; omega
    clear hm hall
    by_cases hlt : m < vm
    · have hml : m < nm.length := by have := HVM.out; omega
      have hlti : (m : Int) < (vm : Int) := by omega
      obtain ⟨a2, rfl, _, hc2⟩ := HV.out.at hml
      obtain ⟨z, hz⟩ : ∃ z, z = nm[m] := ⟨_, rfl⟩
      rw [← hz] at hc2
      have hc3 : wr.cell? (a2.add m) = some (.int .i64 z) := hc2
      have HFN : Hid ((nm.take (m + 1)).all (fun q => decide (0 ≤ q ∧ q < (i : Int))) = decide (0 ≤ z ∧ z < (i : Int))) := Lib.hid (by rw [List.take_succ_eq_append_getElem hml, List.all_append, HALL.out, ← hz]; simp)
      have HNO : Hid (¬ (0 ≤ z ∧ z < (i : Int)) → hstand (i : Int) (k : Int) ⟨op, col, ⟨nb, nn, ns⟩, vals, ls, vv, .slice lA lm lc⟩ = false) := Lib.hid (fun h => by
        rw [HSE.out]
        have : nm.all (fun q => decide (0 ≤ q ∧ q < (i : Int))) = false := by
          rw [Bool.eq_false_iff]
          intro h2
          exact h (of_decide_eq_true (List.all_eq_true.1 h2 z (by rw [hz]; exact List.getElem_mem hml)))
        rw [this]
        rfl)
      clear hc2 hz
      by_cases hz0 : z < 0
      · have HF := Lib.hid (HNO.out (by omega))
        go_wp2
        go_ret
        exact ⟨by rw [HF.out]; try rfl, HB2.out⟩
      · by_cases hzi : (i : Int) ≤ z
        · have HF := Lib.hid (HNO.out (by omega))
          have d0 : decide (z < 0) = false := decide_eq_false hz0
          have d1 : decide ((i : Int) ≤ z) = true := decide_eq_true hzi
          go_wp2
          go_ret
          exact ⟨by rw [HF.out]; try rfl, HB2.out⟩
        · have HF : Hid ((nm.take (m + 1)).all (fun q => decide (0 ≤ q ∧ q < (i : Int))) = true) := Lib.hid (by rw [HFN.out]; exact decide_eq_true (by omega))
          have d0 : decide (z < 0) = false := decide_eq_false hz0
          have d1 : decide ((i : Int) ≤ z) = false := decide_eq_false hzi
          go_wp2
          go_roundw
          case rel => exact ⟨m + 1, hml, by go_num, HF.out, rfl⟩
          case measure => simp [intOf]; omega
    · obtain rfl : m = vm := by omega
      have hlti : ¬ (m : Int) < (m : Int) := by omega
      have HE : Hid (hstand (i : Int) (k : Int) ⟨op, col, ⟨nb, nn, ns⟩, vals, ls, vv, .slice lA lm lc⟩ = tail) := Lib.hid (by
        rw [HSE.out]
        have h := HALL.out
        rw [List.take_of_length_le (by have := HVM.out; omega)] at h
        rw [h, Bool.true_and])
      have b0 := RB2.out.cell 0
      have b1 := RB2.out.cell 1
      have b6 := RB2.out.cell 6
      clear hlt
      by_cases h1 : op = 1 ∨ op = 2
      · have HT : Hid (tail = decide (0 < lm)) := Lib.hid (by rw [HTL.out, if_pos h1, HLM.out])
        rcases h1 with rfl | rfl
        all_goals
          go_wp2
          go_ret
          exact ⟨by rw [HE.out, HT.out]; first | done | rfl | simp, HB2.out⟩
      · by_cases h3 : op = 3
        · have HT : Hid (tail = ((lm : Int) == 1)) := Lib.hid (by rw [HTL.out, if_neg h1, if_pos h3, HLM.out, Bool.eq_iff_iff]; simp; omega)
          subst h3
          go_wp2
          go_ret
          exact ⟨by rw [HE.out, HT.out]; try rfl, HB2.out⟩
        · have d1 : (op == 1) = false := by simpa using fun h => h1 (.inl h)
          have d2 : (op == 2) = false := by simpa using fun h => h1 (.inr h)
          have d3 : (op == 3) = false := by simpa using h3
          by_cases h4 : 4 ≤ op ∧ op ≤ 8
          · have HT : Hid (tail = decide (0 ≤ col ∧ col < (k : Int))) := Lib.hid (by rw [HTL.out, if_neg h1, if_neg h3, if_pos h4])
            clear h1 h3
            by_cases hc0 : 0 ≤ col
            · have HT2 : Hid (tail = decide (col < (k : Int))) := Lib.hid (by rw [HT.out]; congr 1; exact propext ⟨fun h => h.2, fun h => ⟨hc0, h⟩⟩)
              have e0 : decide (0 ≤ col) = true := decide_eq_true hc0
              rcases (by omega : op = 4 ∨ op = 5 ∨ op = 6 ∨ op = 7 ∨ op = 8) with rfl | rfl | rfl | rfl | rfl
              all_goals
                clear d1 d2 d3 h4 hc0
                go_wp2
                go_ret
                exact ⟨by rw [HE.out, HT2.out]; try rfl, HB2.out⟩
            · have HT2 : Hid (tail = false) := Lib.hid (by rw [HT.out]; exact decide_eq_false (by omega))
              have e0 : decide (0 ≤ col) = false := decide_eq_false hc0
              rcases (by omega : op = 4 ∨ op = 5 ∨ op = 6 ∨ op = 7 ∨ op = 8) with rfl | rfl | rfl | rfl | rfl
              all_goals
                clear d1 d2 d3 h4 hc0
                go_wp2
                go_ret
                exact ⟨by rw [HE.out, HT2.out]; try rfl, HB2.out⟩
          · have HT : Hid (tail = decide (op = 9)) := Lib.hid (by rw [HTL.out, if_neg h1, if_neg h3, if_neg h4])
            have d4 : (op == 4) = false := by simpa using fun h => h4 (by omega)
            have d5 : (op == 5) = false := by simpa using fun h => h4 (by omega)
            have d6 : (op == 6) = false := by simpa using fun h => h4 (by omega)
            have d7 : (op == 7) = false := by simpa using fun h => h4 (by omega)
            have d8 : (op == 8) = false := by simpa using fun h => h4 (by omega)
            clear h1 h3 h4
            go_wp2
            go_ret
            exact ⟨by rw [HE.out, HT.out]; try rfl, HB2.out⟩
end Go.Proofs.YtniniophoocalaaDoor

/- Predicates' own contracts: fits. Written by gen_hpred.py. -/



namespace Go.Proofs.YtniniophoocalaaDoor

open Go.RowKit

def HFitRel (k : Nat) (l : List HN) (w : World) (i : Value) (wr : World) : Prop :=
  ∃ j : Nat, j ≤ l.length ∧ i = .int .i64 (j : Int) ∧ (∀ q (h : q < l.length), q < j → hstand (q : Int) (k : Int) l[q] = true) ∧ Below w.heap.size w wr
set_option maxHeartbeats 4000000 in
set_option maxRecDepth 100000 in
theorem hfits_any (l : List HN) (v : Value) (k : Nat) (w : World) (hl : IsPreds l v w) : Calls Tryd.prog 21 #[v, .int .i64 (k : Int)] w fun e w' => e = .returned (.bool (hfitsE (k : Int) l)) ∧ Below w.heap.size w w' := by
  have HL := Lib.hid hl
  obtain ⟨A, n, c, rfl⟩ := hl.1.shape
  have HN := Lib.hid hl.1.parts.1
  have hni : (n : Int) ≤ 9223372036854775807 := by have h := hl.1.parts; have h2 := h.2.2.1; have h3 := h.2.2.2.1; unfold maxLen at h3; omega
  have HST := Lib.hid (show HFitRel k l w (.int .i64 0) w from ⟨0, Nat.zero_le _, rfl, fun q _ h => by omega, Below.refl _ _⟩)
  clear hl
  by_cases h0 : n = 0
  · subst h0
    have HF : Hid (hfitsE (k : Int) l = false) := Lib.hid (by have := HN.out; unfold hfitsE; rw [decide_eq_false (by omega)]; rfl)
    go_enter Tryd.func21, Tryd.ntmps21
    go_wp2
    go_ret
    exact ⟨by rw [HF.out]; try rfl, Below.refl _ _⟩
  have d0 : ((n : Int) == 0) = false := by simp; omega
  by_cases h40 : 40 < n
  · have HF : Hid (hfitsE (k : Int) l = false) := Lib.hid (by have := HN.out; unfold hfitsE; rw [decide_eq_false (by omega)]; rfl)
    have d1 : decide ((40 : Int) < (n : Int)) = true := decide_eq_true (by omega)
    go_enter Tryd.func21, Tryd.ntmps21
    go_wp2
    go_ret
    exact ⟨by rw [HF.out]; try rfl, Below.refl _ _⟩
  have d1 : decide ((40 : Int) < (n : Int)) = false := decide_eq_false (by omega)
  have HLEN : Hid (1 ≤ l.length ∧ l.length ≤ 40) := Lib.hid (by have := HN.out; omega)
  go_enter Tryd.func21, Tryd.ntmps21
  go_wp2
  go_loopw [17] (HFitRel k l w) (fun i _ => n - (intOf i).toNat)
  case atStart => exact HST.out
  case round =>
    obtain ⟨j, hj, rfl, hall, hbw⟩ := hrel
    have hjn : j ≤ n := by have := HN.out; omega
    have HALL := Lib.hid hall
    have HBW := Lib.hid hbw
    clear hj hall
    by_cases hlt : j < n
    · have hjl : j < l.length := by have := HN.out; omega
      have hlti : (j : Int) < (n : Int) := by omega
      obtain ⟨ad, rfl, had, hcell⟩ := (HL.out.1.below HBW.out).at (m := 7) (fun _ => rfl) (by omega) hjl
      have HAT0 := Lib.hid ((HL.out.2 l[j] (List.getElem_mem hjl)).below HBW.out)
      obtain ⟨x, hx⟩ : ∃ x, x = l[j] := ⟨_, rfl⟩
      rw [← hx] at hcell HAT0
      have HX := Lib.hid hx
      obtain ⟨k0, k1, k2, k3, k4, k5, k6⟩ := cells7 hcell
      obtain ⟨s, hs⟩ : ∃ s, s = hstand (j : Int) (k : Int) x := ⟨_, rfl⟩
      have HSS := Lib.hid hs
      have HC := Lib.hid (fun W (h : Below wr.heap.size wr W) => hstand_any x j k W (HAT0.out.below h))
      rw [← hs] at HC
      obtain ⟨op, col, ⟨nb, nn, ns⟩, vals, ls, vv, lv⟩ := x
      dsimp only at k0 k1 k2 k3 k4 k5 k6
      have hb1 : Below wr.heap.size wr (wr.alloc (.cells #[.int .i64 op, .int .i64 col, .bool nb, .int .i64 nn, .string ns, vv, lv] 51)) := (Below.refl _ _).alloc (Nat.le_refl _) _
      have RB := Lib.hid (box_rowP op col nb nn ns vv lv wr)
      have HCC := Lib.hid (HC.out _ hb1)
      have HB1 := Lib.hid (below_then HBW.out hb1)
      unfold hpv hpcells at HCC
      dsimp only at HCC
      have b0 := RB.out.cell 0
      have b1 := RB.out.cell 1
      have b2 := RB.out.cell 2
      have b3 := RB.out.cell 3
      have b4 := RB.out.cell 4
      have b5 := RB.out.cell 5
      have b6 := RB.out.cell 6
      obtain ⟨vA, vm, vc, rfl⟩ := HAT0.out.vals.shape
      obtain ⟨lA, lm, lc, rfl⟩ := HAT0.out.ls.shape
      clear hcell had hx hs hb1 hbw
      cases s with
      | false =>
        have HF : Hid (hfitsE (k : Int) l = false) := Lib.hid (by
          unfold hfitsE
          rw [hfitsL_no (j := j) hjl (by rw [Nat.zero_add, ← HX.out, ← HSS.out])]
          simp)
        go_wp2_with fail
        refine HCC.out.mono ?_
        rintro e w2 ⟨rfl, hb2⟩
        have HB2 := Lib.hid (below_then HB1.out hb2)
        clear hb2 b0 b1 b2 b3 b4 b5 b6
        go_wp2
        go_ret
        exact ⟨by rw [HF.out]; try rfl, HB2.out⟩
      | true =>
        have HNX : Hid (∀ q (h : q < l.length), q < j + 1 → hstand (q : Int) (k : Int) l[q] = true) := Lib.hid (fun q h h2 => by
          rcases Nat.lt_or_ge q j with h3 | h3
          · exact HALL.out q h h3
          · obtain rfl : q = j := by omega
            rw [← HX.out, ← HSS.out])
        go_wp2_with fail
        refine HCC.out.mono ?_
        rintro e w2 ⟨rfl, hb2⟩
        have HB2 := Lib.hid (below_then HB1.out hb2)
        clear hb2 b0 b1 b2 b3 b4 b5 b6
        go_wp2
        go_roundw
        case rel => exact ⟨j + 1, hjl, by go_num, HNX.out, HB2.out⟩
        case measure => simp [intOf]; omega
    · obtain rfl : j = n := by omega
      have hlti : ¬ (j : Int) < (j : Int) := by omega
      have HF : Hid (hfitsE (k : Int) l = true) := Lib.hid (by
        unfold hfitsE
        rw [decide_eq_true HLEN.out, hfitsL_of fun q h => by rw [Nat.zero_add]; exact HALL.out q h (by have := HN.out; omega)]
        rfl)
      go_wp2
      go_ret
      exact ⟨by rw [HF.out]; try rfl, HBW.out⟩
end Go.Proofs.YtniniophoocalaaDoor
