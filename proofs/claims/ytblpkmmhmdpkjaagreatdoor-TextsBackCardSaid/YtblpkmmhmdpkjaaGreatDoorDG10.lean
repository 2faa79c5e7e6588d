/- Texts that the claims of this seat share, part 10: IPos JPlain JRef JCut JCol JOpen JFew JKinds JSame JRTake JSet JLay JWd JRow JLayD JTk. -/
import Derived.Lib.AppendStr
import Derived.Maps.OwnSet
import Derived.Sort.KeysCollected
import Derived.Shelf.SlIter.Nil
import Derived.Shelf.SortM.Plain
import Derived.Shelf.SortM.SortNone
import Derived.Shelf.Strings.OnBuilder
import Derived.Test.YtblpkmmhmdpkjaaGreatDoorProg
import Derived.Lib.ConvBytes
import Derived.Test.YtblpkmmhmdpkjaaGreatDoorDG9
/- Numbers that are taken without a sign are not below 0; and there are as many as were asked for. -/



namespace Go.Proofs.YtblpkmmhmdpkjaaGreatDoor

def Pos (p : List Int × List UInt8 × Int) : Prop := p.2.2 = 0 → ∀ x ∈ p.1, 0 ≤ x
theorem Pos.bad : Pos gbad := fun h => by cases h
theorem emade_pos {u : Nat} {x : Int} (h : emade u false = some x) : 0 ≤ x := by
  unfold emade at h
  rw [if_neg (by simp)] at h
  split at h
  · injection h with h; omega
  · cases h
theorem dtake_pos (b : List UInt8) : Pos (dtakeE b false) := by
  unfold dtakeE
  split
  · exact Pos.bad
  · generalize unpacksAny (dlook b).2.2.2.1 (dlook b).2.2.1 (wof (dlook b).2.1) = p
    obtain ⟨u, r, e⟩ := p
    dsimp only
    split
    · exact Pos.bad
    · cases h1 : dmade u false with
      | none => exact Pos.bad
      | some m =>
        intro _ x hx
        obtain ⟨y, _, hy⟩ := omap_mem h1 hx
        exact emade_pos hy
theorem gnext_pos {f : Bool} {a : Int} {u : Nat} {y : Int} (h : gnext false f a u = some y) : 0 ≤ y := by
  unfold gnext at h
  split at h
  · rename_i h2
    injection h with h
    rw [← h]
    exact h2.2.elim (fun h => nomatch h) id
  · cases h
theorem gwalk_pos {f : Bool} : ∀ {us : List Nat} {x : Int} {ys : List Int}, gwalk false f x us = some ys → ∀ y ∈ ys, 0 ≤ y
  | [], _, _, h => by
    injection h with h
    subst h
    intro y hy
    cases hy
  | u :: us, x, ys, h => by
    rw [gwalk] at h
    cases hg : gnext false f x u with
    | none => rw [hg] at h; cases h
    | some z =>
      rw [hg] at h
      obtain ⟨zs, hz, rfl⟩ := Option.map_eq_some_iff.1 h
      intro y hy
      rcases List.mem_cons.1 hy with rfl | hy
      · exact gnext_pos hg
      · exact gwalk_pos hz y hy
theorem gend_pos {f : Bool} {x : Int} {us : List Nat} {q : List UInt8} (hx : 0 ≤ x) : Pos (gend false f x us q) := by
  unfold gend
  cases h : gwalk false f x us with
  | none => exact Pos.bad
  | some ys =>
    intro _ y hy
    rcases List.mem_cons.1 hy with rfl | hy
    · exact hx
    · exact gwalk_pos h y hy
theorem vtint_pos {l r : List UInt8} {x : Int} (h : vtint l false = some (x, r)) : 0 ≤ x := by
  unfold vtint at h
  cases hv : vtake l with
  | none => rw [hv] at h; cases h
  | some p =>
    rw [hv] at h
    dsimp only at h
    split at h
    · cases h
    · injection h with h
      injection h with h _
      omega
theorem gtake_pos (b : List UInt8) : Pos (gtakeE b false) := by
  unfold gtakeE
  split
  · exact Pos.bad
  · unfold gbody
    cases h1 : vtint (dlook b).2.2.2.1 false with
    | none => exact Pos.bad
    | some p =>
      obtain ⟨x, r1⟩ := p
      have hx := vtint_pos h1
      dsimp only
      cases vtint r1 true with
      | none => exact Pos.bad
      | some d =>
        obtain ⟨d, r2⟩ := d
        dsimp only
        split
        · unfold gmore
          split
          · generalize unpacksAny r2 ((dlook b).2.2.1 - 2) (wof (dlook b).2.1) = p
            obtain ⟨us, q, e⟩ := p
            dsimp only
            split
            · exact Pos.bad
            · exact gend_pos hx
          · exact gend_pos hx
        · exact Pos.bad
theorem ptake_pos (b : List UInt8) : Pos (ptakeE b false) := by
  unfold ptakeE
  split
  · exact Pos.bad
  · unfold pbody
    split
    · exact Pos.bad
    · split
      · exact Pos.bad
      · unfold pbits
        generalize unpacksAny _ (dlook b).2.2.1 (wof (dlook b).2.1) = p
        obtain ⟨low, r3, e⟩ := p
        dsimp only
        split
        · exact Pos.bad
        · generalize unpacksAny r3 _ _ = p2
          obtain ⟨both, r4, e⟩ := p2
          dsimp only
          split
          · exact Pos.bad
          · unfold pend
            split
            · exact Pos.bad
            · cases h1 : omap (gnext false false _) _ with
              | none => exact Pos.bad
              | some xs =>
                intro _ x hx
                obtain ⟨y, _, hy⟩ := omap_mem h1 hx
                exact gnext_pos hy
theorem etake_pos {b : List UInt8} (h : (etake b false).2.2.2 = 0) : 0 ≤ (etake b false).1 := by
  cases b with
  | nil => cases h
  | cons x r =>
    unfold etake at h ⊢
    dsimp only at h ⊢
    split
    · exact Int.le_refl _
    · split
      · exact Int.le_refl _
      · split
        · exact Int.le_refl _
        · cases h1 : emade (bval (r.take (x.toNat / 8 + 1))) false with
          | none => exact Int.le_refl _
          | some y => exact emade_pos h1
theorem uone_pos (b : List UInt8) : Pos (uone b false) := by
  unfold uone
  cases b with
  | nil => exact Pos.bad
  | cons x r =>
    dsimp only
    split
    · exact dtake_pos _
    · split
      · exact ptake_pos _
      · split
        · exact gtake_pos _
        · intro h y hy
          rw [(List.mem_replicate.1 hy).2]
          exact etake_pos h
theorem utakeN_pos {M : Nat} : ∀ (k : Nat) (out : List Int) (rest : List UInt8), (∀ x ∈ out, 0 ≤ x) → Pos (utakeN false M k out rest)
  | 0, _, _, _ => Pos.bad
  | k + 1, out, rest, h => by
    rw [utakeN]
    split
    · split
      · exact Pos.bad
      · exact fun _ => h
    · split
      · exact Pos.bad
      · rename_i h2
        refine utakeN_pos k _ _ fun x hx => ?_
        rcases List.mem_append.1 hx with hx | hx
        · exact h x hx
        · exact uone_pos rest (Decidable.not_not.1 h2) x hx
theorem utakeN_many {s : Bool} {M : Nat} : ∀ (k : Nat) (out : List Int) (rest : List UInt8), (utakeN s M k out rest).2.2 = 0 → (utakeN s M k out rest).1.length = M
  | 0, _, _, h => by cases h
  | k + 1, out, rest, h => by
    rw [utakeN] at h ⊢
    split at h
    · rename_i h1
      rw [if_pos h1]
      split at h
      · cases h
      · rename_i h2
        rw [if_neg h2]
        dsimp only
        omega
    · rename_i h1
      rw [if_neg h1]
      split at h
      · cases h
      · rename_i h2
        rw [if_neg h2]
        exact utakeN_many k _ _ h
theorem utakeE_ok {b r : List UInt8} {M : Nat} {s : Bool} {l : List Int} (h : utakeE b (M : Int) s = (l, r, 0)) : l.length = M ∧ (s = false → ∀ x ∈ l, 0 ≤ x) := by
  unfold utakeE at h
  split at h
  · cases h
  · rw [Int.toNat_natCast] at h
    have h1 := utakeN_many (s := s) (M := M) (M + 1) [] b (by rw [h])
    rw [h] at h1
    refine ⟨h1, fun hs => ?_⟩
    subst hs
    have h2 := utakeN_pos (M := M) (M + 1) [] b (by simp) (by rw [h])
    rw [h] at h2
    exact h2
theorem dplain_of {l : List Int} {s : Bool} (h : ∀ x ∈ l, s = true ∨ 0 ≤ x) : dplain l s ≠ none := by
  induction l with
  | nil => intro h; cases h
  | cons x l ih =>
    intro h0
    have h3 := ih fun y hy => h y (List.mem_cons_of_mem _ hy)
    obtain ⟨u, hu⟩ : ∃ u, eplain x s = some u := by
      unfold eplain
      rcases h x List.mem_cons_self with h1 | h1
      · exact ⟨_, if_pos h1⟩
      · cases s with
        | true => exact ⟨_, if_pos rfl⟩
        | false => exact ⟨x.toNat, by rw [if_neg (by simp), if_pos h1]⟩
    unfold dplain at h0 h3
    rw [omap, hu] at h0
    cases ho : omap (eplain · s) l with
    | none => exact h3 ho
    | some us => rw [ho] at h0; cases h0
theorem uput_ok {l : List Int} {s : Bool} (h : l.length ≤ 4096) (hl : ∀ x ∈ l, inInt x) (hp : dplain l s ≠ none) : uputE l s = ((uputN s l.length l).1, 0) ∧ (uputN s l.length l).1.length ≤ 40960 := by
  obtain ⟨h0, h1, _⟩ := uputN_back (s := s) (r := []) l.length l [] (l.length + 1) (Nat.le_refl _) (Nat.le_refl _) hl hp
  unfold uputE
  rw [if_neg (by omega)]
  exact ⟨Prod.ext rfl h0, by omega⟩
theorem utake_put {l : List Int} {s : Bool} (h : l.length ≤ 4096) (hl : ∀ x ∈ l, inInt x) (hp : dplain l s ≠ none) (r : List UInt8) : utakeE ((uputN s l.length l).1 ++ r) l.length s = (l, r, 0) := by
  obtain ⟨_, _, h2⟩ := uputN_back (s := s) (r := r) l.length l [] (l.length + 1) (Nat.le_refl _) (Nat.le_refl _) hl hp
  unfold utakeE
  rw [if_neg (by omega), Int.toNat_natCast]
  simpa using h2
end Go.Proofs.YtblpkmmhmdpkjaaGreatDoor

/- Columns of texts (layer 15), as plain mathematics. -/





namespace Go.Proofs.YtblpkmmhmdpkjaaGreatDoor

/-- Put in where it belongs. -/
def jins (s : ByteArray) : List ByteArray → List ByteArray
  | [] => [s]
  | x :: l => if sless s x = true then s :: x :: l else x :: jins s l
def jin (ws : List ByteArray) (s : ByteArray) : Bool := ws.any fun x => decide (x = s)
theorem jin_iff {ws : List ByteArray} {s : ByteArray} : jin ws s = true ↔ s ∈ ws := by
  unfold jin
  rw [List.any_eq_true]
  constructor
  · rintro ⟨x, h1, h2⟩
    rw [← of_decide_eq_true h2]
    exact h1
  · exact fun h => ⟨s, h, decide_eq_true rfl⟩
def jadd (ws : List ByteArray) (s : ByteArray) : List ByteArray := if jin ws s = true then ws else jins s ws
/-- The texts, each once, rising. -/
def jwords (l : List ByteArray) : List ByteArray := l.foldl jadd []
def Rises (l : List ByteArray) : Prop := l.Pairwise fun a b => sless a b = true
theorem jins_mem {s x : ByteArray} {l : List ByteArray} : x ∈ jins s l ↔ x = s ∨ x ∈ l := by
  induction l with
  | nil => simp [jins]
  | cons y l ih =>
    rw [jins]
    split
    · simp
    · rw [List.mem_cons, ih, List.mem_cons]
      constructor
      · rintro (h | h | h)
        · exact .inr (.inl h)
        · exact .inl h
        · exact .inr (.inr h)
      · rintro (h | h | h)
        · exact .inr (.inl h)
        · exact .inl h
        · exact .inr (.inr h)
theorem jins_rises {s : ByteArray} {l : List ByteArray} (h : Rises l) (hs : s ∉ l) : Rises (jins s l) := by
  induction l with
  | nil => exact List.pairwise_singleton _ _
  | cons y l ih =>
    obtain ⟨h1, h2⟩ := List.pairwise_cons.1 h
    rw [jins]
    split
    · rename_i h3
      refine List.pairwise_cons.2 ⟨fun z hz => ?_, h⟩
      rcases List.mem_cons.1 hz with rfl | hz
      · exact h3
      · exact sless_trans h3 (h1 z hz)
    · rename_i h3
      refine List.pairwise_cons.2 ⟨fun z hz => ?_, ih h2 fun hm => hs (List.mem_cons_of_mem _ hm)⟩
      rcases jins_mem.1 hz with rfl | hz
      · exact (sless_total fun e => hs (by rw [e]; exact List.mem_cons_self)).resolve_left h3
      · exact h1 z hz
theorem jins_len (s : ByteArray) (l : List ByteArray) : (jins s l).length = l.length + 1 := by
  induction l with
  | nil => rfl
  | cons y l ih =>
    rw [jins]
    split
    · rfl
    · rw [List.length_cons, ih]; rfl
theorem jadd_mem {x s : ByteArray} {ws : List ByteArray} : x ∈ jadd ws s ↔ x = s ∨ x ∈ ws := by
  unfold jadd
  split
  · rename_i h
    exact ⟨.inr, fun h2 => h2.elim (fun e => e ▸ jin_iff.1 h) id⟩
  · exact jins_mem
theorem jadd_rises {s : ByteArray} {ws : List ByteArray} (h : Rises ws) : Rises (jadd ws s) := by
  unfold jadd
  split
  · exact h
  · rename_i h2; exact jins_rises h fun h3 => h2 (jin_iff.2 h3)
theorem jadd_len (s : ByteArray) (ws : List ByteArray) : (jadd ws s).length ≤ ws.length + 1 := by
  unfold jadd
  split
  · omega
  · rw [jins_len]; exact Nat.le_refl _
theorem foldl_words : ∀ (l ws : List ByteArray), (Rises ws → Rises (l.foldl jadd ws)) ∧ (∀ x, x ∈ l.foldl jadd ws ↔ x ∈ ws ∨ x ∈ l) ∧ (l.foldl jadd ws).length ≤ ws.length + l.length
  | [], ws => ⟨id, fun x => by simp, by simp⟩
  | s :: l, ws => by
    obtain ⟨h1, h2, h3⟩ := foldl_words l (jadd ws s)
    refine ⟨fun h => h1 (jadd_rises h), fun x => ?_, ?_⟩
    · rw [List.foldl_cons, h2, jadd_mem, List.mem_cons]
      constructor
      · rintro ((h | h) | h)
        · exact .inr (.inl h)
        · exact .inl h
        · exact .inr (.inr h)
      · rintro (h | h | h)
        · exact .inl (.inr h)
        · exact .inl (.inl h)
        · exact .inr h
    · have := jadd_len s ws
      rw [List.foldl_cons, List.length_cons]
      omega
theorem jwords_rises (l : List ByteArray) : Rises (jwords l) := (foldl_words l []).1 List.Pairwise.nil
theorem jwords_mem {x : ByteArray} {l : List ByteArray} : x ∈ jwords l ↔ x ∈ l := by
  rw [jwords, (foldl_words l []).2.1]
  simp
theorem jwords_len (l : List ByteArray) : (jwords l).length ≤ l.length := by
  have := (foldl_words l []).2.2
  simpa [jwords] using this
/-- Two rising rows of the same texts are one. -/
theorem rises_eq : ∀ {a b : List ByteArray}, Rises a → Rises b → (∀ x, x ∈ a ↔ x ∈ b) → a = b
  | [], [], _, _, _ => rfl
  | [], y :: b, _, _, h => by have := (h y).2 List.mem_cons_self; cases this
  | x :: a, [], _, _, h => by have := (h x).1 List.mem_cons_self; cases this
  | x :: a, y :: b, ha, hb, h => by
    obtain ⟨a1, a2⟩ := List.pairwise_cons.1 ha
    obtain ⟨b1, b2⟩ := List.pairwise_cons.1 hb
    have e : x = y := by
      rcases List.mem_cons.1 ((h x).1 List.mem_cons_self) with e | hx
      · exact e
      · rcases List.mem_cons.1 ((h y).2 List.mem_cons_self) with e | hy
        · exact e.symm
        · have h1 := b1 x hx
          have h2 := a1 y hy
          rw [sless_asymm h1] at h2
          cases h2
    subst e
    rw [rises_eq a2 b2 fun z => ?_]
    constructor
    · intro hz
      rcases List.mem_cons.1 ((h z).1 (List.mem_cons_of_mem _ hz)) with e | hz2
      · subst e
        have := a1 z hz
        rw [sless_not] at this
        cases this
      · exact hz2
    · intro hz
      rcases List.mem_cons.1 ((h z).2 (List.mem_cons_of_mem _ hz)) with e | hz2
      · subst e
        have := b1 z hz
        rw [sless_not] at this
        cases this
      · exact hz2
/-- Where a text is among others. -/
def jplace : List ByteArray → ByteArray → Nat
  | [], _ => 0
  | x :: l, s => if x = s then 0 else jplace l s + 1
theorem jplace_in : ∀ {l : List ByteArray} {s : ByteArray}, s ∈ l → ∃ h : jplace l s < l.length, l[jplace l s] = s
  | x :: l, s, h => by
    by_cases e : x = s
    · have e1 : jplace (x :: l) s = 0 := by rw [jplace, if_pos e]
      rw [show (jplace (x :: l) s) = 0 from e1]
      exact ⟨by simp, by simpa using e⟩
    · have e1 : jplace (x :: l) s = jplace l s + 1 := by rw [jplace, if_neg e]
      obtain ⟨h1, h2⟩ := jplace_in ((List.mem_cons.1 h).resolve_left fun h => e h.symm)
      rw [e1]
      exact ⟨by simpa using h1, by simpa using h2⟩
/-- The bytes of texts one behind the other; how many each has. -/
def jbytes (l : List ByteArray) : List UInt8 := l.flatMap fun s => s.toList
def jlens (l : List ByteArray) : List Int := l.map fun s => (s.size : Int)
/-- A column: how many, an encoding, how many texts; streams: a kind, bytes. -/
structure JC where
  many : Int
  enc : Int
  texts : Int
  streams : List (Int × List UInt8)
def jcBad : JC := ⟨0, 0, 0, []⟩
def jplaces (ws l : List ByteArray) : List Int := l.map fun s => (jplace ws s : Int)
/-- What Put answers. -/
def jputE (l : List ByteArray) : JC × Int :=
  if 4096 < l.length ∨ (l.any fun s => decide (300 < s.size)) = true then (jcBad, 3)
  else if l.length < 2 * (jwords l).length then (⟨(l.length : Int), 1, 0, [(2, jbytes l), (3, (uputE (jlens l) false).1)]⟩, 0)
  else (⟨(l.length : Int), 2, ((jwords l).length : Int), [(2, (uputE (jplaces (jwords l) l) false).1), (3, (uputE (jlens (jwords l)) false).1), (4, jbytes (jwords l))]⟩, 0)
/-- Bytes cut into texts, by their lengths. -/
def jpieces : List UInt8 → List Int → Option (List ByteArray)
  | [], [] => some []
  | _ :: _, [] => none
  | b, n :: ns => if 300 < n ∨ (b.length : Int) < n then none else (jpieces (b.drop n.toNat) ns).map (⟨(b.take n.toNat).toArray⟩ :: ·)
def jcut (b lengths : List UInt8) (many : Int) : Option (List ByteArray) :=
  if (utakeE lengths many false).2.2 ≠ 0 ∨ 0 < (utakeE lengths many false).2.1.length then none else jpieces b (utakeE lengths many false).1
def jpick (ws : List ByteArray) : List Int → Option (List ByteArray)
  | [] => some []
  | p :: ps => match ws[p.toNat]? with | none => none | some s => (jpick ws ps).map (s :: ·)
/-- What Take answers. -/
def jdict (places : List Int) (o : Option (List ByteArray)) : List ByteArray × Int := match o with
  | none => ([], 2)
  | some ws => if (List.range' 1 (ws.length - 1)).all (fun i => sless (ws.getD (i - 1) ⟨#[]⟩) (ws.getD i ⟨#[]⟩)) = true then (match jpick ws places with | none => ([], 2) | some l => (l, 0)) else ([], 2)
def jtakeE (c : JC) : List ByteArray × Int :=
  if c.many < 0 ∨ 4096 < c.many then ([], 1)
  else if c.enc = 1 ∧ c.streams.map (·.1) = [2, 3] then (match jcut (c.streams.getD 0 (0, [])).2 (c.streams.getD 1 (0, [])).2 c.many with | none => ([], 2) | some l => (l, 0))
  else if c.enc ≠ 2 ∨ c.streams.map (·.1) ≠ [2, 3, 4] ∨ c.texts < 0 ∨ 4096 < c.texts then ([], 2)
  else if (utakeE (c.streams.getD 0 (0, [])).2 c.many false).2.2 ≠ 0 ∨ 0 < (utakeE (c.streams.getD 0 (0, [])).2 c.many false).2.1.length then ([], 2)
  else jdict (utakeE (c.streams.getD 0 (0, [])).2 c.many false).1 (jcut (c.streams.getD 2 (0, [])).2 (c.streams.getD 1 (0, [])).2 c.texts)
theorem toList_size (s : ByteArray) : s.toList.length = s.size := by rw [ByteArray.toList_eq]; rfl
theorem ofList_back (s : ByteArray) : (⟨s.toList.toArray⟩ : ByteArray) = s := by rw [ByteArray.toList_eq]
theorem jpieces_back : ∀ {l : List ByteArray}, (∀ s ∈ l, s.size ≤ 300) → jpieces (jbytes l) (jlens l) = some l
  | [], _ => rfl
  | s :: l, h => by
    have e1 : jbytes (s :: l) = s.toList ++ jbytes l := List.flatMap_cons
    have e2 : jlens (s :: l) = (s.size : Int) :: jlens l := rfl
    have h1 := h s List.mem_cons_self
    have h2 := toList_size s
    rw [e1, e2, jpieces, if_neg (by rw [List.length_append]; omega), Int.toNat_natCast, ← h2, List.drop_left, List.take_left, jpieces_back fun t ht => h t (List.mem_cons_of_mem _ ht), ofList_back]
    rfl
theorem jpick_back {ws : List ByteArray} : ∀ {l : List ByteArray}, (∀ s ∈ l, s ∈ ws) → jpick ws (jplaces ws l) = some l
  | [], _ => rfl
  | s :: l, h => by
    obtain ⟨h1, h2⟩ := jplace_in (h s List.mem_cons_self)
    show jpick ws ((jplace ws s : Int) :: jplaces ws l) = _
    rw [jpick, Int.toNat_natCast, List.getElem?_eq_getElem h1, h2, jpick_back fun t ht => h t (List.mem_cons_of_mem _ ht)]
    rfl
theorem rises_all {ws : List ByteArray} (h : Rises ws) : (List.range' 1 (ws.length - 1)).all (fun i => sless (ws.getD (i - 1) ⟨#[]⟩) (ws.getD i ⟨#[]⟩)) = true := by
  rw [List.all_eq_true]
  intro i hi
  have hi := List.mem_range'_1.1 hi
  have h1 := List.pairwise_iff_getElem.1 h (i - 1) i (by omega) (by omega) (by omega)
  rw [List.getD_eq_getElem?_getD, List.getD_eq_getElem?_getD, List.getElem?_eq_getElem (show i - 1 < ws.length by omega), List.getElem?_eq_getElem (show i < ws.length by omega)]
  exact h1
theorem nats_put {l : List Int} (h : l.length ≤ 4096) (hl : ∀ x ∈ l, 0 ≤ x ∧ x ≤ 9223372036854775807) : ∃ b, uputE l false = (b, 0) ∧ b.length ≤ 40960 ∧ utakeE b l.length false = (l, [], 0) := by
  have hi : ∀ x ∈ l, inInt x := fun x hx => by have := hl x hx; unfold inInt; omega
  have hp : dplain l false ≠ none := dplain_of fun x hx => .inr (hl x hx).1
  obtain ⟨h1, h2⟩ := uput_ok h hi hp
  have h3 := utake_put h hi hp []
  rw [List.append_nil] at h3
  exact ⟨_, h1, h2, h3⟩
/-- P15.4: Take of Put. -/
theorem jback {l : List ByteArray} (h : l.length ≤ 4096) (hs : ∀ s ∈ l, s.size ≤ 300) : (jputE l).2 = 0 ∧ (jputE l).1.many = l.length ∧ jtakeE (jputE l).1 = (l, 0) := by
  have hany : ¬ (4096 < l.length ∨ (l.any fun s => decide (300 < s.size)) = true) := by
    rintro (h1 | h1)
    · omega
    · obtain ⟨s, h2, h3⟩ := List.any_eq_true.1 h1
      have := hs s h2
      have := of_decide_eq_true h3
      omega
  have hwm : ∀ s ∈ jwords l, s.size ≤ 300 := fun s hx => hs s (jwords_mem.1 hx)
  have hwl := jwords_len l
  have hlen : ∀ {m : List ByteArray}, (∀ s ∈ m, s.size ≤ 300) → ∀ x ∈ jlens m, 0 ≤ x ∧ x ≤ 9223372036854775807 := by
    intro m hm x hx
    obtain ⟨s, h2, rfl⟩ := List.mem_map.1 hx
    have := hm s h2
    omega
  unfold jputE
  rw [if_neg hany]
  by_cases h2 : l.length < 2 * (jwords l).length
  · rw [if_pos h2]
    refine ⟨rfl, rfl, ?_⟩
    obtain ⟨b, b1, _, b3⟩ := nats_put (l := jlens l) (by unfold jlens; rw [List.length_map]; exact h) (hlen hs)
    have e : (jlens l).length = l.length := List.length_map _
    rw [e] at b3
    unfold jtakeE
    dsimp only
    rw [if_neg (by omega), if_pos ⟨rfl, rfl⟩, b1]
    have hc : jcut (jbytes l) b (l.length : Int) = some l := by
      unfold jcut
      rw [b3, if_neg (by simp), jpieces_back hs]
    simp [hc]
  · rw [if_neg h2]
    refine ⟨rfl, rfl, ?_⟩
    obtain ⟨b, b1, _, b3⟩ := nats_put (l := jlens (jwords l)) (by unfold jlens; rw [List.length_map]; omega) (hlen hwm)
    obtain ⟨l', hl'⟩ : ∃ l', l' = jplaces (jwords l) l := ⟨_, rfl⟩
    obtain ⟨p, p1, _, p3⟩ := nats_put (l := jplaces (jwords l) l) (by unfold jplaces; rw [List.length_map]; exact h) (by
      intro x hx
      obtain ⟨s, h2, rfl⟩ := List.mem_map.1 hx
      obtain ⟨h3, _⟩ := jplace_in (jwords_mem.2 h2)
      omega)
    have e : (jlens (jwords l)).length = (jwords l).length := List.length_map _
    have e2 : (jplaces (jwords l) l).length = l.length := List.length_map _
    rw [e] at b3
    rw [e2] at p3
    unfold jtakeE
    dsimp only
    rw [if_neg (by omega), if_neg (by rintro ⟨h3, _⟩; cases h3), if_neg (by rintro (h3 | h3 | h3 | h3); exact h3 rfl; exact h3 rfl; omega; omega), p1, b1]
    have hc : jcut (jbytes (jwords l)) b ((jwords l).length : Int) = some (jwords l) := by
      unfold jcut
      rw [b3, if_neg (by simp), jpieces_back hwm]
    have hd : jdict l' (some (jwords l)) = (l, 0) := by
      unfold jdict
      dsimp only
      rw [if_pos (rises_all (jwords_rises l)), hl', jpick_back fun s hx => jwords_mem.2 hx]
    rw [← hl'] at p3
    simp [hc, p3, hd]
end Go.Proofs.YtblpkmmhmdpkjaaGreatDoor

/- Contracts of layer 15's reference: Same, place, Words, all. -/









namespace Go.Proofs.YtblpkmmhmdpkjaaGreatDoor

open Go.RowKit

theorem Tryz.infoS : (Tryz.prog.info? 9).map (fun i => (i.zero, i.size, i.bytes)) = some (some (.string ⟨#[]⟩), 1, 16) := by kernel_rfl
theorem elemS : Elem Tryz.prog 22 9 16 (.string ⟨#[]⟩) := by
  obtain ⟨i0, hi, hz0, hz1, hz2⟩ := info_parts Tryz.infoS
  exact ⟨Tryz.underlying22, rfl, i0, hi, hz0, hz1, hz2⟩
def SameRelS (n : Nat) (w : World) (i : Value) (wr : World) : Prop := ∃ k : Nat, k ≤ n ∧ i = .int .i64 (k : Int) ∧ Below w.heap.size w wr
set_option maxHeartbeats 1000000 in
set_option maxRecDepth 100000 in
/-- Same of two equal rows. -/
theorem sameS_any (l : List ByteArray) (u v : Value) (w : World) (hu : IsV Value.string l u w) (hv : IsV Value.string l v w) (hb : l.length ≤ 1000000) :
    Calls Tryz.prog 13 #[u, v] w fun e w' => e = .returned (.bool true) ∧ Below w.heap.size w w' := by
  obtain ⟨A, n, c, rfl⟩ := hu.shape
  obtain ⟨B, m, d, rfl⟩ := hv.shape
  have hnm : n = m := by rw [← hu.parts.1, hv.parts.1]
  subst hnm
  have HN := Lib.hid hu.parts.1
  have HU := Lib.hid hu
  have HV := Lib.hid hv
  have hn6 : n ≤ 1000000 := by have := HN.out; omega
  have d0 : ((n : Int) != (n : Int)) = false := by simp
  clear hu hv hb
  go_enter Tryz.func13, Tryz.ntmps13
  go_wp2
  go_loopw [5] (SameRelS n w) (fun i _ => n - (intOf i).toNat)
  case atStart => exact ⟨0, Nat.zero_le _, rfl, Below.refl _ _⟩
  case round =>
    obtain ⟨k, hkn, rfl, hbw⟩ := hrel
    by_cases hlt : k < n
    · have hkl : k < l.length := by have := HN.out; omega
      have hlti : (k : Int) < (n : Int) := by omega
      obtain ⟨ad, rfl, had, hcell⟩ := (HU.out.below hbw).at hkl
      obtain ⟨bd, rfl, hbd, hcell2⟩ := (HV.out.below hbw).at hkl
      obtain ⟨x, hx⟩ : ∃ x, x = l[k] := ⟨_, rfl⟩
      rw [← hx] at hcell hcell2
      have d1 : (!(x.toList == x.toList)) = false := by simp
      clear hx had hbd
      go_wp2
      go_quiet (fail)
      go_wp2
      go_roundw
      case rel => exact ⟨k + 1, by omega, by go_num, below_drewN hbw _⟩
      case measure => simp [intOf]; omega
    · obtain rfl : k = n := by omega
      have hlti : ¬ (k : Int) < (k : Int) := by omega
      go_wp2
      go_ret
      exact ⟨rfl, hbw⟩
/-- Texts that a call answers, in a row of its own. -/
def RetTO (w : World) (l : List ByteArray) (e : Ending) (w' : World) : Prop := ∃ v, e = .returned v ∧ OwnV Value.string 9 w l v w' ∧ Below w.heap.size w w'
theorem jbytes_len : ∀ {l : List ByteArray}, (∀ s ∈ l, s.size ≤ 300) → (jbytes l).length ≤ 300 * l.length
  | [], _ => Nat.zero_le _
  | s :: l, h => by
    have h1 := h s List.mem_cons_self
    have h2 := jbytes_len fun t ht => h t (List.mem_cons_of_mem _ ht)
    have e : jbytes (s :: l) = s.toList ++ jbytes l := List.flatMap_cons
    rw [e, List.length_append, toList_size, List.length_cons]
    omega
end Go.Proofs.YtblpkmmhmdpkjaaGreatDoor

/- Contracts of layer 15's reference: cut, kinds. -/





namespace Go.Proofs.YtblpkmmhmdpkjaaGreatDoor

open Go.RowKit

/-- Texts and an error that a call answers. -/
def RetTE (w : World) (p : List ByteArray × Int) (e : Ending) (w' : World) : Prop := ∃ v, e = .returned (.tuple #[v, .int .i64 p.2]) ∧ OwnV Value.string 9 w p.1 v w' ∧ Below w.heap.size w w'
theorem RetTE.nil {w w' : World} (n : Int) (hb : Below w.heap.size w w') : RetTE w ([], n) (.returned (.tuple #[.slice none 0 0, .int .i64 n])) w' := ⟨_, rfl, OwnV.nil _ _ _ _, hb⟩
def jcutE (b lengths : List UInt8) (many : Int) : List ByteArray × Int := match jcut b lengths many with | none => ([], 2) | some l => (l, 0)
theorem jpieces_bad {b : List UInt8} {n : Int} {ns : List Int} (h : 300 < n ∨ (b.length : Int) < n) : jpieces b (n :: ns) = none := by
  rw [jpieces, if_pos h]
theorem jpieces_next {b : List UInt8} {N : Nat} {ns : List Int} (h3 : N ≤ 300) (h : N ≤ b.length) : jpieces b ((N : Int) :: ns) = (jpieces (b.drop N) ns).map ((⟨(b.take N).toArray⟩ : ByteArray) :: ·) := by
  rw [jpieces, if_neg (by omega), Int.toNat_natCast]
theorem jpieces_end (b : List UInt8) : jpieces b [] = if 0 < b.length then none else some [] := by
  cases b with
  | nil => rfl
  | cons x b => rw [if_pos (by simp)]; rfl
end Go.Proofs.YtblpkmmhmdpkjaaGreatDoor

/- Columns: what a value holds; the contract of layer 15's reference's Put. -/



namespace Go.Proofs.YtblpkmmhmdpkjaaGreatDoor

open Go.RowKit

/-- A stream in memory: its kind, its bytes, their slice. -/
def scells (p : Int × List UInt8 × Value) : List Value := [.int .i64 p.1, p.2.2]
def colv (c : JC) (sv : Value) : Value := .agg #[.int .i64 c.many, .int .i64 c.enc, .int .i64 c.texts, sv]
/-- The value v holds the column c. -/
def IsCol (c : JC) (v : Value) (w : World) : Prop := ∃ (L : List (Int × List UInt8 × Value)) (sv : Value), v = colv c sv ∧ IsR scells L sv w ∧ (∀ p ∈ L, IsB p.2.1 p.2.2 w) ∧ c.streams = L.map (fun p => (p.1, p.2.1))
theorem IsCol.below {c : JC} {v : Value} {w w' : World} (h : IsCol c v w) (hb : Below w.heap.size w w') : IsCol c v w' := by
  obtain ⟨L, sv, h1, h2, h3, h4⟩ := h
  exact ⟨L, sv, h1, h2.below hb, fun p hp => (h3 p hp).below hb, h4⟩
/-- A column and an error that a call answers. -/
def RetCE (w : World) (p : JC × Int) (e : Ending) (w' : World) : Prop := ∃ v, e = .returned (.tuple #[v, .int .i64 p.2]) ∧ IsCol p.1 v w' ∧ Below w.heap.size w w'
/-- The streams lie in memory that the call made. -/
def ColIn (w : World) (v : Value) : Prop := ∀ (a b c : Value) (A : Addr) (n m : Nat), v = .agg #[a, b, c, .slice (some A) n m] → w.heap.size ≤ A.block
def RetCN (w : World) (p : JC × Int) (e : Ending) (w' : World) : Prop := ∃ v, e = .returned (.tuple #[v, .int .i64 p.2]) ∧ IsCol p.1 v w' ∧ ColIn w v ∧ Below w.heap.size w w'
theorem RetCN.ce {w w' : World} {p : JC × Int} {e : Ending} (h : RetCN w p e w') : RetCE w p e w' := by
  obtain ⟨v, h1, h2, _, h4⟩ := h
  exact ⟨v, h1, h2, h4⟩
theorem isCol_bad (w : World) : IsCol jcBad (colv jcBad (.slice none 0 0)) w := ⟨[], _, rfl, isR_nil _ _, by simp, rfl⟩
/-- Only block g has changed. -/
structure Spared (g : Nat) (w w' : World) : Prop where
  size : w.heap.size ≤ w'.heap.size
  block : ∀ k, k ≠ g → w'.heap[k]? = w.heap[k]?
theorem Spared.cell {g : Nat} {w w' : World} (h : Spared g w w') {p : Addr} (hp : p.block ≠ g) : w'.cell? p = w.cell? p := by
  unfold World.cell?
  rw [h.block p.block hp]
/-- Bytes lie in no block that holds other things. -/
theorem Spared.bytes {g : Nat} {w w' : World} {t : TypeId} {old : List Value} {l : List UInt8} {v : Value} (h : Spared g w w') (hr : Row w g t old) (ho : ∀ u ∈ old, ∀ x, u ≠ bv x) (hv : IsB l v w) : IsB l v w' := by
  obtain ⟨A, c, h1, h2, h3, h4, h5⟩ := hv
  refine ⟨A, c, h1, h2, h3, h4, ?_⟩
  rcases h5 with h5 | ⟨ad, hA, hlt, hc⟩
  · exact .inl h5
  · refine .inr ⟨ad, hA, Nat.lt_of_lt_of_le hlt h.size, fun j u hu => ?_⟩
    have h6 := hc j u hu
    by_cases hg : ad.block = g
    · exfalso
      obtain ⟨b, hb⟩ : ∃ b, u = bv b := by
        have := List.mem_of_getElem? hu
        obtain ⟨b, _, hb⟩ := List.mem_map.1 this
        exact ⟨b, hb.symm⟩
      have hs : (ad.add j).spot = none := World.cell?_spot h6
      have hbk : (ad.add j).block = g := by rw [add_block]; exact hg
      have e : ad.add j = ⟨g, (ad.add j).off, none⟩ := by
        generalize ad.add j = q at hs hbk
        obtain ⟨b1, o1, s1⟩ := q
        dsimp only at hs hbk
        subst hs hbk
        rfl
      rw [e, hr.cell] at h6
      exact ho u (List.mem_of_getElem? h6) b hb
    · rw [h.cell (by rw [add_block]; exact hg)]
      exact h6
/-- A slice that lies at the head of a block of its own. -/
theorem Spared.slice {α : Type} {f : α → List Value} {g k : Nat} {w w' : World} {l : List α} {n c : Nat} (h : Spared g w w') (hk : k ≠ g) (hv : IsR f l (.slice (some ⟨k, 0, none⟩) n c) w) : IsR f l (.slice (some ⟨k, 0, none⟩) n c) w' := by
  obtain ⟨A, c', h1, h2, h3, h4, h5⟩ := hv
  injection h1 with e1 e2 e3
  subst e1
  refine ⟨_, c', by rw [e2, e3], h2, h3, h4, ?_⟩
  rcases h5 with h5 | ⟨ad, hA, hlt, hc⟩
  · exact .inl h5
  · injection hA with hA
    subst hA
    exact .inr ⟨_, rfl, Nat.lt_of_lt_of_le hlt h.size, fun j u hu => by rw [h.cell (by rw [add_block]; exact hk)]; exact hc j u hu⟩
theorem isCol_stored {c : JC} {L : List (Int × List UInt8 × Value)} {g k n m : Nat} {w w' : World} {t : TypeId} {old : List Value} (h : Spared g w w') (hk : k ≠ g) (hr : Row w g t old) (ho : ∀ u ∈ old, ∀ x, u ≠ bv x)
    (hi : IsR scells L (.slice (some ⟨k, 0, none⟩) n m) w) (hb : ∀ p ∈ L, IsB p.2.1 p.2.2 w) (hc : c.streams = L.map (fun p => (p.1, p.2.1))) : IsCol c (colv c (.slice (some ⟨k, 0, none⟩) n m)) w' :=
  ⟨L, _, rfl, h.slice hk hi, fun p hp => h.bytes hr ho (hb p hp), hc⟩
theorem zero_col (v : Value) (h : ∀ x, v ≠ bv x) (a b c : Int) : ∀ u ∈ [Value.int .i64 a, .int .i64 b, .int .i64 c, v], ∀ x, u ≠ bv x := by
  intro u hu x
  simp at hu
  rcases hu with rfl | rfl | rfl | rfl
  · intro h; cases h
  · intro h; cases h
  · intro h; cases h
  · exact h x
section

variable {P : Program} {t : TypeId} {n : Nat} {ops : Array Oper} {rest : List Oper} {o : Oper} {a : Act} {Q : Exit → Act → World → Prop} {w : World}
/-- A whole value of several cells stored into its block. -/
theorem wpList_storeRow (hsz : (P.info? t).map (·.size) = some n) (hgd : o.guard = none) (x y : Operand) (ho : o.op = .store t x y) (g : Nat) (t' : TypeId) (old cs : List Value) (hx : a.eval x = .pointer (some ⟨g, 0, none⟩)) (hy : a.eval y = .agg cs.toArray) (hr : Row w g t' old)
    (hl : cs.length = n) (hl' : old.length = n) (h1 : ∀ u ∈ cs, u.oneCell' = true) (w0 : World) (B : Nat) (hb : Below B w0 w) (hB : B ≤ g)
    (h : ∀ w', Row w' g t' cs → Below B w0 w' → Spared g w w' → wpList P ops Q rest (a.put o.dst undef) w') : wpList P ops Q (o :: rest) a w := by
  have hrun := run_storeVar_row (P := P) w g t' t old.toArray cs.toArray hr (by rw [hsz, ← hl]; simp) (by simp [hl, hl']) (by simpa using h1)
  refine wpList_plain hgd fun K hK => ?_
  unfold Oper.wp execOp
  simp only [ho, hx, hy, Instr.storeAt, Instr.sureAddr, Sem.run_bind, Sem.run_pure, Result.andThen_ok, hrun]
  exact hK _ _ (h _ (setRow_heap w g old.toArray cs.toArray t' (0, 0) hr) (below_setRow hb hB _) ⟨by simp [World.setRow], fun k hk => setRow_other w g k cs.toArray hk⟩)
end
theorem jputE_big {l : List ByteArray} (h : 4096 < l.length ∨ ∃ s ∈ l, 300 < s.size) : jputE l = (jcBad, 3) := by
  unfold jputE
  rw [if_pos]
  rcases h with h | ⟨s, h1, h2⟩
  · exact .inl h
  · exact .inr (List.any_eq_true.2 ⟨s, h1, decide_eq_true h2⟩)
theorem jputE_in {l : List ByteArray} (h : l.length ≤ 4096) (hs : ∀ s ∈ l, s.size ≤ 300) : jputE l = if l.length < 2 * (jwords l).length then (⟨(l.length : Int), 1, 0, [(2, jbytes l), (3, (uputE (jlens l) false).1)]⟩, 0)
    else (⟨(l.length : Int), 2, ((jwords l).length : Int), [(2, (uputE (jplaces (jwords l) l) false).1), (3, (uputE (jlens (jwords l)) false).1), (4, jbytes (jwords l))]⟩, 0) := by
  unfold jputE
  rw [if_neg]
  rintro (h1 | h1)
  · omega
  · obtain ⟨s, h2, h3⟩ := List.any_eq_true.1 h1
    have := hs s h2
    have := of_decide_eq_true h3
    omega
theorem isR_two (w : World) (p q : Int × List UInt8 × Value) : IsR scells [p, q] (.slice (some ⟨w.heap.size, 0, none⟩) 2 2) (w.alloc (.cells #[.int .i64 p.1, p.2.2, .int .i64 q.1, q.2.2] 40)) :=
  ⟨_, _, rfl, by simp, Nat.le_refl _, by unfold maxLen; simp, cells_new w _ _⟩
theorem isR_three (w : World) (p q r : Int × List UInt8 × Value) : IsR scells [p, q, r] (.slice (some ⟨w.heap.size, 0, none⟩) 3 3) (w.alloc (.cells #[.int .i64 p.1, p.2.2, .int .i64 q.1, q.2.2, .int .i64 r.1, r.2.2] 40)) :=
  ⟨_, _, rfl, by simp, Nat.le_refl _, by unfold maxLen; simp, cells_new w _ _⟩
theorem colSize : (Tryz.prog.info? 27).map (·.size) = some 4 := by kernel_rfl
end Go.Proofs.YtblpkmmhmdpkjaaGreatDoor

/- Texts, and a column, that come in. -/





namespace Go.Proofs.YtblpkmmhmdpkjaaGreatDoor

open Go.RowKit Go.ChangeShapes Go.WideShapes Go.Deep

theorem isV_of_isR {α : Type} {f : α → Value} {l : List α} {v : Value} {w : World} (h : IsR (fun x => [f x]) l v w) : IsV f l v w := by
  obtain ⟨A, c, h1, h2, h3, h4, h5⟩ := h
  refine ⟨A, c, h1, h2, h3, h4, ?_⟩
  rw [List.map_eq_flatMap]
  exact h5
instance : Inhabited ByteArray := ⟨⟨#[]⟩⟩
section

variable {H : Type} {enc : TypeId × Value → H} {W : World} {v : Value} {d : DataW H} {ps : List MemPlace} {base : Nat}
set_option maxRecDepth 100000 in
theorem open_texts (hval : Value.okWide Tryz.prog W .any base 22 v) (hd : DataW.Trod enc Tryz.prog W 0 (fun _ => true) true 22 v d ps) (hlt : ∀ x ∈ ps, x.block < W.heap.size) :
    ∃ l : List ByteArray, IsV Value.string l v W ∧ ∀ x ∈ l, x.size ≤ maxLen := by
  obtain ⟨l, h1, h2⟩ := open_wide (f := fun x => [Value.string x]) (m := 1) (p := fun x : ByteArray => x.size ≤ maxLen) Tryz.underlying22 (by kernel_rfl) (by omega) (fun _ => rfl) (fun cs n x hlen h => by
    match cs, hlen with
    | [v0], _ =>
      obtain ⟨s, e0, _, hs⟩ := DataW.trod_string Tryz.underlying9 h
      simp at e0
      subst e0
      exact ⟨s, rfl, hs⟩) hval hd hlt
  exact ⟨l, isV_of_isR h1, h2⟩
end
instance : Inhabited (Int × List UInt8 × Value) := ⟨⟨0, [], .slice none 0 0⟩⟩
section

variable {H : Type} {enc : TypeId × Value → H} {W : World} {v : Value} {d : DataW H} {ps : List MemPlace} {base : Nat}
end

end Go.Proofs.YtblpkmmhmdpkjaaGreatDoor

/- few of layer 15's statements: at most 300 texts, of 310 bytes each. -/



namespace Go.Proofs.YtblpkmmhmdpkjaaGreatDoor

open Go.RowKit

end Go.Proofs.YtblpkmmhmdpkjaaGreatDoor

/- Contracts of layer 15's reference: kinds. -/



namespace Go.Proofs.YtblpkmmhmdpkjaaGreatDoor

open Go.RowKit

theorem str_size (W : World) : (sizeOf 40).run Tryz.prog W = .ok 2 W := by kernel_rfl
def KindsRel (ls ks : List Int) (w : World) (i : Value) (wr : World) : Prop := ∃ k : Nat, k ≤ ls.length ∧ i = .int .i64 (k : Int) ∧ ls.take k = ks.take k ∧ Below w.heap.size w wr
end Go.Proofs.YtblpkmmhmdpkjaaGreatDoor

/- Contracts of layer 15's reference: SameColumn of two that hold the same column. -/



namespace Go.Proofs.YtblpkmmhmdpkjaaGreatDoor

open Go.RowKit

end Go.Proofs.YtblpkmmhmdpkjaaGreatDoor

/- The contract of layer 15's reference's Take. -/





namespace Go.Proofs.YtblpkmmhmdpkjaaGreatDoor

open Go.RowKit

theorem jtakeE_arg {c : JC} (h : c.many < 0 ∨ 4096 < c.many) : jtakeE c = ([], 1) := by unfold jtakeE; rw [if_pos h]
theorem jtakeE_plain {c : JC} (h : ¬ (c.many < 0 ∨ 4096 < c.many)) (h1 : c.enc = 1) (h2 : c.streams.map (·.1) = [2, 3]) : jtakeE c = jcutE (c.streams.getD 0 (0, [])).2 (c.streams.getD 1 (0, [])).2 c.many := by
  unfold jtakeE
  rw [if_neg h, if_pos ⟨h1, h2⟩]
  rfl
theorem jtakeE_kind {c : JC} (h : ¬ (c.many < 0 ∨ 4096 < c.many)) (h1 : ¬ (c.enc = 1 ∧ c.streams.map (·.1) = [2, 3])) (h2 : c.enc ≠ 2 ∨ c.streams.map (·.1) ≠ [2, 3, 4] ∨ c.texts < 0 ∨ 4096 < c.texts) : jtakeE c = ([], 2) := by
  unfold jtakeE
  rw [if_neg h, if_neg h1, if_pos h2]
theorem jtakeE_dict {c : JC} (h : ¬ (c.many < 0 ∨ 4096 < c.many)) (h1 : c.enc = 2) (h2 : c.streams.map (·.1) = [2, 3, 4]) (h3 : ¬ (c.texts < 0 ∨ 4096 < c.texts)) {ns : List Int} {q : List UInt8} {y : Int} (hu : utakeE (c.streams.getD 0 (0, [])).2 c.many false = (ns, q, y)) :
    jtakeE c = if y ≠ 0 ∨ 0 < q.length then ([], 2) else jdict ns (jcut (c.streams.getD 2 (0, [])).2 (c.streams.getD 1 (0, [])).2 c.texts) := by
  unfold jtakeE
  rw [if_neg h, if_neg (by rintro ⟨h4, _⟩; rw [h1] at h4; cases h4), if_neg (by rintro (h4 | h4 | h4); exact h4 h1; exact h4 h2; exact h3 h4), hu]
theorem jpick_next {ws : List ByteArray} {N : Nat} {ps : List Int} (h : N < ws.length) : jpick ws ((N : Int) :: ps) = (jpick ws ps).map (ws[N] :: ·) := by
  rw [jpick, Int.toNat_natCast, List.getElem?_eq_getElem h]
theorem jpick_bad {ws : List ByteArray} {N : Nat} {ps : List Int} (h : ws.length ≤ N) : jpick ws ((N : Int) :: ps) = none := by
  rw [jpick, Int.toNat_natCast, List.getElem?_eq_none h]
/-- What cut, and Take of layer 11, answer, as facts of a region. -/
def Fact.texts (w0 : World) (l : List ByteArray) : Fact := ⟨OwnV Value.string 9 w0 l, fun _ _ _ h hb => h.below hb⟩
theorem col_at0 (W : World) (g : Nat) : (Instr.fieldAt 27 (.pointer (some ⟨g, 0, none⟩)) 0).run Tryz.prog W = .ok (.pointer (some ⟨g, 0, none⟩)) W := by
  simp [Instr.fieldAt, run_underlying Tryz.underlying27, Instr.sureAddr, fieldPlace, Addr.add]
theorem col_at2 (W : World) (g : Nat) : (Instr.fieldAt 27 (.pointer (some ⟨g, 0, none⟩)) 2).run Tryz.prog W = .ok (.pointer (some ⟨g, 2, none⟩)) W := by
  simp [Instr.fieldAt, run_underlying Tryz.underlying27, Instr.sureAddr, fieldPlace, Addr.add]
theorem col_at3 (W : World) (g : Nat) : (Instr.fieldAt 27 (.pointer (some ⟨g, 0, none⟩)) 3).run Tryz.prog W = .ok (.pointer (some ⟨g, 3, none⟩)) W := by
  simp [Instr.fieldAt, run_underlying Tryz.underlying27, Instr.sureAddr, fieldPlace, Addr.add]
theorem str_at1 (W : World) (a : Addr) : (Instr.fieldAt 40 (.pointer (some a)) 1).run Tryz.prog W = .ok (.pointer (some (a.add 1))) W := by
  simp [Instr.fieldAt, run_underlying Tryz.underlying40, Instr.sureAddr, fieldPlace]
theorem map_two {L : List (Int × List UInt8 × Value)} {a b : Int} (h : L.map (·.1) = [a, b]) : ∃ b0 v0 b1 v1, L = [(a, b0, v0), (b, b1, v1)] := by
  rcases L with _ | ⟨⟨x, b0, v0⟩, _ | ⟨⟨y, b1, v1⟩, _ | ⟨p, L⟩⟩⟩
  · cases h
  · simp at h
  · injection h with h1 h2
    injection h2 with h2 _
    dsimp only at h1 h2
    subst h1 h2
    exact ⟨b0, v0, b1, v1, rfl⟩
  · simp at h
theorem map_three {L : List (Int × List UInt8 × Value)} {a b c : Int} (h : L.map (·.1) = [a, b, c]) : ∃ b0 v0 b1 v1 b2 v2, L = [(a, b0, v0), (b, b1, v1), (c, b2, v2)] := by
  rcases L with _ | ⟨⟨x, b0, v0⟩, _ | ⟨⟨y, b1, v1⟩, _ | ⟨⟨z, b2, v2⟩, _ | ⟨p, L⟩⟩⟩⟩
  · cases h
  · simp at h
  · simp at h
  · injection h with h1 h2
    injection h2 with h2 h3
    injection h3 with h3 _
    dsimp only at h1 h2 h3
    subst h1 h2 h3
    exact ⟨b0, v0, b1, v1, b2, v2, rfl⟩
  · simp at h
theorem jpieces_many : ∀ {ns : List Int} {b : List UInt8} {l : List ByteArray}, jpieces b ns = some l → l.length = ns.length
  | [], b, l, h => by
    rw [jpieces_end] at h
    split at h
    · cases h
    · injection h with h
      rw [← h]
      rfl
  | n :: ns, b, l, h => by
    by_cases hb : 300 < n ∨ (b.length : Int) < n
    · rw [jpieces_bad hb] at h
      cases h
    · rw [jpieces, if_neg hb, Option.map_eq_some_iff] at h
      obtain ⟨l', h1, rfl⟩ := h
      rw [List.length_cons, List.length_cons, jpieces_many h1]
theorem jcut_many {b lengths : List UInt8} {T : Nat} {ws : List ByteArray} (h : jcut b lengths (T : Int) = some ws) : ws.length = T := by
  obtain ⟨ns, q, y, hu⟩ : ∃ ns q y, utakeE lengths (T : Int) false = (ns, q, y) := ⟨_, _, _, rfl⟩
  unfold jcut at h
  rw [hu] at h
  dsimp only at h
  split at h
  · cases h
  · rename_i h2
    have hy : y = 0 := by
      by_cases hy : y = 0
      · exact hy
      · exact absurd (.inl hy) h2
    subst hy
    rw [jpieces_many h, (utakeE_ok hu).1]
def RiseRel (ws : List ByteArray) (w : World) (i : Value) (wr : World) : Prop :=
  ∃ k : Nat, 1 ≤ k ∧ k ≤ ws.length + 1 ∧ i = .int .i64 (k : Int) ∧ (∀ j, 1 ≤ j → j < k → (hj : j < ws.length) → sless (ws[j - 1]'(by omega)) ws[j] = true) ∧ Below w.heap.size w wr
end Go.Proofs.YtblpkmmhmdpkjaaGreatDoor

/- A set of texts: its keys, sorted, are the words. -/







namespace Go.Proofs.YtblpkmmhmdpkjaaGreatDoor

open Go.Maps

open Go.Proofs (encStr)

def jkey (s : ByteArray) : Lit := .string s.data.toList
theorem jkey_ok (s : ByteArray) : WideAt.IsKeyLit (jkey s) := trivial
def jset (l : List ByteArray) : DataW Unit := setOf (.agg []) (l.map jkey)
theorem jset_next {l : List ByteArray} {k : Nat} (h : k < l.length) : jset (l.take (k + 1)) = (jset (l.take k)).put (jkey l[k]) (.agg []) := by
  unfold jset
  rw [List.take_succ_eq_append_getElem h, List.map_append, List.map_singleton, setOf_snoc]
theorem jset_keys (l : List ByteArray) : ∀ x ∈ l.map jkey, WideAt.IsKeyLit x := by
  intro x hx
  obtain ⟨s, _, rfl⟩ := List.mem_map.1 hx
  exact jkey_ok s
theorem jset_has (l : List ByteArray) (x : List UInt8) : has (jset l) (.string x) = true ↔ ∃ s ∈ l, s.data.toList = x := by
  unfold jset
  rw [has_setOf _ _ _ (jset_keys l), List.any_eq_true]
  constructor
  · rintro ⟨q, hq, hs⟩
    obtain ⟨s, h1, rfl⟩ := List.mem_map.1 hq
    exact ⟨s, h1, by simpa [jkey, Lit.sameKey] using hs⟩
  · rintro ⟨s, h1, rfl⟩
    exact ⟨jkey s, List.mem_map.2 ⟨s, h1, rfl⟩, WideAt.sameKey_self (jkey_ok s)⟩
theorem strKeys_mem {H : Type} {es : List (Lit × DataW H)} (hk : ∀ p ∈ es, ∃ x, p.1 = .string x) (x : List UInt8) : x ∈ strKeys (.map es) ↔ has (.map es) (.string x) = true := by
  rw [has_eq, List.any_eq_true]
  show x ∈ es.map (fun p => strOf p.1) ↔ _
  rw [List.mem_map]
  constructor
  · rintro ⟨p, hp, rfl⟩
    obtain ⟨a, ha⟩ := hk p hp
    exact ⟨p, hp, by rw [ha]; simp [Lit.sameKey, strOf]⟩
  · rintro ⟨p, hp, hs⟩
    obtain ⟨a, ha⟩ := hk p hp
    rw [ha] at hs
    exact ⟨p, hp, by rw [ha]; simpa [Lit.sameKey, strOf] using hs⟩
theorem strKeys_nodup {H : Type} {es : List (Lit × DataW H)} (hp : es.Pairwise (fun p q => p.1 ≠ q.1)) (hk : ∀ p ∈ es, ∃ x, p.1 = .string x) : (strKeys (.map es)).Nodup := by
  show (es.map fun p => strOf p.1).Nodup
  refine List.pairwise_map.2 (hp.imp_of_mem fun {p q} hp' hq' hne e => hne ?_)
  obtain ⟨a, ha⟩ := hk p hp'
  obtain ⟨b, hb⟩ := hk q hq'
  rw [ha, hb] at e ⊢
  exact congrArg _ e
theorem sorted_le (ss : List (List UInt8)) : (ss.mergeSort leB).Pairwise fun a b => a ≤ b := by
  have tr : ∀ a b c : List UInt8, leB a b = true → leB b c = true → leB a c = true := fun a b c h1 h2 => by simp only [leB, decide_eq_true_eq] at *; exact List.le_trans h1 h2
  have to : ∀ a b : List UInt8, (leB a b || leB b a) = true := fun a b => by simp only [leB, Bool.or_eq_true, decide_eq_true_eq]; exact List.le_total a b
  exact (List.pairwise_mergeSort tr to ss).imp fun h => of_decide_eq_true h
theorem words_sorted {l : List ByteArray} {ss : List (List UInt8)} (hn : ss.Nodup) (hm : ∀ x, x ∈ ss ↔ ∃ s ∈ l, s.data.toList = x) : (ss.mergeSort leB).map encStr = (jwords l).map Value.string := by
  have hp := List.mergeSort_perm ss leB
  have hn2 : (ss.mergeSort leB).Nodup := hp.nodup_iff.2 hn
  have hs := sorted_le ss
  have hr : Rises ((ss.mergeSort leB).map fun x => (⟨x.toArray⟩ : ByteArray)) := by
    refine List.pairwise_map.2 ?_
    refine (hs.and hn2).imp fun {a b} h => ?_
    rw [sless_iff]
    dsimp only
    rcases Decidable.em (a < b) with h1 | h1
    · exact h1
    · exact absurd (List.le_antisymm h.1 (List.not_lt.1 h1)) h.2
  have he : ((ss.mergeSort leB).map fun x => (⟨x.toArray⟩ : ByteArray)) = jwords l := by
    refine rises_eq hr (jwords_rises l) fun z => ?_
    rw [jwords_mem, List.mem_map]
    constructor
    · rintro ⟨x, hx, rfl⟩
      obtain ⟨s, h1, rfl⟩ := (hm x).1 (hp.mem_iff.1 hx)
      exact h1
    · intro hz
      exact ⟨z.data.toList, hp.mem_iff.2 ((hm _).2 ⟨z, hz, rfl⟩), rfl⟩
  rw [← he, List.map_map]
  rfl
/-- The keys of the set of texts, sorted. -/
theorem words_of {l : List ByteArray} {ss : List (List UInt8)} (hp : ss.Perm (strKeys (jset l))) (hk : ∃ es, jset l = .map es ∧ ∀ p ∈ es, ∃ x, p.1 = .string x) : (ss.mergeSort leB).map encStr = (jwords l).map Value.string := by
  obtain ⟨es, he, hk⟩ := hk
  obtain ⟨es2, he2, ht⟩ := tidy_setOf (.agg [] : DataW Unit) (l.map jkey) (jset_keys l)
  have he3 : jset l = .map es2 := he2
  rw [he] at he3
  injection he3 with he3
  subst he3
  rw [he] at hp
  refine words_sorted (hp.nodup_iff.2 (strKeys_nodup ht hk)) fun x => ?_
  rw [hp.mem_iff, strKeys_mem hk, ← he, jset_has]
/-- The places of words that are all different. -/
def jmap (ws : List ByteArray) (k : Nat) : DataW Unit := (List.range k).foldl (fun D i => D.put (jkey (ws.getD i ⟨#[]⟩)) (.lit (.int .i64 (i : Int)))) (.map [])
theorem jmap_next (ws : List ByteArray) (k : Nat) : jmap ws (k + 1) = (jmap ws k).put (jkey (ws.getD k ⟨#[]⟩)) (.lit (.int .i64 (k : Int))) := by
  unfold jmap
  rw [List.range_succ, List.foldl_append]
  rfl
theorem jmap_isMap (ws : List ByteArray) : ∀ k, IsMap (jmap ws k)
  | 0 => isMap_empty
  | k + 1 => by rw [jmap_next]; exact (jmap_isMap ws k).put _ _
theorem jmap_at {ws : List ByteArray} (hr : Rises ws) (z : DataW Unit) : ∀ {k j : Nat}, k ≤ ws.length → (hj : j < k) → (jmap ws k).atKey (jkey (ws.getD j ⟨#[]⟩)) z = .lit (.int .i64 (j : Int))
  | 0, j, _, hj => absurd hj (Nat.not_lt_zero _)
  | k + 1, j, hk, hj => by
    rw [jmap_next]
    by_cases e : j = k
    · subst e
      exact atKey_put_same (jmap_isMap ws _) (jkey_ok _) _ _
    · rw [atKey_put_other _ _ _, jmap_at hr z (by omega) (by omega)]
      intro h
      have h1 := List.pairwise_iff_getElem.1 hr j k (by omega) (by omega) (by omega)
      have e1 : ws.getD j ⟨#[]⟩ = ws.getD k ⟨#[]⟩ := by
        unfold jkey at h
        injection h with h
        have h2 : ∀ a b : ByteArray, a.data.toList = b.data.toList → a = b := fun a b h => by
          cases a; cases b
          exact congrArg _ (Array.toList_inj.1 h)
        exact h2 _ _ h
      rw [List.getD_eq_getElem?_getD, List.getD_eq_getElem?_getD, List.getElem?_eq_getElem (show j < ws.length by omega), List.getElem?_eq_getElem (show k < ws.length by omega)] at e1
      dsimp only [Option.getD_some] at e1
      rw [e1, sless_not] at h1
      cases h1
theorem jmap_place {ws : List ByteArray} (hr : Rises ws) {s : ByteArray} (hs : s ∈ ws) (z : DataW Unit) : (jmap ws ws.length).atKey (jkey s) z = .lit (.int .i64 (jplace ws s : Int)) := by
  obtain ⟨h1, h2⟩ := jplace_in hs
  have h := jmap_at hr z (Nat.le_refl _) h1
  rw [List.getD_eq_getElem?_getD, List.getElem?_eq_getElem h1] at h
  dsimp only [Option.getD_some] at h
  rw [h2] at h
  exact h
end Go.Proofs.YtblpkmmhmdpkjaaGreatDoor

/- The library's contracts of maps.Keys, slices.Sorted, slices.Sort at texts and of strings.Join, laid at this program's numbers. -/











namespace Go.Proofs

open Go.Shelf
def Tryz.keysA_ren : Go.Shelf.Ren := ⟨fun | 7 => 27 | 10 => 41 | n => n, fun | 23 => 51 | 26 => 9 | 3 => 52 | 28 => 55 | 0 => 0 | 27 => 54 | 33 => 42 | 4 => 4 | n => n, fun | n => n⟩
theorem Tryz.keysA : Go.Proofs.SlLaysZ.n7 Tryz.prog Tryz.keysA_ren := {
  mixed := by kernel_rfl
  f7 := ⟨Tryz.f27.name, by decide, Tryz.func27.trans (congrArg some (by kernel_rfl))⟩
  f10 := ⟨Tryz.f41.name, by decide, Tryz.func41.trans (congrArg some (by kernel_rfl))⟩
  t0 := Tryz.underlying0
  a0 := Tryz.isAgg0
  z0 := Tryz.sizeOf0
  v0 := Tryz.zeroValue0
  t4 := Tryz.underlying4
  a4 := Tryz.isAgg4
  z4 := Tryz.sizeOf4
  v4 := Tryz.zeroValue4
  t23 := Tryz.underlying51
  a23 := Tryz.isAgg51
  z23 := Tryz.sizeOf51
  v23 := Tryz.zeroValue51
  t26 := Tryz.underlying9
  a26 := Tryz.isAgg9
  z26 := Tryz.sizeOf9
  v26 := Tryz.zeroValue9
  t27 := Tryz.underlying54
  a27 := Tryz.isAgg54
  z27 := Tryz.sizeOf54
  v27 := Tryz.zeroValue54
  t28 := Tryz.underlying55
  a28 := Tryz.isAgg55
  z28 := Tryz.sizeOf55
  v28 := Tryz.zeroValue55
  t33 := Tryz.underlying42
  a33 := Tryz.isAgg42
  z33 := Tryz.sizeOf42
  v33 := Tryz.zeroValue42 }
def Tryz.sortedA_ren : Go.Shelf.Ren := ⟨fun | 6 => 26 | 8 => 39 | 9 => 40 | 11 => 57 | 13 => 59 | 12 => 58 | 23 => 93 | 24 => 94 | 14 => 84 | 15 => 85 | 16 => 86 | 17 => 87 | 18 => 88 | 19 => 89 | 20 => 90 | 21 => 91 | 22 => 92 | 25 => 111 | 26 => 112 | 27 => 113 | 28 => 114 | 29 => 115 | 30 => 116 | 31 => 130 | n => n, fun | 26 => 9 | 28 => 55 | 24 => 22 | 0 => 0 | 3 => 3 | 37 => 85 | 48 => 126 | 50 => 101 | 4 => 4 | 40 => 118 | 39 => 117 | 45 => 123 | 5 => 5 | 9 => 9 | 51 => 148 | 55 => 152 | 57 => 160 | 58 => 161 | 33 => 42 | n => n, fun | n => n⟩
theorem Tryz.sortedA : Go.Proofs.SlLaysZ.n6 Tryz.prog Tryz.sortedA_ren := {
  mixed := by kernel_rfl
  f6 := ⟨Tryz.f26.name, by decide, Tryz.func26.trans (congrArg some (by kernel_rfl))⟩
  f8 := ⟨Tryz.f39.name, by decide, Tryz.func39.trans (congrArg some (by kernel_rfl))⟩
  f11 := ⟨Tryz.f57.name, by decide, Tryz.func57.trans (congrArg some (by kernel_rfl))⟩
  t0 := Tryz.underlying0
  a0 := Tryz.isAgg0
  z0 := Tryz.sizeOf0
  v0 := Tryz.zeroValue0
  t24 := Tryz.underlying22
  a24 := Tryz.isAgg22
  z24 := Tryz.sizeOf22
  v24 := Tryz.zeroValue22
  t26 := Tryz.underlying9
  a26 := Tryz.isAgg9
  z26 := Tryz.sizeOf9
  v26 := Tryz.zeroValue9
  t28 := Tryz.underlying55
  a28 := Tryz.isAgg55
  z28 := Tryz.sizeOf55
  v28 := Tryz.zeroValue55
  i26 := by kernel_rfl }
def Tryz.sortA_ren : Go.Shelf.Ren := ⟨fun | 6 => 40 | 8 => 59 | 9 => 58 | 19 => 93 | 20 => 94 | 21 => 84 | 22 => 85 | 23 => 86 | 24 => 87 | 25 => 88 | 26 => 89 | 27 => 90 | 28 => 91 | 29 => 92 | 36 => 111 | 31 => 112 | 32 => 113 | 37 => 114 | 38 => 115 | 39 => 116 | 41 => 130 | n => n, fun | 27 => 22 | 29 => 9 | 3 => 3 | 32 => 85 | 26 => 22 | 0 => 0 | 44 => 126 | 46 => 101 | 4 => 4 | 36 => 118 | 35 => 117 | 41 => 123 | 5 => 5 | 9 => 9 | 53 => 148 | 57 => 152 | 63 => 160 | 64 => 161 | n => n, fun | n => n⟩
theorem Tryz.sortA : Go.Proofs.SlLaysM.n6 Tryz.prog Tryz.sortA_ren := {
  mixed := by kernel_rfl
  f6 := ⟨Tryz.f40.name, by decide, Tryz.func40.trans (congrArg some (by kernel_rfl))⟩
  f8 := Tryz.func59.trans (congrArg some (by kernel_rfl))
  f9 := ⟨Tryz.f58.name, by decide, Tryz.func58.trans (congrArg some (by kernel_rfl))⟩
  f19 := Tryz.func93.trans (congrArg some (by kernel_rfl))
  f20 := Tryz.func94.trans (congrArg some (by kernel_rfl))
  f21 := ⟨Tryz.f84.name, by decide, Tryz.func84.trans (congrArg some (by kernel_rfl))⟩
  f22 := ⟨Tryz.f85.name, by decide, Tryz.func85.trans (congrArg some (by kernel_rfl))⟩
  f23 := ⟨Tryz.f86.name, by decide, Tryz.func86.trans (congrArg some (by kernel_rfl))⟩
  f24 := ⟨Tryz.f87.name, by decide, Tryz.func87.trans (congrArg some (by kernel_rfl))⟩
  f25 := ⟨Tryz.f88.name, by decide, Tryz.func88.trans (congrArg some (by kernel_rfl))⟩
  f26 := ⟨Tryz.f89.name, by decide, Tryz.func89.trans (congrArg some (by kernel_rfl))⟩
  f27 := ⟨Tryz.f90.name, by decide, Tryz.func90.trans (congrArg some (by kernel_rfl))⟩
  f28 := ⟨Tryz.f91.name, by decide, Tryz.func91.trans (congrArg some (by kernel_rfl))⟩
  f29 := ⟨Tryz.f92.name, by decide, Tryz.func92.trans (congrArg some (by kernel_rfl))⟩
  f31 := Tryz.func112.trans (congrArg some (by kernel_rfl))
  f32 := Tryz.func113.trans (congrArg some (by kernel_rfl))
  f36 := ⟨Tryz.f111.name, by decide, Tryz.func111.trans (congrArg some (by kernel_rfl))⟩
  f37 := ⟨Tryz.f114.name, by decide, Tryz.func114.trans (congrArg some (by kernel_rfl))⟩
  f38 := ⟨Tryz.f115.name, by decide, Tryz.func115.trans (congrArg some (by kernel_rfl))⟩
  f39 := ⟨Tryz.f116.name, by decide, Tryz.func116.trans (congrArg some (by kernel_rfl))⟩
  f41 := ⟨Tryz.f130.name, by decide, Tryz.func130.trans (congrArg some (by kernel_rfl))⟩
  t0 := Tryz.underlying0
  a0 := Tryz.isAgg0
  z0 := Tryz.sizeOf0
  v0 := Tryz.zeroValue0
  t3 := Tryz.underlying3
  a3 := Tryz.isAgg3
  z3 := Tryz.sizeOf3
  v3 := Tryz.zeroValue3
  t4 := Tryz.underlying4
  a4 := Tryz.isAgg4
  z4 := Tryz.sizeOf4
  v4 := Tryz.zeroValue4
  t5 := Tryz.underlying5
  a5 := Tryz.isAgg5
  z5 := Tryz.sizeOf5
  v5 := Tryz.zeroValue5
  t9 := Tryz.underlying9
  a9 := Tryz.isAgg9
  z9 := Tryz.sizeOf9
  v9 := Tryz.zeroValue9
  t26 := Tryz.underlying22
  a26 := Tryz.isAgg22
  z26 := Tryz.sizeOf22
  v26 := Tryz.zeroValue22
  t27 := Tryz.underlying22
  a27 := Tryz.isAgg22
  z27 := Tryz.sizeOf22
  v27 := Tryz.zeroValue22
  t29 := Tryz.underlying9
  a29 := Tryz.isAgg9
  z29 := Tryz.sizeOf9
  v29 := Tryz.zeroValue9
  t32 := Tryz.underlying85
  a32 := Tryz.isAgg85
  z32 := Tryz.sizeOf85
  v32 := Tryz.zeroValue85
  t35 := Tryz.underlying117
  a35 := Tryz.isAgg117
  z35 := Tryz.sizeOf117
  v35 := Tryz.zeroValue117
  t36 := Tryz.underlying118
  a36 := Tryz.isAgg118
  z36 := Tryz.sizeOf118
  v36 := Tryz.zeroValue118
  t41 := Tryz.underlying123
  a41 := Tryz.isAgg123
  z41 := Tryz.sizeOf123
  v41 := Tryz.zeroValue123
  t44 := Tryz.underlying126
  a44 := Tryz.isAgg126
  z44 := Tryz.sizeOf126
  v44 := Tryz.zeroValue126
  t46 := Tryz.underlying101
  a46 := Tryz.isAgg101
  z46 := Tryz.sizeOf101
  v46 := Tryz.zeroValue101
  t53 := Tryz.underlying148
  a53 := Tryz.isAgg148
  z53 := Tryz.sizeOf148
  v53 := Tryz.zeroValue148
  t57 := Tryz.underlying152
  a57 := Tryz.isAgg152
  z57 := Tryz.sizeOf152
  v57 := Tryz.zeroValue152
  t63 := Tryz.underlying160
  a63 := Tryz.isAgg160
  z63 := Tryz.sizeOf160
  v63 := Tryz.zeroValue160
  t64 := Tryz.underlying161
  a64 := Tryz.isAgg161
  z64 := Tryz.sizeOf161
  v64 := Tryz.zeroValue161 }
def Tryz.lays156_ren : Go.Shelf.Ren := ⟨fun | 156 => 47 | 165 => 67 | 166 => 68 | 169 => 69 | 240 => 102 | 241 => 103 | 276 => 120 | 277 => 121 | n => n, fun | 31 => 22 | 9 => 9 | 3 => 3 | 4 => 4 | 0 => 0 | 20 => 20 | 72 => 94 | 76 => 98 | 70 => 92 | 37 => 38 | 75 => 97 | 127 => 137 | 164 => 158 | 5 => 5 | 80 => 100 | n => n, fun | n => n⟩
theorem Tryz.lays156 : Go.Proofs.Lays.n156 Tryz.prog Tryz.lays156_ren := {
  mixed := by kernel_rfl
  f156 := Tryz.func47.trans (congrArg some (by kernel_rfl))
  f165 := Tryz.func67.trans (congrArg some (by kernel_rfl))
  f166 := Tryz.func68.trans (congrArg some (by kernel_rfl))
  f169 := Tryz.func69.trans (congrArg some (by kernel_rfl))
  f240 := Tryz.func102.trans (congrArg some (by kernel_rfl))
  f241 := Tryz.func103.trans (congrArg some (by kernel_rfl))
  f276 := Tryz.func120.trans (congrArg some (by kernel_rfl))
  f277 := Tryz.func121.trans (congrArg some (by kernel_rfl))
  t0 := Tryz.underlying0
  a0 := Tryz.isAgg0
  z0 := Tryz.sizeOf0
  v0 := Tryz.zeroValue0
  t3 := Tryz.underlying3
  a3 := Tryz.isAgg3
  z3 := Tryz.sizeOf3
  v3 := Tryz.zeroValue3
  t4 := Tryz.underlying4
  a4 := Tryz.isAgg4
  z4 := Tryz.sizeOf4
  v4 := Tryz.zeroValue4
  t9 := Tryz.underlying9
  a9 := Tryz.isAgg9
  z9 := Tryz.sizeOf9
  v9 := Tryz.zeroValue9
  t20 := Tryz.underlying20
  a20 := Tryz.isAgg20
  z20 := Tryz.sizeOf20
  v20 := Tryz.zeroValue20
  t31 := Tryz.underlying22
  a31 := Tryz.isAgg22
  z31 := Tryz.sizeOf22
  v31 := Tryz.zeroValue22
  t37 := Tryz.underlying38
  a37 := Tryz.isAgg38
  z37 := Tryz.sizeOf38
  v37 := Tryz.zeroValue38
  t70 := Tryz.underlying92
  a70 := Tryz.isAgg92
  z70 := Tryz.sizeOf92
  v70 := Tryz.zeroValue92
  t72 := Tryz.underlying94
  a72 := Tryz.isAgg94
  z72 := Tryz.sizeOf94
  v72 := Tryz.zeroValue94
  t75 := Tryz.underlying97
  a75 := Tryz.isAgg97
  z75 := Tryz.sizeOf97
  v75 := Tryz.zeroValue97
  t76 := Tryz.underlying98
  a76 := Tryz.isAgg98
  z76 := Tryz.sizeOf98
  v76 := Tryz.zeroValue98
  t127 := Tryz.underlying137
  a127 := Tryz.isAgg137
  z127 := Tryz.sizeOf137
  v127 := Tryz.zeroValue137
  t164 := Tryz.underlying158
  a164 := Tryz.isAgg158
  z164 := Tryz.sizeOf158
  v164 := Tryz.zeroValue158 }
theorem Tryz.bldExtra : Builder.Extra Tryz.prog Tryz.lays156_ren := {
  sizeBuilder := by kernel_rfl
  liesBuilder := by kernel_rfl
  t5 := Tryz.underlying5
  a5 := Tryz.isAgg5
  z5 := Tryz.sizeOf5
  v5 := Tryz.zeroValue5
  infoByte := by kernel_rfl
  cellsByte := by kernel_rfl
  sizeByte := by kernel_rfl
  neB5 := by decide }
end Go.Proofs

/- texts' own contract of Words: a set of texts; its keys, sorted (maps.Keys, slices.Sorted of the library). -/









namespace Go.Proofs.YtblpkmmhmdpkjaaGreatDoor

open Go.RowKit Go.Maps Go.Sort Go.Shelf

theorem jsorts (m : Nat) : AnyZ.SortsIn Tryz.prog Tryz.sortedA_ren Fence.wide m :=
  ⟨fun blk off cap ss W hH hblk hsz => callsIn_wide.2 (AnyM.slices_Sort_string Tryz.sortA blk off cap ss W hH hblk hsz),
   fun p cap W => callsIn_wide.2 (AnyM.slices_Sort_string_none Tryz.sortA p cap W)⟩
theorem jkeys_any (mb : Option Nat) (W : World) : Calls Tryz.prog 27 #[.map mb] W fun e w' => e = .returned (.func (.func 41) #[] #[.pointer (some ⟨W.heap.size, 0, none⟩)]) ∧ w' = W.alloc (.cells #[.map mb] 51) :=
  (callsIn_wide (n := 5)).1 (AnyZ.keys_in Tryz.keysA Fence.wide 5 trivial rfl mb W)
theorem Tryz.keyS : Keyed Tryz.prog 9 := string_keyed Tryz.underlying9
theorem jsorted_any (l : List ByteArray) (b nn : Nat) (w : World) (hown : w.ownsMap Tryz.prog 9 unitElem b nn (jset l)) (hn : nn ≤ 1000000) :
    Calls Tryz.prog 26 #[.func (.func 41) #[] #[.pointer (some ⟨w.heap.size, 0, none⟩)]] (w.alloc (.cells #[.map (some b)] 51)) fun e w' =>
      ∃ v n, e = .returned v ∧ w'.ownsRow w.heap.size 9 1 v n ((jwords l).map Value.string) ∧ Below w.heap.size w w' := by
  have hbl := hown.lt
  have hsz : Maps.size (jset l) ≤ nn := hown.size_le
  have hkeys : ∃ es, jset l = .map es ∧ ∀ p ∈ es, ∃ x, p.1 = .string x := by
    obtain ⟨es, he, hk⟩ := hown.keysOf
    refine ⟨es, he, fun p hp => ?_⟩
    obtain ⟨key, hkey⟩ := hk p hp
    obtain ⟨x, _, hx, _⟩ := Maps.keyOf_str Tryz.underlying9 hkey
    exact ⟨x, hx⟩
  have hseq : SeqGives Fence.wide 2 Tryz.prog 41 #[.pointer (some ⟨w.heap.size, 0, none⟩)] encStr (fun ss => ss.Perm (strKeys (jset l))) (Maps.size (jset l)) (w.alloc (.cells #[.map (some b)] 51)) :=
    AnyZ.keys_gives (ρ := Tryz.keysA_ren) { Tryz.keysA with } Fence.wide _ trivial rfl (by omega) w.heap.size b nn (jset l) _ (by simp) (by simp) (by
      obtain ⟨es, clock, hb, Ft, hs, hD⟩ := hown
      exact ⟨es, clock, (Below.heap_alloc _ _ b hbl).trans hb, Ft, hs, hD⟩)
  have cS := AnyZ.sorted_in Tryz.sortedA Fence.wide 5 trivial trivial trivial trivial rfl (by omega) (jsorts _) (enters_of Tryz.func40 (by kernel_rfl) rfl) 41 #[.pointer (some ⟨w.heap.size, 0, none⟩)] trivial (enters_of Tryz.func41 (by kernel_rfl) rfl) _ _ (by unfold maxLen; omega) (by omega) _ hseq
  refine (callsIn_wide.1 cS).mono ?_
  rintro e w' ⟨v, ss, rfl, hS, hrow, _, hb⟩
  rw [words_of hS hkeys] at hrow
  exact ⟨v, _, rfl, ownsRow_base_a hrow (by simp), ((Below.refl _ w).alloc (Nat.le_refl _) _).trans (hb.mono (by simp))⟩
def JWRel (l : List ByteArray) (w : World) (i : Value) (wr : World) : Prop :=
  ∃ k : Nat, k ≤ l.length ∧ i = .int .i64 (k : Int) ∧ wr.ownsMap Tryz.prog 9 unitElem w.heap.size k (jset (l.take k)) ∧ Below w.heap.size w wr
set_option maxHeartbeats 1000000 in
set_option maxRecDepth 100000 in
theorem jwords_own (l : List ByteArray) (v : Value) (w : World) (hv : IsV Value.string l v w) (hs : ∀ s ∈ l, s.size ≤ maxLen) (hb : l.length ≤ 1000000) : Calls Tryz.prog 14 #[v] w (RetTO w (jwords l)) := by
  obtain ⟨A, n, c, rfl⟩ := hv.shape
  have HN := Lib.hid hv.parts.1
  have HV := Lib.hid hv
  have HS := Lib.hid hs
  have hn6 : n ≤ 1000000 := by have := HN.out; omega
  have hst : JWRel l w (.int .i64 0) (w.alloc (.map #[] 0)) := ⟨0, Nat.zero_le _, rfl, World.ownsMap_made _ _ _ _, (Below.refl _ _).alloc (Nat.le_refl _) _⟩
  have HST := Lib.hid hst
  have hmm := @run_makeMap Tryz.prog
  clear hv hb hs hst
  go_enter Tryz.func14, Tryz.ntmps14
  go_wp2
  go_loopw [9] (JWRel l w) (fun i _ => n - (intOf i).toNat)
  case atStart => exact HST.out
  case round =>
    obtain ⟨k, hk, rfl, hown, hbw⟩ := hrel
    clear HST hmm
    have hkn : k ≤ n := by have := HN.out; omega
    have hz := hbw.size
    by_cases hlt : k < n
    · have hkl : k < l.length := by have := HN.out; omega
      have hlti : (k : Int) < (n : Int) := by omega
      obtain ⟨ad, rfl, had, hcell⟩ := (HV.out.below hbw).at hkl
      obtain ⟨x, hx⟩ : ∃ x, x = l[k] := ⟨_, rfl⟩
      rw [← hx] at hcell
      have hkey : keyOf Tryz.prog 9 (.string x) = some (jkey x) := Go.WideMaps.keyOf_string_mk Tryz.underlying9 (by rw [hx]; exact HS.out _ (List.getElem_mem hkl))
      have HNX := Lib.hid (jset_next hkl)
      rw [← hx] at HNX
      clear hx had
      go_wp2_with (first | (at_mapUpdate; refine wpList_mapUpdate_own _ rfl _ _ _ 51 rfl 9 52 Tryz.keyS Tryz.underlying51 unitElem w.heap.size k _ rfl hown (by unfold maxLen; omega) _ _ _ rfl rfl hkey _ [] unitElem_mk ?_) | go_in)
      intro w1 hown1 hgrow1
      have HO := Lib.hid hown1
      rw [← HNX.out] at HO
      have HB := Lib.hid (hbw.grown hgrow1 hz (fun j hj => by cases hj; exact Nat.le_refl _))
      clear hown1 hgrow1 hown hcell
      go_wp2
      go_roundw
      case rel => exact ⟨k + 1, hkl, by go_num, HO.out, HB.out⟩
      case measure => simp [intOf]; omega
    · obtain rfl : k = n := by omega
      have hlti : ¬ (k : Int) < (k : Int) := by omega
      have HT := Lib.hid (show l.take k = l from List.take_of_length_le (by have := HN.out; omega))
      rw [HT.out] at hown
      have HSO := Lib.hid (jsorted_any l w.heap.size k wr hown hn6)
      have HBW := Lib.hid hbw
      clear hown hbw
      go_wp2_with fail
      refine (jkeys_any _ _).mono ?_
      rintro e w' ⟨rfl, rfl⟩
      go_wp2_with fail
      refine HSO.out.mono ?_
      rintro e w2 ⟨v2, m, rfl, hrow, hb2⟩
      have HR := Lib.hid (show OwnV Value.string 9 w (jwords l) v2 w2 from ⟨m, ownsRow_base_a hrow (by omega)⟩)
      have HB2 := Lib.hid (below_then HBW.out hb2)
      clear hrow hb2
      go_wp2
      go_ret
      exact ⟨_, rfl, HR.out, HB2.out⟩
end Go.Proofs.YtblpkmmhmdpkjaaGreatDoor

/- texts' own contracts: size; layDictionary's closure; row, with each of the two; joined (strings.Join of the library). Written by gen_jrow.py. -/









namespace Go.Proofs.YtblpkmmhmdpkjaaGreatDoor

open Go.RowKit Go.Maps

theorem jsize_any (s : ByteArray) (w : World) : Calls Tryz.prog 35 #[.string s] w fun e w' => e = .returned (.int .i64 (s.size : Int)) ∧ w = w' := by
  go_enter Tryz.func35, Tryz.ntmps35
  go_wp2
  go_ret
  exact ⟨rfl, rfl⟩
theorem zeroI (w : World) : (zeroValue 3).run Tryz.prog w = .ok (.int .i64 0) w := by kernel_rfl
/-- The map of words to places lies in the variable at block b, itself in block B. -/
structure PlaceMap (ws : List ByteArray) (b B : Nat) (w : World) : Prop where
  box : Row w b 67 [.map (some B)]
  own : w.ownsMap Tryz.prog 9 (plainElem Tryz.prog 3) B ws.length (jmap ws ws.length)
theorem PlaceMap.below {ws : List ByteArray} {b B : Nat} {w w' : World} (h : PlaceMap ws b B w) (hb : Below w.heap.size w w') : PlaceMap ws b B w' := by
  refine ⟨h.box.below hb h.box.lt, ?_⟩
  have hlt := h.own.lt
  obtain ⟨es, clock, h1, r⟩ := h.own
  exact ⟨es, clock, (hb.block B hlt).trans h1, r⟩
theorem jplace1_any (ws : List ByteArray) (s : ByteArray) (b B : Nat) (w : World) (hm : PlaceMap ws b B w) (hr : Rises ws) (hs : s ∈ ws) (hz : s.size ≤ maxLen) :
    Calls Tryz.prog 36 #[.string s, .pointer (some ⟨b, 0, none⟩)] w fun e w' => e = .returned (.int .i64 (jplace ws s : Int)) ∧ w = w' := by
  obtain ⟨c, hrun, hat, _⟩ := hm.own.lookup_int Tryz.keyS Tryz.underlying67 Tryz.underlying3 (zeroI _) (Go.WideMaps.keyOf_string_mk Tryz.underlying9 hz)
  have hj := jmap_place hr hs (.lit (.int .i64 0))
  unfold jkey at hj
  rw [hj] at hat
  injection hat with hat
  injection hat with _ hat
  subst hat
  have hc : w.cell? ⟨b, 0, none⟩ = some (.map (some B)) := hm.box.cell 0
  clear hj hm hr hs hz
  go_enter Tryz.func36, Tryz.ntmps36
  go_wp2
  go_ret
  exact ⟨rfl, rfl⟩
theorem jset_take {α : Type} (o : List α) (k : Nat) (x : α) (h : k < o.length) : (o.set k x).take (k + 1) = o.take k ++ [x] := by
  rw [List.take_succ_eq_append_getElem (by simpa using h), List.take_set_of_le (Nat.le_refl _)]
  simp
def JRowRel (T : List Int) (m g : Nat) (w : World) (i : Value) (wr : World) : Prop :=
  ∃ (k : Nat) (o : List Int), k ≤ m ∧ i = .int .i64 (k : Int) ∧ o.length = m ∧ o.take k = T.take k ∧ Row wr g 3 (o.map iv) ∧ Below g w wr
set_option maxHeartbeats 2000000 in
set_option maxRecDepth 100000 in
theorem jrowsize_any (l : List ByteArray) (v : Value) (w : World) (ht : WTab w) (hv : IsV Value.string l v w) (hb : l.length ≤ 4096) (hs : ∀ s ∈ l, s.size ≤ 300) :
    Calls Tryz.prog 34 #[v, .func (.func 35) #[] #[]] w fun e w' => ∃ u, e = .returned u ∧ IsB (uputE (jlens l) false).1 u w' ∧ Below w.heap.size w w' := by
  obtain ⟨A, n, c, rfl⟩ := hv.shape
  have HN := Lib.hid hv.parts.1
  have HV := Lib.hid hv
  have HT := Lib.hid ht
  have HSZ := Lib.hid hs
  have hn6 : n ≤ 4096 := by have := HN.out; omega
  obtain ⟨T, hT⟩ : ∃ T, T = (jlens l) := ⟨_, rfl⟩
  have HTL := Lib.hid (show T.length = n by rw [hT, jlens, List.length_map]; exact HN.out)
  have HTI := Lib.hid (show ∀ x ∈ T, inInt x by
    intro x hx
    rw [hT, jlens] at hx
    obtain ⟨s, h1, rfl⟩ := List.mem_map.1 hx
    have := hs s h1
    unfold inInt
    omega)
  have HTN := Lib.hid (show ∀ k, (hk : k < l.length) → T.take (k + 1) = T.take k ++ [(l[k].size : Int)] by
    intro k hk
    rw [List.take_succ_eq_append_getElem (by rw [HTL.out, ← HN.out]; exact hk)]
    simp [hT, jlens])
  rw [← hT]
  clear hv hb ht hs hT
  go_enter Tryz.func34, Tryz.ntmps34
  go_wp2_with (refine wpList_make elemI rfl _ _ rfl _ _ _ _ n w w.heap.size rfl rfl rfl rfl (by omega) (by omega) (Below.refl _ _) (Nat.le_refl _) ?_)
  intro w1 hr1 hb1
  have HST := Lib.hid (show JRowRel T n w.heap.size w (.int .i64 0) w1 from ⟨0, List.replicate n 0, by omega, rfl, by simp, by simp, by rw [List.map_replicate]; exact hr1, hb1⟩)
  clear hr1 hb1
  go_wp2
  go_loopw [15] (JRowRel T n w.heap.size w) (fun i _ => n - (intOf i).toNat)
  case atStart => exact HST.out
  case round =>
    obtain ⟨k, o, hk, rfl, ho, hok, hr, hbr⟩ := hrel
    clear HST
    have HO := Lib.hid ho
    have HOK := Lib.hid hok
    clear ho hok
    by_cases hlt : k < n
    · have hkl : k < l.length := by have := HN.out; omega
      have hlti : (k : Int) < (n : Int) := by omega
      obtain ⟨ad, rfl, had, hcell⟩ := (HV.out.below hbr).at hkl
      obtain ⟨x, hx⟩ : ∃ x, x = l[k] := ⟨_, rfl⟩
      rw [← hx] at hcell
      have hxm : x ∈ l := by rw [hx]; exact List.getElem_mem hkl
      have HTK := Lib.hid (HTN.out k hkl)
      rw [← hx] at HTK
      have hko : k < o.length := by have := HO.out; omega
      have hcx : wr.cell? ⟨w.heap.size, k, none⟩ = some (iv o[k]) := by rw [hr.cell, List.getElem?_map, List.getElem?_eq_getElem hko]; rfl
      have hfx := hr.free k
      have HCL := Lib.hid (jsize_any x wr)
      have hr2 := hr.set_ k (iv (x.size : Int))
      rw [show (o.map iv).set k (iv (x.size : Int)) = (o.set k (x.size : Int)).map iv from List.map_set.symm] at hr2
      have HR2 := Lib.hid hr2
      have HBR := Lib.hid hbr
      clear hr2 hr hx hxm had hbr
      go_wp2_with fail
      refine HCL.out.mono ?_
      rintro e w2 ⟨rfl, rfl⟩
      go_wp2
      go_roundw
      case rel =>
        refine ⟨k + 1, o.set k (x.size : Int), by omega, by go_num, by rw [List.length_set]; exact HO.out, ?_, HR2.out, HBR.out.setCell (Nat.le_refl _) _⟩
        rw [jset_take _ _ _ hko, HOK.out, HTK.out]
      case measure => simp [intOf]; omega
    · obtain rfl : k = n := by omega
      have hlti : ¬ (k : Int) < (k : Int) := by omega
      have hT2 : o = T := by
        have h1 := HOK.out
        rw [List.take_of_length_le (by rw [HO.out]; omega), List.take_of_length_le (by rw [HTL.out]; omega)] at h1
        exact h1
      subst hT2
      have HI := Lib.hid (isV_row (f := iv) hr HO.out (by omega))
      have HBR := Lib.hid (hbr.mono (Nat.le_refl _))
      have HTT := Lib.hid (HT.out.below hbr HT.out.lt)
      have HU := Lib.hid (uput_any o _ false wr HTT.out HI.out HTI.out (by rw [HO.out]; omega))
      clear hr hbr
      go_wp2_with fail
      refine HU.out.mono ?_
      rintro e w2 ⟨u, rfl, hu, hb2⟩
      have HB := Lib.hid hu
      have HB2 := Lib.hid (below_then HBR.out hb2)
      clear hu hb2
      go_wp2
      go_ret
      exact ⟨_, rfl, HB.out, HB2.out⟩
set_option maxHeartbeats 2000000 in
set_option maxRecDepth 100000 in
theorem jrowplace_any (ws l : List ByteArray) (b B : Nat) (v : Value) (w : World) (ht : WTab w) (hv : IsV Value.string l v w) (hb : l.length ≤ 4096) (hs : ∀ s ∈ l, s.size ≤ 300) (hpm : PlaceMap ws b B w) (hri : Rises ws) (hmm : ∀ s ∈ l, s ∈ ws) (hwl : ws.length ≤ 4096) :
    Calls Tryz.prog 34 #[v, .func (.func 36) #[] #[.pointer (some ⟨b, 0, none⟩)]] w fun e w' => ∃ u, e = .returned u ∧ IsB (uputE (jplaces ws l) false).1 u w' ∧ Below w.heap.size w w' := by
  obtain ⟨A, n, c, rfl⟩ := hv.shape
  have HN := Lib.hid hv.parts.1
  have HV := Lib.hid hv
  have HT := Lib.hid ht
  have HSZ := Lib.hid hs
  have hn6 : n ≤ 4096 := by have := HN.out; omega
  have HPM := Lib.hid hpm
  have HRI := Lib.hid hri
  have HMM := Lib.hid hmm
  have HWL := Lib.hid hwl
  obtain ⟨T, hT⟩ : ∃ T, T = (jplaces ws l) := ⟨_, rfl⟩
  have HTL := Lib.hid (show T.length = n by rw [hT, jplaces, List.length_map]; exact HN.out)
  have HTI := Lib.hid (show ∀ x ∈ T, inInt x by
    intro x hx
    rw [hT, jplaces] at hx
    obtain ⟨s, h1, rfl⟩ := List.mem_map.1 hx
    obtain ⟨h3, _⟩ := jplace_in (HMM.out s h1)
    have := HWL.out
    unfold inInt
    omega)
  have HTN := Lib.hid (show ∀ k, (hk : k < l.length) → T.take (k + 1) = T.take k ++ [(jplace ws l[k] : Int)] by
    intro k hk
    rw [List.take_succ_eq_append_getElem (by rw [HTL.out, ← HN.out]; exact hk)]
    simp [hT, jplaces])
  rw [← hT]
  clear hv hb ht hs hT hpm hri hmm hwl
  go_enter Tryz.func34, Tryz.ntmps34
  go_wp2_with (refine wpList_make elemI rfl _ _ rfl _ _ _ _ n w w.heap.size rfl rfl rfl rfl (by omega) (by omega) (Below.refl _ _) (Nat.le_refl _) ?_)
  intro w1 hr1 hb1
  have HST := Lib.hid (show JRowRel T n w.heap.size w (.int .i64 0) w1 from ⟨0, List.replicate n 0, by omega, rfl, by simp, by simp, by rw [List.map_replicate]; exact hr1, hb1⟩)
  clear hr1 hb1
  go_wp2
  go_loopw [15] (JRowRel T n w.heap.size w) (fun i _ => n - (intOf i).toNat)
  case atStart => exact HST.out
  case round =>
    obtain ⟨k, o, hk, rfl, ho, hok, hr, hbr⟩ := hrel
    clear HST
    have HO := Lib.hid ho
    have HOK := Lib.hid hok
    clear ho hok
    by_cases hlt : k < n
    · have hkl : k < l.length := by have := HN.out; omega
      have hlti : (k : Int) < (n : Int) := by omega
      obtain ⟨ad, rfl, had, hcell⟩ := (HV.out.below hbr).at hkl
      obtain ⟨x, hx⟩ : ∃ x, x = l[k] := ⟨_, rfl⟩
      rw [← hx] at hcell
      have hxm : x ∈ l := by rw [hx]; exact List.getElem_mem hkl
      have HTK := Lib.hid (HTN.out k hkl)
      rw [← hx] at HTK
      have hko : k < o.length := by have := HO.out; omega
      have hcx : wr.cell? ⟨w.heap.size, k, none⟩ = some (iv o[k]) := by rw [hr.cell, List.getElem?_map, List.getElem?_eq_getElem hko]; rfl
      have hfx := hr.free k
      have HCL := Lib.hid (jplace1_any ws x b B wr (HPM.out.below hbr) HRI.out (HMM.out x hxm) (by have := HSZ.out x hxm; unfold maxLen; omega))
      obtain ⟨p, hp⟩ : ∃ p, p = jplace ws x := ⟨_, rfl⟩
      rw [← hp] at HCL HTK
      clear hp
      have hr2 := hr.set_ k (iv (p : Int))
      rw [show (o.map iv).set k (iv (p : Int)) = (o.set k (p : Int)).map iv from List.map_set.symm] at hr2
      have HR2 := Lib.hid hr2
      have HBR := Lib.hid hbr
      clear hr2 hr hx hxm had hbr
      go_wp2_with fail
      refine HCL.out.mono ?_
      rintro e w2 ⟨rfl, rfl⟩
      go_wp2
      go_roundw
      case rel =>
        refine ⟨k + 1, o.set k (p : Int), by omega, by go_num, by rw [List.length_set]; exact HO.out, ?_, HR2.out, HBR.out.setCell (Nat.le_refl _) _⟩
        rw [jset_take _ _ _ hko, HOK.out, HTK.out]
      case measure => simp [intOf]; omega
    · obtain rfl : k = n := by omega
      have hlti : ¬ (k : Int) < (k : Int) := by omega
      have hT2 : o = T := by
        have h1 := HOK.out
        rw [List.take_of_length_le (by rw [HO.out]; omega), List.take_of_length_le (by rw [HTL.out]; omega)] at h1
        exact h1
      subst hT2
      have HI := Lib.hid (isV_row (f := iv) hr HO.out (by omega))
      have HBR := Lib.hid (hbr.mono (Nat.le_refl _))
      have HTT := Lib.hid (HT.out.below hbr HT.out.lt)
      have HU := Lib.hid (uput_any o _ false wr HTT.out HI.out HTI.out (by rw [HO.out]; omega))
      clear hr hbr
      go_wp2_with fail
      refine HU.out.mono ?_
      rintro e w2 ⟨u, rfl, hu, hb2⟩
      have HB := Lib.hid hu
      have HB2 := Lib.hid (below_then HBR.out hb2)
      clear hu hb2
      go_wp2
      go_ret
      exact ⟨_, rfl, HB.out, HB2.out⟩
theorem join_bytes : ∀ l : List ByteArray, Lib.join (l.map (·.data.toList)) (⟨#[]⟩ : ByteArray).data.toList = jbytes l
  | [] => rfl
  | x :: l => by
    have h : ∀ r : List ByteArray, Lib.joinTail [] (r.map (·.data.toList)) = jbytes r := by
      intro r
      unfold Lib.joinTail jbytes
      rw [List.flatMap_def, List.map_map]
      congr 1
      refine List.map_congr_left fun y _ => ?_
      rw [ByteArray.toList_eq]
      rfl
    show Lib.join (x.data.toList :: l.map (·.data.toList)) [] = _
    rw [Lib.join_cons, h]
    unfold jbytes
    rw [List.flatMap_cons, ByteArray.toList_eq]
theorem isB_conv (s : ByteArray) (w : World) (e : TypeId) (hs : s.size ≤ maxLen) : IsB s.data.toList (.slice (some ⟨w.heap.size, 0, none⟩) s.size (grownCap w s.size 0 e)) (Lib.bytesWorld w e s) := by
  refine ⟨_, _, rfl, by simp, ?_, grownCap_le_maxLen _ _ _ _ hs, .inr ⟨_, rfl, by simp [Lib.bytesWorld_size], fun j u hu => ?_⟩⟩
  · show s.data.toList.length ≤ _
    rw [Array.length_toList]
    exact grownCap_ge _ _ _ _
  · rw [List.getElem?_map, Option.map_eq_some_iff] at hu
    obtain ⟨y, hy, rfl⟩ := hu
    have hj : j < s.size := by
      have h := (List.getElem?_eq_some_iff.1 hy).1
      rwa [Array.length_toList] at h
    have he : (⟨w.heap.size, 0, none⟩ : Addr).add j = ⟨w.heap.size, j, none⟩ := by unfold Addr.add; split <;> simp_all
    rw [he, Lib.bytesWorld_cell w e s j hj, List.getD_eq_getElem?_getD, hy]
    rfl
theorem below_conv (s : ByteArray) (w : World) (e : TypeId) : Below w.heap.size w (Lib.bytesWorld w e s) := ⟨rfl, rfl, rfl, by rw [Lib.bytesWorld_size]; omega, fun k hk => Lib.bytesWorld_at_old w e s k hk⟩
set_option maxHeartbeats 1000000 in
theorem jjoined_any (l : List ByteArray) (v : Value) (w : World) (hv : IsV Value.string l v w) (hb : l.length ≤ 4096) (hs : ∀ s ∈ l, s.size ≤ 300) :
    Calls Tryz.prog 33 #[v] w fun e w' => ∃ u, e = .returned u ∧ IsB (jbytes l) u w' ∧ Below w.heap.size w w' := by
  obtain ⟨A, n, c, rfl⟩ := hv.shape
  have hn := hv.parts.1
  have hjl : (jbytes l).length ≤ 300 * 4096 := Nat.le_trans (jbytes_len hs) (Nat.mul_le_mul_left _ hb)
  have hJ : Calls Tryz.prog 47 #[.slice A n c, .string ⟨#[]⟩] w fun e w' => e = .returned (.string ⟨(jbytes l).toArray⟩) ∧ Below w.heap.size w w' := by
    subst hn
    rcases Nat.eq_zero_or_pos l.length with h0 | h0
    · have hl : l = [] := List.eq_nil_of_length_eq_zero h0
      subst hl
      exact (Any.strings_Join_none Tryz.lays156 Tryz.bldExtra A c ⟨#[]⟩ w).mono fun e w' h => ⟨h.1, h.2 ▸ Below.refl _ _⟩
    · obtain ⟨ad, rfl, hlt, hc⟩ := hv.at h0
      have hsp := World.cell?_spot hc
      obtain ⟨g, o, sp⟩ := ad
      have hsp2 : sp = none := by simpa [Addr.add] using hsp
      subst hsp2
      have h := Any.strings_Join Tryz.lays156 Tryz.bldExtra g o c l ⟨#[]⟩ w (fun j x hx => by
        obtain ⟨hj, he⟩ := List.getElem?_eq_some_iff.1 hx
        obtain ⟨ad2, h1, _, h2⟩ := hv.at hj
        injection h1 with h1
        subst h1
        rw [← he]
        have e : (⟨g, o, none⟩ : Addr).add j = ⟨g, o + j, none⟩ := by unfold Addr.add; split <;> simp_all
        rw [← e]
        exact h2) hlt (by omega) hv.parts.2.2.1 (by rw [join_bytes]; omega)
      rw [join_bytes] at h
      exact h
  have HJ := Lib.hid hJ
  have hz : (⟨(jbytes l).toArray⟩ : ByteArray).size ≤ maxLen := by
    show (jbytes l).toArray.size ≤ maxLen
    rw [List.size_toArray]
    unfold maxLen
    omega
  obtain ⟨s, hse⟩ : ∃ s : ByteArray, s = ⟨(jbytes l).toArray⟩ := ⟨_, rfl⟩
  have hsl : s.data.toList = jbytes l := by rw [hse]
  rw [← hse] at HJ hz
  rw [← hsl]
  have HCV := Lib.hid (fun X : World => Lib.run_convert_string_bytes (P := Tryz.prog) X 9 38 5 s Tryz.underlying9 Tryz.underlying38 Tryz.underlying5)
  have HI := Lib.hid (fun X : World => isB_conv s X 5 hz)
  clear hv hb hs hJ hjl hn hse hsl hz
  go_enter Tryz.func33, Tryz.ntmps33
  go_wp2_with fail
  refine HJ.out.mono ?_
  rintro e w1 ⟨rfl, hb1⟩
  have hcv := HCV.out w1
  have HI1 := Lib.hid (HI.out w1)
  have HB := Lib.hid (below_then hb1 (below_conv s w1 5))
  obtain ⟨W, hW⟩ : ∃ W, W = Lib.bytesWorld w1 5 s := ⟨_, rfl⟩
  rw [← hW] at hcv HI1 HB
  clear hb1 hW
  go_wp2
  go_ret
  exact ⟨_, rfl, HI1.out, HB.out⟩
end Go.Proofs.YtblpkmmhmdpkjaaGreatDoor

/- texts' own contracts: Put's closure with slices.IndexFunc and slices.ContainsFunc; layPlain, layDictionary; Put. -/



namespace Go.Proofs.YtblpkmmhmdpkjaaGreatDoor

open Go.RowKit Go.Maps

theorem results_row1 {P : Program} {fn : Func} {p : Tmp} {ty : TypeId} (h : fn.results = #[.cell p ty]) (tmps : Array Value) (w : World) (g : Nat) (t : TypeId) (cs : Array Value) (fr : Nat × Nat) (d : TypeDesc)
    (hp : tmps.getD p undef = .pointer (some ⟨g, 0, none⟩)) (hg : w.heap[g]? = some (.cells cs t fr))
    (hu : P.underlying ty = some d) (hd : (match d with | .struct _ | .array _ _ => true | _ => false) = true) (hi : (P.info? ty).map (·.size) = some cs.size) :
    (results fn tmps).run P w = .ok (.agg cs) w := by
  have hp' : tmps[p]?.getD undef = Value.pointer (some ⟨g, 0, none⟩) := by simpa using hp
  simp only [results, h]
  simp [hp', asAddr, run_loadVar_row w g t ty cs fr d hg hu hd hi]
def jbig (s : ByteArray) : Bool := decide (300 < s.size)
theorem jbig_any (s : ByteArray) (w : World) : Calls Tryz.prog 20 #[.string s] w fun e w' => e = .returned (.bool (jbig s)) ∧ w = w' := by
  have hd : decide ((300 : Int) < (s.size : Int)) = jbig s := by unfold jbig; rw [decide_eq_decide]; omega
  obtain ⟨q, hq⟩ : ∃ q, q = jbig s := ⟨_, rfl⟩
  rw [← hq] at hd ⊢
  clear hq
  go_enter Tryz.func20, Tryz.ntmps20
  go_wp2
  go_ret
  exact ⟨rfl, rfl⟩
def JIdxRel (l : List ByteArray) (w : World) (i : Value) (wr : World) : Prop := ∃ k : Nat, k ≤ l.length ∧ i = .int .i64 (k : Int) ∧ (l.take k).any jbig = false ∧ wr = w
set_option maxHeartbeats 1000000 in
set_option maxRecDepth 100000 in
theorem jindex_any (l : List ByteArray) (v : Value) (w : World) (hv : IsV Value.string l v w) (hb : l.length ≤ 1000000) :
    Calls Tryz.prog 32 #[v, .func (.func 20) #[] #[]] w
      fun e w' => (∃ r : Int, e = .returned (.int .i64 r) ∧ decide (0 ≤ r) = l.any jbig) ∧ w = w' := by
  obtain ⟨A, n, c, rfl⟩ := hv.shape
  have HN := Lib.hid hv.parts.1
  have HV := Lib.hid hv
  have hn6 : n ≤ 1000000 := by have := HN.out; omega
  clear hv hb
  go_enter Tryz.func32, Tryz.ntmps32
  go_wp2
  go_loopw [8] (JIdxRel l w) (fun i _ => n - (intOf i).toNat)
  case atStart => exact ⟨0, Nat.zero_le _, rfl, rfl, rfl⟩
  case round =>
    obtain ⟨k, hk, rfl, hs, hw⟩ := hrel
    subst hw
    have HSM := Lib.hid hs
    have hkn : k ≤ n := by have := HN.out; omega
    clear hs hk
    by_cases hlt : k < n
    · have hkl : k < l.length := by have := HN.out; omega
      have hlti : (k : Int) < (n : Int) := by omega
      obtain ⟨ad, rfl, had, hcell⟩ := HV.out.at hkl
      obtain ⟨x, hx⟩ : ∃ x, x = l[k] := ⟨_, rfl⟩
      rw [← hx] at hcell
      have hxm : x ∈ l := by rw [hx]; exact List.getElem_mem hkl
      have HL := Lib.hid (jbig_any x wr)
      have HSN := Lib.hid (show (l.take (k + 1)).any jbig = jbig x by rw [List.take_succ_eq_append_getElem hkl, List.any_append, HSM.out, hx]; simp)
      have HAL := Lib.hid (show jbig x = true → l.any jbig = true from fun h => List.any_eq_true.2 ⟨x, hxm, h⟩)
      clear hx hxm had
      generalize hq : jbig x = p at HL HSN HAL
      clear hq
      cases p with
      | true =>
        have HA := Lib.hid (HAL.out rfl)
        go_wp2_with fail
        refine HL.out.mono ?_
        rintro e w1 ⟨rfl, rfl⟩
        go_wp2
        go_ret
        exact ⟨⟨_, rfl, by rw [HA.out]; exact decide_eq_true (by omega)⟩, rfl⟩
      | false =>
        go_wp2_with fail
        refine HL.out.mono ?_
        rintro e w1 ⟨rfl, rfl⟩
        go_wp2
        go_roundw
        case rel => exact ⟨k + 1, hkl, by go_num, HSN.out, rfl⟩
        case measure => simp [intOf]; omega
    · obtain rfl : k = n := by omega
      have hlti : ¬ (k : Int) < (k : Int) := by omega
      have HA := Lib.hid HSM.out
      rw [List.take_of_length_le (by have := HN.out; omega)] at HA
      go_wp2
      go_ret
      exact ⟨⟨_, rfl, by rw [HA.out]; rfl⟩, rfl⟩
theorem jcontains_any (l : List ByteArray) (v : Value) (w : World) (hv : IsV Value.string l v w) (hb : l.length ≤ 1000000) :
    Calls Tryz.prog 19 #[v, .func (.func 20) #[] #[]] w
      fun e w' => e = .returned (.bool (l.any jbig)) ∧ w = w' := by
  have HI := Lib.hid (jindex_any l v w hv hb)
  clear hv hb
  go_enter Tryz.func19, Tryz.ntmps19
  go_wp2_with fail
  refine HI.out.mono ?_
  rintro e w1 ⟨⟨r, rfl, hr⟩, rfl⟩
  go_wp2
  go_ret
  exact ⟨rfl, rfl⟩
/-- A column that a call answers, its streams in a block that the call made. -/
def RetCol (w : World) (c : JC) (e : Ending) (w' : World) : Prop := ∃ k n m, e = .returned (colv c (.slice (some ⟨k, 0, none⟩) n m)) ∧ w.heap.size ≤ k ∧ IsCol c (colv c (.slice (some ⟨k, 0, none⟩) n m)) w' ∧ Below w.heap.size w w'
theorem IsCol.laid {c : JC} {A : Option Addr} {n k : Nat} {w : World} (h : IsCol c (colv c (.slice A n k)) w) : ∃ L : List (Int × List UInt8 × Value), IsR scells L (.slice A n k) w ∧ (∀ p ∈ L, IsB p.2.1 p.2.2 w) ∧ c.streams = L.map (fun p => (p.1, p.2.1)) := by
  obtain ⟨L, s, h1, h, h3, h2⟩ := h
  unfold colv at h1
  simp only [Value.agg.injEq, Array.mk.injEq, List.cons.injEq] at h1
  have h4 := h1.2.2.2.1
  rw [← h4] at h
  exact ⟨L, h, h3, h2⟩
set_option maxHeartbeats 2000000 in
set_option maxRecDepth 100000 in
theorem jlayplain_any (l : List ByteArray) (v : Value) (w : World) (ht : WTab w) (hv : IsV Value.string l v w) (hb : l.length ≤ 4096) (hs : ∀ s ∈ l, s.size ≤ 300) :
    Calls Tryz.prog 21 #[v] w (RetCol w ⟨(l.length : Int), 1, 0, [(2, jbytes l), (3, (uputE (jlens l) false).1)]⟩) := by
  obtain ⟨w0, hw0⟩ : ∃ w0, w0 = w.alloc (.cells #[.int .i64 0, .int .i64 0, .int .i64 0, .slice none 0 0] 27) := ⟨_, rfl⟩
  have HB0 := Lib.hid (show Below w.heap.size w w0 by rw [hw0]; exact (Below.refl _ _).alloc (Nat.le_refl _) _)
  have HR0 := Lib.hid (show Row w0 w.heap.size 27 [.int .i64 0, .int .i64 0, .int .i64 0, .slice none 0 0] by rw [hw0]; exact heap_alloc_new w _)
  have HJ := Lib.hid (jjoined_any l v w0 (hv.below HB0.out) hb hs)
  have HW := Lib.hid (fun X (h : Below w.heap.size w X) => jrowsize_any l v X (ht.below h ht.lt) (hv.below h) hb hs)
  obtain ⟨A, n, c, rfl⟩ := hv.shape
  have hln := hv.parts.1
  rw [hln]
  clear hv hb hs ht hln
  go_enter Tryz.func21, Tryz.ntmps21
  go_wp2_with fail
  rw [← hw0]
  clear hw0
  refine HJ.out.mono ?_
  rintro e w1 ⟨u1, rfl, hu1, hb1⟩
  obtain ⟨A1, n1, c1, rfl⟩ := IsV.shape (f := bv) hu1
  have HB1 := Lib.hid (below_then HB0.out hb1)
  have HR1 := Lib.hid (HR0.out.below hb1 HR0.out.lt)
  have HU1 := Lib.hid hu1
  clear hu1 hb1
  go_wp2_with fail
  refine (HW.out w1 HB1.out).mono ?_
  rintro e w2 ⟨u2, rfl, hu2, hb2⟩
  obtain ⟨A2, n2, c2, rfl⟩ := IsV.shape (f := bv) hu2
  have HB2 := Lib.hid (below_then HB1.out hb2)
  have HR2 := Lib.hid (HR1.out.below hb2 HR1.out.lt)
  have HX1 := Lib.hid (HU1.out.below hb2)
  have HX2 := Lib.hid hu2
  have ha := (Below.refl w2.heap.size w2).alloc (Nat.le_refl _) (.cells #[.int .i64 2, .slice A1 n1 c1, .int .i64 3, .slice A2 n2 c2] 40)
  have HA := Lib.hid ha
  have HBA := Lib.hid (below_then HB2.out ha)
  have HRA := Lib.hid (HR2.out.below ha HR2.out.lt)
  have HK2 := Lib.hid (show w2.heap.size ≠ w.heap.size by have := HR2.out.lt; omega)
  have HI := Lib.hid (isR_two w2 (2, jbytes l, .slice A1 n1 c1) (3, (uputE (jlens l) false).1, .slice A2 n2 c2))
  clear hu2 hb2 ha
  go_wp2_with (refine wpList_storeRow colSize rfl _ _ rfl w.heap.size _ _ [.int .i64 (n : Int), .int .i64 1, .int .i64 0, .slice (some ⟨w2.heap.size, 0, none⟩) 2 2] rfl rfl HRA.out rfl rfl (by simp [Value.oneCell']) w w.heap.size HBA.out (Nat.le_refl _) ?_)
  intro w5 hr5 hb5 hs5
  have HR5 := Lib.hid hr5
  have HB5 := Lib.hid hb5
  have HC := Lib.hid (isCol_stored (c := ⟨(n : Int), 1, 0, [(2, jbytes l), (3, (uputE (jlens l) false).1)]⟩) (L := [(2, jbytes l, .slice A1 n1 c1), (3, (uputE (jlens l) false).1, .slice A2 n2 c2)]) hs5 HK2.out HRA.out (zero_col _ (fun _ h => by cases h) _ _ _) HI.out (by intro p hp; simp at hp; rcases hp with rfl | rfl; exact HX1.out.below HA.out; exact HX2.out.below HA.out) rfl)
  clear hr5 hb5 hs5
  go_wp2
  refine bodyPost_ret (results_row1 rfl _ _ w.heap.size _ _ (0, 0) _ rfl HR5.out Tryz.underlying27 rfl (by kernel_rfl)) rfl ?_
  exact ⟨_, _, _, rfl, by have := HB2.out.size; omega, HC.out, HB5.out⟩
theorem run_makeMap_hint (n : Int) (w : World) : (Instr.makeMap 67 (some (.int .i64 n))).run Tryz.prog w = .ok (.map (some w.heap.size)) (w.alloc (.map #[] 0)) := by
  simp [Instr.makeMap, run_underlying Tryz.underlying67, Result.andThen, asInt, asIntOf]
def JDRel (ws : List ByteArray) (w : World) (i : Value) (wr : World) : Prop :=
  ∃ k : Nat, k ≤ ws.length ∧ i = .int .i64 (k : Int) ∧ wr.ownsMap Tryz.prog 9 (plainElem Tryz.prog 3) (w.heap.size + 1) k (jmap ws k) ∧ Row wr (w.heap.size + 2) 67 [.map (some (w.heap.size + 1))] ∧
    Row wr w.heap.size 27 [.int .i64 0, .int .i64 0, .int .i64 0, .slice none 0 0] ∧ Below w.heap.size w wr
theorem jd_start (ws : List ByteArray) (w : World) : JDRel ws w (.int .i64 0) (((w.alloc (.cells #[.int .i64 0, .int .i64 0, .int .i64 0, .slice none 0 0] 27)).alloc (.map #[] 0)).alloc (.cells #[.map (some (w.heap.size + 1))] 67)) := by
  obtain ⟨w0, hw0⟩ : ∃ w0, w0 = w.alloc (.cells #[.int .i64 0, .int .i64 0, .int .i64 0, .slice none 0 0] 27) := ⟨_, rfl⟩
  have h0 : w0.heap.size = w.heap.size + 1 := by rw [hw0]; simp
  have hr : Row w0 w.heap.size 27 [.int .i64 0, .int .i64 0, .int .i64 0, .slice none 0 0] := by rw [hw0]; exact heap_alloc_new w _
  have hb : Below w.heap.size w w0 := by rw [hw0]; exact (Below.refl _ _).alloc (Nat.le_refl _) _
  rw [← hw0]
  clear hw0
  have ho := (World.ownsMap_made w0 Tryz.prog 9 (plainElem (H := Unit) Tryz.prog 3)).alloc (.cells #[.map (some (w.heap.size + 1))] 67)
  rw [h0] at ho
  have hx : Row ((w0.alloc (.map #[] 0)).alloc (.cells #[.map (some (w.heap.size + 1))] 67)) (w0.alloc (.map #[] 0)).heap.size 67 [.map (some (w.heap.size + 1))] := heap_alloc_new _ _
  rw [show (w0.alloc (.map #[] 0)).heap.size = w.heap.size + 2 by simp [h0]] at hx
  exact ⟨0, Nat.zero_le _, rfl, ho, hx, (hr.alloc _).alloc _, (hb.alloc (by omega) _).alloc (by simp; omega) _⟩
theorem jrow_grown {w w' : World} {g b : Nat} {t : TypeId} {cs : List Value} (h : Row w g t cs) (hg : w.grownBy w' (some b)) (hne : g ≠ b) : Row w' g t cs := (hg.block g h.lt (fun e => hne (Option.some.inj e))).trans h
set_option maxHeartbeats 4000000 in
set_option maxRecDepth 100000 in
theorem jlaydict_any (l ws : List ByteArray) (v u : Value) (w : World) (ht : WTab w) (hv : IsV Value.string l v w) (hu : IsV Value.string ws u w) (hb : l.length ≤ 4096) (hs : ∀ s ∈ l, s.size ≤ 300)
    (hwl : ws.length ≤ 4096) (hws : ∀ s ∈ ws, s.size ≤ 300) (hri : Rises ws) (hmm : ∀ s ∈ l, s ∈ ws) :
    Calls Tryz.prog 22 #[v, u] w (RetCol w ⟨(l.length : Int), 2, (ws.length : Int), [(2, (uputE (jplaces ws l) false).1), (3, (uputE (jlens ws) false).1), (4, jbytes ws)]⟩) := by
  have HJ := Lib.hid (fun X (h : Below w.heap.size w X) => jjoined_any ws u X (hu.below h) hwl hws)
  have HW := Lib.hid (fun X (h : Below w.heap.size w X) => jrowsize_any ws u X (ht.below h ht.lt) (hu.below h) hwl hws)
  have HP := Lib.hid (fun X (h : Below w.heap.size w X) b B (hp : PlaceMap ws b B X) => jrowplace_any ws l b B v X (ht.below h ht.lt) (hv.below h) hb hs hp hri hmm hwl)
  obtain ⟨A, n, c, rfl⟩ := hv.shape
  obtain ⟨C, m, d, rfl⟩ := hu.shape
  have hln := hv.parts.1
  have HM := Lib.hid hu.parts.1
  have HU := Lib.hid hu
  have HWS := Lib.hid hws
  have hm6 : m ≤ 4096 := by have := HM.out; omega
  have hmm2 := run_makeMap_hint (m : Int)
  rw [hln, HM.out]
  clear hv hb hs ht hln hu hwl hws hri hmm
  go_enter Tryz.func22, Tryz.ntmps22
  go_wp2
  go_loopw [13] (JDRel ws w) (fun i _ => m - (intOf i).toNat)
  case atStart =>
    exact jd_start ws w
  case round =>
    obtain ⟨k, hk, rfl, hown, hbx, hrw, hbw⟩ := hrel
    clear hmm2
    have hkm : k ≤ m := by have := HM.out; omega
    by_cases hlt : k < m
    · have hkl : k < ws.length := by have := HM.out; omega
      have hlti : (k : Int) < (m : Int) := by omega
      obtain ⟨ad, rfl, had, hcell⟩ := (HU.out.below hbw).at hkl
      obtain ⟨x, hx⟩ : ∃ x, x = ws[k] := ⟨_, rfl⟩
      rw [← hx] at hcell
      have hkey : keyOf Tryz.prog 9 (.string x) = some (jkey x) := Go.WideMaps.keyOf_string_mk Tryz.underlying9 (by rw [hx]; have := HWS.out _ (List.getElem_mem hkl); unfold maxLen; omega)
      have HNX := Lib.hid (jmap_next ws k)
      rw [List.getD_eq_getElem?_getD, List.getElem?_eq_getElem hkl, Option.getD_some, ← hx] at HNX
      have hc2 : wr.cell? ⟨w.heap.size + 2, 0, none⟩ = some (.map (some (w.heap.size + 1))) := hbx.cell 0
      have HBX := Lib.hid hbx
      have HRW := Lib.hid hrw
      clear hx had hbx hrw
      go_wp2_with (first | (at_mapUpdate; refine wpList_mapUpdate_own _ rfl _ _ _ 67 rfl 9 3 Tryz.keyS Tryz.underlying67 _ (w.heap.size + 1) k _ rfl hown (by unfold maxLen; omega) _ _ _ rfl rfl hkey _ [] (plainElem_int Tryz.underlying3 (WalkArith.wf_i64 (by omega))) ?_) | go_in)
      intro w1 hown1 hgrow1
      have HO := Lib.hid hown1
      rw [← HNX.out] at HO
      have HB := Lib.hid (hbw.grown hgrow1 hbw.size (fun j hj => by cases hj; exact Nat.le_succ _))
      have HX := Lib.hid (jrow_grown HBX.out hgrow1 (by omega))
      have HR := Lib.hid (jrow_grown HRW.out hgrow1 (by omega))
      clear hown1 hgrow1 hown hcell hc2
      go_wp2
      go_roundw
      case rel => exact ⟨k + 1, hkl, by go_num, HO.out, HX.out, HR.out, HB.out⟩
      case measure => simp [intOf]; omega
    · obtain rfl : k = m := by omega
      have hlti : ¬ (k : Int) < (k : Int) := by omega
      have HPM := Lib.hid (show PlaceMap ws (w.heap.size + 2) (w.heap.size + 1) wr from ⟨hbx, by rw [HM.out]; exact hown⟩)
      have HC1 := Lib.hid (HP.out wr hbw _ _ HPM.out)
      have HRW := Lib.hid hrw
      have HB0 := Lib.hid hbw
      clear hown hbx hrw hbw
      go_wp2_with fail
      refine HC1.out.mono ?_
      rintro e w1 ⟨u3, rfl, hu3, hb1⟩
      obtain ⟨A3, n3, c3, rfl⟩ := IsV.shape (f := bv) hu3
      have HB1 := Lib.hid (below_then HB0.out hb1)
      have HR1 := Lib.hid (HRW.out.below hb1 HRW.out.lt)
      have HU3 := Lib.hid hu3
      clear hu3 hb1
      go_wp2_with fail
      refine (HW.out w1 HB1.out).mono ?_
      rintro e w2 ⟨u2, rfl, hu2, hb2⟩
      obtain ⟨A2, n2, c2, rfl⟩ := IsV.shape (f := bv) hu2
      have HB2 := Lib.hid (below_then HB1.out hb2)
      have HR2 := Lib.hid (HR1.out.below hb2 HR1.out.lt)
      have HV3 := Lib.hid (HU3.out.below hb2)
      have HU2 := Lib.hid hu2
      clear hu2 hb2
      go_wp2_with fail
      refine (HJ.out w2 HB2.out).mono ?_
      rintro e w3 ⟨u1, rfl, hu1, hb3⟩
      obtain ⟨A1, n1, c1, rfl⟩ := IsV.shape (f := bv) hu1
      have HB3 := Lib.hid (below_then HB2.out hb3)
      have HR3 := Lib.hid (HR2.out.below hb3 HR2.out.lt)
      have HX3 := Lib.hid (HV3.out.below hb3)
      have HX2 := Lib.hid (HU2.out.below hb3)
      have HX1 := Lib.hid hu1
      have ha := (Below.refl w3.heap.size w3).alloc (Nat.le_refl _) (.cells #[.int .i64 2, .slice A3 n3 c3, .int .i64 3, .slice A2 n2 c2, .int .i64 4, .slice A1 n1 c1] 40)
      have HA := Lib.hid ha
      have HBA := Lib.hid (below_then HB3.out ha)
      have HRA := Lib.hid (HR3.out.below ha HR3.out.lt)
      have HK2 := Lib.hid (show w3.heap.size ≠ w.heap.size by have := HR3.out.lt; omega)
      have HI := Lib.hid (isR_three w3 (2, (uputE (jplaces ws l) false).1, .slice A3 n3 c3) (3, (uputE (jlens ws) false).1, .slice A2 n2 c2) (4, jbytes ws, .slice A1 n1 c1))
      clear hu1 hb3 ha
      go_wp2_with (refine wpList_storeRow colSize rfl _ _ rfl w.heap.size _ _ [.int .i64 (n : Int), .int .i64 2, .int .i64 (k : Int), .slice (some ⟨w3.heap.size, 0, none⟩) 3 3] rfl rfl HRA.out rfl rfl (by simp [Value.oneCell']) w w.heap.size HBA.out (Nat.le_refl _) ?_)
      intro w5 hr5 hb5 hs5
      have HR5 := Lib.hid hr5
      have HB5 := Lib.hid hb5
      have HC := Lib.hid (isCol_stored (c := ⟨(n : Int), 2, (k : Int), [(2, (uputE (jplaces ws l) false).1), (3, (uputE (jlens ws) false).1), (4, jbytes ws)]⟩) (L := [(2, (uputE (jplaces ws l) false).1, .slice A3 n3 c3), (3, (uputE (jlens ws) false).1, .slice A2 n2 c2), (4, jbytes ws, .slice A1 n1 c1)]) hs5 HK2.out HRA.out (zero_col _ (fun _ h => by cases h) _ _ _) HI.out (by
        intro p hp
        simp at hp
        rcases hp with rfl | rfl | rfl
        · exact HX3.out.below HA.out
        · exact HX2.out.below HA.out
        · exact HX1.out.below HA.out) rfl)
      clear hr5 hb5 hs5
      go_wp2
      refine bodyPost_ret (results_row1 rfl _ _ w.heap.size _ _ (0, 0) _ rfl HR5.out Tryz.underlying27 rfl (by kernel_rfl)) rfl ?_
      exact ⟨_, _, _, rfl, by have := HB3.out.size; omega, HC.out, HB5.out⟩
set_option maxHeartbeats 4000000 in
set_option maxRecDepth 100000 in
theorem jput_any (l : List ByteArray) (v : Value) (w : World) (ht : WTab w) (hv : IsV Value.string l v w) (hb : l.length ≤ 1000000) : Calls Tryz.prog 10 #[v] w (RetCE w (jputE l)) := by
  have HRX := Lib.hid (show Row (w.alloc (.cells #[.int .i64 0, .int .i64 0, .int .i64 0, .slice none 0 0] 27)) w.heap.size 27 [.int .i64 0, .int .i64 0, .int .i64 0, .slice none 0 0] from heap_alloc_new w _)
  have HBX := Lib.hid (show Below w.heap.size w (w.alloc (.cells #[.int .i64 0, .int .i64 0, .int .i64 0, .slice none 0 0] 27)) from (Below.refl _ _).alloc (Nat.le_refl _) _)
  obtain ⟨w0, hw0⟩ : ∃ w0, w0 = w.alloc (.cells #[.int .i64 0, .int .i64 0, .int .i64 0, .slice none 0 0] 27) := ⟨_, rfl⟩
  have HB0 := HBX
  have HR0 := HRX
  rw [← hw0] at HB0 HR0
  have HV0 := Lib.hid (hv.below HB0.out)
  have HT0 := Lib.hid (ht.below HB0.out ht.lt)
  have HCO := Lib.hid (jcontains_any l v w0 HV0.out hb)
  obtain ⟨A, n, c, rfl⟩ := hv.shape
  have HN := Lib.hid hv.parts.1
  clear hv ht hb
  by_cases h4 : 4096 < n
  · have HE := Lib.hid (jputE_big (l := l) (.inl (by have := HN.out; omega)))
    have d1 : decide ((4096 : Int) < (n : Int)) = true := decide_eq_true (by omega)
    clear hw0 h4
    go_enter Tryz.func10, Tryz.ntmps10
    go_wp2_with (refine wpList_storeRow colSize rfl _ _ rfl w.heap.size _ _ [.int .i64 0, .int .i64 0, .int .i64 0, .slice none 0 0] rfl rfl HRX.out rfl rfl (by simp [Value.oneCell']) w w.heap.size HBX.out (Nat.le_refl _) ?_)
    intro w5 hr5 hb5 _
    have HR5 := Lib.hid hr5
    have HB5 := Lib.hid hb5
    clear hr5 hb5
    go_wp2
    refine bodyPost_ret (results_row_tmp rfl _ _ w.heap.size _ _ (0, 0) _ _ rfl HR5.out Tryz.underlying27 rfl (by kernel_rfl) rfl) rfl ?_
    rw [HE.out]
    exact ⟨_, rfl, isCol_bad _, HB5.out⟩
  have d1 : decide ((4096 : Int) < (n : Int)) = false := decide_eq_false (by omega)
  have hn4 : n ≤ 4096 := by omega
  obtain ⟨q, hq⟩ : ∃ q, q = l.any jbig := ⟨_, rfl⟩
  rw [← hq] at HCO
  cases q with
  | true =>
    obtain ⟨s, h1, h2⟩ := List.any_eq_true.1 hq.symm
    have HE := Lib.hid (jputE_big (l := l) (.inr ⟨s, h1, of_decide_eq_true h2⟩))
    clear h1 h2 hq h4
    go_enter Tryz.func10, Tryz.ntmps10
    go_wp2_with fail
    rw [← hw0]
    refine HCO.out.mono ?_
    rintro e w' ⟨rfl, rfl⟩
    clear hw0
    go_wp2_with (refine wpList_storeRow colSize rfl _ _ rfl w.heap.size _ _ [.int .i64 0, .int .i64 0, .int .i64 0, .slice none 0 0] rfl rfl HR0.out rfl rfl (by simp [Value.oneCell']) w w.heap.size HB0.out (Nat.le_refl _) ?_)
    intro w5 hr5 hb5 _
    have HR5 := Lib.hid hr5
    have HB5 := Lib.hid hb5
    clear hr5 hb5
    go_wp2
    refine bodyPost_ret (results_row_tmp rfl _ _ w.heap.size _ _ (0, 0) _ _ rfl HR5.out Tryz.underlying27 rfl (by kernel_rfl) rfl) rfl ?_
    rw [HE.out]
    exact ⟨_, rfl, isCol_bad _, HB5.out⟩
  | false =>
    have HS := Lib.hid (show ∀ s ∈ l, s.size ≤ 300 from fun s hs => by
      have h := List.any_eq_false.1 hq.symm s hs
      unfold jbig at h
      simp at h
      omega)
    have HWS := Lib.hid (show ∀ s ∈ jwords l, s.size ≤ 300 from fun s hs => HS.out s (jwords_mem.1 hs))
    have HLE := Lib.hid (jwords_len l)
    have HEE := Lib.hid (jputE_in (l := l) (by have := HN.out; omega) HS.out)
    have HWD := Lib.hid (jwords_own l _ w0 HV0.out (fun s hs => by have := HS.out s hs; unfold maxLen; omega) (by have := HN.out; omega))
    clear hq h4
    go_enter Tryz.func10, Tryz.ntmps10
    go_wp2_with fail
    rw [← hw0]
    refine HCO.out.mono ?_
    rintro e w' ⟨rfl, rfl⟩
    clear hw0
    go_wp2_with fail
    refine HWD.out.mono ?_
    rintro e w1 ⟨wv, rfl, hwv, hb1⟩
    have HB1 := Lib.hid (below_then HB0.out hb1)
    have HR1 := Lib.hid (HR0.out.below hb1 HR0.out.lt)
    have HV1 := Lib.hid (HV0.out.below hb1)
    have HT1 := Lib.hid (HT0.out.below hb1 HT0.out.lt)
    have HWV := Lib.hid hwv.isV
    obtain ⟨Bw, m, mc, rfl⟩ := hwv.isV.shape
    have hwn : (jwords l).length = m := hwv.isV.parts.1
    have hml : m ≤ n := by rw [← hwn, ← HN.out]; exact HLE.out
    have HWN := Lib.hid hwn
    have hE := HEE.out
    rw [hwn, HN.out] at hE
    clear hwv hb1 hwn
    by_cases hpl : n < 2 * m
    · rw [if_pos hpl] at hE
      have HE := Lib.hid hE
      have d2 : decide (n < 2 * m) = true := decide_eq_true hpl
      have d3 : decide ((n : Int) < 2 * (m : Int)) = true := decide_eq_true (by omega)
      have HLP := jlayplain_any l _ w1 HT1.out HV1.out (by have := HN.out; omega) HS.out
      rw [HN.out] at HLP
      obtain ⟨cc, hcc⟩ : ∃ cc : JC, cc = ⟨(n : Int), 1, 0, [(2, jbytes l), (3, (uputE (jlens l) false).1)]⟩ := ⟨_, rfl⟩
      rw [← hcc] at HLP HE
      have HL2 := Lib.hid HLP
      clear hE HLP hcc hpl
      go_wp2_with fail
      refine HL2.out.mono ?_
      rintro e w2 ⟨k, x, y, rfl, hk, hc, hb2⟩
      have HC := Lib.hid hc
      have HB2 := Lib.hid (below_then HB1.out hb2)
      have HR2 := Lib.hid (HR1.out.below hb2 HR1.out.lt)
      have HK := Lib.hid (show k ≠ w.heap.size by have := HR1.out.lt; omega)
      clear hc hb2 hk
      unfold colv at HC ⊢
      go_wp2_with (refine wpList_storeRow colSize rfl _ _ rfl w.heap.size _ _ [.int .i64 cc.many, .int .i64 cc.enc, .int .i64 cc.texts, .slice (some ⟨k, 0, none⟩) x y] rfl rfl HR2.out rfl rfl (by simp [Value.oneCell']) w w.heap.size HB2.out (Nat.le_refl _) ?_)
      intro w5 hr5 hb5 hs5
      have HR5 := Lib.hid hr5
      have HB5 := Lib.hid hb5
      obtain ⟨L, l1, l2, l3⟩ := IsCol.laid (c := cc) HC.out
      have HF := Lib.hid (isCol_stored (c := cc) (L := L) hs5 HK.out HR2.out (zero_col _ (fun _ h => by cases h) _ _ _) l1 l2 l3)
      clear hr5 hb5 hs5 l1 l2 l3
      go_wp2
      refine bodyPost_ret (results_row_tmp rfl _ _ w.heap.size _ _ (0, 0) _ _ rfl HR5.out Tryz.underlying27 rfl (by kernel_rfl) rfl) rfl ?_
      rw [HE.out]
      exact ⟨_, rfl, HF.out, HB5.out⟩
    · rw [if_neg hpl] at hE
      have HE := Lib.hid hE
      have d2 : decide (n < 2 * m) = false := decide_eq_false hpl
      have d3 : decide ((n : Int) < 2 * (m : Int)) = false := decide_eq_false (by omega)
      have HLP := jlaydict_any l (jwords l) _ _ w1 HT1.out HV1.out HWV.out (by have := HN.out; omega) HS.out (by have := HWN.out; omega) HWS.out (jwords_rises l) (fun s hs => jwords_mem.2 hs)
      rw [HN.out, HWN.out] at HLP
      obtain ⟨cc, hcc⟩ : ∃ cc : JC, cc = ⟨(n : Int), 2, (m : Int), [(2, (uputE (jplaces (jwords l) l) false).1), (3, (uputE (jlens (jwords l)) false).1), (4, jbytes (jwords l))]⟩ := ⟨_, rfl⟩
      rw [← hcc] at HLP HE
      have HL2 := Lib.hid HLP
      clear hE HLP hcc hpl
      go_wp2_with fail
      refine HL2.out.mono ?_
      rintro e w2 ⟨k, x, y, rfl, hk, hc, hb2⟩
      have HC := Lib.hid hc
      have HB2 := Lib.hid (below_then HB1.out hb2)
      have HR2 := Lib.hid (HR1.out.below hb2 HR1.out.lt)
      have HK := Lib.hid (show k ≠ w.heap.size by have := HR1.out.lt; omega)
      clear hc hb2 hk
      unfold colv at HC ⊢
      go_wp2_with (refine wpList_storeRow colSize rfl _ _ rfl w.heap.size _ _ [.int .i64 cc.many, .int .i64 cc.enc, .int .i64 cc.texts, .slice (some ⟨k, 0, none⟩) x y] rfl rfl HR2.out rfl rfl (by simp [Value.oneCell']) w w.heap.size HB2.out (Nat.le_refl _) ?_)
      intro w5 hr5 hb5 hs5
      have HR5 := Lib.hid hr5
      have HB5 := Lib.hid hb5
      obtain ⟨L, l1, l2, l3⟩ := IsCol.laid (c := cc) HC.out
      have HF := Lib.hid (isCol_stored (c := cc) (L := L) hs5 HK.out HR2.out (zero_col _ (fun _ h => by cases h) _ _ _) l1 l2 l3)
      clear hr5 hb5 hs5 l1 l2 l3
      go_wp2
      refine bodyPost_ret (results_row_tmp rfl _ _ w.heap.size _ _ (0, 0) _ _ rfl HR5.out Tryz.underlying27 rfl (by kernel_rfl) rfl) rfl ?_
      rw [HE.out]
      exact ⟨_, rfl, HF.out, HB5.out⟩
end Go.Proofs.YtblpkmmhmdpkjaaGreatDoor

/- texts' own contracts: numbers, split, rise, chosen, just (slices.EqualFunc with its closure). -/







namespace Go.Proofs.YtblpkmmhmdpkjaaGreatDoor

open Go.RowKit

/-- Just so many numbers. -/
def jnums (l : List UInt8) (many : Int) : Option (List Int) := if (utakeE l many false).2.2 ≠ 0 ∨ 0 < (utakeE l many false).2.1.length then none else some (utakeE l many false).1
theorem jcut_nums (b l : List UInt8) (many : Int) : jcut b l many = (match jnums l many with | none => none | some ns => jpieces b ns) := by
  unfold jcut jnums
  split <;> rfl
/-- Numbers and whether they are what was asked, that a call answers. -/
def RetNB (w : World) (o : Option (List Int)) (e : Ending) (w' : World) : Prop := ∃ v, e = .returned (.tuple #[v, .bool o.isSome]) ∧ IsV iv (o.getD []) v w' ∧ Below w.heap.size w w'
/-- Texts and whether they are what was asked, that a call answers. -/
def RetTB (w : World) (o : Option (List ByteArray)) (e : Ending) (w' : World) : Prop := ∃ v, e = .returned (.tuple #[v, .bool o.isSome]) ∧ (∀ l, o = some l → OwnV Value.string 9 w l v w') ∧ Below w.heap.size w w'
theorem RetTB.none {w w' : World} (v : Value) (hb : Below w.heap.size w w') : RetTB w none (.returned (.tuple #[v, .bool false])) w' := ⟨_, rfl, fun _ h => (by cases h), hb⟩
theorem jnums_ok {l : List UInt8} {many : Int} {ns : List Int} (h : jnums l many = some ns) : ((ns.length : Int) = many) ∧ ∀ x ∈ ns, 0 ≤ x := by
  unfold jnums at h
  split at h
  · cases h
  · rename_i h2
    injection h with h
    subst h
    obtain ⟨ns, r, y, hu⟩ : ∃ ns r y, utakeE l many false = (ns, r, y) := ⟨_, _, _, rfl⟩
    rw [hu] at h2 ⊢
    dsimp only at h2 ⊢
    have hy : y = 0 := by
      by_cases hy : y = 0
      · exact hy
      · exact absurd (.inl hy) h2
    subst hy
    by_cases hm : many < 0 ∨ 4096 < many
    · exfalso
      unfold utakeE at hu
      rw [if_pos hm] at hu
      simp at hu
    · obtain ⟨M, rfl⟩ := Int.eq_ofNat_of_zero_le (show 0 ≤ many by omega)
      exact ⟨by rw [(utakeE_ok hu).1], (utakeE_ok hu).2 rfl⟩
set_option maxHeartbeats 1000000 in
theorem jnumbers_any (l : List UInt8) (v : Value) (many : Int) (w : World) (ht : WTab w) (hv : IsB l v w) (hb : l.length ≤ 1000000) :
    Calls Tryz.prog 62 #[v, .int .i64 many] w (RetNB w (jnums l many)) := by
  have HU := Lib.hid ((utake_all l v many false w ht hv hb).mono fun _ _ h => h.io.ib)
  obtain ⟨ns, r, y, hu⟩ : ∃ ns r y, utakeE l many false = (ns, r, y) := ⟨_, _, _, rfl⟩
  have hE : jnums l many = if y ≠ 0 ∨ 0 < r.length then none else some ns := by unfold jnums; rw [hu]
  rw [hu] at HU
  have HE := Lib.hid hE
  clear hu ht hv hb hE
  go_enter Tryz.func62, Tryz.ntmps62
  go_wp2_with fail
  refine HU.out.mono ?_
  rintro e w1 ⟨u, rv, rfl, hns, hr, hb1⟩
  obtain ⟨R, rn, rc, rfl⟩ := IsV.shape (f := bv) hr
  have hrn : r.length = rn := (IsV.parts (f := bv) (show IsV bv r _ _ from hr)).1
  have HB1 := Lib.hid hb1
  have HNS := Lib.hid hns
  have hE := HE.out
  rw [hrn] at hE
  clear hr hb1 hns hrn
  by_cases hy : y = 0
  case neg =>
    rw [if_pos (.inl hy)] at hE
    have HE2 := Lib.hid hE
    have d4 : (y != 0) = true := by simpa using hy
    clear hE hy
    go_wp2
    go_ret2
    rw [HE2.out]
    exact ⟨_, rfl, isV_nil _ _, HB1.out⟩
  subst hy
  have d4 : ((0 : Int) != 0) = false := by decide
  by_cases hr0 : 0 < rn
  case pos =>
    rw [if_pos (.inr hr0)] at hE
    have HE2 := Lib.hid hE
    have d5 : ((rn : Int) != 0) = true := by simp; omega
    clear hE hr0
    go_wp2
    go_ret2
    rw [HE2.out]
    exact ⟨_, rfl, isV_nil _ _, HB1.out⟩
  obtain rfl : rn = 0 := by omega
  rw [if_neg (by simp)] at hE
  have HE2 := Lib.hid hE
  clear hE hr0
  go_wp2
  go_ret2
  rw [HE2.out]
  exact ⟨_, rfl, HNS.out, HB1.out⟩
theorem jcells2 {w : World} {ad : Addr} {k : Nat} {p : Int × List UInt8 × Value} (h : ∀ i, i < 2 → w.cell? (ad.add (k * 2 + i)) = (scells p)[i]?) :
    w.cell? (ad.add (k * 2)) = some (.int .i64 p.1) ∧ w.cell? ⟨(ad.add (k * 2)).block, (ad.add (k * 2)).off + 1, none⟩ = some p.2.2 := by
  refine ⟨h 0 (by omega), ?_⟩
  have h1 := h 1 (by omega)
  rw [← add_add] at h1
  exact h1
theorem jkind_any (x k : Int) (A : Option Addr) (n c : Nat) (w : World) : Calls Tryz.prog 61 #[.agg #[.int .i64 x, .slice A n c], .int .i64 k] w fun e w' => e = .returned (.bool (x == k)) ∧ Below w.heap.size w w' := by
  have hA : Row (w.alloc (.cells #[.int .i64 x, .slice A n c] 40)) w.heap.size 40 [.int .i64 x, .slice A n c] := heap_alloc_new w _
  have a0 := hA.cell 0
  have HB := Lib.hid (show Below w.heap.size w (w.alloc (.cells #[.int .i64 x, .slice A n c] 40)) from (Below.refl _ _).alloc (Nat.le_refl _) _)
  clear hA
  go_enter Tryz.func61, Tryz.ntmps61
  go_wp2
  go_ret
  exact ⟨rfl, HB.out⟩
set_option maxHeartbeats 2000000 in
set_option maxRecDepth 100000 in
theorem jequal_any (L : List (Int × List UInt8 × Value)) (ks : List Int) (sv kv : Value) (w : World) (hs : IsR scells L sv w) (hk : IsV iv ks kv w) (hb : L.length ≤ 1000000) (hL : ∀ p ∈ L, IsB p.2.1 p.2.2 w) :
    Calls Tryz.prog 60 #[sv, kv, .func (.func 61) #[] #[]] w fun e w' => e = .returned (.bool (L.map (·.1) == ks)) ∧ Below w.heap.size w w' := by
  obtain ⟨A, n, c, rfl⟩ := hs.shape
  obtain ⟨B, m, d, rfl⟩ := hk.shape
  have HN := Lib.hid hs.parts.1
  have HM := Lib.hid hk.parts.1
  have HS := Lib.hid hs
  have HK := Lib.hid hk
  have HLB := Lib.hid hL
  have hn6 : n ≤ 1000000 := by have := HN.out; omega
  obtain ⟨ls, hls⟩ : ∃ ls, ls = L.map (·.1) := ⟨_, rfl⟩
  have HLL := Lib.hid (show ls.length = n by rw [hls, List.length_map]; exact HN.out)
  have HLS := Lib.hid hls
  rw [← hls]
  clear hs hk hb hls hL
  by_cases hnm : n = m
  · subst hnm
    have d0 : ((n : Int) != (n : Int)) = false := by simp
    go_enter Tryz.func60, Tryz.ntmps60
    go_wp2
    go_loopw [17] (KindsRel ls ks w) (fun i _ => n - (intOf i).toNat)
    case atStart => exact ⟨0, Nat.zero_le _, rfl, by simp, Below.refl _ _⟩
    case round =>
      obtain ⟨k, hk, rfl, he, hbw⟩ := hrel
      have hkn : k ≤ n := by have := HLL.out; omega
      have HEQ := Lib.hid he
      have HBW := Lib.hid hbw
      clear he hk
      by_cases hlt : k < n
      · have hkl : k < L.length := by have := HN.out; omega
        have hkk : k < ks.length := by have := HM.out; omega
        have hkls : k < ls.length := by have := HLL.out; omega
        have hlti : (k : Int) < (n : Int) := by omega
        obtain ⟨ad, rfl, had, hcell⟩ := (HS.out.below hbw).at (m := 2) (fun _ => rfl) (by omega) hkl
        obtain ⟨bd, rfl, hbd, hcell2⟩ := (HK.out.below hbw).at hkk
        obtain ⟨k0, k1⟩ := jcells2 hcell
        obtain ⟨A3, n3, c3, hsl⟩ := IsV.shape (f := bv) (HLB.out L[k] (List.getElem_mem hkl))
        rw [hsl] at k1
        have hx0 : L[k].1 = ls[k] := by simp [HLS.out]
        rw [hx0] at k0
        obtain ⟨x, hx⟩ : ∃ x, x = ls[k] := ⟨_, rfl⟩
        obtain ⟨y, hy⟩ : ∃ y, y = ks[k] := ⟨_, rfl⟩
        rw [← hx] at k0
        rw [← hy] at hcell2
        have HX := Lib.hid hx
        have HY := Lib.hid hy
        have hbx : Row (wr.alloc (.cells #[.int .i64 x, .slice A3 n3 c3] 40)) wr.heap.size 40 [.int .i64 x, .slice A3 n3 c3] := heap_alloc_new wr _
        have b0 := hbx.cell 0
        have b1 := hbx.cell 1
        have hc2 : (wr.alloc (.cells #[.int .i64 x, .slice A3 n3 c3] 40)).cell? (bd.add k) = some (iv y) := by
          rw [((Below.refl wr.heap.size wr).alloc (Nat.le_refl _) (.cells #[.int .i64 x, .slice A3 n3 c3] 40)).cell (by rw [add_block]; exact hbd)]
          exact hcell2
        have HKI := Lib.hid (jkind_any x y A3 n3 c3 (wr.alloc (.cells #[.int .i64 x, .slice A3 n3 c3] 40)))
        have HBA := Lib.hid (show Below w.heap.size w (wr.alloc (.cells #[.int .i64 x, .slice A3 n3 c3] 40)) from hbw.alloc hbw.size _)
        clear hx hy hcell hcell2 had hbd hbw hx0 hsl hbx
        by_cases e : x = y
        · subst e
          rw [show (x == x) = true by simp] at HKI
          have HEQ2 := Lib.hid (show ls.take (k + 1) = ks.take (k + 1) by rw [List.take_succ_eq_append_getElem hkls, List.take_succ_eq_append_getElem hkk, HEQ.out, ← HX.out, ← HY.out])
          go_wp2_with fail
          refine HKI.out.mono ?_
          rintro e w2 ⟨rfl, hb2⟩
          have HB2 := Lib.hid (below_then HBA.out hb2)
          clear hb2 k0 k1 b0 b1 hc2
          go_wp2
          go_roundw
          case rel => exact ⟨k + 1, hkls, by go_num, HEQ2.out, HB2.out⟩
          case measure => simp [intOf]; omega
        · rw [show (x == y) = false by simpa using e] at HKI
          have hF := Lib.hid (show (ls == ks) = false by
            rw [beq_eq_false_iff_ne]
            intro h
            subst h
            exact e (by rw [HX.out, HY.out]))
          clear e
          go_wp2_with fail
          refine HKI.out.mono ?_
          rintro e w2 ⟨rfl, hb2⟩
          have HB2 := Lib.hid (below_then HBA.out hb2)
          clear hb2 k0 k1 b0 b1 hc2
          go_wp2
          go_ret
          exact ⟨ret_bool hF.out.symm, HB2.out⟩
      · obtain rfl : k = n := by omega
        have hlti : ¬ (k : Int) < (k : Int) := by omega
        have hT := Lib.hid (show (ls == ks) = true by
          rw [beq_iff_eq]
          have h := HEQ.out
          rw [List.take_of_length_le (by rw [HLL.out]; exact Nat.le_refl _), List.take_of_length_le (by rw [HM.out]; exact Nat.le_refl _)] at h
          exact h)
        clear hbw
        go_wp2
        go_ret
        exact ⟨ret_bool hT.out.symm, HBW.out⟩
  · have d0 : ((n : Int) != (m : Int)) = true := by simpa using fun h => hnm (by omega)
    have hF := Lib.hid (show (ls == ks) = false by
      rw [beq_eq_false_iff_ne]
      intro h
      have h1 := HLL.out
      rw [h, HM.out] at h1
      exact hnm h1.symm)
    go_enter Tryz.func60, Tryz.ntmps60
    go_wp2
    go_ret
    exact ⟨ret_bool hF.out.symm, Below.refl _ _⟩
theorem jjust_any (L : List (Int × List UInt8 × Value)) (ks : List Int) (sv kv : Value) (w : World) (hs : IsR scells L sv w) (hk : IsV iv ks kv w) (hb : L.length ≤ 1000000) (hL : ∀ p ∈ L, IsB p.2.1 p.2.2 w) :
    Calls Tryz.prog 42 #[sv, kv] w fun e w' => e = .returned (.bool (L.map (·.1) == ks)) ∧ Below w.heap.size w w' := by
  have HE := Lib.hid (jequal_any L ks sv kv w hs hk hb hL)
  obtain ⟨q, hq⟩ : ∃ q, q = (L.map (·.1) == ks) := ⟨_, rfl⟩
  rw [← hq] at HE ⊢
  clear hs hk hb hL hq
  go_enter Tryz.func42, Tryz.ntmps42
  go_wp2_with fail
  refine HE.out.mono ?_
  rintro e w2 ⟨rfl, hb2⟩
  have HB := Lib.hid hb2
  clear hb2
  go_wp2
  go_ret
  exact ⟨rfl, HB.out⟩
/-- Whether words rise. -/
def jrise (ws : List ByteArray) : Bool := (List.range' 1 (ws.length - 1)).all (fun i => sless (ws.getD (i - 1) ⟨#[]⟩) (ws.getD i ⟨#[]⟩))
theorem jrise_no {ws : List ByteArray} {j : Nat} (h1 : 1 ≤ j) (h2 : j < ws.length) (h : sless (ws[j - 1]'(by omega)) ws[j] = false) : jrise ws = false := by
  unfold jrise
  rw [List.all_eq_false]
  refine ⟨j, List.mem_range'_1.2 (by omega), ?_⟩
  rw [List.getD_eq_getElem?_getD, List.getD_eq_getElem?_getD, List.getElem?_eq_getElem (show j - 1 < ws.length by omega), List.getElem?_eq_getElem h2]
  dsimp only [Option.getD_some]
  rw [h]
  simp
theorem jrise_yes {ws : List ByteArray} (h : ∀ j, 1 ≤ j → (hj : j < ws.length) → sless (ws[j - 1]'(by omega)) ws[j] = true) : jrise ws = true := by
  unfold jrise
  rw [List.all_eq_true]
  intro j hj
  have hj := List.mem_range'_1.1 hj
  rw [List.getD_eq_getElem?_getD, List.getD_eq_getElem?_getD, List.getElem?_eq_getElem (show j - 1 < ws.length by omega), List.getElem?_eq_getElem (show j < ws.length by omega)]
  exact h j hj.1 (by omega)
set_option maxHeartbeats 2000000 in
set_option maxRecDepth 100000 in
theorem jrise_any (ws : List ByteArray) (v : Value) (w : World) (hv : IsV Value.string ws v w) (hb : ws.length ≤ 1000000) :
    Calls Tryz.prog 44 #[v] w fun e w' => e = .returned (.bool (jrise ws)) ∧ Below w.heap.size w w' := by
  obtain ⟨Bw, wn, wc, rfl⟩ := hv.shape
  have HWV := Lib.hid hv
  have HWN := Lib.hid hv.parts.1
  have hw6 : wn ≤ 1000000 := by have := HWN.out; omega
  have HST := Lib.hid (show RiseRel ws w (.int .i64 1) w from ⟨1, Nat.le_refl _, by omega, rfl, fun j h1 h2 => by omega, Below.refl _ _⟩)
  clear hv hb
  go_enter Tryz.func44, Tryz.ntmps44
  go_wp2
  go_loopw [3] (RiseRel ws w) (fun i _ => wn - (intOf i).toNat)
  case atStart => exact HST.out
  case round =>
    obtain ⟨k, hk1, hkn, rfl, hris, hbw⟩ := hrel
    clear HST
    have HRS := Lib.hid hris
    have hkw : k ≤ wn + 1 := by have := HWN.out; omega
    clear hris hkn
    by_cases hlt : k < wn
    · have hkl : k < ws.length := by have := HWN.out; omega
      have hkm : k - 1 < ws.length := by omega
      obtain ⟨p, hp⟩ : ∃ p, p = k - 1 := ⟨_, rfl⟩
      have hpl : p < ws.length := by omega
      have hlti : (k : Int) < (wn : Int) := by omega
      have hp1 : (k : Int) - 1 = (p : Int) := by omega
      have hpn : (p : Int) < (wn : Int) := by omega
      obtain ⟨bd, hBd, _, hcellk⟩ := (HWV.out.below hbw).at hkl
      obtain ⟨bd', hBd', _, hcellp⟩ := (HWV.out.below hbw).at hpl
      subst hBd
      injection hBd' with hBd'
      subst hBd'
      obtain ⟨x, hx⟩ : ∃ x, x = ws[p] := ⟨_, rfl⟩
      obtain ⟨z, hz⟩ : ∃ z, z = ws[k] := ⟨_, rfl⟩
      rw [← hz] at hcellk
      rw [← hx] at hcellp
      have HSL := Lib.hid (show sless (ws[k - 1]'hkm) ws[k] = sless x z by rw [hx, hz]; congr 1; simp [hp])
      clear hx hz hp
      cases e : sless x z with
      | false =>
        have HD := Lib.hid (jrise_no hk1 hkl (by rw [HSL.out]; exact e))
        have d7 : Op.bytesLess x.toList z.toList = false := e
        clear e
        go_wp2
        go_quiet (fail)
        go_wp2
        go_ret
        exact ⟨ret_bool HD.out.symm, below_drewN hbw _⟩
      | true =>
        have HRS2 := Lib.hid (show ∀ j, 1 ≤ j → j < k + 1 → (hj : j < ws.length) → sless (ws[j - 1]'(by omega)) ws[j] = true from fun j h1 h2 hj => by
          by_cases h : j = k
          · subst h; rw [HSL.out]; exact e
          · exact HRS.out j h1 (by omega) hj)
        have d7 : Op.bytesLess x.toList z.toList = true := e
        clear e
        go_wp2
        go_quiet (fail)
        go_wp2
        go_roundw
        case rel => exact ⟨k + 1, by omega, by omega, by go_num, HRS2.out, below_drewN hbw _⟩
        case measure => simp [intOf]; omega
    · have hlti : ¬ (k : Int) < (wn : Int) := by omega
      have HE3 := Lib.hid (jrise_yes (ws := ws) fun j h1 hj => HRS.out j h1 (by have := HWN.out; omega) hj)
      have HBW := Lib.hid hbw
      clear hbw
      go_wp2
      go_ret
      exact ⟨ret_bool HE3.out.symm, HBW.out⟩
end Go.Proofs.YtblpkmmhmdpkjaaGreatDoor
