/- Texts that the claims of this seat share, part 9: JPlain JRef JCut JCol JOpen JFew JKinds JSame JRTake JSet JLay JWd JRow. -/
import Derived.Lib.AppendStr
import Derived.Maps.OwnSet
import Derived.Sort.KeysCollected
import Derived.Shelf.SlIter.Nil
import Derived.Shelf.SortM.Plain
import Derived.Shelf.SortM.SortNone
import Derived.Shelf.Strings.OnBuilder
import Derived.Test.YtblpkmmhmdpkjaaGreatDoorProg
import Derived.Lib.ConvBytes
import Derived.Test.YtblpkmmhmdpkjaaGreatDoorAG8
/- Columns of texts (layer 15), as plain mathematics. -/





namespace Go.Proofs.YtblpkmmhmdpkjaaGreatDoor

/-- Put in where it belongs. -/
def jins (s : ByteArray) : List ByteArray → List ByteArray
  | [] => [s]
  | x :: l => if sless s x = true then s :: x :: l else x :: jins s l
def jin (ws : List ByteArray) (s : ByteArray) : Bool := ws.any fun x => decide (x = s)
theorem jin_iff {ws : List ByteArray} {s : ByteArray} : jin ws s = true ↔ s ∈ ws := by
  unfold jin
  rw [List.any_eq_true]
  constructor
  · rintro ⟨x, h1, h2⟩
    rw [← of_decide_eq_true h2]
    exact h1
  · exact fun h => ⟨s, h, decide_eq_true rfl⟩
def jadd (ws : List ByteArray) (s : ByteArray) : List ByteArray := if jin ws s = true then ws else jins s ws
/-- The texts, each once, rising. -/
def jwords (l : List ByteArray) : List ByteArray := l.foldl jadd []
def Rises (l : List ByteArray) : Prop := l.Pairwise fun a b => sless a b = true
theorem jins_mem {s x : ByteArray} {l : List ByteArray} : x ∈ jins s l ↔ x = s ∨ x ∈ l := by
  induction l with
  | nil => simp [jins]
  | cons y l ih =>
    rw [jins]
    split
    · simp
    · rw [List.mem_cons, ih, List.mem_cons]
      constructor
      · rintro (h | h | h)
        · exact .inr (.inl h)
        · exact .inl h
        · exact .inr (.inr h)
      · rintro (h | h | h)
        · exact .inr (.inl h)
        · exact .inl h
        · exact .inr (.inr h)
theorem jins_rises {s : ByteArray} {l : List ByteArray} (h : Rises l) (hs : s ∉ l) : Rises (jins s l) := by
  induction l with
  | nil => exact List.pairwise_singleton _ _
  | cons y l ih =>
    obtain ⟨h1, h2⟩ := List.pairwise_cons.1 h
    rw [jins]
    split
    · rename_i h3
      refine List.pairwise_cons.2 ⟨fun z hz => ?_, h⟩
      rcases List.mem_cons.1 hz with rfl | hz
      · exact h3
      · exact sless_trans h3 (h1 z hz)
    · rename_i h3
      refine List.pairwise_cons.2 ⟨fun z hz => ?_, ih h2 fun hm => hs (List.mem_cons_of_mem _ hm)⟩
      rcases jins_mem.1 hz with rfl | hz
      · exact (sless_total fun e => hs (by rw [e]; exact List.mem_cons_self)).resolve_left h3
      · exact h1 z hz
theorem jins_len (s : ByteArray) (l : List ByteArray) : (jins s l).length = l.length + 1 := by
  induction l with
  | nil => rfl
  | cons y l ih =>
    rw [jins]
    split
    · rfl
    · rw [List.length_cons, ih]; rfl
/-- Where it belongs, as a loop from behind finds it. -/
theorem jins_at {s : ByteArray} {a b : List ByteArray} (ha : ∀ x ∈ a, sless s x = false) (hb : ∀ x ∈ b, sless s x = true) : jins s (a ++ b) = a ++ s :: b := by
  induction a with
  | nil =>
    cases b with
    | nil => rfl
    | cons y b => rw [List.nil_append, jins, if_pos (hb y List.mem_cons_self)]; rfl
  | cons x a ih =>
    rw [List.cons_append, jins, if_neg (by rw [ha x List.mem_cons_self]; simp), ih fun y hy => ha y (List.mem_cons_of_mem _ hy)]
    rfl
theorem jadd_mem {x s : ByteArray} {ws : List ByteArray} : x ∈ jadd ws s ↔ x = s ∨ x ∈ ws := by
  unfold jadd
  split
  · rename_i h
    exact ⟨.inr, fun h2 => h2.elim (fun e => e ▸ jin_iff.1 h) id⟩
  · exact jins_mem
theorem jadd_rises {s : ByteArray} {ws : List ByteArray} (h : Rises ws) : Rises (jadd ws s) := by
  unfold jadd
  split
  · exact h
  · rename_i h2; exact jins_rises h fun h3 => h2 (jin_iff.2 h3)
theorem jadd_len (s : ByteArray) (ws : List ByteArray) : (jadd ws s).length ≤ ws.length + 1 := by
  unfold jadd
  split
  · omega
  · rw [jins_len]; exact Nat.le_refl _
theorem foldl_words : ∀ (l ws : List ByteArray), (Rises ws → Rises (l.foldl jadd ws)) ∧ (∀ x, x ∈ l.foldl jadd ws ↔ x ∈ ws ∨ x ∈ l) ∧ (l.foldl jadd ws).length ≤ ws.length + l.length
  | [], ws => ⟨id, fun x => by simp, by simp⟩
  | s :: l, ws => by
    obtain ⟨h1, h2, h3⟩ := foldl_words l (jadd ws s)
    refine ⟨fun h => h1 (jadd_rises h), fun x => ?_, ?_⟩
    · rw [List.foldl_cons, h2, jadd_mem, List.mem_cons]
      constructor
      · rintro ((h | h) | h)
        · exact .inr (.inl h)
        · exact .inl h
        · exact .inr (.inr h)
      · rintro (h | h | h)
        · exact .inl (.inr h)
        · exact .inl (.inl h)
        · exact .inr h
    · have := jadd_len s ws
      rw [List.foldl_cons, List.length_cons]
      omega
theorem jwords_rises (l : List ByteArray) : Rises (jwords l) := (foldl_words l []).1 List.Pairwise.nil
theorem jwords_mem {x : ByteArray} {l : List ByteArray} : x ∈ jwords l ↔ x ∈ l := by
  rw [jwords, (foldl_words l []).2.1]
  simp
theorem jwords_len (l : List ByteArray) : (jwords l).length ≤ l.length := by
  have := (foldl_words l []).2.2
  simpa [jwords] using this
theorem jwords_snoc (l : List ByteArray) {k : Nat} (h : k < l.length) : jwords (l.take (k + 1)) = jadd (jwords (l.take k)) l[k] := by
  unfold jwords
  rw [List.take_succ_eq_append_getElem h, List.foldl_append]
  rfl
/-- Two rising rows of the same texts are one. -/
theorem rises_eq : ∀ {a b : List ByteArray}, Rises a → Rises b → (∀ x, x ∈ a ↔ x ∈ b) → a = b
  | [], [], _, _, _ => rfl
  | [], y :: b, _, _, h => by have := (h y).2 List.mem_cons_self; cases this
  | x :: a, [], _, _, h => by have := (h x).1 List.mem_cons_self; cases this
  | x :: a, y :: b, ha, hb, h => by
    obtain ⟨a1, a2⟩ := List.pairwise_cons.1 ha
    obtain ⟨b1, b2⟩ := List.pairwise_cons.1 hb
    have e : x = y := by
      rcases List.mem_cons.1 ((h x).1 List.mem_cons_self) with e | hx
      · exact e
      · rcases List.mem_cons.1 ((h y).2 List.mem_cons_self) with e | hy
        · exact e.symm
        · have h1 := b1 x hx
          have h2 := a1 y hy
          rw [sless_asymm h1] at h2
          cases h2
    subst e
    rw [rises_eq a2 b2 fun z => ?_]
    constructor
    · intro hz
      rcases List.mem_cons.1 ((h z).1 (List.mem_cons_of_mem _ hz)) with e | hz2
      · subst e
        have := a1 z hz
        rw [sless_not] at this
        cases this
      · exact hz2
    · intro hz
      rcases List.mem_cons.1 ((h z).2 (List.mem_cons_of_mem _ hz)) with e | hz2
      · subst e
        have := b1 z hz
        rw [sless_not] at this
        cases this
      · exact hz2
/-- Where a text is among others. -/
def jplace : List ByteArray → ByteArray → Nat
  | [], _ => 0
  | x :: l, s => if x = s then 0 else jplace l s + 1
theorem jplace_in : ∀ {l : List ByteArray} {s : ByteArray}, s ∈ l → ∃ h : jplace l s < l.length, l[jplace l s] = s
  | x :: l, s, h => by
    by_cases e : x = s
    · have e1 : jplace (x :: l) s = 0 := by rw [jplace, if_pos e]
      rw [show (jplace (x :: l) s) = 0 from e1]
      exact ⟨by simp, by simpa using e⟩
    · have e1 : jplace (x :: l) s = jplace l s + 1 := by rw [jplace, if_neg e]
      obtain ⟨h1, h2⟩ := jplace_in ((List.mem_cons.1 h).resolve_left fun h => e h.symm)
      rw [e1]
      exact ⟨by simpa using h1, by simpa using h2⟩
theorem jplace_first : ∀ {l : List ByteArray} {s : ByteArray} {k : Nat} (h : k < l.length), l[k] = s → (∀ j, (hj : j < k) → l[j]'(by omega) ≠ s) → jplace l s = k
  | x :: l, s, 0, _, h, _ => by rw [jplace, if_pos (show x = s from h)]
  | x :: l, s, k + 1, hk, h, hn => by
    rw [jplace, if_neg (show x ≠ s from hn 0 (by omega)), jplace_first (k := k) (by simpa using hk) (by simpa using h) fun j hj => ?_]
    have := hn (j + 1) (by omega)
    simpa using this
/-- The bytes of texts one behind the other; how many each has. -/
def jbytes (l : List ByteArray) : List UInt8 := l.flatMap fun s => s.toList
def jlens (l : List ByteArray) : List Int := l.map fun s => (s.size : Int)
/-- A column: how many, an encoding, how many texts; streams: a kind, bytes. -/
structure JC where
  many : Int
  enc : Int
  texts : Int
  streams : List (Int × List UInt8)
def jcBad : JC := ⟨0, 0, 0, []⟩
def jplaces (ws l : List ByteArray) : List Int := l.map fun s => (jplace ws s : Int)
/-- What Put answers. -/
def jputE (l : List ByteArray) : JC × Int :=
  if 4096 < l.length ∨ (l.any fun s => decide (300 < s.size)) = true then (jcBad, 3)
  else if l.length < 2 * (jwords l).length then (⟨(l.length : Int), 1, 0, [(2, jbytes l), (3, (uputE (jlens l) false).1)]⟩, 0)
  else (⟨(l.length : Int), 2, ((jwords l).length : Int), [(2, (uputE (jplaces (jwords l) l) false).1), (3, (uputE (jlens (jwords l)) false).1), (4, jbytes (jwords l))]⟩, 0)
theorem toList_size (s : ByteArray) : s.toList.length = s.size := by rw [ByteArray.toList_eq]; rfl
end Go.Proofs.YtblpkmmhmdpkjaaGreatDoor

/- Contracts of layer 15's reference: Same, place, Words, all. -/









namespace Go.Proofs.YtblpkmmhmdpkjaaGreatDoor

open Go.RowKit

theorem Tryz.infoS : (Tryz.prog.info? 9).map (fun i => (i.zero, i.size, i.bytes)) = some (some (.string ⟨#[]⟩), 1, 16) := by kernel_rfl
theorem elemS : Elem Tryz.prog 22 9 16 (.string ⟨#[]⟩) := by
  obtain ⟨i0, hi, hz0, hz1, hz2⟩ := info_parts Tryz.infoS
  exact ⟨Tryz.underlying22, rfl, i0, hi, hz0, hz1, hz2⟩
theorem text_eq {a b : ByteArray} : (a.toList == b.toList) = decide (a = b) := by
  by_cases h : a = b
  · subst h; simp
  · have h2 : ¬ a.toList = b.toList := by
      rw [ByteArray.toList_eq, ByteArray.toList_eq]
      intro h2
      exact h (bytes_ext h2)
    rw [decide_eq_false h]
    simpa using h2
def SameRelS (n : Nat) (w : World) (i : Value) (wr : World) : Prop := ∃ k : Nat, k ≤ n ∧ i = .int .i64 (k : Int) ∧ Below w.heap.size w wr
set_option maxHeartbeats 1000000 in
set_option maxRecDepth 100000 in
/-- Same of two equal rows. -/
theorem sameS_any (l : List ByteArray) (u v : Value) (w : World) (hu : IsV Value.string l u w) (hv : IsV Value.string l v w) (hb : l.length ≤ 1000000) :
    Calls Tryz.prog 13 #[u, v] w fun e w' => e = .returned (.bool true) ∧ Below w.heap.size w w' := by
  obtain ⟨A, n, c, rfl⟩ := hu.shape
  obtain ⟨B, m, d, rfl⟩ := hv.shape
  have hnm : n = m := by rw [← hu.parts.1, hv.parts.1]
  subst hnm
  have HN := Lib.hid hu.parts.1
  have HU := Lib.hid hu
  have HV := Lib.hid hv
  have hn6 : n ≤ 1000000 := by have := HN.out; omega
  have d0 : ((n : Int) != (n : Int)) = false := by simp
  clear hu hv hb
  go_enter Tryz.func13, Tryz.ntmps13
  go_wp2
  go_loopw [5] (SameRelS n w) (fun i _ => n - (intOf i).toNat)
  case atStart => exact ⟨0, Nat.zero_le _, rfl, Below.refl _ _⟩
  case round =>
    obtain ⟨k, hkn, rfl, hbw⟩ := hrel
    by_cases hlt : k < n
    · have hkl : k < l.length := by have := HN.out; omega
      have hlti : (k : Int) < (n : Int) := by omega
      obtain ⟨ad, rfl, had, hcell⟩ := (HU.out.below hbw).at hkl
      obtain ⟨bd, rfl, hbd, hcell2⟩ := (HV.out.below hbw).at hkl
      obtain ⟨x, hx⟩ : ∃ x, x = l[k] := ⟨_, rfl⟩
      rw [← hx] at hcell hcell2
      have d1 : (!(x.toList == x.toList)) = false := by simp
      clear hx had hbd
      go_wp2
      go_quiet (fail)
      go_wp2
      go_roundw
      case rel => exact ⟨k + 1, by omega, by go_num, below_drewN hbw _⟩
      case measure => simp [intOf]; omega
    · obtain rfl : k = n := by omega
      have hlti : ¬ (k : Int) < (k : Int) := by omega
      go_wp2
      go_ret
      exact ⟨rfl, hbw⟩
/-- Where a text is among others; -1: it is not. -/
def jplaceI (l : List ByteArray) (s : ByteArray) : Int := if jin l s = true then (jplace l s : Int) else -1
theorem jplaceI_at {l : List ByteArray} {s : ByteArray} {k : Nat} (h : k < l.length) (he : l[k] = s) (hn : ∀ j, (hj : j < k) → l[j]'(by omega) ≠ s) : jplaceI l s = (k : Int) := by
  unfold jplaceI
  rw [if_pos (jin_iff.2 (by rw [← he]; exact List.getElem_mem h)), jplace_first h he hn]
theorem jplaceI_no {l : List ByteArray} {s : ByteArray} (h : ∀ j, (hj : j < l.length) → l[j] ≠ s) : jplaceI l s = -1 := by
  unfold jplaceI
  rw [if_neg]
  intro h2
  obtain ⟨j, hj, he⟩ := List.mem_iff_getElem.1 (jin_iff.1 h2)
  exact h j hj he
def PlaceRel (l : List ByteArray) (s : ByteArray) (w : World) (i : Value) (wr : World) : Prop := ∃ k : Nat, k ≤ l.length ∧ i = .int .i64 (k : Int) ∧ (∀ j, (hj : j < l.length) → j < k → l[j] ≠ s) ∧ wr = w
set_option maxHeartbeats 1000000 in
set_option maxRecDepth 100000 in
theorem rplace_any (l : List ByteArray) (s : ByteArray) (v : Value) (w : World) (hv : IsV Value.string l v w) (hb : l.length ≤ 1000000) :
    Calls Tryz.prog 24 #[v, .string s] w fun e w' => e = .returned (.int .i64 (jplaceI l s)) ∧ w = w' := by
  obtain ⟨A, n, c, rfl⟩ := hv.shape
  have HN := Lib.hid hv.parts.1
  have HV := Lib.hid hv
  have hn6 : n ≤ 1000000 := by have := HN.out; omega
  clear hv hb
  go_enter Tryz.func24, Tryz.ntmps24
  go_wp2
  go_loopw [5] (PlaceRel l s w) (fun i _ => n - (intOf i).toNat)
  case atStart => exact ⟨0, Nat.zero_le _, rfl, fun j _ h => absurd h (Nat.not_lt_zero _), rfl⟩
  case round =>
    obtain ⟨k, hkl', rfl, hno, hw⟩ := hrel
    subst hw
    have hkn : k ≤ n := by have := HN.out; omega
    have HNO := Lib.hid hno
    clear hno hkl'
    by_cases hlt : k < n
    · have hkl : k < l.length := by have := HN.out; omega
      have hlti : (k : Int) < (n : Int) := by omega
      obtain ⟨ad, rfl, had, hcell⟩ := HV.out.at hkl
      obtain ⟨x, hx⟩ : ∃ x, x = l[k] := ⟨_, rfl⟩
      rw [← hx] at hcell
      have HX := Lib.hid hx
      clear hx had
      by_cases e : x = s
      · have d1 : (x.toList == s.toList) = true := by rw [text_eq]; exact decide_eq_true e
        have hE := Lib.hid (jplaceI_at hkl (by rw [← HX.out]; exact e) fun j hj => HNO.out j (by omega) hj)
        clear e
        go_wp2
        go_ret
        exact ⟨by rw [hE.out]; rfl, rfl⟩
      · have d1 : (x.toList == s.toList) = false := by rw [text_eq]; exact decide_eq_false e
        have HNO2 := Lib.hid (show ∀ j, (hj : j < l.length) → j < k + 1 → l[j] ≠ s from fun j hj hjk => by
          by_cases h : j = k
          · subst h; rw [← HX.out]; exact e
          · exact HNO.out j hj (by omega))
        clear e
        go_wp2
        go_roundw
        case rel => exact ⟨k + 1, hkl, by go_num, HNO2.out, rfl⟩
        case measure => simp [intOf]; omega
    · obtain rfl : k = n := by omega
      have hlti : ¬ (k : Int) < (k : Int) := by omega
      have hE := Lib.hid (jplaceI_no (l := l) (s := s) fun j hj => HNO.out j hj (by have := HN.out; omega))
      go_wp2
      go_ret
      exact ⟨by rw [hE.out]; rfl, rfl⟩
/-- Texts that a call answers, in a row of its own. -/
def RetTO (w : World) (l : List ByteArray) (e : Ending) (w' : World) : Prop := ∃ v, e = .returned v ∧ OwnV Value.string 9 w l v w' ∧ Below w.heap.size w w'
theorem rises_all_le {a : List ByteArray} {s x : ByteArray} (h : Rises (a ++ [x])) (hs : sless s x = false) (hne : x ≠ s) : ∀ y ∈ a ++ [x], sless s y = false := by
  have hxs : sless x s = true := (sless_total hne).resolve_right (by rw [hs]; simp)
  intro y hy
  rcases List.mem_append.1 hy with hy | hy
  · have h1 := (List.pairwise_append.1 h).2.2 y hy x (by simp)
    exact sless_asymm (sless_trans h1 hxs)
  · rcases List.mem_singleton.1 hy with rfl
    exact hs
def WordsRel (l : List ByteArray) (w : World) (v i : Value) (wr : World) : Prop :=
  ∃ (k : Nat) (ws : List ByteArray), k ≤ l.length ∧ i = .int .i64 (k : Int) ∧ ws = jwords (l.take k) ∧ wr.ownsRow w.heap.size 9 1 v ws.length (ws.map Value.string) ∧ Below w.heap.size w wr
def BubRel (ws : List ByteArray) (s : ByteArray) (w : World) (v i : Value) (wr : World) : Prop :=
  ∃ (a b : List ByteArray), ws = a ++ b ∧ i = .int .i64 (a.length : Int) ∧ (∀ x ∈ b, sless s x = true) ∧ wr.ownsRow w.heap.size 9 1 v (ws.length + 1) ((a ++ s :: b).map Value.string) ∧ Below w.heap.size w wr
theorem snoc_cases {α : Type} : ∀ a : List α, a = [] ∨ ∃ a' x, a = a' ++ [x]
  | [] => .inl rfl
  | y :: a => match snoc_cases a with
    | .inl h => .inr ⟨[], y, by rw [h]; rfl⟩
    | .inr ⟨a', x, h⟩ => .inr ⟨y :: a', x, by rw [h]; rfl⟩
theorem jadd_no {ws : List ByteArray} {s : ByteArray} (h : jin ws s = false) : jadd ws s = jins s ws := by unfold jadd; rw [if_neg (by rw [h]; simp)]
theorem jadd_yes {ws : List ByteArray} {s : ByteArray} (h : jin ws s = true) : jadd ws s = ws := by unfold jadd; rw [if_pos h]
theorem bub_set {a b : List ByteArray} {x s : ByteArray} {m : Nat} (hm : a.length = m) : ((((a ++ [x]) ++ s :: b).map Value.string).set (m + 1) (Value.string x)).set m (Value.string s) = (a ++ s :: x :: b).map Value.string := by
  subst hm
  simp [List.map_append]
theorem bub_get {a b : List ByteArray} {x s : ByteArray} {m : Nat} (hm : a.length = m) : (((a ++ [x]) ++ s :: b).map Value.string)[m]? = some (Value.string x) ∧ (((a ++ [x]) ++ s :: b).map Value.string)[m + 1]? = some (Value.string s) := by
  subst hm
  constructor <;> simp [List.map_append]
theorem words_drewN {l : List ByteArray} {w wr : World} {v i : Value} (h : WordsRel l w v i wr) (m : Nat) : WordsRel l w v i (wr.drewN m) := by
  obtain ⟨k, ws, h1, h2, h3, h4, h5⟩ := h
  exact ⟨k, ws, h1, h2, h3, h4, below_drewN h5 m⟩
theorem own_base_of {w : World} {base n m c g : Nat} {e : TypeId} {xs : List Value} (h : w.ownsRow base e 1 (.slice (some ⟨g, 0, none⟩) m c) n xs) : base ≤ g := (ownW_lt h (g := g) rfl).1
set_option maxHeartbeats 4000000 in
set_option maxRecDepth 100000 in
theorem rwords_any (l : List ByteArray) (v : Value) (w : World) (hv : IsV Value.string l v w) (hb : l.length ≤ 1000000) :
    Calls Tryz.prog 15 #[v] w (RetTO w (jwords l)) := by
  obtain ⟨A, n, c, rfl⟩ := hv.shape
  have HN := Lib.hid hv.parts.1
  have HV := Lib.hid hv
  have hn6 : n ≤ 1000000 := by have := HN.out; omega
  have hst : WordsRel l w (.slice (some ⟨w.heap.size, 0, none⟩) 0 0) (.int .i64 0) (w.alloc (.cells #[] 9)) := ⟨0, [], Nat.zero_le _, rfl, rfl, ownW_made w 9 1, (Below.refl _ _).alloc (Nat.le_refl _) _⟩
  clear hv hb
  go_enter Tryz.func15, Tryz.ntmps15
  go_wp2
  go_loopw [3, 4] (WordsRel l w) (fun _ i _ => n - (intOf i).toNat)
  case atStart => exact hst
  case round =>
    obtain ⟨k, ws, hk, rfl, hws, hown, hbw⟩ := hrel
    clear hst
    have hkn : k ≤ n := by have := HN.out; omega
    have hz := hbw.size
    have HWS := Lib.hid hws
    have hwl : ws.length ≤ k := by rw [hws]; exact Nat.le_trans (jwords_len _) (by rw [List.length_take]; omega)
    have HRI := Lib.hid (show Rises ws by rw [hws]; exact jwords_rises _)
    obtain ⟨wn, hwn⟩ : ∃ wn, wn = ws.length := ⟨_, rfl⟩
    rw [← hwn] at hown hwl
    have HWN := Lib.hid hwn
    clear hws hk hwn
    by_cases hlt : k < n
    · have hkl : k < l.length := by have := HN.out; omega
      have hlti : (k : Int) < (n : Int) := by omega
      have HAT := Lib.hid fun (X : World) (h : Below w.heap.size w X) => (HV.out.below h).at hkl
      obtain ⟨ad, hAd, _, hcell⟩ := HAT.out wr hbw
      subst hAd
      obtain ⟨s, hs⟩ : ∃ s, s = l[k] := ⟨_, rfl⟩
      rw [← hs] at hcell
      have HSN := Lib.hid (show jwords (l.take (k + 1)) = jadd ws s by rw [jwords_snoc l hkl, HWS.out, hs])
      have HCS := Lib.hid fun (X : World) (h : Below w.heap.size w X) => (show X.cell? (ad.add k) = some (.string s) by
        obtain ⟨ad2, h1, _, h2⟩ := HAT.out X h
        injection h1 with h1
        subst h1
        rw [h2, hs])
      have HPL := Lib.hid (rplace_any ws s _ wr (isV_own hown) (by have := HWN.out; omega))
      clear hs
      cases hin : jin ws s with
      | true =>
        have d1 : decide (0 ≤ jplaceI ws s) = true := decide_eq_true (by unfold jplaceI; rw [if_pos hin]; omega)
        have HREL := Lib.hid (show WordsRel l w _ (.int .i64 ((k + 1 : Nat) : Int)) wr from ⟨k + 1, ws, hkl, rfl, by rw [HSN.out, jadd_yes hin], by rw [← HWN.out]; exact hown, hbw⟩)
        clear hown hin
        go_wp2_with (go_at_call 24; refine HPL.out.mono ?_; rintro e w' ⟨rfl, rfl⟩)
        go_roundw
        case rel => exact HREL.out
        case measure => simp [intOf]; omega
      | false =>
        have d1 : decide (0 ≤ jplaceI ws s) = false := decide_eq_false (by unfold jplaceI; rw [if_neg (by rw [hin]; simp)]; omega)
        have HIN := Lib.hid hin
        clear hin
        go_wp2_with (first | (go_at_call 24; refine HPL.out.mono ?_; rintro e w' ⟨rfl, rfl⟩) | (at_builtin; refine wpList_push elemS rfl _ _ rfl w.heap.size _ _ _ (.string s) wr w rfl rfl rfl rfl hown hbw hz (by omega) (by omega) ?_))
        intro v7 w7 hown7 hb7 _ _
        have hst7 : BubRel ws s w v7 (.int .i64 (wn : Int)) w7 := ⟨ws, [], by simp, by rw [HWN.out], by simp, by rw [← HWN.out, List.map_append]; exact hown7, hb7⟩
        obtain ⟨g, cap, hg, hc1, hc2⟩ : ∃ g cap, v7 = .slice (some ⟨g, 0, none⟩) (wn + 1) cap ∧ wn + 1 ≤ cap ∧ cap ≤ maxLen := by
          rcases hown7.2 with ⟨_, h0⟩ | ⟨g, cap, cur, rfl, _, _, h1, h2, _⟩
          · exact absurd h0 (by omega)
          · exact ⟨g, cap, rfl, h1, h2⟩
        subst hg
        have HST7 := Lib.hid hst7
        have hci : (cap : Int) ≤ 9223372036854775807 := by unfold maxLen at hc2; omega
        clear hown7 hb7 hst7 hown hbw hz hc2 hcell
        go_wp2
        go_loopw [5] (BubRel ws s w (.slice (some ⟨g, 0, none⟩) (wn + 1) cap)) (fun i _ => (intOf i).toNat)
        case atStart => exact HST7.out
        case round =>
          obtain ⟨a, b, hab, rfl, hbs, hob, hbb⟩ := hrel
          clear HST7
          have HBS := Lib.hid hbs
          obtain ⟨m, hm⟩ : ∃ m, m = a.length := ⟨_, rfl⟩
          rw [← hm]
          have hwl2 : wn = m + b.length := by rw [HWN.out, hab, List.length_append, hm]
          rw [← HWN.out] at hob
          clear hbs
          rcases snoc_cases a with rfl | ⟨a', x, rfl⟩
          · obtain rfl : m = 0 := by rw [hm]; rfl
            have d2 : decide ((0 : Int) < ((0 : Nat) : Int)) = false := by decide
            have HJ := Lib.hid (show jins s ws = [] ++ s :: b by rw [hab]; exact jins_at (by simp) HBS.out)
            have HREL := Lib.hid (show WordsRel l w (.slice (some ⟨g, 0, none⟩) (wn + 1) cap) (.int .i64 ((k + 1 : Nat) : Int)) wr from ⟨k + 1, jins s ws, hkl, rfl, by rw [HSN.out, jadd_no HIN.out], by rw [jins_len, ← HWN.out, HJ.out]; exact hob, hbb⟩)
            clear hob hab hm hwl2
            go_wp2
            go_quiet (fail)
            go_wp2
            go_roundw
            case rel => exact words_drewN HREL.out _
            case measure => simp [intOf]; omega
          · obtain ⟨q, hq⟩ : ∃ q, q = a'.length := ⟨_, rfl⟩
            obtain rfl : m = q + 1 := by rw [hm, List.length_append, hq]; rfl
            have d2 : decide ((0 : Int) < ((q + 1 : Nat) : Int)) = true := decide_eq_true (by omega)
            have hq1 : ((q + 1 : Nat) : Int) - 1 = (q : Int) := by omega
            have hqn : (q : Int) < ((wn + 1 : Nat) : Int) := by omega
            have hqn1 : ((q + 1 : Nat) : Int) < ((wn + 1 : Nat) : Int) := by omega
            obtain ⟨gx, gs⟩ := bub_get (b := b) (x := x) (s := s) hq.symm
            have hcs := HCS.out wr hbb
            have hcx : wr.cell? ⟨g, q, none⟩ = some (.string x) := by rw [hob.cellAt q (by omega)]; exact gx
            cases e : sless s x with
            | false =>
              have hri : Rises (a' ++ [x]) := by
                have h := HRI.out
                rw [hab] at h
                exact (List.pairwise_append.1 h).1
              have hne : x ≠ s := by
                intro h
                have h2 := HIN.out
                rw [show jin ws s = true from jin_iff.2 (by rw [hab, ← h]; simp)] at h2
                cases h2
              have HJ := Lib.hid (show jins s ws = (a' ++ [x]) ++ s :: b by rw [hab]; exact jins_at (rises_all_le hri e hne) HBS.out)
              have HREL := Lib.hid (show WordsRel l w (.slice (some ⟨g, 0, none⟩) (wn + 1) cap) (.int .i64 ((k + 1 : Nat) : Int)) wr from ⟨k + 1, jins s ws, hkl, rfl, by rw [HSN.out, jadd_no HIN.out], by rw [jins_len, ← HWN.out, HJ.out]; exact hob, hbb⟩)
              have d3 : Op.bytesLess x.toList s.toList = true := (sless_total hne).resolve_right (by rw [e]; simp)
              clear hob hab hm hwl2 hq gx gs hri hne e
              go_wp2
              go_quiet (fail)
              go_wp2
              go_roundw
              case rel => exact words_drewN HREL.out _
              case measure => simp [intOf]; omega
            | true =>
              have d3 : Op.bytesLess x.toList s.toList = false := sless_asymm e
              have d4 : (x.toList == s.toList) = false := by
                rw [text_eq]
                refine decide_eq_false fun h => ?_
                subst h
                rw [sless_not] at e
                cases e
              have HB2 := Lib.hid (show ∀ y ∈ x :: b, sless s y = true from fun y hy => (List.mem_cons.1 hy).elim (fun h => by rw [h]; exact e) (HBS.out y))
              have HAB := Lib.hid (show ws = a' ++ x :: b by rw [hab, List.append_assoc]; rfl)
              have HQ := Lib.hid hq
              have HGS := Lib.hid gs
              have HSET := Lib.hid (bub_set (b := b) (x := x) (s := s) hq.symm)
              clear hab hm hq gx gs e
              go_wp2
              go_quiet (fail)
              obtain ⟨wq, hwq⟩ : ∃ wq, wq = wr.drewN nq := ⟨_, rfl⟩
              rw [← hwq]
              have hoq : wq.ownsRow w.heap.size 9 1 (.slice (some ⟨g, 0, none⟩) (wn + 1) cap) (wn + 1) (((a' ++ [x]) ++ s :: b).map Value.string) := by rw [hwq]; exact hob
              have hbq : Below w.heap.size w wq := by rw [hwq]; exact below_drewN hbb nq
              have hcxq : wq.cell? ⟨g, q, none⟩ = some (.string x) := by rw [hwq]; exact hcx
              have hcsq := HCS.out wq hbq
              have hcq1 : wq.cell? ⟨g, q + 1, none⟩ = some (.string s) := by rw [hoq.cellAt (q + 1) (by omega)]; exact HGS.out
              have hfq := hoq.frozenAt (q + 1)
              have hgw : w.heap.size ≤ g := own_base_of hoq
              obtain ⟨ho2, _⟩ := hoq.stored (q + 1) (.string x)
              have hb2 := hbq.setCell (p := ⟨g, q + 1, none⟩) hgw (.string x)
              have hcs2 := HCS.out _ hb2
              have hf2 := ho2.frozenAt q
              have hc2 : ∃ u, (wq.setCell ⟨g, q + 1, none⟩ (.string x)).cell? ⟨g, q, none⟩ = some u := by
                rw [ho2.cellAt q (by omega)]
                exact ⟨_, List.getElem?_eq_getElem (by rw [List.length_set, List.length_map, List.length_append, List.length_append, List.length_cons]; have := HQ.out; simp; omega)⟩
              obtain ⟨u2, hc2⟩ := hc2
              obtain ⟨ho3, _⟩ := ho2.stored q (.string s)
              have hb3 := hb2.setCell (p := ⟨g, q, none⟩) hgw (.string s)
              have HREL := Lib.hid (show BubRel ws s w (.slice (some ⟨g, 0, none⟩) (wn + 1) cap) (.int .i64 (q : Int)) ((wq.setCell ⟨g, q + 1, none⟩ (.string x)).setCell ⟨g, q, none⟩ (.string s)) from
                ⟨a', x :: b, HAB.out, by rw [HQ.out], HB2.out, by rw [← HWN.out, ← HSET.out]; exact ho3, hb3⟩)
              clear hob hbb hcx hcs hwq hoq ho2 ho3 hb3 hb2 hbq
              go_wp2
              go_roundw
              case rel => exact HREL.out
              case measure => simp [intOf]
    · obtain rfl : k = n := by omega
      have hlti : ¬ (k : Int) < (k : Int) := by omega
      have HT := Lib.hid (show l.take k = l from List.take_of_length_le (by have := HN.out; omega))
      have HO := Lib.hid (show OwnV Value.string 9 w ws _ wr from ⟨_, hown⟩)
      clear hown
      go_wp2
      go_ret
      exact ⟨_, rfl, by have h := HO.out; rw [HWS.out, HT.out] at h; exact h, hbw⟩
/-- Bytes twice that a call answers. -/
def RetJB (w : World) (p : List UInt8 × List UInt8) (e : Ending) (w' : World) : Prop := ∃ u v, e = .returned (.tuple #[u, v]) ∧ IsB p.1 u w' ∧ IsB p.2 v w' ∧ Below w.heap.size w w'
theorem strCells_bv (s : ByteArray) : Lib.strCells s = s.toList.map bv := by
  rw [ByteArray.toList_eq]
  rfl
theorem jbytes_snoc (l : List ByteArray) {k : Nat} (h : k < l.length) : jbytes (l.take (k + 1)) = jbytes (l.take k) ++ l[k].toList := by
  unfold jbytes
  rw [List.take_succ_eq_append_getElem h, List.flatMap_append]
  simp
theorem jlens_snoc (l : List ByteArray) {k : Nat} (h : k < l.length) : jlens (l.take (k + 1)) = jlens (l.take k) ++ [(l[k].size : Int)] := by
  unfold jlens
  rw [List.take_succ_eq_append_getElem h, List.map_append]
  rfl
theorem jbytes_len : ∀ {l : List ByteArray}, (∀ s ∈ l, s.size ≤ 300) → (jbytes l).length ≤ 300 * l.length
  | [], _ => Nat.zero_le _
  | s :: l, h => by
    have h1 := h s List.mem_cons_self
    have h2 := jbytes_len fun t ht => h t (List.mem_cons_of_mem _ ht)
    have e : jbytes (s :: l) = s.toList ++ jbytes l := List.flatMap_cons
    rw [e, List.length_append, toList_size, List.length_cons]
    omega
def AllTRel (l : List ByteArray) (w : World) (bv_ nv_ i : Value) (wr : World) : Prop :=
  ∃ (k : Nat) (bs : List UInt8) (ns : List Int), k ≤ l.length ∧ i = .int .i64 (k : Int) ∧ bs = jbytes (l.take k) ∧ ns = jlens (l.take k) ∧
    wr.ownsRow w.heap.size 5 1 bv_ bs.length (bs.map bv) ∧ wr.ownsRow w.heap.size 3 1 nv_ k (ns.map iv) ∧ Below w.heap.size w wr
theorem allt_start (l : List ByteArray) (w : World) : AllTRel l w (.slice (some ⟨w.heap.size, 0, none⟩) 0 0) (.slice (some ⟨w.heap.size + 1, 0, none⟩) 0 0) (.int .i64 0) ((w.alloc (.cells #[] 5)).alloc (.cells #[] 3)) := by
  have h1 := ownW_made w 5 1
  have h2 := ownW_made (w.alloc (.cells #[] 5)) 3 1
  rw [show (w.alloc (.cells #[] 5)).heap.size = w.heap.size + 1 by simp] at h2
  exact ⟨0, [], [], Nat.zero_le _, rfl, rfl, rfl, ownW_alloc h1 _, ownW_base (Nat.le_succ _) h2, ((Below.refl _ _).alloc (Nat.le_refl _) _).alloc (by simp) _⟩
set_option maxHeartbeats 2000000 in
set_option maxRecDepth 100000 in
theorem rall_any (l : List ByteArray) (v : Value) (w : World) (hv : IsV Value.string l v w) (hs : ∀ s ∈ l, s.size ≤ 300) (hb : l.length ≤ 4096) :
    Calls Tryz.prog 23 #[v] w (RetJB w (jbytes l, (uputE (jlens l) false).1)) := by
  obtain ⟨A, n, c, rfl⟩ := hv.shape
  have HN := Lib.hid hv.parts.1
  have HV := Lib.hid hv
  have HS := Lib.hid hs
  have hn6 : n ≤ 4096 := by have := HN.out; omega
  have hst := allt_start l w
  clear hv hb hs
  go_enter Tryz.func23, Tryz.ntmps23
  go_wp2
  go_loopw [4, 5, 6] (AllTRel l w) (fun _ _ i _ => n - (intOf i).toNat)
  case atStart => exact hst
  case round =>
    obtain ⟨k, bs, ns, hk, rfl, hbs, hns, ho1, ho2, hbw⟩ := hrel
    clear hst
    have hkn : k ≤ n := by have := HN.out; omega
    have hz := hbw.size
    have HBS := Lib.hid hbs
    have HNS := Lib.hid hns
    have hbl : bs.length ≤ 1228800 := by
      rw [hbs]
      have h1 := jbytes_len (l := l.take k) fun s hs => HS.out s (List.mem_of_mem_take hs)
      have h2 : (l.take k).length ≤ 4096 := by rw [List.length_take]; have := HN.out; omega
      omega
    obtain ⟨bn, hbn⟩ : ∃ bn, bn = bs.length := ⟨_, rfl⟩
    rw [← hbn] at ho1 hbl
    have HBN := Lib.hid hbn
    clear hbs hns hk hbn
    by_cases hlt : k < n
    · have hkl : k < l.length := by have := HN.out; omega
      have hlti : (k : Int) < (n : Int) := by omega
      have HAT := Lib.hid fun (X : World) (h : Below w.heap.size w X) => (HV.out.below h).at hkl
      obtain ⟨ad, hAd, _, hcell⟩ := HAT.out wr hbw
      subst hAd
      obtain ⟨s, hs⟩ : ∃ s, s = l[k] := ⟨_, rfl⟩
      rw [← hs] at hcell
      have HCS := Lib.hid fun (X : World) (h : Below w.heap.size w X) => (show X.cell? (ad.add k) = some (.string s) by
        obtain ⟨ad2, h1, _, h2⟩ := HAT.out X h
        injection h1 with h1
        subst h1
        rw [h2, hs])
      have hss : s.size ≤ 300 := by rw [hs]; exact HS.out _ (List.getElem_mem hkl)
      have HB2 := Lib.hid (show bs ++ s.toList = jbytes (l.take (k + 1)) by rw [jbytes_snoc l hkl, HBS.out, hs])
      have HN2 := Lib.hid (show ns ++ [(s.size : Int)] = jlens (l.take (k + 1)) by rw [jlens_snoc l hkl, HNS.out, hs])
      obtain ⟨i1, hi1, hz1, hz2, hz3⟩ := elemB.info
      clear hs
      go_wp2_with (at_builtin; refine Lib.wpList_append_own_string _ rfl _ _ _ _ rfl w.heap.size 5 i1 Tryz.underlying38 Tryz.underlying9 hi1 hz1 hz2 hz3 _ _ _ rfl ho1 s rfl (by unfold maxLen; omega) (by omega) hz ?_)
      intro v5 w5 ho5 hg5 _
      have hb5 := belowW_append hbw ho1 hz hg5
      have ho25 := own_otherW ho2 ho1 (by decide) hg5
      have hcs5 := HCS.out w5 hb5
      have hz5 := hb5.size
      rw [strCells_bv] at ho5
      have HO5 := Lib.hid (show w5.ownsRow w.heap.size 5 1 v5 (bs ++ s.toList).length ((bs ++ s.toList).map bv) by rw [List.length_append, toList_size, ← HBN.out, List.map_append]; exact ho5)
      clear ho5 hg5 ho1 ho2 hbw hz hcell hi1 hz1 hz2 hz3
      go_wp2_with (at_builtin; refine wpList_push elemI rfl _ _ rfl w.heap.size _ _ _ (iv (s.size : Int)) w5 w rfl rfl rfl rfl ho25 hb5 hz5 (by omega) (by omega) ?_)
      intro v6 w6 ho6 hb6 hg6 _
      have HREL := Lib.hid (show AllTRel l w v5 v6 (.int .i64 ((k + 1 : Nat) : Int)) w6 from ⟨k + 1, _, _, hkl, rfl, HB2.out, HN2.out, own_otherW HO5.out ho25 (by decide) hg6, by rw [List.map_append]; exact ho6, hb6⟩)
      clear ho6 hg6 ho25 hb6 hb5
      go_wp2
      go_roundw
      case rel => exact HREL.out
      case measure => simp [intOf]; omega
    · obtain rfl : k = n := by omega
      have hlti : ¬ (k : Int) < (k : Int) := by omega
      have HT := Lib.hid (show l.take k = l from List.take_of_length_le (by have := HN.out; omega))
      have HI1 := Lib.hid (isB_own (l := bs) ho1)
      have HI2 := Lib.hid (isV_own (f := iv) ho2)
      have HNF := Lib.hid (show ns = jlens l by rw [HNS.out, HT.out])
      have HBF := Lib.hid (show bs = jbytes l by rw [HBS.out, HT.out])
      have HP := Lib.hid (rput11_any ns _ false wr HI2.out (by rw [HNF.out]; intro x hx; obtain ⟨s, h1, rfl⟩ := List.mem_map.1 hx; have := HS.out s h1; unfold inInt; omega))
      have HB := Lib.hid hbw
      clear ho1 ho2 hbw
      go_wp2_with fail
      refine HP.out.mono ?_
      rintro e w3 ⟨b3, rfl, hb3v, hb3⟩
      have HI3 := Lib.hid (HI1.out.below hb3)
      go_wp2
      go_ret2
      exact ⟨_, _, rfl, by have h := HI3.out; rw [HBF.out] at h; exact h, by rw [← HNF.out]; exact hb3v, below_then HB.out hb3⟩
end Go.Proofs.YtblpkmmhmdpkjaaGreatDoor

/- Contracts of layer 15's reference: cut, kinds. -/





namespace Go.Proofs.YtblpkmmhmdpkjaaGreatDoor

open Go.RowKit

end Go.Proofs.YtblpkmmhmdpkjaaGreatDoor

/- Columns: what a value holds; the contract of layer 15's reference's Put. -/



namespace Go.Proofs.YtblpkmmhmdpkjaaGreatDoor

open Go.RowKit

/-- A stream in memory: its kind, its bytes, their slice. -/
def scells (p : Int × List UInt8 × Value) : List Value := [.int .i64 p.1, p.2.2]
def colv (c : JC) (sv : Value) : Value := .agg #[.int .i64 c.many, .int .i64 c.enc, .int .i64 c.texts, sv]
/-- The value v holds the column c. -/
def IsCol (c : JC) (v : Value) (w : World) : Prop := ∃ (L : List (Int × List UInt8 × Value)) (sv : Value), v = colv c sv ∧ IsR scells L sv w ∧ (∀ p ∈ L, IsB p.2.1 p.2.2 w) ∧ c.streams = L.map (fun p => (p.1, p.2.1))
theorem IsCol.below {c : JC} {v : Value} {w w' : World} (h : IsCol c v w) (hb : Below w.heap.size w w') : IsCol c v w' := by
  obtain ⟨L, sv, h1, h2, h3, h4⟩ := h
  exact ⟨L, sv, h1, h2.below hb, fun p hp => (h3 p hp).below hb, h4⟩
/-- A column and an error that a call answers. -/
def RetCE (w : World) (p : JC × Int) (e : Ending) (w' : World) : Prop := ∃ v, e = .returned (.tuple #[v, .int .i64 p.2]) ∧ IsCol p.1 v w' ∧ Below w.heap.size w w'
/-- The streams lie in memory that the call made. -/
def ColIn (w : World) (v : Value) : Prop := ∀ (a b c : Value) (A : Addr) (n m : Nat), v = .agg #[a, b, c, .slice (some A) n m] → w.heap.size ≤ A.block
def RetCN (w : World) (p : JC × Int) (e : Ending) (w' : World) : Prop := ∃ v, e = .returned (.tuple #[v, .int .i64 p.2]) ∧ IsCol p.1 v w' ∧ ColIn w v ∧ Below w.heap.size w w'
theorem RetCN.ce {w w' : World} {p : JC × Int} {e : Ending} (h : RetCN w p e w') : RetCE w p e w' := by
  obtain ⟨v, h1, h2, _, h4⟩ := h
  exact ⟨v, h1, h2, h4⟩
theorem colIn_nil (w : World) (a b c : Value) (n m : Nat) : ColIn w (.agg #[a, b, c, .slice none n m]) := by
  intro a' b' c' A n' m' h
  simp at h
theorem colIn_at {w : World} {k : Nat} (a b c : Value) (n m : Nat) (hk : w.heap.size ≤ k) : ColIn w (.agg #[a, b, c, .slice (some ⟨k, 0, none⟩) n m]) := by
  intro a' b' c' A n' m' h
  simp at h
  rw [← h.2.2.2.1]
  exact hk
theorem isCol_bad (w : World) : IsCol jcBad (colv jcBad (.slice none 0 0)) w := ⟨[], _, rfl, isR_nil _ _, by simp, rfl⟩
/-- Only block g has changed. -/
structure Spared (g : Nat) (w w' : World) : Prop where
  size : w.heap.size ≤ w'.heap.size
  block : ∀ k, k ≠ g → w'.heap[k]? = w.heap[k]?
theorem Spared.cell {g : Nat} {w w' : World} (h : Spared g w w') {p : Addr} (hp : p.block ≠ g) : w'.cell? p = w.cell? p := by
  unfold World.cell?
  rw [h.block p.block hp]
/-- Bytes lie in no block that holds other things. -/
theorem Spared.bytes {g : Nat} {w w' : World} {t : TypeId} {old : List Value} {l : List UInt8} {v : Value} (h : Spared g w w') (hr : Row w g t old) (ho : ∀ u ∈ old, ∀ x, u ≠ bv x) (hv : IsB l v w) : IsB l v w' := by
  obtain ⟨A, c, h1, h2, h3, h4, h5⟩ := hv
  refine ⟨A, c, h1, h2, h3, h4, ?_⟩
  rcases h5 with h5 | ⟨ad, hA, hlt, hc⟩
  · exact .inl h5
  · refine .inr ⟨ad, hA, Nat.lt_of_lt_of_le hlt h.size, fun j u hu => ?_⟩
    have h6 := hc j u hu
    by_cases hg : ad.block = g
    · exfalso
      obtain ⟨b, hb⟩ : ∃ b, u = bv b := by
        have := List.mem_of_getElem? hu
        obtain ⟨b, _, hb⟩ := List.mem_map.1 this
        exact ⟨b, hb.symm⟩
      have hs : (ad.add j).spot = none := World.cell?_spot h6
      have hbk : (ad.add j).block = g := by rw [add_block]; exact hg
      have e : ad.add j = ⟨g, (ad.add j).off, none⟩ := by
        generalize ad.add j = q at hs hbk
        obtain ⟨b1, o1, s1⟩ := q
        dsimp only at hs hbk
        subst hs hbk
        rfl
      rw [e, hr.cell] at h6
      exact ho u (List.mem_of_getElem? h6) b hb
    · rw [h.cell (by rw [add_block]; exact hg)]
      exact h6
/-- A slice that lies at the head of a block of its own. -/
theorem Spared.slice {α : Type} {f : α → List Value} {g k : Nat} {w w' : World} {l : List α} {n c : Nat} (h : Spared g w w') (hk : k ≠ g) (hv : IsR f l (.slice (some ⟨k, 0, none⟩) n c) w) : IsR f l (.slice (some ⟨k, 0, none⟩) n c) w' := by
  obtain ⟨A, c', h1, h2, h3, h4, h5⟩ := hv
  injection h1 with e1 e2 e3
  subst e1
  refine ⟨_, c', by rw [e2, e3], h2, h3, h4, ?_⟩
  rcases h5 with h5 | ⟨ad, hA, hlt, hc⟩
  · exact .inl h5
  · injection hA with hA
    subst hA
    exact .inr ⟨_, rfl, Nat.lt_of_lt_of_le hlt h.size, fun j u hu => by rw [h.cell (by rw [add_block]; exact hk)]; exact hc j u hu⟩
theorem isCol_stored {c : JC} {L : List (Int × List UInt8 × Value)} {g k n m : Nat} {w w' : World} {t : TypeId} {old : List Value} (h : Spared g w w') (hk : k ≠ g) (hr : Row w g t old) (ho : ∀ u ∈ old, ∀ x, u ≠ bv x)
    (hi : IsR scells L (.slice (some ⟨k, 0, none⟩) n m) w) (hb : ∀ p ∈ L, IsB p.2.1 p.2.2 w) (hc : c.streams = L.map (fun p => (p.1, p.2.1))) : IsCol c (colv c (.slice (some ⟨k, 0, none⟩) n m)) w' :=
  ⟨L, _, rfl, h.slice hk hi, fun p hp => h.bytes hr ho (hb p hp), hc⟩
theorem zero_col (v : Value) (h : ∀ x, v ≠ bv x) (a b c : Int) : ∀ u ∈ [Value.int .i64 a, .int .i64 b, .int .i64 c, v], ∀ x, u ≠ bv x := by
  intro u hu x
  simp at hu
  rcases hu with rfl | rfl | rfl | rfl
  · intro h; cases h
  · intro h; cases h
  · intro h; cases h
  · exact h x
section

variable {P : Program} {t : TypeId} {n : Nat} {ops : Array Oper} {rest : List Oper} {o : Oper} {a : Act} {Q : Exit → Act → World → Prop} {w : World}
/-- A whole value of several cells stored into its block. -/
theorem wpList_storeRow (hsz : (P.info? t).map (·.size) = some n) (hgd : o.guard = none) (x y : Operand) (ho : o.op = .store t x y) (g : Nat) (t' : TypeId) (old cs : List Value) (hx : a.eval x = .pointer (some ⟨g, 0, none⟩)) (hy : a.eval y = .agg cs.toArray) (hr : Row w g t' old)
    (hl : cs.length = n) (hl' : old.length = n) (h1 : ∀ u ∈ cs, u.oneCell' = true) (w0 : World) (B : Nat) (hb : Below B w0 w) (hB : B ≤ g)
    (h : ∀ w', Row w' g t' cs → Below B w0 w' → Spared g w w' → wpList P ops Q rest (a.put o.dst undef) w') : wpList P ops Q (o :: rest) a w := by
  have hrun := run_storeVar_row (P := P) w g t' t old.toArray cs.toArray hr (by rw [hsz, ← hl]; simp) (by simp [hl, hl']) (by simpa using h1)
  refine wpList_plain hgd fun K hK => ?_
  unfold Oper.wp execOp
  simp only [ho, hx, hy, Instr.storeAt, Instr.sureAddr, Sem.run_bind, Sem.run_pure, Result.andThen_ok, hrun]
  exact hK _ _ (h _ (setRow_heap w g old.toArray cs.toArray t' (0, 0) hr) (below_setRow hb hB _) ⟨by simp [World.setRow], fun k hk => setRow_other w g k cs.toArray hk⟩)
end
def ShortRel (l : List ByteArray) (w0 : World) (i : Value) (wr : World) : Prop := ∃ k : Nat, k ≤ l.length ∧ i = .int .i64 (k : Int) ∧ (∀ s ∈ l.take k, s.size ≤ 300) ∧ wr = w0
def PlacesRel (ws l : List ByteArray) (w : World) (v i : Value) (wr : World) : Prop :=
  ∃ (k : Nat) (ns : List Int), k ≤ l.length ∧ i = .int .i64 (k : Int) ∧ ns = jplaces ws (l.take k) ∧ wr.ownsRow w.heap.size 3 1 v k (ns.map iv) ∧ Below w.heap.size w wr
theorem jputE_big {l : List ByteArray} (h : 4096 < l.length ∨ ∃ s ∈ l, 300 < s.size) : jputE l = (jcBad, 3) := by
  unfold jputE
  rw [if_pos]
  rcases h with h | ⟨s, h1, h2⟩
  · exact .inl h
  · exact .inr (List.any_eq_true.2 ⟨s, h1, decide_eq_true h2⟩)
theorem jputE_in {l : List ByteArray} (h : l.length ≤ 4096) (hs : ∀ s ∈ l, s.size ≤ 300) : jputE l = if l.length < 2 * (jwords l).length then (⟨(l.length : Int), 1, 0, [(2, jbytes l), (3, (uputE (jlens l) false).1)]⟩, 0)
    else (⟨(l.length : Int), 2, ((jwords l).length : Int), [(2, (uputE (jplaces (jwords l) l) false).1), (3, (uputE (jlens (jwords l)) false).1), (4, jbytes (jwords l))]⟩, 0) := by
  unfold jputE
  rw [if_neg]
  rintro (h1 | h1)
  · omega
  · obtain ⟨s, h2, h3⟩ := List.any_eq_true.1 h1
    have := hs s h2
    have := of_decide_eq_true h3
    omega
theorem isR_two (w : World) (p q : Int × List UInt8 × Value) : IsR scells [p, q] (.slice (some ⟨w.heap.size, 0, none⟩) 2 2) (w.alloc (.cells #[.int .i64 p.1, p.2.2, .int .i64 q.1, q.2.2] 40)) :=
  ⟨_, _, rfl, by simp, Nat.le_refl _, by unfold maxLen; simp, cells_new w _ _⟩
theorem isR_three (w : World) (p q r : Int × List UInt8 × Value) : IsR scells [p, q, r] (.slice (some ⟨w.heap.size, 0, none⟩) 3 3) (w.alloc (.cells #[.int .i64 p.1, p.2.2, .int .i64 q.1, q.2.2, .int .i64 r.1, r.2.2] 40)) :=
  ⟨_, _, rfl, by simp, Nat.le_refl _, by unfold maxLen; simp, cells_new w _ _⟩
theorem colSize : (Tryz.prog.info? 27).map (·.size) = some 4 := by kernel_rfl
set_option maxHeartbeats 4000000 in
set_option maxRecDepth 100000 in
theorem rputJ_own (l : List ByteArray) (v : Value) (w : World) (hv : IsV Value.string l v w) (hb : l.length ≤ 1000000) :
    Calls Tryz.prog 11 #[v] w (RetCN w (jputE l)) := by
  obtain ⟨A, n, c, rfl⟩ := hv.shape
  have HN := Lib.hid hv.parts.1
  have HV := Lib.hid hv
  have hn6 : n ≤ 1000000 := by have := HN.out; omega
  obtain ⟨w0, hw0⟩ : ∃ w0, w0 = w.alloc (.cells #[.int .i64 0, .int .i64 0, .int .i64 0, .slice none 0 0] 27) := ⟨_, rfl⟩
  have HB0 := Lib.hid (show Below w.heap.size w w0 by rw [hw0]; exact (Below.refl _ _).alloc (Nat.le_refl _) _)
  have HR0 := Lib.hid (show Row w0 w.heap.size 27 [.int .i64 0, .int .i64 0, .int .i64 0, .slice none 0 0] by rw [hw0]; exact heap_alloc_new w _)
  have HV0 := Lib.hid (hv.below HB0.out)
  have HW0 := Lib.hid hw0
  clear hv hb
  go_enter Tryz.func11, Tryz.ntmps11
  go_wp2
  rw [← hw0]
  clear hw0
  go_loopw [4] (ShortRel l w0) (fun i _ => n - (intOf i).toNat)
  case atStart => exact ⟨0, Nat.zero_le _, rfl, by simp, rfl⟩
  case round =>
    obtain ⟨k, hk, rfl, hsh, hw⟩ := hrel
    subst hw
    have hkn : k ≤ n := by have := HN.out; omega
    have HSH := Lib.hid hsh
    clear hk hsh
    by_cases hlt : k < n
    · have hkl : k < l.length := by have := HN.out; omega
      have hlti : (k : Int) < (n : Int) := by omega
      obtain ⟨ad, hAd, _, hcell⟩ := HV0.out.at hkl
      subst hAd
      obtain ⟨s, hs⟩ : ∃ s, s = l[k] := ⟨_, rfl⟩
      rw [← hs] at hcell
      by_cases h3 : 300 < s.size
      · have hE := Lib.hid (jputE_big (.inr ⟨s, by rw [hs]; exact List.getElem_mem hkl, h3⟩))
        have d1 : decide ((300 : Int) < (s.size : Int)) = true := decide_eq_true (by omega)
        clear hs h3
        go_wp2_with (refine wpList_storeRow colSize rfl _ _ rfl w.heap.size _ _ [.int .i64 0, .int .i64 0, .int .i64 0, .slice none 0 0] rfl rfl HR0.out rfl rfl (by simp [Value.oneCell']) w w.heap.size HB0.out (Nat.le_refl _) ?_)
        intro w5 hr5 hb5 _
        have HR5 := Lib.hid hr5
        go_wp2
        refine bodyPost_ret (results_row_tmp rfl _ _ w.heap.size _ _ (0, 0) _ _ rfl HR5.out Tryz.underlying27 rfl (by kernel_rfl) rfl) rfl ?_
        rw [hE.out]
        exact ⟨_, rfl, isCol_bad _, colIn_nil _ _ _ _ _ _, hb5⟩
      · have d1 : decide ((300 : Int) < (s.size : Int)) = false := decide_eq_false (by omega)
        have HS2 := Lib.hid (show ∀ t ∈ l.take (k + 1), t.size ≤ 300 by
          intro t ht
          rw [List.take_succ_eq_append_getElem hkl] at ht
          rcases List.mem_append.1 ht with ht | ht
          · exact HSH.out t ht
          · rw [List.mem_singleton.1 ht, ← hs]; omega)
        clear hs h3
        go_wp2
        go_roundw
        case rel => exact ⟨k + 1, hkl, by go_num, HS2.out, rfl⟩
        case measure => simp [intOf]; omega
    · obtain rfl : k = n := by omega
      have hlti : ¬ (k : Int) < (k : Int) := by omega
      have HT := Lib.hid (show l.take k = l from List.take_of_length_le (by have := HN.out; omega))
      by_cases h4 : 4096 < k
      · have hE := Lib.hid (jputE_big (l := l) (.inl (by have := HN.out; omega)))
        have d1 : decide ((4096 : Int) < (k : Int)) = true := decide_eq_true (by omega)
        go_wp2_with (refine wpList_storeRow colSize rfl _ _ rfl w.heap.size _ _ [.int .i64 0, .int .i64 0, .int .i64 0, .slice none 0 0] rfl rfl HR0.out rfl rfl (by simp [Value.oneCell']) w w.heap.size HB0.out (Nat.le_refl _) ?_)
        intro w5 hr5 hb5 _
        have HR5 := Lib.hid hr5
        go_wp2
        refine bodyPost_ret (results_row_tmp rfl _ _ w.heap.size _ _ (0, 0) _ _ rfl HR5.out Tryz.underlying27 rfl (by kernel_rfl) rfl) rfl ?_
        rw [hE.out]
        exact ⟨_, rfl, isCol_bad _, colIn_nil _ _ _ _ _ _, hb5⟩
      · have d1 : decide ((4096 : Int) < (k : Int)) = false := decide_eq_false (by omega)
        have HS := Lib.hid (show ∀ t ∈ l, t.size ≤ 300 by rw [← HT.out]; exact HSH.out)
        have hE := jputE_in (l := l) (by have := HN.out; omega) HS.out
        have HWD := Lib.hid (rwords_any l _ wr HV0.out (by have := HN.out; omega))
        have HEE := Lib.hid hE
        clear hE
        go_wp2_with fail
        refine HWD.out.mono ?_
        rintro e w1 ⟨wv, rfl, hwv, hb1⟩
        have HB1 := Lib.hid (below_then HB0.out hb1)
        have HR1 := Lib.hid (HR0.out.below hb1 HR0.out.lt)
        have HV1 := Lib.hid (HV0.out.below hb1)
        have HWV := Lib.hid hwv.isV
        obtain ⟨Bw, m, mc, rfl⟩ := hwv.isV.shape
        have hwn : (jwords l).length = m := hwv.isV.parts.1
        have hml : m ≤ k := by rw [← hwn, ← HN.out]; exact jwords_len l
        have HWN := Lib.hid hwn
        have hE := HEE.out
        rw [hwn, HN.out] at hE
        have HWS := Lib.hid (show ∀ s ∈ jwords l, s.size ≤ 300 from fun s hs => HS.out s (jwords_mem.1 hs))
        clear hwv hb1 hwn
        by_cases hpl : k < 2 * m
        · rw [if_pos hpl] at hE
          have HE := Lib.hid hE
          have d2 : decide (k < 2 * m) = true := decide_eq_true hpl
          have d3 : decide ((k : Int) < 2 * (m : Int)) = true := decide_eq_true (by omega)
          have HAL := Lib.hid (rall_any l _ w1 HV1.out HS.out (by have := HN.out; omega))
          clear hE
          go_wp2_with fail
          refine HAL.out.mono ?_
          rintro e w2 ⟨b1, b2, rfl, hb1v, hb2v, hb2⟩
          have HB2 := Lib.hid (below_then HB1.out hb2)
          have HR2 := Lib.hid (HR1.out.below hb2 HR1.out.lt)
          obtain ⟨A1, n1, c1, rfl⟩ := IsV.shape (f := bv) hb1v
          obtain ⟨A2, n2, c2, rfl⟩ := IsV.shape (f := bv) hb2v
          have HX1 := Lib.hid hb1v
          have HX2 := Lib.hid hb2v
          have ha := (Below.refl w2.heap.size w2).alloc (Nat.le_refl _) (.cells #[.int .i64 2, .slice A1 n1 c1, .int .i64 3, .slice A2 n2 c2] 40)
          have HA := Lib.hid ha
          have HBA := Lib.hid (below_then HB2.out ha)
          have HRA := Lib.hid (HR2.out.below ha HR2.out.lt)
          have HK2 := Lib.hid (show w2.heap.size ≠ w.heap.size by have := HR2.out.lt; omega)
          have HI := Lib.hid (isR_two w2 (2, jbytes l, .slice A1 n1 c1) (3, (uputE (jlens l) false).1, .slice A2 n2 c2))
          clear hb1v hb2v hb2 ha
          go_wp2_with (refine wpList_storeRow colSize rfl _ _ rfl w.heap.size _ _ [.int .i64 (k : Int), .int .i64 1, .int .i64 0, .slice (some ⟨w2.heap.size, 0, none⟩) 2 2] rfl rfl HRA.out rfl rfl (by simp [Value.oneCell']) w w.heap.size HBA.out (Nat.le_refl _) ?_)
          intro w5 hr5 hb5 hs5
          have HR5 := Lib.hid hr5
          have HC := Lib.hid (isCol_stored (c := ⟨(k : Int), 1, 0, [(2, jbytes l), (3, (uputE (jlens l) false).1)]⟩) (L := [(2, jbytes l, .slice A1 n1 c1), (3, (uputE (jlens l) false).1, .slice A2 n2 c2)]) hs5 HK2.out HRA.out (zero_col _ (fun _ h => by cases h) _ _ _) HI.out (by intro p hp; simp at hp; rcases hp with rfl | rfl; exact HX1.out.below HA.out; exact HX2.out.below HA.out) rfl)
          go_wp2
          refine bodyPost_ret (results_row_tmp rfl _ _ w.heap.size _ _ (0, 0) _ _ rfl HR5.out Tryz.underlying27 rfl (by kernel_rfl) rfl) rfl ?_
          rw [HE.out]
          exact ⟨_, rfl, HC.out, colIn_at _ _ _ _ _ (by have := HB2.out.size; omega), hb5⟩
        · rw [if_neg hpl] at hE
          have HE := Lib.hid hE
          have d2 : decide (k < 2 * m) = false := decide_eq_false hpl
          have d3 : decide ((k : Int) < 2 * (m : Int)) = false := decide_eq_false (by omega)
          have hst2 : PlacesRel (jwords l) l w1 (.slice (some ⟨w1.heap.size, 0, none⟩) 0 0) (.int .i64 0) (w1.alloc (.cells #[] 3)) := ⟨0, [], Nat.zero_le _, rfl, rfl, ownW_made w1 3 1, (Below.refl _ _).alloc (Nat.le_refl _) _⟩
          have HST2 := Lib.hid hst2
          clear hE hst2
          go_wp2
          go_loopw [8, 9] (PlacesRel (jwords l) l w1) (fun _ i _ => k - (intOf i).toNat)
          case atStart => exact HST2.out
          case round =>
            obtain ⟨j, ns, hj, rfl, hns, hown, hbw⟩ := hrel
            clear HST2
            have hjk : j ≤ k := by have := HN.out; omega
            have hz := hbw.size
            have HNS := Lib.hid hns
            clear hns hj
            obtain ⟨wq, hwq⟩ : ∃ wq, wq = wr := ⟨_, rfl⟩
            rw [← hwq] at hown hbw hz ⊢
            clear hwq
            by_cases hlt : j < k
            · have hjl : j < l.length := by have := HN.out; omega
              have hlti2 : (j : Int) < (k : Int) := by omega
              obtain ⟨ad, hAd, _, hcell⟩ := (HV1.out.below hbw).at hjl
              subst hAd
              obtain ⟨s, hs⟩ : ∃ s, s = l[j] := ⟨_, rfl⟩
              rw [← hs] at hcell
              have HPL := Lib.hid (rplace_any (jwords l) s _ wq (HWV.out.below hbw) (by have := HWN.out; omega))
              have hpi : jplaceI (jwords l) s = (jplace (jwords l) s : Int) := by
                unfold jplaceI
                rw [if_pos (jin_iff.2 (jwords_mem.2 (by rw [hs]; exact List.getElem_mem hjl)))]
              obtain ⟨pl, hpl2⟩ : ∃ pl : Nat, pl = jplace (jwords l) s := ⟨_, rfl⟩
              rw [hpi, ← hpl2] at HPL
              have HNS2 := Lib.hid (show ns ++ [(pl : Int)] = jplaces (jwords l) (l.take (j + 1)) by
                unfold jplaces
                rw [map_next _ hjl, ← hs, ← hpl2, HNS.out]
                rfl)
              clear hs hpi hpl2
              go_wp2_with (first | (go_at_call 24; refine HPL.out.mono ?_; rintro e w' ⟨rfl, rfl⟩) | (at_builtin; refine wpList_push elemI rfl _ _ rfl w1.heap.size _ _ _ (iv (pl : Int)) wq w1 rfl rfl rfl rfl hown hbw hz (by omega) (by omega) ?_))
              intro v5 w5 ho5 hb5 _ _
              have HREL := Lib.hid (show PlacesRel (jwords l) l w1 v5 (.int .i64 ((j + 1 : Nat) : Int)) w5 from ⟨j + 1, _, hjl, rfl, HNS2.out, by rw [List.map_append]; exact ho5, hb5⟩)
              clear ho5 hb5 hown hbw
              go_wp2
              go_roundw
              case rel => exact HREL.out
              case measure => simp [intOf]; omega
            · obtain rfl : j = k := by omega
              have hlti2 : ¬ (j : Int) < (j : Int) := by omega
              have HNF := Lib.hid (show ns = jplaces (jwords l) l by rw [HNS.out, HT.out])
              have HVN := Lib.hid (isV_own (f := iv) hown)
              have HBQ := Lib.hid (below_then HB1.out hbw)
              have HRQ := Lib.hid (HR1.out.below hbw HR1.out.lt)
              have HWQ := Lib.hid (HWV.out.below hbw)
              have HPN := Lib.hid (rput11_any ns _ false wq HVN.out (by
                rw [HNF.out]
                intro x hx
                obtain ⟨s, h1, rfl⟩ := List.mem_map.1 hx
                obtain ⟨h3, _⟩ := jplace_in (jwords_mem.2 h1)
                have := HWN.out
                unfold inInt
                omega))
              have HAL := Lib.hid (fun X (h : Below wq.heap.size wq X) => rall_any (jwords l) _ X (HWQ.out.below h) HWS.out (by have := HWN.out; omega))
              clear hown hbw
              go_wp2_with fail
              refine HPN.out.mono ?_
              rintro e w3 ⟨p1, rfl, hp1, hb3⟩
              obtain ⟨A3, n3, c3, rfl⟩ := IsV.shape (f := bv) hp1
              have HP1 := Lib.hid hp1
              have HB3 := Lib.hid (below_then HBQ.out hb3)
              have HR3 := Lib.hid (HRQ.out.below hb3 HRQ.out.lt)
              have HAL3 := Lib.hid (HAL.out w3 hb3)
              clear hp1 hb3
              go_wp2_with fail
              refine HAL3.out.mono ?_
              rintro e w2 ⟨b1, b2, rfl, hb1v, hb2v, hb2⟩
              have HB2 := Lib.hid (below_then HB3.out hb2)
              have HR2 := Lib.hid (HR3.out.below hb2 HR3.out.lt)
              have HP2 := Lib.hid (HP1.out.below hb2)
              obtain ⟨A1, n1, c1, rfl⟩ := IsV.shape (f := bv) hb1v
              obtain ⟨A2, n2, c2, rfl⟩ := IsV.shape (f := bv) hb2v
              have HX1 := Lib.hid hb1v
              have HX2 := Lib.hid hb2v
              have ha := (Below.refl w2.heap.size w2).alloc (Nat.le_refl _) (.cells #[.int .i64 2, .slice A3 n3 c3, .int .i64 3, .slice A2 n2 c2, .int .i64 4, .slice A1 n1 c1] 40)
              have HA := Lib.hid ha
              have HBA := Lib.hid (below_then HB2.out ha)
              have HRA := Lib.hid (HR2.out.below ha HR2.out.lt)
              have HK2 := Lib.hid (show w2.heap.size ≠ w.heap.size by have := HR2.out.lt; omega)
              have HI := Lib.hid (isR_three w2 (2, (uputE (jplaces (jwords l) l) false).1, .slice A3 n3 c3) (3, (uputE (jlens (jwords l)) false).1, .slice A2 n2 c2) (4, jbytes (jwords l), .slice A1 n1 c1))
              clear hb1v hb2v hb2 ha
              go_wp2_with (refine wpList_storeRow colSize rfl _ _ rfl w.heap.size _ _ [.int .i64 (j : Int), .int .i64 2, .int .i64 (m : Int), .slice (some ⟨w2.heap.size, 0, none⟩) 3 3] rfl rfl HRA.out rfl rfl (by simp [Value.oneCell']) w w.heap.size HBA.out (Nat.le_refl _) ?_)
              intro w5 hr5 hb5 hs5
              have HR5 := Lib.hid hr5
              have HC := Lib.hid (isCol_stored (c := ⟨(j : Int), 2, (m : Int), [(2, (uputE (jplaces (jwords l) l) false).1), (3, (uputE (jlens (jwords l)) false).1), (4, jbytes (jwords l))]⟩) (L := [(2, (uputE (jplaces (jwords l) l) false).1, .slice A3 n3 c3), (3, (uputE (jlens (jwords l)) false).1, .slice A2 n2 c2), (4, jbytes (jwords l), .slice A1 n1 c1)]) hs5 HK2.out HRA.out (zero_col _ (fun _ h => by cases h) _ _ _) HI.out (by
                intro p hp
                simp at hp
                rcases hp with rfl | rfl | rfl
                · have h := HP2.out
                  rw [HNF.out] at h
                  exact h.below HA.out
                · exact HX2.out.below HA.out
                · exact HX1.out.below HA.out) rfl)
              go_wp2
              refine bodyPost_ret (results_row_tmp rfl _ _ w.heap.size _ _ (0, 0) _ _ rfl HR5.out Tryz.underlying27 rfl (by kernel_rfl) rfl) rfl ?_
              rw [HE.out]
              exact ⟨_, rfl, HC.out, colIn_at _ _ _ _ _ (by have := HB2.out.size; omega), hb5⟩
theorem rputJ_any (l : List ByteArray) (v : Value) (w : World) (hv : IsV Value.string l v w) (hb : l.length ≤ 1000000) :
    Calls Tryz.prog 11 #[v] w (RetCE w (jputE l)) := (rputJ_own l v w hv hb).mono fun _ _ h => h.ce
end Go.Proofs.YtblpkmmhmdpkjaaGreatDoor

/- Texts, and a column, that come in. -/





namespace Go.Proofs.YtblpkmmhmdpkjaaGreatDoor

open Go.RowKit Go.ChangeShapes Go.WideShapes Go.Deep

theorem isV_of_isR {α : Type} {f : α → Value} {l : List α} {v : Value} {w : World} (h : IsR (fun x => [f x]) l v w) : IsV f l v w := by
  obtain ⟨A, c, h1, h2, h3, h4, h5⟩ := h
  refine ⟨A, c, h1, h2, h3, h4, ?_⟩
  rw [List.map_eq_flatMap]
  exact h5
instance : Inhabited ByteArray := ⟨⟨#[]⟩⟩
section

variable {H : Type} {enc : TypeId × Value → H} {W : World} {v : Value} {d : DataW H} {ps : List MemPlace} {base : Nat}
set_option maxRecDepth 100000 in
theorem open_texts (hval : Value.okWide Tryz.prog W .any base 22 v) (hd : DataW.Trod enc Tryz.prog W 0 (fun _ => true) true 22 v d ps) (hlt : ∀ x ∈ ps, x.block < W.heap.size) :
    ∃ l : List ByteArray, IsV Value.string l v W ∧ ∀ x ∈ l, x.size ≤ maxLen := by
  obtain ⟨l, h1, h2⟩ := open_wide (f := fun x => [Value.string x]) (m := 1) (p := fun x : ByteArray => x.size ≤ maxLen) Tryz.underlying22 (by kernel_rfl) (by omega) (fun _ => rfl) (fun cs n x hlen h => by
    match cs, hlen with
    | [v0], _ =>
      obtain ⟨s, e0, _, hs⟩ := DataW.trod_string Tryz.underlying9 h
      simp at e0
      subst e0
      exact ⟨s, rfl, hs⟩) hval hd hlt
  exact ⟨l, isV_of_isR h1, h2⟩
end
instance : Inhabited (Int × List UInt8 × Value) := ⟨⟨0, [], .slice none 0 0⟩⟩
section

variable {H : Type} {enc : TypeId × Value → H} {W : World} {v : Value} {d : DataW H} {ps : List MemPlace} {base : Nat}
end

end Go.Proofs.YtblpkmmhmdpkjaaGreatDoor

/- few of layer 15's statements: at most 300 texts, of 310 bytes each. -/



namespace Go.Proofs.YtblpkmmhmdpkjaaGreatDoor

open Go.RowKit

def jshort (s : ByteArray) : ByteArray := if 310 < s.size then s.extract 0 310 else s
def jfew (l : List ByteArray) : List ByteArray := (l.take 300).map jshort
theorem jshort_size (s : ByteArray) : (jshort s).size ≤ 310 := by
  unfold jshort
  split
  · rw [ByteArray.size_extract]; omega
  · omega
theorem jfew_len (l : List ByteArray) : (jfew l).length ≤ 300 := by unfold jfew; rw [List.length_map, List.length_take]; omega
theorem jfew_size {l : List ByteArray} : ∀ s ∈ jfew l, s.size ≤ 310 := by
  intro s hs
  obtain ⟨t, _, rfl⟩ := List.mem_map.1 hs
  exact jshort_size t
def FewTRel (l : List ByteArray) (w : World) (v i : Value) (wr : World) : Prop :=
  ∃ (k : Nat) (acc : List ByteArray), k ≤ l.length ∧ k ≤ 300 ∧ i = .int .i64 (k : Int) ∧ acc = (l.take k).map jshort ∧ wr.ownsRow w.heap.size 9 1 v k (acc.map Value.string) ∧ Below w.heap.size w wr
set_option maxHeartbeats 4000000 in
set_option maxRecDepth 100000 in
theorem jfew_any (l : List ByteArray) (v : Value) (w : World) (hv : IsV Value.string l v w) (hs : ∀ s ∈ l, s.size ≤ maxLen) :
    Calls Tryz.prog 9 #[v] w (RetTO w (jfew l)) := by
  obtain ⟨A, n, c, rfl⟩ := hv.shape
  have HN := Lib.hid hv.parts.1
  have HV := Lib.hid hv
  have HSZ := Lib.hid hs
  have hnm : (n : Int) ≤ 9223372036854775807 := by have := hv.parts.2.2.1; have := hv.parts.2.2.2.1; unfold maxLen at this; omega
  have HNM := Lib.hid hnm
  have hst : FewTRel l w (.slice (some ⟨w.heap.size, 0, none⟩) 0 0) (.int .i64 0) (w.alloc (.cells #[] 9)) := ⟨0, [], Nat.zero_le _, Nat.zero_le _, rfl, rfl, ownW_made w 9 1, (Below.refl _ _).alloc (Nat.le_refl _) _⟩
  have HST := Lib.hid hst
  clear hv hs hnm hst
  go_enter Tryz.func9, Tryz.ntmps9
  go_wp2
  go_loopw [3, 4] (FewTRel l w) (fun _ i _ => 300 - (intOf i).toNat)
  case atStart => exact HST.out
  case round =>
    obtain ⟨k, acc, hk, hk3, rfl, hacc, hown, hbw⟩ := hrel
    clear HST
    have hz := hbw.size
    have hkn : k ≤ n := by have := HN.out; omega
    have HACC := Lib.hid hacc
    clear hacc hk
    by_cases hlt : k < n
    case neg =>
      obtain rfl : k = n := by omega
      have hlti : ¬ (k : Int) < (k : Int) := by omega
      have HE := Lib.hid (show acc = jfew l by rw [HACC.out, jfew, List.take_of_length_le (by have := HN.out; omega), List.take_of_length_le (by have := HN.out; omega)])
      have HO := Lib.hid (show OwnV Value.string 9 w acc _ wr from ⟨_, hown⟩)
      clear hown
      go_wp2
      go_ret
      exact ⟨_, rfl, by have h := HO.out; rw [HE.out] at h; exact h, hbw⟩
    have hlti : (k : Int) < (n : Int) := by omega
    by_cases h3 : k < 300
    case neg =>
      obtain rfl : k = 300 := by omega
      have hlt3 : ¬ (((300 : Nat) : Int) < 300) := by omega
      have HE := Lib.hid (show acc = jfew l from HACC.out)
      have HO := Lib.hid (show OwnV Value.string 9 w acc _ wr from ⟨_, hown⟩)
      clear hown
      go_wp2
      go_ret
      exact ⟨_, rfl, by have h := HO.out; rw [HE.out] at h; exact h, hbw⟩
    have hlt3 : (k : Int) < 300 := by omega
    have hkl : k < l.length := by have := HN.out; omega
    obtain ⟨ad, hAd, _, hcell⟩ := (HV.out.below hbw).at hkl
    subst hAd
    obtain ⟨s, hs⟩ : ∃ s, s = l[k] := ⟨_, rfl⟩
    rw [← hs] at hcell
    have hsm : (s.size : Int) ≤ 9223372036854775807 := by have := HSZ.out l[k] (List.getElem_mem hkl); unfold maxLen at this; rw [hs]; omega
    have HA2 := Lib.hid (show acc ++ [jshort s] = (l.take (k + 1)).map jshort by rw [map_next _ hkl, ← hs, HACC.out])
    clear hs
    by_cases h4 : 310 < s.size
    · have d1 : decide ((310 : Int) < (s.size : Int)) = true := decide_eq_true (by omega)
      have HJ := Lib.hid (show jshort s = s.extract 0 310 by unfold jshort; rw [if_pos h4])
      have h4i : (310 : Int) ≤ (s.size : Int) := by omega
      clear h4
      go_wp2_with (at_builtin; refine wpList_push elemS rfl _ _ rfl w.heap.size _ _ _ (.string (s.extract 0 310)) wr w rfl rfl rfl rfl hown hbw hz (by omega) (by omega) ?_)
      intro v7 w7 ho7 hb7 _ _
      have HREL := Lib.hid (show FewTRel l w v7 (.int .i64 ((k + 1 : Nat) : Int)) w7 from ⟨k + 1, _, hkl, by omega, rfl, HA2.out, by rw [List.map_append, HJ.out]; exact ho7, hb7⟩)
      clear ho7 hb7 hown hbw
      go_wp2
      go_roundw
      case rel => exact HREL.out
      case measure => simp [intOf]; omega
    · have d1 : decide ((310 : Int) < (s.size : Int)) = false := decide_eq_false (by omega)
      have HJ := Lib.hid (show jshort s = s by unfold jshort; rw [if_neg h4])
      clear h4
      go_wp2_with (at_builtin; refine wpList_push elemS rfl _ _ rfl w.heap.size _ _ _ (.string s) wr w rfl rfl rfl rfl hown hbw hz (by omega) (by omega) ?_)
      intro v7 w7 ho7 hb7 _ _
      have HREL := Lib.hid (show FewTRel l w v7 (.int .i64 ((k + 1 : Nat) : Int)) w7 from ⟨k + 1, _, hkl, by omega, rfl, HA2.out, by rw [List.map_append, HJ.out]; exact ho7, hb7⟩)
      clear ho7 hb7 hown hbw
      go_wp2
      go_roundw
      case rel => exact HREL.out
      case measure => simp [intOf]; omega
end Go.Proofs.YtblpkmmhmdpkjaaGreatDoor

/- Contracts of layer 15's reference: kinds. -/



namespace Go.Proofs.YtblpkmmhmdpkjaaGreatDoor

open Go.RowKit

end Go.Proofs.YtblpkmmhmdpkjaaGreatDoor

/- Contracts of layer 15's reference: SameColumn of two that hold the same column. -/



namespace Go.Proofs.YtblpkmmhmdpkjaaGreatDoor

open Go.RowKit

def SameColRel (n : Nat) (w : World) (i : Value) (wr : World) : Prop := ∃ k : Nat, k ≤ n ∧ i = .int .i64 (k : Int) ∧ Below w.heap.size w wr
set_option maxHeartbeats 4000000 in
set_option maxRecDepth 100000 in
theorem samecol_any (c : JC) (u v : Value) (w : World) (hu : IsCol c u w) (hv : IsCol c v w) (hb : c.streams.length ≤ 1000000) :
    Calls Tryz.prog 12 #[u, v] w fun e w' => e = .returned (.bool true) ∧ Below w.heap.size w w' := by
  obtain ⟨L, sv, rfl, hL, hLb, hLs⟩ := hu
  obtain ⟨M, tv, rfl, hM, hMb, hMs⟩ := hv
  obtain ⟨A, n, ca, rfl⟩ := hL.shape
  obtain ⟨B, m, cb, rfl⟩ := hM.shape
  have hl1 : c.streams.length = n := by rw [hLs, List.length_map]; exact hL.parts.1
  have hm1 : c.streams.length = m := by rw [hMs, List.length_map]; exact hM.parts.1
  obtain rfl : n = m := by omega
  have hn6 : n ≤ 1000000 := by omega
  obtain ⟨cm, ce, ct, cs⟩ := c
  dsimp only at hl1 hLs hMs
  unfold colv
  dsimp only
  have hA : Row ((w.alloc (.cells #[.int .i64 cm, .int .i64 ce, .int .i64 ct, .slice A n ca] 27)).alloc (.cells #[.int .i64 cm, .int .i64 ce, .int .i64 ct, .slice B n cb] 27)) w.heap.size 27 [.int .i64 cm, .int .i64 ce, .int .i64 ct, .slice A n ca] := (show Row (w.alloc _) _ _ _ from heap_alloc_new w _).alloc _
  have hB : Row ((w.alloc (.cells #[.int .i64 cm, .int .i64 ce, .int .i64 ct, .slice A n ca] 27)).alloc (.cells #[.int .i64 cm, .int .i64 ce, .int .i64 ct, .slice B n cb] 27)) (w.heap.size + 1) 27 [.int .i64 cm, .int .i64 ce, .int .i64 ct, .slice B n cb] := by
    have h := heap_alloc_new (w.alloc (.cells #[.int .i64 cm, .int .i64 ce, .int .i64 ct, .slice A n ca] 27)) (.cells #[.int .i64 cm, .int .i64 ce, .int .i64 ct, .slice B n cb] 27)
    rw [show (w.alloc (.cells #[.int .i64 cm, .int .i64 ce, .int .i64 ct, .slice A n ca] 27)).heap.size = w.heap.size + 1 by simp] at h
    exact h
  have hbb : Below w.heap.size w ((w.alloc (.cells #[.int .i64 cm, .int .i64 ce, .int .i64 ct, .slice A n ca] 27)).alloc (.cells #[.int .i64 cm, .int .i64 ce, .int .i64 ct, .slice B n cb] 27)) := ((Below.refl _ _).alloc (Nat.le_refl _) _).alloc (by simp) _
  obtain ⟨w1, hw1⟩ : ∃ w1, w1 = (w.alloc (.cells #[.int .i64 cm, .int .i64 ce, .int .i64 ct, .slice A n ca] 27)).alloc (.cells #[.int .i64 cm, .int .i64 ce, .int .i64 ct, .slice B n cb] 27) := ⟨_, rfl⟩
  have a0 := hA.cell 0
  have a1 := hA.cell 1
  have a2 := hA.cell 2
  have a3 := hA.cell 3
  have b0 := hB.cell 0
  have b1 := hB.cell 1
  have b2 := hB.cell 2
  have b3 := hB.cell 3
  simp only [List.getElem?_cons_zero, List.getElem?_cons_succ] at a0 a1 a2 a3 b0 b1 b2 b3
  have e0 : (cm != cm) = false := by simp
  have e1 : (ce != ce) = false := by simp
  have e2 : (ct != ct) = false := by simp
  have e3 : ((n : Int) != (n : Int)) = false := by simp
  rw [← hw1] at hA hB hbb
  have HA := Lib.hid hA
  have HB := Lib.hid hB
  have HBB := Lib.hid hbb
  have HL := Lib.hid (hL.below hbb)
  have HM := Lib.hid (hM.below hbb)
  have HLB := Lib.hid (show ∀ p ∈ L, IsB p.2.1 p.2.2 w1 from fun p hp => (hLb p hp).below hbb)
  have HMB := Lib.hid (show ∀ p ∈ M, IsB p.2.1 p.2.2 w1 from fun p hp => (hMb p hp).below hbb)
  have HLM := Lib.hid (show L.map (fun p => (p.1, p.2.1)) = M.map (fun p => (p.1, p.2.1)) by rw [← hLs, hMs])
  have HLN := Lib.hid hL.parts.1
  have HMN := Lib.hid hM.parts.1
  clear hL hM hLb hMb hLs hMs hA hB hbb hl1 hb hm1
  go_enter Tryz.func12, Tryz.ntmps12
  go_wp2
  rw [← hw1]
  clear hw1 a0 a1 a2 a3 b0 b1 b2 b3
  go_loopw [5] (SameColRel n w1) (fun i _ => n - (intOf i).toNat)
  case atStart => exact ⟨0, Nat.zero_le _, rfl, Below.refl _ _⟩
  case round =>
    obtain ⟨k, hkn, rfl, hbw⟩ := hrel
    have hA := HA.out.below hbw HA.out.lt
    have hB := HB.out.below hbw HB.out.lt
    have a3 := hA.cell 3
    have b3 := hB.cell 3
    simp only [List.getElem?_cons_zero, List.getElem?_cons_succ] at a3 b3
    clear hA hB
    by_cases hlt : k < n
    · have hkl : k < L.length := by have := HLN.out; omega
      have hkm : k < M.length := by have := HMN.out; omega
      have hlti : (k : Int) < (n : Int) := by omega
      obtain ⟨ad, rfl, had, hcell⟩ := (HL.out.below hbw).at (m := 2) (fun _ => rfl) (by omega) hkl
      obtain ⟨bd, rfl, hbd, hcell2⟩ := (HM.out.below hbw).at (m := 2) (fun _ => rfl) (by omega) hkm
      have hpq : (L[k].1, L[k].2.1) = (M[k].1, M[k].2.1) := by
        have h1 : (L.map (fun p => (p.1, p.2.1)))[k]? = (M.map (fun p => (p.1, p.2.1)))[k]? := by rw [HLM.out]
        rw [List.getElem?_map, List.getElem?_map, List.getElem?_eq_getElem hkl, List.getElem?_eq_getElem hkm] at h1
        exact Option.some.inj h1
      have hLp := (HLB.out L[k] (List.getElem_mem hkl)).below hbw
      have hMp := (HMB.out M[k] (List.getElem_mem hkm)).below hbw
      obtain ⟨p, hp⟩ : ∃ p, p = L[k] := ⟨_, rfl⟩
      obtain ⟨q, hq⟩ : ∃ q, q = M[k] := ⟨_, rfl⟩
      rw [← hp] at hcell hpq hLp
      rw [← hq] at hcell2 hpq hMp
      obtain ⟨pk, pb, pv⟩ := p
      obtain ⟨qk, qb, qv⟩ := q
      dsimp only at hpq hLp hMp
      injection hpq with hk2 hb2
      subst hk2 hb2
      obtain ⟨A1, n1, c1, rfl⟩ := IsV.shape (f := bv) hLp
      obtain ⟨A2, n2, c2, rfl⟩ := IsV.shape (f := bv) hMp
      have i0 : wr.cell? (ad.add (k * 2)) = some (.int .i64 pk) := hcell 0 (by omega)
      have i1 : wr.cell? ⟨(ad.add (k * 2)).block, (ad.add (k * 2)).off + 1, none⟩ = some (.slice A1 n1 c1) := by have h := hcell 1 (by omega); rw [← add_add] at h; exact h
      have j0 : wr.cell? (bd.add (k * 2)) = some (.int .i64 pk) := hcell2 0 (by omega)
      have j1 : wr.cell? ⟨(bd.add (k * 2)).block, (bd.add (k * 2)).off + 1, none⟩ = some (.slice A2 n2 c2) := by have h := hcell2 1 (by omega); rw [← add_add] at h; exact h
      have t1 : ∀ q, (convert 38 9 (.slice A1 n1 c1)).run Tryz.prog (wr.drewN q) = .ok (.string ⟨pb.toArray⟩) (wr.drewN q) := fun q => textB (w := wr.drewN q) (hLp.below (below_drewN (Below.refl _ _) q))
      have t2 : ∀ q, (convert 38 9 (.slice A2 n2 c2)).run Tryz.prog (wr.drewN q) = .ok (.string ⟨pb.toArray⟩) (wr.drewN q) := fun q => textB (w := wr.drewN q) (hMp.below (below_drewN (Below.refl _ _) q))
      have f0 : (pk != pk) = false := by simp
      have f1 : (!(pb.toArray.toList == pb.toArray.toList)) = false := by simp
      clear hp hq hcell hcell2 had hbd hLp hMp
      go_wp2
      go_quiet (fail)
      go_wp2
      go_roundw
      case rel => exact ⟨k + 1, by omega, by go_num, below_drewN hbw _⟩
      case measure => simp [intOf]; omega
    · obtain rfl : k = n := by omega
      have hlti : ¬ (k : Int) < (k : Int) := by omega
      go_wp2
      go_ret
      exact ⟨rfl, below_then HBB.out hbw⟩
end Go.Proofs.YtblpkmmhmdpkjaaGreatDoor

/- The contract of layer 15's reference's Take. -/





namespace Go.Proofs.YtblpkmmhmdpkjaaGreatDoor

open Go.RowKit

/-- What cut, and Take of layer 11, answer, as facts of a region. -/
def Fact.texts (w0 : World) (l : List ByteArray) : Fact := ⟨OwnV Value.string 9 w0 l, fun _ _ _ h hb => h.below hb⟩
end Go.Proofs.YtblpkmmhmdpkjaaGreatDoor

/- A set of texts: its keys, sorted, are the words. -/







namespace Go.Proofs.YtblpkmmhmdpkjaaGreatDoor

open Go.Maps

open Go.Proofs (encStr)

def jkey (s : ByteArray) : Lit := .string s.data.toList
theorem jkey_ok (s : ByteArray) : WideAt.IsKeyLit (jkey s) := trivial
def jset (l : List ByteArray) : DataW Unit := setOf (.agg []) (l.map jkey)
theorem jset_next {l : List ByteArray} {k : Nat} (h : k < l.length) : jset (l.take (k + 1)) = (jset (l.take k)).put (jkey l[k]) (.agg []) := by
  unfold jset
  rw [List.take_succ_eq_append_getElem h, List.map_append, List.map_singleton, setOf_snoc]
theorem jset_keys (l : List ByteArray) : ∀ x ∈ l.map jkey, WideAt.IsKeyLit x := by
  intro x hx
  obtain ⟨s, _, rfl⟩ := List.mem_map.1 hx
  exact jkey_ok s
theorem jset_has (l : List ByteArray) (x : List UInt8) : has (jset l) (.string x) = true ↔ ∃ s ∈ l, s.data.toList = x := by
  unfold jset
  rw [has_setOf _ _ _ (jset_keys l), List.any_eq_true]
  constructor
  · rintro ⟨q, hq, hs⟩
    obtain ⟨s, h1, rfl⟩ := List.mem_map.1 hq
    exact ⟨s, h1, by simpa [jkey, Lit.sameKey] using hs⟩
  · rintro ⟨s, h1, rfl⟩
    exact ⟨jkey s, List.mem_map.2 ⟨s, h1, rfl⟩, WideAt.sameKey_self (jkey_ok s)⟩
theorem strKeys_mem {H : Type} {es : List (Lit × DataW H)} (hk : ∀ p ∈ es, ∃ x, p.1 = .string x) (x : List UInt8) : x ∈ strKeys (.map es) ↔ has (.map es) (.string x) = true := by
  rw [has_eq, List.any_eq_true]
  show x ∈ es.map (fun p => strOf p.1) ↔ _
  rw [List.mem_map]
  constructor
  · rintro ⟨p, hp, rfl⟩
    obtain ⟨a, ha⟩ := hk p hp
    exact ⟨p, hp, by rw [ha]; simp [Lit.sameKey, strOf]⟩
  · rintro ⟨p, hp, hs⟩
    obtain ⟨a, ha⟩ := hk p hp
    rw [ha] at hs
    exact ⟨p, hp, by rw [ha]; simpa [Lit.sameKey, strOf] using hs⟩
theorem strKeys_nodup {H : Type} {es : List (Lit × DataW H)} (hp : es.Pairwise (fun p q => p.1 ≠ q.1)) (hk : ∀ p ∈ es, ∃ x, p.1 = .string x) : (strKeys (.map es)).Nodup := by
  show (es.map fun p => strOf p.1).Nodup
  refine List.pairwise_map.2 (hp.imp_of_mem fun {p q} hp' hq' hne e => hne ?_)
  obtain ⟨a, ha⟩ := hk p hp'
  obtain ⟨b, hb⟩ := hk q hq'
  rw [ha, hb] at e ⊢
  exact congrArg _ e
theorem sorted_le (ss : List (List UInt8)) : (ss.mergeSort leB).Pairwise fun a b => a ≤ b := by
  have tr : ∀ a b c : List UInt8, leB a b = true → leB b c = true → leB a c = true := fun a b c h1 h2 => by simp only [leB, decide_eq_true_eq] at *; exact List.le_trans h1 h2
  have to : ∀ a b : List UInt8, (leB a b || leB b a) = true := fun a b => by simp only [leB, Bool.or_eq_true, decide_eq_true_eq]; exact List.le_total a b
  exact (List.pairwise_mergeSort tr to ss).imp fun h => of_decide_eq_true h
theorem words_sorted {l : List ByteArray} {ss : List (List UInt8)} (hn : ss.Nodup) (hm : ∀ x, x ∈ ss ↔ ∃ s ∈ l, s.data.toList = x) : (ss.mergeSort leB).map encStr = (jwords l).map Value.string := by
  have hp := List.mergeSort_perm ss leB
  have hn2 : (ss.mergeSort leB).Nodup := hp.nodup_iff.2 hn
  have hs := sorted_le ss
  have hr : Rises ((ss.mergeSort leB).map fun x => (⟨x.toArray⟩ : ByteArray)) := by
    refine List.pairwise_map.2 ?_
    refine (hs.and hn2).imp fun {a b} h => ?_
    rw [sless_iff]
    dsimp only
    rcases Decidable.em (a < b) with h1 | h1
    · exact h1
    · exact absurd (List.le_antisymm h.1 (List.not_lt.1 h1)) h.2
  have he : ((ss.mergeSort leB).map fun x => (⟨x.toArray⟩ : ByteArray)) = jwords l := by
    refine rises_eq hr (jwords_rises l) fun z => ?_
    rw [jwords_mem, List.mem_map]
    constructor
    · rintro ⟨x, hx, rfl⟩
      obtain ⟨s, h1, rfl⟩ := (hm x).1 (hp.mem_iff.1 hx)
      exact h1
    · intro hz
      exact ⟨z.data.toList, hp.mem_iff.2 ((hm _).2 ⟨z, hz, rfl⟩), rfl⟩
  rw [← he, List.map_map]
  rfl
/-- The keys of the set of texts, sorted. -/
theorem words_of {l : List ByteArray} {ss : List (List UInt8)} (hp : ss.Perm (strKeys (jset l))) (hk : ∃ es, jset l = .map es ∧ ∀ p ∈ es, ∃ x, p.1 = .string x) : (ss.mergeSort leB).map encStr = (jwords l).map Value.string := by
  obtain ⟨es, he, hk⟩ := hk
  obtain ⟨es2, he2, ht⟩ := tidy_setOf (.agg [] : DataW Unit) (l.map jkey) (jset_keys l)
  have he3 : jset l = .map es2 := he2
  rw [he] at he3
  injection he3 with he3
  subst he3
  rw [he] at hp
  refine words_sorted (hp.nodup_iff.2 (strKeys_nodup ht hk)) fun x => ?_
  rw [hp.mem_iff, strKeys_mem hk, ← he, jset_has]
/-- The places of words that are all different. -/
def jmap (ws : List ByteArray) (k : Nat) : DataW Unit := (List.range k).foldl (fun D i => D.put (jkey (ws.getD i ⟨#[]⟩)) (.lit (.int .i64 (i : Int)))) (.map [])
theorem jmap_next (ws : List ByteArray) (k : Nat) : jmap ws (k + 1) = (jmap ws k).put (jkey (ws.getD k ⟨#[]⟩)) (.lit (.int .i64 (k : Int))) := by
  unfold jmap
  rw [List.range_succ, List.foldl_append]
  rfl
theorem jmap_isMap (ws : List ByteArray) : ∀ k, IsMap (jmap ws k)
  | 0 => isMap_empty
  | k + 1 => by rw [jmap_next]; exact (jmap_isMap ws k).put _ _
theorem jmap_at {ws : List ByteArray} (hr : Rises ws) (z : DataW Unit) : ∀ {k j : Nat}, k ≤ ws.length → (hj : j < k) → (jmap ws k).atKey (jkey (ws.getD j ⟨#[]⟩)) z = .lit (.int .i64 (j : Int))
  | 0, j, _, hj => absurd hj (Nat.not_lt_zero _)
  | k + 1, j, hk, hj => by
    rw [jmap_next]
    by_cases e : j = k
    · subst e
      exact atKey_put_same (jmap_isMap ws _) (jkey_ok _) _ _
    · rw [atKey_put_other _ _ _, jmap_at hr z (by omega) (by omega)]
      intro h
      have h1 := List.pairwise_iff_getElem.1 hr j k (by omega) (by omega) (by omega)
      have e1 : ws.getD j ⟨#[]⟩ = ws.getD k ⟨#[]⟩ := by
        unfold jkey at h
        injection h with h
        have h2 : ∀ a b : ByteArray, a.data.toList = b.data.toList → a = b := fun a b h => by
          cases a; cases b
          exact congrArg _ (Array.toList_inj.1 h)
        exact h2 _ _ h
      rw [List.getD_eq_getElem?_getD, List.getD_eq_getElem?_getD, List.getElem?_eq_getElem (show j < ws.length by omega), List.getElem?_eq_getElem (show k < ws.length by omega)] at e1
      dsimp only [Option.getD_some] at e1
      rw [e1, sless_not] at h1
      cases h1
theorem jmap_place {ws : List ByteArray} (hr : Rises ws) {s : ByteArray} (hs : s ∈ ws) (z : DataW Unit) : (jmap ws ws.length).atKey (jkey s) z = .lit (.int .i64 (jplace ws s : Int)) := by
  obtain ⟨h1, h2⟩ := jplace_in hs
  have h := jmap_at hr z (Nat.le_refl _) h1
  rw [List.getD_eq_getElem?_getD, List.getElem?_eq_getElem h1] at h
  dsimp only [Option.getD_some] at h
  rw [h2] at h
  exact h
end Go.Proofs.YtblpkmmhmdpkjaaGreatDoor

/- The library's contracts of maps.Keys, slices.Sorted, slices.Sort at texts and of strings.Join, laid at this program's numbers. -/











namespace Go.Proofs

open Go.Shelf
def Tryz.keysA_ren : Go.Shelf.Ren := ⟨fun | 7 => 27 | 10 => 41 | n => n, fun | 23 => 51 | 26 => 9 | 3 => 52 | 28 => 55 | 0 => 0 | 27 => 54 | 33 => 42 | 4 => 4 | n => n, fun | n => n⟩
theorem Tryz.keysA : Go.Proofs.SlLaysZ.n7 Tryz.prog Tryz.keysA_ren := {
  mixed := by kernel_rfl
  f7 := ⟨Tryz.f27.name, by decide, Tryz.func27.trans (congrArg some (by kernel_rfl))⟩
  f10 := ⟨Tryz.f41.name, by decide, Tryz.func41.trans (congrArg some (by kernel_rfl))⟩
  t0 := Tryz.underlying0
  a0 := Tryz.isAgg0
  z0 := Tryz.sizeOf0
  v0 := Tryz.zeroValue0
  t4 := Tryz.underlying4
  a4 := Tryz.isAgg4
  z4 := Tryz.sizeOf4
  v4 := Tryz.zeroValue4
  t23 := Tryz.underlying51
  a23 := Tryz.isAgg51
  z23 := Tryz.sizeOf51
  v23 := Tryz.zeroValue51
  t26 := Tryz.underlying9
  a26 := Tryz.isAgg9
  z26 := Tryz.sizeOf9
  v26 := Tryz.zeroValue9
  t27 := Tryz.underlying54
  a27 := Tryz.isAgg54
  z27 := Tryz.sizeOf54
  v27 := Tryz.zeroValue54
  t28 := Tryz.underlying55
  a28 := Tryz.isAgg55
  z28 := Tryz.sizeOf55
  v28 := Tryz.zeroValue55
  t33 := Tryz.underlying42
  a33 := Tryz.isAgg42
  z33 := Tryz.sizeOf42
  v33 := Tryz.zeroValue42 }
def Tryz.sortedA_ren : Go.Shelf.Ren := ⟨fun | 6 => 26 | 8 => 39 | 9 => 40 | 11 => 57 | 13 => 59 | 12 => 58 | 23 => 93 | 24 => 94 | 14 => 84 | 15 => 85 | 16 => 86 | 17 => 87 | 18 => 88 | 19 => 89 | 20 => 90 | 21 => 91 | 22 => 92 | 25 => 111 | 26 => 112 | 27 => 113 | 28 => 114 | 29 => 115 | 30 => 116 | 31 => 130 | n => n, fun | 26 => 9 | 28 => 55 | 24 => 22 | 0 => 0 | 3 => 3 | 37 => 85 | 48 => 126 | 50 => 101 | 4 => 4 | 40 => 118 | 39 => 117 | 45 => 123 | 5 => 5 | 9 => 9 | 51 => 148 | 55 => 152 | 57 => 160 | 58 => 161 | 33 => 42 | n => n, fun | n => n⟩
theorem Tryz.sortedA : Go.Proofs.SlLaysZ.n6 Tryz.prog Tryz.sortedA_ren := {
  mixed := by kernel_rfl
  f6 := ⟨Tryz.f26.name, by decide, Tryz.func26.trans (congrArg some (by kernel_rfl))⟩
  f8 := ⟨Tryz.f39.name, by decide, Tryz.func39.trans (congrArg some (by kernel_rfl))⟩
  f11 := ⟨Tryz.f57.name, by decide, Tryz.func57.trans (congrArg some (by kernel_rfl))⟩
  t0 := Tryz.underlying0
  a0 := Tryz.isAgg0
  z0 := Tryz.sizeOf0
  v0 := Tryz.zeroValue0
  t24 := Tryz.underlying22
  a24 := Tryz.isAgg22
  z24 := Tryz.sizeOf22
  v24 := Tryz.zeroValue22
  t26 := Tryz.underlying9
  a26 := Tryz.isAgg9
  z26 := Tryz.sizeOf9
  v26 := Tryz.zeroValue9
  t28 := Tryz.underlying55
  a28 := Tryz.isAgg55
  z28 := Tryz.sizeOf55
  v28 := Tryz.zeroValue55
  i26 := by kernel_rfl }
def Tryz.sortA_ren : Go.Shelf.Ren := ⟨fun | 6 => 40 | 8 => 59 | 9 => 58 | 19 => 93 | 20 => 94 | 21 => 84 | 22 => 85 | 23 => 86 | 24 => 87 | 25 => 88 | 26 => 89 | 27 => 90 | 28 => 91 | 29 => 92 | 36 => 111 | 31 => 112 | 32 => 113 | 37 => 114 | 38 => 115 | 39 => 116 | 41 => 130 | n => n, fun | 27 => 22 | 29 => 9 | 3 => 3 | 32 => 85 | 26 => 22 | 0 => 0 | 44 => 126 | 46 => 101 | 4 => 4 | 36 => 118 | 35 => 117 | 41 => 123 | 5 => 5 | 9 => 9 | 53 => 148 | 57 => 152 | 63 => 160 | 64 => 161 | n => n, fun | n => n⟩
theorem Tryz.sortA : Go.Proofs.SlLaysM.n6 Tryz.prog Tryz.sortA_ren := {
  mixed := by kernel_rfl
  f6 := ⟨Tryz.f40.name, by decide, Tryz.func40.trans (congrArg some (by kernel_rfl))⟩
  f8 := Tryz.func59.trans (congrArg some (by kernel_rfl))
  f9 := ⟨Tryz.f58.name, by decide, Tryz.func58.trans (congrArg some (by kernel_rfl))⟩
  f19 := Tryz.func93.trans (congrArg some (by kernel_rfl))
  f20 := Tryz.func94.trans (congrArg some (by kernel_rfl))
  f21 := ⟨Tryz.f84.name, by decide, Tryz.func84.trans (congrArg some (by kernel_rfl))⟩
  f22 := ⟨Tryz.f85.name, by decide, Tryz.func85.trans (congrArg some (by kernel_rfl))⟩
  f23 := ⟨Tryz.f86.name, by decide, Tryz.func86.trans (congrArg some (by kernel_rfl))⟩
  f24 := ⟨Tryz.f87.name, by decide, Tryz.func87.trans (congrArg some (by kernel_rfl))⟩
  f25 := ⟨Tryz.f88.name, by decide, Tryz.func88.trans (congrArg some (by kernel_rfl))⟩
  f26 := ⟨Tryz.f89.name, by decide, Tryz.func89.trans (congrArg some (by kernel_rfl))⟩
  f27 := ⟨Tryz.f90.name, by decide, Tryz.func90.trans (congrArg some (by kernel_rfl))⟩
  f28 := ⟨Tryz.f91.name, by decide, Tryz.func91.trans (congrArg some (by kernel_rfl))⟩
  f29 := ⟨Tryz.f92.name, by decide, Tryz.func92.trans (congrArg some (by kernel_rfl))⟩
  f31 := Tryz.func112.trans (congrArg some (by kernel_rfl))
  f32 := Tryz.func113.trans (congrArg some (by kernel_rfl))
  f36 := ⟨Tryz.f111.name, by decide, Tryz.func111.trans (congrArg some (by kernel_rfl))⟩
  f37 := ⟨Tryz.f114.name, by decide, Tryz.func114.trans (congrArg some (by kernel_rfl))⟩
  f38 := ⟨Tryz.f115.name, by decide, Tryz.func115.trans (congrArg some (by kernel_rfl))⟩
  f39 := ⟨Tryz.f116.name, by decide, Tryz.func116.trans (congrArg some (by kernel_rfl))⟩
  f41 := ⟨Tryz.f130.name, by decide, Tryz.func130.trans (congrArg some (by kernel_rfl))⟩
  t0 := Tryz.underlying0
  a0 := Tryz.isAgg0
  z0 := Tryz.sizeOf0
  v0 := Tryz.zeroValue0
  t3 := Tryz.underlying3
  a3 := Tryz.isAgg3
  z3 := Tryz.sizeOf3
  v3 := Tryz.zeroValue3
  t4 := Tryz.underlying4
  a4 := Tryz.isAgg4
  z4 := Tryz.sizeOf4
  v4 := Tryz.zeroValue4
  t5 := Tryz.underlying5
  a5 := Tryz.isAgg5
  z5 := Tryz.sizeOf5
  v5 := Tryz.zeroValue5
  t9 := Tryz.underlying9
  a9 := Tryz.isAgg9
  z9 := Tryz.sizeOf9
  v9 := Tryz.zeroValue9
  t26 := Tryz.underlying22
  a26 := Tryz.isAgg22
  z26 := Tryz.sizeOf22
  v26 := Tryz.zeroValue22
  t27 := Tryz.underlying22
  a27 := Tryz.isAgg22
  z27 := Tryz.sizeOf22
  v27 := Tryz.zeroValue22
  t29 := Tryz.underlying9
  a29 := Tryz.isAgg9
  z29 := Tryz.sizeOf9
  v29 := Tryz.zeroValue9
  t32 := Tryz.underlying85
  a32 := Tryz.isAgg85
  z32 := Tryz.sizeOf85
  v32 := Tryz.zeroValue85
  t35 := Tryz.underlying117
  a35 := Tryz.isAgg117
  z35 := Tryz.sizeOf117
  v35 := Tryz.zeroValue117
  t36 := Tryz.underlying118
  a36 := Tryz.isAgg118
  z36 := Tryz.sizeOf118
  v36 := Tryz.zeroValue118
  t41 := Tryz.underlying123
  a41 := Tryz.isAgg123
  z41 := Tryz.sizeOf123
  v41 := Tryz.zeroValue123
  t44 := Tryz.underlying126
  a44 := Tryz.isAgg126
  z44 := Tryz.sizeOf126
  v44 := Tryz.zeroValue126
  t46 := Tryz.underlying101
  a46 := Tryz.isAgg101
  z46 := Tryz.sizeOf101
  v46 := Tryz.zeroValue101
  t53 := Tryz.underlying148
  a53 := Tryz.isAgg148
  z53 := Tryz.sizeOf148
  v53 := Tryz.zeroValue148
  t57 := Tryz.underlying152
  a57 := Tryz.isAgg152
  z57 := Tryz.sizeOf152
  v57 := Tryz.zeroValue152
  t63 := Tryz.underlying160
  a63 := Tryz.isAgg160
  z63 := Tryz.sizeOf160
  v63 := Tryz.zeroValue160
  t64 := Tryz.underlying161
  a64 := Tryz.isAgg161
  z64 := Tryz.sizeOf161
  v64 := Tryz.zeroValue161 }
def Tryz.lays156_ren : Go.Shelf.Ren := ⟨fun | 156 => 47 | 165 => 67 | 166 => 68 | 169 => 69 | 240 => 102 | 241 => 103 | 276 => 120 | 277 => 121 | n => n, fun | 31 => 22 | 9 => 9 | 3 => 3 | 4 => 4 | 0 => 0 | 20 => 20 | 72 => 94 | 76 => 98 | 70 => 92 | 37 => 38 | 75 => 97 | 127 => 137 | 164 => 158 | 5 => 5 | 80 => 100 | n => n, fun | n => n⟩
theorem Tryz.lays156 : Go.Proofs.Lays.n156 Tryz.prog Tryz.lays156_ren := {
  mixed := by kernel_rfl
  f156 := Tryz.func47.trans (congrArg some (by kernel_rfl))
  f165 := Tryz.func67.trans (congrArg some (by kernel_rfl))
  f166 := Tryz.func68.trans (congrArg some (by kernel_rfl))
  f169 := Tryz.func69.trans (congrArg some (by kernel_rfl))
  f240 := Tryz.func102.trans (congrArg some (by kernel_rfl))
  f241 := Tryz.func103.trans (congrArg some (by kernel_rfl))
  f276 := Tryz.func120.trans (congrArg some (by kernel_rfl))
  f277 := Tryz.func121.trans (congrArg some (by kernel_rfl))
  t0 := Tryz.underlying0
  a0 := Tryz.isAgg0
  z0 := Tryz.sizeOf0
  v0 := Tryz.zeroValue0
  t3 := Tryz.underlying3
  a3 := Tryz.isAgg3
  z3 := Tryz.sizeOf3
  v3 := Tryz.zeroValue3
  t4 := Tryz.underlying4
  a4 := Tryz.isAgg4
  z4 := Tryz.sizeOf4
  v4 := Tryz.zeroValue4
  t9 := Tryz.underlying9
  a9 := Tryz.isAgg9
  z9 := Tryz.sizeOf9
  v9 := Tryz.zeroValue9
  t20 := Tryz.underlying20
  a20 := Tryz.isAgg20
  z20 := Tryz.sizeOf20
  v20 := Tryz.zeroValue20
  t31 := Tryz.underlying22
  a31 := Tryz.isAgg22
  z31 := Tryz.sizeOf22
  v31 := Tryz.zeroValue22
  t37 := Tryz.underlying38
  a37 := Tryz.isAgg38
  z37 := Tryz.sizeOf38
  v37 := Tryz.zeroValue38
  t70 := Tryz.underlying92
  a70 := Tryz.isAgg92
  z70 := Tryz.sizeOf92
  v70 := Tryz.zeroValue92
  t72 := Tryz.underlying94
  a72 := Tryz.isAgg94
  z72 := Tryz.sizeOf94
  v72 := Tryz.zeroValue94
  t75 := Tryz.underlying97
  a75 := Tryz.isAgg97
  z75 := Tryz.sizeOf97
  v75 := Tryz.zeroValue97
  t76 := Tryz.underlying98
  a76 := Tryz.isAgg98
  z76 := Tryz.sizeOf98
  v76 := Tryz.zeroValue98
  t127 := Tryz.underlying137
  a127 := Tryz.isAgg137
  z127 := Tryz.sizeOf137
  v127 := Tryz.zeroValue137
  t164 := Tryz.underlying158
  a164 := Tryz.isAgg158
  z164 := Tryz.sizeOf158
  v164 := Tryz.zeroValue158 }
theorem Tryz.bldExtra : Builder.Extra Tryz.prog Tryz.lays156_ren := {
  sizeBuilder := by kernel_rfl
  liesBuilder := by kernel_rfl
  t5 := Tryz.underlying5
  a5 := Tryz.isAgg5
  z5 := Tryz.sizeOf5
  v5 := Tryz.zeroValue5
  infoByte := by kernel_rfl
  cellsByte := by kernel_rfl
  sizeByte := by kernel_rfl
  neB5 := by decide }
end Go.Proofs

/- texts' own contract of Words: a set of texts; its keys, sorted (maps.Keys, slices.Sorted of the library). -/









namespace Go.Proofs.YtblpkmmhmdpkjaaGreatDoor

open Go.RowKit Go.Maps Go.Sort Go.Shelf

theorem jsorts (m : Nat) : AnyZ.SortsIn Tryz.prog Tryz.sortedA_ren Fence.wide m :=
  ⟨fun blk off cap ss W hH hblk hsz => callsIn_wide.2 (AnyM.slices_Sort_string Tryz.sortA blk off cap ss W hH hblk hsz),
   fun p cap W => callsIn_wide.2 (AnyM.slices_Sort_string_none Tryz.sortA p cap W)⟩
theorem jkeys_any (mb : Option Nat) (W : World) : Calls Tryz.prog 27 #[.map mb] W fun e w' => e = .returned (.func (.func 41) #[] #[.pointer (some ⟨W.heap.size, 0, none⟩)]) ∧ w' = W.alloc (.cells #[.map mb] 51) :=
  (callsIn_wide (n := 5)).1 (AnyZ.keys_in Tryz.keysA Fence.wide 5 trivial rfl mb W)
theorem Tryz.keyS : Keyed Tryz.prog 9 := string_keyed Tryz.underlying9
theorem jsorted_any (l : List ByteArray) (b nn : Nat) (w : World) (hown : w.ownsMap Tryz.prog 9 unitElem b nn (jset l)) (hn : nn ≤ 1000000) :
    Calls Tryz.prog 26 #[.func (.func 41) #[] #[.pointer (some ⟨w.heap.size, 0, none⟩)]] (w.alloc (.cells #[.map (some b)] 51)) fun e w' =>
      ∃ v n, e = .returned v ∧ w'.ownsRow w.heap.size 9 1 v n ((jwords l).map Value.string) ∧ Below w.heap.size w w' := by
  have hbl := hown.lt
  have hsz : Maps.size (jset l) ≤ nn := hown.size_le
  have hkeys : ∃ es, jset l = .map es ∧ ∀ p ∈ es, ∃ x, p.1 = .string x := by
    obtain ⟨es, he, hk⟩ := hown.keysOf
    refine ⟨es, he, fun p hp => ?_⟩
    obtain ⟨key, hkey⟩ := hk p hp
    obtain ⟨x, _, hx, _⟩ := Maps.keyOf_str Tryz.underlying9 hkey
    exact ⟨x, hx⟩
  have hseq : SeqGives Fence.wide 2 Tryz.prog 41 #[.pointer (some ⟨w.heap.size, 0, none⟩)] encStr (fun ss => ss.Perm (strKeys (jset l))) (Maps.size (jset l)) (w.alloc (.cells #[.map (some b)] 51)) :=
    AnyZ.keys_gives (ρ := Tryz.keysA_ren) { Tryz.keysA with } Fence.wide _ trivial rfl (by omega) w.heap.size b nn (jset l) _ (by simp) (by simp) (by
      obtain ⟨es, clock, hb, Ft, hs, hD⟩ := hown
      exact ⟨es, clock, (Below.heap_alloc _ _ b hbl).trans hb, Ft, hs, hD⟩)
  have cS := AnyZ.sorted_in Tryz.sortedA Fence.wide 5 trivial trivial trivial trivial rfl (by omega) (jsorts _) (enters_of Tryz.func40 (by kernel_rfl) rfl) 41 #[.pointer (some ⟨w.heap.size, 0, none⟩)] trivial (enters_of Tryz.func41 (by kernel_rfl) rfl) _ _ (by unfold maxLen; omega) (by omega) _ hseq
  refine (callsIn_wide.1 cS).mono ?_
  rintro e w' ⟨v, ss, rfl, hS, hrow, _, hb⟩
  rw [words_of hS hkeys] at hrow
  exact ⟨v, _, rfl, ownsRow_base_a hrow (by simp), ((Below.refl _ w).alloc (Nat.le_refl _) _).trans (hb.mono (by simp))⟩
def JWRel (l : List ByteArray) (w : World) (i : Value) (wr : World) : Prop :=
  ∃ k : Nat, k ≤ l.length ∧ i = .int .i64 (k : Int) ∧ wr.ownsMap Tryz.prog 9 unitElem w.heap.size k (jset (l.take k)) ∧ Below w.heap.size w wr
set_option maxHeartbeats 1000000 in
set_option maxRecDepth 100000 in
theorem jwords_own (l : List ByteArray) (v : Value) (w : World) (hv : IsV Value.string l v w) (hs : ∀ s ∈ l, s.size ≤ maxLen) (hb : l.length ≤ 1000000) : Calls Tryz.prog 14 #[v] w (RetTO w (jwords l)) := by
  obtain ⟨A, n, c, rfl⟩ := hv.shape
  have HN := Lib.hid hv.parts.1
  have HV := Lib.hid hv
  have HS := Lib.hid hs
  have hn6 : n ≤ 1000000 := by have := HN.out; omega
  have hst : JWRel l w (.int .i64 0) (w.alloc (.map #[] 0)) := ⟨0, Nat.zero_le _, rfl, World.ownsMap_made _ _ _ _, (Below.refl _ _).alloc (Nat.le_refl _) _⟩
  have HST := Lib.hid hst
  have hmm := @run_makeMap Tryz.prog
  clear hv hb hs hst
  go_enter Tryz.func14, Tryz.ntmps14
  go_wp2
  go_loopw [9] (JWRel l w) (fun i _ => n - (intOf i).toNat)
  case atStart => exact HST.out
  case round =>
    obtain ⟨k, hk, rfl, hown, hbw⟩ := hrel
    clear HST hmm
    have hkn : k ≤ n := by have := HN.out; omega
    have hz := hbw.size
    by_cases hlt : k < n
    · have hkl : k < l.length := by have := HN.out; omega
      have hlti : (k : Int) < (n : Int) := by omega
      obtain ⟨ad, rfl, had, hcell⟩ := (HV.out.below hbw).at hkl
      obtain ⟨x, hx⟩ : ∃ x, x = l[k] := ⟨_, rfl⟩
      rw [← hx] at hcell
      have hkey : keyOf Tryz.prog 9 (.string x) = some (jkey x) := Go.WideMaps.keyOf_string_mk Tryz.underlying9 (by rw [hx]; exact HS.out _ (List.getElem_mem hkl))
      have HNX := Lib.hid (jset_next hkl)
      rw [← hx] at HNX
      clear hx had
      go_wp2_with (first | (at_mapUpdate; refine wpList_mapUpdate_own _ rfl _ _ _ 51 rfl 9 52 Tryz.keyS Tryz.underlying51 unitElem w.heap.size k _ rfl hown (by unfold maxLen; omega) _ _ _ rfl rfl hkey _ [] unitElem_mk ?_) | go_in)
      intro w1 hown1 hgrow1
      have HO := Lib.hid hown1
      rw [← HNX.out] at HO
      have HB := Lib.hid (hbw.grown hgrow1 hz (fun j hj => by cases hj; exact Nat.le_refl _))
      clear hown1 hgrow1 hown hcell
      go_wp2
      go_roundw
      case rel => exact ⟨k + 1, hkl, by go_num, HO.out, HB.out⟩
      case measure => simp [intOf]; omega
    · obtain rfl : k = n := by omega
      have hlti : ¬ (k : Int) < (k : Int) := by omega
      have HT := Lib.hid (show l.take k = l from List.take_of_length_le (by have := HN.out; omega))
      rw [HT.out] at hown
      have HSO := Lib.hid (jsorted_any l w.heap.size k wr hown hn6)
      have HBW := Lib.hid hbw
      clear hown hbw
      go_wp2_with fail
      refine (jkeys_any _ _).mono ?_
      rintro e w' ⟨rfl, rfl⟩
      go_wp2_with fail
      refine HSO.out.mono ?_
      rintro e w2 ⟨v2, m, rfl, hrow, hb2⟩
      have HR := Lib.hid (show OwnV Value.string 9 w (jwords l) v2 w2 from ⟨m, ownsRow_base_a hrow (by omega)⟩)
      have HB2 := Lib.hid (below_then HBW.out hb2)
      clear hrow hb2
      go_wp2
      go_ret
      exact ⟨_, rfl, HR.out, HB2.out⟩
end Go.Proofs.YtblpkmmhmdpkjaaGreatDoor

/- texts' own contracts: size; layDictionary's closure; row, with each of the two; joined (strings.Join of the library). Written by gen_jrow.py. -/









namespace Go.Proofs.YtblpkmmhmdpkjaaGreatDoor

open Go.RowKit Go.Maps

theorem jsize_any (s : ByteArray) (w : World) : Calls Tryz.prog 35 #[.string s] w fun e w' => e = .returned (.int .i64 (s.size : Int)) ∧ w = w' := by
  go_enter Tryz.func35, Tryz.ntmps35
  go_wp2
  go_ret
  exact ⟨rfl, rfl⟩
theorem zeroI (w : World) : (zeroValue 3).run Tryz.prog w = .ok (.int .i64 0) w := by kernel_rfl
/-- The map of words to places lies in the variable at block b, itself in block B. -/
structure PlaceMap (ws : List ByteArray) (b B : Nat) (w : World) : Prop where
  box : Row w b 67 [.map (some B)]
  own : w.ownsMap Tryz.prog 9 (plainElem Tryz.prog 3) B ws.length (jmap ws ws.length)
theorem PlaceMap.below {ws : List ByteArray} {b B : Nat} {w w' : World} (h : PlaceMap ws b B w) (hb : Below w.heap.size w w') : PlaceMap ws b B w' := by
  refine ⟨h.box.below hb h.box.lt, ?_⟩
  have hlt := h.own.lt
  obtain ⟨es, clock, h1, r⟩ := h.own
  exact ⟨es, clock, (hb.block B hlt).trans h1, r⟩
theorem jplace1_any (ws : List ByteArray) (s : ByteArray) (b B : Nat) (w : World) (hm : PlaceMap ws b B w) (hr : Rises ws) (hs : s ∈ ws) (hz : s.size ≤ maxLen) :
    Calls Tryz.prog 36 #[.string s, .pointer (some ⟨b, 0, none⟩)] w fun e w' => e = .returned (.int .i64 (jplace ws s : Int)) ∧ w = w' := by
  obtain ⟨c, hrun, hat, _⟩ := hm.own.lookup_int Tryz.keyS Tryz.underlying67 Tryz.underlying3 (zeroI _) (Go.WideMaps.keyOf_string_mk Tryz.underlying9 hz)
  have hj := jmap_place hr hs (.lit (.int .i64 0))
  unfold jkey at hj
  rw [hj] at hat
  injection hat with hat
  injection hat with _ hat
  subst hat
  have hc : w.cell? ⟨b, 0, none⟩ = some (.map (some B)) := hm.box.cell 0
  clear hj hm hr hs hz
  go_enter Tryz.func36, Tryz.ntmps36
  go_wp2
  go_ret
  exact ⟨rfl, rfl⟩
theorem jset_take {α : Type} (o : List α) (k : Nat) (x : α) (h : k < o.length) : (o.set k x).take (k + 1) = o.take k ++ [x] := by
  rw [List.take_succ_eq_append_getElem (by simpa using h), List.take_set_of_le (Nat.le_refl _)]
  simp
def JRowRel (T : List Int) (m g : Nat) (w : World) (i : Value) (wr : World) : Prop :=
  ∃ (k : Nat) (o : List Int), k ≤ m ∧ i = .int .i64 (k : Int) ∧ o.length = m ∧ o.take k = T.take k ∧ Row wr g 3 (o.map iv) ∧ Below g w wr
set_option maxHeartbeats 2000000 in
set_option maxRecDepth 100000 in
theorem jrowsize_any (l : List ByteArray) (v : Value) (w : World) (ht : WTab w) (hv : IsV Value.string l v w) (hb : l.length ≤ 4096) (hs : ∀ s ∈ l, s.size ≤ 300) :
    Calls Tryz.prog 34 #[v, .func (.func 35) #[] #[]] w fun e w' => ∃ u, e = .returned u ∧ IsB (uputE (jlens l) false).1 u w' ∧ Below w.heap.size w w' := by
  obtain ⟨A, n, c, rfl⟩ := hv.shape
  have HN := Lib.hid hv.parts.1
  have HV := Lib.hid hv
  have HT := Lib.hid ht
  have HSZ := Lib.hid hs
  have hn6 : n ≤ 4096 := by have := HN.out; omega
  obtain ⟨T, hT⟩ : ∃ T, T = (jlens l) := ⟨_, rfl⟩
  have HTL := Lib.hid (show T.length = n by rw [hT, jlens, List.length_map]; exact HN.out)
  have HTI := Lib.hid (show ∀ x ∈ T, inInt x by
    intro x hx
    rw [hT, jlens] at hx
    obtain ⟨s, h1, rfl⟩ := List.mem_map.1 hx
    have := hs s h1
    unfold inInt
    omega)
  have HTN := Lib.hid (show ∀ k, (hk : k < l.length) → T.take (k + 1) = T.take k ++ [(l[k].size : Int)] by
    intro k hk
    rw [List.take_succ_eq_append_getElem (by rw [HTL.out, ← HN.out]; exact hk)]
    simp [hT, jlens])
  rw [← hT]
  clear hv hb ht hs hT
  go_enter Tryz.func34, Tryz.ntmps34
  go_wp2_with (refine wpList_make elemI rfl _ _ rfl _ _ _ _ n w w.heap.size rfl rfl rfl rfl (by omega) (by omega) (Below.refl _ _) (Nat.le_refl _) ?_)
  intro w1 hr1 hb1
  have HST := Lib.hid (show JRowRel T n w.heap.size w (.int .i64 0) w1 from ⟨0, List.replicate n 0, by omega, rfl, by simp, by simp, by rw [List.map_replicate]; exact hr1, hb1⟩)
  clear hr1 hb1
  go_wp2
  go_loopw [15] (JRowRel T n w.heap.size w) (fun i _ => n - (intOf i).toNat)
  case atStart => exact HST.out
  case round =>
    obtain ⟨k, o, hk, rfl, ho, hok, hr, hbr⟩ := hrel
    clear HST
    have HO := Lib.hid ho
    have HOK := Lib.hid hok
    clear ho hok
    by_cases hlt : k < n
    · have hkl : k < l.length := by have := HN.out; omega
      have hlti : (k : Int) < (n : Int) := by omega
      obtain ⟨ad, rfl, had, hcell⟩ := (HV.out.below hbr).at hkl
      obtain ⟨x, hx⟩ : ∃ x, x = l[k] := ⟨_, rfl⟩
      rw [← hx] at hcell
      have hxm : x ∈ l := by rw [hx]; exact List.getElem_mem hkl
      have HTK := Lib.hid (HTN.out k hkl)
      rw [← hx] at HTK
      have hko : k < o.length := by have := HO.out; omega
      have hcx : wr.cell? ⟨w.heap.size, k, none⟩ = some (iv o[k]) := by rw [hr.cell, List.getElem?_map, List.getElem?_eq_getElem hko]; rfl
      have hfx := hr.free k
      have HCL := Lib.hid (jsize_any x wr)
      have hr2 := hr.set_ k (iv (x.size : Int))
      rw [show (o.map iv).set k (iv (x.size : Int)) = (o.set k (x.size : Int)).map iv from List.map_set.symm] at hr2
      have HR2 := Lib.hid hr2
      have HBR := Lib.hid hbr
      clear hr2 hr hx hxm had hbr
      go_wp2_with fail
      refine HCL.out.mono ?_
      rintro e w2 ⟨rfl, rfl⟩
      go_wp2
      go_roundw
      case rel =>
        refine ⟨k + 1, o.set k (x.size : Int), by omega, by go_num, by rw [List.length_set]; exact HO.out, ?_, HR2.out, HBR.out.setCell (Nat.le_refl _) _⟩
        rw [jset_take _ _ _ hko, HOK.out, HTK.out]
      case measure => simp [intOf]; omega
    · obtain rfl : k = n := by omega
      have hlti : ¬ (k : Int) < (k : Int) := by omega
      have hT2 : o = T := by
        have h1 := HOK.out
        rw [List.take_of_length_le (by rw [HO.out]; omega), List.take_of_length_le (by rw [HTL.out]; omega)] at h1
        exact h1
      subst hT2
      have HI := Lib.hid (isV_row (f := iv) hr HO.out (by omega))
      have HBR := Lib.hid (hbr.mono (Nat.le_refl _))
      have HTT := Lib.hid (HT.out.below hbr HT.out.lt)
      have HU := Lib.hid (uput_any o _ false wr HTT.out HI.out HTI.out (by rw [HO.out]; omega))
      clear hr hbr
      go_wp2_with fail
      refine HU.out.mono ?_
      rintro e w2 ⟨u, rfl, hu, hb2⟩
      have HB := Lib.hid hu
      have HB2 := Lib.hid (below_then HBR.out hb2)
      clear hu hb2
      go_wp2
      go_ret
      exact ⟨_, rfl, HB.out, HB2.out⟩
set_option maxHeartbeats 2000000 in
set_option maxRecDepth 100000 in
theorem jrowplace_any (ws l : List ByteArray) (b B : Nat) (v : Value) (w : World) (ht : WTab w) (hv : IsV Value.string l v w) (hb : l.length ≤ 4096) (hs : ∀ s ∈ l, s.size ≤ 300) (hpm : PlaceMap ws b B w) (hri : Rises ws) (hmm : ∀ s ∈ l, s ∈ ws) (hwl : ws.length ≤ 4096) :
    Calls Tryz.prog 34 #[v, .func (.func 36) #[] #[.pointer (some ⟨b, 0, none⟩)]] w fun e w' => ∃ u, e = .returned u ∧ IsB (uputE (jplaces ws l) false).1 u w' ∧ Below w.heap.size w w' := by
  obtain ⟨A, n, c, rfl⟩ := hv.shape
  have HN := Lib.hid hv.parts.1
  have HV := Lib.hid hv
  have HT := Lib.hid ht
  have HSZ := Lib.hid hs
  have hn6 : n ≤ 4096 := by have := HN.out; omega
  have HPM := Lib.hid hpm
  have HRI := Lib.hid hri
  have HMM := Lib.hid hmm
  have HWL := Lib.hid hwl
  obtain ⟨T, hT⟩ : ∃ T, T = (jplaces ws l) := ⟨_, rfl⟩
  have HTL := Lib.hid (show T.length = n by rw [hT, jplaces, List.length_map]; exact HN.out)
  have HTI := Lib.hid (show ∀ x ∈ T, inInt x by
    intro x hx
    rw [hT, jplaces] at hx
    obtain ⟨s, h1, rfl⟩ := List.mem_map.1 hx
    obtain ⟨h3, _⟩ := jplace_in (HMM.out s h1)
    have := HWL.out
    unfold inInt
    omega)
  have HTN := Lib.hid (show ∀ k, (hk : k < l.length) → T.take (k + 1) = T.take k ++ [(jplace ws l[k] : Int)] by
    intro k hk
    rw [List.take_succ_eq_append_getElem (by rw [HTL.out, ← HN.out]; exact hk)]
    simp [hT, jplaces])
  rw [← hT]
  clear hv hb ht hs hT hpm hri hmm hwl
  go_enter Tryz.func34, Tryz.ntmps34
  go_wp2_with (refine wpList_make elemI rfl _ _ rfl _ _ _ _ n w w.heap.size rfl rfl rfl rfl (by omega) (by omega) (Below.refl _ _) (Nat.le_refl _) ?_)
  intro w1 hr1 hb1
  have HST := Lib.hid (show JRowRel T n w.heap.size w (.int .i64 0) w1 from ⟨0, List.replicate n 0, by omega, rfl, by simp, by simp, by rw [List.map_replicate]; exact hr1, hb1⟩)
  clear hr1 hb1
  go_wp2
  go_loopw [15] (JRowRel T n w.heap.size w) (fun i _ => n - (intOf i).toNat)
  case atStart => exact HST.out
  case round =>
    obtain ⟨k, o, hk, rfl, ho, hok, hr, hbr⟩ := hrel
    clear HST
    have HO := Lib.hid ho
    have HOK := Lib.hid hok
    clear ho hok
    by_cases hlt : k < n
    · have hkl : k < l.length := by have := HN.out; omega
      have hlti : (k : Int) < (n : Int) := by omega
      obtain ⟨ad, rfl, had, hcell⟩ := (HV.out.below hbr).at hkl
      obtain ⟨x, hx⟩ : ∃ x, x = l[k] := ⟨_, rfl⟩
      rw [← hx] at hcell
      have hxm : x ∈ l := by rw [hx]; exact List.getElem_mem hkl
      have HTK := Lib.hid (HTN.out k hkl)
      rw [← hx] at HTK
      have hko : k < o.length := by have := HO.out; omega
      have hcx : wr.cell? ⟨w.heap.size, k, none⟩ = some (iv o[k]) := by rw [hr.cell, List.getElem?_map, List.getElem?_eq_getElem hko]; rfl
      have hfx := hr.free k
      have HCL := Lib.hid (jplace1_any ws x b B wr (HPM.out.below hbr) HRI.out (HMM.out x hxm) (by have := HSZ.out x hxm; unfold maxLen; omega))
      obtain ⟨p, hp⟩ : ∃ p, p = jplace ws x := ⟨_, rfl⟩
      rw [← hp] at HCL HTK
      clear hp
      have hr2 := hr.set_ k (iv (p : Int))
      rw [show (o.map iv).set k (iv (p : Int)) = (o.set k (p : Int)).map iv from List.map_set.symm] at hr2
      have HR2 := Lib.hid hr2
      have HBR := Lib.hid hbr
      clear hr2 hr hx hxm had hbr
      go_wp2_with fail
      refine HCL.out.mono ?_
      rintro e w2 ⟨rfl, rfl⟩
      go_wp2
      go_roundw
      case rel =>
        refine ⟨k + 1, o.set k (p : Int), by omega, by go_num, by rw [List.length_set]; exact HO.out, ?_, HR2.out, HBR.out.setCell (Nat.le_refl _) _⟩
        rw [jset_take _ _ _ hko, HOK.out, HTK.out]
      case measure => simp [intOf]; omega
    · obtain rfl : k = n := by omega
      have hlti : ¬ (k : Int) < (k : Int) := by omega
      have hT2 : o = T := by
        have h1 := HOK.out
        rw [List.take_of_length_le (by rw [HO.out]; omega), List.take_of_length_le (by rw [HTL.out]; omega)] at h1
        exact h1
      subst hT2
      have HI := Lib.hid (isV_row (f := iv) hr HO.out (by omega))
      have HBR := Lib.hid (hbr.mono (Nat.le_refl _))
      have HTT := Lib.hid (HT.out.below hbr HT.out.lt)
      have HU := Lib.hid (uput_any o _ false wr HTT.out HI.out HTI.out (by rw [HO.out]; omega))
      clear hr hbr
      go_wp2_with fail
      refine HU.out.mono ?_
      rintro e w2 ⟨u, rfl, hu, hb2⟩
      have HB := Lib.hid hu
      have HB2 := Lib.hid (below_then HBR.out hb2)
      clear hu hb2
      go_wp2
      go_ret
      exact ⟨_, rfl, HB.out, HB2.out⟩
theorem join_bytes : ∀ l : List ByteArray, Lib.join (l.map (·.data.toList)) (⟨#[]⟩ : ByteArray).data.toList = jbytes l
  | [] => rfl
  | x :: l => by
    have h : ∀ r : List ByteArray, Lib.joinTail [] (r.map (·.data.toList)) = jbytes r := by
      intro r
      unfold Lib.joinTail jbytes
      rw [List.flatMap_def, List.map_map]
      congr 1
      refine List.map_congr_left fun y _ => ?_
      rw [ByteArray.toList_eq]
      rfl
    show Lib.join (x.data.toList :: l.map (·.data.toList)) [] = _
    rw [Lib.join_cons, h]
    unfold jbytes
    rw [List.flatMap_cons, ByteArray.toList_eq]
theorem isB_conv (s : ByteArray) (w : World) (e : TypeId) (hs : s.size ≤ maxLen) : IsB s.data.toList (.slice (some ⟨w.heap.size, 0, none⟩) s.size (grownCap w s.size 0 e)) (Lib.bytesWorld w e s) := by
  refine ⟨_, _, rfl, by simp, ?_, grownCap_le_maxLen _ _ _ _ hs, .inr ⟨_, rfl, by simp [Lib.bytesWorld_size], fun j u hu => ?_⟩⟩
  · show s.data.toList.length ≤ _
    rw [Array.length_toList]
    exact grownCap_ge _ _ _ _
  · rw [List.getElem?_map, Option.map_eq_some_iff] at hu
    obtain ⟨y, hy, rfl⟩ := hu
    have hj : j < s.size := by
      have h := (List.getElem?_eq_some_iff.1 hy).1
      rwa [Array.length_toList] at h
    have he : (⟨w.heap.size, 0, none⟩ : Addr).add j = ⟨w.heap.size, j, none⟩ := by unfold Addr.add; split <;> simp_all
    rw [he, Lib.bytesWorld_cell w e s j hj, List.getD_eq_getElem?_getD, hy]
    rfl
theorem below_conv (s : ByteArray) (w : World) (e : TypeId) : Below w.heap.size w (Lib.bytesWorld w e s) := ⟨rfl, rfl, rfl, by rw [Lib.bytesWorld_size]; omega, fun k hk => Lib.bytesWorld_at_old w e s k hk⟩
set_option maxHeartbeats 1000000 in
theorem jjoined_any (l : List ByteArray) (v : Value) (w : World) (hv : IsV Value.string l v w) (hb : l.length ≤ 4096) (hs : ∀ s ∈ l, s.size ≤ 300) :
    Calls Tryz.prog 33 #[v] w fun e w' => ∃ u, e = .returned u ∧ IsB (jbytes l) u w' ∧ Below w.heap.size w w' := by
  obtain ⟨A, n, c, rfl⟩ := hv.shape
  have hn := hv.parts.1
  have hjl : (jbytes l).length ≤ 300 * 4096 := Nat.le_trans (jbytes_len hs) (Nat.mul_le_mul_left _ hb)
  have hJ : Calls Tryz.prog 47 #[.slice A n c, .string ⟨#[]⟩] w fun e w' => e = .returned (.string ⟨(jbytes l).toArray⟩) ∧ Below w.heap.size w w' := by
    subst hn
    rcases Nat.eq_zero_or_pos l.length with h0 | h0
    · have hl : l = [] := List.eq_nil_of_length_eq_zero h0
      subst hl
      exact (Any.strings_Join_none Tryz.lays156 Tryz.bldExtra A c ⟨#[]⟩ w).mono fun e w' h => ⟨h.1, h.2 ▸ Below.refl _ _⟩
    · obtain ⟨ad, rfl, hlt, hc⟩ := hv.at h0
      have hsp := World.cell?_spot hc
      obtain ⟨g, o, sp⟩ := ad
      have hsp2 : sp = none := by simpa [Addr.add] using hsp
      subst hsp2
      have h := Any.strings_Join Tryz.lays156 Tryz.bldExtra g o c l ⟨#[]⟩ w (fun j x hx => by
        obtain ⟨hj, he⟩ := List.getElem?_eq_some_iff.1 hx
        obtain ⟨ad2, h1, _, h2⟩ := hv.at hj
        injection h1 with h1
        subst h1
        rw [← he]
        have e : (⟨g, o, none⟩ : Addr).add j = ⟨g, o + j, none⟩ := by unfold Addr.add; split <;> simp_all
        rw [← e]
        exact h2) hlt (by omega) hv.parts.2.2.1 (by rw [join_bytes]; omega)
      rw [join_bytes] at h
      exact h
  have HJ := Lib.hid hJ
  have hz : (⟨(jbytes l).toArray⟩ : ByteArray).size ≤ maxLen := by
    show (jbytes l).toArray.size ≤ maxLen
    rw [List.size_toArray]
    unfold maxLen
    omega
  obtain ⟨s, hse⟩ : ∃ s : ByteArray, s = ⟨(jbytes l).toArray⟩ := ⟨_, rfl⟩
  have hsl : s.data.toList = jbytes l := by rw [hse]
  rw [← hse] at HJ hz
  rw [← hsl]
  have HCV := Lib.hid (fun X : World => Lib.run_convert_string_bytes (P := Tryz.prog) X 9 38 5 s Tryz.underlying9 Tryz.underlying38 Tryz.underlying5)
  have HI := Lib.hid (fun X : World => isB_conv s X 5 hz)
  clear hv hb hs hJ hjl hn hse hsl hz
  go_enter Tryz.func33, Tryz.ntmps33
  go_wp2_with fail
  refine HJ.out.mono ?_
  rintro e w1 ⟨rfl, hb1⟩
  have hcv := HCV.out w1
  have HI1 := Lib.hid (HI.out w1)
  have HB := Lib.hid (below_then hb1 (below_conv s w1 5))
  obtain ⟨W, hW⟩ : ∃ W, W = Lib.bytesWorld w1 5 s := ⟨_, rfl⟩
  rw [← hW] at hcv HI1 HB
  clear hb1 hW
  go_wp2
  go_ret
  exact ⟨_, rfl, HI1.out, HB.out⟩
end Go.Proofs.YtblpkmmhmdpkjaaGreatDoor
