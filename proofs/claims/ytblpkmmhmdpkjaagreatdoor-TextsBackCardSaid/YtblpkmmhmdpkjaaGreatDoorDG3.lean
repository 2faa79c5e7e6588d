/- Texts that the claims of this seat share, part 3: OwnV DPlain DRef DRPut Door Mask Num DOwn DIs Wide WRow Arr RegR. -/
import Derived.Test.YtblpkmmhmdpkjaaGreatDoorTie
import Derived.Test.YtblpkmmhmdpkjaaGreatDoorCards
import Derived.SevenTiedAt
import Derived.Stop.Joined
import Derived.Deep.WholeRow
import Derived.Test.YtblpkmmhmdpkjaaGreatDoorDG2
/- Values of one cell each in a row of the call's own. Over any program. -/





namespace Go.Proofs.YtblpkmmhmdpkjaaGreatDoor

open Go.RowKit

def OwnV {α : Type} (f : α → Value) (e : TypeId) (w : World) (l : List α) (v : Value) (w' : World) : Prop := ∃ n, w'.ownsRow w.heap.size e 1 v n (l.map f)
section

variable {α : Type} {f : α → Value} {e : TypeId} {w w0 w1 w2 : World} {l : List α} {v : Value}
theorem OwnV.isV (h : OwnV f e w l v w1) : IsV f l v w1 := h.elim fun _ h => isV_own h
theorem OwnV.nil (f : α → Value) (e : TypeId) (w w' : World) : OwnV f e w [] (.slice none 0 0) w' := ⟨0, World.ownsRow_nil _ _ _ _⟩
theorem OwnV.below (h : OwnV f e w l v w1) (hb : Below w1.heap.size w1 w2) : OwnV f e w l v w2 := h.elim fun _ h => ⟨_, own_below h hb⟩
theorem OwnV.base (hb : w0.heap.size ≤ w.heap.size) (h : OwnV f e w l v w1) : OwnV f e w0 l v w1 := h.elim fun _ h => ⟨_, own_base hb h⟩
end

end Go.Proofs.YtblpkmmhmdpkjaaGreatDoor

/- Numbers packed as they are (layer 8), as plain mathematics: heads, numbers as they stand, runs. -/







namespace Go.Proofs.YtblpkmmhmdpkjaaGreatDoor

/-- f of each; none, if it is none of one. -/
def omap {α β : Type} (f : α → Option β) : List α → Option (List β)
  | [] => some []
  | x :: l => match f x with | none => none | some y => match omap f l with | none => none | some ys => some (y :: ys)
section

variable {α β : Type} {f : α → Option β}
theorem omap_snoc (l : List α) (x : α) : omap f (l ++ [x]) = match omap f l with | none => none | some ys => match f x with | none => none | some y => some (ys ++ [y]) := by
  induction l with
  | nil => simp only [List.nil_append, omap]
  | cons z l ih =>
    rw [List.cons_append, omap, omap, ih]
    cases f z with
    | none => rfl
    | some y => cases omap f l with
      | none => rfl
      | some ys => cases f x <;> rfl
theorem omap_none {l : List α} {x : α} (hx : x ∈ l) (h : f x = none) : omap f l = none := by
  induction l with
  | nil => cases hx
  | cons z l ih =>
    rw [omap]
    rcases List.mem_cons.1 hx with rfl | hx
    · rw [h]
    · rw [ih hx]; cases f z <;> rfl
theorem omap_len {l : List α} {ys : List β} (h : omap f l = some ys) : ys.length = l.length := by
  induction l generalizing ys with
  | nil => simp [omap] at h; subst h; rfl
  | cons z l ih =>
    rw [omap] at h
    cases hz : f z with
    | none => rw [hz] at h; cases h
    | some y =>
      rw [hz] at h
      cases hl : omap f l with
      | none => rw [hl] at h; cases h
      | some zs =>
        rw [hl] at h
        injection h with h
        subst h
        rw [List.length_cons, List.length_cons, ih hl]
theorem omap_mem {l : List α} {ys : List β} (h : omap f l = some ys) {y : β} (hy : y ∈ ys) : ∃ x ∈ l, f x = some y := by
  induction l generalizing ys with
  | nil => simp [omap] at h; subst h; cases hy
  | cons z l ih =>
    rw [omap] at h
    cases hz : f z with
    | none => rw [hz] at h; cases h
    | some u =>
      rw [hz] at h
      cases hl : omap f l with
      | none => rw [hl] at h; cases h
      | some zs =>
        rw [hl] at h
        injection h with h
        subst h
        rcases List.mem_cons.1 hy with rfl | hy
        · exact ⟨z, List.mem_cons_self, hz⟩
        · obtain ⟨x, hx, hf⟩ := ih hl hy
          exact ⟨x, List.mem_cons_of_mem _ hx, hf⟩
theorem omap_back {g : β → Option α} {l : List α} {ys : List β} (hg : ∀ x ∈ l, ∀ y, f x = some y → g y = some x) (h : omap f l = some ys) : omap g ys = some l := by
  induction l generalizing ys with
  | nil => simp [omap] at h; subst h; rfl
  | cons z l ih =>
    rw [omap] at h
    cases hz : f z with
    | none => rw [hz] at h; cases h
    | some u =>
      rw [hz] at h
      cases hl : omap f l with
      | none => rw [hl] at h; cases h
      | some zs =>
        rw [hl] at h
        injection h with h
        subst h
        rw [omap, hg z List.mem_cons_self u hz, ih (fun x hx => hg x (List.mem_cons_of_mem _ hx)) hl]
end
/-- Numbers as they stand, and back; with an error's number. -/
def dplain (l : List Int) (s : Bool) : Option (List Nat) := omap (eplain · s) l
def dmade (u : List Nat) (s : Bool) : Option (List Int) := omap (emade · s) u
def dplainE (l : List Int) (s : Bool) : List Nat × Int := match dplain l s with | none => ([], 1) | some u => (u, 0)
def dmadeE (u : List Nat) (s : Bool) : List Int × Int := match dmade u s with | none => ([], 2) | some l => (l, 0)
theorem dplain_lt {l : List Int} {s : Bool} {u : List Nat} (hl : ∀ x ∈ l, inInt x) (h : dplain l s = some u) : ∀ y ∈ u, y < 2 ^ 64 := by
  intro y hy
  obtain ⟨x, hx, hf⟩ := omap_mem h hy
  exact eplain_lt (hl x hx).1 (hl x hx).2 hf
theorem dplain_len {l : List Int} {s : Bool} {u : List Nat} (h : dplain l s = some u) : u.length = l.length := omap_len h
theorem dmade_len {u : List Nat} {s : Bool} {l : List Int} (h : dmade u s = some l) : l.length = u.length := omap_len h
theorem dmade_dplain {l : List Int} {s : Bool} {u : List Nat} (hl : ∀ x ∈ l, inInt x) (h : dplain l s = some u) : dmade u s = some l :=
  omap_back (fun x hx _ hy => emade_eplain (hl x hx).1 (hl x hx).2 hy) h
/-- A head. -/
def dheadN (k c m : Nat) : List UInt8 := be 2 (16384 * k + 512 * c + (m - 1))
def dhead (k c m : Int) : List UInt8 := if 0 ≤ k ∧ k ≤ 3 ∧ 0 ≤ c ∧ c ≤ 31 ∧ 1 ≤ m ∧ m ≤ 512 then dheadN k.toNat c.toNat m.toNat else []
theorem dhead_in {k c m : Nat} (hk : k ≤ 3) (hc : c ≤ 31) (h1 : 1 ≤ m) (hm : m ≤ 512) : dhead (k : Int) (c : Int) (m : Int) = dheadN k c m := by
  unfold dhead
  rw [if_pos (by omega)]
  simp
theorem dheadN_len (k c m : Nat) : (dheadN k c m).length = 2 := be_len _ _
/-- What a head's number says: the kind, the code, how many. -/
def dlook (l : List UInt8) : Int × Int × Int × List UInt8 × Int :=
  if l.length < 2 then (0, 0, 0, [], 2)
  else (((bval (l.take 2) / 16384 : Nat) : Int), ((bval (l.take 2) / 512 % 32 : Nat) : Int), ((bval (l.take 2) % 512 + 1 : Nat) : Int), l.drop 2, 0)
theorem dheadN_bval {k c m : Nat} (hk : k ≤ 3) (hc : c ≤ 31) (h1 : 1 ≤ m) (hm : m ≤ 512) : bval (dheadN k c m) = 16384 * k + 512 * c + (m - 1) := by
  unfold dheadN
  rw [bval_be, Nat.mod_eq_of_lt (by omega)]
theorem dlook_head {k c m : Nat} (hk : k ≤ 3) (hc : c ≤ 31) (h1 : 1 ≤ m) (hm : m ≤ 512) (b : List UInt8) : dlook (dheadN k c m ++ b) = ((k : Int), (c : Int), (m : Int), b, 0) := by
  have hl := dheadN_len k c m
  have ht : (dheadN k c m ++ b).take 2 = dheadN k c m := by rw [← hl]; simp
  have hd : (dheadN k c m ++ b).drop 2 = b := by rw [← hl]; simp
  unfold dlook
  rw [if_neg (by rw [List.length_append, hl]; omega), ht, hd, dheadN_bval hk hc h1 hm]
  have e1 : (16384 * k + 512 * c + (m - 1)) / 16384 = k := by omega
  have e2 : (16384 * k + 512 * c + (m - 1)) / 512 % 32 = c := by omega
  have e3 : (16384 * k + 512 * c + (m - 1)) % 512 + 1 = m := by omega
  rw [e1, e2, e3]
/-- The two bytes of a number, and what they say. -/
theorem bval_two {l : List UInt8} (h : 2 ≤ l.length) : bval (l.take 2) = 256 * l[0].toNat + l[1].toNat ∧ bval (l.take 2) < 65536 := by
  match l, h with
  | a :: b :: r, _ =>
    have h1 := a.toNat_lt
    have h2 := b.toNat_lt
    have e : bval ((a :: b :: r).take 2) = 256 * a.toNat + b.toNat := by
      show bval [a, b] = _
      simp [bval]
      omega
    rw [e]
    exact ⟨rfl, by omega⟩
/-- The closest width of numbers, and its code. -/
def dwide (u : List Nat) : Nat := (wclosest (wmost u : Int)).toNat
theorem dwide_int {u : List Nat} : wclosest (wmost u : Int) = (dwide u : Int) := by unfold dwide; have := (wclosest_bd (wmost u : Int)).1; omega
theorem foldl_top : ∀ (u : List Nat) (n : Nat), n ≤ u.foldl (fun n x => max n x) n ∧ ∀ x ∈ u, x ≤ u.foldl (fun n x => max n x) n
  | [], n => ⟨Nat.le_refl _, fun _ h => by cases h⟩
  | y :: u, n => by
    have h := foldl_top u (max n y)
    refine ⟨Nat.le_trans (Nat.le_max_left _ _) h.1, fun x hx => ?_⟩
    rcases List.mem_cons.1 hx with rfl | hx
    · exact Nat.le_trans (Nat.le_max_right _ _) h.1
    · exact h.2 x hx
theorem wtop_mem {u : List Nat} {x : Nat} (h : x ∈ u) : x ≤ wtop u := (foldl_top u 0).2 x h
theorem dwide_room {u : List Nat} (h : ∀ x ∈ u, x < 2 ^ 64) : 1 ≤ dwide u ∧ dwide u ≤ 64 ∧ (∀ x ∈ u, x < 2 ^ dwide u) := by
  have h1 := wroom ⟨wmost u, by have := wmost_64 h; omega⟩
  have h2 := wclosest_bd (wmost u : Int)
  have h3 := dwide_int (u := u)
  dsimp only at h1
  rw [h3] at h1 h2
  refine ⟨by omega, by omega, fun x hx => ?_⟩
  have h4 : x ≤ wtop u := by
    clear h1 h2 h3 h
    exact wtop_mem hx
  have h5 := (wbits_iff (wtop_lt h) (show dwide u ≤ 64 by omega)).1 (by rw [wtop_bits h]; omega)
  omega
def dcode (u : List Nat) : Nat := (wcode (dwide u : Int)).toNat
/-- The code of the closest width stands for it. -/
theorem wclose_code : ∀ n : Fin 65, 0 ≤ wcode (wclosest (n.val : Int)) ∧ wcode (wclosest (n.val : Int)) ≤ 31 ∧ wof (wcode (wclosest (n.val : Int))) = wclosest (n.val : Int) := by decide +kernel
theorem dcode_int {u : List Nat} (h : ∀ x ∈ u, x < 2 ^ 64) : wcode (dwide u : Int) = (dcode u : Int) ∧ dcode u ≤ 31 ∧ wof (dcode u : Int) = (dwide u : Int) := by
  have h1 := wclose_code ⟨wmost u, by have := wmost_64 h; omega⟩
  dsimp only at h1
  rw [dwide_int] at h1
  have h2 : wcode (dwide u : Int) = (dcode u : Int) := by unfold dcode; omega
  rw [h2] at h1
  exact ⟨h2, by omega, h1.2.2⟩
/-- What Put answers. -/
def dlay (u : List Nat) : List UInt8 := dheadN 1 (dcode u) u.length ++ bpack u (dwide u)
def dputE (l : List Int) (s : Bool) : List UInt8 × Int := match dplain l s with | none => ([], 1) | some u => if l.length < 1 ∨ 512 < l.length then ([], 1) else (dlay u, 0)
/-- What Take answers. -/
def dtakeE (l : List UInt8) (s : Bool) : List Int × List UInt8 × Int :=
  if (dlook l).2.2.2.2 ≠ 0 ∨ (dlook l).1 ≠ 1 then ([], [], 2)
  else match unpacksAny (dlook l).2.2.2.1 (dlook l).2.2.1 (wof (dlook l).2.1) with
    | (u, r, e) => if e ≠ 0 then ([], [], 2) else match dmade u s with | none => ([], [], 2) | some m => (m, r, 0)
theorem dtakeE_ok {l : List UInt8} {c m : Int} {r : List UInt8} {s : Bool} (h : dlook l = (1, c, m, r, 0)) {u : List Nat} {q : List UInt8} (hu : unpacksAny r m (wof c) = (u, q, 0)) {o : List Int} (hm : dmade u s = some o) : dtakeE l s = (o, q, 0) := by
  unfold dtakeE
  rw [h]
  dsimp only
  rw [if_neg (by decide), hu]
  dsimp only
  rw [if_neg (by decide), hm]
theorem dtake_lay {u : List Nat} {l : List Int} {s : Bool} (hu : ∀ x ∈ u, x < 2 ^ 64) (h1 : 1 ≤ u.length) (h2 : u.length ≤ 512) (hm : dmade u s = some l) (b : List UInt8) : dtakeE (dlay u ++ b) s = (l, b, 0) := by
  obtain ⟨hw1, hw2, hw3⟩ := dwide_room hu
  obtain ⟨_, hc2, hc3⟩ := dcode_int hu
  have hd : dlook (dlay u ++ b) = (1, (dcode u : Int), (u.length : Int), bpack u (dwide u) ++ b, 0) := by
    unfold dlay
    rw [List.append_assoc]
    exact dlook_head (k := 1) (by omega) hc2 h1 h2 _
  refine dtakeE_ok hd ?_ hm
  rw [hc3, unpacksAny_in _ _ _ (by omega) hw2]
  exact unpacks_back hw3 b
/-- P8.4. -/
theorem dtake_back {l : List Int} {s : Bool} {u : List Nat} (hl : ∀ x ∈ l, inInt x) (h1 : 1 ≤ l.length) (h2 : l.length ≤ 512) (h : dplain l s = some u) (b : List UInt8) : dtakeE (dlay u ++ b) s = (l, b, 0) :=
  dtake_lay (dplain_lt hl h) (by rw [dplain_len h]; exact h1) (by rw [dplain_len h]; exact h2) (dmade_dplain hl h) b
end Go.Proofs.YtblpkmmhmdpkjaaGreatDoor

/- Contracts of layer 8's reference: Head, Look, Plain, Made, Same. -/









namespace Go.Proofs.YtblpkmmhmdpkjaaGreatDoor

open Go.RowKit

theorem isU_iff {l : List Nat} {v : Value} {w : World} : IsU l v w ↔ IsV uv l v w := Iff.rfl
/-- What Look answers: three numbers, bytes, an error. -/
def RetK (w : World) (p : Int × Int × Int × List UInt8 × Int) (e : Ending) (w' : World) : Prop :=
  ∃ v, e = .returned (.tuple #[.int .i64 p.1, .int .i64 p.2.1, .int .i64 p.2.2.1, v, .int .i64 p.2.2.2.2]) ∧ IsB p.2.2.2.1 v w' ∧ Below w.heap.size w w'
theorem dlook_short {l : List UInt8} (h : l.length < 2) : dlook l = (0, 0, 0, [], 2) := by unfold dlook; rw [if_pos h]
theorem dlook_long {l : List UInt8} {X : Nat} (h : 2 ≤ l.length) (hX : X = 256 * l[0].toNat + l[1].toNat) : dlook l = (((X / 16384 : Nat) : Int), ((X / 512 % 32 : Nat) : Int), ((X % 512 + 1 : Nat) : Int), l.drop 2, 0) := by
  unfold dlook
  rw [if_neg (by omega), (bval_two h).1, ← hX]
/-- A row of values and an error that a call answers. -/
def RetV {α : Type} (f : α → Value) (w : World) (p : List α × Int) (e : Ending) (w' : World) : Prop := ∃ u, e = .returned (.tuple #[u, .int .i64 p.2]) ∧ IsV f p.1 u w' ∧ Below w.heap.size w w'
theorem RetV.nil {α : Type} {f : α → Value} {w w' : World} (n : Int) (hb : Below w.heap.size w w') : RetV f w ([], n) (.returned (.tuple #[.slice none 0 0, .int .i64 n])) w' := ⟨_, rfl, isV_nil _ _, hb⟩
theorem omap_take {α β : Type} {f : α → Option β} {l : List α} {k : Nat} {acc : List β} {y : β} (hk : k < l.length) (h : omap f (l.take k) = some acc) (hy : f l[k] = some y) : omap f (l.take (k + 1)) = some (acc ++ [y]) := by
  rw [List.take_succ_eq_append_getElem hk, omap_snoc, h, hy]
theorem dhead_no {k c m : Int} (h : ¬ (0 ≤ k ∧ k ≤ 3 ∧ 0 ≤ c ∧ c ≤ 31 ∧ 1 ≤ m ∧ m ≤ 512)) : dhead k c m = [] := by unfold dhead; rw [if_neg h]
theorem dheadN_two {k c m X h y : Nat} (hX : X = 16384 * k + 512 * c + (m - 1)) (hh : h = X / 256) (hy : y = X % 256) (hb : X < 65536) : (dheadN k c m).map bv = [.int .u8 (h : Int), .int .u8 (y : Int)] := by
  have e : dheadN k c m = [UInt8.ofNat h, UInt8.ofNat y] := by
    unfold dheadN
    rw [← hX]
    symm
    refine eq_be rfl ?_
    have h1 : (UInt8.ofNat h).toNat = h := by rw [UInt8.toNat_ofNat']; omega
    have h2 : (UInt8.ofNat y).toNat = y := by rw [UInt8.toNat_ofNat']; omega
    simp only [bval, List.length_cons, List.length_nil, h1, h2]
    omega
  rw [e]
  have h1 : (UInt8.ofNat h).toNat = h := by rw [UInt8.toNat_ofNat']; omega
  have h2 : (UInt8.ofNat y).toNat = y := by rw [UInt8.toNat_ofNat']; omega
  simp only [List.map_cons, List.map_nil, bv, h1, h2]
/-- Bytes in a row of the call's own. -/
def RetH (w : World) (l : List UInt8) (e : Ending) (w' : World) : Prop := ∃ v, e = .returned v ∧ w'.ownsRow w.heap.size 5 1 v l.length (l.map bv) ∧ Below w.heap.size w w'
theorem own_new (w : World) (e : TypeId) (xs : List Value) (n : Nat) (hn : xs.length = n) (hb : n ≤ 1000000) : (w.alloc (.cells xs.toArray e)).ownsRow w.heap.size e 1 (.slice (some ⟨w.heap.size, 0, none⟩) n n) n xs :=
  ⟨by simpa using hn, .inr ⟨w.heap.size, n, xs.toArray, rfl, Nat.le_refl _, heap_alloc_new w _, Nat.le_refl _, by unfold maxLen; omega, by simp [hn], by subst hn; simp⟩⟩
end Go.Proofs.YtblpkmmhmdpkjaaGreatDoor

/- Contracts of layer 8's reference: Put, Take. -/









namespace Go.Proofs.YtblpkmmhmdpkjaaGreatDoor

open Go.RowKit

theorem dputE_no {l : List Int} {s : Bool} (h : dplain l s = none) : dputE l s = ([], 1) := by unfold dputE; rw [h]
theorem dputE_len {l : List Int} {s : Bool} (h : l.length < 1 ∨ 512 < l.length) : dputE l s = ([], 1) := by
  unfold dputE
  cases dplain l s with
  | none => rfl
  | some u => dsimp only; rw [if_pos h]
theorem dputE_ok {l : List Int} {s : Bool} {u : List Nat} (h : dplain l s = some u) (h1 : 1 ≤ l.length) (h2 : l.length ≤ 512) : dputE l s = (dlay u, 0) := by
  unfold dputE
  rw [h]
  dsimp only
  rw [if_neg (by omega)]
theorem dpacks {u : List Nat} (h : ∀ x ∈ u, x < 2 ^ 64) : packsAny u (dwide u : Int) = (bpack u (dwide u), 0) := by
  obtain ⟨_, h2, h3⟩ := dwide_room h
  rw [packsAny_in _ _ h2, packs_ok h3]
theorem bsize_small {n W : Nat} (hn : n ≤ 512) (hW : W ≤ 64) : bsize n W ≤ 4096 := by
  unfold bsize
  have : n * W ≤ 512 * 64 := Nat.mul_le_mul hn hW
  omega
theorem dtakeE_no {l : List UInt8} {s : Bool} (h : (dlook l).2.2.2.2 ≠ 0 ∨ (dlook l).1 ≠ 1) : dtakeE l s = ([], [], 2) := by unfold dtakeE; rw [if_pos h]
theorem dtakeE_cut {l : List UInt8} {c m : Int} {r : List UInt8} {s : Bool} (h : dlook l = (1, c, m, r, 0)) {u : List Nat} {q : List UInt8} {x : Int} (hu : unpacksAny r m (wof c) = (u, q, x)) (hx : x ≠ 0) : dtakeE l s = ([], [], 2) := by
  unfold dtakeE
  rw [h]
  dsimp only
  rw [if_neg (by decide), hu]
  dsimp only
  rw [if_pos hx]
theorem dtakeE_bad {l : List UInt8} {c m : Int} {r : List UInt8} {s : Bool} (h : dlook l = (1, c, m, r, 0)) {u : List Nat} {q : List UInt8} (hu : unpacksAny r m (wof c) = (u, q, 0)) (hm : dmade u s = none) : dtakeE l s = ([], [], 2) := by
  unfold dtakeE
  rw [h]
  dsimp only
  rw [if_neg (by decide), hu]
  dsimp only
  rw [if_neg (by decide), hm]
/-- Numbers, bytes and an error that a call answers. -/
def RetIB (w : World) (p : List Int × List UInt8 × Int) (e : Ending) (w' : World) : Prop := ∃ u v, e = .returned (.tuple #[u, v, .int .i64 p.2.2]) ∧ IsV iv p.1 u w' ∧ IsB p.2.1 v w' ∧ Below w.heap.size w w'
theorem RetIB.nil {w w' : World} (n : Int) (hb : Below w.heap.size w w') : RetIB w ([], [], n) (.returned (.tuple #[.slice none 0 0, .slice none 0 0, .int .i64 n])) w' := ⟨_, _, rfl, isV_nil _ _, isB_nil _, hb⟩
/-- The same, the bytes in a row of the call's own. -/
def RetIO (w : World) (p : List Int × List UInt8 × Int) (e : Ending) (w' : World) : Prop := ∃ u v, e = .returned (.tuple #[u, v, .int .i64 p.2.2]) ∧ IsV iv p.1 u w' ∧ OwnB w p.2.1 v w' ∧ Below w.heap.size w w'
theorem RetIO.nil {w w' : World} (n : Int) (hb : Below w.heap.size w w') : RetIO w ([], [], n) (.returned (.tuple #[.slice none 0 0, .slice none 0 0, .int .i64 n])) w' := ⟨_, _, rfl, isV_nil _ _, OwnB.nil _ _, hb⟩
theorem RetIO.ib {w w' : World} {p : List Int × List UInt8 × Int} {e : Ending} (h : RetIO w p e w') : RetIB w p e w' := by
  obtain ⟨u, v, h1, h2, h3, h4⟩ := h
  exact ⟨u, v, h1, h2, h3.isB, h4⟩
theorem dlook_bd (l : List UInt8) : 0 ≤ (dlook l).1 ∧ (dlook l).1 ≤ 65536 ∧ 0 ≤ (dlook l).2.1 ∧ (dlook l).2.1 ≤ 31 ∧ 0 ≤ (dlook l).2.2.1 ∧ (dlook l).2.2.1 ≤ 512 ∧ (dlook l).2.2.2.1.length ≤ l.length := by
  unfold dlook
  split
  · simp
  · rename_i h
    have h1 := (bval_two (l := l) (by omega)).2
    dsimp only
    rw [List.length_drop]
    omega
theorem unpacks_lt {l : List UInt8} {M W : Nat} (hW : W ≤ 64) : ∀ x ∈ (unpacks l M W).1, x < 2 ^ 64 := by
  intro x hx
  unfold unpacks at hx
  split at hx
  · simp at hx
  · split at hx
    · exact Nat.lt_of_lt_of_le (bnums_lt x hx) (Nat.pow_le_pow_right (by omega) hW)
    · simp at hx
theorem unpacks_many {l : List UInt8} {M W : Nat} : (unpacks l M W).1.length ≤ M := by
  unfold unpacks
  split
  · simp
  · split
    · rw [bnums_len]; exact Nat.le_refl _
    · simp
theorem unpacksAny_lt {l : List UInt8} {M W : Int} : (∀ x ∈ (unpacksAny l M W).1, x < 2 ^ 64) ∧ (unpacksAny l M W).1.length ≤ 4096 := by
  unfold unpacksAny
  split
  · exact ⟨unpacks_lt (by omega), Nat.le_trans unpacks_many (by omega)⟩
  · simp
end Go.Proofs.YtblpkmmhmdpkjaaGreatDoor

/- The table of widths out of what a seat's rows list. (For seats whose rows list widths.table alone.) -/













namespace Go.Proofs.YtblpkmmhmdpkjaaGreatDoor

open Go.RowKit Go.ChangeShapes Go.WideShapes Go.ChangeAt

theorem gTab : Tryz.prog.globalNamed "pilaster/widths.table" = some 1 := by kernel_rfl
theorem tTab : (Tryz.prog.globals[1]?).map (·.type) = some 195 := by kernel_rfl
theorem door_met (os : Os) (args : Array Value) : laidMetH Tryz.prog [("pilaster/widths.table", Rows.laid_pilaster_widths_table)] ((World.doorLaid Tryz.prog 400 os).forCall (fun _ _ => 0) ⟨#[], args, []⟩).memory :=
  laidMetH_of_parts3 (fuel := 8) (laidMet_of_run' 8 (by kernel_rfl) (by kernel_rfl)) (by kernel_rfl) (by kernel_rfl)
theorem tab_of {W : World} (h : laidMetH Tryz.prog [("pilaster/widths.table", Rows.laid_pilaster_widths_table)] W) : WTab W := by
  rw [MakeChecks.laidMetH_plain _ _ _ (by kernel_rfl)] at h
  exact row_of_laid (zs := wtab) gTab tTab Tryz.underlying195 Tryz.underlying3 (by kernel_rfl) (by kernel_rfl) (by omega) h
end Go.Proofs.YtblpkmmhmdpkjaaGreatDoor

/- x & (2^w - 1) of a number with a sign. -/



namespace Go.Proofs.YtblpkmmhmdpkjaaGreatDoor

theorem i64_mask (n : Int) (w : Nat) (hw : w ≤ 62) : bits .and .i64 n (((2 ^ w - 1 : Nat) : Nat) : Int) = n % ((2 ^ w : Nat) : Int) := by
  have hW : 2 ^ w ≤ 2 ^ 62 := Nat.pow_le_pow_right (by omega) hw
  have hp : 0 < 2 ^ w := Nat.two_pow_pos w
  have h31 : (BitVec.ofInt 64 ((2 ^ w - 1 : Nat) : Int)).toNat = 2 ^ w - 1 := by
    rw [BitVec.ofInt_natCast, BitVec.toNat_ofNat]
    exact Nat.mod_eq_of_lt (by omega)
  have key : (BitVec.ofInt 64 n &&& BitVec.ofInt 64 ((2 ^ w - 1 : Nat) : Int)).toNat = (n % ((2 ^ 64 : Nat) : Int)).toNat % 2 ^ w := by
    rw [BitVec.toNat_and, BitVec.toNat_ofInt, h31, Nat.and_two_pow_sub_one_eq_mod]
  have hdvd : ((2 ^ w : Nat) : Int) ∣ ((2 ^ 64 : Nat) : Int) := Int.natCast_dvd_natCast.2 (Nat.pow_dvd_pow 2 (by omega))
  have e1 : (((n % ((2 ^ 64 : Nat) : Int)).toNat % 2 ^ w : Nat) : Int) = n % ((2 ^ w : Nat) : Int) := by
    rw [Int.natCast_emod, Int.toNat_of_nonneg (Int.emod_nonneg _ (by decide)), Int.emod_emod_of_dvd _ hdvd]
  show IntKind.i64.wrap ((BitVec.ofInt 64 n &&& BitVec.ofInt 64 ((2 ^ w - 1 : Nat) : Int)).toNat : Nat) = _
  rw [key, e1, IntKind.wrap_i64]
  have h1 := Int.emod_nonneg n (show ((2 ^ w : Nat) : Int) ≠ 0 by omega)
  have h2 := Int.emod_lt_of_pos n (show (0 : Int) < ((2 ^ w : Nat) : Int) by omega)
  omega
end Go.Proofs.YtblpkmmhmdpkjaaGreatDoor

/- Operations on numbers in a region that draws: what each yields; slices of one number. Over any program. -/





namespace Go.Proofs.YtblpkmmhmdpkjaaGreatDoor

open Go.RowKit

def Fact.vals {α : Type} (f : α → Value) (l : List α) : Fact := ⟨IsV f l, fun _ _ _ h hb => h.below hb⟩
section

variable {P : Program} {o : Oper} {ρ : Operand → Value} {w : World} {R : Value → World → Prop}
theorem gives_shl64 {t t' : TypeId} {x y : Operand} {a r : Int} {k : Nat} (ho : o.op = .binOp .shl t x y t') (hx : ρ x = .int .u64 a) (hy : ρ y = .int .i64 (k : Int)) (hk : k ≤ 64) (h : IntKind.u64.wrap (a * 2 ^ k) = r) (hR : R (.int .u64 r) w) : Gives P o ρ w R := by
  refine gives_of (v := .int .u64 r) (w' := w) ?_ hR
  simp [execOp, ho, hx, hy, go_sem, h]
theorem gives_and64 {t t' : TypeId} {x y : Operand} {a b r : Int} (ho : o.op = .binOp .and t x y t') (hx : ρ x = .int .u64 a) (hy : ρ y = .int .u64 b) (h : bits .and .u64 a b = r) (hR : R (.int .u64 r) w) : Gives P o ρ w R := by
  refine gives_of (v := .int .u64 r) (w' := w) ?_ hR
  simp [execOp, ho, hx, hy, go_sem, h]
theorem gives_conv {s d : TypeId} {k k' : IntKind} {x : Operand} {n r : Int} (ho : o.op = .convert s d x) (hx : ρ x = .int k n) (hs : (P.underlying s).isSome = true) (hd : P.underlying d = some (.int k')) (h : k'.wrap n = r) (hR : R (.int k' r) w) : Gives P o ρ w R := by
  refine gives_convert ho hx (v := .int k' r) (w' := w) ?_ hR
  obtain ⟨e, he⟩ := Option.isSome_iff_exists.mp hs
  simp [convert, run_underlying he, run_underlying hd, Conv.intToInt, h]
end
theorem gives_xor64 {P : Program} {o : Oper} {ρ : Operand → Value} {w : World} {R : Value → World → Prop} {t t' : TypeId} {x y : Operand} {a b r : Int} (ho : o.op = .binOp .xor t x y t') (hx : ρ x = .int .u64 a) (hy : ρ y = .int .u64 b) (h : bits .xor .u64 a b = r) (hR : R (.int .u64 r) w) : Gives P o ρ w R := by
  refine gives_of (v := .int .u64 r) (w' := w) ?_ hR
  simp [execOp, ho, hx, hy, go_sem, h]
/-- x[i:k], x[i:] at a step of the walk, what it answers being known. -/
theorem wpList_sliced {P : Program} {w : World} {ops : Array Oper} {rest : List Oper} {o : Oper} {a : Act} {Q : Exit → Act → World → Prop} (hgd : o.guard = none) (t : TypeId) (x y z : Operand) (ho : o.op = .slice t x (some y) (some z) none)
    (v : Value) (hrun : (Instr.sliceAt t (a.eval x) (some (a.eval y)) (some (a.eval z)) none).run P w = .ok v w) (h : wpList P ops Q rest (a.put o.dst v) w) : wpList P ops Q (o :: rest) a w := by
  refine wpList_plain hgd fun K hK => ?_
  unfold Oper.wp execOp
  simp only [ho, Option.map_some, Option.map_none, hrun, Sem.run_bind, Sem.run_pure, Result.andThen_ok]
  exact hK _ _ h
theorem wpList_slicedL {P : Program} {w : World} {ops : Array Oper} {rest : List Oper} {o : Oper} {a : Act} {Q : Exit → Act → World → Prop} (hgd : o.guard = none) (t : TypeId) (x y : Operand) (ho : o.op = .slice t x (some y) none none)
    (v : Value) (hrun : (Instr.sliceAt t (a.eval x) (some (a.eval y)) none none).run P w = .ok v w) (h : wpList P ops Q rest (a.put o.dst v) w) : wpList P ops Q (o :: rest) a w := by
  refine wpList_plain hgd fun K hK => ?_
  unfold Oper.wp execOp
  simp only [ho, Option.map_some, Option.map_none, hrun, Sem.run_bind, Sem.run_pure, Result.andThen_ok]
  exact hK _ _ h
theorem gives_extract {P : Program} {o : Oper} {ρ : Operand → Value} {w : World} {R : Value → World → Prop} {x : Operand} {i : Nat} {vs : Array Value} {v : Value} (ho : o.op = .extract x i) (hx : ρ x = .tuple vs) (hv : vs[i]? = some v) (hR : R v w) : Gives P o ρ w R := by
  refine gives_of (v := v) (w' := w) ?_ hR
  simp [execOp, ho, hx, hv, go_sem]
end Go.Proofs.YtblpkmmhmdpkjaaGreatDoor

/- direct's own contracts, but Take's and Put's. -/







namespace Go.Proofs.YtblpkmmhmdpkjaaGreatDoor

open Go.RowKit

theorem i64_or_nat (a b : Nat) (ha : a < 2 ^ 63) (hb : b < 2 ^ 63) : bits .or .i64 (a : Int) (b : Int) = ((a ||| b : Nat) : Int) := by
  have h := Nat.or_lt_two_pow ha hb
  show IntKind.i64.wrap ((BitVec.ofInt 64 (a : Int) ||| BitVec.ofInt 64 (b : Int)).toNat : Int) = _
  rw [BitVec.toNat_or, BitVec.ofInt_natCast, BitVec.ofInt_natCast, BitVec.toNat_ofNat, BitVec.toNat_ofNat, Nat.mod_eq_of_lt (by omega), Nat.mod_eq_of_lt (by omega), IntKind.wrap_i64]
  omega
/-- Bits that don't meet are added. -/
theorem or_i64 (n Y P : Nat) (h0 : Y % 2 ^ n = 0) (h1 : P < 2 ^ n) (h2 : Y + P < 2 ^ 63) : bits .or .i64 (Y : Int) (P : Int) = ((Y + P : Nat) : Int) := by
  rw [i64_or_nat _ _ (by omega) (by omega), nat_join n Y P h0 h1]
theorem dcount_yes (n : Int) (w : World) (h0 : 1 ≤ n) (h1 : n ≤ 512) : Calls Tryz.prog 136 #[.int .i64 n] w fun e w' => e = .returned (.bool true) ∧ w = w' := by
  go_enter Tryz.func136, Tryz.ntmps136
  go_wp2
  go_ret
  exact ⟨rfl, rfl⟩
theorem dcount_no (n : Int) (w : World) (h : n < 1 ∨ 512 < n) : Calls Tryz.prog 136 #[.int .i64 n] w fun e w' => e = .returned (.bool false) ∧ w = w' := by
  rcases h with h | h
  · have h2 : decide (1 ≤ n) = false := by simp; omega
    go_enter Tryz.func136, Tryz.ntmps136
    go_wp2
    go_ret
    exact ⟨rfl, rfl⟩
  · have h2 : decide (n ≤ 512) = false := by simp; omega
    have h3 : decide (1 ≤ n) = true := by simp; omega
    go_enter Tryz.func136, Tryz.ntmps136
    go_wp2
    go_ret
    exact ⟨rfl, rfl⟩
theorem wof_fin : ∀ c : Fin 32, 0 < wof (c.val : Int) := by decide +kernel
theorem wof_zero {c : Int} : wof c = 0 ↔ ¬ (0 ≤ c ∧ c ≤ 31) := by
  constructor
  · rintro h ⟨h0, h1⟩
    obtain ⟨k, rfl⟩ := Int.eq_ofNat_of_zero_le h0
    have h2 := wof_fin ⟨k, by omega⟩
    dsimp only at h2
    rw [h] at h2
    exact absurd h2 (by decide)
  · intro h
    exact wof_out (by omega)
set_option maxHeartbeats 2000000 in
set_option maxRecDepth 100000 in
theorem dhead_own (k c m : Int) (w : World) (ht : WTab w) (hk : inInt k) (hc : inInt c) (hm : inInt m) : Calls Tryz.prog 141 #[.int .i64 k, .int .i64 c, .int .i64 m] w (RetH w (dhead k c m)) := by
  have HOF := Lib.hid (of_any c w ht hc.1 hc.2)
  by_cases h0 : k < 0
  · have d0 : decide (k < 0) = true := decide_eq_true h0
    have hE := Lib.hid (dhead_no (k := k) (c := c) (m := m) (by omega))
    clear ht
    go_enter Tryz.func141, Tryz.ntmps141
    go_wp2
    go_ret
    rw [hE.out]
    exact ⟨_, rfl, World.ownsRow_nil _ _ _ _, Below.refl _ _⟩
  · have d0 : decide (k < 0) = false := decide_eq_false h0
    by_cases h1 : 4 ≤ k
    · have d1 : decide (4 ≤ k) = true := decide_eq_true h1
      have hE := Lib.hid (dhead_no (k := k) (c := c) (m := m) (by omega))
      clear ht
      go_enter Tryz.func141, Tryz.ntmps141
      go_wp2
      go_ret
      rw [hE.out]
      exact ⟨_, rfl, World.ownsRow_nil _ _ _ _, Below.refl _ _⟩
    · have d1 : decide (4 ≤ k) = false := decide_eq_false h1
      obtain ⟨W, hW⟩ : ∃ W, W = wof c := ⟨_, rfl⟩
      have hz : W = 0 ↔ ¬ (0 ≤ c ∧ c ≤ 31) := by rw [hW]; exact wof_zero
      rw [← hW] at HOF
      clear hW ht
      by_cases h2 : W = 0
      · have hE := Lib.hid (dhead_no (k := k) (c := c) (m := m) (fun h => (hz.1 h2) ⟨h.2.2.1, h.2.2.2.1⟩))
        have d2 : (W == 0) = true := by simpa using h2
        clear h2 hz
        go_enter Tryz.func141, Tryz.ntmps141
        go_wp2_with (go_at_call 145; refine HOF.out.mono ?_; rintro e w' ⟨rfl, rfl⟩)
        go_ret
        rw [hE.out]
        exact ⟨_, rfl, World.ownsRow_nil _ _ _ _, Below.refl _ _⟩
      · have d2 : (W == 0) = false := by simpa using h2
        have hc2 : 0 ≤ c ∧ c ≤ 31 := Classical.not_not.1 (fun h => h2 (hz.2 h))
        clear h2 hz
        by_cases h3 : m < 1 ∨ 512 < m
        · have hE := Lib.hid (dhead_no (k := k) (c := c) (m := m) (by omega))
          have HC := Lib.hid (dcount_no m w h3)
          clear h3
          go_enter Tryz.func141, Tryz.ntmps141
          go_wp2_with (first | (go_at_call 145; refine HOF.out.mono ?_; rintro e w' ⟨rfl, rfl⟩) | (go_at_call 136; refine HC.out.mono ?_; rintro e w' ⟨rfl, rfl⟩))
          go_ret
          rw [hE.out]
          exact ⟨_, rfl, World.ownsRow_nil _ _ _ _, Below.refl _ _⟩
        · have HC := Lib.hid (dcount_yes m w (by omega) (by omega))
          obtain ⟨K, rfl⟩ := Int.eq_ofNat_of_zero_le (show 0 ≤ k by omega)
          obtain ⟨C, rfl⟩ := Int.eq_ofNat_of_zero_le (show 0 ≤ c by omega)
          obtain ⟨M, rfl⟩ := Int.eq_ofNat_of_zero_le (show 0 ≤ m by omega)
          have hK : K ≤ 3 := by omega
          have hC : C ≤ 31 := by omega
          have hM1 : 1 ≤ M := by omega
          have hM : M ≤ 512 := by omega
          obtain ⟨P, hP⟩ : ∃ P, M = P + 1 := ⟨M - 1, by omega⟩
          have hE := Lib.hid (dhead_in hK hC hM1 hM)
          obtain ⟨a1, ha1⟩ : ∃ a, a = 16384 * K := ⟨_, rfl⟩
          obtain ⟨a2, ha2⟩ : ∃ a, a = 512 * C := ⟨_, rfl⟩
          obtain ⟨Y, hY⟩ : ∃ Y, Y = a1 + a2 := ⟨_, rfl⟩
          obtain ⟨X, hX⟩ : ∃ X, X = Y + P := ⟨_, rfl⟩
          obtain ⟨H, hH⟩ : ∃ H, H = X / 256 := ⟨_, rfl⟩
          obtain ⟨Z, hZ⟩ : ∃ Z, Z = X % 256 := ⟨_, rfl⟩
          have s1 : IntKind.i64.wrap ((K : Int) * 2 ^ 14) = (a1 : Int) := by rw [IntKind.wrap_i64]; omega
          have s1' : (K : Int) * 16384 = (a1 : Int) := by omega
          have s2 : IntKind.i64.wrap ((C : Int) * 2 ^ 9) = (a2 : Int) := by rw [IntKind.wrap_i64]; omega
          have s2' : (C : Int) * 512 = (a2 : Int) := by omega
          have o1 : bits .or .i64 (a1 : Int) (a2 : Int) = (Y : Int) := by rw [hY]; exact or_i64 14 a1 a2 (by omega) (by omega) (by omega)
          have o2 : bits .or .i64 (Y : Int) (P : Int) = (X : Int) := by rw [hX]; exact or_i64 9 Y P (by omega) (by omega) (by omega)
          have hp : ((P + 1 : Nat) : Int) - 1 = (P : Int) := by omega
          have q1 : (X : Int) / 2 ^ 8 = (H : Int) := by omega
          have q1' : (X : Int) / 256 = (H : Int) := by omega
          have w1 : IntKind.u8.wrap (H : Int) = (H : Int) := by rw [IntKind.wrap_u8]; omega
          have w2 : IntKind.u8.wrap (X : Int) = (Z : Int) := by rw [IntKind.wrap_u8]; omega
          have HT := Lib.hid (dheadN_two (k := K) (c := C) (m := M) (X := X) (h := H) (y := Z) (by omega) hH hZ (by omega))
          subst hP
          have hown := own_new w 5 [.int .u8 (H : Int), .int .u8 (Z : Int)] 2 rfl (by omega)
          rw [← HT.out] at hown
          have HOWN := Lib.hid hown
          clear hown ha1 ha2 hY hX hH hZ hc2
          go_enter Tryz.func141, Tryz.ntmps141
          go_wp2_with (first | (go_at_call 145; refine HOF.out.mono ?_; rintro e w' ⟨rfl, rfl⟩) | (go_at_call 136; refine HC.out.mono ?_; rintro e w' ⟨rfl, rfl⟩))
          go_ret
          rw [hE.out]
          refine ⟨_, rfl, ?_, (Below.refl _ _).alloc (Nat.le_refl _) _⟩
          have h := HOWN.out
          rw [HT.out] at h
          rw [dheadN_len, HT.out]
          exact h
/-- Bytes that a call answers. -/
def RetS (w : World) (l : List UInt8) (e : Ending) (w' : World) : Prop := ∃ v, e = .returned v ∧ IsB l v w' ∧ Below w.heap.size w w'
theorem dhead_any (k c m : Int) (w : World) (ht : WTab w) (hk : inInt k) (hc : inInt c) (hm : inInt m) : Calls Tryz.prog 141 #[.int .i64 k, .int .i64 c, .int .i64 m] w (RetS w (dhead k c m)) :=
  (dhead_own k c m w ht hk hc hm).mono fun _ _ ⟨v, h1, h2, h3⟩ => ⟨v, h1, isB_own h2, h3⟩
/-- What read answers. -/
theorem dread_no (A : Option Addr) (n c : Nat) (w : World) (h : n < 2) : Calls Tryz.prog 143 #[.slice A n c] w fun e w' => e = .returned (.tuple #[.int .i64 0, .int .i64 0, .int .i64 0, .bool false]) ∧ Below w.heap.size w w' := by
  have d1 : decide ((n : Int) < 2) = true := decide_eq_true (by omega)
  go_enter Tryz.func143, Tryz.ntmps143
  go_wp2
  refine bodyPost_ret (results_tmp4 rfl _ _ _) rfl ?_
  exact ⟨rfl, Below.refl _ _⟩
set_option maxHeartbeats 2000000 in
theorem dread_yes (A : Option Addr) (n c K C M : Nat) (l : List UInt8) (w : World) (hl : Lies w A (l.map bv)) (hn : l.length = n) (h2 : 2 ≤ n) (hb : n ≤ 1000000)
    (hK : dlook l = ((K : Int), (C : Int), (M : Int), l.drop 2, 0)) : Calls Tryz.prog 143 #[.slice A n c] w fun e w' => e = .returned (.tuple #[.int .i64 (K : Int), .int .i64 (C : Int), .int .i64 (M : Int), .bool true]) ∧ Below w.heap.size w w' := by
  have d1 : decide ((n : Int) < 2) = false := decide_eq_false (by omega)
  have hl2 : 2 ≤ l.length := by omega
  obtain ⟨ad, rfl, _, hcell0⟩ := hl.cell (k := 0) (by rw [List.length_map]; omega)
  obtain ⟨_, hAd, _, hcell1⟩ := hl.cell (k := 1) (by rw [List.length_map]; omega)
  injection hAd with hAd
  subst hAd
  obtain ⟨x, hx⟩ : ∃ x : Nat, x = l[0].toNat := ⟨_, rfl⟩
  obtain ⟨y, hy⟩ : ∃ y : Nat, y = l[1].toNat := ⟨_, rfl⟩
  have hx8 : x < 256 := by rw [hx]; exact UInt8.toNat_lt _
  have hy8 : y < 256 := by rw [hy]; exact UInt8.toNat_lt _
  have hc0 : w.cell? ad = some (.int .u8 (x : Int)) := by
    have e : ad.add 0 = ad := by simp [Addr.add]
    rw [e] at hcell0
    rw [hcell0, List.getElem_map, hx]; rfl
  have hc1 : w.cell? ⟨ad.block, ad.off + 1, none⟩ = some (.int .u8 (y : Int)) := by
    have e : ad.add 1 = ⟨ad.block, ad.off + 1, none⟩ := by simp [Addr.add]
    rw [e] at hcell1
    rw [hcell1, List.getElem_map, hy]; rfl
  obtain ⟨X, hX⟩ : ∃ X, X = 256 * x + y := ⟨_, rfl⟩
  rw [dlook_long hl2 (show X = 256 * l[0].toNat + l[1].toNat by rw [hX, hx, hy])] at hK
  injection hK with hK1 hK
  injection hK with hK2 hK
  injection hK with hK3 _
  have k1 : X / 16384 = K := by omega
  have k2 : X / 512 % 32 = C := by omega
  have k3 : X % 512 + 1 = M := by omega
  obtain ⟨Y, hY⟩ : ∃ Y, Y = 256 * x := ⟨_, rfl⟩
  obtain ⟨Q, hQ⟩ : ∃ Q, Q = X / 512 := ⟨_, rfl⟩
  obtain ⟨P, hP⟩ : ∃ P, P = X % 512 := ⟨_, rfl⟩
  have v1 : IntKind.i64.wrap (x : Int) = (x : Int) := by rw [IntKind.wrap_i64]; omega
  have v2 : IntKind.i64.wrap (y : Int) = (y : Int) := by rw [IntKind.wrap_i64]; omega
  have s1 : IntKind.i64.wrap ((x : Int) * 2 ^ 8) = (Y : Int) := by rw [IntKind.wrap_i64]; omega
  have s1' : (x : Int) * 256 = (Y : Int) := by omega
  have o1 : bits .or .i64 (Y : Int) (y : Int) = (X : Int) := by rw [hX, ← hY]; exact or_i64 8 Y y (by omega) (by omega) (by omega)
  have q1 : (X : Int) / 2 ^ 14 = (K : Int) := by omega
  have q1' : (X : Int) / 16384 = (K : Int) := by omega
  have q2 : (X : Int) / 2 ^ 9 = (Q : Int) := by omega
  have q2' : (X : Int) / 512 = (Q : Int) := by omega
  have a1 : bits .and .i64 (Q : Int) 31 = (C : Int) := by rw [i64_and31_mod]; omega
  have a2 : bits .and .i64 (X : Int) 511 = (P : Int) := by
    have h := i64_mask (X : Int) 9 (by omega)
    rw [show ((2 ^ 9 - 1 : Nat) : Int) = 511 from rfl, show ((2 ^ 9 : Nat) : Int) = 512 from rfl] at h
    rw [h]; omega
  have p1 : (P : Int) + 1 = (M : Int) := by omega
  have hn0 : (0 : Int) < (n : Int) := by omega
  have hn1 : (1 : Int) < (n : Int) := by omega
  have hM : M ≤ 512 := by omega
  clear hX hx hy hY hQ hP k1 k2 k3 hK1 hK2 hK3 hl hn hl2 hcell0 hcell1
  go_enter Tryz.func143, Tryz.ntmps143
  go_wp2
  go_quiet (fail)
  go_wp2
  refine bodyPost_ret (results_tmp4 rfl _ _ _) rfl ?_
  exact ⟨rfl, below_drewN (Below.refl _ _) nq⟩
/-- Any bytes' head, or none. -/
theorem dlook_or (l : List UInt8) : (l.length < 2 ∧ dlook l = (0, 0, 0, [], 2)) ∨ (2 ≤ l.length ∧ ∃ K C M : Nat, K ≤ 3 ∧ C ≤ 31 ∧ 1 ≤ M ∧ M ≤ 512 ∧ dlook l = ((K : Int), (C : Int), (M : Int), l.drop 2, 0)) := by
  by_cases h : l.length < 2
  · exact .inl ⟨h, dlook_short h⟩
  · have h2 : 2 ≤ l.length := by omega
    have hx : l[0].toNat < 256 := UInt8.toNat_lt _
    have hy : l[1].toNat < 256 := UInt8.toNat_lt _
    exact .inr ⟨h2, _, _, _, by omega, by omega, by omega, by omega, dlook_long h2 rfl⟩
set_option maxHeartbeats 2000000 in
set_option maxRecDepth 100000 in
theorem dlook_any (l : List UInt8) (v : Value) (w : World) (hv : IsB l v w) (hb : l.length ≤ 1000000) : Calls Tryz.prog 154 #[v] w (RetK w (dlook l)) := by
  obtain ⟨A, c, rfl, hA, hnc, hcm, hl⟩ := hv
  obtain ⟨n, hn⟩ : ∃ n, n = l.length := ⟨_, rfl⟩
  rw [← hn] at hA hnc hb ⊢
  have hci : (c : Int) ≤ 9223372036854775807 := by unfold maxLen at hcm; omega
  rcases dlook_or l with ⟨h2, hd⟩ | ⟨h2, K, C, M, hK, hC, hM1, hM, hd⟩
  · have HR := Lib.hid (dread_no A n c w (by omega))
    have hE := Lib.hid hd
    clear hd hl hn hA
    go_enter Tryz.func154, Tryz.ntmps154
    go_wp2_with fail
    refine HR.out.mono ?_
    rintro e w1 ⟨rfl, hb1⟩
    go_wp2
    refine bodyPost_ret (results_tmp5 rfl _ _ _) rfl ?_
    rw [hE.out]
    exact ⟨_, rfl, isB_nil _, hb1⟩
  · rw [← hn] at h2
    have HR := Lib.hid (dread_yes A n c K C M l w hl hn.symm h2 hb hd)
    have hE := Lib.hid hd
    obtain ⟨N, hN⟩ : ∃ N, N = n - 2 := ⟨_, rfl⟩
    have HF := Lib.hid fun (W : World) (h : Below w.heap.size w W) => from_named (P := Tryz.prog) elemB (k := 2) (by omega) hnc hcm hn.symm (hl.below h) hA
    rw [show ((2 : Nat) : Int) = 2 from rfl] at HF
    have HPM := Lib.hid (show ((l.drop 2).map bv).length = N by rw [List.length_map, List.length_drop]; omega)
    have HL := Lib.hid (show (l.drop 2).length = N by rw [List.length_drop]; omega)
    have hN6 : N ≤ 1000000 := by omega
    clear hd hl hn hA hN
    go_enter Tryz.func154, Tryz.ntmps154
    go_wp2_with fail
    refine HR.out.mono ?_
    rintro e w1 ⟨rfl, hb1⟩
    obtain ⟨v3, hv3, A3, c3, e3, hA3, _, _, hl3⟩ := HF.out w1 hb1
    rw [HL.out] at e3 hA3
    subst e3
    have HB1 := Lib.hid hb1
    clear hb1
    go_wp2_with (first | (refine wpList_slicedL rfl _ _ _ rfl _ (hv3 _) ?_) | (at_builtin; refine wpList_join elemB rfl _ _ rfl w1.heap.size _ _ _ _ _ _ ((l.drop 2).map bv) w1 rfl rfl hA3 HPM.out hl3 (bv_one _) (World.ownsRow_nil _ _ _ _) (Below.refl _ _) (Nat.le_refl _) (by omega) (by omega) ?_))
    intro v5 w5 hown5 hb5 _ _
    rw [← List.map_drop] at hown5
    have HI5 := Lib.hid (show IsB (l.drop 2) v5 w5 from isB_own hown5)
    have HB5 := Lib.hid (below_then HB1.out hb5)
    clear hown5 hb5
    go_wp2
    refine bodyPost_ret (results_tmp5 rfl _ _ _) rfl ?_
    rw [hE.out]
    exact ⟨_, rfl, HI5.out, HB5.out⟩
/-- A row that is filled from the front with what a function makes of others. -/
def FillRel {α β : Type} (f : α → Option β) (enc : β → Value) (z : Value) (t : TypeId) (l : List α) (w : World) (i : Value) (wr : World) : Prop :=
  ∃ (k : Nat) (acc : List β), k ≤ l.length ∧ i = .int .i64 (k : Int) ∧ omap f (l.take k) = some acc ∧ Row wr w.heap.size t (acc.map enc ++ List.replicate (l.length - k) z) ∧ Below w.heap.size w wr
theorem fill_step {β : Type} {enc : β → Value} {z : Value} {acc : List β} {y : β} {n k : Nat} (hk : k < n) (ha : acc.length = k) : (acc.map enc ++ List.replicate (n - k) z).set k (enc y) = (acc ++ [y]).map enc ++ List.replicate (n - (k + 1)) z := by
  have hl : (acc.map enc).length = k := by rw [List.length_map, ha]
  rw [List.set_append_right _ _ (by omega), hl, Nat.sub_self, show n - k = n - (k + 1) + 1 by omega, List.replicate_succ, List.set_cons_zero, List.map_append, List.append_assoc]
  rfl
set_option maxHeartbeats 2000000 in
set_option maxRecDepth 100000 in
theorem dplain_any (l : List Int) (v : Value) (s : Bool) (w : World) (hv : IsV iv l v w) (hl : ∀ x ∈ l, inInt x) (hb : l.length ≤ 1000000) : Calls Tryz.prog 137 #[v, .bool s] w (RetV uv w (dplainE l s)) := by
  obtain ⟨A, c, rfl, hA, hnc, hcm, hlw⟩ := hv
  obtain ⟨n, hn⟩ : ∃ n, n = l.length := ⟨_, rfl⟩
  rw [← hn] at hA hnc hb ⊢
  have HN := Lib.hid hn
  have HL := Lib.hid hlw
  have HI := Lib.hid hl
  clear hn hlw hl hcm hA
  go_enter Tryz.func137, Tryz.ntmps137
  go_wp2_with (refine wpList_make elemU rfl _ _ rfl _ _ _ _ n w w.heap.size rfl rfl rfl rfl (by omega) (by omega) (Below.refl _ _) (Nat.le_refl _) ?_)
  intro w1 hr1 hb1
  have hst : FillRel (eplain · s) uv (uv 0) 101 l w (.int .i64 0) w1 := ⟨0, [], by omega, rfl, rfl, by rw [Nat.sub_zero, ← HN.out]; simpa [iv, uv] using hr1, hb1⟩
  clear hr1 hb1
  go_wp2
  go_loopw [14] (FillRel (eplain · s) uv (uv 0) 101 l w) (fun i _ => n - (intOf i).toNat)
  case atStart => exact hst
  case round =>
    obtain ⟨k, acc, hk, rfl, hacc, hr, hbw⟩ := hrel
    have hz := hbw.size
    have hal : acc.length = k := by rw [omap_len hacc, List.length_take]; omega
    rw [← HN.out] at hr
    have HACC := Lib.hid hacc
    have HAL := Lib.hid hal
    have hk' : k ≤ n := by have := HN.out; omega
    clear hst hacc hal
    by_cases hlt : k < n
    · have hkl : k < l.length := by have := HN.out; omega
      have hlti : (k : Int) < (n : Int) := by omega
      obtain ⟨ad, rfl, _, hcell⟩ := (HL.out.below hbw).cell (k := k) (by rw [List.length_map]; exact hkl)
      obtain ⟨x, hx⟩ : ∃ x, x = l[k] := ⟨_, rfl⟩
      have hcx : wr.cell? (ad.add k) = some (.int .i64 (x)) := by rw [hcell, List.getElem_map, hx]; rfl
      have hxb : inInt x := by rw [hx]; exact HI.out _ (List.getElem_mem hkl)
      have HX := Lib.hid hx
      clear hx hcell
      have hfx := hr.free k
      have hgr := hr.lt
      have hcu : ∃ u, wr.cell? ⟨w.heap.size, k, none⟩ = some u := by
        rw [hr.cell]
        exact ⟨_, List.getElem?_eq_getElem (by rw [List.length_append, List.length_map, List.length_replicate]; have := HAL.out; omega)⟩
      obtain ⟨u0, hcu⟩ := hcu
      cases he : eplain x s with
      | none =>
        have hE : Hid (dplainE l s = ([], 1)) := Lib.hid (by
          have h1 : dplain l s = none := omap_none (x := x) (by rw [HX.out]; exact List.getElem_mem hkl) he
          unfold dplainE; rw [h1])
        cases s with
        | true => unfold eplain at he; rw [if_pos rfl] at he; cases he
        | false =>
          have hx0 : x < 0 := by
            unfold eplain at he
            rw [if_neg (by simp)] at he
            by_cases h : 0 ≤ x
            · rw [if_pos h] at he; cases he
            · omega
          have d3 : decide (x < 0) = true := decide_eq_true hx0
          clear he
          go_wp2
          go_ret2
          rw [hE.out]
          exact RetV.nil _ hbw
      | some u =>
        have hnext : Hid (omap (eplain · s) (l.take (k + 1)) = some (acc ++ [u])) := Lib.hid (omap_take hkl HACC.out (by rw [← HX.out]; exact he))
        have hset := hr.set_ k (uv u)
        rw [fill_step hlt HAL.out] at hset
        have HSET := Lib.hid hset
        have HB3 := Lib.hid (hbw.setCell (p := ⟨w.heap.size, k, none⟩) (Nat.le_refl _) (uv u))
        clear hset hr hbw hz
        cases s with
        | true =>
          have hu : vzig x = (u : Int) := by
            unfold eplain at he
            rw [if_pos rfl] at he
            injection he with he
            have := vzig_bd hxb.1 hxb.2
            omega
          have HZ := Lib.hid (zig_any x wr hxb.1 hxb.2)
          rw [hu] at HZ
          clear he hu
          go_wp2_with (go_at_call 165; refine HZ.out.mono ?_; rintro e w' ⟨rfl, rfl⟩)
          go_roundw
          case rel => exact ⟨k + 1, _, by have := HN.out; omega, by go_num, hnext.out, by rw [← HN.out]; exact HSET.out, HB3.out⟩
          case measure => simp [intOf]; omega
        | false =>
          have hx0 : 0 ≤ x ∧ x = (u : Int) := by
            unfold eplain at he
            rw [if_neg (by simp)] at he
            by_cases h : 0 ≤ x
            · rw [if_pos h] at he; injection he with he; omega
            · rw [if_neg h] at he; cases he
          obtain ⟨h0, hxu⟩ := hx0
          have hxu63 : x ≤ 9223372036854775807 := hxb.2
          have HX2 := HX.out
          subst hxu
          have d3 : decide ((u : Int) < 0) = false := decide_eq_false (by omega)
          have hw : IntKind.u64.wrap (u : Int) = (u : Int) := by rw [IntKind.wrap_u64]; omega
          clear he HX2 hxb hxu63
          go_wp2
          go_roundw
          case rel => exact ⟨k + 1, _, by have := HN.out; omega, by go_num, hnext.out, by rw [← HN.out]; exact HSET.out, HB3.out⟩
          case measure => simp [intOf]; omega
    · obtain rfl : k = n := by omega
      have hlti : ¬ (k : Int) < (k : Int) := by omega
      have hE : Hid (dplainE l s = (acc, 0)) := Lib.hid (by
        have h1 := HACC.out
        rw [List.take_of_length_le (by have := HN.out; omega)] at h1
        unfold dplainE dplain; rw [h1])
      rw [Nat.sub_self, List.replicate_zero, List.append_nil] at hr
      have HR := Lib.hid (isV_row hr HAL.out (by omega))
      go_wp2
      go_ret2
      rw [hE.out]
      exact ⟨_, rfl, HR.out, hbw⟩
set_option maxHeartbeats 2000000 in
set_option maxRecDepth 100000 in
theorem dmade_any (l : List Nat) (v : Value) (s : Bool) (w : World) (hv : IsV uv l v w) (hl : ∀ x ∈ l, x < 2 ^ 64) (hb : l.length ≤ 1000000) : Calls Tryz.prog 146 #[v, .bool s] w (RetV iv w (dmadeE l s)) := by
  obtain ⟨A, c, rfl, hA, hnc, hcm, hlw⟩ := hv
  obtain ⟨n, hn⟩ : ∃ n, n = l.length := ⟨_, rfl⟩
  rw [← hn] at hA hnc hb ⊢
  have HN := Lib.hid hn
  have HL := Lib.hid hlw
  have HI := Lib.hid hl
  clear hn hlw hl hcm hA
  go_enter Tryz.func146, Tryz.ntmps146
  go_wp2_with (refine wpList_make elemI rfl _ _ rfl _ _ _ _ n w w.heap.size rfl rfl rfl rfl (by omega) (by omega) (Below.refl _ _) (Nat.le_refl _) ?_)
  intro w1 hr1 hb1
  have hst : FillRel (emade · s) iv (iv 0) 3 l w (.int .i64 0) w1 := ⟨0, [], by omega, rfl, rfl, by rw [Nat.sub_zero, ← HN.out]; simpa [iv, uv] using hr1, hb1⟩
  clear hr1 hb1
  go_wp2
  go_loopw [14] (FillRel (emade · s) iv (iv 0) 3 l w) (fun i _ => n - (intOf i).toNat)
  case atStart => exact hst
  case round =>
    obtain ⟨k, acc, hk, rfl, hacc, hr, hbw⟩ := hrel
    have hz := hbw.size
    have hal : acc.length = k := by rw [omap_len hacc, List.length_take]; omega
    rw [← HN.out] at hr
    have HACC := Lib.hid hacc
    have HAL := Lib.hid hal
    have hk' : k ≤ n := by have := HN.out; omega
    clear hst hacc hal
    by_cases hlt : k < n
    · have hkl : k < l.length := by have := HN.out; omega
      have hlti : (k : Int) < (n : Int) := by omega
      obtain ⟨ad, rfl, _, hcell⟩ := (HL.out.below hbw).cell (k := k) (by rw [List.length_map]; exact hkl)
      obtain ⟨x, hx⟩ : ∃ x, x = l[k] := ⟨_, rfl⟩
      have hcx : wr.cell? (ad.add k) = some (.int .u64 (x : Int)) := by rw [hcell, List.getElem_map, hx]; rfl
      have hxb : x < 2 ^ 64 := by rw [hx]; exact HI.out _ (List.getElem_mem hkl)
      have HX := Lib.hid hx
      clear hx hcell
      have hfx := hr.free k
      have hgr := hr.lt
      have hcu : ∃ u, wr.cell? ⟨w.heap.size, k, none⟩ = some u := by
        rw [hr.cell]
        exact ⟨_, List.getElem?_eq_getElem (by rw [List.length_append, List.length_map, List.length_replicate]; have := HAL.out; omega)⟩
      obtain ⟨u0, hcu⟩ := hcu
      cases he : emade x s with
      | none =>
        have hE : Hid (dmadeE l s = ([], 2)) := Lib.hid (by
          have h1 : dmade l s = none := omap_none (x := x) (by rw [HX.out]; exact List.getElem_mem hkl) he
          unfold dmadeE; rw [h1])
        cases s with
        | true => unfold emade at he; rw [if_pos rfl] at he; cases he
        | false =>
          have hx0 : 9223372036854775808 ≤ (x : Int) := by
            unfold emade at he
            rw [if_neg (by simp)] at he
            by_cases h : x < 9223372036854775808
            · rw [if_pos h] at he; cases he
            · omega
          have d3 : decide ((9223372036854775807 : Int) < (x : Int)) = true := decide_eq_true (by omega)
          clear he hx0 hxb
          go_wp2
          go_ret2
          rw [hE.out]
          exact RetV.nil _ hbw
      | some u =>
        have hnext : Hid (omap (emade · s) (l.take (k + 1)) = some (acc ++ [u])) := Lib.hid (omap_take hkl HACC.out (by rw [← HX.out]; exact he))
        have hset := hr.set_ k (iv u)
        rw [fill_step hlt HAL.out] at hset
        have HSET := Lib.hid hset
        have HB3 := Lib.hid (hbw.setCell (p := ⟨w.heap.size, k, none⟩) (Nat.le_refl _) (iv u))
        clear hset hr hbw hz
        cases s with
        | true =>
          have hu : vzag (x : Int) = u := by
            unfold emade at he
            rw [if_pos rfl] at he
            injection he with he
          have HZ := Lib.hid (zag_any (x : Int) wr (by omega) (by omega))
          rw [hu] at HZ
          clear he hu hxb
          go_wp2_with (go_at_call 177; refine HZ.out.mono ?_; rintro e w' ⟨rfl, rfl⟩)
          go_roundw
          case rel => exact ⟨k + 1, _, by have := HN.out; omega, by go_num, hnext.out, by rw [← HN.out]; exact HSET.out, HB3.out⟩
          case measure => simp [intOf]; omega
        | false =>
          have hx0 : (x : Int) ≤ 9223372036854775807 ∧ u = (x : Int) := by
            unfold emade at he
            rw [if_neg (by simp)] at he
            by_cases h : x < 9223372036854775808
            · rw [if_pos h] at he; injection he with he; omega
            · rw [if_neg h] at he; cases he
          obtain ⟨h0, rfl⟩ := hx0
          have d3 : decide ((9223372036854775807 : Int) < (x : Int)) = false := decide_eq_false (by omega)
          have hw : IntKind.i64.wrap (x : Int) = (x : Int) := by rw [IntKind.wrap_i64]; omega
          clear he hxb h0
          go_wp2
          go_roundw
          case rel => exact ⟨k + 1, _, by have := HN.out; omega, by go_num, hnext.out, by rw [← HN.out]; exact HSET.out, HB3.out⟩
          case measure => simp [intOf]; omega
    · obtain rfl : k = n := by omega
      have hlti : ¬ (k : Int) < (k : Int) := by omega
      have hE : Hid (dmadeE l s = (acc, 0)) := Lib.hid (by
        have h1 := HACC.out
        rw [List.take_of_length_le (by have := HN.out; omega)] at h1
        unfold dmadeE dmade; rw [h1])
      rw [Nat.sub_self, List.replicate_zero, List.append_nil] at hr
      have HR := Lib.hid (isV_row hr HAL.out (by omega))
      go_wp2
      go_ret2
      rw [hE.out]
      exact ⟨_, rfl, HR.out, hbw⟩
end Go.Proofs.YtblpkmmhmdpkjaaGreatDoor

/- direct's Put and Take. -/





namespace Go.Proofs.YtblpkmmhmdpkjaaGreatDoor

open Go.RowKit

theorem most_is {l : List Nat} {v : Value} {w : World} (h : IsV uv l v w) (hb : l.length ≤ 1000000) (h64 : ∀ x ∈ l, x < 2 ^ 64) : Calls Tryz.prog 139 #[v] w fun e w' => e = .returned (.int .i64 (wmost l : Int)) ∧ w = w' := by
  obtain ⟨A, c, rfl, h2, h3, h4, h5⟩ := h
  exact most_any A _ c l w h2 rfl h3 hb h5 h64
set_option maxHeartbeats 2000000 in
set_option maxRecDepth 100000 in
theorem dput_any (l : List Int) (v : Value) (s : Bool) (w : World) (ht : WTab w) (hv : IsV iv l v w) (hl : ∀ x ∈ l, inInt x) (hb : l.length ≤ 1000000) :
    Calls Tryz.prog 124 #[v, .bool s] w (RetE w (dputE l s)) := by
  have HP := Lib.hid (dplain_any l v s w hv hl hb)
  obtain ⟨A, c, rfl, hA, hnc, hcm, hlw⟩ := hv
  obtain ⟨n, hn⟩ : ∃ n, n = l.length := ⟨_, rfl⟩
  rw [← hn] at hA hnc hb HP ⊢
  by_cases hlen : n < 1 ∨ 512 < n
  · have hE := Lib.hid (dputE_len (l := l) (s := s) (by omega))
    have HC := Lib.hid (dcount_no (n : Int) w (by omega))
    clear hn hlw hcm hA hlen ht
    go_enter Tryz.func124, Tryz.ntmps124
    go_wp2_with (go_at_call 136; refine HC.out.mono ?_; rintro e w' ⟨rfl, rfl⟩)
    go_ret2
    rw [hE.out]
    exact RetE.nil _ (Below.refl _ _)
  · have HC := Lib.hid (dcount_yes (n : Int) w (by omega) (by omega))
    cases hd : dplain l s with
    | none =>
      have hE := Lib.hid (dputE_no hd)
      have hpe : dplainE l s = ([], 1) := by unfold dplainE; rw [hd]
      rw [hpe] at HP
      clear hn hlw hcm hA hd hpe ht
      go_enter Tryz.func124, Tryz.ntmps124
      go_wp2_with (first | (go_at_call 136; refine HC.out.mono ?_; rintro e w' ⟨rfl, rfl⟩) | (go_at_call 137; refine HP.out.mono ?_))
      rintro e w1 ⟨u, rfl, hu, hb1⟩
      obtain ⟨A1, c1, rfl, _⟩ := hu
      go_wp2
      go_ret2
      rw [hE.out]
      exact RetE.nil _ hb1
    | some us =>
      have hpe : dplainE l s = (us, 0) := by unfold dplainE; rw [hd]
      rw [hpe] at HP
      have H64 := Lib.hid (dplain_lt hl hd)
      have hul := dplain_len hd
      rw [← hn] at hul
      have hE := Lib.hid (dputE_ok hd (by omega) (by omega))
      have hus : us.length ≤ 512 := by omega
      have HUL := Lib.hid hul
      obtain ⟨W, hW⟩ : ∃ W, W = dwide us := ⟨_, rfl⟩
      obtain ⟨C, hC⟩ : ∃ C, C = dcode us := ⟨_, rfl⟩
      have HW := Lib.hid hW
      have HC2 := Lib.hid hC
      have HCL := Lib.hid (fun X (h : WTab X) => closest_any (wmost us : Int) X h)
      rw [dwide_int, ← hW] at HCL
      have HPK := Lib.hid (fun (u : Value) (X : World) (h : IsV uv us u X) => pack_is (W : Int) (isU_iff.2 h) (by omega) H64.out)
      rw [hW, dpacks H64.out, ← hW] at HPK
      obtain ⟨hci, hc31, _⟩ := dcode_int H64.out
      have HCD := Lib.hid (fun X (h : WTab X) => code_any (W : Int) X h)
      rw [hW, hci, ← hC, ← hW] at HCD
      have HHD := Lib.hid (fun X (h : WTab X) => dhead_own 1 (C : Int) (n : Int) X h (by unfold inInt; omega) (by unfold inInt; omega) (by unfold inInt; omega))
      rw [show (1 : Int) = ((1 : Nat) : Int) from rfl, dhead_in (by omega) (by rw [hC]; exact hc31) (by omega) (by omega), show ((1 : Nat) : Int) = (1 : Int) from rfl] at HHD
      have hsz : (bpack us W).length ≤ 4096 := by rw [bpack_len]; exact bsize_small hus (by rw [hW]; exact (dwide_room H64.out).2.1)
      have HT := Lib.hid ht
      clear hn hlw hcm hA hd hpe hul hW hC hci hc31 hlen ht
      go_enter Tryz.func124, Tryz.ntmps124
      go_wp2_with (first | (go_at_call 136; refine HC.out.mono ?_; rintro e w' ⟨rfl, rfl⟩) | (go_at_call 137; refine HP.out.mono ?_))
      rintro e w1 ⟨u, rfl, hu, hb1⟩
      obtain ⟨A1, c1, rfl, hr⟩ := hu
      have hu : IsV uv us (.slice A1 us.length c1) w1 := ⟨A1, c1, rfl, hr⟩
      have HB1 := Lib.hid hb1
      have HM := Lib.hid (most_is hu (by omega) H64.out)
      have HPK1 := Lib.hid (HPK.out _ w1 hu)
      have HCL1 := Lib.hid (HCL.out w1 (HT.out.below hb1 HT.out.lt))
      clear hb1 hr hu
      go_wp2_with (first | (go_at_call 139; refine HM.out.mono ?_; rintro e w' ⟨rfl, rfl⟩) | (go_at_call 138; refine HCL1.out.mono ?_; rintro e w' ⟨rfl, rfl⟩) | (go_at_call 140; refine HPK1.out.mono ?_))
      rintro e w2 ⟨pk, rfl, hpk, hb2⟩
      obtain ⟨A2, c2, rfl, hA2, hn2, hm2, hl2⟩ := hpk
      have hb02 := below_then HB1.out hb2
      have HB2 := Lib.hid hb02
      have HCD2 := Lib.hid (HCD.out w2 (HT.out.below hb02 HT.out.lt))
      have HHD2 := Lib.hid (HHD.out w2 (HT.out.below hb02 HT.out.lt))
      clear hb2 hb02
      go_wp2_with (first | (go_at_call 142; refine HCD2.out.mono ?_; rintro e w' ⟨rfl, rfl⟩) | (go_at_call 141; refine HHD2.out.mono ?_))
      rintro e w3 ⟨hv3, rfl, hh, hb3⟩
      rw [dheadN_len] at hh
      have hz3 := hb3.size
      have hl3 := hl2.below hb3
      have HB3 := Lib.hid (below_then HB2.out hb3)
      obtain ⟨pl, hpl⟩ : ∃ pl, pl = (bpack us W).length := ⟨_, rfl⟩
      have hpm : ((bpack us W).map bv).length = pl := by rw [List.length_map, hpl]
      have HPM := Lib.hid hpm
      rw [← hpl] at hsz hA2 hn2 ⊢
      have HPL := Lib.hid hpl
      obtain ⟨xs, hxs⟩ : ∃ xs, xs = (dheadN 1 C n).map bv := ⟨_, rfl⟩
      rw [← hxs] at hh
      have HXS := Lib.hid hxs
      clear hpm hpl hxs
      go_wp2_with (at_builtin; refine wpList_join elemB rfl _ _ rfl w2.heap.size _ _ _ _ _ _ ((bpack us W).map bv) w2 rfl rfl hA2 HPM.out hl3 (bv_one _) hh hb3 hz3 (by omega) (by omega) ?_)
      intro v4 w4 hown4 hb4 _ _
      have HO := Lib.hid (show IsB (dlay us) v4 w4 by
        have e1 : dlay us = dheadN 1 C n ++ bpack us W := by unfold dlay; rw [HUL.out, ← HC2.out, ← HW.out]
        rw [e1]
        refine isB_own (n := 2 + pl) (base := w2.heap.size) (e := 5) ?_
        rw [List.map_append, ← HXS.out]
        exact hown4)
      have HB4 := Lib.hid (below_then HB2.out hb4)
      clear hown4 hb4 hh hb3 hz3 hl3
      go_wp2
      go_ret2
      rw [hE.out]
      exact ⟨_, rfl, HO.out, HB4.out⟩
/-- What Unpack answers, as a fact of a region. -/
def Fact.taken (w0 : World) (us : List Nat) (q : List UInt8) (y : Int) : Fact := ⟨fun v w => ∃ u r, v = .tuple #[u, r, .int .i64 y] ∧ IsV uv us u w ∧ OwnB w0 q r w, fun _ _ _ ⟨u, r, h1, h2, h3⟩ hb => ⟨u, r, h1, h2.below hb, h3.below hb⟩⟩
def Fact.ownB (w0 : World) (q : List UInt8) : Fact := ⟨OwnB w0 q, fun _ _ _ h hb => h.below hb⟩
set_option maxHeartbeats 2000000 in
set_option maxRecDepth 100000 in
theorem dtake_own (l : List UInt8) (v : Value) (s : Bool) (w : World) (ht : WTab w) (hv : IsB l v w) (hb : l.length ≤ 1000000) :
    Calls Tryz.prog 125 #[v, .bool s] w (RetIO w (dtakeE l s)) := by
  obtain ⟨A, c, rfl, hA, hnc, hcm, hl⟩ := hv
  obtain ⟨n, hn⟩ : ∃ n, n = l.length := ⟨_, rfl⟩
  rw [← hn] at hA hnc hb ⊢
  have hci : (c : Int) ≤ 9223372036854775807 := by unfold maxLen at hcm; omega
  have HT := Lib.hid ht
  clear ht
  rcases dlook_or l with ⟨h2, hd⟩ | ⟨h2, K, C, M, hK, hC, hM1, hM, hd⟩
  · have HR := Lib.hid (dread_no A n c w (by omega))
    have hE := Lib.hid (dtakeE_no (l := l) (s := s) (.inl (by rw [hd]; decide)))
    clear hd hl hn hA
    go_enter Tryz.func125, Tryz.ntmps125
    go_wp2_with (go_at_call 143; refine HR.out.mono ?_)
    rintro e w1 ⟨rfl, hb1⟩
    go_wp2
    go_ret3
    rw [hE.out]
    exact RetIO.nil _ hb1
  · rw [← hn] at h2
    have HR := Lib.hid (dread_yes A n c K C M l w hl hn.symm h2 hb hd)
    by_cases hk1 : K = 1
    · subst hk1
      have HD := Lib.hid hd
      have HF := Lib.hid fun (W : World) (h : Below w.heap.size w W) => from_named (P := Tryz.prog) elemB (k := 2) (by omega) hnc hcm hn.symm (hl.below h) hA
      rw [show ((2 : Nat) : Int) = 2 from rfl] at HF
      obtain ⟨W, hW⟩ : ∃ W, W = wof (C : Int) := ⟨_, rfl⟩
      have HOF := Lib.hid (fun X (h : WTab X) => of_any (C : Int) X h (by omega) (by omega))
      rw [← hW] at HOF
      obtain ⟨us, q, y, hu⟩ : ∃ us q y, unpacksAny (l.drop 2) (M : Int) W = (us, q, y) := ⟨_, _, _, rfl⟩
      have hlt := (unpacksAny_lt (l := l.drop 2) (M := (M : Int)) (W := W)).1
      have hmany := (unpacksAny_lt (l := l.drop 2) (M := (M : Int)) (W := W)).2
      rw [hu] at hlt hmany
      dsimp only at hlt hmany
      have HU := Lib.hid hu
      have HLT := Lib.hid hlt
      have HUN := Lib.hid (fun (u : Value) (X : World) (h : IsB (l.drop 2) u X) => unpack_isO (M : Int) W h (by rw [List.length_drop]; omega))
      rw [HU.out] at HUN
      have HWW := Lib.hid hW
      have hn2 : (2 : Int) ≤ (n : Int) := by omega
      have d1 : (((1 : Nat) : Int) != 1) = false := by simp
      clear hd hu hlt hW hl hn
      by_cases hy : y = 0
      · subst hy
        have HMD := Lib.hid (fun (u : Value) (X : World) (h : IsV uv us u X) => dmade_any us u s X h HLT.out (by omega))
        cases hm : dmade us s with
        | none =>
          have hpe : dmadeE us s = ([], 2) := by unfold dmadeE; rw [hm]
          rw [hpe] at HMD
          have hE := Lib.hid (dtakeE_bad (s := s) HD.out (by rw [← HWW.out]; exact HU.out) hm)
          clear hm hpe
          go_enter Tryz.func125, Tryz.ntmps125
          go_wp2_with (go_at_call 143; refine HR.out.mono ?_)
          rintro e w1 ⟨rfl, hb1⟩
          have HB1 := Lib.hid hb1
          have HOF1 := HOF
          have HT1 := Lib.hid (HT.out.below hb1 HT.out.lt)
          obtain ⟨v3, hv3, hI3⟩ := HF.out w1 hb1
          have HI3 := Lib.hid hI3
          clear hb1 hI3
          go_wp2_with fail
          refine wp_region_list [.is (.slice A n c), .is (v3), .is (.int .i64 (M : Int)), .is (.int .i64 (C : Int)), .is (.int .i64 W), .taken w1 us q 0, .taken w1 us q 0, .vals uv us, .ownB w1 q, .is (.int .i64 0), .vals uv us, .ownB w1 q, .is (.int .i64 0)] [some 29, some 30, some 31, some 32, some 33, some 34, some 28, some 35, some 36, some 37, some 11, some 12, some 13] (by kernel_rfl) (by kernel_rfl) (by kernel_rfl) rfl ⟨?_, ?_, ?_, ?_, ?_, ?_, ?_, ?_, ?_, ?_, ?_, ?_, ?_, trivial⟩ ?_
          · intro ρ W1 hb1 H
            exact gives_move rfl (H.old 0 _ (by kernel_rfl) rfl) ⟨rfl, Below.refl _ _⟩
          · intro ρ W1 hb1 H
            exact gives_slice rfl (H.new 29 0 (by kernel_rfl)) rfl rfl rfl (by simpa [H.const] using hv3 W1) ⟨rfl, Below.refl _ _⟩
          · intro ρ W1 hb1 H
            exact gives_move rfl (H.old 9 _ (by kernel_rfl) rfl) ⟨rfl, Below.refl _ _⟩
          · intro ρ W1 hb1 H
            exact gives_move rfl (H.old 8 _ (by kernel_rfl) rfl) ⟨rfl, Below.refl _ _⟩
          · intro ρ W1 hb1 H
            have e0 : ρ (.tmp 32) = .int .i64 (C : Int) := H.new 32 3 (by kernel_rfl)
            refine gives_call rfl (fun _ _ => by kernel_rfl) (H.func _) (args := #[.int .i64 (C : Int)]) (by simp [e0]) ?_
            exact (HOF1.out W1 (HT1.out.below hb1 HT1.out.lt)).mono fun e w' ⟨h1, h2⟩ => ⟨_, h1, rfl, h2 ▸ Below.refl _ _⟩
          · intro ρ W1 hb1 H
            have e0 : ρ (.tmp 30) = v3 := H.new 30 1 (by kernel_rfl)
            have e1 : ρ (.tmp 31) = .int .i64 (M : Int) := H.new 31 2 (by kernel_rfl)
            have e2 : ρ (.tmp 33) = .int .i64 W := H.new 33 4 (by kernel_rfl)
            refine gives_call rfl (fun _ _ => by kernel_rfl) (H.func _) (args := #[v3, .int .i64 (M : Int), .int .i64 W]) (by simp [e0, e1, e2]) ?_
            exact (HUN.out v3 W1 (HI3.out.below hb1)).mono fun e w' ⟨u, r, h1, h2, h3, h4⟩ => ⟨_, h1, ⟨u, r, rfl, isV_own h2, OwnB.base hb1.size h3⟩, h4⟩
          · intro ρ W1 hb1 H
            exact gives_move rfl rfl ⟨H.new 34 5 (by kernel_rfl), Below.refl _ _⟩
          · intro ρ W1 hb1 H
            have h28 : ∃ u r, ρ (.tmp 28) = .tuple #[u, r, .int .i64 0] ∧ IsV uv us u W1 ∧ OwnB w1 q r W1 := H.new 28 6 (by kernel_rfl)
            obtain ⟨u, r, h1, h2, h3⟩ := h28
            exact gives_extract rfl h1 rfl ⟨h2, Below.refl _ _⟩
          · intro ρ W1 hb1 H
            have h28 : ∃ u r, ρ (.tmp 28) = .tuple #[u, r, .int .i64 0] ∧ IsV uv us u W1 ∧ OwnB w1 q r W1 := H.new 28 6 (by kernel_rfl)
            obtain ⟨u, r, h1, h2, h3⟩ := h28
            exact gives_extract rfl h1 rfl ⟨h3, Below.refl _ _⟩
          · intro ρ W1 hb1 H
            have h28 : ∃ u r, ρ (.tmp 28) = .tuple #[u, r, .int .i64 0] ∧ IsV uv us u W1 ∧ OwnB w1 q r W1 := H.new 28 6 (by kernel_rfl)
            obtain ⟨u, r, h1, h2, h3⟩ := h28
            exact gives_extract rfl h1 rfl ⟨rfl, Below.refl _ _⟩
          · intro ρ W1 hb1 H
            exact gives_assign rfl rfl ⟨H.new 35 7 (by kernel_rfl), Below.refl _ _⟩
          · intro ρ W1 hb1 H
            exact gives_assign rfl rfl ⟨H.new 36 8 (by kernel_rfl), Below.refl _ _⟩
          · intro ρ W1 hb1 H
            exact gives_assign rfl (H.new 37 9 (by kernel_rfl)) ⟨rfl, Below.refl _ _⟩
          · intro vs W1 hb1 hfs
            have f10 : IsV uv us (vs 10) W1 := hfs 10 (by decide)
            have f11 : OwnB w1 q (vs 11) W1 := hfs 11 (by decide)
            have f12 : vs 12 = .int .i64 0 := hfs 12 (by decide)
            clear hfs
            simp only [putAll, Nat.zero_add, Nat.reduceAdd]
            generalize vs 0 = z0
            generalize vs 1 = z1
            generalize vs 2 = z2
            generalize vs 3 = z3
            generalize vs 4 = z4
            generalize vs 5 = z5
            generalize vs 6 = z6
            generalize vs 7 = z7
            generalize vs 8 = z8
            generalize vs 9 = z9
            generalize vs 10 = z10 at f10 ⊢
            generalize vs 11 = z11 at f11 ⊢
            simp only [f12, Act.put, List.setIfInBounds_toArray, List.set_cons_succ, List.set_cons_zero]
            clear f12
            have HB2 := Lib.hid (below_then HB1.out hb1)
            have HI := Lib.hid f10
            have HQ := Lib.hid (OwnB.base HB1.out.size f11)
            clear hb1 f10 f11
            go_wp2_with (go_at_call 146; refine (HMD.out _ _ HI.out).mono ?_)
            rintro e w3 ⟨m3, rfl, hm3, hb3⟩
            obtain ⟨A3, c3, rfl, _⟩ := hm3
            go_wp2
            go_ret3
            rw [hE.out]
            exact RetIO.nil _ (below_then HB2.out hb3)
        | some m =>
          have hpe : dmadeE us s = (m, 0) := by unfold dmadeE; rw [hm]
          rw [hpe] at HMD
          have hE := Lib.hid (dtakeE_ok (s := s) HD.out (by rw [← HWW.out]; exact HU.out) hm)
          clear hm hpe
          go_enter Tryz.func125, Tryz.ntmps125
          go_wp2_with (go_at_call 143; refine HR.out.mono ?_)
          rintro e w1 ⟨rfl, hb1⟩
          have HB1 := Lib.hid hb1
          have HOF1 := HOF
          have HT1 := Lib.hid (HT.out.below hb1 HT.out.lt)
          obtain ⟨v3, hv3, hI3⟩ := HF.out w1 hb1
          have HI3 := Lib.hid hI3
          clear hb1 hI3
          go_wp2_with fail
          refine wp_region_list [.is (.slice A n c), .is (v3), .is (.int .i64 (M : Int)), .is (.int .i64 (C : Int)), .is (.int .i64 W), .taken w1 us q 0, .taken w1 us q 0, .vals uv us, .ownB w1 q, .is (.int .i64 0), .vals uv us, .ownB w1 q, .is (.int .i64 0)] [some 29, some 30, some 31, some 32, some 33, some 34, some 28, some 35, some 36, some 37, some 11, some 12, some 13] (by kernel_rfl) (by kernel_rfl) (by kernel_rfl) rfl ⟨?_, ?_, ?_, ?_, ?_, ?_, ?_, ?_, ?_, ?_, ?_, ?_, ?_, trivial⟩ ?_
          · intro ρ W1 hb1 H
            exact gives_move rfl (H.old 0 _ (by kernel_rfl) rfl) ⟨rfl, Below.refl _ _⟩
          · intro ρ W1 hb1 H
            exact gives_slice rfl (H.new 29 0 (by kernel_rfl)) rfl rfl rfl (by simpa [H.const] using hv3 W1) ⟨rfl, Below.refl _ _⟩
          · intro ρ W1 hb1 H
            exact gives_move rfl (H.old 9 _ (by kernel_rfl) rfl) ⟨rfl, Below.refl _ _⟩
          · intro ρ W1 hb1 H
            exact gives_move rfl (H.old 8 _ (by kernel_rfl) rfl) ⟨rfl, Below.refl _ _⟩
          · intro ρ W1 hb1 H
            have e0 : ρ (.tmp 32) = .int .i64 (C : Int) := H.new 32 3 (by kernel_rfl)
            refine gives_call rfl (fun _ _ => by kernel_rfl) (H.func _) (args := #[.int .i64 (C : Int)]) (by simp [e0]) ?_
            exact (HOF1.out W1 (HT1.out.below hb1 HT1.out.lt)).mono fun e w' ⟨h1, h2⟩ => ⟨_, h1, rfl, h2 ▸ Below.refl _ _⟩
          · intro ρ W1 hb1 H
            have e0 : ρ (.tmp 30) = v3 := H.new 30 1 (by kernel_rfl)
            have e1 : ρ (.tmp 31) = .int .i64 (M : Int) := H.new 31 2 (by kernel_rfl)
            have e2 : ρ (.tmp 33) = .int .i64 W := H.new 33 4 (by kernel_rfl)
            refine gives_call rfl (fun _ _ => by kernel_rfl) (H.func _) (args := #[v3, .int .i64 (M : Int), .int .i64 W]) (by simp [e0, e1, e2]) ?_
            exact (HUN.out v3 W1 (HI3.out.below hb1)).mono fun e w' ⟨u, r, h1, h2, h3, h4⟩ => ⟨_, h1, ⟨u, r, rfl, isV_own h2, OwnB.base hb1.size h3⟩, h4⟩
          · intro ρ W1 hb1 H
            exact gives_move rfl rfl ⟨H.new 34 5 (by kernel_rfl), Below.refl _ _⟩
          · intro ρ W1 hb1 H
            have h28 : ∃ u r, ρ (.tmp 28) = .tuple #[u, r, .int .i64 0] ∧ IsV uv us u W1 ∧ OwnB w1 q r W1 := H.new 28 6 (by kernel_rfl)
            obtain ⟨u, r, h1, h2, h3⟩ := h28
            exact gives_extract rfl h1 rfl ⟨h2, Below.refl _ _⟩
          · intro ρ W1 hb1 H
            have h28 : ∃ u r, ρ (.tmp 28) = .tuple #[u, r, .int .i64 0] ∧ IsV uv us u W1 ∧ OwnB w1 q r W1 := H.new 28 6 (by kernel_rfl)
            obtain ⟨u, r, h1, h2, h3⟩ := h28
            exact gives_extract rfl h1 rfl ⟨h3, Below.refl _ _⟩
          · intro ρ W1 hb1 H
            have h28 : ∃ u r, ρ (.tmp 28) = .tuple #[u, r, .int .i64 0] ∧ IsV uv us u W1 ∧ OwnB w1 q r W1 := H.new 28 6 (by kernel_rfl)
            obtain ⟨u, r, h1, h2, h3⟩ := h28
            exact gives_extract rfl h1 rfl ⟨rfl, Below.refl _ _⟩
          · intro ρ W1 hb1 H
            exact gives_assign rfl rfl ⟨H.new 35 7 (by kernel_rfl), Below.refl _ _⟩
          · intro ρ W1 hb1 H
            exact gives_assign rfl rfl ⟨H.new 36 8 (by kernel_rfl), Below.refl _ _⟩
          · intro ρ W1 hb1 H
            exact gives_assign rfl (H.new 37 9 (by kernel_rfl)) ⟨rfl, Below.refl _ _⟩
          · intro vs W1 hb1 hfs
            have f10 : IsV uv us (vs 10) W1 := hfs 10 (by decide)
            have f11 : OwnB w1 q (vs 11) W1 := hfs 11 (by decide)
            have f12 : vs 12 = .int .i64 0 := hfs 12 (by decide)
            clear hfs
            simp only [putAll, Nat.zero_add, Nat.reduceAdd]
            generalize vs 0 = z0
            generalize vs 1 = z1
            generalize vs 2 = z2
            generalize vs 3 = z3
            generalize vs 4 = z4
            generalize vs 5 = z5
            generalize vs 6 = z6
            generalize vs 7 = z7
            generalize vs 8 = z8
            generalize vs 9 = z9
            generalize vs 10 = z10 at f10 ⊢
            generalize vs 11 = z11 at f11 ⊢
            simp only [f12, Act.put, List.setIfInBounds_toArray, List.set_cons_succ, List.set_cons_zero]
            clear f12
            have HB2 := Lib.hid (below_then HB1.out hb1)
            have HI := Lib.hid f10
            have HQ := Lib.hid (OwnB.base HB1.out.size f11)
            clear hb1 f10 f11
            go_wp2_with (go_at_call 146; refine (HMD.out _ _ HI.out).mono ?_)
            rintro e w3 ⟨m3, rfl, hm3, hb3⟩
            have HQ3 := Lib.hid (HQ.out.below hb3)
            have HM3 := Lib.hid hm3
            have HB3 := Lib.hid (below_then HB2.out hb3)
            clear hm3 hb3
            go_wp2
            go_ret3
            rw [hE.out]
            exact ⟨_, _, rfl, HM3.out, HQ3.out, HB3.out⟩
      · have hE := Lib.hid (dtakeE_cut (s := s) HD.out (by rw [← HWW.out]; exact HU.out) hy)
        have d2 : (y != 0) = true := by simpa using hy
        go_enter Tryz.func125, Tryz.ntmps125
        go_wp2_with (go_at_call 143; refine HR.out.mono ?_)
        rintro e w1 ⟨rfl, hb1⟩
        have HB1 := Lib.hid hb1
        have HOF1 := HOF
        have HT1 := Lib.hid (HT.out.below hb1 HT.out.lt)
        obtain ⟨v3, hv3, hI3⟩ := HF.out w1 hb1
        have HI3 := Lib.hid hI3
        clear hb1 hI3
        go_wp2_with fail
        refine wp_region_list [.is (.slice A n c), .is (v3), .is (.int .i64 (M : Int)), .is (.int .i64 (C : Int)), .is (.int .i64 W), .taken w1 us q y, .taken w1 us q y, .vals uv us, .ownB w1 q, .is (.int .i64 y), .vals uv us, .ownB w1 q, .is (.int .i64 y)] [some 29, some 30, some 31, some 32, some 33, some 34, some 28, some 35, some 36, some 37, some 11, some 12, some 13] (by kernel_rfl) (by kernel_rfl) (by kernel_rfl) rfl ⟨?_, ?_, ?_, ?_, ?_, ?_, ?_, ?_, ?_, ?_, ?_, ?_, ?_, trivial⟩ ?_
        · intro ρ W1 hb1 H
          exact gives_move rfl (H.old 0 _ (by kernel_rfl) rfl) ⟨rfl, Below.refl _ _⟩
        · intro ρ W1 hb1 H
          exact gives_slice rfl (H.new 29 0 (by kernel_rfl)) rfl rfl rfl (by simpa [H.const] using hv3 W1) ⟨rfl, Below.refl _ _⟩
        · intro ρ W1 hb1 H
          exact gives_move rfl (H.old 9 _ (by kernel_rfl) rfl) ⟨rfl, Below.refl _ _⟩
        · intro ρ W1 hb1 H
          exact gives_move rfl (H.old 8 _ (by kernel_rfl) rfl) ⟨rfl, Below.refl _ _⟩
        · intro ρ W1 hb1 H
          have e0 : ρ (.tmp 32) = .int .i64 (C : Int) := H.new 32 3 (by kernel_rfl)
          refine gives_call rfl (fun _ _ => by kernel_rfl) (H.func _) (args := #[.int .i64 (C : Int)]) (by simp [e0]) ?_
          exact (HOF1.out W1 (HT1.out.below hb1 HT1.out.lt)).mono fun e w' ⟨h1, h2⟩ => ⟨_, h1, rfl, h2 ▸ Below.refl _ _⟩
        · intro ρ W1 hb1 H
          have e0 : ρ (.tmp 30) = v3 := H.new 30 1 (by kernel_rfl)
          have e1 : ρ (.tmp 31) = .int .i64 (M : Int) := H.new 31 2 (by kernel_rfl)
          have e2 : ρ (.tmp 33) = .int .i64 W := H.new 33 4 (by kernel_rfl)
          refine gives_call rfl (fun _ _ => by kernel_rfl) (H.func _) (args := #[v3, .int .i64 (M : Int), .int .i64 W]) (by simp [e0, e1, e2]) ?_
          exact (HUN.out v3 W1 (HI3.out.below hb1)).mono fun e w' ⟨u, r, h1, h2, h3, h4⟩ => ⟨_, h1, ⟨u, r, rfl, isV_own h2, OwnB.base hb1.size h3⟩, h4⟩
        · intro ρ W1 hb1 H
          exact gives_move rfl rfl ⟨H.new 34 5 (by kernel_rfl), Below.refl _ _⟩
        · intro ρ W1 hb1 H
          have h28 : ∃ u r, ρ (.tmp 28) = .tuple #[u, r, .int .i64 y] ∧ IsV uv us u W1 ∧ OwnB w1 q r W1 := H.new 28 6 (by kernel_rfl)
          obtain ⟨u, r, h1, h2, h3⟩ := h28
          exact gives_extract rfl h1 rfl ⟨h2, Below.refl _ _⟩
        · intro ρ W1 hb1 H
          have h28 : ∃ u r, ρ (.tmp 28) = .tuple #[u, r, .int .i64 y] ∧ IsV uv us u W1 ∧ OwnB w1 q r W1 := H.new 28 6 (by kernel_rfl)
          obtain ⟨u, r, h1, h2, h3⟩ := h28
          exact gives_extract rfl h1 rfl ⟨h3, Below.refl _ _⟩
        · intro ρ W1 hb1 H
          have h28 : ∃ u r, ρ (.tmp 28) = .tuple #[u, r, .int .i64 y] ∧ IsV uv us u W1 ∧ OwnB w1 q r W1 := H.new 28 6 (by kernel_rfl)
          obtain ⟨u, r, h1, h2, h3⟩ := h28
          exact gives_extract rfl h1 rfl ⟨rfl, Below.refl _ _⟩
        · intro ρ W1 hb1 H
          exact gives_assign rfl rfl ⟨H.new 35 7 (by kernel_rfl), Below.refl _ _⟩
        · intro ρ W1 hb1 H
          exact gives_assign rfl rfl ⟨H.new 36 8 (by kernel_rfl), Below.refl _ _⟩
        · intro ρ W1 hb1 H
          exact gives_assign rfl (H.new 37 9 (by kernel_rfl)) ⟨rfl, Below.refl _ _⟩
        · intro vs W1 hb1 hfs
          have f10 : IsV uv us (vs 10) W1 := hfs 10 (by decide)
          have f11 : OwnB w1 q (vs 11) W1 := hfs 11 (by decide)
          have f12 : vs 12 = .int .i64 y := hfs 12 (by decide)
          clear hfs
          simp only [putAll, Nat.zero_add, Nat.reduceAdd]
          generalize vs 0 = z0
          generalize vs 1 = z1
          generalize vs 2 = z2
          generalize vs 3 = z3
          generalize vs 4 = z4
          generalize vs 5 = z5
          generalize vs 6 = z6
          generalize vs 7 = z7
          generalize vs 8 = z8
          generalize vs 9 = z9
          generalize vs 10 = z10 at f10 ⊢
          generalize vs 11 = z11 at f11 ⊢
          simp only [f12, Act.put, List.setIfInBounds_toArray, List.set_cons_succ, List.set_cons_zero]
          clear f12
          have HB2 := Lib.hid (below_then HB1.out hb1)
          have HI := Lib.hid f10
          have HQ := Lib.hid (OwnB.base HB1.out.size f11)
          clear hb1 f10 f11
          go_wp2
          go_ret3
          rw [hE.out]
          exact RetIO.nil _ HB2.out
    · have hE := Lib.hid (dtakeE_no (l := l) (s := s) (.inr (by rw [hd]; dsimp only; omega)))
      have d1 : ((K : Int) != 1) = true := by simp; omega
      clear hd hl hn hA
      go_enter Tryz.func125, Tryz.ntmps125
      go_wp2_with (go_at_call 143; refine HR.out.mono ?_)
      rintro e w1 ⟨rfl, hb1⟩
      go_wp2
      go_ret3
      rw [hE.out]
      exact RetIO.nil _ hb1
end Go.Proofs.YtblpkmmhmdpkjaaGreatDoor

/- Slices of values of several cells each (structs): f tells a value's cells, m how many. Over any program. -/



namespace Go.Proofs.YtblpkmmhmdpkjaaGreatDoor

open Go.RowKit

theorem flat_at {α : Type} {f : α → List Value} {m : Nat} (hf : ∀ x, (f x).length = m) : ∀ (l : List α) (k : Nat) (hk : k < l.length) (i : Nat), i < m → (l.flatMap f)[k * m + i]? = (f l[k])[i]?
  | [], _, hk, _, _ => absurd hk (Nat.not_lt_zero _)
  | x :: l, 0, _, i, hi => by
    rw [List.flatMap_cons, Nat.zero_mul, Nat.zero_add, List.getElem?_append_left (by rw [hf]; exact hi)]
    rfl
  | x :: l, k + 1, hk, i, hi => by
    rw [List.flatMap_cons, Nat.succ_mul, List.getElem?_append_right (by rw [hf]; omega), hf, show k * m + m + i - m = k * m + i by omega]
    exact flat_at hf l k (by simpa using hk) i hi
theorem flat_take {α : Type} {f : α → List Value} {m : Nat} (hf : ∀ x, (f x).length = m) : ∀ (l : List α) (k : Nat), (l.take k).flatMap f = (l.flatMap f).take (k * m)
  | [], k => by simp
  | x :: l, 0 => by simp
  | x :: l, k + 1 => by
    rw [List.take_succ_cons, List.flatMap_cons, List.flatMap_cons, flat_take hf l k, Nat.succ_mul, List.take_append, hf, show k * m + m - m = k * m by omega, List.take_of_length_le (l := f x) (by rw [hf]; omega)]
theorem flat_len {α : Type} {f : α → List Value} {m : Nat} (hf : ∀ x, (f x).length = m) : ∀ l : List α, (l.flatMap f).length = l.length * m
  | [] => by simp
  | x :: l => by rw [List.flatMap_cons, List.length_append, hf, flat_len hf l, List.length_cons, Nat.succ_mul, Nat.add_comm]
/-- The slice v holds l, each of whose values takes up the cells f. -/
def IsR {α : Type} (f : α → List Value) (l : List α) (v : Value) (w : World) : Prop := ∃ A c, v = .slice A l.length c ∧ (A = none → l.length = 0) ∧ l.length ≤ c ∧ c ≤ maxLen ∧ Lies w A (l.flatMap f)
section

variable {α : Type} {f : α → List Value} {l : List α} {v : Value} {w w' : World} {A : Option Addr} {n c m : Nat}
theorem IsR.below (h : IsR f l v w) (hb : Below w.heap.size w w') : IsR f l v w' := by
  obtain ⟨A, c, h1, h2, h3, h4, h5⟩ := h
  exact ⟨A, c, h1, h2, h3, h4, h5.below hb⟩
theorem IsR.parts (h : IsR f l (.slice A n c) w) : l.length = n ∧ (A = none → n = 0) ∧ n ≤ c ∧ c ≤ maxLen ∧ Lies w A (l.flatMap f) := by
  obtain ⟨A', c', h1, h2, h3, h4, h5⟩ := h
  injection h1 with e1 e2 e3
  subst e1 e2 e3
  exact ⟨rfl, h2, h3, h4, h5⟩
theorem IsR.shape (h : IsR f l v w) : ∃ A n c, v = .slice A n c := by
  obtain ⟨A', c', h1, _⟩ := h
  exact ⟨_, _, _, h1⟩
theorem IsR.at (h : IsR f l (.slice A n c) w) (hf : ∀ x, (f x).length = m) (hm : 0 < m) {k : Nat} (hk : k < l.length) : ∃ ad, A = some ad ∧ ad.block < w.heap.size ∧ ∀ i, i < m → w.cell? (ad.add (k * m + i)) = (f l[k])[i]? := by
  obtain ⟨_, _, _, _, h5⟩ := h.parts
  have hne : l.flatMap f ≠ [] := by
    intro h0
    have h1 := flat_at hf l k hk 0 hm
    rw [h0, List.getElem?_eq_getElem (l := f l[k]) (by rw [hf]; exact hm)] at h1
    cases h1
  rcases h5 with h5 | ⟨ad, hA, hlt, hc⟩
  · exact absurd h5 hne
  · refine ⟨ad, hA, hlt, fun i hi => ?_⟩
    have h1 := flat_at hf l k hk i hi
    rw [List.getElem?_eq_getElem (l := f l[k]) (by rw [hf]; exact hi)] at h1 ⊢
    exact hc _ _ h1
/-- The first k of it, by x[:k]. -/
theorem IsR.take (h : IsR f l (.slice A n c) w) (hf : ∀ x, (f x).length = m) {k : Nat} (hk : k ≤ n) : IsR f (l.take k) (.slice A k c) w := by
  obtain ⟨h1, h2, h3, h4, h5⟩ := h.parts
  have hl : (l.take k).length = k := by rw [List.length_take]; omega
  exact ⟨A, c, by rw [hl], fun h => by have := h2 h; omega, by rw [hl]; omega, h4, by rw [flat_take hf]; exact h5.take _⟩
end

section

variable {P : Program} {o : Oper} {ρ : Operand → Value} {w : World} {R : Value → World → Prop}
/-- x[k] of a slice whose values take up m cells each: the place. -/
theorem gives_index_wide {t e : TypeId} {m : Nat} (ht : P.underlying t = some (.slice e)) (hs : ∀ W, (sizeOf e).run P W = .ok m W) {x y : Operand} {ad : Addr} {n c k : Nat} (ho : o.op = .indexAddr t x y) (hx : ρ x = .slice (some ad) n c) (hy : ρ y = .int .i64 (k : Int)) (hk : k < n)
    (hR : R (.pointer (some (ad.add (k * m)))) w) : Gives P o ρ w R := by
  refine gives_of (v := .pointer (some (ad.add (k * m)))) (w' := w) ?_ hR
  have h0 : (0 : Int) ≤ (k : Int) := by omega
  have h1 : (k : Int) < (n : Int) := by omega
  simp [execOp, ho, hx, hy, go_sem, ht, hs, h0, h1]
/-- A load of a whole value of several cells, from wherever they lie. -/
theorem gives_load_wide {t : TypeId} {x : Operand} {ad : Addr} {cs : List Value} {d : TypeDesc} (ho : o.op = .load t x) (hx : ρ x = .pointer (some ad)) (hu : P.underlying t = some d) (hd : (match (generalizing := false) d with | .struct _ | .array _ _ => true | _ => false) = true)
    (hs : ∀ W, (sizeOf t).run P W = .ok cs.length W) (hc : ∀ j v, cs[j]? = some v → w.cell? (ad.add j) = some v) (hR : R (.agg cs.toArray) w) : Gives P o ρ w R := by
  refine gives_of (v := .agg cs.toArray) (w' := w) ?_ hR
  have ha : (isAgg t).run P w = .ok true w := by
    unfold isAgg
    rw [Sem.run_bind, run_underlying hu]
    cases d <;> first | rfl | cases hd
  have hl : (loadVar t ad).run P w = .ok (.agg cs.toArray) w := by
    simp [loadVar, ha, hs, run_loadCells_list w ad cs hc]
  simp [execOp, ho, hx, Instr.loadAt, Instr.sureAddr, hl]
/-- p.f: the place of a field, where p is known. -/
theorem gives_field {t : TypeId} {x : Operand} {ad ad' : Addr} {f : Nat} (ho : o.op = .fieldAddr t x f) (hx : ρ x = .pointer (some ad)) (hrun : ∀ W, (Instr.fieldAt t (.pointer (some ad)) f).run P W = .ok (.pointer (some ad')) W)
    (hR : R (.pointer (some ad')) w) : Gives P o ρ w R := by
  refine gives_of (v := .pointer (some ad')) (w' := w) ?_ hR
  simp [execOp, ho, hx, hrun]
end

end Go.Proofs.YtblpkmmhmdpkjaaGreatDoor

/- Rows of the call's own whose values take up m cells each: append. Over any program. -/





namespace Go.Proofs.YtblpkmmhmdpkjaaGreatDoor

open Go.RowKit

/-- The facts on an element's type that appends ask: m cells, so many bytes. -/
structure ElemW (P : Program) (t e : TypeId) (bytes m : Nat) (z : Value) : Prop where
  under : P.underlying t = some (.slice e)
  cells : z.cells.size = m
  pos : 0 < m
  info : ∃ (i : TypeInfo), P.info? e = some i ∧ i.zero = some z ∧ i.size = m ∧ i.bytes = bytes
section

variable {P : Program} (w : World)
end
theorem cells_new (w : World) (cs : List Value) (t : TypeId) : Lies (w.alloc (.cells cs.toArray t)) (some ⟨w.heap.size, 0, none⟩) cs := by
  have h : Row (w.alloc (.cells cs.toArray t)) w.heap.size t cs := heap_alloc_new w _
  simpa using h.lies 0
section

variable {α : Type} {f : α → List Value} {l : List α} {v : Value} {w w' : World} {m n : Nat}
theorem isR_nil (f : α → List Value) (w : World) : IsR f [] (.slice none 0 0) w := ⟨none, 0, rfl, by simp, by simp, by unfold maxLen; omega, Lies.nil⟩
theorem ownW_made (w : World) (e : TypeId) (m : Nat) : (w.alloc (.cells #[] e)).ownsRow w.heap.size e m (.slice (some ⟨w.heap.size, 0, none⟩) 0 0) 0 [] :=
  ⟨by simp, .inr ⟨w.heap.size, 0, #[], rfl, Nat.le_refl _, heap_alloc_new w _, Nat.le_refl _, by unfold maxLen; omega, by simp, by simp⟩⟩
end
end Go.Proofs.YtblpkmmhmdpkjaaGreatDoor

/- Arrays by value: a block that is made, loaded and stored whole. Over any program. -/





namespace Go.Proofs.YtblpkmmhmdpkjaaGreatDoor

open Go.RowKit

/-- Cells that are all the same. (A name of its own: the walk's simp writes List.replicate out.) -/
def zeroRow (n : Nat) (z : Value) : List Value := List.replicate n z
/-- The facts on an array type of n elements of one cell. -/
structure ArrT (P : Program) (t e : TypeId) (n : Nat) (z : Value) : Prop where
  under : P.underlying t = some (.array n e)
  info : (P.info? t).map (fun i => (i.zero, i.size)) = some (some (.agg (zeroRow n z).toArray), n)
theorem ArrT.size_ {P : Program} {t e : TypeId} {n : Nat} {z : Value} (E : ArrT P t e n z) : (P.info? t).map (·.size) = some n := (zero_of_info E.info).2

section

variable {P : Program} {w : World} {ops : Array Oper} {rest : List Oper} {o : Oper} {a : Act} {Q : Exit → Act → World → Prop} {t e : TypeId} {n : Nat} {z : Value}
end
end Go.Proofs.YtblpkmmhmdpkjaaGreatDoor

/- A region that draws, each operation shown once, over ANY relation of worlds (XRegion: over 'old memory as it was'): for a region that also writes: the relation says what each operation leaves as it was; a fact may speak of the values of what its operation waits for. -/



namespace Go.Proofs.YtblpkmmhmdpkjaaGreatDoor

open Go.RowKit

/-- A relation of worlds that regions may go by. -/
structure Later (R : World → World → Prop) : Prop where
  refl : ∀ w, R w w
  trans : ∀ {a b c}, R a b → R b c → R a c
  draw : ∀ w, R w { w with drawn := w.drawn + 1 }
def upd (vs : Nat → Value) (i : Nat) (v : Value) : Nat → Value := fun j => if j = i then v else vs j
theorem upd_at (vs : Nat → Value) (i : Nat) (v : Value) : upd vs i v i = v := if_pos rfl
theorem upd_ne (vs : Nat → Value) {i j : Nat} (v : Value) (h : j ≠ i) : upd vs i v j = vs j := if_neg h
/-- What is known of what an operation sees. -/
structure RCtxR (ops : Array Oper) (F : Nat → (Nat → Value) → World → Prop) (a0 : Act) (i : Nat) (ρ : Operand → Value) (vs : Nat → Value) (w : World) : Prop where
  const : ∀ v, ρ (.const v) = v
  func : ∀ f, ρ (.func f) = .func (.func f) #[] #[]
  glob : ∀ g, ρ (.global g) = .pointer (some ⟨g, 0, none⟩)
  new : ∀ d j, writer ops i d = some j → ρ (.tmp d) = vs j
  fact : ∀ j, rpred ops j i = true → F j vs w
  old : ∀ d v, writer ops i d = none → a0.eval (.tmp d) = v → ρ (.tmp d) = v
theorem writer_pred {ops : Array Oper} {i d j : Nat} (h : writer ops i d = some j) : rpred ops j i = true := by
  have h1 := List.find?_some h
  simp at h1
  exact h1.2
section

variable {P : Program} {ops : Array Oper} {Q : Exit → Act → World → Prop} {R : World → World → Prop}
/-- **A region that draws, whose first m operations are each shown once** (the frame: as the text's order gives it); what follows them is shown from where all these have been done. -/
theorem wpAny_region_coreR (HR : Later R) {a0 : Act} {w0 : World} (m : Nat) (hm : m ≤ ops.size) (F : Nat → (Nat → Value) → World → Prop)
    (hok : regionOk ops a0.tmps.size = true)
    (hF : ∀ i vs w w', F i vs w → R w w' → F i vs w')
    (hloc : ∀ i vs vs' w, (∀ k, (k = i ∨ rpred ops k i = true) → vs k = vs' k) → F i vs w → F i vs' w)
    (hstep : ∀ i o, i < m → ops[i]? = some o → ∀ (vs : Nat → Value) (w : World), R w0 w → (∀ j, rpred ops j i = true → F j vs w) →
      if Region.wanted o (yielded ops (puts ops (fun _ => true) vs i a0).tmps) = true then
        o.wp P (puts ops (fun _ => true) vs i a0) w (fun a' w' => ∃ v, a' = (puts ops (fun _ => true) vs i a0).put o.dst v ∧ F i (upd vs i v) w' ∧ R w w') (fun _ _ _ => False)
      else F i (upd vs i undef) w)
    (hwait : ∀ l : Array Bool, HeadInv .any ops m l → (∃ i, i < m ∧ l.getD i true = false) → ∀ t, m ≤ t → t ∉ Region.ready .any ops l)
    (hfin : ∀ (l : Array Bool) (vs : Nat → Value) (w : World), l.size = ops.size → (∀ j, j < m → l.getD j false = true) → (∀ j, m ≤ j → j < ops.size → l.getD j false = false) → R w0 w → (∀ i, i < m → F i vs w) →
      wpAny P .any ops Q (ops.size - m) l (puts ops (fun _ => true) vs m a0) w) :
    wpAny P .any ops Q ops.size (Array.replicate ops.size false) a0 { w0 with drawn := w0.drawn + 1 } := by
  have main : ∀ (fuel : Nat) (l : Array Bool) (vs : Nat → Value) (w : World), l.size = ops.size → left m l ≤ fuel → (∀ i j, i < ops.size → l.getD i false = true → rpred ops j i = true → l.getD j false = true) →
      (∀ t, m ≤ t → t < ops.size → l.getD t false = false) →
      (∀ i, i < ops.size → l.getD i false = true → F i vs w) → R w0 w → wpAny P .any ops Q (fuel + (ops.size - m)) l (puts ops (fun j => l.getD j false) vs ops.size a0) w := by
    intro fuel
    have hend : ∀ (f : Nat) (l : Array Bool) (vs : Nat → Value) (w : World), l.size = ops.size → (∀ t, m ≤ t → t < ops.size → l.getD t false = false) → (∀ i, i < ops.size → l.getD i false = true → F i vs w) → R w0 w → (∀ j, j < m → l.getD j false = true) →
        wpAny P .any ops Q (f + (ops.size - m)) l (puts ops (fun j => l.getD j false) vs ops.size a0) w := by
      intro f l vs w hs htl hfs hb hall
      rw [puts_cut _ vs a0 m ops.size hm htl, puts_congr (fun j => l.getD j false) (fun _ => true) vs vs a0 m hall (fun _ _ _ => rfl)]
      exact wpAny_add _ _ _ _ _ (hfin l vs w hs hall htl hb fun i hi => hfs i (by omega) (hall i hi))
    induction fuel with
    | zero =>
      intro l vs w hs hl hcl htl hfs hb
      refine hend 0 l vs w hs htl hfs hb fun j hj => ?_
      cases h1 : l.getD j false with
      | true => rfl
      | false => have := left_set_in hj (by omega) h1; omega
    | succ fuel ih =>
      intro l vs w hs hl hcl htl hfs hb
      by_cases hall : ∀ j, j < m → l.getD j false = true
      · exact hend _ l vs w hs htl hfs hb hall
      obtain ⟨j0, hj0⟩ := Classical.not_forall.1 hall
      have hj0m : j0 < m := by
        rcases Nat.lt_or_ge j0 m with h | h
        · exact h
        · exact absurd (fun h' => absurd h' (by omega)) hj0
      have hj0f : l.getD j0 false = false := by
        cases h1 : l.getD j0 false with
        | false => rfl
        | true => exact absurd (fun _ => h1) hj0
      have hinv : HeadInv .any ops m l := by
        refine ⟨hs, fun j oj hj hlj e he hbd => ?_, fun t ht ht' => getD_in (by omega) (htl t ht ht')⟩
        refine hcl j e.on (Array.getElem?_eq_some_iff.1 hj).1 hlj ?_
        unfold rpred
        rw [hj, Option.map_some, Option.getD_some, List.any_eq_true]
        exact ⟨e, by simpa using he, by rw [hbd]; simp⟩
      have hwt := hwait l hinv ⟨j0, hj0m, getD_in (by omega) hj0f⟩
      rw [show fuel + 1 + (ops.size - m) = (fuel + (ops.size - m)) + 1 by omega]
      refine ⟨fun hr => ?_, fun i hi => ?_⟩
      · exfalso
        have hallb : ∀ i, i < m → l.getD i false = true := by
          intro i
          induction i using Nat.strongRecOn with
          | ind i ih =>
            intro hi
            by_cases hl : l.getD i false = true
            · exact hl
            · exfalso
              have ho : ops[i]? = some ops[i] := Array.getElem?_eq_getElem (by omega)
              have hok' := regionOk_at hok ho
              have hmem : i ∈ Region.ready .any ops l := mem_ready.2 ⟨by
                have : i < l.size := by omega
                simp [this] at hl ⊢
                exact hl, ops[i], ho, fun e he hbd => ih e.on (hok'.1 e he hbd) (by have := hok'.1 e he hbd; omega)⟩
              rw [hr] at hmem
              cases hmem
        exact absurd (hallb j0 hj0m) (by rw [hj0f]; decide)
      have him : i < m := by
        rcases Nat.lt_or_ge i m with h | h
        · exact h
        · exact absurd hi (hwt i h)
      obtain ⟨h0, o, ho, hpre⟩ := mem_ready.1 hi
      have hlt : i < ops.size := (Array.getElem?_eq_some_iff.1 ho).1
      have h1 : l.getD i false = false := by
        have : i < l.size := by omega
        simp [this] at h0 ⊢
        exact h0
      obtain ⟨hback, hsel, hdst, hlook⟩ := regionOk_at hok ho
      have hpred : ∀ j, rpred ops j i = true → l.getD j false = true ∧ j < i := by
        intro j hj
        unfold rpred at hj
        rw [ho, Option.map_some, Option.getD_some, List.any_eq_true] at hj
        obtain ⟨e, he, hej⟩ := hj
        have he : e ∈ o.after := by simpa using he
        simp at hej
        rw [← hej.2]
        exact ⟨hpre e he hej.1, hback e he hej.1⟩
      have hrd : rdst ops i = o.dst := by unfold rdst; rw [ho]; rfl
      -- what the operation looks at is the same in both frames
      have hsame : ∀ d ∈ o.looksAt ops, (puts ops (fun j => l.getD j false) vs ops.size a0).tmps[d]? = (puts ops (fun _ => true) vs i a0).tmps[d]? := by
        intro d hd
        by_cases hex : ∃ j, j < ops.size ∧ j ≠ i ∧ rdst ops j = some d
        · obtain ⟨j, hj, hne, hjd⟩ := hex
          have hoj : ops[j]? = some ops[j] := Array.getElem?_eq_getElem hj
          have hdj : ops[j].dst = some d := by unfold rdst at hjd; rw [hoj] at hjd; exact hjd
          have huniq : ∀ k, k < ops.size → k ≠ j → rdst ops k ≠ some d := fun k hk hkj => ((regionOk_at hok hoj).2.2.1 d hdj).2 k hk hkj
          rcases hlook d hd j hj hne hjd with hp | hp
          · obtain ⟨hlj, hji⟩ := hpred j hp
            rw [puts_new _ vs a0 d j hjd hlj ops.size hj huniq, puts_new _ vs a0 d j hjd rfl i hji fun k hk => huniq k (by omega)]
          · have hnl : l.getD j false = false := by
              cases hlj : l.getD j false with
              | false => rfl
              | true => exact absurd (hcl j i hj hlj hp) (by rw [h1]; decide)
            have hij : i < j := by
              unfold rpred at hp
              rw [hoj, Option.map_some, Option.getD_some, List.any_eq_true] at hp
              obtain ⟨e, he, hej⟩ := hp
              have he : e ∈ ops[j].after := by simpa using he
              simp at hej
              have := (regionOk_at hok hoj).1 e he hej.1
              omega
            rw [puts_old _ vs a0 d ops.size, puts_old _ vs a0 d i]
            · intro k hk _ hkd
              exact huniq k (by omega) (by omega) hkd
            · intro k hk hlk hkd
              by_cases hkj : k = j
              · subst hkj; rw [hnl] at hlk; cases hlk
              · exact huniq k hk hkj hkd
        · rw [puts_old _ vs a0 d ops.size, puts_old _ vs a0 d i]
          · intro k hk _ hkd; exact hex ⟨k, by omega, by omega, hkd⟩
          · intro k hk hlk hkd
            by_cases hki : k = i
            · subst hki; rw [h1] at hlk; cases hlk
            · exact hex ⟨k, hk, hki, hkd⟩
      have hst := hstep i o him ho vs w hb fun j hj => hfs j (by have := (hpred j hj).2; omega) (hpred j hj).1
      have hwant := wanted_congr hsame
      have hexec : execOp (puts ops (fun j => l.getD j false) vs ops.size a0).eval o = execOp (puts ops (fun _ => true) vs i a0).eval o := by
        refine execOp_congr o hsel fun x hx => ?_
        cases x with
        | tmp d =>
          have hd : d ∈ o.looksAt ops := List.mem_append_left _ (List.mem_filterMap.2 ⟨.tmp d, by simpa using hx, rfl⟩)
          have := hsame d hd
          show (puts ops (fun j => l.getD j false) vs ops.size a0).tmps.getD d undef = (puts ops (fun _ => true) vs i a0).tmps.getD d undef
          rw [Array.getD_eq_getD_getElem?, Array.getD_eq_getD_getElem?, this]
        | _ => rfl
      -- behind it
      have hnext : ∀ v w', F i (upd vs i v) w' → R w w' → wpAny P .any ops Q (fuel + (ops.size - m)) (l.setIfInBounds i true) ((puts ops (fun j => l.getD j false) vs ops.size a0).put o.dst v) w' := by
        intro v w' hv hb'
        have hset := puts_set (ops := ops) (fun j => l.getD j false) vs a0 i v h1 ops.size hlt fun j hj hne d hd => (hdst d (by rw [← hrd]; exact hd)).2 j hj hne
        rw [← hrd, ← hset]
        have hmarks : ∀ j, j < ops.size → (j == i || l.getD j false) = (l.setIfInBounds i true).getD j false := by
          intro j hj
          by_cases hij : i = j
          · subst hij; simp [hs, hlt]
          · rw [getD_set_ne false hij]
            have : (j == i) = false := by simp; omega
            simp [this]
        rw [puts_congr _ (fun j => (l.setIfInBounds i true).getD j false) _ (fun j => if j = i then v else vs j) a0 ops.size hmarks (fun _ _ _ => rfl)]
        refine ih (l.setIfInBounds i true) _ w' (by simp [hs]) (by have := left_set_in him (by omega) h1; omega) ?_ ?_ ?_ (HR.trans hb hb')
        · intro j k hj hlj hjk
          rw [← hmarks j hj] at hlj
          by_cases hji : j = i
          · subst hji; exact getD_set_true (hpred k hjk).1
          · have : (j == i) = false := by simpa using hji
            rw [this, Bool.false_or] at hlj
            exact getD_set_true (hcl j k hj hlj hjk)
        · intro t ht ht'
          rw [getD_set_ne false (by omega)]
          exact htl t ht ht'
        · intro j hj hlj
          rw [← hmarks j hj] at hlj
          by_cases hji : j = i
          · subst hji; exact hv
          · have : (j == i) = false := by simpa using hji
            rw [this, Bool.false_or] at hlj
            refine hF j _ w w' (hloc j vs _ w (fun k hk => ?_) (hfs j hj hlj)) hb'
            have hki : k ≠ i := by
              rcases hk with rfl | hk
              · exact hji
              · rintro rfl
                rw [hcl j k hj hlj hk] at h1
                cases h1
            show vs k = if k = i then v else vs k
            rw [if_neg hki]
      unfold wpOp
      rw [ho]
      show if Region.wanted o _ = true then _ else _
      rw [hwant]
      by_cases hw : Region.wanted o (yielded ops (puts ops (fun _ => true) vs i a0).tmps) = true
      · rw [if_pos hw] at hst ⊢
        exact .inl (wp_carry hexec (fun d hd => by rw [puts_size]; exact (hdst d hd).1) hst fun v w' h => hnext v w' h.1 h.2)
      · rw [if_neg hw] at hst ⊢
        exact hnext undef w hst (HR.refl _)
  have hinit := main m (Array.replicate ops.size false) (fun _ => undef) { w0 with drawn := w0.drawn + 1 } (by simp) (by unfold left; exact Nat.le_trans (List.length_filter_le _ _) (by simp))
    (fun i j hi h _ => by simp [hi] at h) (fun t _ _ => getD_replicate_false _ _) (fun i hi h => by simp [hi] at h) (HR.draw _)
  have hz : puts ops (fun j => (Array.replicate ops.size false).getD j false) (fun _ => undef) ops.size a0 = a0 := by
    have : ∀ n, n ≤ ops.size → puts ops (fun j => (Array.replicate ops.size false).getD j false) (fun _ => undef) n a0 = a0 := by
      intro n
      induction n with
      | zero => intro _; rfl
      | succ n ih =>
        intro hn
        have hlt : n < ops.size := by omega
        rw [puts, if_neg (by simp [hlt]), ih (by omega)]
    exact this _ (Nat.le_refl _)
  rw [hz, show m + (ops.size - m) = ops.size by omega] at hinit
  exact hinit

/-- **A region that draws**: each operation is shown once, in the frame that the text's order gives it, knowing of what it waits for; behind the region all facts hold. -/
theorem wpAny_region_factsR (HR : Later R) {a0 : Act} {w0 : World} (F : Nat → (Nat → Value) → World → Prop)
    (hok : regionOk ops a0.tmps.size = true)
    (hF : ∀ i vs w w', F i vs w → R w w' → F i vs w')
    (hloc : ∀ i vs vs' w, (∀ k, (k = i ∨ rpred ops k i = true) → vs k = vs' k) → F i vs w → F i vs' w)
    (hstep : ∀ i o, ops[i]? = some o → ∀ (vs : Nat → Value) (w : World), R w0 w → (∀ j, rpred ops j i = true → F j vs w) →
      if Region.wanted o (yielded ops (puts ops (fun _ => true) vs i a0).tmps) = true then
        o.wp P (puts ops (fun _ => true) vs i a0) w (fun a' w' => ∃ v, a' = (puts ops (fun _ => true) vs i a0).put o.dst v ∧ F i (upd vs i v) w' ∧ R w w') (fun _ _ _ => False)
      else F i (upd vs i undef) w)
    (hfin : ∀ (vs : Nat → Value) (w : World), R w0 w → (∀ i, i < ops.size → F i vs w) → Q .normal (puts ops (fun _ => true) vs ops.size a0) w) :
    wpAny P .any ops Q ops.size (Array.replicate ops.size false) a0 { w0 with drawn := w0.drawn + 1 } := by
  refine wpAny_region_coreR HR ops.size (Nat.le_refl _) F hok hF hloc (fun i o _ => hstep i o) (fun l _ _ t ht hr => ?_) fun l vs w hs hall _ hb hf => ?_
  · obtain ⟨_, o, ho, _⟩ := mem_ready.1 hr
    have := (Array.getElem?_eq_some_iff.1 ho).1
    omega
  · rw [Nat.sub_self]
    refine ⟨List.eq_nil_iff_forall_not_mem.2 fun i hi => ?_, hfin vs w hb hf⟩
    obtain ⟨h0, o, ho, _⟩ := mem_ready.1 hi
    have hlt := (Array.getElem?_eq_some_iff.1 ho).1
    have h1 := hall i hlt
    have : i < l.size := by omega
    simp [this] at h0 h1
    rw [h0] at h1
    cases h1
def StepAtR (R : World → World → Prop) (P : Program) (ops : Array Oper) (F : Nat → (Nat → Value) → World → Prop) (a0 : Act) (w0 : World) (i : Nat) (o : Oper) : Prop :=
  ∀ (ρ : Operand → Value) (vs : Nat → Value) (w : World), R w0 w → RCtxR ops F a0 i ρ vs w →
    match o.guard with
    | none => Gives P o ρ w fun v w' => F i (upd vs i v) w' ∧ R w w'
    | some (g, b) => ∀ d, rdst ops g = some d → (ρ (.tmp d) = .bool b → Gives P o ρ w fun v w' => F i (upd vs i v) w' ∧ R w w') ∧ (ρ (.tmp d) ≠ .bool b → F i (upd vs i undef) w)

def StepsFromR (R : World → World → Prop) (P : Program) (ops : Array Oper) (F : Nat → (Nat → Value) → World → Prop) (a0 : Act) (w0 : World) : Nat → List Oper → Prop
  | _, [] => True
  | i, o :: r => StepAtR R P ops F a0 w0 i o ∧ StepsFromR R P ops F a0 w0 (i + 1) r

theorem stepsFrom_atR {F : Nat → (Nat → Value) → World → Prop} {a0 : Act} {w0 : World} : ∀ (l : List Oper) (k : Nat), StepsFromR R P ops F a0 w0 k l → ∀ i o, l[i]? = some o → StepAtR R P ops F a0 w0 (k + i) o := by
  intro l
  induction l with
  | nil => intro k _ i o h; simp at h
  | cons x l ih =>
    intro k hs i o h
    cases i with
    | zero => simp at h; subst h; exact hs.1
    | succ i =>
      have := ih (k + 1) hs.2 i o (by simpa using h)
      rwa [Nat.add_assoc, Nat.add_comm 1] at this

/-- **A region that draws**, in the form in which it is used: a fact for each operation, a step for each. -/
theorem region_stepR {a0 : Act} {w0 : World} (F : Nat → (Nat → Value) → World → Prop)
    (hok : regionOk ops a0.tmps.size = true) (hgd : guardsOk ops = true)
    (i : Nat) (o : Oper) (ho : ops[i]? = some o) (hst : StepAtR R P ops F a0 w0 i o) (vs : Nat → Value) (w : World) (hb : R w0 w) (hp : ∀ j, rpred ops j i = true → F j vs w) :
      if Region.wanted o (yielded ops (puts ops (fun _ => true) vs i a0).tmps) = true then
        o.wp P (puts ops (fun _ => true) vs i a0) w (fun a' w' => ∃ v, a' = (puts ops (fun _ => true) vs i a0).put o.dst v ∧ F i (upd vs i v) w' ∧ R w w') (fun _ _ _ => False)
      else F i (upd vs i undef) w := by
  have hlt : i < ops.size := (Array.getElem?_eq_some_iff.1 ho).1
  obtain ⟨hback, hsel, hdst, hlook⟩ := regionOk_at hok ho
  have hpi : ∀ j, rpred ops j i = true → j < i := by
    intro j hj
    unfold rpred at hj
    rw [ho, Option.map_some, Option.getD_some, List.any_eq_true] at hj
    obtain ⟨e, he, hej⟩ := hj
    simp at hej
    rw [← hej.2]
    exact hback e (by simpa using he) hej.1
  have hw : ∀ d j, writer ops i d = some j → rdst ops j = some d ∧ rpred ops j i = true ∧ j < ops.size := by
    intro d j h
    have h1 := List.find?_some h
    have h2 := List.mem_of_find?_eq_some h
    simp at h1
    exact ⟨h1.1, h1.2, List.mem_range.1 h2⟩
  have hctx : RCtxR ops F a0 i (sees ops vs a0 i) vs w := by
    refine ⟨fun _ => rfl, fun _ => rfl, fun _ => rfl, fun d j h => ?_, hp, fun d v h hv => ?_⟩
    · show (match writer ops i d with | some j => vs j | none => a0.eval (.tmp d)) = vs j
      rw [h]
    · show (match writer ops i d with | some j => vs j | none => a0.eval (.tmp d)) = v
      rw [h]
      exact hv
  -- what it looks at is what it sees
  have hsee : ∀ d ∈ o.looksAt ops, (puts ops (fun _ => true) vs i a0).tmps.getD d undef = sees ops vs a0 i (.tmp d) := by
    intro d hd
    show _ = (match writer ops i d with | some j => vs j | none => a0.eval (.tmp d))
    cases hwr : writer ops i d with
    | some j =>
      obtain ⟨h1, h2, h3⟩ := hw d j hwr
      have hoj : ops[j]? = some ops[j] := Array.getElem?_eq_getElem h3
      have hdj : ops[j].dst = some d := by unfold rdst at h1; rw [hoj] at h1; exact h1
      have hu := (regionOk_at hok hoj).2.2.1 d hdj
      have hpn := puts_new (ops := ops) (fun _ => true) vs a0 d j h1 rfl i (hpi j h2) fun k hk => hu.2 k (by omega)
      rw [Array.getD_eq_getD_getElem?, hpn]
      simp [Act.put, hu.1]
    | none =>
      have hno : ∀ j, j < i → rdst ops j ≠ some d := by
        intro j hj hjd
        have h1 := hlook d hd j (by omega) (by omega) hjd
        rcases h1 with h1 | h1
        · have h2 := List.find?_eq_none.1 hwr j (List.mem_range.2 (by omega))
          simp [hjd, h1] at h2
        · have hoj : ops[j]? = some ops[j] := Array.getElem?_eq_getElem (by omega)
          unfold rpred at h1
          rw [hoj, Option.map_some, Option.getD_some, List.any_eq_true] at h1
          obtain ⟨e, he, hej⟩ := h1
          simp at hej
          have := (regionOk_at hok hoj).1 e (by simpa using he) hej.1
          omega
      show _ = a0.tmps.getD d undef
      rw [Array.getD_eq_getD_getElem?, Array.getD_eq_getD_getElem?, puts_old (ops := ops) (fun _ => true) vs a0 d i fun j hj _ => hno j hj]
  have hexec : execOp (puts ops (fun _ => true) vs i a0).eval o = execOp (sees ops vs a0 i) o := by
    refine execOp_congr o hsel fun x hx => ?_
    cases x with
    | tmp d => exact hsee d (List.mem_append_left _ (List.mem_filterMap.2 ⟨.tmp d, by simpa using hx, rfl⟩))
    | _ => rfl
  have h1 := hst (sees ops vs a0 i) vs w hb hctx
  cases hg : o.guard with
  | none =>
    rw [hg] at h1
    have hwa : Region.wanted o (yielded ops (puts ops (fun _ => true) vs i a0).tmps) = true := by unfold Region.wanted; rw [hg]
    rw [if_pos hwa]
    exact wp_of_gives hexec h1
  | some p =>
    obtain ⟨g, b⟩ := p
    rw [hg] at h1
    have hgo : (rdst ops g).isSome = true := by
      unfold guardsOk at hgd
      rw [List.all_eq_true] at hgd
      have := hgd i (List.mem_range.2 hlt)
      rw [ho, Option.map_some, Option.getD_some, hg] at this
      exact this
    obtain ⟨d, hd⟩ := Option.isSome_iff_exists.1 hgo
    obtain ⟨hyes, hno⟩ := h1 d hd
    have hdl : d ∈ o.looksAt ops := List.mem_append_right _ (by rw [hg]; show d ∈ ((ops[g]?).bind (·.dst)).toList; have : (ops[g]?).bind (·.dst) = some d := hd; rw [this]; simp)
    have hv := hsee d hdl
    by_cases hw : Region.wanted o (yielded ops (puts ops (fun _ => true) vs i a0).tmps) = true
    · rw [if_pos hw]
      refine wp_of_gives hexec (hyes ?_)
      rw [← hv]
      unfold Region.wanted at hw
      rw [hg] at hw
      have hd' : (ops[g]?).bind (·.dst) = some d := hd
      simp only [yielded, hd', Option.bind_some] at hw
      rw [Array.getD_eq_getD_getElem?]
      cases hx : (puts ops (fun _ => true) vs i a0).tmps[d]? with
      | none => rw [hx] at hw; simp at hw
      | some v =>
        rw [hx] at hw
        cases v <;> simp at hw
        subst hw
        rfl
    · rw [if_neg hw]
      refine hno fun h => hw ?_
      rw [← hv, Array.getD_eq_getD_getElem?] at h
      unfold Region.wanted
      rw [hg]
      have hd' : (ops[g]?).bind (·.dst) = some d := hd
      simp only [yielded, hd', Option.bind_some]
      cases hx : (puts ops (fun _ => true) vs i a0).tmps[d]? with
      | none => rw [hx] at h; cases h
      | some v =>
        rw [hx] at h
        have h : v = .bool b := h
        subst h
        simp
theorem stepsFrom_allR {F : Nat → (Nat → Value) → World → Prop} {a0 : Act} {w0 : World} (h : StepsFromR R P ops F a0 w0 0 ops.toList) (i : Nat) (o : Oper) (ho : ops[i]? = some o) : StepAtR R P ops F a0 w0 i o := by
  have := stepsFrom_atR ops.toList 0 h i o (by simpa using ho)
  simpa using this
theorem wpAny_region_stepsR (HR : Later R) {a0 : Act} {w0 : World} (F : Nat → (Nat → Value) → World → Prop)
    (hok : regionOk ops a0.tmps.size = true) (hgd : guardsOk ops = true)
    (hF : ∀ i vs w w', F i vs w → R w w' → F i vs w')
    (hloc : ∀ i vs vs' w, (∀ k, (k = i ∨ rpred ops k i = true) → vs k = vs' k) → F i vs w → F i vs' w)
    (hsteps : StepsFromR R P ops F a0 w0 0 ops.toList)
    (hfin : ∀ (vs : Nat → Value) (w : World), R w0 w → (∀ i, i < ops.size → F i vs w) → Q .normal (puts ops (fun _ => true) vs ops.size a0) w) :
    wpAny P .any ops Q ops.size (Array.replicate ops.size false) a0 { w0 with drawn := w0.drawn + 1 } :=
  wpAny_region_factsR HR F hok hF hloc (fun i o ho => region_stepR F hok hgd i o ho (stepsFrom_allR hsteps i o ho)) hfin
end
/-- What is known of a value, and stays known; 'deps': the operations whose values it speaks of besides. -/
structure FactR (R : World → World → Prop) where
  holds : (Nat → Value) → Value → World → Prop
  deps : List Nat
  stays : ∀ vs v w w', holds vs v w → R w w' → holds vs v w'
  local_ : ∀ vs vs' v w, (∀ k ∈ deps, vs k = vs' k) → holds vs v w → holds vs' v w
def FactR.any {R : World → World → Prop} : FactR R := ⟨fun _ _ _ => True, [], fun _ _ _ _ _ _ => trivial, fun _ _ _ _ _ _ => trivial⟩
def FactR.is {R : World → World → Prop} (u : Value) : FactR R := ⟨fun _ v _ => v = u, [], fun _ _ _ _ h _ => h, fun _ _ _ _ _ h => h⟩
/-- Of the value alone, and the world. -/
def FactR.of {R : World → World → Prop} (H : Value → World → Prop) (h : ∀ v w w', H v w → R w w' → H v w') : FactR R := ⟨fun _ v w => H v w, [], fun _ v w w' a b => h v w w' a b, fun _ _ _ _ _ h => h⟩
def factsR {R : World → World → Prop} (L : List (FactR R)) (i : Nat) (vs : Nat → Value) (w : World) : Prop := (L.getD i FactR.any).holds vs (vs i) w
/-- Each fact speaks of what its operation waits for alone. -/
def depsOk {R : World → World → Prop} (ops : Array Oper) (L : List (FactR R)) : Bool := (List.range L.length).all fun i => (L.getD i FactR.any).deps.all fun k => rpred ops k i
theorem factsR_local {R : World → World → Prop} {ops : Array Oper} {L : List (FactR R)} (h : depsOk ops L = true) (i : Nat) (vs vs' : Nat → Value) (w : World) (hk : ∀ k, (k = i ∨ rpred ops k i = true) → vs k = vs' k) (hf : factsR L i vs w) : factsR L i vs' w := by
  unfold factsR at *
  rw [← hk i (.inl rfl)]
  refine (L.getD i FactR.any).local_ vs vs' _ w (fun k hd => hk k (.inr ?_)) hf
  by_cases hi : i < L.length
  · unfold depsOk at h
    exact List.all_eq_true.1 (List.all_eq_true.1 h i (List.mem_range.2 hi)) k hd
  · rw [List.getD_eq_getElem?_getD, List.getElem?_eq_none (by omega)] at hd
    cases hd
theorem RCtxR.holds {R : World → World → Prop} {ops : Array Oper} {L : List (FactR R)} {a0 : Act} {i : Nat} {ρ : Operand → Value} {vs : Nat → Value} {w : World} (H : RCtxR ops (factsR L) a0 i ρ vs w) (d j : Nat) (h : writer ops i d = some j) : (L.getD j FactR.any).holds vs (ρ (.tmp d)) w := by
  rw [H.new d j h]
  exact H.fact j (writer_pred h)
theorem wpAny_region_listR {R : World → World → Prop} (HR : Later R) {P : Program} {ops : Array Oper} {Q : Exit → Act → World → Prop} {a0 : Act} {w0 : World} (L : List (FactR R)) (ds : List (Option Tmp))
    (hok : regionOk ops a0.tmps.size = true) (hgd : guardsOk ops = true) (hdp : depsOk ops L = true) (hds : ops.toList.map (·.dst) = ds) (hsteps : StepsFromR R P ops (factsR L) a0 w0 0 ops.toList)
    (hfin : ∀ (vs : Nat → Value) (w : World), R w0 w → (∀ i, i < ds.length → factsR L i vs w) → Q .normal (putAll vs ds 0 a0) w) :
    wpAny P .any ops Q ops.size (Array.replicate ops.size false) a0 { w0 with drawn := w0.drawn + 1 } :=
  wpAny_region_stepsR HR (factsR L) hok hgd (fun i vs w w' h hb => (L.getD i FactR.any).stays vs _ w w' h hb) (factsR_local hdp) hsteps (fun vs w hb h => by
    subst hds
    rw [puts_all]
    exact hfin vs w hb fun i hi => h i (by simpa using hi))
/-- The use: the relation, a fact for each operation. -/
theorem wp_region_listR {R : World → World → Prop} (HR : Later R) {P : Program} {ops : Array Oper} {Q : Exit → Act → World → Prop} {id : Nat} {a0 : Act} {w0 : World} (L : List (FactR R)) (ds : List (Option Tmp)) (hm : P.follows .mixedOrders = true)
    (hok : regionOk ops a0.tmps.size = true) (hgd : guardsOk ops = true) (hdp : depsOk ops L = true) (hds : ops.toList.map (·.dst) = ds) (hsteps : StepsFromR R P ops (factsR L) a0 w0 0 ops.toList)
    (hfin : ∀ (vs : Nat → Value) (w : World), R w0 w → (∀ i, i < ds.length → factsR L i vs w) → Q .normal (putAll vs ds 0 a0) w) :
    (Code.region id ops true).wp P Q a0 w0 := wp_region_any hm (wpAny_region_listR HR L ds hok hgd hdp hds hsteps hfin)
end Go.Proofs.YtblpkmmhmdpkjaaGreatDoor
