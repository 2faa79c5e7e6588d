
/- A region that draws its order, each of whose operations is shown once: what an operation yields is told by a fact that later worlds keep, so the order does not matter. Over any program. -/

import Derived.Orders

import Derived.Below

import Derived.Deep.Draws

import Derived.StillTail

namespace Go.Proofs.Ytocodcceimeiiaa

open Go.RowKit

def rdst (ops : Array Oper) (i : Nat) : Option Tmp := (ops[i]?).bind (·.dst)
/-- Operation i waits for operation j. -/
def rpred (ops : Array Oper) (j i : Nat) : Bool := ((ops[i]?).map fun o => o.after.toList.any fun e => Region.binds .any e && e.on == j).getD false

/-- The frame in which those operations of the first n that are marked have left their values. -/
def puts (ops : Array Oper) (m : Nat → Bool) (vs : Nat → Value) : Nat → Act → Act
  | 0, a => a
  | n + 1, a => if m n then (puts ops m vs n a).put (rdst ops n) (vs n) else puts ops m vs n a

/-- What is asked of the region's text: edges lead back; no two operations leave their values at one place; what an operation looks at is left by one that it waits for, or by one that waits for it. -/
def regionOk (ops : Array Oper) (size : Nat) : Bool :=
  (List.range ops.size).all fun i =>
    ((ops[i]?).map fun o =>
      (o.after.all fun e => !Region.binds .any e || decide (e.on < i)) &&
      (match o.op with | .select .. => false | _ => true) &&
      (match o.dst with | some d => decide (d < size) && (List.range ops.size).all (fun j => j == i || rdst ops j != some d) | none => true) &&
      ((o.looksAt ops).all fun d => (List.range ops.size).all fun j => j == i || rdst ops j != some d || rpred ops j i || rpred ops i j)).getD false

section

variable {P : Program} {ops : Array Oper} {Q : Exit → Act → World → Prop}

theorem puts_congr (m m' : Nat → Bool) (vs vs' : Nat → Value) (a : Act) : ∀ n, (∀ j, j < n → m j = m' j) → (∀ j, j < n → m j = true → vs j = vs' j) → puts ops m vs n a = puts ops m' vs' n a := by
  intro n
  induction n with
  | zero => intro _ _; rfl
  | succ n ih =>
    intro h1 h2
    rw [puts, puts, ih (fun j hj => h1 j (by omega)) (fun j hj => h2 j (by omega)), ← h1 n (by omega)]
    by_cases hm : m n = true
    · rw [if_pos hm, if_pos hm, h2 n (by omega) hm]
    · rw [if_neg hm, if_neg hm]

theorem puts_size (m : Nat → Bool) (vs : Nat → Value) (a : Act) : ∀ n, (puts ops m vs n a).tmps.size = a.tmps.size := by
  intro n
  induction n with
  | zero => rfl
  | succ n ih =>
    rw [puts]
    split
    · unfold Act.put; split <;> simp [ih]
    · exact ih

theorem puts_defers (m : Nat → Bool) (vs : Nat → Value) (a : Act) : ∀ n, (puts ops m vs n a).defers = a.defers := by
  intro n
  induction n with
  | zero => rfl
  | succ n ih =>
    rw [puts]
    split
    · unfold Act.put; split <;> simp [ih]
    · exact ih

theorem puts_old (m : Nat → Bool) (vs : Nat → Value) (a : Act) (d : Tmp) : ∀ n, (∀ j, j < n → m j = true → rdst ops j ≠ some d) → (puts ops m vs n a).tmps[d]? = a.tmps[d]? := by
  intro n
  induction n with
  | zero => intro _; rfl
  | succ n ih =>
    intro h
    rw [puts]
    split
    · rename_i hm
      rw [← ih fun j hj => h j (by omega)]
      have hne := h n (by omega) hm
      cases hd : rdst ops n with
      | none => rfl
      | some e =>
        rw [hd] at hne
        exact Array.getElem?_setIfInBounds_ne (fun he => hne (by rw [he]))
    · exact ih fun j hj => h j (by omega)

theorem puts_new (m : Nat → Bool) (vs : Nat → Value) (a : Act) (d : Tmp) (i : Nat) (hd : rdst ops i = some d) (hm : m i = true) : ∀ n, i < n → (∀ j, j < n → j ≠ i → rdst ops j ≠ some d) →
    (puts ops m vs n a).tmps[d]? = (a.put (some d) (vs i)).tmps[d]? := by
  intro n
  induction n with
  | zero => intro h; omega
  | succ n ih =>
    intro hi hne
    rw [puts]
    by_cases hin : i = n
    · subst hin
      rw [if_pos hm, hd]
      simp only [Act.put, Array.getElem?_setIfInBounds_self, puts_size]
    · split
      · rw [← ih (by omega) fun j hj => hne j (by omega)]
        have hne' := hne n (by omega) (fun h => hin h.symm)
        cases hd' : rdst ops n with
        | none => rfl
        | some e =>
          rw [hd'] at hne'
          exact Array.getElem?_setIfInBounds_ne (fun he => hne' (by rw [he]))
      · exact ih (by omega) fun j hj => hne j (by omega)

theorem puts_set (m : Nat → Bool) (vs : Nat → Value) (a : Act) (i : Nat) (v : Value) (hm : m i = false) : ∀ n, i < n → (∀ j, j < n → j ≠ i → ∀ d, rdst ops i = some d → rdst ops j ≠ some d) →
    puts ops (fun j => j == i || m j) (fun j => if j = i then v else vs j) n a = (puts ops m vs n a).put (rdst ops i) v := by
  intro n
  induction n with
  | zero => intro h; omega
  | succ n ih =>
    intro hi hne
    show (if (n == i || m n) = true then (puts ops (fun j => j == i || m j) (fun j => if j = i then v else vs j) n a).put (rdst ops n) (if n = i then v else vs n) else puts ops (fun j => j == i || m j) (fun j => if j = i then v else vs j) n a) =
      (if m n = true then (puts ops m vs n a).put (rdst ops n) (vs n) else puts ops m vs n a).put (rdst ops i) v
    by_cases hin : n = i
    · have h0 : puts ops (fun j => j == i || m j) (fun j => if j = i then v else vs j) n a = puts ops m vs n a := by
        refine puts_congr _ _ _ _ a n (fun j hj => ?_) (fun j hj _ => ?_)
        · have : (j == i) = false := by simp; omega
          simp [this]
        · simp; omega
      rw [h0]
      subst hin
      rw [if_pos (by simp), if_pos rfl, if_neg (by simp [hm])]
    · have h1 : (n == i || m n) = m n := by
        have : (n == i) = false := by simp; omega
        simp [this]
      rw [ih (by omega) fun j hj => hne j (by omega), h1, if_neg hin]
      split
      · exact Act.put_comm _ v (vs n) fun d hd => hne n (by omega) hin d hd
      · rfl

/-- An operation in one frame, where in another it yields what a fact tells. -/
theorem wp_carry {o : Oper} {a b : Act} {w : World} {R : Value → World → Prop} {K : Act → World → Prop} (he : execOp a.eval o = execOp b.eval o) (hd : ∀ d, o.dst = some d → d < b.tmps.size)
    (h : o.wp P b w (fun b' w' => ∃ v, b' = b.put o.dst v ∧ R v w') (fun _ _ _ => False)) (hK : ∀ v w', R v w' → K (a.put o.dst v) w') : o.wp P a w K Q := by
  have hv : ∀ u v w', b.put o.dst u = b.put o.dst v → R v w' → K (a.put o.dst u) w' := by
    intro u v w' heq hR
    cases hdst : o.dst with
    | none =>
      have := hK v w' hR
      rw [hdst] at this
      exact this
    | some d =>
      have hlt := hd d hdst
      rw [hdst] at heq
      have h1 : (b.put (some d) u).tmps[d]? = (b.put (some d) v).tmps[d]? := by rw [heq]
      simp only [Act.put, Array.getElem?_setIfInBounds_self, hlt, if_true] at h1
      injection h1 with h1
      subst h1
      have := hK u w' hR
      rw [hdst] at this
      exact this
  unfold Oper.wp at *
  rw [he]
  generalize (execOp b.eval o).run P w = r at *
  cases r with
  | ok n w' =>
    cases n <;> simp only [Oper.upon] at h ⊢
    case value u => obtain ⟨v, h1, h2⟩ := h; exact hv u v w' h1 h2
    case skip => obtain ⟨v, h1, h2⟩ := h; exact hv _ v w' h1 h2
    case defer d =>
      obtain ⟨v, h1, h2⟩ := h
      exfalso
      have h3 : (({ b with defers := d :: b.defers } : Act).put o.dst undef).defers = (b.put o.dst v).defers := by rw [h1]
      have h4 : ∀ (x : Act) (u : Value), (x.put o.dst u).defers = x.defers := by intro x u; unfold Act.put; split <;> rfl
      rw [h4, h4] at h3
      have := congrArg List.length h3
      simp at this
    case enter f args =>
      refine Calls.mono h fun e w'' he => ?_
      cases e with
      | returned u => obtain ⟨v, h1, h2⟩ := he; exact hv u v w'' h1 h2
      | panicked c => exact he.elim
      | outgrown => obtain ⟨_, _, hf⟩ := he; exact hf.elim
    case row row args => exact Rows.mono h fun u w'' ⟨v, h1, h2⟩ => hv u v w'' h1 h2
  | halt x w' =>
    cases x <;> simp only [Oper.upon] at h

/-- What regionOk says, operation by operation. -/
theorem regionOk_at {size i : Nat} {o : Oper} (h : regionOk ops size = true) (ho : ops[i]? = some o) :
    (∀ e ∈ o.after, Region.binds .any e = true → e.on < i) ∧ (∀ cs b, o.op ≠ .select cs b) ∧ (∀ d, o.dst = some d → d < size ∧ ∀ j, j < ops.size → j ≠ i → rdst ops j ≠ some d) ∧
    (∀ d ∈ o.looksAt ops, ∀ j, j < ops.size → j ≠ i → rdst ops j = some d → rpred ops j i = true ∨ rpred ops i j = true) := by
  have hlt : i < ops.size := (Array.getElem?_eq_some_iff.1 ho).1
  unfold regionOk at h
  rw [List.all_eq_true] at h
  have h1 := h i (List.mem_range.2 hlt)
  rw [ho, Option.map_some, Option.getD_some] at h1
  simp only [Bool.and_eq_true] at h1
  obtain ⟨⟨⟨h2, h3⟩, h4⟩, h5⟩ := h1
  refine ⟨fun e he hbd => ?_, fun cs b hs => ?_, fun d hd => ?_, fun d hd j hj hne hdj => ?_⟩
  · rw [Array.all_eq_true_iff_forall_mem] at h2
    have h6 := h2 e he
    rw [hbd, Bool.not_true, Bool.false_or] at h6
    exact of_decide_eq_true h6
  · rw [hs] at h3; cases h3
  · rw [hd] at h4
    simp only [Bool.and_eq_true, List.all_eq_true, decide_eq_true_eq] at h4
    refine ⟨h4.1, fun j hj hne hdj => ?_⟩
    have h6 := h4.2 j (List.mem_range.2 hj)
    rw [hdj] at h6
    simp at h6
    exact hne h6
  · rw [List.all_eq_true] at h5
    have h6 := h5 d hd
    rw [List.all_eq_true] at h6
    have h7 := h6 j (List.mem_range.2 hj)
    rw [hdj] at h7
    simp at h7
    rcases h7 with (h7 | h7) | h7
    · exact absurd h7 hne
    · exact .inl h7
    · exact .inr h7

theorem wanted_congr {o : Oper} {a b : Act} (h : ∀ d ∈ o.looksAt ops, a.tmps[d]? = b.tmps[d]?) : Region.wanted o (yielded ops a.tmps) = Region.wanted o (yielded ops b.tmps) := by
  unfold Region.wanted
  cases hg : o.guard with
  | none => rfl
  | some p =>
    obtain ⟨g, want⟩ := p
    have hy : yielded ops a.tmps g = yielded ops b.tmps g := by
      unfold yielded
      cases hd : (ops[g]?).bind (·.dst) with
      | none => rfl
      | some d =>
        have := h d (List.mem_append_right _ (by rw [hg]; simp [hd]))
        simp only [Option.bind_some, this]
    simp only [hy]

/-- How many operations are still to come. -/
def left (n : Nat) (l : Array Bool) : Nat := ((List.range n).filter fun i => !l.getD i false).length

theorem left_set {n : Nat} {l : Array Bool} {i : Nat} (hi : i < n) (hs : l.size = n) (h : l.getD i false = false) : left n (l.setIfInBounds i true) < left n l := by
  unfold left
  have hf : ((List.range n).filter fun j => !(l.setIfInBounds i true).getD j false) = ((List.range n).filter fun j => !l.getD j false).filter fun j => j != i := by
    rw [List.filter_filter]
    refine List.filter_congr fun j _ => ?_
    by_cases hij : i = j
    · subst hij
      simp [hs, hi]
    · rw [getD_set_ne false hij]
      have : (j != i) = true := by simp; omega
      simp [this]
  rw [hf]
  have hmem : i ∈ (List.range n).filter fun j => !l.getD j false := List.mem_filter.2 ⟨List.mem_range.2 hi, by rw [h]; rfl⟩
  refine Nat.lt_of_le_of_ne (List.length_filter_le _ _) fun heq => ?_
  have := List.length_filter_eq_length_iff.1 heq i hmem
  simp at this

theorem left_set_in {n : Nat} {l : Array Bool} {i : Nat} (hi : i < n) (hs : n ≤ l.size) (h : l.getD i false = false) : left n (l.setIfInBounds i true) < left n l := by
  unfold left
  have hsub : (List.range n).filter (fun j => !(l.setIfInBounds i true).getD j false) = ((List.range n).filter fun j => !l.getD j false).filter (fun j => !(l.setIfInBounds i true).getD j false) := by
    rw [List.filter_filter]
    refine List.filter_congr fun j hj => ?_
    by_cases hij : i = j
    · subst hij
      have : i < l.size := by omega
      simp [this]
    · rw [getD_set_ne false hij, Bool.and_self]
  rw [hsub]
  have hmem : i ∈ (List.range n).filter fun j => !l.getD j false := List.mem_filter.2 ⟨List.mem_range.2 hi, by rw [h]; rfl⟩
  refine Nat.lt_of_le_of_ne (List.length_filter_le _ _) fun heq => ?_
  have := List.length_filter_eq_length_iff.1 heq i hmem
  have : i < l.size := by omega
  simp_all
theorem puts_cut (mk : Nat → Bool) (vs : Nat → Value) (a : Act) (m : Nat) : ∀ n, m ≤ n → (∀ j, m ≤ j → j < n → mk j = false) → puts ops mk vs n a = puts ops mk vs m a
  | 0, h, _ => by rw [Nat.le_zero.1 h]
  | n + 1, h, hk => by
    by_cases he : m = n + 1
    · subst he; rfl
    · rw [puts, if_neg (by rw [hk n (by omega) (by omega)]; decide), puts_cut mk vs a m n (by omega) fun j h1 h2 => hk j h1 (by omega)]
theorem wpAny_more {md : Region.Mode} : ∀ (f : Nat) (l : Array Bool) (a : Act) (w : World), wpAny P md ops Q f l a w → wpAny P md ops Q (f + 1) l a w
  | 0, _, _, _, h => ⟨fun _ => h.2, fun i hi => by rw [h.1] at hi; cases hi⟩
  | f + 1, l, a, w, h => ⟨h.1, fun i hi => wpOp_mono (fun a' w' h' => wpAny_more f _ a' w' h') (h.2 i hi)⟩
theorem wpAny_add {md : Region.Mode} (f g : Nat) (l : Array Bool) (a : Act) (w : World) (h : wpAny P md ops Q g l a w) : wpAny P md ops Q (f + g) l a w := by
  induction f with
  | zero => rwa [Nat.zero_add]
  | succ f ih => rw [show f + 1 + g = (f + g) + 1 by omega]; exact wpAny_more _ _ _ _ ih
/-- **A region that draws, whose first m operations are each shown once** (the frame: as the text's order gives it); what follows them is shown from where all these have been done. -/
theorem wpAny_region_core {a0 : Act} {w0 : World} (m : Nat) (hm : m ≤ ops.size) (F : Nat → Value → World → Prop)
    (hok : regionOk ops a0.tmps.size = true)
    (hF : ∀ i v w w', F i v w → Below w.heap.size w w' → F i v w')
    (hstep : ∀ i o, i < m → ops[i]? = some o → ∀ (vs : Nat → Value) (w : World), Below w0.heap.size w0 w → (∀ j, rpred ops j i = true → F j (vs j) w) →
      if Region.wanted o (yielded ops (puts ops (fun _ => true) vs i a0).tmps) = true then
        o.wp P (puts ops (fun _ => true) vs i a0) w (fun a' w' => ∃ v, a' = (puts ops (fun _ => true) vs i a0).put o.dst v ∧ F i v w' ∧ Below w.heap.size w w') (fun _ _ _ => False)
      else F i undef w)
    (hwait : ∀ l : Array Bool, HeadInv .any ops m l → (∃ i, i < m ∧ l.getD i true = false) → ∀ t, m ≤ t → t ∉ Region.ready .any ops l)
    (hfin : ∀ (l : Array Bool) (vs : Nat → Value) (w : World), l.size = ops.size → (∀ j, j < m → l.getD j false = true) → (∀ j, m ≤ j → j < ops.size → l.getD j false = false) → Below w0.heap.size w0 w → (∀ i, i < m → F i (vs i) w) →
      wpAny P .any ops Q (ops.size - m) l (puts ops (fun _ => true) vs m a0) w) :
    wpAny P .any ops Q ops.size (Array.replicate ops.size false) a0 { w0 with drawn := w0.drawn + 1 } := by
  have main : ∀ (fuel : Nat) (l : Array Bool) (vs : Nat → Value) (w : World), l.size = ops.size → left m l ≤ fuel → (∀ i j, i < ops.size → l.getD i false = true → rpred ops j i = true → l.getD j false = true) →
      (∀ t, m ≤ t → t < ops.size → l.getD t false = false) →
      (∀ i, i < ops.size → l.getD i false = true → F i (vs i) w) → Below w0.heap.size w0 w → wpAny P .any ops Q (fuel + (ops.size - m)) l (puts ops (fun j => l.getD j false) vs ops.size a0) w := by
    intro fuel
    have hend : ∀ (f : Nat) (l : Array Bool) (vs : Nat → Value) (w : World), l.size = ops.size → (∀ t, m ≤ t → t < ops.size → l.getD t false = false) → (∀ i, i < ops.size → l.getD i false = true → F i (vs i) w) → Below w0.heap.size w0 w → (∀ j, j < m → l.getD j false = true) →
        wpAny P .any ops Q (f + (ops.size - m)) l (puts ops (fun j => l.getD j false) vs ops.size a0) w := by
      intro f l vs w hs htl hfs hb hall
      rw [puts_cut _ vs a0 m ops.size hm htl, puts_congr (fun j => l.getD j false) (fun _ => true) vs vs a0 m hall (fun _ _ _ => rfl)]
      exact wpAny_add _ _ _ _ _ (hfin l vs w hs hall htl hb fun i hi => hfs i (by omega) (hall i hi))
    induction fuel with
    | zero =>
      intro l vs w hs hl hcl htl hfs hb
      refine hend 0 l vs w hs htl hfs hb fun j hj => ?_
      cases h1 : l.getD j false with
      | true => rfl
      | false => have := left_set_in hj (by omega) h1; omega
    | succ fuel ih =>
      intro l vs w hs hl hcl htl hfs hb
      by_cases hall : ∀ j, j < m → l.getD j false = true
      · exact hend _ l vs w hs htl hfs hb hall
      obtain ⟨j0, hj0⟩ := Classical.not_forall.1 hall
      have hj0m : j0 < m := by
        rcases Nat.lt_or_ge j0 m with h | h
        · exact h
        · exact absurd (fun h' => absurd h' (by omega)) hj0
      have hj0f : l.getD j0 false = false := by
        cases h1 : l.getD j0 false with
        | false => rfl
        | true => exact absurd (fun _ => h1) hj0
      have hinv : HeadInv .any ops m l := by
        refine ⟨hs, fun j oj hj hlj e he hbd => ?_, fun t ht ht' => getD_in (by omega) (htl t ht ht')⟩
        refine hcl j e.on (Array.getElem?_eq_some_iff.1 hj).1 hlj ?_
        unfold rpred
        rw [hj, Option.map_some, Option.getD_some, List.any_eq_true]
        exact ⟨e, by simpa using he, by rw [hbd]; simp⟩
      have hwt := hwait l hinv ⟨j0, hj0m, getD_in (by omega) hj0f⟩
      rw [show fuel + 1 + (ops.size - m) = (fuel + (ops.size - m)) + 1 by omega]
      refine ⟨fun hr => ?_, fun i hi => ?_⟩
      · exfalso
        have hallb : ∀ i, i < m → l.getD i false = true := by
          intro i
          induction i using Nat.strongRecOn with
          | ind i ih =>
            intro hi
            by_cases hl : l.getD i false = true
            · exact hl
            · exfalso
              have ho : ops[i]? = some ops[i] := Array.getElem?_eq_getElem (by omega)
              have hok' := regionOk_at hok ho
              have hmem : i ∈ Region.ready .any ops l := mem_ready.2 ⟨by
                have : i < l.size := by omega
                simp [this] at hl ⊢
                exact hl, ops[i], ho, fun e he hbd => ih e.on (hok'.1 e he hbd) (by have := hok'.1 e he hbd; omega)⟩
              rw [hr] at hmem
              cases hmem
        exact absurd (hallb j0 hj0m) (by rw [hj0f]; decide)
      have him : i < m := by
        rcases Nat.lt_or_ge i m with h | h
        · exact h
        · exact absurd hi (hwt i h)
      obtain ⟨h0, o, ho, hpre⟩ := mem_ready.1 hi
      have hlt : i < ops.size := (Array.getElem?_eq_some_iff.1 ho).1
      have h1 : l.getD i false = false := by
        have : i < l.size := by omega
        simp [this] at h0 ⊢
        exact h0
      obtain ⟨hback, hsel, hdst, hlook⟩ := regionOk_at hok ho
      have hpred : ∀ j, rpred ops j i = true → l.getD j false = true ∧ j < i := by
        intro j hj
        unfold rpred at hj
        rw [ho, Option.map_some, Option.getD_some, List.any_eq_true] at hj
        obtain ⟨e, he, hej⟩ := hj
        have he : e ∈ o.after := by simpa using he
        simp at hej
        rw [← hej.2]
        exact ⟨hpre e he hej.1, hback e he hej.1⟩
      have hrd : rdst ops i = o.dst := by unfold rdst; rw [ho]; rfl
      -- what the operation looks at is the same in both frames
      have hsame : ∀ d ∈ o.looksAt ops, (puts ops (fun j => l.getD j false) vs ops.size a0).tmps[d]? = (puts ops (fun _ => true) vs i a0).tmps[d]? := by
        intro d hd
        by_cases hex : ∃ j, j < ops.size ∧ j ≠ i ∧ rdst ops j = some d
        · obtain ⟨j, hj, hne, hjd⟩ := hex
          have hoj : ops[j]? = some ops[j] := Array.getElem?_eq_getElem hj
          have hdj : ops[j].dst = some d := by unfold rdst at hjd; rw [hoj] at hjd; exact hjd
          have huniq : ∀ k, k < ops.size → k ≠ j → rdst ops k ≠ some d := fun k hk hkj => ((regionOk_at hok hoj).2.2.1 d hdj).2 k hk hkj
          rcases hlook d hd j hj hne hjd with hp | hp
          · obtain ⟨hlj, hji⟩ := hpred j hp
            rw [puts_new _ vs a0 d j hjd hlj ops.size hj huniq, puts_new _ vs a0 d j hjd rfl i hji fun k hk => huniq k (by omega)]
          · have hnl : l.getD j false = false := by
              cases hlj : l.getD j false with
              | false => rfl
              | true => exact absurd (hcl j i hj hlj hp) (by rw [h1]; decide)
            have hij : i < j := by
              unfold rpred at hp
              rw [hoj, Option.map_some, Option.getD_some, List.any_eq_true] at hp
              obtain ⟨e, he, hej⟩ := hp
              have he : e ∈ ops[j].after := by simpa using he
              simp at hej
              have := (regionOk_at hok hoj).1 e he hej.1
              omega
            rw [puts_old _ vs a0 d ops.size, puts_old _ vs a0 d i]
            · intro k hk _ hkd
              exact huniq k (by omega) (by omega) hkd
            · intro k hk hlk hkd
              by_cases hkj : k = j
              · subst hkj; rw [hnl] at hlk; cases hlk
              · exact huniq k hk hkj hkd
        · rw [puts_old _ vs a0 d ops.size, puts_old _ vs a0 d i]
          · intro k hk _ hkd; exact hex ⟨k, by omega, by omega, hkd⟩
          · intro k hk hlk hkd
            by_cases hki : k = i
            · subst hki; rw [h1] at hlk; cases hlk
            · exact hex ⟨k, hk, hki, hkd⟩
      have hst := hstep i o him ho vs w hb fun j hj => hfs j (by have := (hpred j hj).2; omega) (hpred j hj).1
      have hwant := wanted_congr hsame
      have hexec : execOp (puts ops (fun j => l.getD j false) vs ops.size a0).eval o = execOp (puts ops (fun _ => true) vs i a0).eval o := by
        refine execOp_congr o hsel fun x hx => ?_
        cases x with
        | tmp d =>
          have hd : d ∈ o.looksAt ops := List.mem_append_left _ (List.mem_filterMap.2 ⟨.tmp d, by simpa using hx, rfl⟩)
          have := hsame d hd
          show (puts ops (fun j => l.getD j false) vs ops.size a0).tmps.getD d undef = (puts ops (fun _ => true) vs i a0).tmps.getD d undef
          rw [Array.getD_eq_getD_getElem?, Array.getD_eq_getD_getElem?, this]
        | _ => rfl
      -- behind it
      have hnext : ∀ v w', F i v w' → Below w.heap.size w w' → wpAny P .any ops Q (fuel + (ops.size - m)) (l.setIfInBounds i true) ((puts ops (fun j => l.getD j false) vs ops.size a0).put o.dst v) w' := by
        intro v w' hv hb'
        have hset := puts_set (ops := ops) (fun j => l.getD j false) vs a0 i v h1 ops.size hlt fun j hj hne d hd => (hdst d (by rw [← hrd]; exact hd)).2 j hj hne
        rw [← hrd, ← hset]
        have hmarks : ∀ j, j < ops.size → (j == i || l.getD j false) = (l.setIfInBounds i true).getD j false := by
          intro j hj
          by_cases hij : i = j
          · subst hij; simp [hs, hlt]
          · rw [getD_set_ne false hij]
            have : (j == i) = false := by simp; omega
            simp [this]
        rw [puts_congr _ (fun j => (l.setIfInBounds i true).getD j false) _ (fun j => if j = i then v else vs j) a0 ops.size hmarks (fun _ _ _ => rfl)]
        refine ih (l.setIfInBounds i true) _ w' (by simp [hs]) (by have := left_set_in him (by omega) h1; omega) ?_ ?_ ?_ (hb.trans (hb'.mono hb.size))
        · intro j k hj hlj hjk
          rw [← hmarks j hj] at hlj
          by_cases hji : j = i
          · subst hji; exact getD_set_true (hpred k hjk).1
          · have : (j == i) = false := by simpa using hji
            rw [this, Bool.false_or] at hlj
            exact getD_set_true (hcl j k hj hlj hjk)
        · intro t ht ht'
          rw [getD_set_ne false (by omega)]
          exact htl t ht ht'
        · intro j hj hlj
          rw [← hmarks j hj] at hlj
          by_cases hji : j = i
          · subst hji; simpa using hv
          · have : (j == i) = false := by simpa using hji
            rw [this, Bool.false_or] at hlj
            simp only [if_neg hji]
            exact hF j _ w w' (hfs j hj hlj) hb'
      unfold wpOp
      rw [ho]
      show if Region.wanted o _ = true then _ else _
      rw [hwant]
      by_cases hw : Region.wanted o (yielded ops (puts ops (fun _ => true) vs i a0).tmps) = true
      · rw [if_pos hw] at hst ⊢
        exact .inl (wp_carry hexec (fun d hd => by rw [puts_size]; exact (hdst d hd).1) hst fun v w' h => hnext v w' h.1 h.2)
      · rw [if_neg hw] at hst ⊢
        exact hnext undef w hst (Below.refl _ _)
  have hinit := main m (Array.replicate ops.size false) (fun _ => undef) { w0 with drawn := w0.drawn + 1 } (by simp) (by unfold left; exact Nat.le_trans (List.length_filter_le _ _) (by simp))
    (fun i j hi h _ => by simp [hi] at h) (fun t _ _ => getD_replicate_false _ _) (fun i hi h => by simp [hi] at h) ⟨rfl, rfl, rfl, Nat.le_refl _, fun _ _ => rfl⟩
  have hz : puts ops (fun j => (Array.replicate ops.size false).getD j false) (fun _ => undef) ops.size a0 = a0 := by
    have : ∀ n, n ≤ ops.size → puts ops (fun j => (Array.replicate ops.size false).getD j false) (fun _ => undef) n a0 = a0 := by
      intro n
      induction n with
      | zero => intro _; rfl
      | succ n ih =>
        intro hn
        have hlt : n < ops.size := by omega
        rw [puts, if_neg (by simp [hlt]), ih (by omega)]
    exact this _ (Nat.le_refl _)
  rw [hz, show m + (ops.size - m) = ops.size by omega] at hinit
  exact hinit

/-- **A region that draws**: each operation is shown once, in the frame that the text's order gives it, knowing of what it waits for; behind the region all facts hold. -/
theorem wpAny_region_facts {a0 : Act} {w0 : World} (F : Nat → Value → World → Prop)
    (hok : regionOk ops a0.tmps.size = true)
    (hF : ∀ i v w w', F i v w → Below w.heap.size w w' → F i v w')
    (hstep : ∀ i o, ops[i]? = some o → ∀ (vs : Nat → Value) (w : World), Below w0.heap.size w0 w → (∀ j, rpred ops j i = true → F j (vs j) w) →
      if Region.wanted o (yielded ops (puts ops (fun _ => true) vs i a0).tmps) = true then
        o.wp P (puts ops (fun _ => true) vs i a0) w (fun a' w' => ∃ v, a' = (puts ops (fun _ => true) vs i a0).put o.dst v ∧ F i v w' ∧ Below w.heap.size w w') (fun _ _ _ => False)
      else F i undef w)
    (hfin : ∀ (vs : Nat → Value) (w : World), Below w0.heap.size w0 w → (∀ i, i < ops.size → F i (vs i) w) → Q .normal (puts ops (fun _ => true) vs ops.size a0) w) :
    wpAny P .any ops Q ops.size (Array.replicate ops.size false) a0 { w0 with drawn := w0.drawn + 1 } := by
  refine wpAny_region_core ops.size (Nat.le_refl _) F hok hF (fun i o _ => hstep i o) (fun l _ _ t ht hr => ?_) fun l vs w hs hall _ hb hf => ?_
  · obtain ⟨_, o, ho, _⟩ := mem_ready.1 hr
    have := (Array.getElem?_eq_some_iff.1 ho).1
    omega
  · rw [Nat.sub_self]
    refine ⟨List.eq_nil_iff_forall_not_mem.2 fun i hi => ?_, hfin vs w hb hf⟩
    obtain ⟨h0, o, ho, _⟩ := mem_ready.1 hi
    have hlt := (Array.getElem?_eq_some_iff.1 ho).1
    have h1 := hall i hlt
    have : i < l.size := by omega
    simp [this] at h0 h1
    rw [h0] at h1
    cases h1
theorem wp_region_facts {id : Nat} {a0 : Act} {w0 : World} (hm : P.follows .mixedOrders = true) (F : Nat → Value → World → Prop)
    (hok : regionOk ops a0.tmps.size = true)
    (hF : ∀ i v w w', F i v w → Below w.heap.size w w' → F i v w')
    (hstep : ∀ i o, ops[i]? = some o → ∀ (vs : Nat → Value) (w : World), Below w0.heap.size w0 w → (∀ j, rpred ops j i = true → F j (vs j) w) →
      if Region.wanted o (yielded ops (puts ops (fun _ => true) vs i a0).tmps) = true then
        o.wp P (puts ops (fun _ => true) vs i a0) w (fun a' w' => ∃ v, a' = (puts ops (fun _ => true) vs i a0).put o.dst v ∧ F i v w' ∧ Below w.heap.size w w') (fun _ _ _ => False)
      else F i undef w)
    (hfin : ∀ (vs : Nat → Value) (w : World), Below w0.heap.size w0 w → (∀ i, i < ops.size → F i (vs i) w) → Q .normal (puts ops (fun _ => true) vs ops.size a0) w) :
    (Code.region id ops true).wp P Q a0 w0 := wp_region_any hm (wpAny_region_facts F hok hF hstep hfin)

/-- Which operation, of those that i waits for, leaves what lies at place d. -/
def writer (ops : Array Oper) (i d : Nat) : Option Nat := (List.range ops.size).find? fun j => rdst ops j == some d && rpred ops j i

/-- What operation i sees: of what it waits for the values, else the frame as it was. -/
def sees (ops : Array Oper) (vs : Nat → Value) (a0 : Act) (i : Nat) : Operand → Value
  | .tmp d => match writer ops i d with | some j => vs j | none => a0.eval (.tmp d)
  | x => a0.eval x

/-- What is known of what an operation sees. -/
structure RCtx (ops : Array Oper) (F : Nat → Value → World → Prop) (a0 : Act) (i : Nat) (ρ : Operand → Value) (w : World) : Prop where
  const : ∀ v, ρ (.const v) = v
  func : ∀ f, ρ (.func f) = .func (.func f) #[] #[]
  glob : ∀ g, ρ (.global g) = .pointer (some ⟨g, 0, none⟩)
  new : ∀ d j, writer ops i d = some j → F j (ρ (.tmp d)) w
  old : ∀ d v, writer ops i d = none → a0.eval (.tmp d) = v → ρ (.tmp d) = v

/-- An operation yields a value of which R tells. -/
def Gives (P : Program) (o : Oper) (ρ : Operand → Value) (w : World) (R : Value → World → Prop) : Prop :=
  match (execOp ρ o).run P w with
  | .ok (.value v) w' => R v w'
  | .ok .skip w' => R undef w'
  | .ok (.enter f args) w' => Calls P f args w' fun e w'' => ∃ v, e = .returned v ∧ R v w''
  | _ => False

/-- What is to be shown of operation i. -/
def StepAt (P : Program) (ops : Array Oper) (F : Nat → Value → World → Prop) (a0 : Act) (w0 : World) (i : Nat) (o : Oper) : Prop :=
  ∀ (ρ : Operand → Value) (w : World), Below w0.heap.size w0 w → RCtx ops F a0 i ρ w →
    match o.guard with
    | none => Gives P o ρ w fun v w' => F i v w' ∧ Below w.heap.size w w'
    | some (g, b) => ∀ d, rdst ops g = some d → (ρ (.tmp d) = .bool b → Gives P o ρ w fun v w' => F i v w' ∧ Below w.heap.size w w') ∧ (ρ (.tmp d) ≠ .bool b → F i undef w)

def StepsFrom (P : Program) (ops : Array Oper) (F : Nat → Value → World → Prop) (a0 : Act) (w0 : World) : Nat → List Oper → Prop
  | _, [] => True
  | i, o :: r => StepAt P ops F a0 w0 i o ∧ StepsFrom P ops F a0 w0 (i + 1) r

theorem stepsFrom_at {F : Nat → Value → World → Prop} {a0 : Act} {w0 : World} : ∀ (l : List Oper) (k : Nat), StepsFrom P ops F a0 w0 k l → ∀ i o, l[i]? = some o → StepAt P ops F a0 w0 (k + i) o := by
  intro l
  induction l with
  | nil => intro k _ i o h; simp at h
  | cons x l ih =>
    intro k hs i o h
    cases i with
    | zero => simp at h; subst h; exact hs.1
    | succ i =>
      have := ih (k + 1) hs.2 i o (by simpa using h)
      rwa [Nat.add_assoc, Nat.add_comm 1] at this

/-- Guards name an operation that leaves a value, and are waited for. -/
def guardsOk (ops : Array Oper) : Bool :=
  (List.range ops.size).all fun i => ((ops[i]?).map fun o => match o.guard with | none => true | some (g, _) => (rdst ops g).isSome).getD false

theorem wp_of_gives {o : Oper} {a : Act} {ρ : Operand → Value} {w : World} {R : Value → World → Prop} {Q : Exit → Act → World → Prop} (he : execOp a.eval o = execOp ρ o) (h : Gives P o ρ w R) :
    o.wp P a w (fun a' w' => ∃ v, a' = a.put o.dst v ∧ R v w') Q := by
  unfold Gives at h
  unfold Oper.wp
  rw [he]
  generalize (execOp ρ o).run P w = r at *
  cases r with
  | ok n w' =>
    cases n <;> simp only [Oper.upon] at h ⊢
    case value u => exact ⟨u, rfl, h⟩
    case skip => exact ⟨_, rfl, h⟩
    case enter f args =>
      refine Calls.mono h fun e w'' he => ?_
      obtain ⟨v, rfl, hv⟩ := he
      exact ⟨v, rfl, hv⟩
  | halt x w' => cases x <;> simp only [] at h

/-- **A region that draws**, in the form in which it is used: a fact for each operation, a step for each. -/
theorem region_step {a0 : Act} {w0 : World} (F : Nat → Value → World → Prop)
    (hok : regionOk ops a0.tmps.size = true) (hgd : guardsOk ops = true)
    (i : Nat) (o : Oper) (ho : ops[i]? = some o) (hst : StepAt P ops F a0 w0 i o) (vs : Nat → Value) (w : World) (hb : Below w0.heap.size w0 w) (hp : ∀ j, rpred ops j i = true → F j (vs j) w) :
      if Region.wanted o (yielded ops (puts ops (fun _ => true) vs i a0).tmps) = true then
        o.wp P (puts ops (fun _ => true) vs i a0) w (fun a' w' => ∃ v, a' = (puts ops (fun _ => true) vs i a0).put o.dst v ∧ F i v w' ∧ Below w.heap.size w w') (fun _ _ _ => False)
      else F i undef w := by
  have hlt : i < ops.size := (Array.getElem?_eq_some_iff.1 ho).1
  obtain ⟨hback, hsel, hdst, hlook⟩ := regionOk_at hok ho
  have hpi : ∀ j, rpred ops j i = true → j < i := by
    intro j hj
    unfold rpred at hj
    rw [ho, Option.map_some, Option.getD_some, List.any_eq_true] at hj
    obtain ⟨e, he, hej⟩ := hj
    simp at hej
    rw [← hej.2]
    exact hback e (by simpa using he) hej.1
  have hw : ∀ d j, writer ops i d = some j → rdst ops j = some d ∧ rpred ops j i = true ∧ j < ops.size := by
    intro d j h
    have h1 := List.find?_some h
    have h2 := List.mem_of_find?_eq_some h
    simp at h1
    exact ⟨h1.1, h1.2, List.mem_range.1 h2⟩
  have hctx : RCtx ops F a0 i (sees ops vs a0 i) w := by
    refine ⟨fun _ => rfl, fun _ => rfl, fun _ => rfl, fun d j h => ?_, fun d v h hv => ?_⟩
    · show F j (match writer ops i d with | some j => vs j | none => a0.eval (.tmp d)) w
      rw [h]
      exact hp j (hw d j h).2.1
    · show (match writer ops i d with | some j => vs j | none => a0.eval (.tmp d)) = v
      rw [h]
      exact hv
  -- what it looks at is what it sees
  have hsee : ∀ d ∈ o.looksAt ops, (puts ops (fun _ => true) vs i a0).tmps.getD d undef = sees ops vs a0 i (.tmp d) := by
    intro d hd
    show _ = (match writer ops i d with | some j => vs j | none => a0.eval (.tmp d))
    cases hwr : writer ops i d with
    | some j =>
      obtain ⟨h1, h2, h3⟩ := hw d j hwr
      have hoj : ops[j]? = some ops[j] := Array.getElem?_eq_getElem h3
      have hdj : ops[j].dst = some d := by unfold rdst at h1; rw [hoj] at h1; exact h1
      have hu := (regionOk_at hok hoj).2.2.1 d hdj
      have hpn := puts_new (ops := ops) (fun _ => true) vs a0 d j h1 rfl i (hpi j h2) fun k hk => hu.2 k (by omega)
      rw [Array.getD_eq_getD_getElem?, hpn]
      simp [Act.put, hu.1]
    | none =>
      have hno : ∀ j, j < i → rdst ops j ≠ some d := by
        intro j hj hjd
        have h1 := hlook d hd j (by omega) (by omega) hjd
        rcases h1 with h1 | h1
        · have h2 := List.find?_eq_none.1 hwr j (List.mem_range.2 (by omega))
          simp [hjd, h1] at h2
        · have hoj : ops[j]? = some ops[j] := Array.getElem?_eq_getElem (by omega)
          unfold rpred at h1
          rw [hoj, Option.map_some, Option.getD_some, List.any_eq_true] at h1
          obtain ⟨e, he, hej⟩ := h1
          simp at hej
          have := (regionOk_at hok hoj).1 e (by simpa using he) hej.1
          omega
      show _ = a0.tmps.getD d undef
      rw [Array.getD_eq_getD_getElem?, Array.getD_eq_getD_getElem?, puts_old (ops := ops) (fun _ => true) vs a0 d i fun j hj _ => hno j hj]
  have hexec : execOp (puts ops (fun _ => true) vs i a0).eval o = execOp (sees ops vs a0 i) o := by
    refine execOp_congr o hsel fun x hx => ?_
    cases x with
    | tmp d => exact hsee d (List.mem_append_left _ (List.mem_filterMap.2 ⟨.tmp d, by simpa using hx, rfl⟩))
    | _ => rfl
  have h1 := hst (sees ops vs a0 i) w hb hctx
  cases hg : o.guard with
  | none =>
    rw [hg] at h1
    have hwa : Region.wanted o (yielded ops (puts ops (fun _ => true) vs i a0).tmps) = true := by unfold Region.wanted; rw [hg]
    rw [if_pos hwa]
    exact wp_of_gives hexec h1
  | some p =>
    obtain ⟨g, b⟩ := p
    rw [hg] at h1
    have hgo : (rdst ops g).isSome = true := by
      unfold guardsOk at hgd
      rw [List.all_eq_true] at hgd
      have := hgd i (List.mem_range.2 hlt)
      rw [ho, Option.map_some, Option.getD_some, hg] at this
      exact this
    obtain ⟨d, hd⟩ := Option.isSome_iff_exists.1 hgo
    obtain ⟨hyes, hno⟩ := h1 d hd
    have hdl : d ∈ o.looksAt ops := List.mem_append_right _ (by rw [hg]; show d ∈ ((ops[g]?).bind (·.dst)).toList; have : (ops[g]?).bind (·.dst) = some d := hd; rw [this]; simp)
    have hv := hsee d hdl
    by_cases hw : Region.wanted o (yielded ops (puts ops (fun _ => true) vs i a0).tmps) = true
    · rw [if_pos hw]
      refine wp_of_gives hexec (hyes ?_)
      rw [← hv]
      unfold Region.wanted at hw
      rw [hg] at hw
      have hd' : (ops[g]?).bind (·.dst) = some d := hd
      simp only [yielded, hd', Option.bind_some] at hw
      rw [Array.getD_eq_getD_getElem?]
      cases hx : (puts ops (fun _ => true) vs i a0).tmps[d]? with
      | none => rw [hx] at hw; simp at hw
      | some v =>
        rw [hx] at hw
        cases v <;> simp at hw
        subst hw
        rfl
    · rw [if_neg hw]
      refine hno fun h => hw ?_
      rw [← hv, Array.getD_eq_getD_getElem?] at h
      unfold Region.wanted
      rw [hg]
      have hd' : (ops[g]?).bind (·.dst) = some d := hd
      simp only [yielded, hd', Option.bind_some]
      cases hx : (puts ops (fun _ => true) vs i a0).tmps[d]? with
      | none => rw [hx] at h; cases h
      | some v =>
        rw [hx] at h
        have h : v = .bool b := h
        subst h
        simp
theorem stepsFrom_all {F : Nat → Value → World → Prop} {a0 : Act} {w0 : World} (h : StepsFrom P ops F a0 w0 0 ops.toList) (i : Nat) (o : Oper) (ho : ops[i]? = some o) : StepAt P ops F a0 w0 i o := by
  have := stepsFrom_at ops.toList 0 h i o (by simpa using ho)
  simpa using this
theorem wpAny_region_steps {a0 : Act} {w0 : World} (F : Nat → Value → World → Prop)
    (hok : regionOk ops a0.tmps.size = true) (hgd : guardsOk ops = true)
    (hF : ∀ i v w w', F i v w → Below w.heap.size w w' → F i v w')
    (hsteps : StepsFrom P ops F a0 w0 0 ops.toList)
    (hfin : ∀ (vs : Nat → Value) (w : World), Below w0.heap.size w0 w → (∀ i, i < ops.size → F i (vs i) w) → Q .normal (puts ops (fun _ => true) vs ops.size a0) w) :
    wpAny P .any ops Q ops.size (Array.replicate ops.size false) a0 { w0 with drawn := w0.drawn + 1 } :=
  wpAny_region_facts F hok hF (fun i o ho => region_step F hok hgd i o ho (stepsFrom_all hsteps i o ho)) hfin
theorem wp_region_steps {id : Nat} {a0 : Act} {w0 : World} (F : Nat → Value → World → Prop) (hm : P.follows .mixedOrders = true)
    (hok : regionOk ops a0.tmps.size = true) (hgd : guardsOk ops = true)
    (hF : ∀ i v w w', F i v w → Below w.heap.size w w' → F i v w')
    (hsteps : StepsFrom P ops F a0 w0 0 ops.toList)
    (hfin : ∀ (vs : Nat → Value) (w : World), Below w0.heap.size w0 w → (∀ i, i < ops.size → F i (vs i) w) → Q .normal (puts ops (fun _ => true) vs ops.size a0) w) :
    (Code.region id ops true).wp P Q a0 w0 := wp_region_any hm (wpAny_region_steps F hok hgd hF hsteps hfin)

/-- The tail of such a region waits for all ahead of it, and stands in one order. (n: where it begins.) -/
def forcedB (ops : Array Oper) (n : Nat) : Bool :=
  decide (n < ops.size) && Region.sinkB .any ops n && Region.chainB .any ops n && Region.seqB .any ops (ops.size - n) n ((Array.range ops.size).map fun i => decide (i < n))
theorem mask_eq {l : Array Bool} {n s : Nat} (hs : l.size = s) (h1 : ∀ j, j < n → l.getD j false = true) (h2 : ∀ j, n ≤ j → j < s → l.getD j false = false) : l = (Array.range s).map fun i => decide (i < n) := by
  apply Array.ext
  · simp [hs]
  · intro i hi _
    by_cases h : i < n
    · have := h1 i h
      simp [hi] at this
      simp [this, h]
    · have := h2 i (by omega) (by omega)
      simp [hi] at this
      simp [this, h]
/-- **A region that draws and ends in operations that are forced**: those ahead of them each shown once, by facts that later worlds keep; the others in their order. -/
theorem wpAny_region_tail {a0 : Act} {w0 : World} (n : Nat) (F : Nat → Value → World → Prop)
    (hok : regionOk ops a0.tmps.size = true) (hgd : guardsOk ops = true) (hfo : forcedB ops n = true)
    (hF : ∀ i v w w', F i v w → Below w.heap.size w w' → F i v w')
    (hsteps : StepsFrom P ops F a0 w0 0 (ops.toList.take n))
    (hfin : ∀ (vs : Nat → Value) (w : World), Below w0.heap.size w0 w → (∀ i, i < n → F i (vs i) w) → wpList P ops Q (ops.toList.drop n) (puts ops (fun _ => true) vs n a0) w) :
    wpAny P .any ops Q ops.size (Array.replicate ops.size false) a0 { w0 with drawn := w0.drawn + 1 } := by
  unfold forcedB at hfo
  simp only [Bool.and_eq_true, decide_eq_true_eq] at hfo
  obtain ⟨⟨⟨hn, hsk⟩, hch⟩, hsq⟩ := hfo
  refine wpAny_region_core n (by omega) F hok hF (fun i o hi ho => region_step F hok hgd i o ho ?_) (fun l inv ⟨i, hi, hun⟩ t ht => tail_waits hsk hch hn inv _ i rfl hi hun t ht) fun l vs w hs h1 h2 hb hf => ?_
  · have := stepsFrom_at (ops.toList.take n) 0 hsteps i o (by rw [List.getElem?_take, if_pos hi]; simpa using ho)
    simpa using this
  · rw [mask_eq hs h1 h2]
    have h := wpAny_of_seq (P := P) (ops := ops) (md := .any) (Q' := Q) (ops.toList.drop n) n ((Array.range ops.size).map fun i => decide (i < n)) (puts ops (fun _ => true) vs n a0) w (fun j => by rw [List.getElem?_drop]; simp)
      (by rw [List.length_drop, Array.length_toList]; exact hsq) (hfin vs w hb hf)
    rwa [List.length_drop, Array.length_toList] at h
end

end Go.Proofs.Ytocodcceimeiiaa
