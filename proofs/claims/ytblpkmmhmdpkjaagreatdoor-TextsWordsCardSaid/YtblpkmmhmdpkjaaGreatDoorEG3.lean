/- Texts that the claims of this seat share, part 3: RegR WMake TPlain TRef TRPut TRTake TOwn TWay MulS TRep TPack TNum TUnp TGlue. -/
import Derived.Deep.RegionLaw
import Derived.Shelf.Bits.Mul64
import Derived.Laws.StructEq
import Derived.Test.YtblpkmmhmdpkjaaGreatDoorProg
import Derived.Test.YtblpkmmhmdpkjaaGreatDoorEG2
/- A region that draws, each operation shown once, over ANY relation of worlds (XRegion: over 'old memory as it was'): for a region that also writes: the relation says what each operation leaves as it was; a fact may speak of the values of what its operation waits for. -/



namespace Go.Proofs.YtblpkmmhmdpkjaaGreatDoor

open Go.RowKit

/-- A relation of worlds that regions may go by. -/
structure Later (R : World → World → Prop) : Prop where
  refl : ∀ w, R w w
  trans : ∀ {a b c}, R a b → R b c → R a c
  draw : ∀ w, R w { w with drawn := w.drawn + 1 }
def upd (vs : Nat → Value) (i : Nat) (v : Value) : Nat → Value := fun j => if j = i then v else vs j
theorem upd_at (vs : Nat → Value) (i : Nat) (v : Value) : upd vs i v i = v := if_pos rfl
theorem upd_ne (vs : Nat → Value) {i j : Nat} (v : Value) (h : j ≠ i) : upd vs i v j = vs j := if_neg h
/-- What is known of what an operation sees. -/
structure RCtxR (ops : Array Oper) (F : Nat → (Nat → Value) → World → Prop) (a0 : Act) (i : Nat) (ρ : Operand → Value) (vs : Nat → Value) (w : World) : Prop where
  const : ∀ v, ρ (.const v) = v
  func : ∀ f, ρ (.func f) = .func (.func f) #[] #[]
  glob : ∀ g, ρ (.global g) = .pointer (some ⟨g, 0, none⟩)
  new : ∀ d j, writer ops i d = some j → ρ (.tmp d) = vs j
  fact : ∀ j, rpred ops j i = true → F j vs w
  old : ∀ d v, writer ops i d = none → a0.eval (.tmp d) = v → ρ (.tmp d) = v
theorem writer_pred {ops : Array Oper} {i d j : Nat} (h : writer ops i d = some j) : rpred ops j i = true := by
  have h1 := List.find?_some h
  simp at h1
  exact h1.2
section

variable {P : Program} {ops : Array Oper} {Q : Exit → Act → World → Prop} {R : World → World → Prop}
/-- **A region that draws, whose first m operations are each shown once** (the frame: as the text's order gives it); what follows them is shown from where all these have been done. -/
theorem wpAny_region_coreR (HR : Later R) {a0 : Act} {w0 : World} (m : Nat) (hm : m ≤ ops.size) (F : Nat → (Nat → Value) → World → Prop)
    (hok : regionOk ops a0.tmps.size = true)
    (hF : ∀ i vs w w', F i vs w → R w w' → F i vs w')
    (hloc : ∀ i vs vs' w, (∀ k, (k = i ∨ rpred ops k i = true) → vs k = vs' k) → F i vs w → F i vs' w)
    (hstep : ∀ i o, i < m → ops[i]? = some o → ∀ (vs : Nat → Value) (w : World), R w0 w → (∀ j, rpred ops j i = true → F j vs w) →
      if Region.wanted o (yielded ops (puts ops (fun _ => true) vs i a0).tmps) = true then
        o.wp P (puts ops (fun _ => true) vs i a0) w (fun a' w' => ∃ v, a' = (puts ops (fun _ => true) vs i a0).put o.dst v ∧ F i (upd vs i v) w' ∧ R w w') (fun _ _ _ => False)
      else F i (upd vs i undef) w)
    (hwait : ∀ l : Array Bool, HeadInv .any ops m l → (∃ i, i < m ∧ l.getD i true = false) → ∀ t, m ≤ t → t ∉ Region.ready .any ops l)
    (hfin : ∀ (l : Array Bool) (vs : Nat → Value) (w : World), l.size = ops.size → (∀ j, j < m → l.getD j false = true) → (∀ j, m ≤ j → j < ops.size → l.getD j false = false) → R w0 w → (∀ i, i < m → F i vs w) →
      wpAny P .any ops Q (ops.size - m) l (puts ops (fun _ => true) vs m a0) w) :
    wpAny P .any ops Q ops.size (Array.replicate ops.size false) a0 { w0 with drawn := w0.drawn + 1 } := by
  have main : ∀ (fuel : Nat) (l : Array Bool) (vs : Nat → Value) (w : World), l.size = ops.size → left m l ≤ fuel → (∀ i j, i < ops.size → l.getD i false = true → rpred ops j i = true → l.getD j false = true) →
      (∀ t, m ≤ t → t < ops.size → l.getD t false = false) →
      (∀ i, i < ops.size → l.getD i false = true → F i vs w) → R w0 w → wpAny P .any ops Q (fuel + (ops.size - m)) l (puts ops (fun j => l.getD j false) vs ops.size a0) w := by
    intro fuel
    have hend : ∀ (f : Nat) (l : Array Bool) (vs : Nat → Value) (w : World), l.size = ops.size → (∀ t, m ≤ t → t < ops.size → l.getD t false = false) → (∀ i, i < ops.size → l.getD i false = true → F i vs w) → R w0 w → (∀ j, j < m → l.getD j false = true) →
        wpAny P .any ops Q (f + (ops.size - m)) l (puts ops (fun j => l.getD j false) vs ops.size a0) w := by
      intro f l vs w hs htl hfs hb hall
      rw [puts_cut _ vs a0 m ops.size hm htl, puts_congr (fun j => l.getD j false) (fun _ => true) vs vs a0 m hall (fun _ _ _ => rfl)]
      exact wpAny_add _ _ _ _ _ (hfin l vs w hs hall htl hb fun i hi => hfs i (by omega) (hall i hi))
    induction fuel with
    | zero =>
      intro l vs w hs hl hcl htl hfs hb
      refine hend 0 l vs w hs htl hfs hb fun j hj => ?_
      cases h1 : l.getD j false with
      | true => rfl
      | false => have := left_set_in hj (by omega) h1; omega
    | succ fuel ih =>
      intro l vs w hs hl hcl htl hfs hb
      by_cases hall : ∀ j, j < m → l.getD j false = true
      · exact hend _ l vs w hs htl hfs hb hall
      obtain ⟨j0, hj0⟩ := Classical.not_forall.1 hall
      have hj0m : j0 < m := by
        rcases Nat.lt_or_ge j0 m with h | h
        · exact h
        · exact absurd (fun h' => absurd h' (by omega)) hj0
      have hj0f : l.getD j0 false = false := by
        cases h1 : l.getD j0 false with
        | false => rfl
        | true => exact absurd (fun _ => h1) hj0
      have hinv : HeadInv .any ops m l := by
        refine ⟨hs, fun j oj hj hlj e he hbd => ?_, fun t ht ht' => getD_in (by omega) (htl t ht ht')⟩
        refine hcl j e.on (Array.getElem?_eq_some_iff.1 hj).1 hlj ?_
        unfold rpred
        rw [hj, Option.map_some, Option.getD_some, List.any_eq_true]
        exact ⟨e, by simpa using he, by rw [hbd]; simp⟩
      have hwt := hwait l hinv ⟨j0, hj0m, getD_in (by omega) hj0f⟩
      rw [show fuel + 1 + (ops.size - m) = (fuel + (ops.size - m)) + 1 by omega]
      refine ⟨fun hr => ?_, fun i hi => ?_⟩
      · exfalso
        have hallb : ∀ i, i < m → l.getD i false = true := by
          intro i
          induction i using Nat.strongRecOn with
          | ind i ih =>
            intro hi
            by_cases hl : l.getD i false = true
            · exact hl
            · exfalso
              have ho : ops[i]? = some ops[i] := Array.getElem?_eq_getElem (by omega)
              have hok' := regionOk_at hok ho
              have hmem : i ∈ Region.ready .any ops l := mem_ready.2 ⟨by
                have : i < l.size := by omega
                simp [this] at hl ⊢
                exact hl, ops[i], ho, fun e he hbd => ih e.on (hok'.1 e he hbd) (by have := hok'.1 e he hbd; omega)⟩
              rw [hr] at hmem
              cases hmem
        exact absurd (hallb j0 hj0m) (by rw [hj0f]; decide)
      have him : i < m := by
        rcases Nat.lt_or_ge i m with h | h
        · exact h
        · exact absurd hi (hwt i h)
      obtain ⟨h0, o, ho, hpre⟩ := mem_ready.1 hi
      have hlt : i < ops.size := (Array.getElem?_eq_some_iff.1 ho).1
      have h1 : l.getD i false = false := by
        have : i < l.size := by omega
        simp [this] at h0 ⊢
        exact h0
      obtain ⟨hback, hsel, hdst, hlook⟩ := regionOk_at hok ho
      have hpred : ∀ j, rpred ops j i = true → l.getD j false = true ∧ j < i := by
        intro j hj
        unfold rpred at hj
        rw [ho, Option.map_some, Option.getD_some, List.any_eq_true] at hj
        obtain ⟨e, he, hej⟩ := hj
        have he : e ∈ o.after := by simpa using he
        simp at hej
        rw [← hej.2]
        exact ⟨hpre e he hej.1, hback e he hej.1⟩
      have hrd : rdst ops i = o.dst := by unfold rdst; rw [ho]; rfl
      -- what the operation looks at is the same in both frames
      have hsame : ∀ d ∈ o.looksAt ops, (puts ops (fun j => l.getD j false) vs ops.size a0).tmps[d]? = (puts ops (fun _ => true) vs i a0).tmps[d]? := by
        intro d hd
        by_cases hex : ∃ j, j < ops.size ∧ j ≠ i ∧ rdst ops j = some d
        · obtain ⟨j, hj, hne, hjd⟩ := hex
          have hoj : ops[j]? = some ops[j] := Array.getElem?_eq_getElem hj
          have hdj : ops[j].dst = some d := by unfold rdst at hjd; rw [hoj] at hjd; exact hjd
          have huniq : ∀ k, k < ops.size → k ≠ j → rdst ops k ≠ some d := fun k hk hkj => ((regionOk_at hok hoj).2.2.1 d hdj).2 k hk hkj
          rcases hlook d hd j hj hne hjd with hp | hp
          · obtain ⟨hlj, hji⟩ := hpred j hp
            rw [puts_new _ vs a0 d j hjd hlj ops.size hj huniq, puts_new _ vs a0 d j hjd rfl i hji fun k hk => huniq k (by omega)]
          · have hnl : l.getD j false = false := by
              cases hlj : l.getD j false with
              | false => rfl
              | true => exact absurd (hcl j i hj hlj hp) (by rw [h1]; decide)
            have hij : i < j := by
              unfold rpred at hp
              rw [hoj, Option.map_some, Option.getD_some, List.any_eq_true] at hp
              obtain ⟨e, he, hej⟩ := hp
              have he : e ∈ ops[j].after := by simpa using he
              simp at hej
              have := (regionOk_at hok hoj).1 e he hej.1
              omega
            rw [puts_old _ vs a0 d ops.size, puts_old _ vs a0 d i]
            · intro k hk _ hkd
              exact huniq k (by omega) (by omega) hkd
            · intro k hk hlk hkd
              by_cases hkj : k = j
              · subst hkj; rw [hnl] at hlk; cases hlk
              · exact huniq k hk hkj hkd
        · rw [puts_old _ vs a0 d ops.size, puts_old _ vs a0 d i]
          · intro k hk _ hkd; exact hex ⟨k, by omega, by omega, hkd⟩
          · intro k hk hlk hkd
            by_cases hki : k = i
            · subst hki; rw [h1] at hlk; cases hlk
            · exact hex ⟨k, hk, hki, hkd⟩
      have hst := hstep i o him ho vs w hb fun j hj => hfs j (by have := (hpred j hj).2; omega) (hpred j hj).1
      have hwant := wanted_congr hsame
      have hexec : execOp (puts ops (fun j => l.getD j false) vs ops.size a0).eval o = execOp (puts ops (fun _ => true) vs i a0).eval o := by
        refine execOp_congr o hsel fun x hx => ?_
        cases x with
        | tmp d =>
          have hd : d ∈ o.looksAt ops := List.mem_append_left _ (List.mem_filterMap.2 ⟨.tmp d, by simpa using hx, rfl⟩)
          have := hsame d hd
          show (puts ops (fun j => l.getD j false) vs ops.size a0).tmps.getD d undef = (puts ops (fun _ => true) vs i a0).tmps.getD d undef
          rw [Array.getD_eq_getD_getElem?, Array.getD_eq_getD_getElem?, this]
        | _ => rfl
      -- behind it
      have hnext : ∀ v w', F i (upd vs i v) w' → R w w' → wpAny P .any ops Q (fuel + (ops.size - m)) (l.setIfInBounds i true) ((puts ops (fun j => l.getD j false) vs ops.size a0).put o.dst v) w' := by
        intro v w' hv hb'
        have hset := puts_set (ops := ops) (fun j => l.getD j false) vs a0 i v h1 ops.size hlt fun j hj hne d hd => (hdst d (by rw [← hrd]; exact hd)).2 j hj hne
        rw [← hrd, ← hset]
        have hmarks : ∀ j, j < ops.size → (j == i || l.getD j false) = (l.setIfInBounds i true).getD j false := by
          intro j hj
          by_cases hij : i = j
          · subst hij; simp [hs, hlt]
          · rw [getD_set_ne false hij]
            have : (j == i) = false := by simp; omega
            simp [this]
        rw [puts_congr _ (fun j => (l.setIfInBounds i true).getD j false) _ (fun j => if j = i then v else vs j) a0 ops.size hmarks (fun _ _ _ => rfl)]
        refine ih (l.setIfInBounds i true) _ w' (by simp [hs]) (by have := left_set_in him (by omega) h1; omega) ?_ ?_ ?_ (HR.trans hb hb')
        · intro j k hj hlj hjk
          rw [← hmarks j hj] at hlj
          by_cases hji : j = i
          · subst hji; exact getD_set_true (hpred k hjk).1
          · have : (j == i) = false := by simpa using hji
            rw [this, Bool.false_or] at hlj
            exact getD_set_true (hcl j k hj hlj hjk)
        · intro t ht ht'
          rw [getD_set_ne false (by omega)]
          exact htl t ht ht'
        · intro j hj hlj
          rw [← hmarks j hj] at hlj
          by_cases hji : j = i
          · subst hji; exact hv
          · have : (j == i) = false := by simpa using hji
            rw [this, Bool.false_or] at hlj
            refine hF j _ w w' (hloc j vs _ w (fun k hk => ?_) (hfs j hj hlj)) hb'
            have hki : k ≠ i := by
              rcases hk with rfl | hk
              · exact hji
              · rintro rfl
                rw [hcl j k hj hlj hk] at h1
                cases h1
            show vs k = if k = i then v else vs k
            rw [if_neg hki]
      unfold wpOp
      rw [ho]
      show if Region.wanted o _ = true then _ else _
      rw [hwant]
      by_cases hw : Region.wanted o (yielded ops (puts ops (fun _ => true) vs i a0).tmps) = true
      · rw [if_pos hw] at hst ⊢
        exact .inl (wp_carry hexec (fun d hd => by rw [puts_size]; exact (hdst d hd).1) hst fun v w' h => hnext v w' h.1 h.2)
      · rw [if_neg hw] at hst ⊢
        exact hnext undef w hst (HR.refl _)
  have hinit := main m (Array.replicate ops.size false) (fun _ => undef) { w0 with drawn := w0.drawn + 1 } (by simp) (by unfold left; exact Nat.le_trans (List.length_filter_le _ _) (by simp))
    (fun i j hi h _ => by simp [hi] at h) (fun t _ _ => getD_replicate_false _ _) (fun i hi h => by simp [hi] at h) (HR.draw _)
  have hz : puts ops (fun j => (Array.replicate ops.size false).getD j false) (fun _ => undef) ops.size a0 = a0 := by
    have : ∀ n, n ≤ ops.size → puts ops (fun j => (Array.replicate ops.size false).getD j false) (fun _ => undef) n a0 = a0 := by
      intro n
      induction n with
      | zero => intro _; rfl
      | succ n ih =>
        intro hn
        have hlt : n < ops.size := by omega
        rw [puts, if_neg (by simp [hlt]), ih (by omega)]
    exact this _ (Nat.le_refl _)
  rw [hz, show m + (ops.size - m) = ops.size by omega] at hinit
  exact hinit

/-- **A region that draws**: each operation is shown once, in the frame that the text's order gives it, knowing of what it waits for; behind the region all facts hold. -/
theorem wpAny_region_factsR (HR : Later R) {a0 : Act} {w0 : World} (F : Nat → (Nat → Value) → World → Prop)
    (hok : regionOk ops a0.tmps.size = true)
    (hF : ∀ i vs w w', F i vs w → R w w' → F i vs w')
    (hloc : ∀ i vs vs' w, (∀ k, (k = i ∨ rpred ops k i = true) → vs k = vs' k) → F i vs w → F i vs' w)
    (hstep : ∀ i o, ops[i]? = some o → ∀ (vs : Nat → Value) (w : World), R w0 w → (∀ j, rpred ops j i = true → F j vs w) →
      if Region.wanted o (yielded ops (puts ops (fun _ => true) vs i a0).tmps) = true then
        o.wp P (puts ops (fun _ => true) vs i a0) w (fun a' w' => ∃ v, a' = (puts ops (fun _ => true) vs i a0).put o.dst v ∧ F i (upd vs i v) w' ∧ R w w') (fun _ _ _ => False)
      else F i (upd vs i undef) w)
    (hfin : ∀ (vs : Nat → Value) (w : World), R w0 w → (∀ i, i < ops.size → F i vs w) → Q .normal (puts ops (fun _ => true) vs ops.size a0) w) :
    wpAny P .any ops Q ops.size (Array.replicate ops.size false) a0 { w0 with drawn := w0.drawn + 1 } := by
  refine wpAny_region_coreR HR ops.size (Nat.le_refl _) F hok hF hloc (fun i o _ => hstep i o) (fun l _ _ t ht hr => ?_) fun l vs w hs hall _ hb hf => ?_
  · obtain ⟨_, o, ho, _⟩ := mem_ready.1 hr
    have := (Array.getElem?_eq_some_iff.1 ho).1
    omega
  · rw [Nat.sub_self]
    refine ⟨List.eq_nil_iff_forall_not_mem.2 fun i hi => ?_, hfin vs w hb hf⟩
    obtain ⟨h0, o, ho, _⟩ := mem_ready.1 hi
    have hlt := (Array.getElem?_eq_some_iff.1 ho).1
    have h1 := hall i hlt
    have : i < l.size := by omega
    simp [this] at h0 h1
    rw [h0] at h1
    cases h1
def StepAtR (R : World → World → Prop) (P : Program) (ops : Array Oper) (F : Nat → (Nat → Value) → World → Prop) (a0 : Act) (w0 : World) (i : Nat) (o : Oper) : Prop :=
  ∀ (ρ : Operand → Value) (vs : Nat → Value) (w : World), R w0 w → RCtxR ops F a0 i ρ vs w →
    match o.guard with
    | none => Gives P o ρ w fun v w' => F i (upd vs i v) w' ∧ R w w'
    | some (g, b) => ∀ d, rdst ops g = some d → (ρ (.tmp d) = .bool b → Gives P o ρ w fun v w' => F i (upd vs i v) w' ∧ R w w') ∧ (ρ (.tmp d) ≠ .bool b → F i (upd vs i undef) w)

def StepsFromR (R : World → World → Prop) (P : Program) (ops : Array Oper) (F : Nat → (Nat → Value) → World → Prop) (a0 : Act) (w0 : World) : Nat → List Oper → Prop
  | _, [] => True
  | i, o :: r => StepAtR R P ops F a0 w0 i o ∧ StepsFromR R P ops F a0 w0 (i + 1) r

theorem stepsFrom_atR {F : Nat → (Nat → Value) → World → Prop} {a0 : Act} {w0 : World} : ∀ (l : List Oper) (k : Nat), StepsFromR R P ops F a0 w0 k l → ∀ i o, l[i]? = some o → StepAtR R P ops F a0 w0 (k + i) o := by
  intro l
  induction l with
  | nil => intro k _ i o h; simp at h
  | cons x l ih =>
    intro k hs i o h
    cases i with
    | zero => simp at h; subst h; exact hs.1
    | succ i =>
      have := ih (k + 1) hs.2 i o (by simpa using h)
      rwa [Nat.add_assoc, Nat.add_comm 1] at this

/-- **A region that draws**, in the form in which it is used: a fact for each operation, a step for each. -/
theorem region_stepR {a0 : Act} {w0 : World} (F : Nat → (Nat → Value) → World → Prop)
    (hok : regionOk ops a0.tmps.size = true) (hgd : guardsOk ops = true)
    (i : Nat) (o : Oper) (ho : ops[i]? = some o) (hst : StepAtR R P ops F a0 w0 i o) (vs : Nat → Value) (w : World) (hb : R w0 w) (hp : ∀ j, rpred ops j i = true → F j vs w) :
      if Region.wanted o (yielded ops (puts ops (fun _ => true) vs i a0).tmps) = true then
        o.wp P (puts ops (fun _ => true) vs i a0) w (fun a' w' => ∃ v, a' = (puts ops (fun _ => true) vs i a0).put o.dst v ∧ F i (upd vs i v) w' ∧ R w w') (fun _ _ _ => False)
      else F i (upd vs i undef) w := by
  have hlt : i < ops.size := (Array.getElem?_eq_some_iff.1 ho).1
  obtain ⟨hback, hsel, hdst, hlook⟩ := regionOk_at hok ho
  have hpi : ∀ j, rpred ops j i = true → j < i := by
    intro j hj
    unfold rpred at hj
    rw [ho, Option.map_some, Option.getD_some, List.any_eq_true] at hj
    obtain ⟨e, he, hej⟩ := hj
    simp at hej
    rw [← hej.2]
    exact hback e (by simpa using he) hej.1
  have hw : ∀ d j, writer ops i d = some j → rdst ops j = some d ∧ rpred ops j i = true ∧ j < ops.size := by
    intro d j h
    have h1 := List.find?_some h
    have h2 := List.mem_of_find?_eq_some h
    simp at h1
    exact ⟨h1.1, h1.2, List.mem_range.1 h2⟩
  have hctx : RCtxR ops F a0 i (sees ops vs a0 i) vs w := by
    refine ⟨fun _ => rfl, fun _ => rfl, fun _ => rfl, fun d j h => ?_, hp, fun d v h hv => ?_⟩
    · show (match writer ops i d with | some j => vs j | none => a0.eval (.tmp d)) = vs j
      rw [h]
    · show (match writer ops i d with | some j => vs j | none => a0.eval (.tmp d)) = v
      rw [h]
      exact hv
  -- what it looks at is what it sees
  have hsee : ∀ d ∈ o.looksAt ops, (puts ops (fun _ => true) vs i a0).tmps.getD d undef = sees ops vs a0 i (.tmp d) := by
    intro d hd
    show _ = (match writer ops i d with | some j => vs j | none => a0.eval (.tmp d))
    cases hwr : writer ops i d with
    | some j =>
      obtain ⟨h1, h2, h3⟩ := hw d j hwr
      have hoj : ops[j]? = some ops[j] := Array.getElem?_eq_getElem h3
      have hdj : ops[j].dst = some d := by unfold rdst at h1; rw [hoj] at h1; exact h1
      have hu := (regionOk_at hok hoj).2.2.1 d hdj
      have hpn := puts_new (ops := ops) (fun _ => true) vs a0 d j h1 rfl i (hpi j h2) fun k hk => hu.2 k (by omega)
      rw [Array.getD_eq_getD_getElem?, hpn]
      simp [Act.put, hu.1]
    | none =>
      have hno : ∀ j, j < i → rdst ops j ≠ some d := by
        intro j hj hjd
        have h1 := hlook d hd j (by omega) (by omega) hjd
        rcases h1 with h1 | h1
        · have h2 := List.find?_eq_none.1 hwr j (List.mem_range.2 (by omega))
          simp [hjd, h1] at h2
        · have hoj : ops[j]? = some ops[j] := Array.getElem?_eq_getElem (by omega)
          unfold rpred at h1
          rw [hoj, Option.map_some, Option.getD_some, List.any_eq_true] at h1
          obtain ⟨e, he, hej⟩ := h1
          simp at hej
          have := (regionOk_at hok hoj).1 e (by simpa using he) hej.1
          omega
      show _ = a0.tmps.getD d undef
      rw [Array.getD_eq_getD_getElem?, Array.getD_eq_getD_getElem?, puts_old (ops := ops) (fun _ => true) vs a0 d i fun j hj _ => hno j hj]
  have hexec : execOp (puts ops (fun _ => true) vs i a0).eval o = execOp (sees ops vs a0 i) o := by
    refine execOp_congr o hsel fun x hx => ?_
    cases x with
    | tmp d => exact hsee d (List.mem_append_left _ (List.mem_filterMap.2 ⟨.tmp d, by simpa using hx, rfl⟩))
    | _ => rfl
  have h1 := hst (sees ops vs a0 i) vs w hb hctx
  cases hg : o.guard with
  | none =>
    rw [hg] at h1
    have hwa : Region.wanted o (yielded ops (puts ops (fun _ => true) vs i a0).tmps) = true := by unfold Region.wanted; rw [hg]
    rw [if_pos hwa]
    exact wp_of_gives hexec h1
  | some p =>
    obtain ⟨g, b⟩ := p
    rw [hg] at h1
    have hgo : (rdst ops g).isSome = true := by
      unfold guardsOk at hgd
      rw [List.all_eq_true] at hgd
      have := hgd i (List.mem_range.2 hlt)
      rw [ho, Option.map_some, Option.getD_some, hg] at this
      exact this
    obtain ⟨d, hd⟩ := Option.isSome_iff_exists.1 hgo
    obtain ⟨hyes, hno⟩ := h1 d hd
    have hdl : d ∈ o.looksAt ops := List.mem_append_right _ (by rw [hg]; show d ∈ ((ops[g]?).bind (·.dst)).toList; have : (ops[g]?).bind (·.dst) = some d := hd; rw [this]; simp)
    have hv := hsee d hdl
    by_cases hw : Region.wanted o (yielded ops (puts ops (fun _ => true) vs i a0).tmps) = true
    · rw [if_pos hw]
      refine wp_of_gives hexec (hyes ?_)
      rw [← hv]
      unfold Region.wanted at hw
      rw [hg] at hw
      have hd' : (ops[g]?).bind (·.dst) = some d := hd
      simp only [yielded, hd', Option.bind_some] at hw
      rw [Array.getD_eq_getD_getElem?]
      cases hx : (puts ops (fun _ => true) vs i a0).tmps[d]? with
      | none => rw [hx] at hw; simp at hw
      | some v =>
        rw [hx] at hw
        cases v <;> simp at hw
        subst hw
        rfl
    · rw [if_neg hw]
      refine hno fun h => hw ?_
      rw [← hv, Array.getD_eq_getD_getElem?] at h
      unfold Region.wanted
      rw [hg]
      have hd' : (ops[g]?).bind (·.dst) = some d := hd
      simp only [yielded, hd', Option.bind_some]
      cases hx : (puts ops (fun _ => true) vs i a0).tmps[d]? with
      | none => rw [hx] at h; cases h
      | some v =>
        rw [hx] at h
        have h : v = .bool b := h
        subst h
        simp
theorem stepsFrom_allR {F : Nat → (Nat → Value) → World → Prop} {a0 : Act} {w0 : World} (h : StepsFromR R P ops F a0 w0 0 ops.toList) (i : Nat) (o : Oper) (ho : ops[i]? = some o) : StepAtR R P ops F a0 w0 i o := by
  have := stepsFrom_atR ops.toList 0 h i o (by simpa using ho)
  simpa using this
theorem wpAny_region_stepsR (HR : Later R) {a0 : Act} {w0 : World} (F : Nat → (Nat → Value) → World → Prop)
    (hok : regionOk ops a0.tmps.size = true) (hgd : guardsOk ops = true)
    (hF : ∀ i vs w w', F i vs w → R w w' → F i vs w')
    (hloc : ∀ i vs vs' w, (∀ k, (k = i ∨ rpred ops k i = true) → vs k = vs' k) → F i vs w → F i vs' w)
    (hsteps : StepsFromR R P ops F a0 w0 0 ops.toList)
    (hfin : ∀ (vs : Nat → Value) (w : World), R w0 w → (∀ i, i < ops.size → F i vs w) → Q .normal (puts ops (fun _ => true) vs ops.size a0) w) :
    wpAny P .any ops Q ops.size (Array.replicate ops.size false) a0 { w0 with drawn := w0.drawn + 1 } :=
  wpAny_region_factsR HR F hok hF hloc (fun i o ho => region_stepR F hok hgd i o ho (stepsFrom_allR hsteps i o ho)) hfin
end
/-- What is known of a value, and stays known; 'deps': the operations whose values it speaks of besides. -/
structure FactR (R : World → World → Prop) where
  holds : (Nat → Value) → Value → World → Prop
  deps : List Nat
  stays : ∀ vs v w w', holds vs v w → R w w' → holds vs v w'
  local_ : ∀ vs vs' v w, (∀ k ∈ deps, vs k = vs' k) → holds vs v w → holds vs' v w
def FactR.any {R : World → World → Prop} : FactR R := ⟨fun _ _ _ => True, [], fun _ _ _ _ _ _ => trivial, fun _ _ _ _ _ _ => trivial⟩
def FactR.is {R : World → World → Prop} (u : Value) : FactR R := ⟨fun _ v _ => v = u, [], fun _ _ _ _ h _ => h, fun _ _ _ _ _ h => h⟩
/-- Of the value alone, and the world. -/
def FactR.of {R : World → World → Prop} (H : Value → World → Prop) (h : ∀ v w w', H v w → R w w' → H v w') : FactR R := ⟨fun _ v w => H v w, [], fun _ v w w' a b => h v w w' a b, fun _ _ _ _ _ h => h⟩
def factsR {R : World → World → Prop} (L : List (FactR R)) (i : Nat) (vs : Nat → Value) (w : World) : Prop := (L.getD i FactR.any).holds vs (vs i) w
/-- Each fact speaks of what its operation waits for alone. -/
def depsOk {R : World → World → Prop} (ops : Array Oper) (L : List (FactR R)) : Bool := (List.range L.length).all fun i => (L.getD i FactR.any).deps.all fun k => rpred ops k i
theorem factsR_local {R : World → World → Prop} {ops : Array Oper} {L : List (FactR R)} (h : depsOk ops L = true) (i : Nat) (vs vs' : Nat → Value) (w : World) (hk : ∀ k, (k = i ∨ rpred ops k i = true) → vs k = vs' k) (hf : factsR L i vs w) : factsR L i vs' w := by
  unfold factsR at *
  rw [← hk i (.inl rfl)]
  refine (L.getD i FactR.any).local_ vs vs' _ w (fun k hd => hk k (.inr ?_)) hf
  by_cases hi : i < L.length
  · unfold depsOk at h
    exact List.all_eq_true.1 (List.all_eq_true.1 h i (List.mem_range.2 hi)) k hd
  · rw [List.getD_eq_getElem?_getD, List.getElem?_eq_none (by omega)] at hd
    cases hd
theorem RCtxR.holds {R : World → World → Prop} {ops : Array Oper} {L : List (FactR R)} {a0 : Act} {i : Nat} {ρ : Operand → Value} {vs : Nat → Value} {w : World} (H : RCtxR ops (factsR L) a0 i ρ vs w) (d j : Nat) (h : writer ops i d = some j) : (L.getD j FactR.any).holds vs (ρ (.tmp d)) w := by
  rw [H.new d j h]
  exact H.fact j (writer_pred h)
theorem wpAny_region_listR {R : World → World → Prop} (HR : Later R) {P : Program} {ops : Array Oper} {Q : Exit → Act → World → Prop} {a0 : Act} {w0 : World} (L : List (FactR R)) (ds : List (Option Tmp))
    (hok : regionOk ops a0.tmps.size = true) (hgd : guardsOk ops = true) (hdp : depsOk ops L = true) (hds : ops.toList.map (·.dst) = ds) (hsteps : StepsFromR R P ops (factsR L) a0 w0 0 ops.toList)
    (hfin : ∀ (vs : Nat → Value) (w : World), R w0 w → (∀ i, i < ds.length → factsR L i vs w) → Q .normal (putAll vs ds 0 a0) w) :
    wpAny P .any ops Q ops.size (Array.replicate ops.size false) a0 { w0 with drawn := w0.drawn + 1 } :=
  wpAny_region_stepsR HR (factsR L) hok hgd (fun i vs w w' h hb => (L.getD i FactR.any).stays vs _ w w' h hb) (factsR_local hdp) hsteps (fun vs w hb h => by
    subst hds
    rw [puts_all]
    exact hfin vs w hb fun i hi => h i (by simpa using hi))
/-- The use: the relation, a fact for each operation. -/
theorem wp_region_listR {R : World → World → Prop} (HR : Later R) {P : Program} {ops : Array Oper} {Q : Exit → Act → World → Prop} {id : Nat} {a0 : Act} {w0 : World} (L : List (FactR R)) (ds : List (Option Tmp)) (hm : P.follows .mixedOrders = true)
    (hok : regionOk ops a0.tmps.size = true) (hgd : guardsOk ops = true) (hdp : depsOk ops L = true) (hds : ops.toList.map (·.dst) = ds) (hsteps : StepsFromR R P ops (factsR L) a0 w0 0 ops.toList)
    (hfin : ∀ (vs : Nat → Value) (w : World), R w0 w → (∀ i, i < ds.length → factsR L i vs w) → Q .normal (putAll vs ds 0 a0) w) :
    (Code.region id ops true).wp P Q a0 w0 := wp_region_any hm (wpAny_region_listR HR L ds hok hgd hdp hds hsteps hfin)
end Go.Proofs.YtblpkmmhmdpkjaaGreatDoor

/- Rows of structs made whole (make), copied (copy), stored into at an index; a struct's block laid and stored in a region that draws. Over any program. -/











namespace Go.Proofs.YtblpkmmhmdpkjaaGreatDoor

open Go.RowKit

theorem flat_replicate {α : Type} {f : α → List Value} (n : Nat) (x : α) : (List.replicate n x).flatMap f = (List.replicate n (f x)).flatten := by
  rw [List.flatMap_def, List.map_replicate]
theorem made_cells (cs : List Value) (_hm : 0 < cs.length) (n : Nat) : (madeCells cs.toArray (n * cs.length)).toList = (List.replicate n cs).flatten := by
  induction n with
  | zero => simp [madeCells]
  | succ n ih =>
    have hs : (madeCells cs.toArray ((n + 1) * cs.length)).toList = (madeCells cs.toArray (n * cs.length)).toList ++ cs := by
      apply List.ext_getElem
      · simp [madeCells, Nat.succ_mul]
      · intro i h1 h2
        have hl : (madeCells cs.toArray (n * cs.length)).toList.length = n * cs.length := by simp [madeCells]
        have hi : i < (n + 1) * cs.length := by simpa [madeCells] using h1
        by_cases h : i < n * cs.length
        · rw [List.getElem_append_left (by rw [hl]; exact h)]
          simp [madeCells]
        · rw [List.getElem_append_right (by rw [hl]; omega)]
          simp only [hl]
          have hi2 : i - n * cs.length < cs.length := by rw [Nat.succ_mul] at hi; omega
          have hmod : i % cs.length = i - n * cs.length := by
            have e : i = (i - n * cs.length) + cs.length * n := by rw [Nat.mul_comm cs.length n]; omega
            conv => lhs; rw [e, Nat.add_mul_mod_self_left, Nat.mod_eq_of_lt hi2]
          simp [madeCells, hmod, hi2]
    rw [hs, ih, List.replicate_succ']
    simp
theorem wpList_makeW {P : Program} {w : World} {ops : Array Oper} {rest : List Oper} {o : Oper} {a : Act} {Q : Exit → Act → World → Prop} {t e : TypeId} {bytes m : Nat} {z : Value} (E : ElemW P t e bytes m z) (zc : List Value) (hzc : z.cells.toList = zc)
    (hgd : o.guard = none) (l c : Operand) (hop : o.op = Op.makeSlice t l c) (kl kc : IntKind) (L C : Int) (n : Nat) (w0 : World) (B : Nat)
    (hl : a.eval l = .int kl L) (hc : a.eval c = .int kc C) (hL : L = (n : Int)) (hC : C = (n : Int)) (hn : n ≤ 1000000000) (hby : bytes ≤ 100) (hb : Below B w0 w) (hB : B ≤ w.heap.size)
    (h : ∀ w', Row w' w.heap.size e (List.replicate n zc).flatten → Below B w0 w' → wpList P ops Q rest (a.put o.dst (.slice (some ⟨w.heap.size, 0, none⟩) n n)) w') :
    wpList P ops Q (o :: rest) a w := by
  subst hzc
  obtain ⟨i, h1, h2, h3, h4⟩ := E.info
  refine wpList_plain hgd fun K hK => ?_
  have hle : bytes * n ≤ 100 * n := Nat.mul_le_mul_right _ hby
  have hbi : (i.bytes : Int) * (n : Int) ≤ 281474976710656 := by
    rw [h4, ← Int.natCast_mul]; omega
  have hrun := run_make (P := P) w t e i z E.under h1 h2 kl kc n n (by omega) (by omega) hbi (by omega)
  subst hL
  subst hC
  unfold Oper.wp
  simp only [execOp, hop, hl, hc, hrun, Result.andThen_ok, Sem.run_bind, Sem.run_pure]
  simp only [Int.toNat_natCast, h3]
  refine hK _ _ (h _ ?_ (hb.alloc hB _))
  unfold Row
  rw [heap_alloc_new]
  congr 2
  rw [← Array.toList_inj]
  have hlen : z.cells.toList.length = m := by rw [Array.length_toList]; exact E.cells
  have hz : z.cells = z.cells.toList.toArray := by simp
  have hm := made_cells z.cells.toList (by rw [hlen]; exact E.pos) n
  rw [hlen] at hm
  rw [List.toList_toArray, ← hm]
/-- A struct stored into a row. -/
theorem wpList_storeW {P : Program} {w : World} {ops : Array Oper} {rest : List Oper} {o : Oper} {a : Act} {Q : Exit → Act → World → Prop} (hgd : o.guard = none) (t : TypeId) (x y : Operand) (ho : o.op = .store t x y)
    (g off : Nat) (t' : TypeId) (cur cs new : List Value) (hnew : cur.take off ++ cs ++ cur.drop (off + cs.length) = new) (hx : a.eval x = .pointer (some ⟨g, off, none⟩)) (hy : a.eval y = .agg cs.toArray) (hr : Row w g t' cur) (hi : (P.info? t).map (·.size) = some cs.length)
    (hfit : off + cs.length ≤ cur.length) (h1 : ∀ u ∈ cs, u.oneCell' = true) (w0 : World) (B : Nat) (hb : Below B w0 w) (hB : B ≤ g)
    (h : ∀ w', Row w' g t' new → Below B w0 w' → (∀ k ty l, k ≠ g → Row w k ty l → Row w' k ty l) → wpList P ops Q rest (a.put o.dst undef) w') : wpList P ops Q (o :: rest) a w := by
  subst hnew
  have hst := run_storeCells_at P g off t' cs 0 cur.toArray w hr (by simpa using hfit) h1
  have hrun : (storeVar t ⟨g, off, none⟩ (.agg cs.toArray)).run P w = .ok () (w.setRow g (cur.take off ++ cs ++ cur.drop (off + cs.length)).toArray) := by
    cases hq : P.info? t with
    | none => simp [hq] at hi
    | some i =>
      have hs : cs.length = i.size := by simp [hq] at hi; omega
      have hst2 : (storeCells ⟨g, off, none⟩ cs).run P w = .ok () (w.setRow g (cur.take off ++ cs ++ cur.drop (off + cs.length)).toArray) := by simpa using hst
      simp [storeVar, sizeOf, typeInfo, hq, Value.cells, hs]
      rw [← hs]
      simpa using hst2
  refine wpList_plain hgd fun K hK => ?_
  unfold Oper.wp execOp
  simp only [ho, hx, hy, Instr.storeAt, Instr.sureAddr, Sem.run_bind, Sem.run_pure, Result.andThen_ok, hrun]
  refine hK _ _ (h _ (setRow_heap w g cur.toArray _ t' (0, 0) hr) (below_setRow hb hB _) ?_)
  intro k ty l hk hrk
  exact (setRow_other w g k _ hk).trans hrk
section

variable {P : Program} {o : Oper} {ρ : Operand → Value} {w : World} {R : Value → World → Prop}
/-- A variable of a struct's type laid. -/
theorem gives_alloc {t : TypeId} {z : Value} {i : TypeInfo} (hi : P.info? t = some i) (hz : i.zero = some z) (ho : o.op = .alloc t) (hR : R (.pointer (some ⟨w.heap.size, 0, none⟩)) (w.alloc (.cells z.cells t))) : Gives P o ρ w R := by
  refine gives_of (v := .pointer (some ⟨w.heap.size, 0, none⟩)) (w' := w.alloc (.cells z.cells t)) ?_ hR
  have hz2 : (zeroValue t).run P w = .ok z w := by simp [zeroValue, typeInfo, hi, hz]
  unfold execOp
  simp only [ho, Instr.alloc, newVar, newRow, Sem.run_bind, Sem.run_pure, hz2, Result.andThen_ok, run_newObj]
  rfl
/-- The whole of a struct stored. -/
theorem gives_store_row {t t' : TypeId} {x y : Operand} {g : Nat} {old cs : List Value} (ho : o.op = .store t x y) (hx : ρ x = .pointer (some ⟨g, 0, none⟩)) (hy : ρ y = .agg cs.toArray) (hr : Row w g t' old)
    (hi : (P.info? t).map (·.size) = some cs.length) (hl : old.length = cs.length) (h1 : ∀ u ∈ cs, u.oneCell' = true) (hR : R undef (w.setRow g cs.toArray)) : Gives P o ρ w R := by
  have hrun := run_storeVar_row (P := P) w g t' t old.toArray cs.toArray hr (by simpa using hi) (by simp [hl]) (by simpa using h1)
  have h : (execOp ρ o).run P w = .ok .skip (w.setRow g cs.toArray) := by
    unfold execOp
    simp only [ho, hx, hy, Instr.storeAt, Instr.sureAddr, Sem.run_bind, Sem.run_pure, Result.andThen_ok, hrun]
  unfold Gives
  rw [h]
  exact hR
end
theorem rowAll_set {w : World} {g : Nat} {t : TypeId} {old cs : List Value} (h : Row w g t old) : Row (w.setRow g cs.toArray) g t cs := setRow_heap w g old.toArray cs.toArray t (0, 0) h
theorem rowAll_far {w : World} {g k : Nat} {t : TypeId} {l : List Value} {cs : Array Value} (hk : k ≠ g) (h : Row w k t l) : Row (w.setRow g cs) k t l := (setRow_other w g k cs hk).trans h
/-- A row made later lasts where block g alone changes. -/
theorem own_past {w w' : World} {base s n g : Nat} {e : TypeId} {v : Value} {xs : List Value} (h : w.ownsRow base e s v n xs) (hg : w.grownBy w' (some g)) (hlt : g < base) : w'.ownsRow base e s v n xs := by
  refine h.kept hg ?_
  rcases h.2 with ⟨rfl, _⟩ | ⟨g2, cap2, cur2, rfl, hge, _⟩
  · exact .inl rfl
  · refine .inr ?_
    simp only [Value.ownBlock, ne_eq, Option.some.injEq]
    omega
theorem grown_set (w : World) (g i : Nat) (v : Value) : w.grownBy (w.setCell ⟨g, i, none⟩ v) (some g) :=
  ⟨rfl, rfl, rfl, by rw [World.size_setCell]; exact Nat.le_refl _, fun k _ hne => Below.heap_setCell w _ v k (fun h => hne (by rw [h]))⟩
theorem isR_row {α : Type} {f : α → List Value} {l : List α} {w : World} {g : Nat} {t : TypeId} {m : Nat} (h : Row w g t (l.flatMap f)) (hl : l.length = m) (hm : m ≤ 1000000) : IsR f l (.slice (some ⟨g, 0, none⟩) m m) w := by
  refine ⟨some ⟨g, 0, none⟩, m, by rw [hl], fun h => by (cases h), by omega, by unfold maxLen; omega, ?_⟩
  have := h.lies 0
  rwa [List.drop_zero] at this
theorem flat_drop {α : Type} {f : α → List Value} {m : Nat} (hf : ∀ x, (f x).length = m) : ∀ (l : List α) (k : Nat), (l.drop k).flatMap f = (l.flatMap f).drop (k * m)
  | [], k => by simp
  | x :: l, 0 => by simp
  | x :: l, k + 1 => by
    rw [List.drop_succ_cons, List.flatMap_cons, flat_drop hf l k, Nat.succ_mul, List.drop_append, hf, show k * m + m - m = k * m by omega, List.drop_of_length_le (l := f x) (by rw [hf]; omega), List.nil_append]
theorem ElemW.size_ {P : Program} {t e : TypeId} {bytes m : Nat} {z : Value} (E : ElemW P t e bytes m z) (w : World) : (sizeOf e).run P w = .ok m w := by
  obtain ⟨i, h1, _, h3, _⟩ := E.info
  simp [sizeOf, typeInfo, h1, h3]
/-- x[k:] of a slice of structs, as one equation. -/
theorem fromR_named {P : Program} {α : Type} {f : α → List Value} {w : World} {t e : TypeId} {bytes m : Nat} {z : Value} (E : ElemW P t e bytes m z) (hf : ∀ x, (f x).length = m) {A : Option Addr} {n c k : Nat} {l : List α} (hk : k ≤ n) (hI : IsR f l (.slice A n c) w) :
    ∃ v, (∀ W, (Instr.sliceAt t (.slice A n c) (some (.int .i64 (k : Int))) none none).run P W = .ok v W) ∧ IsR f (l.drop k) v w := by
  obtain ⟨hxs, hA, hnc, hcm, hl⟩ := hI.parts
  have ht := E.under
  have he : P.elem t = e := by simp [Program.elem, ht]
  refine ⟨.slice (if c = k then A else A.map (·.add (k * m))) (n - k) (c - k), fun W => ?_, if c = k then A else A.map (·.add (k * m)), c - k, ?_, ?_, ?_, by omega, ?_⟩
  · rw [run_sliceAt_slice W t _ _ _ _ (by rw [he]; exact ht), run_slice_l W t A n c (by rw [he]; exact ht) .i64 (k : Int) (by omega) (by omega), he, E.size_]
    simp [sliced]
  · rw [List.length_drop, hxs]
  · intro hB
    have : A = none := by
      split at hB
      · exact hB
      · cases A with
        | none => rfl
        | some ad => simp at hB
    have := hA this
    rw [List.length_drop, hxs]
    omega
  · rw [List.length_drop, hxs]; omega
  · rw [flat_drop hf]
    have hp := E.pos
    have h1 := hl.drop (k := k * m) (cap := c * m) (by rw [flat_len hf, hxs]; exact Nat.mul_le_mul_right _ hnc)
    by_cases hc : c = k
    · subst hc; simpa using h1
    · rw [if_neg (fun h => hc (Nat.eq_of_mul_eq_mul_right hp h))] at h1
      rw [if_neg hc]; exact h1
/-- Old memory as it was; whatever block holds just these cells holds them on, and a block of their type stays one: for a region that lays a block and stores them. -/
def Keep (B : Nat) (T : TypeId) (cs : List Value) (w w' : World) : Prop := Below B w w' ∧ (∀ h, Row w h T cs → Row w' h T cs) ∧ (∀ h old, Row w h T old → old.length = cs.length → ∃ old', old'.length = cs.length ∧ Row w' h T old')
theorem keep_later (B : Nat) (T : TypeId) (cs : List Value) : Later (Keep B T cs) where
  refl := fun _ => ⟨Below.refl _ _, fun _ h => h, fun _ old h hl => ⟨old, hl, h⟩⟩
  trans := fun h1 h2 => ⟨h1.1.trans h2.1, fun k h => h2.2.1 k (h1.2.1 k h), fun k old h hl => (h1.2.2 k old h hl).elim fun o h => h2.2.2 k o h.2 h.1⟩
  draw := fun _ => ⟨⟨rfl, rfl, rfl, Nat.le_refl _, fun _ _ => rfl⟩, fun _ h => h, fun _ old h hl => ⟨old, hl, h⟩⟩
theorem Keep.of {B : Nat} {T : TypeId} {cs : List Value} {w w' : World} (hB : B ≤ w.heap.size) (h : Below w.heap.size w w') : Keep B T cs w w' :=
  ⟨h.mono hB, fun _ hr => hr.below h hr.lt, fun _ old hr hl => ⟨old, hl, hr.below h hr.lt⟩⟩
theorem Keep.self {B : Nat} {T : TypeId} {cs : List Value} (w : World) : Keep B T cs w w := (keep_later B T cs).refl w
theorem Keep.alloc {B : Nat} {T : TypeId} {cs : List Value} {w : World} (hB : B ≤ w.heap.size) (o : Obj) : Keep B T cs w (w.alloc o) := Keep.of hB ((Below.refl _ _).alloc (Nat.le_refl _) _)
theorem Keep.store {B : Nat} {T : TypeId} {cs old : List Value} {w : World} {g : Nat} (hB : B ≤ g) (hr : Row w g T old) : Keep B T cs w (w.setRow g cs.toArray) :=
  ⟨below_setRow (Below.refl _ _) hB _, fun k h => if hk : k = g then by subst hk; exact rowAll_set hr else rowAll_far hk h,
    fun k o h hl => if hk : k = g then by subst hk; exact ⟨cs, rfl, rowAll_set hr⟩ else ⟨o, hl, rowAll_far hk h⟩⟩
/-- The pointer to a variable that such a region lays. -/
def FactR.laid (B : Nat) (T : TypeId) (cs : List Value) : FactR (Keep B T cs) := FactR.of (fun v w => ∃ h old, v = .pointer (some ⟨h, 0, none⟩) ∧ B ≤ h ∧ old.length = cs.length ∧ Row w h T old)
  fun _ _ _ ⟨h, old, h1, h2, h3, h4⟩ hk => (hk.2.2 h old h4 h3).elim fun o ho => ⟨h, o, h1, h2, ho.1, ho.2⟩
/-- Operation p's pointer has what it is to have. -/
def FactR.stored (B : Nat) (T : TypeId) (cs : List Value) (p : Nat) : FactR (Keep B T cs) := ⟨fun vs _ w => ∃ h, vs p = .pointer (some ⟨h, 0, none⟩) ∧ B ≤ h ∧ Row w h T cs, [p],
  fun _ _ _ _ ⟨h, h1, h2, h3⟩ hk => ⟨h, h1, h2, hk.2.1 h h3⟩, fun _ _ _ _ hp ⟨h, h1, h2, h3⟩ => ⟨h, by rw [← hp p (by simp)]; exact h1, h2, h3⟩⟩
end Go.Proofs.YtblpkmmhmdpkjaaGreatDoor

/- Numbers that rise, or fall (layer 9), as plain mathematics. -/





namespace Go.Proofs.YtblpkmmhmdpkjaaGreatDoor

/-- By how much, whether it falls, whether that is a difference. -/
def gdiff (a b : Int) : Nat × Bool × Bool :=
  if b < a then (if 9223372036854775808 ≤ a - b then (0, false, false) else ((a - b).toNat, true, true))
  else if 9223372036854775808 ≤ b - a then (0, false, false) else ((b - a).toNat, false, true)
def gstep (a : Int) (u : Nat) (f : Bool) : Int × Bool :=
  if 9223372036854775808 ≤ (u : Int) then (0, false)
  else if f = true then (if a < -9223372036854775808 + (u : Int) then (0, false) else (a - u, true))
  else if 9223372036854775807 - (u : Int) < a then (0, false) else (a + u, true)
theorem gdiff_cases (a b : Int) : (gdiff a b = (0, false, false) ∧ (9223372036854775808 ≤ a - b ∨ 9223372036854775808 ≤ b - a)) ∨
    (b < a ∧ a - b < 9223372036854775808 ∧ gdiff a b = ((a - b).toNat, true, true)) ∨ (a ≤ b ∧ b - a < 9223372036854775808 ∧ gdiff a b = ((b - a).toNat, false, true)) := by
  unfold gdiff
  by_cases h : b < a
  · rw [if_pos h]
    by_cases h2 : 9223372036854775808 ≤ a - b
    · rw [if_pos h2]; exact .inl ⟨rfl, .inl h2⟩
    · rw [if_neg h2]; exact .inr (.inl ⟨h, by omega, rfl⟩)
  · rw [if_neg h]
    by_cases h2 : 9223372036854775808 ≤ b - a
    · rw [if_pos h2]; exact .inl ⟨rfl, .inr h2⟩
    · rw [if_neg h2]; exact .inr (.inr ⟨by omega, by omega, rfl⟩)
theorem gdiff_lt (a b : Int) : ((gdiff a b).1 : Int) < 9223372036854775808 := by
  rcases gdiff_cases a b with ⟨h, _⟩ | ⟨h1, h2, h⟩ | ⟨h1, h2, h⟩ <;> rw [h] <;> dsimp only <;> omega
/-- P9.1: a difference leads from the one to the other. -/
theorem gstep_gdiff {a b : Int} (hb : inInt b) (h : (gdiff a b).2.2 = true) : gstep a (gdiff a b).1 (gdiff a b).2.1 = (b, true) := by
  unfold inInt at hb
  rcases gdiff_cases a b with ⟨h3, _⟩ | ⟨h1, h2, h3⟩ | ⟨h1, h2, h3⟩
  · rw [h3] at h; cases h
  · rw [h3]
    dsimp only
    unfold gstep
    have e : (((a - b).toNat : Nat) : Int) = a - b := by omega
    rw [e, if_neg (by omega), if_pos rfl, if_neg (by omega)]
    congr 1
    omega
  · rw [h3]
    dsimp only
    unfold gstep
    have e : (((b - a).toNat : Nat) : Int) = b - a := by omega
    rw [e, if_neg (by omega), if_neg (by decide), if_neg (by omega)]
    congr 1
    omega
theorem gdiff_self (a : Int) : gdiff a a = (0, false, true) := by unfold gdiff; rw [if_neg (by omega), if_neg (by omega)]; simp
/-- A size, of two numbers one behind the other, if they fall, or rise, as is said. -/
def gone (f : Bool) (a b : Int) : Option Nat := if (gdiff a b).2.2 = true ∧ ((gdiff a b).1 = 0 ∨ (gdiff a b).2.1 = f) then some (gdiff a b).1 else none
theorem gone_yes {f : Bool} {a b : Int} (h : (gdiff a b).2.2 = true) (h2 : (gdiff a b).1 = 0 ∨ (gdiff a b).2.1 = f) : gone f a b = some (gdiff a b).1 := if_pos ⟨h, h2⟩
theorem gone_not {f : Bool} {a b : Int} (h : ¬ ((gdiff a b).2.2 = true ∧ ((gdiff a b).1 = 0 ∨ (gdiff a b).2.1 = f))) : gone f a b = none := if_neg h
theorem gone_lt {f : Bool} {a b : Int} {u : Nat} (h : gone f a b = some u) : (u : Int) < 9223372036854775808 := by
  unfold gone at h
  split at h
  · injection h with h; rw [← h]; exact gdiff_lt a b
  · cases h
theorem gone_step {f : Bool} {a b : Int} {u : Nat} (ha : inInt a) (hb : inInt b) (h : gone f a b = some u) : gstep a u f = (b, true) := by
  unfold gone at h
  split at h
  · rename_i hh
    injection h with h
    subst h
    have hs := gstep_gdiff hb hh.1
    rcases hh.2 with h0 | h0
    · rcases gdiff_cases a b with ⟨k, _⟩ | ⟨k1, k2, k⟩ | ⟨k1, k2, k⟩
      · rw [k] at hh; cases hh.1
      · rw [k] at h0; dsimp only at h0; omega
      · rw [k] at h0
        dsimp only at h0
        have e : a = b := by omega
        subst e
        rw [gdiff_self]
        unfold inInt at ha
        unfold gstep
        rw [if_neg (by decide)]
        dsimp only
        cases f
        · rw [if_neg (by decide), if_neg (by omega)]; simp
        · rw [if_pos rfl, if_neg (by omega)]; simp
    · rw [h0] at hs; exact hs
  · cases h
def gat (l : List Int) (f : Bool) (i : Nat) : Option Nat := gone f (l.getD i 0) (l.getD (i + 1) 0)
/-- The sizes of numbers. -/
def gsizes (l : List Int) (f : Bool) (k : Nat) : Option (List Nat) := omap (gat l f) (List.range k)
theorem gsizes_none {l : List Int} {f : Bool} {k n : Nat} (hk : k < n) (h : gat l f k = none) : gsizes l f n = none := omap_none (List.mem_range.2 hk) h
theorem gsizes_len {l : List Int} {f : Bool} {k : Nat} {us : List Nat} (h : gsizes l f k = some us) : us.length = k := by rw [omap_len h, List.length_range]
theorem gsizes_lt {l : List Int} {f : Bool} {k : Nat} {us : List Nat} (h : gsizes l f k = some us) : ∀ u ∈ us, (u : Int) < 9223372036854775808 := by
  intro u hu
  obtain ⟨i, _, hi⟩ := omap_mem h hu
  exact gone_lt hi
theorem gsizes_64 {l : List Int} {f : Bool} {k : Nat} {us : List Nat} (h : gsizes l f k = some us) : ∀ u ∈ us, u < 2 ^ 64 := by
  intro u hu
  have := gsizes_lt h u hu
  show u < 18446744073709551616
  omega
def gfalls (l : List Int) : Bool := decide (l.getD 1 0 < l.getD 0 0)
/-- Are all sizes the same? -/
def gall (us : List Nat) : Bool := us.all fun u => u == us.headD 0
def gwide (us : List Nat) : Nat := (wclosest (max 2 (wmost us) : Nat)).toNat
def gcode (us : List Nat) : Nat := (wcode (gwide us : Int)).toNat
/-- A code and a width that stand for one another, for so many bits. -/
theorem gwide_code : ∀ n : Fin 65, 2 ≤ n.val → 2 ≤ wclosest (n.val : Int) ∧ wclosest (n.val : Int) ≤ 64 ∧ 1 ≤ wcode (wclosest (n.val : Int)) ∧ wcode (wclosest (n.val : Int)) ≤ 31 ∧ wof (wcode (wclosest (n.val : Int))) = wclosest (n.val : Int) ∧ (n.val : Int) ≤ wclosest (n.val : Int) := by decide +kernel
theorem gwide_int {us : List Nat} (h : ∀ u ∈ us, u < 2 ^ 64) : wclosest ((max 2 (wmost us) : Nat) : Int) = (gwide us : Int) ∧ wcode (gwide us : Int) = (gcode us : Int) ∧ wof (gcode us : Int) = (gwide us : Int) ∧ 2 ≤ gwide us ∧ gwide us ≤ 64 ∧ 1 ≤ gcode us ∧ gcode us ≤ 31 ∧ wmost us ≤ gwide us := by
  have hm := wmost_64 h
  have h1 := gwide_code ⟨max 2 (wmost us), by omega⟩ (Nat.le_max_left _ _)
  dsimp only at h1
  have e1 : wclosest ((max 2 (wmost us) : Nat) : Int) = (gwide us : Int) := by unfold gwide; omega
  rw [e1] at h1
  have e2 : wcode (gwide us : Int) = (gcode us : Int) := by unfold gcode; omega
  rw [e2] at h1
  exact ⟨e1, e2, h1.2.2.2.2.1, by omega, by omega, by omega, by omega, by omega⟩
theorem gwide_room {us : List Nat} (h : ∀ u ∈ us, u < 2 ^ 64) : ∀ u ∈ us, u < 2 ^ gwide us := by
  obtain ⟨_, _, _, _, h1, _, _, h2⟩ := gwide_int h
  intro u hu
  have h3 := (wbits_iff (wtop_lt h) h1).1 (by rw [wtop_bits h]; exact h2)
  exact Nat.lt_of_le_of_lt (wtop_mem hu) h3
/-- The first difference, as a number with its sign. -/
def gfirst (l : List Int) (us : List Nat) : Int := if gfalls l = true then -(us.headD 0 : Int) else (us.headD 0 : Int)
def gtail (us : List Nat) : List UInt8 := if gall us = true then [] else bpack us.tail (gwide us.tail)
def gnum (us : List Nat) : Nat := if gall us = true then 0 else gcode us.tail
def glay (l : List Int) (s : Bool) (us : List Nat) : List UInt8 := dheadN 3 (gnum us) l.length ++ vput (vint (l.headD 0) s) ++ vput (vint (gfirst l us) true) ++ gtail us
/-- What Put answers. -/
def gputE (l : List Int) (s : Bool) : List UInt8 × Int :=
  if dplain l s = none ∨ l.length < 2 ∨ 512 < l.length then ([], 1)
  else match gsizes l (gfalls l) (l.length - 1) with | none => ([], 1) | some us => (glay l s us, 0)
theorem gputE_no {l : List Int} {s : Bool} (h : dplain l s = none ∨ l.length < 2 ∨ 512 < l.length) : gputE l s = ([], 1) := if_pos h
theorem gputE_none {l : List Int} {s : Bool} (h : gsizes l (gfalls l) (l.length - 1) = none) : gputE l s = ([], 1) := by unfold gputE; split <;> simp [h]
theorem gputE_some {l : List Int} {s : Bool} {us : List Nat} (h1 : dplain l s ≠ none) (h2 : 2 ≤ l.length) (h3 : l.length ≤ 512) (h : gsizes l (gfalls l) (l.length - 1) = some us) : gputE l s = (glay l s us, 0) := by
  unfold gputE
  rw [if_neg (by rintro (h | h | h) <;> first | exact h1 h | omega), h]
/-- The next number. -/
def gnext (s f : Bool) (x : Int) (u : Nat) : Option Int := if (gstep x u f).2 = true ∧ (s = true ∨ 0 ≤ (gstep x u f).1) then some (gstep x u f).1 else none
def gwalk (s f : Bool) : Int → List Nat → Option (List Int)
  | _, [] => some []
  | x, u :: us => match gnext s f x u with | none => none | some y => (gwalk s f y us).map (y :: ·)
def glast : Int → List Int → Int
  | x, [] => x
  | _, y :: ys => glast y ys
theorem glast_snoc (x : Int) (ys : List Int) (y : Int) : glast x (ys ++ [y]) = y := by
  induction ys generalizing x with
  | nil => rfl
  | cons z zs ih => exact ih z
theorem gwalk_snoc (s f : Bool) (x : Int) (us : List Nat) (u : Nat) : gwalk s f x (us ++ [u]) = match gwalk s f x us with | none => none | some ys => match gnext s f (glast x ys) u with | none => none | some y => some (ys ++ [y]) := by
  induction us generalizing x with
  | nil =>
    simp only [List.nil_append, gwalk, glast]
    cases gnext s f x u <;> rfl
  | cons v us ih =>
    simp only [List.cons_append, gwalk]
    cases gnext s f x v with
    | none => rfl
    | some y =>
      dsimp only
      rw [ih]
      cases gwalk s f y us with
      | none => rfl
      | some ys =>
        simp only [Option.map_some, glast]
        cases gnext s f (glast y ys) u <;> rfl
/-- What Take answers. -/
def gbad : List Int × List UInt8 × Int := ([], [], 2)
def gend (s f : Bool) (x : Int) (us : List Nat) (q : List UInt8) : List Int × List UInt8 × Int := match gwalk s f x us with | none => gbad | some ys => (x :: ys, q, 0)
def gmore (s f : Bool) (x : Int) (u : Nat) (c m : Int) (r : List UInt8) : List Int × List UInt8 × Int :=
  if 0 < c then match unpacksAny r (m - 2) (wof c) with | (us, q, e) => if e ≠ 0 then gbad else gend s f x (u :: us) q
  else gend s f x (List.replicate (m - 1).toNat u) r
def gbody (s : Bool) (c m : Int) (r : List UInt8) : List Int × List UInt8 × Int :=
  match vtint r s with
  | none => gbad
  | some (x, r1) => match vtint r1 true with
    | none => gbad
    | some (d, r2) => if (gdiff 0 d).2.2 = true then gmore s (gdiff 0 d).2.1 x (gdiff 0 d).1 c m r2 else gbad
def gtakeE (l : List UInt8) (s : Bool) : List Int × List UInt8 × Int :=
  if (dlook l).2.2.2.2 ≠ 0 ∨ (dlook l).1 ≠ 3 ∨ (dlook l).2.2.1 < 2 then gbad else gbody s (dlook l).2.1 (dlook l).2.2.1 (dlook l).2.2.2.1

theorem vtint_put {x : Int} {s : Bool} (hx : inInt x) (h : s = true ∨ 0 ≤ x) (r : List UInt8) : vtint (vput (vint x s) ++ r) s = some (x, r) := by
  unfold inInt at hx
  cases s with
  | true =>
    have hb := vzig_bd hx.1 hx.2
    have e : vint x true = (vzig x).toNat := rfl
    rw [e, vtint_true (vtake_put (by omega) r), Int.toNat_of_nonneg hb.1, vzag_vzig]
  | false =>
    have h0 : 0 ≤ x := h.elim (fun h => nomatch h) id
    have e : vint x false = (x % 18446744073709551616).toNat := rfl
    have e2 : x % 18446744073709551616 = x := by omega
    rw [e, e2, vtint_small (vtake_put (by omega) r) (by omega), Int.toNat_of_nonneg h0]
theorem gnext_of {s f : Bool} {a b : Int} {u : Nat} (ha : inInt a) (hb : inInt b) (hs : s = true ∨ 0 ≤ b) (h : gone f a b = some u) : gnext s f a u = some b := by
  unfold gnext
  rw [gone_step ha hb h]
  exact if_pos ⟨rfl, hs⟩
/-- Sizes lead from each number to the next one. -/
theorem gwalk_sizes {s f : Bool} {l : List Int} (hl : ∀ x ∈ l, inInt x ∧ (s = true ∨ 0 ≤ x)) : ∀ (k : Nat) (us : List Nat), k + 1 ≤ l.length → gsizes l f k = some us → gwalk s f (l.getD 0 0) us = some ((l.drop 1).take k) ∧ glast (l.getD 0 0) ((l.drop 1).take k) = l.getD k 0
  | 0, us, _, h => by simp [gsizes, omap] at h; subst h; simp [gwalk, glast]
  | k + 1, us, hk, h => by
    unfold gsizes at h
    rw [List.range_succ, omap_snoc] at h
    cases hg : omap (gat l f) (List.range k) with
    | none => rw [hg] at h; cases h
    | some vs =>
      rw [hg] at h
      dsimp only at h
      cases hu : gat l f k with
      | none => rw [hu] at h; cases h
      | some u =>
        rw [hu] at h
        injection h with h
        subst h
        obtain ⟨h1, h2⟩ := gwalk_sizes hl k vs (by omega) hg
        have hd : (l.drop 1).take (k + 1) = (l.drop 1).take k ++ [l.getD (k + 1) 0] := by
          rw [List.take_succ_eq_append_getElem (by rw [List.length_drop]; omega), List.getElem_drop]
          congr 2
          rw [List.getD_eq_getElem?_getD, List.getElem?_eq_getElem (show k + 1 < l.length by omega)]
          simp [Nat.add_comm]
        have hm : ∀ i, i < l.length → inInt (l.getD i 0) ∧ (s = true ∨ 0 ≤ l.getD i 0) := by
          intro i hi
          rw [List.getD_eq_getElem?_getD, List.getElem?_eq_getElem hi]
          exact hl _ (List.getElem_mem hi)
        refine ⟨?_, by rw [hd, glast_snoc]⟩
        rw [gwalk_snoc, h1, hd]
        dsimp only
        rw [h2, gnext_of (hm k (by omega)).1 (hm (k + 1) (by omega)).1 (hm (k + 1) (by omega)).2 hu]
theorem gall_same {us : List Nat} (h : gall us = true) : us = List.replicate us.length (us.headD 0) := by
  unfold gall at h
  rw [List.eq_replicate_iff]
  refine ⟨rfl, fun u hu => ?_⟩
  have := List.all_eq_true.1 h u hu
  simpa using this
/-- What the first size says: how much, and whether it falls. -/
theorem gfirst_diff {l : List Int} {us : List Nat} (h2 : 2 ≤ l.length) (h : gsizes l (gfalls l) (l.length - 1) = some us) : gdiff 0 (gfirst l us) = (us.headD 0, gfalls l, true) ∧ inInt (gfirst l us) := by
  obtain ⟨k, hk⟩ : ∃ k, l.length - 1 = k + 1 := ⟨l.length - 2, by omega⟩
  have h0 : gat l (gfalls l) 0 = some (us.headD 0) := by
    unfold gsizes at h
    rw [hk, List.range_succ_eq_map, omap] at h
    cases hz : gat l (gfalls l) 0 with
    | none => rw [hz] at h; cases h
    | some u =>
      rw [hz] at h
      dsimp only at h
      cases hr : omap (gat l (gfalls l)) ((List.range k).map Nat.succ) with
      | none => rw [hr] at h; cases h
      | some vs => rw [hr] at h; injection h with h; subst h; rfl
  have hlt := gone_lt h0
  have hf : gfalls l = true → 0 < us.headD 0 := by
    intro hf
    have hba : l.getD 1 0 < l.getD 0 0 := of_decide_eq_true hf
    unfold gat gone at h0
    split at h0
    · injection h0 with h0
      rename_i hh
      rcases gdiff_cases (l.getD 0 0) (l.getD (0 + 1) 0) with ⟨k, _⟩ | ⟨k1, k2, k⟩ | ⟨k1, k2, k⟩
      · rw [k] at hh; cases hh.1
      · rw [k] at h0; dsimp only at h0; omega
      · rw [Nat.zero_add] at k1; omega
    · cases h0
  unfold gfirst inInt
  generalize us.headD 0 = u at *
  cases hg : gfalls l with
  | true =>
    have := hf hg
    rw [if_pos rfl]
    refine ⟨?_, by omega, by omega⟩
    unfold gdiff
    rw [if_pos (by omega), if_neg (by omega)]
    congr 1
    omega
  | false =>
    rw [if_neg (by decide)]
    refine ⟨?_, by omega, by omega⟩
    unfold gdiff
    rw [if_neg (by omega), if_neg (by omega)]
    congr 1
/-- P9.4. -/
theorem gtake_back {l : List Int} {s : Bool} {us : List Nat} (hl : ∀ x ∈ l, inInt x ∧ (s = true ∨ 0 ≤ x)) (h2 : 2 ≤ l.length) (h5 : l.length ≤ 512) (h : gsizes l (gfalls l) (l.length - 1) = some us) (b : List UInt8) :
    gtakeE (glay l s us ++ b) s = (l, b, 0) := by
  obtain ⟨hd, hi⟩ := gfirst_diff h2 h
  have hul := gsizes_len h
  have h64 := gsizes_64 h
  have h64t : ∀ u ∈ us.tail, u < 2 ^ 64 := fun u hu => h64 u (List.mem_of_mem_tail hu)
  obtain ⟨hw, _⟩ := gwalk_sizes hl (l.length - 1) us (by omega) h
  obtain ⟨x0, l', rfl⟩ : ∃ x0 l', l = x0 :: l' := by cases l with | nil => simp at h2 | cons x0 l' => exact ⟨x0, l', rfl⟩
  have hw' : gwalk s (gfalls (x0 :: l')) x0 us = some l' := by
    rw [List.length_cons, Nat.add_sub_cancel] at hw
    simpa using hw
  have hx := hl x0 List.mem_cons_self
  have hcode : gnum us ≤ 31 := by
    unfold gnum
    split
    · omega
    · exact (gwide_int h64t).2.2.2.2.2.2.1
  have hlook : dlook (glay (x0 :: l') s us ++ b) = (3, (gnum us : Int), ((x0 :: l').length : Int), vput (vint x0 s) ++ (vput (vint (gfirst (x0 :: l') us) true) ++ (gtail us ++ b)), 0) := by
    unfold glay
    simp only [List.append_assoc]
    exact dlook_head (k := 3) (by omega) hcode (by omega) h5 _
  unfold gtakeE
  rw [hlook]
  dsimp only
  rw [if_neg (by omega)]
  unfold gbody
  rw [vtint_put hx.1 hx.2]
  dsimp only
  rw [vtint_put hi (.inl rfl)]
  dsimp only
  rw [hd]
  dsimp only
  rw [if_pos rfl]
  unfold gmore
  by_cases ha : gall us = true
  · have e1 : gnum us = 0 := by unfold gnum; rw [if_pos ha]
    have e2 : gtail us = [] := by unfold gtail; rw [if_pos ha]
    have e3 : List.replicate (((x0 :: l').length : Int) - 1).toNat (us.headD 0) = us := by
      rw [show (((x0 :: l').length : Int) - 1).toNat = us.length by omega]
      exact (gall_same ha).symm
    rw [e1, e2, if_neg (by omega), e3]
    unfold gend
    rw [hw']
    rfl
  · have e1 : gnum us = gcode us.tail := by unfold gnum; rw [if_neg ha]
    have e2 : gtail us = bpack us.tail (gwide us.tail) := by unfold gtail; rw [if_neg ha]
    obtain ⟨_, _, g3, g4, g5, g6, g7, _⟩ := gwide_int h64t
    have hut : (us.tail).length = (x0 :: l').length - 2 := by rw [List.length_tail]; omega
    have e4 : ((x0 :: l').length : Int) - 2 = ((us.tail).length : Int) := by omega
    have e5 : us = us.headD 0 :: us.tail := by cases us with | nil => simp at hul h2; omega | cons a t => rfl
    rw [e1, e2, if_pos (by omega), g3, e4, unpacksAny_in _ _ _ (by omega) g5, unpacks_back (gwide_room h64t)]
    dsimp only
    rw [if_neg (by decide), ← e5]
    unfold gend
    rw [hw']
end Go.Proofs.YtblpkmmhmdpkjaaGreatDoor

/- Contracts of layer 9's reference: Diff, Step. -/





namespace Go.Proofs.YtblpkmmhmdpkjaaGreatDoor

open Go.RowKit

/-- What Diff answers. -/
def RetD (p : Nat × Bool × Bool) (e : Ending) : Prop := e = .returned (.tuple #[.int .u64 (p.1 : Int), .bool p.2.1, .bool p.2.2])
/-- What Step answers. -/
def RetG (p : Int × Bool) (e : Ending) : Prop := e = .returned (.tuple #[.int .i64 p.1, .bool p.2])
end Go.Proofs.YtblpkmmhmdpkjaaGreatDoor

/- The contract of layer 9's reference's Put. -/







namespace Go.Proofs.YtblpkmmhmdpkjaaGreatDoor

open Go.RowKit

def Low63 (u : Nat) : Prop := ∃ b : Int, b = 9223372036854775808 ∧ (u : Int) < b
theorem Low63.lt {u : Nat} (h : Low63 u) : (u : Int) < 9223372036854775808 := by obtain ⟨b, rfl, h⟩ := h; exact h
theorem vint_64 {x : Int} {s : Bool} (h : inInt x) : vint x s < 18446744073709551616 := by
  unfold inInt at h
  unfold vint
  split
  · have := vzig_bd h.1 h.2; omega
  · omega
end Go.Proofs.YtblpkmmhmdpkjaaGreatDoor

/- The contract of layer 9's reference's Take. -/



namespace Go.Proofs.YtblpkmmhmdpkjaaGreatDoor

open Go.RowKit

end Go.Proofs.YtblpkmmhmdpkjaaGreatDoor

/- delta's own contracts: between, step, isCount, Diff, Step; math/bits.Mul laid. -/











namespace Go.Proofs.YtblpkmmhmdpkjaaGreatDoor

open Go.RowKit

/-- A difference as the program holds it. -/
def dpair (p : Nat × Bool × Bool) : Nat × Bool := (p.1, p.2.1)
def dc (d : Nat × Bool) : List Value := [.int .u64 (d.1 : Int), .bool d.2]
theorem dc_len (d : Nat × Bool) : (dc d).length = 2 := rfl
theorem dc_one (d : Nat × Bool) : ∀ u ∈ dc d, u.oneCell' = true := by
  intro u hu
  unfold dc at hu
  simp at hu
  rcases hu with rfl | rfl <;> rfl
def dv (d : Nat × Bool) : Value := .agg (dc d).toArray
theorem Tryz.infoD : (Tryz.prog.info? 176).map (fun i => (i.zero, i.size, i.bytes)) = some (some (dv (0, false)), 2, 16) := by kernel_rfl
theorem elemD : ElemW Tryz.prog 169 176 16 2 (dv (0, false)) := by
  obtain ⟨i0, hi, hz0, hz1, hz2⟩ := info_parts Tryz.infoD
  exact ⟨Tryz.underlying169, rfl, by omega, i0, hi, hz0, hz1, hz2⟩
theorem sizeD : (Tryz.prog.info? 176).map (·.size) = some 2 := by
  obtain ⟨i0, hi, hz0, hz1, hz2⟩ := info_parts Tryz.infoD
  rw [hi, Option.map_some, hz1]
/-- The cells of a difference in a slice. -/
theorem cells2 {w : World} {ad : Addr} {k : Nat} {x : Nat × Bool} (h : ∀ i, i < 2 → w.cell? (ad.add (k * 2 + i)) = (dc x)[i]?) :
    w.cell? (ad.add (k * 2)) = some (.int .u64 (x.1 : Int)) ∧ w.cell? ⟨(ad.add (k * 2)).block, (ad.add (k * 2)).off + 1, none⟩ = some (.bool x.2) := by
  refine ⟨h 0 (by omega), ?_⟩
  have h1 := h 1 (by omega); rw [← add_add] at h1; exact h1
/-- What between answers. -/
def RetBt (p : Nat × Bool × Bool) (e : Ending) : Prop := e = .returned (.tuple #[dv (dpair p), .bool p.2.2])
theorem ret_pair {fn : Func} {p u : Tmp} (h : fn.results = #[.cell p 176, .tmp u]) (tmps : Array Value) (w : World) (g : Nat) (d : Nat × Bool) (b : Bool)
    (hp : tmps.getD p undef = .pointer (some ⟨g, 0, none⟩)) (hr : Row w g 176 (dc d)) (hu : tmps.getD u undef = .bool b) : (results fn tmps).run Tryz.prog w = .ok (.tuple #[dv d, .bool b]) w :=
  results_row_tmp h tmps w g 176 (dc d).toArray (0, 0) _ _ hp hr Tryz.underlying176 rfl sizeD hu
theorem row_under (w : World) (cs : List Value) (t : TypeId) (o : Obj) : Row ((w.alloc (.cells cs.toArray t)).alloc o) w.heap.size t cs := Row.alloc (heap_alloc_new w _) o
theorem below_two (w : World) (o o' : Obj) : Below w.heap.size w ((w.alloc o).alloc o') := ((Below.refl _ _).alloc (Nat.le_refl _) _).alloc (by simp) _
set_option maxHeartbeats 2000000 in
set_option maxRecDepth 100000 in
theorem between_any (a b : Int) (w : World) (ha : inInt a) (hb : inInt b) : Calls Tryz.prog 178 #[.int .i64 a, .int .i64 b] w fun e w' => RetBt (gdiff a b) e ∧ Below w.heap.size w w' := by
  unfold inInt at ha hb
  obtain ⟨S, hS⟩ : ∃ S : Nat, (S : Int) = IntKind.u64.wrap (b - a) := ⟨(IntKind.u64.wrap (b - a)).toNat, by rw [IntKind.wrap_u64]; omega⟩
  have hS2 : IntKind.u64.wrap (IntKind.u64.wrap b - IntKind.u64.wrap a) = (S : Int) := by rw [hS, IntKind.wrap_u64, IntKind.wrap_u64, IntKind.wrap_u64, IntKind.wrap_u64]; omega
  rw [IntKind.wrap_u64] at hS
  by_cases h : b < a
  · obtain ⟨D, hD⟩ : ∃ D : Nat, (D : Int) = a - b := ⟨(a - b).toNat, by omega⟩
    have hn : IntKind.u64.wrap (-(S : Int)) = (D : Int) := by rw [IntKind.wrap_u64]; omega
    have d1 : decide (b < a) = true := decide_eq_true h
    by_cases h2 : 9223372036854775808 ≤ (D : Int)
    · have hE : Hid (gdiff a b = (0, false, false)) := Lib.hid (by unfold gdiff; rw [if_pos h, if_pos (by omega)])
      have d2 : decide ((9223372036854775807 : Int) < (D : Int)) = true := decide_eq_true (by omega)
      clear hD ha hb hS h2
      go_enter Tryz.func178, Tryz.ntmps178
      go_wp2
      refine bodyPost_ret (ret_pair rfl _ _ _ (0, false) false rfl (row_under _ _ _ _) rfl) rfl ?_
      rw [hE.out]
      exact ⟨rfl, below_two _ _ _⟩
    · have hE : Hid (gdiff a b = (D, true, true)) := Lib.hid (by unfold gdiff; rw [if_pos h, if_neg (by omega)]; congr 1; omega)
      have d2 : decide ((9223372036854775807 : Int) < (D : Int)) = false := decide_eq_false (by omega)
      clear hD ha hb hS h2
      go_enter Tryz.func178, Tryz.ntmps178
      go_wp2
      refine bodyPost_ret (ret_pair rfl _ _ _ (D, true) true rfl (row_under _ _ _ _) rfl) rfl ?_
      rw [hE.out]
      exact ⟨rfl, below_two _ _ _⟩
  · have d1 : decide (b < a) = false := decide_eq_false h
    have hSD : (S : Int) = b - a := by omega
    by_cases h2 : 9223372036854775808 ≤ (S : Int)
    · have hE : Hid (gdiff a b = (0, false, false)) := Lib.hid (by unfold gdiff; rw [if_neg h, if_pos (by omega)])
      have d2 : decide ((9223372036854775807 : Int) < (S : Int)) = true := decide_eq_true (by omega)
      clear ha hb hS h2 hSD
      go_enter Tryz.func178, Tryz.ntmps178
      go_wp2
      refine bodyPost_ret (ret_pair rfl _ _ _ (0, false) false rfl (row_under _ _ _ _) rfl) rfl ?_
      rw [hE.out]
      exact ⟨rfl, below_two _ _ _⟩
    · have hE : Hid (gdiff a b = (S, false, true)) := Lib.hid (by unfold gdiff; rw [if_neg h, if_neg (by omega)]; congr 1; omega)
      have d2 : decide ((9223372036854775807 : Int) < (S : Int)) = false := decide_eq_false (by omega)
      clear ha hb hS h2 hSD
      go_enter Tryz.func178, Tryz.ntmps178
      go_wp2
      refine bodyPost_ret (ret_pair rfl _ _ _ (S, false) true rfl (row_under _ _ _ _) rfl) rfl ?_
      rw [hE.out]
      exact ⟨rfl, below_two _ _ _⟩
set_option maxHeartbeats 2000000 in
set_option maxRecDepth 100000 in
theorem tdiff_any (a b : Int) (w : World) (ha : inInt a) (hb : inInt b) : Calls Tryz.prog 207 #[.int .i64 a, .int .i64 b] w fun e w' => RetD (gdiff a b) e ∧ Below w.heap.size w w' := by
  have HB := Lib.hid (between_any a b w ha hb)
  generalize gdiff a b = p at HB ⊢
  obtain ⟨U, f, ok⟩ := p
  clear ha hb
  go_enter Tryz.func207, Tryz.ntmps207
  go_wp2_with fail
  refine HB.out.mono ?_
  rintro e w1 ⟨rfl, hb1⟩
  unfold dpair dv dc
  dsimp only
  go_wp2
  go_quiet (fail)
  go_wp2
  refine bodyPost_ret (results_tmp3 rfl _ _ _) rfl ?_
  exact ⟨rfl, (hb1.alloc hb1.size _).trans ⟨rfl, rfl, rfl, Nat.le_refl _, fun _ _ => rfl⟩⟩
set_option maxHeartbeats 2000000 in
set_option maxRecDepth 100000 in
theorem step_any (a : Int) (U : Nat) (f : Bool) (w : World) (ha : inInt a) (h1 : (U : Int) < 18446744073709551616) : Calls Tryz.prog 152 #[.int .i64 a, dv (U, f)] w fun e w' => RetG (gstep a U f) e ∧ Below w.heap.size w w' := by
  unfold inInt at ha
  by_cases h2 : 9223372036854775808 ≤ (U : Int)
  · have hE : Hid (gstep a U f = (0, false)) := Lib.hid (by unfold gstep; rw [if_pos h2])
    have d2 : decide ((9223372036854775807 : Int) < (U : Int)) = true := decide_eq_true (by omega)
    clear h2 h1
    unfold dv dc
    dsimp only
    go_enter Tryz.func152, Tryz.ntmps152
    go_wp2
    go_ret2
    rw [hE.out]
    exact ⟨rfl, (Below.refl _ _).alloc (Nat.le_refl _) _⟩
  · have d2 : decide ((9223372036854775807 : Int) < (U : Int)) = false := decide_eq_false (by omega)
    have hw1 : IntKind.i64.wrap (U : Int) = (U : Int) := by rw [IntKind.wrap_i64]; omega
    cases f with
    | true =>
      obtain ⟨M, hM⟩ : ∃ M, M = -(U : Int) := ⟨_, rfl⟩
      have hw2 : IntKind.i64.wrap (-(U : Int)) = M := by rw [IntKind.wrap_i64]; omega
      obtain ⟨b, hb⟩ : ∃ b, b = IntKind.i64.wrap (a + M) := ⟨_, rfl⟩
      have hw3 : IntKind.i64.wrap (a + M) = b := hb.symm
      rw [IntKind.wrap_i64] at hb
      by_cases h3 : a < -9223372036854775808 + (U : Int)
      · have hE : Hid (gstep a U true = (0, false)) := Lib.hid (by unfold gstep; rw [if_neg h2, if_pos rfl, if_pos h3])
        have d3 : decide (b < a) = false := decide_eq_false (by omega)
        have d4 : decide (M < 0) = true := decide_eq_true (by omega)
        clear h2 h1 hM hb h3 ha
        unfold dv dc
        dsimp only
        go_enter Tryz.func152, Tryz.ntmps152
        go_wp2
        go_ret2
        rw [hE.out]
        exact ⟨rfl, (Below.refl _ _).alloc (Nat.le_refl _) _⟩
      · have hE : Hid (gstep a U true = (b, true)) := Lib.hid (by unfold gstep; rw [if_neg h2, if_pos rfl, if_neg h3]; congr 1; omega)
        have d3 : decide (b < a) = decide (M < 0) := by
          by_cases h4 : M < 0
          · rw [decide_eq_true h4]; exact decide_eq_true (by omega)
          · rw [decide_eq_false h4]; exact decide_eq_false (by omega)
        clear h2 h1 hM hb h3 ha
        obtain ⟨d, hd⟩ : ∃ d, d = decide (M < 0) := ⟨_, rfl⟩
        rw [← hd] at d3
        have d4 := hd.symm
        clear hd
        unfold dv dc
        dsimp only
        cases d
        · go_enter Tryz.func152, Tryz.ntmps152
          go_wp2
          go_ret2
          rw [hE.out]
          exact ⟨rfl, (Below.refl _ _).alloc (Nat.le_refl _) _⟩
        · go_enter Tryz.func152, Tryz.ntmps152
          go_wp2
          go_ret2
          rw [hE.out]
          exact ⟨rfl, (Below.refl _ _).alloc (Nat.le_refl _) _⟩
    | false =>
      obtain ⟨b, hb⟩ : ∃ b, b = IntKind.i64.wrap (a + (U : Int)) := ⟨_, rfl⟩
      have hw3 : IntKind.i64.wrap (a + (U : Int)) = b := hb.symm
      rw [IntKind.wrap_i64] at hb
      have d4 : decide ((U : Int) < 0) = false := decide_eq_false (by omega)
      by_cases h3 : 9223372036854775807 - (U : Int) < a
      · have hE : Hid (gstep a U false = (0, false)) := Lib.hid (by unfold gstep; rw [if_neg h2, if_neg (by decide), if_pos h3])
        have d3 : decide (b < a) = true := decide_eq_true (by omega)
        clear h2 h1 hb h3 ha
        unfold dv dc
        dsimp only
        go_enter Tryz.func152, Tryz.ntmps152
        go_wp2
        go_ret2
        rw [hE.out]
        exact ⟨rfl, (Below.refl _ _).alloc (Nat.le_refl _) _⟩
      · have hE : Hid (gstep a U false = (b, true)) := Lib.hid (by unfold gstep; rw [if_neg h2, if_neg (by decide), if_neg h3]; congr 1; omega)
        have d3 : decide (b < a) = false := decide_eq_false (by omega)
        clear h2 h1 hb h3 ha
        unfold dv dc
        dsimp only
        go_enter Tryz.func152, Tryz.ntmps152
        go_wp2
        go_ret2
        rw [hE.out]
        exact ⟨rfl, (Below.refl _ _).alloc (Nat.le_refl _) _⟩
theorem tcount_yes (n : Int) (w : World) (h0 : 2 ≤ n) (h1 : n ≤ 512) : Calls Tryz.prog 147 #[.int .i64 n] w fun e w' => e = .returned (.bool true) ∧ w = w' := by
  go_enter Tryz.func147, Tryz.ntmps147
  go_wp2
  go_ret
  exact ⟨rfl, rfl⟩
theorem tcount_no (n : Int) (w : World) (h : n < 2 ∨ 512 < n) : Calls Tryz.prog 147 #[.int .i64 n] w fun e w' => e = .returned (.bool false) ∧ w = w' := by
  rcases h with h | h
  · have h2 : decide (2 ≤ n) = false := by simp; omega
    go_enter Tryz.func147, Tryz.ntmps147
    go_wp2
    go_ret
    exact ⟨rfl, rfl⟩
  · have h2 : decide (n ≤ 512) = false := by simp; omega
    have h3 : decide (2 ≤ n) = true := by simp; omega
    go_enter Tryz.func147, Tryz.ntmps147
    go_wp2
    go_ret
    exact ⟨rfl, rfl⟩
/-- The least of some numbers. -/
def lmin : List Int → Int
  | [] => 0
  | x :: xs => xs.foldl min x
theorem lmin_snoc {l : List Int} (hl : l ≠ []) (x : Int) : lmin (l ++ [x]) = min (lmin l) x := by
  cases l with
  | nil => exact absurd rfl hl
  | cons y ys => simp [lmin, List.foldl_append]
theorem lmin_neg {l : List Int} (hl : l ≠ []) : lmin l < 0 ↔ ∃ x ∈ l, x < 0 := by
  cases l with
  | nil => exact absurd rfl hl
  | cons y ys =>
    show ys.foldl min y < 0 ↔ _
    induction ys generalizing y with
    | nil => simp
    | cons z zs ih =>
      rw [List.foldl_cons, ih (min y z) (by simp)]
      simp only [List.mem_cons, exists_eq_or_imp]
      constructor
      · rintro (h | h)
        · rcases (by omega : y < 0 ∨ z < 0) with h | h
          · exact .inl h
          · exact .inr (.inl h)
        · exact .inr (.inr h)
      · rintro (h | h | h)
        · exact .inl (by omega)
        · exact .inl (by omega)
        · exact .inr h
def MinRel (l : List Int) (m i : Value) : Prop := ∃ (k : Nat) (x : Int), 1 ≤ k ∧ k ≤ l.length ∧ i = .int .i64 (k : Int) ∧ m = .int .i64 x ∧ x = lmin (l.take k)
set_option maxRecDepth 100000 in
theorem min_any (l : List Int) (v : Value) (w : World) (hv : IsV iv l v w) (h1 : 1 ≤ l.length) (hb : l.length ≤ 1000000) :
    Calls Tryz.prog 148 #[v] w fun e w' => e = .returned (.int .i64 (lmin l)) ∧ w = w' := by
  obtain ⟨A, n, c, rfl⟩ := hv.shape
  have HN := Lib.hid hv.len
  have HV := Lib.hid hv
  have hn : 1 ≤ n := by have := HN.out; omega
  have hn6 : n ≤ 1000000 := by have := HN.out; omega
  obtain ⟨ad, rfl, _, h0⟩ := hv.at (k := 0) h1
  obtain ⟨x0, hx0⟩ : ∃ x, x = l[0] := ⟨_, rfl⟩
  have h0' : w.cell? ad = some (.int .i64 l[0]) := by have := h0; simp [Addr.add, iv] at this; exact this
  have HS := Lib.hid (show MinRel l (.int .i64 l[0]) (.int .i64 1) from ⟨1, _, Nat.le_refl _, h1, rfl, rfl, by cases l with | nil => simp at h1 | cons a t => simp [lmin]⟩)
  rw [← hx0] at h0' HS
  clear hv h1 hb h0 hx0
  go_enter Tryz.func148, Tryz.ntmps148
  go_wp2
  go_loop [3, 4] (MinRel l) (fun _ i => n - (intOf i).toNat)
  case atStart => exact HS.out
  case round =>
    obtain ⟨k, x, hk1, hk2, rfl, rfl, hx⟩ := hrel
    have HX := Lib.hid hx
    have hkn : k ≤ n := by have := HN.out; omega
    clear hx
    by_cases hlt : k < n
    · have hkl : k < l.length := by have := HN.out; omega
      have hlti : (k : Int) < (n : Int) := by omega
      obtain ⟨ad', had, _, hc⟩ := HV.out.at hkl
      injection had with had
      subst had
      obtain ⟨y, hy⟩ : ∃ y, y = l[k] := ⟨_, rfl⟩
      rw [← hy] at hc
      unfold iv at hc
      obtain ⟨z, hz⟩ : ∃ z, z = min x y := ⟨_, rfl⟩
      have hmin : ∀ (ts : Array TypeId) (t : TypeId) (W : World), (Builtin.min_ ts t #[.int .i64 x, .int .i64 y]).run Tryz.prog W = .ok (.int .i64 z) W := fun ts t W => by
        rw [run_min_int2]
        congr 2
        rw [hz]
        split <;> omega
      have HR := Lib.hid (show MinRel l (.int .i64 z) (.int .i64 ((k + 1 : Nat) : Int)) from ⟨k + 1, _, by omega, hkl, rfl, rfl, by
        rw [List.take_succ_eq_append_getElem hkl, lmin_snoc (by intro h0; have h1 := congrArg List.length h0; rw [List.length_take, List.length_nil] at h1; omega), ← HX.out, ← hy, hz]⟩)
      clear hy hz
      go_wp2
      go_round
      case rel => exact HR.out
      case measure => simp [intOf]; omega
    · obtain rfl : k = n := by omega
      go_wp2
      go_ret
      refine ⟨?_, rfl⟩
      rw [HX.out, List.take_of_length_le (by have := HN.out; omega)]
      rfl
/-- Differences that a call answers, in a row of its own. -/
def diffAt (l : List Int) (i : Nat) : Nat × Bool × Bool := gdiff (l.getD i 0) (l.getD (i + 1) 0)
def AreRel (l : List (Nat × Bool)) (w : World) (i : Value) (wr : World) : Prop := ∃ k : Nat, k ≤ l.length ∧ i = .int .i64 (k : Int) ∧ (∀ j, j < k → l[j]? = l[0]?) ∧ Below w.heap.size w wr
/-- Is each the first one? -/
def dsame (l : List (Nat × Bool)) : Bool := l.all fun d => d == l.headD (0, false)
theorem dsame_yes {l : List (Nat × Bool)} (h : ∀ j, j < l.length → l[j]? = l[0]?) : dsame l = true := by
  unfold dsame
  rw [List.all_eq_true]
  intro d hd
  obtain ⟨j, hj, rfl⟩ := List.getElem_of_mem hd
  have h1 := h j hj
  rw [List.getElem?_eq_getElem hj] at h1
  cases l with
  | nil => simp at hj
  | cons a t => simp at h1; simp [h1]
theorem dsame_no {l : List (Nat × Bool)} {j : Nat} (hj : j < l.length) (h : l[j]? ≠ l[0]?) : dsame l = false := by
  unfold dsame
  rw [List.all_eq_false]
  refine ⟨l[j], List.getElem_mem hj, ?_⟩
  rw [List.getElem?_eq_getElem hj] at h
  cases l with
  | nil => simp at hj
  | cons a t => simp at h; simpa using h
theorem eqD (a b : Nat × Bool) (w : World) : (Op.equalIn 10000 176 (dv a) (dv b)).run Tryz.prog w = .ok (a == b) w := by
  have hS : Tryz.prog.underlying 176 = some (.struct (Tryz.prog.fieldsOf 176)) := by kernel_rfl
  have hp : Tryz.prog.stoodInHeld 176 = false := by kernel_rfl
  obtain ⟨au, af⟩ := a
  obtain ⟨bu, bf⟩ := b
  unfold dv dc
  have u1 := Tryz.underlying101
  have u2 := Tryz.underlying4
  have s1 := Tryz.sizeOf101
  have s2 := Tryz.sizeOf4
  have g1 := Tryz.isAgg101
  have g2 := Tryz.isAgg4
  rw [show (10000 : Nat) = 9999 + 1 from rfl, run_equalIn_agg w 9999 176 _ _ hS hp]
  simp only [Program.fieldsOf, Tryz.underlying176]
  go_simp
  by_cases h1 : au = bu
  · subst h1
    rw [if_pos rfl]
    cases af <;> cases bf <;> simp
  · have h3 : ¬ (au : Int) = (bu : Int) := by omega
    rw [if_neg h3]
    have h4 : ((au, af) == (bu, bf)) = false := by
      rw [beq_eq_false_iff_ne]
      intro h
      injection h with h _
      exact h1 h
    rw [h4]
theorem gives_neqD {o : Oper} {ρ : Operand → Value} {w : World} {R : Value → World → Prop} {x y : Operand} {a b : Nat × Bool} (ho : o.op = .binOp .neq 176 x y 176) (hx : ρ x = dv a) (hy : ρ y = dv b)
    (hR : R (.bool (!(a == b))) w) : Gives Tryz.prog o ρ w R := by
  refine gives_of (v := .bool (!(a == b))) (w' := w) ?_ hR
  have hg := run_eqGuard_agg (P := Tryz.prog) w .neq 176 x y (dc a).toArray (dc b).toArray (by kernel_rfl)
  have hq := run_neq_struct (P := Tryz.prog) w 176 (dc a).toArray (dc b).toArray
  have he := eqD a b w
  unfold dv at he
  rw [he] at hq
  unfold dv at hx hy
  simp [execOp, ho, hx, hy, hg, hq]
set_option maxHeartbeats 2000000 in
set_option maxRecDepth 100000 in
theorem aresame_any (l : List (Nat × Bool)) (v : Value) (w : World) (hv : IsR dc l v w) (hb : l.length ≤ 1000000) :
    Calls Tryz.prog 181 #[v] w fun e w' => e = .returned (.bool (dsame l)) ∧ Below w.heap.size w w' := by
  obtain ⟨A, n, c, rfl⟩ := hv.shape
  have HN := Lib.hid hv.parts.1
  have HV := Lib.hid hv
  have hn6 : n ≤ 1000000 := by have := HN.out; omega
  have HS := Lib.hid (show AreRel l w (.int .i64 0) w from ⟨0, Nat.zero_le _, rfl, fun j hj => by omega, Below.refl _ _⟩)
  clear hv hb
  go_enter Tryz.func181, Tryz.ntmps181
  go_wp2
  go_loopw [7] (AreRel l w) (fun i _ => n - (intOf i).toNat)
  case atStart => exact HS.out
  case round =>
    obtain ⟨k, hk, rfl, hs, hbw⟩ := hrel
    have HSM := Lib.hid hs
    have HB := Lib.hid hbw
    have hkn : k ≤ n := by have := HN.out; omega
    clear hs hk
    by_cases hlt : k < n
    · have hkl : k < l.length := by have := HN.out; omega
      have h0l : 0 < l.length := by omega
      have hlti : (k : Int) < (n : Int) := by omega
      have h0i : (0 : Int) < (n : Int) := by omega
      obtain ⟨ad, rfl, had, hcell⟩ := (HV.out.below hbw).at (m := 2) dc_len (by omega) hkl
      obtain ⟨x, hx⟩ : ∃ x, x = l[k] := ⟨_, rfl⟩
      rw [← hx] at hcell
      have k0 := cells2 hcell
      have HX := Lib.hid hx
      obtain ⟨xu, xf⟩ := x
      dsimp only at k0
      obtain ⟨k1, k2⟩ := k0
      clear hcell hx hbw
      have HR := Lib.hid (show Row (wr.alloc (.cells #[.int .u64 (xu : Int), .bool xf] 176)) wr.heap.size 176 (dc (xu, xf)) from heap_alloc_new wr _)
      have HBA := Lib.hid (HB.out.alloc HB.out.size (.cells #[.int .u64 (xu : Int), .bool xf] 176))
      obtain ⟨y, hy⟩ : ∃ y, y = l[0] := ⟨_, rfl⟩
      have HY := Lib.hid hy
      clear hy
      obtain ⟨b, hb⟩ : ∃ b, b = !((xu, xf) == y) := ⟨_, rfl⟩
      have HEQ := Lib.hid hb
      clear hb
      go_wp2
      refine wp_region_list [.is (dv (xu, xf)), .is (.slice (some ad) n c), .is (.pointer (some (ad.add (0 * 2)))), .is (dv y), .is (.bool b)] [some 11, some 12, some 13, some 14, some 15] (by kernel_rfl) (by kernel_rfl) (by kernel_rfl) rfl ⟨?_, ?_, ?_, ?_, ?_, trivial⟩ ?_
      · intro ρ W1 hb1 H
        exact gives_load_row (cs := dc (xu, xf)) rfl (H.old 4 _ (by kernel_rfl) rfl) Tryz.underlying176 rfl sizeD (HR.out.below hb1 HR.out.lt) ⟨rfl, Below.refl _ _⟩
      · intro ρ W1 hb1 H
        exact gives_move rfl (H.old 0 _ (by kernel_rfl) rfl) ⟨rfl, Below.refl _ _⟩
      · intro ρ W1 hb1 H
        exact gives_index_wide (k := 0) Tryz.underlying169 Tryz.sizeOf176 rfl (H.new 12 1 (by kernel_rfl)) (H.const _) (by omega) ⟨rfl, Below.refl _ _⟩
      · intro ρ W1 hb1 H
        obtain ⟨ad0, had0, had1, hcell0⟩ := (HV.out.below (HBA.out.trans (hb1.mono HBA.out.size))).at (m := 2) dc_len (by omega) h0l
        injection had0 with had0
        subst had0
        exact gives_load_wide (cs := dc y) rfl (H.new 13 2 (by kernel_rfl)) Tryz.underlying176 rfl Tryz.sizeOf176 (fun j v hj => by
          have hj2 : j < 2 := by have := (List.getElem?_eq_some_iff.1 hj).1; exact this
          have h := hcell0 j hj2
          rw [← HY.out] at h
          rw [add_add]
          exact h.trans hj) ⟨rfl, Below.refl _ _⟩
      · intro ρ W1 hb1 H
        exact gives_neqD rfl (H.new 11 0 (by kernel_rfl)) (H.new 14 3 (by kernel_rfl)) ⟨by rw [HEQ.out]; rfl, Below.refl _ _⟩
      · intro vs W1 hb1 hfs
        have f4 : vs 4 = .bool b := hfs 4 (by decide)
        clear hfs
        simp only [putAll, Nat.zero_add, Nat.reduceAdd]
        generalize vs 0 = z0
        generalize vs 1 = z1
        generalize vs 2 = z2
        generalize vs 3 = z3
        simp only [f4, Act.put, List.setIfInBounds_toArray, List.set_cons_succ, List.set_cons_zero]
        have HB1 := Lib.hid (HBA.out.trans (hb1.mono HBA.out.size))
        clear f4 hb1
        cases b with
        | true =>
          have HD := Lib.hid (show dsame l = false from dsame_no hkl (by
            rw [List.getElem?_eq_getElem hkl, List.getElem?_eq_getElem h0l, ← HX.out, ← HY.out]
            intro h
            injection h with h
            rw [h] at HEQ
            have := HEQ.out
            simp at this))
          go_wp2
          go_ret
          rw [HD.out]
          exact ⟨rfl, HB1.out⟩
        | false =>
          have HK := Lib.hid (show ∀ j, j < k + 1 → l[j]? = l[0]? from fun j hj => by
            rcases (by omega : j < k ∨ j = k) with h | rfl
            · exact HSM.out j h
            · rw [List.getElem?_eq_getElem hkl, List.getElem?_eq_getElem h0l, ← HX.out, ← HY.out]
              have := HEQ.out
              simp at this
              rw [this])
          go_wp2
          go_roundw
          case rel => exact ⟨k + 1, hkl, by go_num, HK.out, HB1.out⟩
          case measure => simp [intOf]; omega
    · obtain rfl : k = n := by omega
      have HD := Lib.hid (dsame_yes (l := l) (fun j hj => HSM.out j (by have := HN.out; omega)))
      go_wp2
      go_ret
      rw [HD.out]
      exact ⟨rfl, HB.out⟩
end Go.Proofs.YtblpkmmhmdpkjaaGreatDoor

/- delta's own contracts: goOneWay, with slices.ContainsFunc, slices.IndexFunc and its closure; diffsOf. -/



namespace Go.Proofs.YtblpkmmhmdpkjaaGreatDoor

open Go.RowKit

def dturns (down : Bool) (d : Nat × Bool) : Bool := d.1 != 0 && d.2 != down
set_option maxRecDepth 100000 in
theorem lit_any (d : Nat × Bool) (b : Nat) (down : Bool) (w : World) (hr : Row w b 4 [.bool down]) :
    Calls Tryz.prog 180 #[dv d, .pointer (some ⟨b, 0, none⟩)] w fun e w' => e = .returned (.bool (dturns down d)) ∧ Below w.heap.size w w' := by
  obtain ⟨U, f⟩ := d
  have hc := (hr.alloc (.cells #[.int .u64 (U : Int), .bool f] 176)).cell 0
  have hc2 : (w.alloc (.cells #[.int .u64 (U : Int), .bool f] 176)).cell? ⟨b, 0, none⟩ = some (.bool down) := hc
  clear hc
  unfold dv dc dturns
  dsimp only
  by_cases h0 : U = 0
  · subst h0
    go_enter Tryz.func180, Tryz.ntmps180
    go_wp2
    go_ret
    exact ⟨rfl, (Below.refl _ _).alloc (Nat.le_refl _) _⟩
  · have h1 : ((U : Int) != 0) = true := by simp; omega
    have h2 : (U != 0) = true := by simpa using h0
    rw [h2]
    go_enter Tryz.func180, Tryz.ntmps180
    go_wp2
    go_ret
    exact ⟨by cases f <;> cases down <;> rfl, (Below.refl _ _).alloc (Nat.le_refl _) _⟩
def IdxRel (l : List (Nat × Bool)) (p : Nat × Bool → Bool) (w : World) (i : Value) (wr : World) : Prop := ∃ k : Nat, k ≤ l.length ∧ i = .int .i64 (k : Int) ∧ (l.take k).any p = false ∧ Below w.heap.size w wr
set_option maxHeartbeats 2000000 in
set_option maxRecDepth 100000 in
theorem index_any (l : List (Nat × Bool)) (v : Value) (b : Nat) (down : Bool) (w : World) (hv : IsR dc l v w) (hr : Row w b 4 [.bool down]) (hb : l.length ≤ 1000000) :
    Calls Tryz.prog 204 #[v, .func (.func 180) #[] #[.pointer (some ⟨b, 0, none⟩)]] w
      fun e w' => (∃ r : Int, e = .returned (.int .i64 r) ∧ decide (0 ≤ r) = l.any (dturns down)) ∧ Below w.heap.size w w' := by
  obtain ⟨A, n, c, rfl⟩ := hv.shape
  have HN := Lib.hid hv.parts.1
  have HV := Lib.hid hv
  have HR := Lib.hid hr
  have hn6 : n ≤ 1000000 := by have := HN.out; omega
  have HS := Lib.hid (show IdxRel l (dturns down) w (.int .i64 0) w from ⟨0, Nat.zero_le _, rfl, rfl, Below.refl _ _⟩)
  clear hv hb hr
  go_enter Tryz.func204, Tryz.ntmps204
  go_wp2
  go_loopw [8] (IdxRel l (dturns down) w) (fun i _ => n - (intOf i).toNat)
  case atStart => exact HS.out
  case round =>
    obtain ⟨k, hk, rfl, hs, hbw⟩ := hrel
    have HSM := Lib.hid hs
    have HB := Lib.hid hbw
    have hkn : k ≤ n := by have := HN.out; omega
    clear hs hk
    by_cases hlt : k < n
    · have hkl : k < l.length := by have := HN.out; omega
      have hlti : (k : Int) < (n : Int) := by omega
      obtain ⟨ad, rfl, had, hcell⟩ := (HV.out.below hbw).at (m := 2) dc_len (by omega) hkl
      obtain ⟨x, hx⟩ : ∃ x, x = l[k] := ⟨_, rfl⟩
      rw [← hx] at hcell
      have k0 := cells2 hcell
      have HX := Lib.hid hx
      have HL := Lib.hid (lit_any x b down wr (HR.out.below hbw HR.out.lt))
      have HSN := Lib.hid (show (l.take (k + 1)).any (dturns down) = dturns down x by rw [List.take_succ_eq_append_getElem hkl, List.any_append, HSM.out, hx]; simp)
      have HAL := Lib.hid (show dturns down x = true → l.any (dturns down) = true from fun h => List.any_eq_true.2 ⟨x, by rw [hx]; exact List.getElem_mem hkl, h⟩)
      obtain ⟨xu, xf⟩ := x
      dsimp only at k0
      obtain ⟨k1, k2⟩ := k0
      clear hcell hx hbw
      generalize hq : dturns down (xu, xf) = q at HL HSN HAL
      clear hq
      unfold dv dc at HL
      dsimp only at HL
      cases q with
      | true =>
        have HA := Lib.hid (HAL.out rfl)
        go_wp2_with (go_at_call 180; refine HL.out.mono ?_; rintro e w1 ⟨rfl, hb1⟩)
        go_ret
        exact ⟨⟨_, rfl, by rw [HA.out]; exact decide_eq_true (by omega)⟩, below_then HB.out hb1⟩
      | false =>
        go_wp2_with (go_at_call 180; refine HL.out.mono ?_; rintro e w1 ⟨rfl, hb1⟩)
        go_roundw
        case rel => exact ⟨k + 1, hkl, by go_num, HSN.out, below_then HB.out hb1⟩
        case measure => simp [intOf]; omega
    · obtain rfl : k = n := by omega
      have HA := Lib.hid HSM.out
      rw [List.take_of_length_le (by have := HN.out; omega)] at HA
      go_wp2
      go_ret
      exact ⟨⟨_, rfl, by rw [HA.out]; rfl⟩, HB.out⟩
theorem contains_any (l : List (Nat × Bool)) (v : Value) (b : Nat) (down : Bool) (w : World) (hv : IsR dc l v w) (hr : Row w b 4 [.bool down]) (hb : l.length ≤ 1000000) :
    Calls Tryz.prog 179 #[v, .func (.func 180) #[] #[.pointer (some ⟨b, 0, none⟩)]] w
      fun e w' => e = .returned (.bool (l.any (dturns down))) ∧ Below w.heap.size w w' := by
  have HI := Lib.hid (index_any l v b down w hv hr hb)
  clear hv hr hb
  go_enter Tryz.func179, Tryz.ntmps179
  go_wp2_with fail
  refine HI.out.mono ?_
  rintro e w1 ⟨⟨r, rfl, hr⟩, hb1⟩
  go_wp2
  go_ret
  exact ⟨rfl, hb1⟩
/-- Do all go where the first one says? -/
def dway (l : List (Nat × Bool)) : Bool := !(l.any (dturns (l.headD (0, false)).2))
set_option maxRecDepth 100000 in
theorem way_any (l : List (Nat × Bool)) (v : Value) (w : World) (hv : IsR dc l v w) (h1 : 1 ≤ l.length) (hb : l.length ≤ 1000000) :
    Calls Tryz.prog 150 #[v] w fun e w' => e = .returned (.bool (dway l)) ∧ Below w.heap.size w w' := by
  obtain ⟨A, n, c, rfl⟩ := hv.shape
  have HN := Lib.hid hv.parts.1
  have h0i : (0 : Int) < (n : Int) := by have := HN.out; omega
  obtain ⟨ad, rfl, had, hcell⟩ := hv.at (m := 2) dc_len (by omega) (k := 0) h1
  have k0 := cells2 hcell
  rw [Nat.zero_mul] at k0
  have k2 := k0.2
  have ha0 : ad.add 0 = ad := by simp [Addr.add]
  rw [ha0] at k2
  obtain ⟨down, hd⟩ : ∃ down, down = l[0].2 := ⟨_, rfl⟩
  rw [← hd] at k2
  have HW := Lib.hid (show dway l = !(l.any (dturns down)) by
    unfold dway
    rw [hd]
    cases l with
    | nil => simp at h1
    | cons a t => rfl)
  have HB := Lib.hid ((Below.refl w.heap.size w).alloc (Nat.le_refl _) (.cells #[.bool down] 4))
  have HC := Lib.hid (contains_any l (.slice (some ad) n c) w.heap.size down (w.alloc (.cells #[.bool down] 4)) (hv.below ((Below.refl _ _).alloc (Nat.le_refl _) _)) (heap_alloc_new w _) hb)
  generalize l.any (dturns down) = q at HW HC
  clear hv h1 hb hcell k0 hd
  go_enter Tryz.func150, Tryz.ntmps150
  go_wp2_with (go_at_call 179; refine HC.out.mono ?_; rintro e w1 ⟨rfl, hb1⟩)
  go_ret
  rw [HW.out]
  exact ⟨rfl, HB.out.trans (hb1.mono HB.out.size)⟩
def gpairs (l : List Int) (k : Nat) : List (Nat × Bool) := (List.range k).map fun i => dpair (diffAt l i)
theorem gpairs_len (l : List Int) (k : Nat) : (gpairs l k).length = k := by unfold gpairs; rw [List.length_map, List.length_range]
theorem gpairs_succ (l : List Int) (k : Nat) : gpairs l (k + 1) = gpairs l k ++ [dpair (diffAt l k)] := by unfold gpairs; rw [List.range_succ, List.map_append]; rfl
theorem dflat_len (l : List (Nat × Bool)) : (l.flatMap dc).length = l.length * 2 := flat_len dc_len l
/-- What diffsOf answers. -/
def RetDs (l : List Int) (w : World) (e : Ending) (w' : World) : Prop :=
  ((∀ i, i + 1 < l.length → (diffAt l i).2.2 = true) ∧ ∃ v, e = .returned (.tuple #[v, .bool true]) ∧ IsR dc (gpairs l (l.length - 1)) v w' ∧ Below w.heap.size w w') ∨
  ((∃ i, i + 1 < l.length ∧ (diffAt l i).2.2 = false) ∧ e = .returned (.tuple #[.slice none 0 0, .bool false]) ∧ Below w.heap.size w w')
def DfRel (l : List Int) (g m : Nat) (w : World) (i : Value) (wr : World) : Prop := ∃ (k : Nat) (rest : List Value), k ≤ m ∧ i = .int .i64 (k : Int) ∧ (∀ j, j < k → (diffAt l j).2.2 = true) ∧
  rest.length = (m - k) * 2 ∧ Row wr g 176 ((gpairs l k).flatMap dc ++ rest) ∧ Below w.heap.size w wr
set_option maxHeartbeats 4000000 in
set_option maxRecDepth 100000 in
theorem diffs_any (l : List Int) (v : Value) (w : World) (hv : IsV iv l v w) (hl : ∀ x ∈ l, inInt x) (h2 : 2 ≤ l.length) (hb : l.length ≤ 1000000) :
    Calls Tryz.prog 149 #[v] w (RetDs l w) := by
  obtain ⟨A, n, c, rfl⟩ := hv.shape
  have HN := Lib.hid hv.len
  have HV := Lib.hid hv
  have HL := Lib.hid hl
  obtain ⟨m, hm⟩ : ∃ m, n = m + 1 := ⟨n - 1, by have := HN.out; omega⟩
  subst hm
  have hm6 : m ≤ 1000000 := by have := HN.out; omega
  have hmi : IntKind.i64.wrap (((m + 1 : Nat) : Int) - 1) = (m : Int) := by rw [IntKind.wrap_i64]; omega
  clear hv h2 hb hl
  go_enter Tryz.func149, Tryz.ntmps149
  go_wp2_with (refine wpList_makeW elemD (dc (0, false)) rfl rfl _ _ rfl _ _ _ _ m w w.heap.size rfl rfl rfl rfl (by omega) (by omega) (Below.refl _ _) (Nat.le_refl _) ?_)
  intro w1 hr1 hb1
  have HS := Lib.hid (show DfRel l w.heap.size m w (.int .i64 0) w1 from ⟨0, (List.replicate m (dc (0, false))).flatten, Nat.zero_le _, rfl, fun j hj => by omega, by rw [← flat_replicate (f := dc) m (0, false), dflat_len, List.length_replicate, Nat.sub_zero], hr1, hb1⟩)
  clear hr1 hb1
  go_wp2
  go_loopw [14] (DfRel l w.heap.size m w) (fun i _ => m - (intOf i).toNat)
  case atStart => exact HS.out
  case round =>
    obtain ⟨k, rest, hk, rfl, hok, hrl, hrow, hbw⟩ := hrel
    have HB := Lib.hid hbw
    have HOK := Lib.hid hok
    have HRL := Lib.hid hrl
    have HROW := Lib.hid hrow
    have hgw := hrow.lt
    clear hok hrl hrow
    by_cases hlt : k < m
    · have hkl : k < l.length := by have := HN.out; omega
      have hkl1 : k + 1 < l.length := by have := HN.out; omega
      have hlti : (k : Int) < (m : Int) := by omega
      obtain ⟨ad, hA, had, hc0⟩ := (HV.out.below hbw).at hkl
      obtain ⟨ad', hA', had', hc1⟩ := (HV.out.below hbw).at hkl1
      subst hA
      injection hA' with hA'
      subst hA'
      obtain ⟨a, ha⟩ : ∃ a, a = l[k] := ⟨_, rfl⟩
      obtain ⟨b, hb⟩ : ∃ b, b = l[k + 1] := ⟨_, rfl⟩
      have hai : inInt a := by rw [ha]; exact HL.out _ (List.getElem_mem hkl)
      have hbi : inInt b := by rw [hb]; exact HL.out _ (List.getElem_mem hkl1)
      have hdf : diffAt l k = gdiff a b := by
        unfold diffAt
        rw [List.getD_eq_getElem?_getD, List.getD_eq_getElem?_getD, List.getElem?_eq_getElem hkl, List.getElem?_eq_getElem hkl1, ha, hb]
        rfl
      have HC0 := Lib.hid hc0
      have HC1 := Lib.hid hc1
      rw [← ha] at HC0
      rw [← hb] at HC1
      have HD := Lib.hid hdf
      have HBT := Lib.hid (fun W => between_any a b W hai hbi)
      rw [← hdf] at HBT
      obtain ⟨x, ok, hx⟩ : ∃ x ok, x = dpair (diffAt l k) ∧ ok = (diffAt l k).2.2 := ⟨_, _, rfl, rfl⟩
      unfold RetBt at HBT
      rw [← hx.1, ← hx.2] at HBT
      have HX := Lib.hid hx
      clear hx hdf hc0 hc1 ha hb hai hbi
      go_wp2
      have hcc0 : ∀ W1, Below wr.heap.size wr W1 → W1.cell? (ad.add k) = some (.int .i64 a) := fun W1 h => by rw [h.cell (by rw [add_block]; exact had), HC0.out]; rfl
      have hcc1 : ∀ W1, Below wr.heap.size wr W1 → W1.cell? (ad.add (k + 1)) = some (.int .i64 b) := fun W1 h => by rw [h.cell (by rw [add_block]; exact had), HC1.out]; rfl
      refine wp_region_listR (keep_later wr.heap.size 176 (dc x)) [.is (.slice (some ad) (m + 1) c), .is (.int .i64 (k : Int)), .is (.pointer (some (ad.add k))), .is (.int .i64 a), .is (.slice (some ad) (m + 1) c), .is (.int .i64 (k : Int)), .is (.int .i64 ((k : Int) + 1)), .is (.pointer (some (ad.add (k + 1)))), .is (.int .i64 b),
        .is (.tuple #[dv x, .bool ok]), .is (.tuple #[dv x, .bool ok]), .is (dv x), .is (.bool ok), .laid wr.heap.size 176 (dc x), .stored wr.heap.size 176 (dc x) 13, .is (.bool ok)]
        [some 18, some 19, some 20, some 21, some 22, some 23, some 24, some 25, some 26, some 27, some 17, some 28, some 29, some 6, none, some 7] (by kernel_rfl) (by kernel_rfl) (by kernel_rfl) (by kernel_rfl) rfl ⟨?_, ?_, ?_, ?_, ?_, ?_, ?_, ?_, ?_, ?_, ?_, ?_, ?_, ?_, ?_, ?_, trivial⟩ ?_
      · intro ρ vs W1 hb1 H
        exact gives_move rfl (H.old 0 _ (by kernel_rfl) rfl) ⟨upd_at _ _ _, Keep.self _⟩
      · intro ρ vs W1 hb1 H
        exact gives_move rfl (H.old 5 _ (by kernel_rfl) rfl) ⟨upd_at _ _ _, Keep.self _⟩
      · intro ρ vs W1 hb1 H
        exact gives_index elemI rfl (H.holds 18 0 (by kernel_rfl)) (H.holds 19 1 (by kernel_rfl)) (by omega) ⟨upd_at _ _ _, Keep.self _⟩
      · intro ρ vs W1 hb1 H
        exact gives_load rfl (H.holds 20 2 (by kernel_rfl)) Tryz.underlying3 rfl (hcc0 W1 hb1.1) ⟨upd_at _ _ _, Keep.self _⟩
      · intro ρ vs W1 hb1 H
        exact gives_move rfl (H.old 0 _ (by kernel_rfl) rfl) ⟨upd_at _ _ _, Keep.self _⟩
      · intro ρ vs W1 hb1 H
        exact gives_move rfl (H.old 5 _ (by kernel_rfl) rfl) ⟨upd_at _ _ _, Keep.self _⟩
      · intro ρ vs W1 hb1 H
        exact gives_add rfl (H.holds 23 5 (by kernel_rfl)) (H.const _) (by omega) (by omega) ⟨upd_at _ _ _, Keep.self _⟩
      · intro ρ vs W1 hb1 H
        exact gives_index elemI (k := k + 1) rfl (H.holds 22 4 (by kernel_rfl)) (H.holds 24 6 (by kernel_rfl)) (by omega) ⟨upd_at _ _ _, Keep.self _⟩
      · intro ρ vs W1 hb1 H
        exact gives_load rfl (H.holds 25 7 (by kernel_rfl)) Tryz.underlying3 rfl (hcc1 W1 hb1.1) ⟨upd_at _ _ _, Keep.self _⟩
      · intro ρ vs W1 hb1 H
        have e0 : ρ (.tmp 21) = .int .i64 a := H.holds 21 3 (by kernel_rfl)
        have e1 : ρ (.tmp 26) = .int .i64 b := H.holds 26 8 (by kernel_rfl)
        refine gives_call rfl (fun _ _ => by kernel_rfl) (H.func _) (args := #[.int .i64 a, .int .i64 b]) (by simp [e0, e1]) ?_
        exact (HBT.out W1).mono fun e w' ⟨h1, h2⟩ => ⟨_, h1, upd_at _ _ _, Keep.of hb1.1.size h2⟩
      · intro ρ vs W1 hb1 H
        exact gives_move rfl (H.holds 27 9 (by kernel_rfl)) ⟨upd_at _ _ _, Keep.self _⟩
      · intro ρ vs W1 hb1 H
        exact gives_extract rfl (H.holds 17 10 (by kernel_rfl)) rfl ⟨upd_at _ _ _, Keep.self _⟩
      · intro ρ vs W1 hb1 H
        exact gives_extract rfl (H.holds 17 10 (by kernel_rfl)) rfl ⟨upd_at _ _ _, Keep.self _⟩
      · intro ρ vs W1 hb1 H
        obtain ⟨i0, hi, hz0, hz1, hz2⟩ := info_parts Tryz.infoD
        exact gives_alloc hi hz0 rfl ⟨⟨W1.heap.size, dc (0, false), upd_at _ _ _, hb1.1.size, rfl, heap_alloc_new W1 _⟩, Keep.alloc hb1.1.size _⟩
      · intro ρ vs W1 hb1 H
        obtain ⟨h, old, e1, e2, e3, e4⟩ := H.holds 6 13 (by kernel_rfl)
        have e5 : vs 13 = .pointer (some ⟨h, 0, none⟩) := (H.new 6 13 (by kernel_rfl)).symm.trans e1
        exact gives_store_row (cs := dc x) rfl e1 (H.holds 28 11 (by kernel_rfl)) e4 sizeD e3 (dc_one x) ⟨⟨h, (upd_ne _ _ (by decide)).trans e5, e2, rowAll_set e4⟩, Keep.store e2 e4⟩
      · intro ρ vs W1 hb1 H
        exact gives_assign rfl (H.holds 29 12 (by kernel_rfl)) ⟨upd_at _ _ _, Keep.self _⟩
      · intro vs W1 hb1 hfs
        obtain ⟨h, f13, hh, hrw⟩ : ∃ h, vs 13 = .pointer (some ⟨h, 0, none⟩) ∧ wr.heap.size ≤ h ∧ Row W1 h 176 (dc x) := hfs 14 (by decide)
        have f15 : vs 15 = .bool ok := hfs 15 (by decide)
        clear hfs
        simp only [putAll, Nat.zero_add, Nat.reduceAdd]
        generalize vs 0 = z0
        generalize vs 1 = z1
        generalize vs 2 = z2
        generalize vs 3 = z3
        generalize vs 4 = z4
        generalize vs 5 = z5
        generalize vs 6 = z6
        generalize vs 7 = z7
        generalize vs 8 = z8
        generalize vs 9 = z9
        generalize vs 10 = z10
        generalize vs 11 = z11
        generalize vs 12 = z12
        generalize vs 14 = z14
        simp only [f13, f15, Act.put, List.setIfInBounds_toArray, List.set_cons_succ, List.set_cons_zero]
        have HB1 := Lib.hid (HB.out.trans (hb1.1.mono HB.out.size))
        have HROW1 := Lib.hid (HROW.out.below hb1.1 hgw)
        have hne : ¬ h = w.heap.size := by omega
        clear f13 f15 hb1 hcc0 hcc1
        cases ok with
        | false =>
          go_wp2
          go_ret2
          exact .inr ⟨⟨k, hkl1, by rw [← HX.out.2]⟩, rfl, HB1.out⟩
        | true =>
          obtain ⟨xu, xf⟩ := x
          have hk1 : W1.cell? ⟨h, 0, none⟩ = some (.int .u64 (xu : Int)) := hrw.cell 0
          have hk2 : W1.cell? ⟨h, 1, none⟩ = some (.bool xf) := hrw.cell 1
          have HFIT := Lib.hid (show k * 2 + (dc (xu, xf)).length ≤ ((gpairs l k).flatMap dc ++ rest).length by
            rw [List.length_append, dflat_len, gpairs_len, HRL.out, dc_len]; omega)
          have HNEW := Lib.hid (show ((gpairs l k).flatMap dc ++ rest).take (k * 2) ++ dc (xu, xf) ++ ((gpairs l k).flatMap dc ++ rest).drop (k * 2 + (dc (xu, xf)).length) = (gpairs l (k + 1)).flatMap dc ++ rest.drop 2 by
            have hl1 : ((gpairs l k).flatMap dc).length = k * 2 := by rw [dflat_len, gpairs_len]
            rw [List.take_append_of_le_length (by omega), List.take_of_length_le (by omega), List.drop_append, hl1, List.drop_of_length_le (by rw [hl1]; exact Nat.le_add_right _ _), gpairs_succ, ← HX.out.1, List.flatMap_append, List.flatMap_singleton, dc_len,
              show k * 2 + 2 - k * 2 = 2 by omega, List.nil_append])
          go_wp2_with (refine wpList_storeW rfl 176 _ _ rfl w.heap.size (k * 2) 176 ((gpairs l k).flatMap dc ++ rest) (dc (xu, xf)) _ HNEW.out rfl rfl HROW1.out sizeD HFIT.out (dc_one _) w w.heap.size HB1.out (Nat.le_refl _) ?_)
          intro w3 hr3 hb3 _
          have HR3 := Lib.hid hr3
          have HB3 := Lib.hid hb3
          clear hr3 hb3
          go_wp2
          go_roundw
          case rel => exact ⟨k + 1, rest.drop 2, hlt, by go_num, fun j hj => by
            rcases (by omega : j < k ∨ j = k) with h | rfl
            · exact HOK.out j h
            · exact HX.out.2.symm, by rw [List.length_drop, HRL.out]; omega, HR3.out, HB3.out⟩
          case measure => simp [intOf]; omega
    · obtain rfl : k = m := by omega
      obtain rfl : rest = [] := List.eq_nil_of_length_eq_zero (by rw [HRL.out]; omega)
      go_wp2
      go_ret2
      refine .inl ⟨fun i hi => HOK.out i (by have := HN.out; omega), _, rfl, ?_, HB.out⟩
      have hr := HROW.out
      rw [List.append_nil] at hr
      rw [show l.length - 1 = k by have := HN.out; omega]
      exact isR_row hr (gpairs_len l k) (by omega)
end Go.Proofs.YtblpkmmhmdpkjaaGreatDoor

/- The library's contract of math/bits.Mul, laid at this program's numbers. -/





namespace Go.Proofs

open Go.Shelf
end Go.Proofs

/- delta's own contracts: slices.Repeat at differences. -/





namespace Go.Proofs.YtblpkmmhmdpkjaaGreatDoor

open Go.RowKit

end Go.Proofs.YtblpkmmhmdpkjaaGreatDoor

/- delta's own contracts: pack. -/





namespace Go.Proofs.YtblpkmmhmdpkjaaGreatDoor

open Go.RowKit

def sizesOf (l : List (Nat × Bool)) : List Nat := l.map (·.1)
theorem wide_fin : ∀ n : Fin 65, max 2 (wclosest (n.val : Int)) = wclosest ((max 2 n.val : Nat) : Int) := by decide +kernel
theorem omap_fst (l : List (Nat × Bool)) : omap (fun d : Nat × Bool => some d.1) l = some (sizesOf l) := by
  induction l with
  | nil => rfl
  | cons x l ih => unfold omap; rw [ih]; rfl
/-- What pack answers. -/
def RetPk (w : World) (c : Nat) (p : List UInt8) (e : Ending) (w' : World) : Prop := ∃ v, e = .returned (.tuple #[.int .i64 (c : Int), v, .int .i64 0]) ∧ IsB p v w' ∧ Below w.heap.size w w'
theorem pack_same (l : List (Nat × Bool)) (v : Value) (w : World) (hv : IsR dc l v w) (hb : l.length ≤ 1000000) (hs : dsame l = true) : Calls Tryz.prog 151 #[v] w (RetPk w 0 []) := by
  have HA := Lib.hid (aresame_any l v w hv hb)
  rw [hs] at HA
  clear hv hb hs
  go_enter Tryz.func151, Tryz.ntmps151
  go_wp2_with fail
  refine HA.out.mono ?_
  rintro e w1 ⟨rfl, hb1⟩
  go_wp2
  go_ret3
  exact ⟨_, rfl, isB_nil _, hb1⟩
set_option maxHeartbeats 4000000 in
set_option maxRecDepth 100000 in
theorem pack_more (l : List (Nat × Bool)) (v : Value) (w : World) (ht : WTab w) (hv : IsR dc l v w) (h1 : 1 ≤ l.length) (hb : l.length ≤ 511) (hs : dsame l = false) (hu : ∀ d ∈ l, d.1 < 2 ^ 63) :
    Calls Tryz.prog 151 #[v] w (RetPk w (gcode (sizesOf l.tail)) (bpack (sizesOf l.tail) (gwide (sizesOf l.tail)))) := by
  have HA := Lib.hid (aresame_any l v w hv (by omega))
  rw [hs] at HA
  obtain ⟨A, n, c, rfl⟩ := hv.shape
  have HN := Lib.hid hv.parts.1
  have HV := Lib.hid hv
  obtain ⟨m, hm⟩ : ∃ m, n = m + 1 := ⟨n - 1, by have := HN.out; omega⟩
  subst hm
  have hm6 : m ≤ 510 := by have := HN.out; omega
  have HT := Lib.hid ht
  obtain ⟨q, hq⟩ : ∃ q, q = l.tail := ⟨_, rfl⟩
  have HQ := Lib.hid (show l.drop 1 = q by rw [hq, List.drop_one])
  have HQL := Lib.hid (show q.length = m by rw [hq, List.length_tail]; have := HN.out; omega)
  have HU := Lib.hid (show ∀ x ∈ sizesOf q, x < 2 ^ 64 by
    intro x hx
    obtain ⟨d, hd, rfl⟩ := List.mem_map.1 hx
    have := hu d (List.mem_of_mem_tail (hq ▸ hd))
    exact Nat.lt_trans this (by decide))
  rw [← hq]
  clear hs hu hb h1 hv ht hq
  obtain ⟨v2, hv2, hi2⟩ := fromR_named (P := Tryz.prog) elemD dc_len (k := 1) (by omega) HV.out
  rw [show ((1 : Nat) : Int) = 1 from rfl] at hv2
  rw [HQ.out] at hi2
  obtain ⟨A2, n2, c2, rfl⟩ := hi2.shape
  have hn2 : n2 = m := by have := hi2.parts.1; have := HQL.out; omega
  subst hn2
  have HI2 := Lib.hid hi2
  clear hi2
  have hmi : IntKind.i64.wrap (((n2 + 1 : Nat) : Int) - 1) = (n2 : Int) := by rw [IntKind.wrap_i64]; omega
  go_enter Tryz.func151, Tryz.ntmps151
  go_wp2_with fail
  refine HA.out.mono ?_
  rintro e w1 ⟨rfl, hb1⟩
  have HB1 := Lib.hid hb1
  clear hb1 HA
  go_wp2_with (refine wpList_make elemU rfl _ _ rfl _ _ _ _ n2 w1 w1.heap.size rfl rfl rfl rfl (by omega) (by omega) (Below.refl _ _) (Nat.le_refl _) ?_)
  intro w2 hr2 hb2
  have HS := Lib.hid (show FillRel (fun d : Nat × Bool => some d.1) uv (uv 0) 101 q w1 (.int .i64 0) w2 from ⟨0, [], by omega, rfl, rfl, by rw [Nat.sub_zero, HQL.out]; simpa [uv] using hr2, hb2⟩)
  clear hb2 hr2
  go_wp2_with (refine wpList_slicedL rfl _ _ _ rfl _ (hv2 _) ?_)
  go_loopw [20] (FillRel (fun d : Nat × Bool => some d.1) uv (uv 0) 101 q w1) (fun i _ => n2 - (intOf i).toNat)
  case atStart => exact HS.out
  case round =>
    obtain ⟨k, acc, hk, rfl, hacc, hr, hbw⟩ := hrel
    have hz := hbw.size
    have hal : acc.length = k := by rw [omap_len hacc, List.length_take]; omega
    rw [HQL.out] at hr
    have HACC := Lib.hid hacc
    have HAL := Lib.hid hal
    have hk' : k ≤ n2 := by have := HQL.out; omega
    clear hacc hal hk
    by_cases hlt : k < n2
    · have hkl : k < q.length := by have := HQL.out; omega
      have hlti : (k : Int) < (n2 : Int) := by omega
      obtain ⟨ad, rfl, had, hcell⟩ := (HI2.out.below (HB1.out.trans (hbw.mono HB1.out.size))).at (m := 2) dc_len (by omega) hkl
      obtain ⟨x, hx⟩ : ∃ x, x = q[k] := ⟨_, rfl⟩
      rw [← hx] at hcell
      have k0 := cells2 hcell
      have HN2 := Lib.hid (omap_take (f := fun d : Nat × Bool => some d.1) hkl HACC.out (by rw [← hx]))
      obtain ⟨xu, xf⟩ := x
      dsimp only at k0 HN2
      obtain ⟨k1, k2⟩ := k0
      have hra := hr.alloc (.cells #[.int .u64 (xu : Int), .bool xf] 176)
      have hfx := hra.free k
      have hgr := hr.lt
      have hcu : ∃ u, (wr.alloc (.cells #[.int .u64 (xu : Int), .bool xf] 176)).cell? ⟨w1.heap.size, k, none⟩ = some u := by
        rw [hra.cell]
        exact ⟨_, List.getElem?_eq_getElem (by rw [List.length_append, List.length_map, List.length_replicate]; have := HAL.out; omega)⟩
      obtain ⟨u0, hcu⟩ := hcu
      have hset := hr.set_ k (uv xu)
      rw [fill_step hlt HAL.out] at hset
      have hset := hset.alloc (.cells #[.int .u64 (xu : Int), .bool xf] 176)
      have HSET := Lib.hid hset
      have HB3 := Lib.hid ((hbw.setCell (p := ⟨w1.heap.size, k, none⟩) (Nat.le_refl _) (uv xu)).alloc (by rw [World.size_setCell]; exact hbw.size) (.cells #[.int .u64 (xu : Int), .bool xf] 176))
      clear hset hr hra hbw hz hx hcell
      unfold uv at HB3 HSET
      go_wp2
      go_roundw
      case rel => exact ⟨k + 1, acc ++ [xu], hkl, by go_num, HN2.out, by rw [HQL.out]; exact HSET.out, HB3.out⟩
      case measure => simp [intOf]; omega
    · obtain rfl : k = n2 := by omega
      have he : acc = sizesOf q := by
        have h := HACC.out
        rw [List.take_of_length_le (by rw [HQL.out]; exact Nat.le_refl _), omap_fst] at h
        injection h with h
        exact h.symm
      subst he
      have hlen : (sizesOf q).length = k := by unfold sizesOf; rw [List.length_map, HQL.out]
      obtain ⟨us, hus⟩ : ∃ us, us = sizesOf q := ⟨_, rfl⟩
      rw [← hus] at hr hlen HU
      have HUS := Lib.hid hus
      rw [Nat.sub_self, List.replicate_zero, List.append_nil] at hr
      have HI := Lib.hid (isV_row hr hlen (by omega))
      have hlies := hr.lies 0
      rw [List.drop_zero] at hlies
      have HM := Lib.hid (most_any (some ⟨w1.heap.size, 0, none⟩) k k us wr (fun h => by cases h) hlen (Nat.le_refl _) (by omega) hlies HU.out)
      obtain ⟨g1, g2, _, g4, g5, g6, g7, g8⟩ := gwide_int HU.out
      have hmx : max 2 (wclosest (wmost us : Int)) = (gwide us : Int) := by
        rw [← g1]
        have := wide_fin ⟨wmost us, by have := wmost_64 HU.out; omega⟩
        exact this
      have HTW := Lib.hid (HT.out.below (HB1.out.trans (hbw.mono HB1.out.size)) HT.out.lt)
      have HC := Lib.hid (closest_any (wmost us : Int) wr HTW.out)
      obtain ⟨C, hC⟩ : ∃ C, C = wclosest (wmost us : Int) := ⟨_, rfl⟩
      rw [← hC] at HC hmx
      obtain ⟨M, hM⟩ : ∃ M, M = (wmost us : Int) := ⟨_, rfl⟩
      rw [← hM] at HM HC
      have hmax : ∀ (ts : Array TypeId) (t : TypeId) (W : World), (Builtin.max_ ts t #[.int .i64 2, .int .i64 C]).run Tryz.prog W = .ok (.int .i64 (gwide us : Int)) W := fun ts t W => by
        rw [run_max_int2]
        congr 2
        rw [← hmx]
        split <;> omega
      obtain ⟨W, hW⟩ : ∃ W, W = gwide us := ⟨_, rfl⟩
      have HPK := Lib.hid (pack_is (W : Int) (v := .slice (some ⟨w1.heap.size, 0, none⟩) k k) (w := wr) HI.out (by omega) HU.out)
      rw [packsAny_in _ _ (by omega), hW, packs_ok (gwide_room HU.out), ← hW] at HPK
      rw [← hW] at hmax g2
      have HWW := Lib.hid hW
      have HCD := Lib.hid (fun w => code_any (W : Int) w)
      rw [g2] at HCD
      have HB4 := Lib.hid (HB1.out.trans (hbw.mono HB1.out.size))
      clear hr hbw hlies hmx hC hM hW g1 g2 g4 g5 g6 g7 g8 hlen hus hz
      go_wp2_with (first | (go_at_call 139; refine HM.out.mono ?_; rintro e w' ⟨rfl, rfl⟩) | (go_at_call 138; refine HC.out.mono ?_; rintro e w' ⟨rfl, rfl⟩) | (go_at_call 140; refine HPK.out.mono ?_))
      rintro e w5 ⟨v5, rfl, hi5, hb5⟩
      have HI5 := Lib.hid hi5
      have HB5 := Lib.hid (below_then HB4.out hb5)
      have HT5 := Lib.hid (HTW.out.below hb5 HTW.out.lt)
      clear hi5 hb5
      go_wp2_with (go_at_call 142; refine (HCD.out _ HT5.out).mono ?_; rintro e w' ⟨rfl, rfl⟩)
      go_ret3
      rw [← HUS.out, ← HWW.out]
      exact ⟨_, rfl, HI5.out, HB5.out⟩
end Go.Proofs.YtblpkmmhmdpkjaaGreatDoor

/- delta's own contracts: numbers. -/







namespace Go.Proofs.YtblpkmmhmdpkjaaGreatDoor

open Go.RowKit

end Go.Proofs.YtblpkmmhmdpkjaaGreatDoor

/- delta's own contracts: unpack. -/





namespace Go.Proofs.YtblpkmmhmdpkjaaGreatDoor

open Go.RowKit

end Go.Proofs.YtblpkmmhmdpkjaaGreatDoor

/- What delta's Put does, as plain mathematics: its differences against the sizes of XTPlain. -/





namespace Go.Proofs.YtblpkmmhmdpkjaaGreatDoor

open Go.RowKit

theorem gdiff_ok {a b : Int} (h : (gdiff a b).2.2 = true) : (gdiff a b).2.1 = decide (b < a) ∧ ((gdiff a b).1 = 0 → (gdiff a b).2.1 = false) := by
  rcases gdiff_cases a b with ⟨k, _⟩ | ⟨k1, k2, k⟩ | ⟨k1, k2, k⟩
  · rw [k] at h; cases h
  · rw [k]; exact ⟨(decide_eq_true k1).symm, fun h => by dsimp only at h; omega⟩
  · rw [k]; exact ⟨(decide_eq_false (by omega)).symm, fun _ => rfl⟩
theorem dplain_neg {l : List Int} {x : Int} (hx : x ∈ l) (h : x < 0) : dplain l false = none := omap_none hx (by unfold eplain; rw [if_neg (by decide), if_neg (by omega)])
theorem dplain_some {l : List Int} {s : Bool} (h : s = true ∨ ∀ x ∈ l, 0 ≤ x) : dplain l s ≠ none := by
  unfold dplain
  induction l with
  | nil => simp [omap]
  | cons x l ih =>
    have h1 : ∃ u, eplain x s = some u := by
      unfold eplain
      rcases h with h | h
      · rw [if_pos h]; exact ⟨_, rfl⟩
      · have := h x List.mem_cons_self
        split
        · exact ⟨_, rfl⟩
        · first | exact ⟨_, rfl⟩ | (rw [if_pos this]; exact ⟨_, rfl⟩)
    obtain ⟨u, hu⟩ := h1
    have h2 := ih (h.imp id fun h y hy => h y (List.mem_cons_of_mem _ hy))
    rw [omap, hu]
    dsimp only
    cases hr : omap (eplain · s) l with
    | none => exact absurd hr h2
    | some r => simp
theorem omap_every {α β : Type} {f : α → Option β} {g : α → β} : ∀ {l : List α}, (∀ x ∈ l, f x = some (g x)) → omap f l = some (l.map g)
  | [], _ => rfl
  | x :: l, h => by
    rw [omap, h x List.mem_cons_self, omap_every fun y hy => h y (List.mem_cons_of_mem _ hy)]
    rfl
section

variable {l : List Int} {k : Nat}
theorem gat_bad {f : Bool} {i : Nat} (h : (diffAt l i).2.2 = false) : gat l f i = none := gone_not (by unfold diffAt at h; rw [h]; simp)
theorem gpairs_get (i : Nat) (h : i < k) : (gpairs l k)[i]? = some (dpair (diffAt l i)) := by
  unfold gpairs
  rw [List.getElem?_map, List.getElem?_range h]
  rfl
theorem gpairs_mem {d : Nat × Bool} (h : d ∈ gpairs l k) : ∃ i, i < k ∧ d = dpair (diffAt l i) := by
  obtain ⟨i, hi, rfl⟩ := List.mem_map.1 h
  exact ⟨i, List.mem_range.1 hi, rfl⟩
theorem gpairs_head (h : 0 < k) : (gpairs l k).headD (0, false) = dpair (diffAt l 0) := by
  have h1 := gpairs_get (l := l) 0 h
  cases hg : gpairs l k with
  | nil => rw [hg] at h1; cases h1
  | cons a t => rw [hg] at h1; injection h1
/-- All are differences, and go one way: these are the sizes. -/
theorem gsizes_way (hk : 0 < k) (hok : ∀ i, i < k → (diffAt l i).2.2 = true) (hw : dway (gpairs l k) = true) : gsizes l (gfalls l) k = some (sizesOf (gpairs l k)) := by
  unfold gsizes sizesOf gpairs
  rw [List.map_map]
  refine omap_every fun i hi => ?_
  have hi := List.mem_range.1 hi
  have h0 := gdiff_ok (hok 0 hk)
  have hf : gfalls l = (diffAt l 0).2.1 := h0.1.symm
  unfold dway at hw
  rw [gpairs_head hk] at hw
  have h1 : dturns (dpair (diffAt l 0)).2 (dpair (diffAt l i)) = false := by
    have h2 : ((gpairs l k).any (dturns (dpair (diffAt l 0)).2)) = false := by simpa using hw
    rw [List.any_eq_false] at h2
    have h3 := h2 _ (List.mem_of_getElem? (gpairs_get (l := l) i hi))
    simpa using h3
  refine gone_yes (hok i hi) ?_
  rw [hf]
  unfold dturns dpair at h1
  dsimp only at h1
  by_cases hz : (diffAt l i).1 = 0
  · exact .inl hz
  · right
    have h4 : ((diffAt l i).1 != 0) = true := by simpa using hz
    rw [h4, Bool.true_and] at h1
    show (diffAt l i).2.1 = (diffAt l 0).2.1
    simpa using h1
/-- One goes another way: these are no sizes. -/
theorem gsizes_turn (hk : 0 < k) (hok : ∀ i, i < k → (diffAt l i).2.2 = true) (hw : dway (gpairs l k) = false) : gsizes l (gfalls l) k = none := by
  unfold dway at hw
  rw [gpairs_head hk] at hw
  have h2 : ((gpairs l k).any (dturns (dpair (diffAt l 0)).2)) = true := by simpa using hw
  obtain ⟨d, hd, ht⟩ := List.any_eq_true.1 h2
  obtain ⟨i, hi, rfl⟩ := gpairs_mem hd
  have hf : gfalls l = (diffAt l 0).2.1 := (gdiff_ok (hok 0 hk)).1.symm
  refine gsizes_none hi (gone_not ?_)
  rw [hf]
  unfold dturns dpair at ht
  dsimp only at ht
  rw [Bool.and_eq_true] at ht
  rintro ⟨_, h | h⟩
  · unfold diffAt at ht; rw [h] at ht; simp at ht
  · unfold diffAt at ht; rw [h] at ht; unfold diffAt at ht; simp at ht
/-- All differences are the same just where all sizes are. -/
theorem dsame_all (hk : 0 < k) (hok : ∀ i, i < k → (diffAt l i).2.2 = true) (hw : dway (gpairs l k) = true) : dsame (gpairs l k) = gall (sizesOf (gpairs l k)) := by
  have hhead := gpairs_head (l := l) hk
  have hs : (sizesOf (gpairs l k)).headD 0 = ((gpairs l k).headD (0, false)).1 := by unfold sizesOf; cases gpairs l k <;> rfl
  unfold dsame gall
  rw [hs]
  unfold sizesOf
  rw [List.all_map]
  rw [Bool.eq_iff_iff, List.all_eq_true, List.all_eq_true]
  constructor
  · intro h d hd
    have h1 : d = (gpairs l k).headD (0, false) := by simpa using h d hd
    show ((d.1 == ((gpairs l k).headD (0, false)).1)) = true
    rw [← h1]; simp
  · intro h d hd
    have h1 : d.1 = ((gpairs l k).headD (0, false)).1 := by have := h d hd; simpa using this
    have h2 : d.2 = ((gpairs l k).headD (0, false)).2 := by
      by_cases hz : d.1 = 0
      · have ha : ∀ e ∈ gpairs l k, e.1 = 0 → e.2 = false := by
          intro e he h0
          obtain ⟨i, hi, rfl⟩ := gpairs_mem he
          exact (gdiff_ok (hok i hi)).2 h0
        rw [ha d hd hz]
        have hm : (gpairs l k).headD (0, false) ∈ gpairs l k := by rw [hhead]; exact List.mem_of_getElem? (gpairs_get (l := l) 0 hk)
        exact (ha _ hm (by rw [← h1]; exact hz)).symm
      · unfold dway at hw
        have h3 : ((gpairs l k).any (dturns ((gpairs l k).headD (0, false)).2)) = false := by simpa using hw
        rw [List.any_eq_false] at h3
        have h4 := h3 d hd
        unfold dturns at h4
        have h5 : (d.1 != 0) = true := by simpa using hz
        rw [h5, Bool.true_and] at h4
        simpa using h4
    have h3 : d = (gpairs l k).headD (0, false) := Prod.ext h1 h2
    rw [← h3]; simp
theorem sizes_lt : ∀ d ∈ gpairs l k, d.1 < 2 ^ 63 := by
  intro d hd
  obtain ⟨i, _, rfl⟩ := gpairs_mem hd
  have := gdiff_lt (l.getD i 0) (l.getD (i + 1) 0)
  show (gdiff (l.getD i 0) (l.getD (i + 1) 0)).1 < 9223372036854775808
  omega
theorem first_step (hk : 0 < k) (hok : ∀ i, i < k → (diffAt l i).2.2 = true) : gstep 0 (diffAt l 0).1 (diffAt l 0).2.1 = (gfirst l (sizesOf (gpairs l k)), true) := by
  have hs : (sizesOf (gpairs l k)).headD 0 = (diffAt l 0).1 := by
    have h := gpairs_head (l := l) hk
    have h2 : (sizesOf (gpairs l k)).headD 0 = ((gpairs l k).headD (0, false)).1 := by unfold sizesOf; cases gpairs l k <;> rfl
    rw [h2, h]; rfl
  have hf : gfalls l = (diffAt l 0).2.1 := (gdiff_ok (hok 0 hk)).1.symm
  have hlt := gdiff_lt (l.getD 0 0) (l.getD (0 + 1) 0)
  unfold gfirst
  rw [hs, hf]
  unfold gstep
  rw [if_neg (by unfold diffAt; omega)]
  cases hb : (diffAt l 0).2.1 with
  | true =>
    simp only [if_true]
    rw [if_neg (by unfold diffAt; omega)]; congr 1; omega
  | false =>
    simp only [Bool.false_eq_true, if_false]
    rw [if_neg (by unfold diffAt; omega)]; congr 1; omega
theorem sizes_tail : sizesOf (gpairs l k).tail = (sizesOf (gpairs l k)).tail := by unfold sizesOf; rw [List.map_tail]
end

end Go.Proofs.YtblpkmmhmdpkjaaGreatDoor
