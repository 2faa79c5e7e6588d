
/- A region in a round of a range over a function, shown by the plain rules: whoever has shown it outside a round has shown it in one. Over any program. -/

import Derived.Test.YtffglnccpbbclaaOps

import Derived.CallsIn

import Derived.OrdersIn

import Derived.TacticsIn

import Derived.RangeFuncCalls

namespace Go.Proofs.Ytffglnccpbbclaa

open Go.RowKit

/-- No operation of it is a defer statement. -/
def noDefer (ops : Array Oper) : Bool := ops.all fun o => match o.op with | .defer _ => false | _ => true
theorem noDefer_at {ops : Array Oper} (h : noDefer ops = true) {i : Nat} {o : Oper} (ho : ops[i]? = some o) : ∀ c, o.op ≠ .defer c := by
  intro c hc
  obtain ⟨hi, he⟩ := Array.getElem?_eq_some_iff.1 ho
  have := Array.all_eq_true.1 h i hi
  rw [he, hc] at this
  cases this
/-- Where a region goes on to. -/
abbrev goesOn (K : Act → World → Prop) : Exit → Act → World → Prop := Exit.then K (fun _ _ _ => False)
theorem goesOn_not {K : Act → World → Prop} : ¬ LetsOut (goesOn K) := fun ⟨_, _, h⟩ => h
theorem calls_round {P : Program} {f : FuncId} {args : Array Value} {w : World} {R : Ending → World → Prop} (n l : Nat) (h : Calls P f args w R) : CallsIn (Fence.wide.inRound l) n P f args w R := CallsIn.inRound l (callsIn_wide.2 h)
theorem rows_round {P : Program} {row : String} {args : Array Value} {w : World} {R : Value → World → Prop} (n l : Nat) (h : Rows P row args w R) : RowsIn (Fence.wide.inRound l) n P row args w R := fun c cs _ =>
  let ⟨v, w', r, s⟩ := h c cs
  ⟨v, w', r, stepsIn_wide.2 s⟩
theorem wpIn_of_wp {P : Program} {o : Oper} {a : Act} {w : World} {next next' K : Act → World → Prop} {Q : Exit → Act → World → Prop} (n l : Nat) (hd : ∀ c, o.op ≠ .defer c) (hn : ∀ a w, next a w → next' a w)
    (h : o.wp P a w next (goesOn K)) : o.wpIn (Fence.wide.inRound l) n P a w next' Q := by
  refine ⟨fun _ _ => trivial, ?_⟩
  have hs : o.semAt (Fence.wide.inRound l).round a.eval = execOp a.eval o := Oper.semAt_some l a.eval o hd
  rw [hs]
  unfold Oper.wp at h
  generalize (execOp a.eval o).run P w = r at h ⊢
  cases r with
  | ok x w' =>
    cases x with
    | value v => exact hn _ _ h
    | skip => exact hn _ _ h
    | defer d => exact hn _ _ h
    | enter f args => exact ⟨fun h => (by cases h), (calls_round (n - 1) l h).mono fun e w'' he => by
        cases e with
        | returned v => exact hn _ _ he
        | panicked c => exact he.elim
        | outgrown => exact (goesOn_not he).elim⟩
    | row r args => exact ⟨fun h => (by cases h), (rows_round (n - 1) l h).mono fun v w'' he => hn _ _ he⟩
    | _ => exact h.elim
  | halt x w' => cases x <;> exact h.elim
theorem wpOpIn_of_wpOp {P : Program} {ops : Array Oper} {i : Nat} {a : Act} {w : World} {next next' K : Act → World → Prop} {Q : Exit → Act → World → Prop} (n l : Nat) (hd : noDefer ops = true) (hn : ∀ a w, next a w → next' a w)
    (h : wpOp P ops (goesOn K) i next a w) : wpOpIn (Fence.wide.inRound l) n P ops Q i next' a w := by
  unfold wpOp at h
  unfold wpOpIn
  cases ho : ops[i]? with
  | none => rw [ho] at h; exact hn _ _ h
  | some o =>
    rw [ho] at h
    dsimp only at h ⊢
    split
    · rename_i hw
      rw [if_pos hw] at h
      rcases h with h | ⟨_, h⟩
      · exact wpIn_of_wp n l (noDefer_at hd ho) hn h
      · exact (goesOn_not h).elim
    · rename_i hw
      rw [if_neg hw] at h
      exact ⟨fun _ _ => trivial, hn _ _ h⟩
theorem wpAnyIn_of_wpAny {P : Program} {md : Region.Mode} {ops : Array Oper} {Q : Exit → Act → World → Prop} (n l : Nat) (hd : noDefer ops = true) : ∀ (f : Nat) (ls : Array Bool) (a : Act) (w : World),
    wpAny P md ops (goesOn (Q .normal)) f ls a w → wpAnyIn (Fence.wide.inRound l) n P md ops Q f ls a w
  | 0, _, _, _, h => h
  | f + 1, _, _, _, h => ⟨h.1, fun i hi => wpOpIn_of_wpOp n l hd (fun a' w' h' => wpAnyIn_of_wpAny n l hd f _ a' w' h') (h.2 i hi)⟩
/-- A region that draws, in a round. -/
theorem wpIn_round_any {P : Program} {id : Nat} {ops : Array Oper} {Q : Exit → Act → World → Prop} {a : Act} {w : World} {n l : Nat} (hm : P.follows .mixedOrders = true) (hd : noDefer ops = true)
    (h : wpAny P .any ops (goesOn (Q .normal)) ops.size (Array.replicate ops.size false) a { w with drawn := w.drawn + 1 }) : (Code.region id ops true).wpIn (Fence.wide.inRound l) n P Q a w :=
  wpIn_region_any hm (wpAnyIn_of_wpAny n l hd _ _ _ _ h)
theorem wpListIn_of_wpList {P : Program} {ops : Array Oper} {Q : Exit → Act → World → Prop} (n l : Nat) : ∀ (os : List Oper) (a : Act) (w : World), (∀ o ∈ os, ∀ c, o.op ≠ .defer c) →
    wpList P ops (goesOn (Q .normal)) os a w → wpListIn (Fence.wide.inRound l) n P ops Q os a w
  | [], _, _, _, h => h
  | o :: os, a, w, hd, h => by
    have hd' := fun x hx => hd x (List.mem_cons_of_mem _ hx)
    unfold wpList at h
    unfold wpListIn
    split
    · rename_i hw
      rw [if_pos hw] at h
      rcases h with h | ⟨_, h⟩
      · exact wpIn_of_wp n l (hd o List.mem_cons_self) (fun a' w' h' => wpListIn_of_wpList n l os a' w' hd' h') h
      · exact (goesOn_not h).elim
    · rename_i hw
      rw [if_neg hw] at h
      exact ⟨fun _ _ => trivial, wpListIn_of_wpList n l os _ _ hd' h⟩
/-- A region that doesn't draw, in a round. -/
theorem wpIn_round_list {P : Program} {id : Nat} {os : List Oper} {Q : Exit → Act → World → Prop} {a : Act} {w : World} {n l : Nat} (hd : noDefer os.toArray = true)
    (h : wpList P os.toArray (goesOn (Q .normal)) os a w) : (Code.region id os.toArray false).wpIn (Fence.wide.inRound l) n P Q a w :=
  wpIn_region_lit (wpListIn_of_wpList n l os a w (fun o ho => by
    obtain ⟨i, hi, he⟩ := List.mem_iff_getElem.1 ho
    exact noDefer_at hd (i := i) (by rw [← he]; simp [hi])) h)
/-- What is left of a region's list, in a round: shown by the plain rules from here on. -/
theorem wpListIn_plainly {P : Program} {ops : Array Oper} {os : List Oper} {Q : Exit → Act → World → Prop} {a : Act} {w : World} {n l : Nat} (hd : noDefer os.toArray = true)
    (h : wpList P ops (goesOn (Q .normal)) os a w) : wpListIn (Fence.wide.inRound l) n P ops Q os a w :=
  wpListIn_of_wpList n l os a w (fun o ho => by
    obtain ⟨i, hi, he⟩ := List.mem_iff_getElem.1 ho
    exact noDefer_at hd (i := i) (by rw [← he]; simp [hi])) h
theorem goesOn_normal {K : Act → World → Prop} {a : Act} {w : World} (h : K a w) : goesOn K .normal a w := h
end Go.Proofs.Ytffglnccpbbclaa
