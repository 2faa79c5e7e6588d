/- Texts that the claims of this seat share, part 6: FBoth. -/
import Derived.Test.YtocodcceimeiiaaDoorG5
/- What layer 19's laws of values share: the program and the reference take the same. Written by gen_wire_laws2.py. -/















namespace Go.Proofs.YtocodcceimeiiaaDoor

open Go.RowKit Go.ChangeShapes Go.WideShapes Go.ChangeAt

theorem eqV_guard (a b : CV) (x y : Operand) (W : World) : (eqGuard .eql 32 x y (cv a) (cv b)).run Tryd.prog W = .ok () W := run_eqGuard_agg (P := Tryd.prog) W .eql 32 x y (kcells a).toArray (kcells b).toArray (by kernel_rfl)
theorem eqV_run (a : CV) (W : World) : (binOp .eql 32 (cv a) (cv a)).run Tryd.prog W = .ok (.bool true) W := by
  have h := eqV 9998 a a W
  rw [cvEq_self] at h
  unfold cv at h ⊢
  rw [run_eql_struct, h]
  rfl
theorem eqV_in (a : CV) (W : World) : (Op.equalIn 10000 32 (cv a) (cv a)).run Tryd.prog W = .ok true W := by
  have h := eqV 9998 a a W
  rw [cvEq_self] at h
  exact h
theorem eqS_in (a : GS) (W : World) : (Op.equalIn 10000 36 (gsv a) (gsv a)).run Tryd.prog W = .ok true W := eqS_self a W
def ferr (b : Bool) : Int := if b = true then 0 else 2
theorem retVE_uni {w : World} {o : Option CV} {e : Ending} {w' : World} (h : RetVE w o e w') : e = .returned (.tuple #[cv (o.getD cv0), .int .i64 (ferr o.isSome)]) ∧ Below w.heap.size w w' := by
  cases o <;> exact h
theorem retGE_uni {w : World} {o : Option GS} {e : Ending} {w' : World} (h : RetGE w o e w') : e = .returned (.tuple #[gsv (o.getD gs0), .int .i64 (ferr o.isSome)]) ∧ Below w.heap.size w w' := by
  cases o <;> exact h
theorem fput1_posB (f : WF) : 1 ≤ (fput1 f).length := by
  cases h : f.bytes with
  | true => rw [fput1_byt h, List.length_append]; have := vput_len_pos (8 * f.tag + 2).toNat; omega
  | false => rw [fput1_num h, List.length_append]; have := vput_len_pos (8 * f.tag).toNat; omega
theorem fput_count : ∀ l : List WF, l.length ≤ (l.flatMap fput1).length
  | [] => Nat.zero_le _
  | f :: l => by rw [List.flatMap_cons, List.length_append, List.length_cons]; have := fput_count l; have := fput1_posB f; omega
theorem retFX_uni {T : TypeId} {b : List UInt8} {w : World} {e : Ending} {w' : World} (hl : b.length ≤ 1000) (h : RetFX T w (ftakeE b) e w') : (∃ fs u, e = .returned (.tuple #[u, .int .i64 (ferr (ftakeE b).isSome)]) ∧ fs.map FN.wf = (ftakeE b).getD [] ∧ IsFields fs u w') ∧ Below w.heap.size w w' := by
  cases ho : ftakeE b with
  | none =>
    rw [ho] at h
    exact ⟨⟨[], _, h.1, rfl, isR_nil _ _, fun f hf => by cases hf⟩, h.2⟩
  | some l =>
    rw [ho] at h
    obtain ⟨fs, v, h1, h2, h3, h4, h5⟩ := h
    obtain ⟨hok, hb⟩ := ftakeE_back b.length (Nat.le_refl _) ho
    refine ⟨⟨fs, v, h1, h2, isFields_own h3 fun f hf => ?_⟩, h5⟩
    have hm : f.wf ∈ l := h2 ▸ List.mem_map.2 ⟨f, hf, rfl⟩
    have hk := hok _ hm
    have hle := flen_in hok _ hm
    rw [← hb] at hle
    have ht : 1 ≤ f.tag ∧ f.tag ≤ 100 := hk.tag
    exact ⟨(h4 f hf).1, ⟨by omega, by omega⟩, hk.n, by have : f.wf.b = f.b := rfl; rw [this] at hle; omega⟩
theorem ftake_few {b : List UInt8} (hl : b.length ≤ 1000) : ((ftakeE b).getD []).length ≤ 1000 := by
  cases ho : ftakeE b with
  | none => simp
  | some l =>
    obtain ⟨hok, hb⟩ := ftakeE_back b.length (Nat.le_refl _) ho
    have := fput_count l
    show l.length ≤ 1000
    rw [← hb] at this
    omega
theorem bothT (b : List UInt8) (hl : b.length ≤ 1000) : ∃ (l : List WF) (z : Int), l.length ≤ 1000 ∧ (∀ (v : Value) (w : World), IsB b v w → Calls Tryd.prog 6 #[v] w fun e w' => (∃ fs u, e = .returned (.tuple #[u, .int .i64 z]) ∧ fs.map FN.wf = l ∧ IsFields fs u w') ∧ Below w.heap.size w w') ∧ (∀ (v : Value) (w : World), IsB b v w → Calls Tryd.prog 7 #[v] w fun e w' => (∃ fs u, e = .returned (.tuple #[u, .int .i64 z]) ∧ fs.map FN.wf = l ∧ IsFields fs u w') ∧ Below w.heap.size w w') :=
  ⟨(ftakeE b).getD [], ferr (ftakeE b).isSome, ftake_few hl, fun v w h => (ftake_own b v w h (by omega)).mono fun e w' h => retFX_uni hl h, fun v w h => (rftake_any b v w h (by omega)).mono fun e w' h => retFX_uni hl h⟩
theorem bothV (b : List UInt8) (hl : b.length ≤ 3000) : ∃ (xb : Bool) (xn : Int) (xs : ByteArray) (x : Int), (∀ (v : Value) (w : World), IsB b v w → Calls Tryd.prog 8 #[v] w fun e w' => e = .returned (.tuple #[.agg #[.bool xb, .int .i64 xn, .string xs], .int .i64 x]) ∧ Below w.heap.size w w') ∧ (∀ (v : Value) (w : World), IsB b v w → Calls Tryd.prog 9 #[v] w fun e w' => e = .returned (.tuple #[.agg #[.bool xb, .int .i64 xn, .string xs], .int .i64 x]) ∧ Below w.heap.size w w') :=
  ⟨((ftakeV b).getD cv0).null, ((ftakeV b).getD cv0).n, ((ftakeV b).getD cv0).s, ferr (ftakeV b).isSome, fun v w h => (ftakeV_own b v w h (by omega)).mono fun e w' h => retVE_uni h, fun v w h => (rtakeV_any b v w h hl).mono fun e w' h => retVE_uni h⟩
theorem bothG (k : Int) (b : List UInt8) (hl : b.length ≤ 3000) : ∃ (gc : Int) (gh lb : Bool) (ln : Int) (ls : ByteArray) (mb : Bool) (mn : Int) (ms : ByteArray) (gs : Int) (go : Bool) (y : Int), (∀ (v : Value) (w : World), IsB b v w → Calls Tryd.prog 10 #[.int .i64 k, v] w fun e w' => e = .returned (.tuple #[.agg #[.int .i64 gc, .bool gh, .bool lb, .int .i64 ln, .string ls, .bool mb, .int .i64 mn, .string ms, .int .i64 gs, .bool go], .int .i64 y]) ∧ Below w.heap.size w w') ∧ (∀ (v : Value) (w : World), IsB b v w → Tryd.U8 w → Calls Tryd.prog 11 #[.int .i64 k, v] w fun e w' => e = .returned (.tuple #[.agg #[.int .i64 gc, .bool gh, .bool lb, .int .i64 ln, .string ls, .bool mb, .int .i64 mn, .string ms, .int .i64 gs, .bool go], .int .i64 y]) ∧ Below w.heap.size w w') := by
  obtain ⟨S, hS⟩ : ∃ S, S = (ftakeG k b).getD gs0 := ⟨_, rfl⟩
  refine ⟨S.count, S.has, S.min.null, S.min.n, S.min.s, S.max.null, S.max.n, S.max.s, S.sum, S.over, ferr (ftakeG k b).isSome, fun v w h => (ftakeG_own k b v w h (by omega)).mono fun e w' h => ?_, fun v w h hU => (rtakeG_any k b v w h hl hU).mono fun e w' h => ?_⟩
  · rw [hS]; exact retGE_uni h
  · rw [hS]; exact retGE_uni h
end Go.Proofs.YtocodcceimeiiaaDoor
