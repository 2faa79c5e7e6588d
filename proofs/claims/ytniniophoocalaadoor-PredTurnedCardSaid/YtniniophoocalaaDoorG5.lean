/- Texts that the claims of this seat share, part 5: HOuts HCl HRch. -/
import Derived.Test.YtniniophoocalaaDoorG4
/- The contract of layer 18's reference: Outcomes. Written by gen_houts2.py. -/



namespace Go.Proofs.YtniniophoocalaaDoor

open Go.RowKit

theorem row_belowB {w w' : World} {B g : Nat} {t : TypeId} {cs : List Value} (hr : Row w g t cs) (hb : Below B w w') (hg : g < B) : Row w' g t cs := (hb.block g hg).trans hr
theorem cells3T {w : World} {ad : Addr} {k : Nat} {x : T3} (h : ∀ i, i < 3 → w.cell? (ad.add (k * 3 + i)) = (t3c x)[i]?) :
    w.cell? (ad.add (k * 3)) = some (.bool x.no) ∧ w.cell? ⟨(ad.add (k * 3)).block, (ad.add (k * 3)).off + 1, none⟩ = some (.bool x.un) ∧ w.cell? ⟨(ad.add (k * 3)).block, (ad.add (k * 3)).off + 2, none⟩ = some (.bool x.yes) := by
  refine ⟨h 0 (by omega), ?_, ?_⟩
  · have h1 := h 1 (by omega); rw [← add_add] at h1; exact h1
  · have h1 := h 2 (by omega); rw [← add_add] at h1; exact h1
def HOutRel (l : List HN) (s : List GS) (w : World) (ov i : Value) (wr : World) : Prop :=
  ∃ j : Nat, j ≤ l.length ∧ i = .int .i64 (j : Int) ∧ wr.ownsRow (w.heap.size + 1) 44 3 ov j ((hpouts s (l.take j) []).flatMap t3c) ∧ Row wr w.heap.size 44 [.bool false, .bool false, .bool false] ∧ Below w.heap.size w wr ∧ w.heap.size + 1 ≤ wr.heap.size
def HNamedRel (w0 : World) (pcs : List Value) (f : T3 → T3 → T3) (x : T3) (qs : List Int) (out : List T3) (k : Value) (wr : World) : Prop :=
  ∃ m : Nat, m ≤ qs.length ∧ k = .int .i64 ((m : Int) + 1) ∧ HKeep w0 pcs ((qs.take m).foldl (fun x q => f x (out.getD q.toNat hpno3)) x) wr
set_option maxHeartbeats 16000000 in
set_option maxRecDepth 100000 in
theorem routs18_any (ks : List Int) (l : List HN) (s : List GS) (lvv sv : Value) (w : World) (hl : IsPreds l lvv w) (hs : IsR gcells s sv w) (hok : ∀ i (h : i < l.length), HOk ks i l[i]) (h1 : 1 ≤ l.length) (h40 : l.length ≤ 40) (hsl : ks.length ≤ s.length) (hb : s.length ≤ 1000000) :
    Calls Tryd.prog 17 #[lvv, sv] w fun e w' => e = .returned (t3v (hpoutE l s)) ∧ Below w.heap.size w w' := by
  have HL := Lib.hid hl
  have HS := Lib.hid hs
  have HOKS := Lib.hid hok
  have HSL := Lib.hid hsl
  have HSB := Lib.hid hb
  have HL1 := Lib.hid h1
  obtain ⟨A, n, c, rfl⟩ := hl.1.shape
  have HN := Lib.hid hl.1.parts.1
  have hn40 : n ≤ 40 := by have := HN.out; omega
  have HST : Hid (HOutRel l s w (.slice (some ⟨w.heap.size + 1, 0, none⟩) 0 0) (.int .i64 0) ((w.alloc (.cells #[.bool false, .bool false, .bool false] 44)).alloc (.cells #[] 44))) := Lib.hid (by
    have hz : (w.alloc (.cells #[.bool false, .bool false, .bool false] 44)).heap.size = w.heap.size + 1 := by simp
    have ho := ownW_made (w.alloc (.cells #[.bool false, .bool false, .bool false] 44)) 44 3
    rw [hz] at ho
    exact ⟨0, Nat.zero_le _, rfl, ho, (show Row (w.alloc (.cells #[.bool false, .bool false, .bool false] 44)) w.heap.size 44 [.bool false, .bool false, .bool false] from heap_alloc_new w _).alloc _, ((Below.refl _ _).alloc (Nat.le_refl _) _).alloc (by simp) _, by simp⟩)
  clear hl hs hok hsl hb h1 h40
  go_enter Tryd.func17, Tryd.ntmps17
  go_wp2
  go_loopw [5, 6] (HOutRel l s w) (fun _ i _ => n - (intOf i).toNat)
  case atStart => exact HST.out
  case round =>
    obtain ⟨j, hj, rfl, hown, hr4, hbw, hsz⟩ := hrel
    have hjn : j ≤ n := by have := HN.out; omega
    have HOWN0 := Lib.hid hown
    have HR40 := Lib.hid hr4
    have HBW := Lib.hid hbw
    have HSZ := Lib.hid hsz
    obtain ⟨O, hO⟩ : ∃ O, O = hpouts s (l.take j) [] := ⟨_, rfl⟩
    rw [← hO] at HOWN0
    have HOL : Hid (O.length = j) := Lib.hid (by rw [hO, hpouts_len, List.length_take, Nat.min_eq_left hj]; simp)
    have HOE := Lib.hid hO
    clear hj hown hbw hO hr4 hsz
    by_cases hlt : j < n
    · have hjl : j < l.length := by have := HN.out; omega
      have hlti : (j : Int) < (n : Int) := by omega
      obtain ⟨ad, rfl, had, hcell⟩ := (HL.out.1.below HBW.out).at (m := 7) (fun _ => rfl) (by omega) hjl
      have HNEXT : Hid (hpouts s (l.take (j + 1)) [] = O ++ [hpout1 l[j] s O]) := Lib.hid (by rw [hpouts_next s hjl, ← HOE.out])
      have HOK := Lib.hid (HOKS.out j hjl)
      have HAT0 := Lib.hid ((HL.out.2 l[j] (List.getElem_mem hjl)).below HBW.out)
      obtain ⟨x, hx⟩ : ∃ x, x = l[j] := ⟨_, rfl⟩
      rw [← hx] at hcell HNEXT HOK HAT0
      obtain ⟨k0, k1, k2, k3, k4, k5, k6⟩ := cells7 hcell
      obtain ⟨op, col, ⟨nb, nn, ns⟩, vals, ls, vv, lv⟩ := x
      dsimp only at k0 k1 k2 k3 k4 k5 k6
      obtain ⟨vA, vm, vc, rfl⟩ := HAT0.out.vals.shape
      obtain ⟨lA, lm, lc, rfl⟩ := HAT0.out.ls.shape
      have HLS0 : Hid (IsV iv ls (.slice lA lm lc) wr) := Lib.hid HAT0.out.ls
      have hlmI : (lm : Int) ≤ 9223372036854775807 := by have h := HLS0.out.parts; have h2 := h.2.2.1; have h3 := h.2.2.2.1; unfold maxLen at h3; omega
      clear hcell had hx
      have hb1 : Below wr.heap.size wr ((wr.alloc (.cells #[.int .i64 op, .int .i64 col, .bool nb, .int .i64 nn, .string ns, .slice vA vm vc, .slice lA lm lc] 51)).alloc (.cells #[.bool false, .bool false, .bool false] 44)) := ((Below.refl _ _).alloc (Nat.le_refl _) _).alloc (by simp) _
      have HBX : Hid (Row ((wr.alloc (.cells #[.int .i64 op, .int .i64 col, .bool nb, .int .i64 nn, .string ns, .slice vA vm vc, .slice lA lm lc] 51)).alloc (.cells #[.bool false, .bool false, .bool false] 44)) wr.heap.size 51 [.int .i64 op, .int .i64 col, .bool nb, .int .i64 nn, .string ns, .slice vA vm vc, .slice lA lm lc]) := Lib.hid ((show Row (wr.alloc (.cells #[.int .i64 op, .int .i64 col, .bool nb, .int .i64 nn, .string ns, .slice vA vm vc, .slice lA lm lc] 51)) wr.heap.size 51 [.int .i64 op, .int .i64 col, .bool nb, .int .i64 nn, .string ns, .slice vA vm vc, .slice lA lm lc] from heap_alloc_new wr _).alloc _)
      have HLS := Lib.hid (HLS0.out.below hb1)
      have HB1 := Lib.hid hb1
      have HOV0 := Lib.hid (isR_own (m := 3) (f := t3c) (fun _ => rfl) (by omega) HOWN0.out)
      obtain ⟨oA, on, oc, rfl⟩ := HOV0.out.shape
      have HON : Hid (on = j) := Lib.hid (by rw [← HOV0.out.parts.1]; exact HOL.out)
      have HOV := Lib.hid (HOV0.out.below hb1)
      clear hb1
      by_cases h1 : op = 1
      · subst h1
        obtain ⟨n1, _, n3⟩ := HOK.out.named (by dsimp only; omega)
        dsimp only at n1 n3
        obtain ⟨q0, qs, hqs⟩ : ∃ q0 qs, ls = q0 :: qs := by
          cases ls with
          | nil => simp at n1
          | cons q0 qs => exact ⟨q0, qs, rfl⟩
        subst hqs
        have hq0 := n3 q0 (by simp)
        have HN3 := Lib.hid n3
        obtain ⟨qa, rfl⟩ := Int.eq_ofNat_of_zero_le hq0.1
        have hqa : qa < j := by omega
        have hqai : (qa : Int) < (on : Int) := by have := HON.out; omega
        obtain ⟨a2, rfl, _, hl0⟩ := HLS.out.at (k := 0) (by simp)
        have ha0 : a2.add 0 = a2 := by simp [Addr.add]
        rw [ha0] at hl0
        have hl0' : ((wr.alloc (.cells #[.int .i64 1, .int .i64 col, .bool nb, .int .i64 nn, .string ns, .slice vA vm vc, .slice (some a2) lm lc] 51)).alloc (.cells #[.bool false, .bool false, .bool false] 44)).cell? a2 = some (.int .i64 (qa : Int)) := hl0
        obtain ⟨oa, hOA, _, hcx⟩ := HOV.out.at (m := 3) (fun _ => rfl) (by omega) (k := qa) (by rw [HOL.out]; exact hqa)
        subst hOA
        obtain ⟨X0, hX0⟩ : ∃ X0, X0 = O.getD qa hpno3 := ⟨_, rfl⟩
        rw [show O[qa]'(by rw [HOL.out]; exact hqa) = X0 by rw [hX0, getD_lt (by rw [HOL.out]; exact hqa)]] at hcx
        obtain ⟨x0, x1, x2⟩ := cells3T hcx
        have HX0 := Lib.hid hX0
        have HLM := Lib.hid HLS.out.parts.1
        have hlm1 : 1 ≤ lm := by rw [← HLM.out]; simp
        have b0 := HBX.out.cell 0
        have b6 := HBX.out.cell 6
        have HNX : Hid (hpouts s (l.take (j + 1)) [] = O ++ [qs.foldl (fun x q => hpboth x (O.getD q.toNat hpno3)) X0]) := Lib.hid (by rw [HNEXT.out, HX0.out]; rfl)
        clear n1 n3 hl0 hcx hX0 hq0
        obtain ⟨w0, rfl⟩ : ∃ x, x = wr := ⟨wr, rfl⟩
        have HK0 : Hid (HKeep w0 [.int .i64 1, .int .i64 col, .bool nb, .int .i64 nn, .string ns, .slice vA vm vc, .slice (some a2) lm lc] X0 ((w0.alloc (.cells #[.int .i64 1, .int .i64 col, .bool nb, .int .i64 nn, .string ns, .slice vA vm vc, .slice (some a2) lm lc] 51)).alloc (.cells #[.bool X0.no, .bool X0.un, .bool X0.yes] 44))) := Lib.hid ⟨((Below.refl _ _).alloc (Nat.le_refl _) _).alloc (by simp) _, (show Row (w0.alloc (.cells #[.int .i64 1, .int .i64 col, .bool nb, .int .i64 nn, .string ns, .slice vA vm vc, .slice (some a2) lm lc] 51)) w0.heap.size 51 [.int .i64 1, .int .i64 col, .bool nb, .int .i64 nn, .string ns, .slice vA vm vc, .slice (some a2) lm lc] from heap_alloc_new w0 _).alloc _, by
          have h : Row ((w0.alloc (.cells #[.int .i64 1, .int .i64 col, .bool nb, .int .i64 nn, .string ns, .slice vA vm vc, .slice (some a2) lm lc] 51)).alloc (.cells #[.bool X0.no, .bool X0.un, .bool X0.yes] 44)) (w0.alloc (.cells #[.int .i64 1, .int .i64 col, .bool nb, .int .i64 nn, .string ns, .slice vA vm vc, .slice (some a2) lm lc] 51)).heap.size 44 (t3c X0) := heap_alloc_new _ _
          simpa using h⟩
        have HST := Lib.hid (show HNamedRel w0 [.int .i64 1, .int .i64 col, .bool nb, .int .i64 nn, .string ns, .slice vA vm vc, .slice (some a2) lm lc] hpboth X0 qs O (.int .i64 1) _ from ⟨0, Nat.zero_le _, rfl, HK0.out⟩)
        go_wp2
        go_loopw [9] (HNamedRel w0 [.int .i64 1, .int .i64 col, .bool nb, .int .i64 nn, .string ns, .slice vA vm vc, .slice (some a2) lm lc] hpboth X0 qs O) (fun i _ => lm - (intOf i).toNat)
        case atStart => exact HST.out
        case round =>
          obtain ⟨m, hm, rfl, hk⟩ := hrel
          obtain ⟨w1, rfl⟩ : ∃ x, x = wr := ⟨wr, rfl⟩
          have HK := Lib.hid hk
          obtain ⟨X, hX⟩ : ∃ X, X = (qs.take m).foldl (fun x q => hpboth x (O.getD q.toNat hpno3)) X0 := ⟨_, rfl⟩
          rw [← hX] at HK
          have HXX := Lib.hid hX
          have HLQN : Hid (lm = qs.length + 1) := Lib.hid (by have h := HLM.out; simp at h; omega)
          have n0 := HK.out.node.cell 0
          have n6 := HK.out.node.cell 6
          have hb01 := HK.out.old
          clear hk hX b0 b6
          by_cases hlt : m + 1 < lm
          · have hmq : m < qs.length := by have := HLQN.out; omega
            have hlti : ((m : Int) + 1) < (lm : Int) := by omega
            obtain ⟨m1, hm1⟩ : ∃ m1, m1 = m + 1 := ⟨_, rfl⟩
            have hm1i : ((m : Int) + 1) = (m1 : Int) := by omega
            obtain ⟨qz, hqz⟩ : ∃ qz, qz = qs[m] := ⟨_, rfl⟩
            have hqr := HN3.out qz (by rw [hqz]; exact List.mem_cons_of_mem _ (List.getElem_mem hmq))
            obtain ⟨q, rfl⟩ := Int.eq_ofNat_of_zero_le hqr.1
            have hq : q < j := by omega
            have hqi : (q : Int) < (on : Int) := by have := HON.out; omega
            have HQL : Hid (q < O.length) := Lib.hid (by rw [HOL.out]; exact hq)
            have HLQ : Hid (∀ X, Below w0.heap.size w0 X → X.cell? (a2.add m1) = some (.int .i64 (q : Int))) := Lib.hid (fun X hX => by
              obtain ⟨a3, hA3, _, hc⟩ := (HLS0.out.below hX).at (k := m + 1) (by simp; omega)
              injection hA3 with hA3
              subst hA3
              rw [hm1, hc]
              simp only [List.getElem_cons_succ]
              rw [← hqz]
              rfl)
            have HOR : Hid (∀ X, Below w0.heap.size w0 X → IsR t3c O (.slice (some oa) on oc) X) := Lib.hid (fun X hX => HOV0.out.below hX)
            obtain ⟨Y, hY⟩ : ∃ Y, Y = O.getD q hpno3 := ⟨_, rfl⟩
            have HYQ : Hid (Y = O[q]'HQL.out) := Lib.hid (by rw [hY, getD_lt HQL.out])
            have HFN : Hid ((qs.take (m + 1)).foldl (fun x q => hpboth x (O.getD q.toNat hpno3)) X0 = hpboth X Y) := Lib.hid (by rw [List.take_succ_eq_append_getElem hmq, List.foldl_append, ← HXX.out, ← hqz, hY]; rfl)
            have HM1 := Lib.hid hm1
            have HMI := Lib.hid hm1i
            obtain ⟨h, hh⟩ : ∃ h, h = w1.heap.size := ⟨_, rfl⟩
            have HH := Lib.hid hh
            have HKA : Hid (HKeep2 w0 [.int .i64 1, .int .i64 col, .bool nb, .int .i64 nn, .string ns, .slice vA vm vc, .slice (some a2) lm lc] X (hppart min X Y 0) h (w1.alloc (.cells #[.bool false, .bool false, .bool false] 44))) := Lib.hid ⟨HK.out.alloc _, by rw [hh]; exact HK.out.cur.lt, by rw [hh]; exact heap_alloc_new w1 _⟩
            have HSA := Lib.hid (show HARel w0 [.int .i64 1, .int .i64 col, .bool nb, .int .i64 nn, .string ns, .slice vA vm vc, .slice (some a2) lm lc] min X Y h (.int .i64 0) _ from ⟨0, by omega, rfl, HKA.out⟩)
            clear hqz hqr hY hm1 hh
            go_wp2
            rw [← HH.out]
            go_loopw [11] (HARel w0 [.int .i64 1, .int .i64 col, .bool nb, .int .i64 nn, .string ns, .slice vA vm vc, .slice (some a2) lm lc] min X Y h) (fun i _ => 3 - (intOf i).toNat)
            case atStart => exact HSA.out
            case round =>
              obtain ⟨a, ha, rfl, hka⟩ := hrel
              obtain ⟨w2, rfl⟩ : ∃ x, x = wr := ⟨wr, rfl⟩
              have HK2 := Lib.hid hka
              clear hka n0 n6 hb01
              by_cases ha3 : a < 3
              · have hai : (a : Int) < 3 := by omega
                have HSB := Lib.hid (show HBRel w0 [.int .i64 1, .int .i64 col, .bool nb, .int .i64 nn, .string ns, .slice vA vm vc, .slice (some a2) lm lc] min X Y h a (.int .i64 0) w2 from ⟨0, by omega, rfl, HK2.out⟩)
                go_wp2
                go_loopw [12] (HBRel w0 [.int .i64 1, .int .i64 col, .bool nb, .int .i64 nn, .string ns, .slice vA vm vc, .slice (some a2) lm lc] min X Y h a) (fun i _ => 3 - (intOf i).toNat)
                case atStart => exact HSB.out
                case round =>
                  obtain ⟨b, hb, rfl, hkb⟩ := hrel
                  obtain ⟨w3, rfl⟩ : ∃ x, x = wr := ⟨wr, rfl⟩
                  have HK3 := Lib.hid hkb
                  clear hkb
                  by_cases hb3 : b < 3
                  · have hkp := HK3.out.keep
                    have hfar := HK3.out.far
                    obtain ⟨cm, hcm⟩ : ∃ cm : Nat, max (a : Int) (b : Int) = (cm : Int) := ⟨(max (a : Int) (b : Int)).toNat, by omega⟩
                    obtain ⟨ci, hci⟩ : ∃ ci : Nat, min (a : Int) (b : Int) = (ci : Int) := ⟨(min (a : Int) (b : Int)).toNat, by omega⟩
                    have hci3 : ci < 3 := by omega
                    have hcii : (ci : Int) < 3 := by omega
                    have hai : (a : Int) < 3 := by omega
                    have hbi : (b : Int) < 3 := by omega
                    obtain ⟨tb, htb⟩ : ∃ tb, tb = (hppart min X Y (3 * a + b)).at_ (ci : Int) := ⟨_, rfl⟩
                    obtain ⟨xa, hxa⟩ : ∃ xa, xa = X.at_ (a : Int) := ⟨_, rfl⟩
                    obtain ⟨yb, hyb⟩ : ∃ yb, yb = Y.at_ (b : Int) := ⟨_, rfl⟩
                    have e1 : w3.cell? ⟨h, ci, none⟩ = some (.bool tb) := by rw [HK3.out.new.cell, t3c_at _ hci3, htb]
                    have e2 : w3.cell? ⟨w0.heap.size + 1, a, none⟩ = some (.bool xa) := by rw [hkp.cur.cell, t3c_at _ (by omega), hxa]
                    have e3 : w3.cell? ((oa.add (q * 3)).add b) = some (.bool yb) := by
                      obtain ⟨oa', hOA', _, hc⟩ := (HOR.out w3 hkp.old).at (m := 3) (fun _ => rfl) (by omega) HQL.out
                      injection hOA' with hOA'
                      subst hOA'
                      rw [add_add, hc b (by omega), ← HYQ.out, t3c_at _ (by omega), hyb]
                    have e4 : w3.cell? (a2.add m1) = some (.int .i64 (q : Int)) := HLQ.out w3 hkp.old
                    have e5 := hkp.node.cell 0
                    have e6 := hkp.node.cell 6
                    have fr := HK3.out.new.free ci
                    have HNXP : Hid (hppart min X Y (3 * a + (b + 1)) = (hppart min X Y (3 * a + b)).put (ci : Int) (tb || (xa && yb))) := Lib.hid (by
                      rw [← Nat.add_assoc, hppart_next min X Y (by omega) (by omega)]
                      unfold hpstep
                      rw [hci, htb, hxa, hyb])
                    have HPUT := Lib.hid (fun v => HK3.out.put hci3 v)
                    clear htb hxa hyb hkp hfar
                    cases tb with
                    | true =>
                      have HEQ : Hid ((hppart min X Y (3 * a + b)).put (ci : Int) (true) = hppart min X Y (3 * a + (b + 1))) := Lib.hid (by rw [HNXP.out]; rfl)
                      go_wp2
                      go_roundw
                      case rel => exact ⟨b + 1, by omega, by go_num, by rw [← HEQ.out]; exact HPUT.out _⟩
                      case measure => simp [intOf]; omega
                    | false =>
                      cases xa with
                      | false =>
                        have HEQ : Hid ((hppart min X Y (3 * a + b)).put (ci : Int) (false) = hppart min X Y (3 * a + (b + 1))) := Lib.hid (by rw [HNXP.out]; rfl)
                        go_wp2
                        go_roundw
                        case rel => exact ⟨b + 1, by omega, by go_num, by rw [← HEQ.out]; exact HPUT.out _⟩
                        case measure => simp [intOf]; omega
                      | true =>
                        have HEQ : Hid ((hppart min X Y (3 * a + b)).put (ci : Int) (yb) = hppart min X Y (3 * a + (b + 1))) := Lib.hid (by rw [HNXP.out]; rfl)
                        go_wp2
                        go_roundw
                        case rel => exact ⟨b + 1, by omega, by go_num, by rw [← HEQ.out]; exact HPUT.out _⟩
                        case measure => simp [intOf]; omega
                  · obtain rfl : b = 3 := by omega
                    have HEND : Hid (HARel w0 [.int .i64 1, .int .i64 col, .bool nb, .int .i64 nn, .string ns, .slice vA vm vc, .slice (some a2) lm lc] min X Y h (.int .i64 ((a : Int) + 1)) w3) := Lib.hid ⟨a + 1, by omega, by go_num, by have h1 := HK3.out; rw [show 3 * a + 3 = 3 * (a + 1) by omega] at h1; exact h1⟩
                    go_wp2
                    go_roundw
                    case rel => exact HEND.out
                    case measure => simp [intOf]; omega
              · obtain rfl : a = 3 := by omega
                have HFULL : Hid (hppart min X Y (3 * 3) = hpboth X Y) := Lib.hid (hppart_and X Y)
                have hnew := HK2.out.new
                have hcur := HK2.out.keep.cur
                rw [HFULL.out] at hnew
                have hold := HK2.out.keep.old
                have hfar := HK2.out.far
                obtain ⟨Z, hZ⟩ : ∃ Z, Z = hpboth X Y := ⟨_, rfl⟩
                rw [← hZ] at hnew
                have HZZ := Lib.hid hZ
                have HNODE := Lib.hid HK2.out.keep.node
                have hnew3 : Row w2 h 44 [.bool Z.no, .bool Z.un, .bool Z.yes] := hnew
                have z0 := hnew3.cell 0
                have z1 := hnew3.cell 1
                have z2 := hnew3.cell 2
                clear hZ hnew3
                go_wp2_with (refine wpList_storeW rfl _ _ _ rfl (w0.heap.size + 1) 0 44 (t3c X) (t3c Z) (t3c Z) rfl rfl rfl hcur infoA_size (Nat.le_refl _) (t3_one _ _ _) w0 w0.heap.size hold (by omega) ?_)
                intro w4 hr4 hb4 hk4
                have HEND : Hid (HNamedRel w0 [.int .i64 1, .int .i64 col, .bool nb, .int .i64 nn, .string ns, .slice vA vm vc, .slice (some a2) lm lc] hpboth X0 qs O (.int .i64 ((m1 : Int) + 1)) w4) := Lib.hid ⟨m + 1, by omega, congrArg (Value.int .i64) (by have := HMI.out; omega), by rw [HFN.out, ← HZZ.out]; exact ⟨hb4, hk4 _ _ _ (by omega) HNODE.out, by simpa using hr4⟩⟩
                clear hr4 hb4 hk4 hnew hcur hold
                go_wp2
                go_roundw
                case rel => exact HEND.out
                case measure => simp [intOf]; omega
          · have HME : Hid (m = qs.length) := Lib.hid (by have := HLQN.out; omega)
            have hlti : ¬ ((m : Int) + 1) < (lm : Int) := by omega
            have HXE : Hid (qs.foldl (fun x q => hpboth x (O.getD q.toNat hpno3)) X0 = X) := Lib.hid (by
              have h := HXX.out
              rw [List.take_of_length_le (by have := HME.out; omega)] at h
              exact h.symm)
            rw [HXE.out] at HNX
            have hownQ := own_below HOWN0.out HK.out.old
            have hr4Q := HR40.out.below HK.out.old HR40.out.lt
            have hbQ := below_then HBW.out HK.out.old
            clear hb01
            have hownP := hownQ
            have hcur := HK.out.cur
            have hzP : w.heap.size + 1 ≤ w1.heap.size := by have := hr4Q.lt; omega
            have hbP : Below (w.heap.size + 1) w1 w1 := Below.refl _ _
            have hcur3 : Row w1 (w0.heap.size + 1) 44 [.bool (X).no, .bool (X).un, .bool (X).yes] := hcur
            have c0 := hcur3.cell 0
            have c1 := hcur3.cell 1
            have c2 := hcur3.cell 2
            clear hcur3
            go_wp2_with (at_builtin; refine wpList_pushG elemT3 rfl _ _ rfl (w.heap.size + 1) _ _ _ (t3c (X)) w1 w1 _ rfl rfl rfl rfl rfl (t3_one _ _ _) hownP hbP hzP (by omega) (by omega) ?_)
            intro v7 w7 hown7 hb7 _ _
            have hr7 := row_belowB hr4Q hb7 (by omega)
            have HREL : Hid (HOutRel l s w v7 (.int .i64 ((j : Int) + 1)) w7) := Lib.hid ⟨j + 1, hjl, by go_num, by rw [HNX.out, flat_snoc]; exact hown7, hr7, hbQ.trans (hb7.mono (by omega)), by have := hb7.size; omega⟩
            clear hown7 hb7 hownP hbP hzP hcur c0 c1 c2 hr7
            go_wp2
            go_roundw
            case rel => exact HREL.out
            case measure => simp [intOf]; omega
      by_cases h2 : op = 2
      · subst h2
        obtain ⟨n1, _, n3⟩ := HOK.out.named (by dsimp only; omega)
        dsimp only at n1 n3
        obtain ⟨q0, qs, hqs⟩ : ∃ q0 qs, ls = q0 :: qs := by
          cases ls with
          | nil => simp at n1
          | cons q0 qs => exact ⟨q0, qs, rfl⟩
        subst hqs
        have hq0 := n3 q0 (by simp)
        have HN3 := Lib.hid n3
        obtain ⟨qa, rfl⟩ := Int.eq_ofNat_of_zero_le hq0.1
        have hqa : qa < j := by omega
        have hqai : (qa : Int) < (on : Int) := by have := HON.out; omega
        obtain ⟨a2, rfl, _, hl0⟩ := HLS.out.at (k := 0) (by simp)
        have ha0 : a2.add 0 = a2 := by simp [Addr.add]
        rw [ha0] at hl0
        have hl0' : ((wr.alloc (.cells #[.int .i64 2, .int .i64 col, .bool nb, .int .i64 nn, .string ns, .slice vA vm vc, .slice (some a2) lm lc] 51)).alloc (.cells #[.bool false, .bool false, .bool false] 44)).cell? a2 = some (.int .i64 (qa : Int)) := hl0
        obtain ⟨oa, hOA, _, hcx⟩ := HOV.out.at (m := 3) (fun _ => rfl) (by omega) (k := qa) (by rw [HOL.out]; exact hqa)
        subst hOA
        obtain ⟨X0, hX0⟩ : ∃ X0, X0 = O.getD qa hpno3 := ⟨_, rfl⟩
        rw [show O[qa]'(by rw [HOL.out]; exact hqa) = X0 by rw [hX0, getD_lt (by rw [HOL.out]; exact hqa)]] at hcx
        obtain ⟨x0, x1, x2⟩ := cells3T hcx
        have HX0 := Lib.hid hX0
        have HLM := Lib.hid HLS.out.parts.1
        have hlm1 : 1 ≤ lm := by rw [← HLM.out]; simp
        have b0 := HBX.out.cell 0
        have b6 := HBX.out.cell 6
        have HNX : Hid (hpouts s (l.take (j + 1)) [] = O ++ [qs.foldl (fun x q => hpone x (O.getD q.toNat hpno3)) X0]) := Lib.hid (by rw [HNEXT.out, HX0.out]; rfl)
        clear n1 n3 hl0 hcx hX0 hq0
        obtain ⟨w0, rfl⟩ : ∃ x, x = wr := ⟨wr, rfl⟩
        have HK0 : Hid (HKeep w0 [.int .i64 2, .int .i64 col, .bool nb, .int .i64 nn, .string ns, .slice vA vm vc, .slice (some a2) lm lc] X0 ((w0.alloc (.cells #[.int .i64 2, .int .i64 col, .bool nb, .int .i64 nn, .string ns, .slice vA vm vc, .slice (some a2) lm lc] 51)).alloc (.cells #[.bool X0.no, .bool X0.un, .bool X0.yes] 44))) := Lib.hid ⟨((Below.refl _ _).alloc (Nat.le_refl _) _).alloc (by simp) _, (show Row (w0.alloc (.cells #[.int .i64 2, .int .i64 col, .bool nb, .int .i64 nn, .string ns, .slice vA vm vc, .slice (some a2) lm lc] 51)) w0.heap.size 51 [.int .i64 2, .int .i64 col, .bool nb, .int .i64 nn, .string ns, .slice vA vm vc, .slice (some a2) lm lc] from heap_alloc_new w0 _).alloc _, by
          have h : Row ((w0.alloc (.cells #[.int .i64 2, .int .i64 col, .bool nb, .int .i64 nn, .string ns, .slice vA vm vc, .slice (some a2) lm lc] 51)).alloc (.cells #[.bool X0.no, .bool X0.un, .bool X0.yes] 44)) (w0.alloc (.cells #[.int .i64 2, .int .i64 col, .bool nb, .int .i64 nn, .string ns, .slice vA vm vc, .slice (some a2) lm lc] 51)).heap.size 44 (t3c X0) := heap_alloc_new _ _
          simpa using h⟩
        have HST := Lib.hid (show HNamedRel w0 [.int .i64 2, .int .i64 col, .bool nb, .int .i64 nn, .string ns, .slice vA vm vc, .slice (some a2) lm lc] hpone X0 qs O (.int .i64 1) _ from ⟨0, Nat.zero_le _, rfl, HK0.out⟩)
        go_wp2
        go_loopw [9] (HNamedRel w0 [.int .i64 2, .int .i64 col, .bool nb, .int .i64 nn, .string ns, .slice vA vm vc, .slice (some a2) lm lc] hpone X0 qs O) (fun i _ => lm - (intOf i).toNat)
        case atStart => exact HST.out
        case round =>
          obtain ⟨m, hm, rfl, hk⟩ := hrel
          obtain ⟨w1, rfl⟩ : ∃ x, x = wr := ⟨wr, rfl⟩
          have HK := Lib.hid hk
          obtain ⟨X, hX⟩ : ∃ X, X = (qs.take m).foldl (fun x q => hpone x (O.getD q.toNat hpno3)) X0 := ⟨_, rfl⟩
          rw [← hX] at HK
          have HXX := Lib.hid hX
          have HLQN : Hid (lm = qs.length + 1) := Lib.hid (by have h := HLM.out; simp at h; omega)
          have n0 := HK.out.node.cell 0
          have n6 := HK.out.node.cell 6
          have hb01 := HK.out.old
          clear hk hX b0 b6
          by_cases hlt : m + 1 < lm
          · have hmq : m < qs.length := by have := HLQN.out; omega
            have hlti : ((m : Int) + 1) < (lm : Int) := by omega
            obtain ⟨m1, hm1⟩ : ∃ m1, m1 = m + 1 := ⟨_, rfl⟩
            have hm1i : ((m : Int) + 1) = (m1 : Int) := by omega
            obtain ⟨qz, hqz⟩ : ∃ qz, qz = qs[m] := ⟨_, rfl⟩
            have hqr := HN3.out qz (by rw [hqz]; exact List.mem_cons_of_mem _ (List.getElem_mem hmq))
            obtain ⟨q, rfl⟩ := Int.eq_ofNat_of_zero_le hqr.1
            have hq : q < j := by omega
            have hqi : (q : Int) < (on : Int) := by have := HON.out; omega
            have HQL : Hid (q < O.length) := Lib.hid (by rw [HOL.out]; exact hq)
            have HLQ : Hid (∀ X, Below w0.heap.size w0 X → X.cell? (a2.add m1) = some (.int .i64 (q : Int))) := Lib.hid (fun X hX => by
              obtain ⟨a3, hA3, _, hc⟩ := (HLS0.out.below hX).at (k := m + 1) (by simp; omega)
              injection hA3 with hA3
              subst hA3
              rw [hm1, hc]
              simp only [List.getElem_cons_succ]
              rw [← hqz]
              rfl)
            have HOR : Hid (∀ X, Below w0.heap.size w0 X → IsR t3c O (.slice (some oa) on oc) X) := Lib.hid (fun X hX => HOV0.out.below hX)
            obtain ⟨Y, hY⟩ : ∃ Y, Y = O.getD q hpno3 := ⟨_, rfl⟩
            have HYQ : Hid (Y = O[q]'HQL.out) := Lib.hid (by rw [hY, getD_lt HQL.out])
            have HFN : Hid ((qs.take (m + 1)).foldl (fun x q => hpone x (O.getD q.toNat hpno3)) X0 = hpone X Y) := Lib.hid (by rw [List.take_succ_eq_append_getElem hmq, List.foldl_append, ← HXX.out, ← hqz, hY]; rfl)
            have HM1 := Lib.hid hm1
            have HMI := Lib.hid hm1i
            obtain ⟨h, hh⟩ : ∃ h, h = w1.heap.size := ⟨_, rfl⟩
            have HH := Lib.hid hh
            have HKA : Hid (HKeep2 w0 [.int .i64 2, .int .i64 col, .bool nb, .int .i64 nn, .string ns, .slice vA vm vc, .slice (some a2) lm lc] X (hppart max X Y 0) h (w1.alloc (.cells #[.bool false, .bool false, .bool false] 44))) := Lib.hid ⟨HK.out.alloc _, by rw [hh]; exact HK.out.cur.lt, by rw [hh]; exact heap_alloc_new w1 _⟩
            have HSA := Lib.hid (show HARel w0 [.int .i64 2, .int .i64 col, .bool nb, .int .i64 nn, .string ns, .slice vA vm vc, .slice (some a2) lm lc] max X Y h (.int .i64 0) _ from ⟨0, by omega, rfl, HKA.out⟩)
            clear hqz hqr hY hm1 hh
            go_wp2
            rw [← HH.out]
            go_loopw [11] (HARel w0 [.int .i64 2, .int .i64 col, .bool nb, .int .i64 nn, .string ns, .slice vA vm vc, .slice (some a2) lm lc] max X Y h) (fun i _ => 3 - (intOf i).toNat)
            case atStart => exact HSA.out
            case round =>
              obtain ⟨a, ha, rfl, hka⟩ := hrel
              obtain ⟨w2, rfl⟩ : ∃ x, x = wr := ⟨wr, rfl⟩
              have HK2 := Lib.hid hka
              clear hka n0 n6 hb01
              by_cases ha3 : a < 3
              · have hai : (a : Int) < 3 := by omega
                have HSB := Lib.hid (show HBRel w0 [.int .i64 2, .int .i64 col, .bool nb, .int .i64 nn, .string ns, .slice vA vm vc, .slice (some a2) lm lc] max X Y h a (.int .i64 0) w2 from ⟨0, by omega, rfl, HK2.out⟩)
                go_wp2
                go_loopw [12] (HBRel w0 [.int .i64 2, .int .i64 col, .bool nb, .int .i64 nn, .string ns, .slice vA vm vc, .slice (some a2) lm lc] max X Y h a) (fun i _ => 3 - (intOf i).toNat)
                case atStart => exact HSB.out
                case round =>
                  obtain ⟨b, hb, rfl, hkb⟩ := hrel
                  obtain ⟨w3, rfl⟩ : ∃ x, x = wr := ⟨wr, rfl⟩
                  have HK3 := Lib.hid hkb
                  clear hkb
                  by_cases hb3 : b < 3
                  · have hkp := HK3.out.keep
                    have hfar := HK3.out.far
                    obtain ⟨ci, hci⟩ : ∃ ci : Nat, max (a : Int) (b : Int) = (ci : Int) := ⟨(max (a : Int) (b : Int)).toNat, by omega⟩
                    have hci3 : ci < 3 := by omega
                    have hcii : (ci : Int) < 3 := by omega
                    have hai : (a : Int) < 3 := by omega
                    have hbi : (b : Int) < 3 := by omega
                    obtain ⟨tb, htb⟩ : ∃ tb, tb = (hppart max X Y (3 * a + b)).at_ (ci : Int) := ⟨_, rfl⟩
                    obtain ⟨xa, hxa⟩ : ∃ xa, xa = X.at_ (a : Int) := ⟨_, rfl⟩
                    obtain ⟨yb, hyb⟩ : ∃ yb, yb = Y.at_ (b : Int) := ⟨_, rfl⟩
                    have e1 : w3.cell? ⟨h, ci, none⟩ = some (.bool tb) := by rw [HK3.out.new.cell, t3c_at _ hci3, htb]
                    have e2 : w3.cell? ⟨w0.heap.size + 1, a, none⟩ = some (.bool xa) := by rw [hkp.cur.cell, t3c_at _ (by omega), hxa]
                    have e3 : w3.cell? ((oa.add (q * 3)).add b) = some (.bool yb) := by
                      obtain ⟨oa', hOA', _, hc⟩ := (HOR.out w3 hkp.old).at (m := 3) (fun _ => rfl) (by omega) HQL.out
                      injection hOA' with hOA'
                      subst hOA'
                      rw [add_add, hc b (by omega), ← HYQ.out, t3c_at _ (by omega), hyb]
                    have e4 : w3.cell? (a2.add m1) = some (.int .i64 (q : Int)) := HLQ.out w3 hkp.old
                    have e5 := hkp.node.cell 0
                    have e6 := hkp.node.cell 6
                    have fr := HK3.out.new.free ci
                    have HNXP : Hid (hppart max X Y (3 * a + (b + 1)) = (hppart max X Y (3 * a + b)).put (ci : Int) (tb || (xa && yb))) := Lib.hid (by
                      rw [← Nat.add_assoc, hppart_next max X Y (by omega) (by omega)]
                      unfold hpstep
                      rw [hci, htb, hxa, hyb])
                    have HPUT := Lib.hid (fun v => HK3.out.put hci3 v)
                    clear htb hxa hyb hkp hfar
                    cases tb with
                    | true =>
                      have HEQ : Hid ((hppart max X Y (3 * a + b)).put (ci : Int) (true) = hppart max X Y (3 * a + (b + 1))) := Lib.hid (by rw [HNXP.out]; rfl)
                      go_wp2
                      go_roundw
                      case rel => exact ⟨b + 1, by omega, by go_num, by rw [← HEQ.out]; exact HPUT.out _⟩
                      case measure => simp [intOf]; omega
                    | false =>
                      cases xa with
                      | false =>
                        have HEQ : Hid ((hppart max X Y (3 * a + b)).put (ci : Int) (false) = hppart max X Y (3 * a + (b + 1))) := Lib.hid (by rw [HNXP.out]; rfl)
                        go_wp2
                        go_roundw
                        case rel => exact ⟨b + 1, by omega, by go_num, by rw [← HEQ.out]; exact HPUT.out _⟩
                        case measure => simp [intOf]; omega
                      | true =>
                        have HEQ : Hid ((hppart max X Y (3 * a + b)).put (ci : Int) (yb) = hppart max X Y (3 * a + (b + 1))) := Lib.hid (by rw [HNXP.out]; rfl)
                        go_wp2
                        go_roundw
                        case rel => exact ⟨b + 1, by omega, by go_num, by rw [← HEQ.out]; exact HPUT.out _⟩
                        case measure => simp [intOf]; omega
                  · obtain rfl : b = 3 := by omega
                    have HEND : Hid (HARel w0 [.int .i64 2, .int .i64 col, .bool nb, .int .i64 nn, .string ns, .slice vA vm vc, .slice (some a2) lm lc] max X Y h (.int .i64 ((a : Int) + 1)) w3) := Lib.hid ⟨a + 1, by omega, by go_num, by have h1 := HK3.out; rw [show 3 * a + 3 = 3 * (a + 1) by omega] at h1; exact h1⟩
                    go_wp2
                    go_roundw
                    case rel => exact HEND.out
                    case measure => simp [intOf]; omega
              · obtain rfl : a = 3 := by omega
                have HFULL : Hid (hppart max X Y (3 * 3) = hpone X Y) := Lib.hid (hppart_or X Y)
                have hnew := HK2.out.new
                have hcur := HK2.out.keep.cur
                rw [HFULL.out] at hnew
                have hold := HK2.out.keep.old
                have hfar := HK2.out.far
                obtain ⟨Z, hZ⟩ : ∃ Z, Z = hpone X Y := ⟨_, rfl⟩
                rw [← hZ] at hnew
                have HZZ := Lib.hid hZ
                have HNODE := Lib.hid HK2.out.keep.node
                have hnew3 : Row w2 h 44 [.bool Z.no, .bool Z.un, .bool Z.yes] := hnew
                have z0 := hnew3.cell 0
                have z1 := hnew3.cell 1
                have z2 := hnew3.cell 2
                clear hZ hnew3
                go_wp2_with (refine wpList_storeW rfl _ _ _ rfl (w0.heap.size + 1) 0 44 (t3c X) (t3c Z) (t3c Z) rfl rfl rfl hcur infoA_size (Nat.le_refl _) (t3_one _ _ _) w0 w0.heap.size hold (by omega) ?_)
                intro w4 hr4 hb4 hk4
                have HEND : Hid (HNamedRel w0 [.int .i64 2, .int .i64 col, .bool nb, .int .i64 nn, .string ns, .slice vA vm vc, .slice (some a2) lm lc] hpone X0 qs O (.int .i64 ((m1 : Int) + 1)) w4) := Lib.hid ⟨m + 1, by omega, congrArg (Value.int .i64) (by have := HMI.out; omega), by rw [HFN.out, ← HZZ.out]; exact ⟨hb4, hk4 _ _ _ (by omega) HNODE.out, by simpa using hr4⟩⟩
                clear hr4 hb4 hk4 hnew hcur hold
                go_wp2
                go_roundw
                case rel => exact HEND.out
                case measure => simp [intOf]; omega
          · have HME : Hid (m = qs.length) := Lib.hid (by have := HLQN.out; omega)
            have hlti : ¬ ((m : Int) + 1) < (lm : Int) := by omega
            have HXE : Hid (qs.foldl (fun x q => hpone x (O.getD q.toNat hpno3)) X0 = X) := Lib.hid (by
              have h := HXX.out
              rw [List.take_of_length_le (by have := HME.out; omega)] at h
              exact h.symm)
            rw [HXE.out] at HNX
            have hownQ := own_below HOWN0.out HK.out.old
            have hr4Q := HR40.out.below HK.out.old HR40.out.lt
            have hbQ := below_then HBW.out HK.out.old
            clear hb01
            have hownP := hownQ
            have hcur := HK.out.cur
            have hzP : w.heap.size + 1 ≤ w1.heap.size := by have := hr4Q.lt; omega
            have hbP : Below (w.heap.size + 1) w1 w1 := Below.refl _ _
            have hcur3 : Row w1 (w0.heap.size + 1) 44 [.bool (X).no, .bool (X).un, .bool (X).yes] := hcur
            have c0 := hcur3.cell 0
            have c1 := hcur3.cell 1
            have c2 := hcur3.cell 2
            clear hcur3
            go_wp2_with (at_builtin; refine wpList_pushG elemT3 rfl _ _ rfl (w.heap.size + 1) _ _ _ (t3c (X)) w1 w1 _ rfl rfl rfl rfl rfl (t3_one _ _ _) hownP hbP hzP (by omega) (by omega) ?_)
            intro v7 w7 hown7 hb7 _ _
            have hr7 := row_belowB hr4Q hb7 (by omega)
            have HREL : Hid (HOutRel l s w v7 (.int .i64 ((j : Int) + 1)) w7) := Lib.hid ⟨j + 1, hjl, by go_num, by rw [HNX.out, flat_snoc]; exact hown7, hr7, hbQ.trans (hb7.mono (by omega)), by have := hb7.size; omega⟩
            clear hown7 hb7 hownP hbP hzP hcur c0 c1 c2 hr7
            go_wp2
            go_roundw
            case rel => exact HREL.out
            case measure => simp [intOf]; omega
      by_cases h3 : op = 3
      · subst h3
        obtain ⟨_, n2, n3⟩ := HOK.out.named (by dsimp only; omega)
        have n2 := n2 rfl
        dsimp only at n2 n3
        obtain ⟨q0, hq⟩ : ∃ q0, ls = [q0] := by
          match ls, n2 with
          | [q0], _ => exact ⟨q0, rfl⟩
        subst hq
        have hq0 := n3 q0 (by simp)
        obtain ⟨qa, rfl⟩ := Int.eq_ofNat_of_zero_le hq0.1
        have hqa : qa < j := by omega
        have hqai : (qa : Int) < (on : Int) := by have := HON.out; omega
        obtain rfl : lm = 1 := HLS.out.parts.1.symm
        obtain ⟨a2, rfl, _, hl0⟩ := HLS.out.at (k := 0) (by simp)
        have ha0 : a2.add 0 = a2 := by simp [Addr.add]
        rw [ha0] at hl0
        have hl0' : ((wr.alloc (.cells #[.int .i64 3, .int .i64 col, .bool nb, .int .i64 nn, .string ns, .slice vA vm vc, .slice (some a2) 1 lc] 51)).alloc (.cells #[.bool false, .bool false, .bool false] 44)).cell? a2 = some (.int .i64 (qa : Int)) := hl0
        obtain ⟨oa, hOA, _, hcx⟩ := HOV.out.at (m := 3) (fun _ => rfl) (by omega) (k := qa) (by rw [HOL.out]; exact hqa)
        subst hOA
        obtain ⟨X0, hX0⟩ : ∃ X0, X0 = O.getD qa hpno3 := ⟨_, rfl⟩
        rw [show O[qa]'(by rw [HOL.out]; exact hqa) = X0 by rw [hX0, getD_lt (by rw [HOL.out]; exact hqa)]] at hcx
        obtain ⟨x0, x1, x2⟩ := cells3T hcx
        have HX0 := Lib.hid hX0
        have b0 := HBX.out.cell 0
        have b6 := HBX.out.cell 6
        have HNX : Hid (hpouts s (l.take (j + 1)) [] = O ++ [X0.turn]) := Lib.hid (by rw [HNEXT.out, HX0.out]; rfl)
        have hz1 : ((wr.alloc (.cells #[.int .i64 3, .int .i64 col, .bool nb, .int .i64 nn, .string ns, .slice vA vm vc, .slice (some a2) 1 lc] 51)).alloc (.cells #[.bool false, .bool false, .bool false] 44)).heap.size = wr.heap.size + 2 := by simp
        have hz0 : (wr.alloc (.cells #[.int .i64 3, .int .i64 col, .bool nb, .int .i64 nn, .string ns, .slice vA vm vc, .slice (some a2) 1 lc] 51)).heap.size = wr.heap.size + 1 := by simp
        have hr8 : Row ((wr.alloc (.cells #[.int .i64 3, .int .i64 col, .bool nb, .int .i64 nn, .string ns, .slice vA vm vc, .slice (some a2) 1 lc] 51)).alloc (.cells #[.bool false, .bool false, .bool false] 44)) (wr.heap.size + 1) 44 [.bool false, .bool false, .bool false] := by rw [← hz0]; exact heap_alloc_new _ _
        have HR8 := Lib.hid (hr8.alloc (.cells #[.bool X0.no, .bool X0.un, .bool X0.yes] 44))
        have hr14 : Row (((wr.alloc (.cells #[.int .i64 3, .int .i64 col, .bool nb, .int .i64 nn, .string ns, .slice vA vm vc, .slice (some a2) 1 lc] 51)).alloc (.cells #[.bool false, .bool false, .bool false] 44)).alloc (.cells #[.bool X0.no, .bool X0.un, .bool X0.yes] 44)) (wr.heap.size + 2) 44 [.bool X0.no, .bool X0.un, .bool X0.yes] := by rw [← hz1]; exact heap_alloc_new _ _
        have HBA : Hid (Below wr.heap.size wr (((wr.alloc (.cells #[.int .i64 3, .int .i64 col, .bool nb, .int .i64 nn, .string ns, .slice vA vm vc, .slice (some a2) 1 lc] 51)).alloc (.cells #[.bool false, .bool false, .bool false] 44)).alloc (.cells #[.bool X0.no, .bool X0.un, .bool X0.yes] 44))) := Lib.hid (HB1.out.alloc (by simp; omega) _)
        have y0 := hr14.cell 0
        have y1 := hr14.cell 1
        have y2 := hr14.cell 2
        clear n2 n3 hl0 hcx hX0 hq0 hr8 hr14 hz0 hz1
        go_wp2_with (refine wpList_storeW rfl _ _ _ rfl (wr.heap.size + 1) 0 44 [.bool false, .bool false, .bool false] (t3c X0.turn) (t3c X0.turn) rfl rfl rfl HR8.out infoA_size (Nat.le_refl _) (t3_one _ _ _) wr wr.heap.size HBA.out (by omega) ?_)
        intro w5 hr5 hb5 _
        have HK5 : Hid (Row w5 (wr.heap.size + 1) 44 (t3c X0.turn)) := Lib.hid (by simpa using hr5)
        have HB5 := Lib.hid hb5
        clear hr5 hb5 b0 b6 x0 x1 x2 y0 y1 y2
        have hownQ := own_below HOWN0.out HB5.out
        have hr4Q := HR40.out.below HB5.out HR40.out.lt
        have hbQ := below_then HBW.out HB5.out
        have HKC : Hid (Row w5 (wr.heap.size + 1) 44 (t3c X0.turn)) := HK5
        have hownP := hownQ
        have hcur := HKC.out
        have hzP : w.heap.size + 1 ≤ w5.heap.size := by have := hr4Q.lt; omega
        have hbP : Below (w.heap.size + 1) w5 w5 := Below.refl _ _
        have hcur3 : Row w5 (wr.heap.size + 1) 44 [.bool (X0.turn).no, .bool (X0.turn).un, .bool (X0.turn).yes] := hcur
        have c0 := hcur3.cell 0
        have c1 := hcur3.cell 1
        have c2 := hcur3.cell 2
        clear hcur3
        go_wp2_with (at_builtin; refine wpList_pushG elemT3 rfl _ _ rfl (w.heap.size + 1) _ _ _ (t3c (X0.turn)) w5 w5 _ rfl rfl rfl rfl rfl (t3_one _ _ _) hownP hbP hzP (by omega) (by omega) ?_)
        intro v7 w7 hown7 hb7 _ _
        have hr7 := row_belowB hr4Q hb7 (by omega)
        have HREL : Hid (HOutRel l s w v7 (.int .i64 ((j : Int) + 1)) w7) := Lib.hid ⟨j + 1, hjl, by go_num, by rw [HNX.out, flat_snoc]; exact hown7, hr7, hbQ.trans (hb7.mono (by omega)), by have := hb7.size; omega⟩
        clear hown7 hb7 hownP hbP hzP hcur c0 c1 c2 hr7
        go_wp2
        go_roundw
        case rel => exact HREL.out
        case measure => simp [intOf]; omega
      have ho4 : 4 ≤ op ∧ op ≤ 9 := by have := HOK.out.ops; dsimp only at this; omega
      obtain ⟨X0, hX0⟩ : ∃ X0, X0 = hpknown ⟨op, col, ⟨nb, nn, ns⟩, vals, ls, .slice vA vm vc, .slice lA lm lc⟩ s := ⟨_, rfl⟩
      have HNX : Hid (hpouts s (l.take (j + 1)) [] = O ++ [X0]) := Lib.hid (by rw [HNEXT.out, hX0]; unfold hpout1; rw [if_neg h1, if_neg h2, if_neg h3])
      have HKN := Lib.hid (rknown18_any ⟨op, col, ⟨nb, nn, ns⟩, vals, ls, .slice vA vm vc, .slice lA lm lc⟩ s sv ((wr.alloc (.cells #[.int .i64 op, .int .i64 col, .bool nb, .int .i64 nn, .string ns, .slice vA vm vc, .slice lA lm lc] 51)).alloc (.cells #[.bool false, .bool false, .bool false] 44)) (HAT0.out.below HB1.out) (HS.out.below (below_then HBW.out HB1.out)) ho4 (fun h9 => by have h := HOK.out.column ho4.1 h9; have := HSL.out; dsimp only at h ⊢; omega) HSB.out (fun h7 => by have h := (HOK.out.values h7).2.2; dsimp only at h ⊢; omega))
      rw [← hX0] at HKN
      unfold hpv hpcells t3v at HKN
      dsimp only at HKN
      have d1 : (op == 1) = false := by simpa using h1
      have d2 : (op == 2) = false := by simpa using h2
      have d3 : (op == 3) = false := by simpa using h3
      have hz0 : (wr.alloc (.cells #[.int .i64 op, .int .i64 col, .bool nb, .int .i64 nn, .string ns, .slice vA vm vc, .slice lA lm lc] 51)).heap.size = wr.heap.size + 1 := by simp
      have hr8 : Row ((wr.alloc (.cells #[.int .i64 op, .int .i64 col, .bool nb, .int .i64 nn, .string ns, .slice vA vm vc, .slice lA lm lc] 51)).alloc (.cells #[.bool false, .bool false, .bool false] 44)) (wr.heap.size + 1) 44 [.bool false, .bool false, .bool false] := by rw [← hz0]; exact heap_alloc_new _ _
      have HR8 := Lib.hid hr8
      have hbx := HBX.out
      have b0 := hbx.cell 0
      have b1 := hbx.cell 1
      have b2 := hbx.cell 2
      have b3 := hbx.cell 3
      have b4 := hbx.cell 4
      have b5 := hbx.cell 5
      have b6 := hbx.cell 6
      clear hX0 ho4 h1 h2 h3 hz0 hr8 hbx
      go_wp2_with fail
      refine HKN.out.mono ?_
      rintro e w4 ⟨rfl, hb4⟩
      have HR84 := Lib.hid (HR8.out.below hb4 HR8.out.lt)
      have HB4 := Lib.hid (HB1.out.trans (hb4.mono HB1.out.size))
      clear hb4 b0 b1 b2 b3 b4 b5 b6
      go_wp2_with (refine wpList_storeW rfl _ _ _ rfl (wr.heap.size + 1) 0 44 [.bool false, .bool false, .bool false] (t3c X0) (t3c X0) rfl rfl rfl HR84.out infoA_size (Nat.le_refl _) (t3_one _ _ _) wr wr.heap.size HB4.out (by omega) ?_)
      intro w5 hr5 hb5 _
      have HKC : Hid (Row w5 (wr.heap.size + 1) 44 (t3c X0)) := Lib.hid (by simpa using hr5)
      have HB5 := Lib.hid hb5
      clear hr5 hb5
      have hownQ := own_below HOWN0.out HB5.out
      have hr4Q := HR40.out.below HB5.out HR40.out.lt
      have hbQ := below_then HBW.out HB5.out
      have hownP := hownQ
      have hcur := HKC.out
      have hzP : w.heap.size + 1 ≤ w5.heap.size := by have := hr4Q.lt; omega
      have hbP : Below (w.heap.size + 1) w5 w5 := Below.refl _ _
      have hcur3 : Row w5 (wr.heap.size + 1) 44 [.bool (X0).no, .bool (X0).un, .bool (X0).yes] := hcur
      have c0 := hcur3.cell 0
      have c1 := hcur3.cell 1
      have c2 := hcur3.cell 2
      clear hcur3
      go_wp2_with (at_builtin; refine wpList_pushG elemT3 rfl _ _ rfl (w.heap.size + 1) _ _ _ (t3c (X0)) w5 w5 _ rfl rfl rfl rfl rfl (t3_one _ _ _) hownP hbP hzP (by omega) (by omega) ?_)
      intro v7 w7 hown7 hb7 _ _
      have hr7 := row_belowB hr4Q hb7 (by omega)
      have HREL : Hid (HOutRel l s w v7 (.int .i64 ((j : Int) + 1)) w7) := Lib.hid ⟨j + 1, hjl, by go_num, by rw [HNX.out, flat_snoc]; exact hown7, hr7, hbQ.trans (hb7.mono (by omega)), by have := hb7.size; omega⟩
      clear hown7 hb7 hownP hbP hzP hcur c0 c1 c2 hr7
      go_wp2
      go_roundw
      case rel => exact HREL.out
      case measure => simp [intOf]; omega
    · obtain rfl : j = n := by omega
      have hlti : ¬ (j : Int) < (j : Int) := by omega
      have HV := Lib.hid (isR_own (m := 3) (f := t3c) (fun _ => rfl) (by omega) HOWN0.out)
      obtain ⟨oA, on, oc, rfl⟩ := HV.out.shape
      have hon : on = j := by rw [← HV.out.parts.1]; exact HOL.out
      subst hon
      have hj1 : 1 ≤ on := by have := HN.out; have := HL1.out; omega
      obtain ⟨m, rfl⟩ : ∃ m, on = m + 1 := ⟨on - 1, by omega⟩
      obtain ⟨oa, rfl, _, hc⟩ := HV.out.at (m := 3) (fun _ => rfl) (by omega) (k := m) (by rw [HOL.out]; omega)
      obtain ⟨Z, hZ⟩ : ∃ Z, Z = O[m]'(by rw [HOL.out]; omega) := ⟨_, rfl⟩
      rw [← hZ] at hc
      obtain ⟨x0, x1, x2⟩ := cells3T hc
      have HF : Hid (hpoutE l s = Z) := Lib.hid (by
        unfold hpoutE
        have h := HOE.out
        rw [List.take_of_length_le (by have := HN.out; omega)] at h
        rw [← h, getLastD_getD, show O.length - 1 = m by have := HOL.out; omega, getD_lt (by rw [HOL.out]; omega), hZ])
      have e1 : IntKind.i64.wrap (((m + 1 : Nat) : Int) - 1) = (m : Int) := by rw [IntKind.wrap_i64]; omega
      have e2 : (m : Int) < ((m + 1 : Nat) : Int) := by omega
      clear hc hZ
      go_wp2_with (refine wpList_storeW rfl _ _ _ rfl w.heap.size 0 44 [.bool false, .bool false, .bool false] (t3c Z) (t3c Z) rfl rfl rfl HR40.out infoA_size (Nat.le_refl _) (t3_one _ _ _) w w.heap.size HBW.out (Nat.le_refl _) ?_)
      intro wF hrF hbF _
      have HR : Hid (Row wF w.heap.size 44 [.bool Z.no, .bool Z.un, .bool Z.yes]) := Lib.hid (by simpa [t3c] using hrF)
      have HBF := Lib.hid hbF
      clear hrF hbF
      go_wp2
      refine bodyPost_ret (v := .agg #[.bool Z.no, .bool Z.un, .bool Z.yes]) (results_cell_row rfl _ _ w.heap.size _ _ (0, 0) _ rfl HR.out Tryd.underlying44 rfl (by kernel_rfl)) rfl ?_
      exact ⟨by rw [HF.out]; rfl, HBF.out⟩
end Go.Proofs.YtniniophoocalaaDoor

/- Predicates' own contracts: among, with slices.ContainsFunc, slices.IndexFunc and its closure; holds, alone. Written by gen_hpred.py. -/





namespace Go.Proofs.YtniniophoocalaaDoor

open Go.RowKit

set_option maxRecDepth 100000 in
theorem hamong1_any (y x : CV) (b : Nat) (w : World) (hr : Row w b 41 (kcells y)) : Calls Tryd.prog 62 #[cv x, .pointer (some ⟨b, 0, none⟩)] w fun e w' => e = .returned (.bool (kcmp y x == 0)) ∧ Below w.heap.size w w' := by
  have HC := Lib.hid (fun W => ksame_own y x W)
  obtain ⟨t, ht⟩ : ∃ t, t = (kcmp y x == 0) := ⟨_, rfl⟩
  rw [← ht] at HC ⊢
  clear ht
  have HR : Hid (Row (w.alloc (.cells #[.bool x.null, .int .i64 x.n, .string x.s] 41)) b 41 [.bool y.null, .int .i64 y.n, .string y.s]) := Lib.hid (hr.alloc _)
  have HX := Lib.hid (box_rowH x w)
  obtain ⟨xb, xn, xs⟩ := x
  obtain ⟨yb, yn, ys⟩ := y
  have HB := Lib.hid (show Below w.heap.size w (w.alloc (.cells #[.bool xb, .int .i64 xn, .string xs] 41)) from (Below.refl _ _).alloc (Nat.le_refl _) _)
  unfold cv at *
  dsimp only at HC HR HX ⊢
  have a0 := HX.out.cell 0
  have a1 := HX.out.cell 1
  have a2 := HX.out.cell 2
  have c0 := HR.out.cell 0
  have c1 := HR.out.cell 1
  have c2 := HR.out.cell 2
  clear hr
  go_enter Tryd.func62, Tryd.ntmps62
  go_wp2_with fail
  refine (HC.out _).mono ?_
  rintro e w2 ⟨rfl, hb2⟩
  have HB2 := Lib.hid (below_then HB.out hb2)
  clear hb2 a0 a1 a2 c0 c1 c2
  go_wp2
  go_ret
  exact ⟨rfl, HB2.out⟩
def HIdxRelA (l : List CV) (p : CV → Bool) (w : World) (i : Value) (wr : World) : Prop := ∃ k : Nat, k ≤ l.length ∧ i = .int .i64 (k : Int) ∧ (l.take k).any p = false ∧ Below w.heap.size w wr
set_option maxHeartbeats 2000000 in
set_option maxRecDepth 100000 in
theorem hindexA_any (l : List CV) (v : Value) (y : CV) (b : Nat) (w : World) (hv : IsR kcells l v w) (hr : Row w b 41 (kcells y)) :
    Calls Tryd.prog 63 #[v, .func (.func 62) #[] #[.pointer (some ⟨b, 0, none⟩)]] w fun e w' => (∃ r : Int, e = .returned (.int .i64 r) ∧ decide (0 ≤ r) = l.any (fun x => kcmp y x == 0)) ∧ Below w.heap.size w w' := by
  obtain ⟨A, n, c, rfl⟩ := hv.shape
  have HN := Lib.hid hv.parts.1
  have hni : (n : Int) ≤ 9223372036854775807 := by have h := hv.parts; have h2 := h.2.2.1; have h3 := h.2.2.2.1; unfold maxLen at h3; omega
  have HV := Lib.hid hv
  have HR := Lib.hid hr
  obtain ⟨p, hp⟩ : ∃ p : CV → Bool, p = (fun x => kcmp y x == 0) := ⟨_, rfl⟩
  have HP := Lib.hid hp
  rw [← hp]
  have HS := Lib.hid (show HIdxRelA l p w (.int .i64 0) w from ⟨0, Nat.zero_le _, rfl, rfl, Below.refl _ _⟩)
  clear hv hr hp
  go_enter Tryd.func63, Tryd.ntmps63
  go_wp2
  go_loopw [8] (HIdxRelA l p w) (fun i _ => n - (intOf i).toNat)
  case atStart => exact HS.out
  case round =>
    obtain ⟨k, hk, rfl, hs, hbw⟩ := hrel
    have HSM := Lib.hid hs
    have HB := Lib.hid hbw
    have hkn : k ≤ n := by have := HN.out; omega
    clear hs hk
    by_cases hlt : k < n
    · have hkl : k < l.length := by have := HN.out; omega
      have hlti : (k : Int) < (n : Int) := by omega
      obtain ⟨ad, rfl, had, hcell⟩ := (HV.out.below hbw).at (m := 3) (fun _ => rfl) (by omega) hkl
      obtain ⟨x, hx⟩ : ∃ x, x = l[k] := ⟨_, rfl⟩
      rw [← hx] at hcell
      obtain ⟨k0, k1, k2⟩ := cells3 hcell
      have hxm : x ∈ l := by rw [hx]; exact List.getElem_mem hkl
      have HL := Lib.hid (hamong1_any y x b wr (HR.out.below hbw HR.out.lt))
      have HSN := Lib.hid (show (l.take (k + 1)).any p = p x by rw [List.take_succ_eq_append_getElem hkl, List.any_append, HSM.out, hx]; simp)
      have HAL := Lib.hid (show p x = true → l.any p = true from fun h => List.any_eq_true.2 ⟨x, hxm, h⟩)
      have HPX : Hid (p x = (kcmp y x == 0)) := Lib.hid (by rw [HP.out])
      obtain ⟨q, hq⟩ : ∃ q, q = p x := ⟨_, rfl⟩
      rw [← HPX.out, ← hq] at HL
      rw [← hq] at HSN HAL
      obtain ⟨xb, xn, xs⟩ := x
      dsimp only at k0 k1 k2
      clear hcell hx hbw hxm hq HPX
      unfold cv at HL
      dsimp only at HL
      cases q with
      | true =>
        have HA := Lib.hid (HAL.out (by simp))
        go_wp2_with fail
        refine HL.out.mono ?_
        rintro e w1 ⟨rfl, hb1⟩
        have HB1 := Lib.hid (below_then HB.out hb1)
        clear hb1 k0 k1 k2
        go_wp2
        go_ret
        exact ⟨⟨_, rfl, by rw [HA.out]; exact decide_eq_true (by omega)⟩, HB1.out⟩
      | false =>
        go_wp2_with fail
        refine HL.out.mono ?_
        rintro e w1 ⟨rfl, hb1⟩
        have HB1 := Lib.hid (below_then HB.out hb1)
        clear hb1 k0 k1 k2
        go_wp2
        go_roundw
        case rel => exact ⟨k + 1, hkl, by go_num, HSN.out, HB1.out⟩
        case measure => simp [intOf]; omega
    · obtain rfl : k = n := by omega
      have hlti : ¬ (k : Int) < (k : Int) := by omega
      have HA := Lib.hid HSM.out
      rw [List.take_of_length_le (by have := HN.out; omega)] at HA
      go_wp2
      go_ret
      exact ⟨⟨_, rfl, by rw [HA.out]; rfl⟩, HB.out⟩
theorem hcontainsA_any (l : List CV) (v : Value) (y : CV) (b : Nat) (w : World) (hv : IsR kcells l v w) (hr : Row w b 41 (kcells y)) :
    Calls Tryd.prog 57 #[v, .func (.func 62) #[] #[.pointer (some ⟨b, 0, none⟩)]] w fun e w' => e = .returned (.bool (l.any (fun x => kcmp y x == 0))) ∧ Below w.heap.size w w' := by
  have HI := Lib.hid (hindexA_any l v y b w hv hr)
  obtain ⟨t, ht⟩ : ∃ t, t = l.any (fun x => kcmp y x == 0) := ⟨_, rfl⟩
  rw [← ht] at HI ⊢
  clear hv hr ht
  go_enter Tryd.func57, Tryd.ntmps57
  go_wp2_with fail
  refine HI.out.mono ?_
  rintro e w1 ⟨⟨r, rfl, hr⟩, hb1⟩
  have HB := Lib.hid hb1
  subst hr
  clear hb1
  go_wp2
  go_ret
  exact ⟨rfl, HB.out⟩
theorem hamong_any (l : List CV) (v : Value) (y : CV) (w : World) (hv : IsR kcells l v w) : Calls Tryd.prog 56 #[v, cv y] w fun e w' => e = .returned (.bool (l.any (fun x => kcmp y x == 0))) ∧ Below w.heap.size w w' := by
  have hb1 : Below w.heap.size w (w.alloc (.cells #[.bool y.null, .int .i64 y.n, .string y.s] 41)) := (Below.refl _ _).alloc (Nat.le_refl _) _
  have HB := Lib.hid hb1
  have HC := Lib.hid (hcontainsA_any l v y w.heap.size _ (hv.below hb1) (box_rowH y w))
  obtain ⟨t, ht⟩ : ∃ t, t = l.any (fun x => kcmp y x == 0) := ⟨_, rfl⟩
  rw [← ht] at HC ⊢
  obtain ⟨yb, yn, ys⟩ := y
  unfold cv
  dsimp only at HC HB ⊢
  clear hv hb1 ht
  go_enter Tryd.func56, Tryd.ntmps56
  go_wp2_with fail
  refine HC.out.mono ?_
  rintro e w2 ⟨rfl, hb2⟩
  have HB2 := Lib.hid (below_then HB.out hb2)
  clear hb2
  go_wp2
  go_ret
  exact ⟨rfl, HB2.out⟩
/-- Whether a value that is something is what a node asks for. -/
def hpis (n : HN) (y : CV) : Bool := if n.op = 4 then kcmp y n.v == 0 else if n.op = 5 then decide (kcmp y n.v < 0) else if n.op = 6 then decide (kcmp y n.v ≤ 0) else if n.op = 7 then n.vals.any (fun x => kcmp y x == 0) else false
set_option maxHeartbeats 4000000 in
set_option maxRecDepth 100000 in
theorem hholds_any (n : HN) (y : CV) (w : World) (hn : HAt n w) (hop : 4 ≤ n.op ∧ n.op ≤ 8) : Calls Tryd.prog 47 #[hpv n, cv y] w fun e w' => e = .returned (.bool (hpis n y)) ∧ Below w.heap.size w w' := by
  obtain ⟨op, col, ⟨nb, nn, ns⟩, vals, ls, vv, lv⟩ := n
  dsimp only at hop
  have hb1 : Below w.heap.size w (w.alloc (.cells #[.int .i64 op, .int .i64 col, .bool nb, .int .i64 nn, .string ns, vv, lv] 51)) := (Below.refl _ _).alloc (Nat.le_refl _) _
  have hz1 : (w.alloc (.cells #[.int .i64 op, .int .i64 col, .bool nb, .int .i64 nn, .string ns, vv, lv] 51)).heap.size = w.heap.size + 1 := by simp
  have HB2 : Hid (Below w.heap.size w ((w.alloc (.cells #[.int .i64 op, .int .i64 col, .bool nb, .int .i64 nn, .string ns, vv, lv] 51)).alloc (.cells #[.bool y.null, .int .i64 y.n, .string y.s] 41))) := Lib.hid (hb1.alloc (by omega) _)
  have RP : Hid (Row ((w.alloc (.cells #[.int .i64 op, .int .i64 col, .bool nb, .int .i64 nn, .string ns, vv, lv] 51)).alloc (.cells #[.bool y.null, .int .i64 y.n, .string y.s] 41)) w.heap.size 51 [.int .i64 op, .int .i64 col, .bool nb, .int .i64 nn, .string ns, vv, lv]) := Lib.hid ((box_rowP op col nb nn ns vv lv w).alloc _)
  have RY : Hid (Row ((w.alloc (.cells #[.int .i64 op, .int .i64 col, .bool nb, .int .i64 nn, .string ns, vv, lv] 51)).alloc (.cells #[.bool y.null, .int .i64 y.n, .string y.s] 41)) (w.heap.size + 1) 41 [.bool y.null, .int .i64 y.n, .string y.s]) := Lib.hid (by rw [← hz1]; exact box_rowH y _)
  unfold hpv hpcells
  dsimp only
  rcases (by omega : op = 4 ∨ op = 5 ∨ op = 6 ∨ op = 7 ∨ op = 8) with rfl | rfl | rfl | rfl | rfl
  all_goals clear hop hb1 hz1
  · have HE : Hid (hpis ⟨4, col, ⟨nb, nn, ns⟩, vals, ls, vv, lv⟩ y = (kcmp y ⟨nb, nn, ns⟩ == 0)) := Lib.hid rfl
    have HC := Lib.hid (ksame_own y ⟨nb, nn, ns⟩ ((w.alloc (.cells #[.int .i64 4, .int .i64 col, .bool nb, .int .i64 nn, .string ns, vv, lv] 51)).alloc (.cells #[.bool y.null, .int .i64 y.n, .string y.s] 41)))
    obtain ⟨t, ht⟩ : ∃ t, t = (kcmp y ⟨nb, nn, ns⟩ == 0) := ⟨_, rfl⟩
    rw [← ht] at HC HE
    rw [HE.out]
    obtain ⟨yb, yn, ys⟩ := y
    unfold cv at HC ⊢
    dsimp only at HC RY HB2 RP ⊢
    have b0 := RP.out.cell 0
    have b2 := RP.out.cell 2
    have b3 := RP.out.cell 3
    have b4 := RP.out.cell 4
    have b5 := RP.out.cell 5
    have y0 := RY.out.cell 0
    have y1 := RY.out.cell 1
    have y2 := RY.out.cell 2
    clear hn ht
    go_enter Tryd.func47, Tryd.ntmps47
    go_wp2_with fail
    refine HC.out.mono ?_
    rintro e w2 ⟨rfl, hb2⟩
    have HB3 := Lib.hid (below_then HB2.out hb2)
    clear hb2 b0 b2 b3 b4 b5 y0 y1 y2
    go_wp2
    go_ret
    exact ⟨rfl, HB3.out⟩
  · have HE : Hid (hpis ⟨5, col, ⟨nb, nn, ns⟩, vals, ls, vv, lv⟩ y = decide (kcmp y ⟨nb, nn, ns⟩ < 0)) := Lib.hid rfl
    have HC := Lib.hid (kcmp_own y ⟨nb, nn, ns⟩ ((w.alloc (.cells #[.int .i64 5, .int .i64 col, .bool nb, .int .i64 nn, .string ns, vv, lv] 51)).alloc (.cells #[.bool y.null, .int .i64 y.n, .string y.s] 41)))
    obtain ⟨t, ht⟩ : ∃ t, t = kcmp y ⟨nb, nn, ns⟩ := ⟨_, rfl⟩
    rw [← ht] at HC HE
    rw [HE.out]
    obtain ⟨yb, yn, ys⟩ := y
    unfold cv at HC ⊢
    dsimp only at HC RY HB2 RP ⊢
    have b0 := RP.out.cell 0
    have b2 := RP.out.cell 2
    have b3 := RP.out.cell 3
    have b4 := RP.out.cell 4
    have b5 := RP.out.cell 5
    have y0 := RY.out.cell 0
    have y1 := RY.out.cell 1
    have y2 := RY.out.cell 2
    clear hn ht
    go_enter Tryd.func47, Tryd.ntmps47
    go_wp2_with fail
    refine HC.out.mono ?_
    rintro e w2 ⟨rfl, hb2⟩
    have HB3 := Lib.hid (below_then HB2.out hb2)
    clear hb2 b0 b2 b3 b4 b5 y0 y1 y2
    go_wp2
    go_ret
    exact ⟨rfl, HB3.out⟩
  · have HE : Hid (hpis ⟨6, col, ⟨nb, nn, ns⟩, vals, ls, vv, lv⟩ y = decide (kcmp y ⟨nb, nn, ns⟩ ≤ 0)) := Lib.hid rfl
    have HC := Lib.hid (kcmp_own y ⟨nb, nn, ns⟩ ((w.alloc (.cells #[.int .i64 6, .int .i64 col, .bool nb, .int .i64 nn, .string ns, vv, lv] 51)).alloc (.cells #[.bool y.null, .int .i64 y.n, .string y.s] 41)))
    obtain ⟨t, ht⟩ : ∃ t, t = kcmp y ⟨nb, nn, ns⟩ := ⟨_, rfl⟩
    rw [← ht] at HC HE
    rw [HE.out]
    obtain ⟨yb, yn, ys⟩ := y
    unfold cv at HC ⊢
    dsimp only at HC RY HB2 RP ⊢
    have b0 := RP.out.cell 0
    have b2 := RP.out.cell 2
    have b3 := RP.out.cell 3
    have b4 := RP.out.cell 4
    have b5 := RP.out.cell 5
    have y0 := RY.out.cell 0
    have y1 := RY.out.cell 1
    have y2 := RY.out.cell 2
    clear hn ht
    go_enter Tryd.func47, Tryd.ntmps47
    go_wp2_with fail
    refine HC.out.mono ?_
    rintro e w2 ⟨rfl, hb2⟩
    have HB3 := Lib.hid (below_then HB2.out hb2)
    clear hb2 b0 b2 b3 b4 b5 y0 y1 y2
    go_wp2
    go_ret
    exact ⟨rfl, HB3.out⟩
  · have HE : Hid (hpis ⟨7, col, ⟨nb, nn, ns⟩, vals, ls, vv, lv⟩ y = vals.any (fun x => kcmp y x == 0)) := Lib.hid rfl
    have HC := Lib.hid (hamong_any vals vv y ((w.alloc (.cells #[.int .i64 7, .int .i64 col, .bool nb, .int .i64 nn, .string ns, vv, lv] 51)).alloc (.cells #[.bool y.null, .int .i64 y.n, .string y.s] 41)) (hn.vals.below HB2.out))
    obtain ⟨t, ht⟩ : ∃ t, t = vals.any (fun x => kcmp y x == 0) := ⟨_, rfl⟩
    rw [← ht] at HC HE
    rw [HE.out]
    obtain ⟨yb, yn, ys⟩ := y
    unfold cv at HC ⊢
    dsimp only at HC RY HB2 RP ⊢
    have b0 := RP.out.cell 0
    have b2 := RP.out.cell 2
    have b3 := RP.out.cell 3
    have b4 := RP.out.cell 4
    have b5 := RP.out.cell 5
    have y0 := RY.out.cell 0
    have y1 := RY.out.cell 1
    have y2 := RY.out.cell 2
    clear hn ht
    go_enter Tryd.func47, Tryd.ntmps47
    go_wp2_with fail
    refine HC.out.mono ?_
    rintro e w2 ⟨rfl, hb2⟩
    have HB3 := Lib.hid (below_then HB2.out hb2)
    clear hb2 b0 b2 b3 b4 b5 y0 y1 y2
    go_wp2
    go_ret
    exact ⟨rfl, HB3.out⟩
  · have HE : Hid (hpis ⟨8, col, ⟨nb, nn, ns⟩, vals, ls, vv, lv⟩ y = false) := Lib.hid rfl
    rw [HE.out]
    obtain ⟨yb, yn, ys⟩ := y
    unfold cv
    dsimp only at RY HB2 RP ⊢
    have b0 := RP.out.cell 0
    clear hn
    go_enter Tryd.func47, Tryd.ntmps47
    go_wp2
    go_ret
    exact ⟨rfl, HB2.out⟩
set_option maxHeartbeats 8000000 in
set_option maxRecDepth 100000 in
theorem halone_any (n : HN) (r : List CV) (rv : Value) (w : World) (hn : HAt n w) (hr : IsR kcells r rv w) (hcol : n.op ≠ 9 → 0 ≤ n.col ∧ n.col < (r.length : Int)) (hop : 4 ≤ n.op ∧ n.op ≤ 9) :
    Calls Tryd.prog 31 #[hpv n, rv] w fun e w' => e = .returned (.int .i64 (hpleaf n r)) ∧ Below w.heap.size w w' := by
  have HHO := Lib.hid (fun y W (h : Below w.heap.size w W) (h8 : n.op ≤ 8) => hholds_any n y W (hn.below h) ⟨hop.1, h8⟩)
  obtain ⟨op, col, ⟨nb, nn, ns⟩, vals, ls, vv, lv⟩ := n
  obtain ⟨vA, vm, vc, rfl⟩ := hn.vals.shape
  obtain ⟨lA, lm, lc, rfl⟩ := hn.ls.shape
  dsimp only at hcol hop
  obtain ⟨W1, hW1⟩ : ∃ W1, W1 = w.alloc (.cells #[.int .i64 op, .int .i64 col, .bool nb, .int .i64 nn, .string ns, .slice vA vm vc, .slice lA lm lc] 51) := ⟨_, rfl⟩
  have RB1 : Hid (Row W1 w.heap.size 51 [.int .i64 op, .int .i64 col, .bool nb, .int .i64 nn, .string ns, .slice vA vm vc, .slice lA lm lc]) := Lib.hid (by rw [hW1]; exact heap_alloc_new w _)
  have HB1 : Hid (Below w.heap.size w W1) := Lib.hid (by rw [hW1]; exact (Below.refl _ _).alloc (Nat.le_refl _) _)
  unfold hpv hpcells at *
  dsimp only at HHO ⊢
  by_cases h9 : op = 9
  · subst h9
    have HE := Lib.hid (show hpleaf ⟨9, col, ⟨nb, nn, ns⟩, vals, ls, .slice vA vm vc, .slice lA lm lc⟩ r = 2 from rfl)
    have b0 := RB1.out.cell 0
    clear hn hr hcol hop
    subst hW1
    go_enter Tryd.func31, Tryd.ntmps31
    go_wp2
    go_ret
    exact ⟨by rw [HE.out]; try rfl, HB1.out⟩
  obtain ⟨h0, h1⟩ := hcol h9
  obtain ⟨c, rfl⟩ := Int.eq_ofNat_of_zero_le h0
  have hcl : c < r.length := by omega
  have d9 : (op == 9) = false := by simpa using h9
  obtain ⟨A, rn, rc, rfl⟩ := hr.shape
  have hrn := hr.parts.1
  have hcr : c < rn := by omega
  have hcri : (c : Int) < (rn : Int) := by omega
  obtain ⟨ad, rfl, had, hcell⟩ := (hr.below HB1.out).at (m := 3) (fun _ => rfl) (by omega) hcl
  obtain ⟨v, hv⟩ : ∃ v, v = r[c] := ⟨_, rfl⟩
  have hgetv : r.getD (c : Int).toNat nul = v := by rw [Int.toNat_natCast, hv]; simp [List.getD, List.getElem?_eq_getElem hcl]
  rw [← hv] at hcell
  obtain ⟨k0, k1, k2⟩ := cells3 hcell
  have HHV := Lib.hid (fun W h h8 => HHO.out v W h h8)
  obtain ⟨q, hq⟩ : ∃ q, q = hpis ⟨op, (c : Int), ⟨nb, nn, ns⟩, vals, ls, .slice vA vm vc, .slice lA lm lc⟩ v := ⟨_, rfl⟩
  rw [← hq] at HHV
  have HQ := Lib.hid hq
  obtain ⟨vb, vn, vz⟩ := v
  dsimp only at k0 k1 k2
  obtain ⟨W2, hW2⟩ : ∃ W2, W2 = W1.alloc (.cells #[.bool vb, .int .i64 vn, .string vz] 41) := ⟨_, rfl⟩
  have hbn : Below W1.heap.size W1 W2 := by rw [hW2]; exact (Below.refl _ _).alloc (Nat.le_refl _) _
  have RB2 := Lib.hid (RB1.out.below hbn RB1.out.lt)
  have RV2 : Hid (Row W2 (w.heap.size + 1) 41 [.bool vb, .int .i64 vn, .string vz]) := Lib.hid (by
    have h : Row W2 W1.heap.size 41 [.bool vb, .int .i64 vn, .string vz] := by rw [hW2]; exact heap_alloc_new W1 _
    have hz : W1.heap.size = w.heap.size + 1 := by rw [hW1]; simp
    rwa [hz] at h)
  have HB2 := Lib.hid (below_then HB1.out hbn)
  have b0 := RB1.out.cell 0
  have b1 := RB1.out.cell 1
  have g0 := RB2.out.cell 0
  have x0 := RV2.out.cell 0
  clear hcell had hbn hrn hr hn h0 h1 hcl hq hv hcol
  cases vb with
  | true =>
    by_cases h8 : op = 8
    · subst h8
      have HE := Lib.hid (show hpleaf ⟨8, (c : Int), ⟨nb, nn, ns⟩, vals, ls, .slice vA vm vc, .slice lA lm lc⟩ r = 2 by unfold hpleaf; dsimp only; rw [if_neg (by decide), if_pos rfl, hgetv]; rfl)
      clear hgetv
      subst hW2
      subst hW1
      go_enter Tryd.func31, Tryd.ntmps31
      go_wp2
      go_ret
      exact ⟨by rw [HE.out]; try rfl, HB2.out⟩
    · have d8 : (op != 8) = true := by simpa using h8
      have HE := Lib.hid (show hpleaf ⟨op, (c : Int), ⟨nb, nn, ns⟩, vals, ls, .slice vA vm vc, .slice lA lm lc⟩ r = 1 by unfold hpleaf; dsimp only; rw [if_neg h9, if_neg h8, hgetv, if_pos rfl])
      clear hgetv
      subst hW2
      subst hW1
      go_enter Tryd.func31, Tryd.ntmps31
      go_wp2
      go_ret
      exact ⟨by rw [HE.out]; try rfl, HB2.out⟩
  | false =>
    have HE := Lib.hid (show hpleaf ⟨op, (c : Int), ⟨nb, nn, ns⟩, vals, ls, .slice vA vm vc, .slice lA lm lc⟩ r = hpyes q by
      rw [HQ.out]
      unfold hpleaf hpis
      dsimp only
      rw [if_neg h9, hgetv]
      by_cases h8 : op = 8
      · subst h8; rfl
      · rw [if_neg h8, if_neg (by simp)]
        split
        · rfl
        · split
          · rfl
          · split
            · rfl
            · rw [if_pos (by omega)])
    have HCC := Lib.hid (HHV.out W2 HB2.out (by omega))
    have x1 := RV2.out.cell 1
    have x2 := RV2.out.cell 2
    have g1 := RB2.out.cell 1
    have g2 := RB2.out.cell 2
    have g3 := RB2.out.cell 3
    have g4 := RB2.out.cell 4
    have g5 := RB2.out.cell 5
    have g6 := RB2.out.cell 6
    unfold cv at HCC
    dsimp only at HCC
    clear hgetv h9
    subst hW2
    subst hW1
    go_enter Tryd.func31, Tryd.ntmps31
    go_wp2_with fail
    refine HCC.out.mono ?_
    rintro e w3 ⟨rfl, hb3⟩
    have HB3 := Lib.hid (below_then HB2.out hb3)
    clear b0 b1 g0 x0 x1 x2 g1 g2 g3 g4 g5 g6 k0 k1 k2 hb3
    cases q with
    | true =>
      go_wp2
      go_ret
      exact ⟨by rw [HE.out]; rfl, HB3.out⟩
    | false =>
      go_wp2
      go_ret
      exact ⟨by rw [HE.out]; rfl, HB3.out⟩
end Go.Proofs.YtniniophoocalaaDoor

/- Predicates' own contracts: reached, with its closure; known. Written by gen_hpred.py. -/





namespace Go.Proofs.YtniniophoocalaaDoor

open Go.RowKit

theorem hpred_at2 (W : World) (g : Nat) : (Instr.fieldAt 51 (.pointer (some ⟨g, 0, none⟩)) 2).run Tryd.prog W = .ok (.pointer (some ⟨g, 2, none⟩)) W := by kernel_rfl
theorem hstats_at2 (W : World) (g : Nat) : (Instr.fieldAt 43 (.pointer (some ⟨g, 0, none⟩)) 2).run Tryd.prog W = .ok (.pointer (some ⟨g, 2, none⟩)) W := by kernel_rfl
theorem hstats_at3 (W : World) (g : Nat) : (Instr.fieldAt 43 (.pointer (some ⟨g, 0, none⟩)) 3).run Tryd.prog W = .ok (.pointer (some ⟨g, 5, none⟩)) W := by kernel_rfl
theorem box_rowS (sc : Int) (sh ab : Bool) (an : Int) (as_ : ByteArray) (zb : Bool) (zn : Int) (zs : ByteArray) (su : Int) (so : Bool) (w : World) : Row (w.alloc (.cells #[.int .i64 sc, .bool sh, .bool ab, .int .i64 an, .string as_, .bool zb, .int .i64 zn, .string zs, .int .i64 su, .bool so] 43)) w.heap.size 43 [.int .i64 sc, .bool sh, .bool ab, .int .i64 an, .string as_, .bool zb, .int .i64 zn, .string zs, .int .i64 su, .bool so] := heap_alloc_new w _
set_option maxHeartbeats 2000000 in
set_option maxRecDepth 100000 in
theorem hreach1_any (s : GS) (x : CV) (b : Nat) (w : World) (hr : Row w b 43 (gcells s)) : Calls Tryd.prog 58 #[cv x, .pointer (some ⟨b, 0, none⟩)] w fun e w' => e = .returned (.bool (decide (kcmp s.min x ≤ 0) && decide (kcmp x s.max ≤ 0))) ∧ Below w.heap.size w w' := by
  have HC1 := Lib.hid (fun W => kcmp_own s.min x W)
  have HC2 := Lib.hid (fun W => kcmp_own x s.max W)
  obtain ⟨p, hp⟩ : ∃ p, p = kcmp s.min x := ⟨_, rfl⟩
  obtain ⟨q, hq⟩ : ∃ q, q = kcmp x s.max := ⟨_, rfl⟩
  rw [← hp] at HC1 ⊢
  rw [← hq] at HC2 ⊢
  clear hp hq
  obtain ⟨sc, sh, ⟨ab, an, as_⟩, ⟨zb, zn, zs⟩, su, so⟩ := s
  obtain ⟨xb, xn, xs⟩ := x
  have HR : Hid (Row (w.alloc (.cells #[.bool xb, .int .i64 xn, .string xs] 41)) b 43 [.int .i64 sc, .bool sh, .bool ab, .int .i64 an, .string as_, .bool zb, .int .i64 zn, .string zs, .int .i64 su, .bool so]) := Lib.hid (hr.alloc _)
  have HX : Hid (Row (w.alloc (.cells #[.bool xb, .int .i64 xn, .string xs] 41)) w.heap.size 41 [.bool xb, .int .i64 xn, .string xs]) := Lib.hid (box_rowH ⟨xb, xn, xs⟩ w)
  have HB := Lib.hid (show Below w.heap.size w (w.alloc (.cells #[.bool xb, .int .i64 xn, .string xs] 41)) from (Below.refl _ _).alloc (Nat.le_refl _) _)
  unfold cv at *
  dsimp only at HC1 HC2
  have a0 := HX.out.cell 0
  have a1 := HX.out.cell 1
  have a2 := HX.out.cell 2
  have c2 := HR.out.cell 2
  have c3 := HR.out.cell 3
  have c4 := HR.out.cell 4
  have c5 := HR.out.cell 5
  have c6 := HR.out.cell 6
  have c7 := HR.out.cell 7
  clear hr
  by_cases h : p ≤ 0
  · have d1 : decide (p ≤ 0) = true := decide_eq_true h
    rw [d1, Bool.true_and]
    go_enter Tryd.func58, Tryd.ntmps58
    go_wp2_with fail
    refine (HC1.out _).mono ?_
    rintro e w2 ⟨rfl, hb2⟩
    have HR2 := Lib.hid (HR.out.below hb2 HR.out.lt)
    have HX2 := Lib.hid (HX.out.below hb2 HX.out.lt)
    have HB2 := Lib.hid (below_then HB.out hb2)
    clear hb2 a0 a1 a2 c2 c3 c4 c5 c6 c7
    have a0 := HX2.out.cell 0
    have a1 := HX2.out.cell 1
    have a2 := HX2.out.cell 2
    have c5 := HR2.out.cell 5
    have c6 := HR2.out.cell 6
    have c7 := HR2.out.cell 7
    go_wp2_with fail
    refine (HC2.out _).mono ?_
    rintro e w3 ⟨rfl, hb3⟩
    have HB3 := Lib.hid (below_then HB2.out hb3)
    clear hb3 a0 a1 a2 c5 c6 c7
    go_wp2
    go_ret
    exact ⟨rfl, HB3.out⟩
  · have d1 : decide (p ≤ 0) = false := decide_eq_false h
    rw [d1, Bool.false_and]
    go_enter Tryd.func58, Tryd.ntmps58
    go_wp2_with fail
    refine (HC1.out _).mono ?_
    rintro e w2 ⟨rfl, hb2⟩
    have HB2 := Lib.hid (below_then HB.out hb2)
    clear hb2 a0 a1 a2 c2 c3 c4 c5 c6 c7
    go_wp2
    go_ret
    exact ⟨rfl, HB2.out⟩
def HIdxRelR (l : List CV) (p : CV → Bool) (w : World) (i : Value) (wr : World) : Prop := ∃ k : Nat, k ≤ l.length ∧ i = .int .i64 (k : Int) ∧ (l.take k).any p = false ∧ Below w.heap.size w wr
set_option maxHeartbeats 2000000 in
set_option maxRecDepth 100000 in
theorem hindexR_any (l : List CV) (v : Value) (s : GS) (b : Nat) (w : World) (hv : IsR kcells l v w) (hr : Row w b 43 (gcells s)) :
    Calls Tryd.prog 63 #[v, .func (.func 58) #[] #[.pointer (some ⟨b, 0, none⟩)]] w fun e w' => (∃ r : Int, e = .returned (.int .i64 r) ∧ decide (0 ≤ r) = l.any (fun x => decide (kcmp s.min x ≤ 0) && decide (kcmp x s.max ≤ 0))) ∧ Below w.heap.size w w' := by
  obtain ⟨A, n, c, rfl⟩ := hv.shape
  have HN := Lib.hid hv.parts.1
  have hni : (n : Int) ≤ 9223372036854775807 := by have h := hv.parts; have h2 := h.2.2.1; have h3 := h.2.2.2.1; unfold maxLen at h3; omega
  have HV := Lib.hid hv
  have HR := Lib.hid hr
  obtain ⟨p, hp⟩ : ∃ p : CV → Bool, p = (fun x => decide (kcmp s.min x ≤ 0) && decide (kcmp x s.max ≤ 0)) := ⟨_, rfl⟩
  have HP := Lib.hid hp
  rw [← hp]
  have HS := Lib.hid (show HIdxRelR l p w (.int .i64 0) w from ⟨0, Nat.zero_le _, rfl, rfl, Below.refl _ _⟩)
  clear hv hr hp
  go_enter Tryd.func63, Tryd.ntmps63
  go_wp2
  go_loopw [8] (HIdxRelR l p w) (fun i _ => n - (intOf i).toNat)
  case atStart => exact HS.out
  case round =>
    obtain ⟨k, hk, rfl, hs, hbw⟩ := hrel
    have HSM := Lib.hid hs
    have HB := Lib.hid hbw
    have hkn : k ≤ n := by have := HN.out; omega
    clear hs hk
    by_cases hlt : k < n
    · have hkl : k < l.length := by have := HN.out; omega
      have hlti : (k : Int) < (n : Int) := by omega
      obtain ⟨ad, rfl, had, hcell⟩ := (HV.out.below hbw).at (m := 3) (fun _ => rfl) (by omega) hkl
      obtain ⟨x, hx⟩ : ∃ x, x = l[k] := ⟨_, rfl⟩
      rw [← hx] at hcell
      obtain ⟨k0, k1, k2⟩ := cells3 hcell
      have hxm : x ∈ l := by rw [hx]; exact List.getElem_mem hkl
      have HL := Lib.hid (hreach1_any s x b wr (HR.out.below hbw HR.out.lt))
      have HSN := Lib.hid (show (l.take (k + 1)).any p = p x by rw [List.take_succ_eq_append_getElem hkl, List.any_append, HSM.out, hx]; simp)
      have HAL := Lib.hid (show p x = true → l.any p = true from fun h => List.any_eq_true.2 ⟨x, hxm, h⟩)
      have HPX : Hid (p x = (decide (kcmp s.min x ≤ 0) && decide (kcmp x s.max ≤ 0))) := Lib.hid (by rw [HP.out])
      obtain ⟨q, hq⟩ : ∃ q, q = p x := ⟨_, rfl⟩
      rw [← HPX.out, ← hq] at HL
      rw [← hq] at HSN HAL
      obtain ⟨xb, xn, xs⟩ := x
      dsimp only at k0 k1 k2
      clear hcell hx hbw hxm hq HPX
      unfold cv at HL
      dsimp only at HL
      cases q with
      | true =>
        have HA := Lib.hid (HAL.out (by simp))
        go_wp2_with fail
        refine HL.out.mono ?_
        rintro e w1 ⟨rfl, hb1⟩
        have HB1 := Lib.hid (below_then HB.out hb1)
        clear hb1 k0 k1 k2
        go_wp2
        go_ret
        exact ⟨⟨_, rfl, by rw [HA.out]; exact decide_eq_true (by omega)⟩, HB1.out⟩
      | false =>
        go_wp2_with fail
        refine HL.out.mono ?_
        rintro e w1 ⟨rfl, hb1⟩
        have HB1 := Lib.hid (below_then HB.out hb1)
        clear hb1 k0 k1 k2
        go_wp2
        go_roundw
        case rel => exact ⟨k + 1, hkl, by go_num, HSN.out, HB1.out⟩
        case measure => simp [intOf]; omega
    · obtain rfl : k = n := by omega
      have hlti : ¬ (k : Int) < (k : Int) := by omega
      have HA := Lib.hid HSM.out
      rw [List.take_of_length_le (by have := HN.out; omega)] at HA
      go_wp2
      go_ret
      exact ⟨⟨_, rfl, by rw [HA.out]; rfl⟩, HB.out⟩
theorem hcontainsR_any (l : List CV) (v : Value) (s : GS) (b : Nat) (w : World) (hv : IsR kcells l v w) (hr : Row w b 43 (gcells s)) :
    Calls Tryd.prog 57 #[v, .func (.func 58) #[] #[.pointer (some ⟨b, 0, none⟩)]] w fun e w' => e = .returned (.bool (l.any (fun x => decide (kcmp s.min x ≤ 0) && decide (kcmp x s.max ≤ 0)))) ∧ Below w.heap.size w w' := by
  have HI := Lib.hid (hindexR_any l v s b w hv hr)
  obtain ⟨t, ht⟩ : ∃ t, t = l.any (fun x => decide (kcmp s.min x ≤ 0) && decide (kcmp x s.max ≤ 0)) := ⟨_, rfl⟩
  rw [← ht] at HI ⊢
  clear hv hr ht
  go_enter Tryd.func57, Tryd.ntmps57
  go_wp2_with fail
  refine HI.out.mono ?_
  rintro e w1 ⟨⟨r, rfl, hr⟩, hb1⟩
  have HB := Lib.hid hb1
  subst hr
  clear hb1
  go_wp2
  go_ret
  exact ⟨rfl, HB.out⟩
/-- Whether something from the least to the greatest one may come to No, to Yes. -/
def hrno (n : HN) (s : GS) : Bool :=
  if n.op = 4 then kcmp s.min n.v != 0 || kcmp s.max n.v != 0 else if n.op = 5 then decide (0 ≤ kcmp s.max n.v) else if n.op = 6 then decide (0 < kcmp s.max n.v)
  else !(kcmp s.min s.max == 0) || !(n.vals.any fun x => kcmp s.min x == 0)
def hryes (n : HN) (s : GS) : Bool :=
  if n.op = 4 then decide (kcmp s.min n.v ≤ 0) && decide (0 ≤ kcmp s.max n.v) else if n.op = 5 then decide (kcmp s.min n.v < 0) else if n.op = 6 then decide (kcmp s.min n.v ≤ 0)
  else n.vals.any fun x => decide (kcmp s.min x ≤ 0) && decide (kcmp x s.max ≤ 0)
theorem hpknown_eq (n : HN) (l : List GS) (h : 4 ≤ n.op ∧ n.op ≤ 7) (hc : 0 ≤ (l.getD n.col.toNat hpnull).count) :
    hpknown n l = ⟨decide (0 < (l.getD n.col.toNat hpnull).count) && hrno n (l.getD n.col.toNat hpnull), (l.getD n.col.toNat hpnull).has, decide (0 < (l.getD n.col.toNat hpnull).count) && hryes n (l.getD n.col.toNat hpnull)⟩ := by
  unfold hpknown
  rw [if_neg (by omega), if_neg (by omega)]
  generalize l.getD n.col.toNat hpnull = s at *
  by_cases h0 : s.count = 0
  · rw [if_pos h0, h0]
    rfl
  · rw [if_neg h0, decide_eq_true (show 0 < s.count by omega), Bool.true_and, Bool.true_and]
    dsimp only
    unfold hrno hryes
    by_cases h4 : n.op = 4
    · rw [if_pos h4, if_pos h4, if_pos h4]
      congr 1
      cases hx : (kcmp s.min n.v == 0) <;> cases hy : (kcmp s.max n.v == 0) <;> simp_all
    · rw [if_neg h4, if_neg h4, if_neg h4]
      by_cases h5 : n.op = 5
      · rw [if_pos h5, if_pos h5, if_pos h5]
      · rw [if_neg h5, if_neg h5, if_neg h5]
        by_cases h6 : n.op = 6
        · rw [if_pos h6, if_pos h6, if_pos h6]
        · rw [if_neg h6, if_neg h6, if_neg h6]
          have e1 : (fun v => kcmp v s.min == 0) = fun x => kcmp s.min x == 0 := funext fun x => by
            rw [Bool.eq_iff_iff, beq_iff_eq, beq_iff_eq]
            have := kcmp_neg x s.min
            omega
          have e2 : (fun v => decide (0 ≤ kcmp v s.min) && decide (kcmp v s.max ≤ 0)) = fun x => decide (kcmp s.min x ≤ 0) && decide (kcmp x s.max ≤ 0) := funext fun x => by
            congr 1
            have := kcmp_neg x s.min
            exact decide_eq_decide.2 (by omega)
          rw [e1, e2]
          congr 2
          cases hx : (kcmp s.min s.max == 0) <;> simp_all
set_option maxHeartbeats 8000000 in
set_option maxRecDepth 100000 in
theorem hreached_any (n : HN) (s : GS) (w : World) (hn : HAt n w) (hop : 4 ≤ n.op ∧ n.op ≤ 7) : Calls Tryd.prog 49 #[hpv n, gsv s] w fun e w' => e = .returned (.tuple #[.bool (hrno n s), .bool (hryes n s)]) ∧ Below w.heap.size w w' := by
  obtain ⟨op, col, ⟨nb, nn, ns⟩, vals, ls, vv, lv⟩ := n
  obtain ⟨sc, sh, ⟨ab, an, as_⟩, ⟨zb, zn, zs⟩, su, so⟩ := s
  dsimp only at hop
  have hb1 : Below w.heap.size w (w.alloc (.cells #[.int .i64 op, .int .i64 col, .bool nb, .int .i64 nn, .string ns, vv, lv] 51)) := (Below.refl _ _).alloc (Nat.le_refl _) _
  have hz1 : (w.alloc (.cells #[.int .i64 op, .int .i64 col, .bool nb, .int .i64 nn, .string ns, vv, lv] 51)).heap.size = w.heap.size + 1 := by simp
  obtain ⟨W2, hW2⟩ : ∃ W2, W2 = ((w.alloc (.cells #[.int .i64 op, .int .i64 col, .bool nb, .int .i64 nn, .string ns, vv, lv] 51)).alloc (.cells #[.int .i64 sc, .bool sh, .bool ab, .int .i64 an, .string as_, .bool zb, .int .i64 zn, .string zs, .int .i64 su, .bool so] 43)) := ⟨_, rfl⟩
  have HB2 : Hid (Below w.heap.size w W2) := Lib.hid (by rw [hW2]; exact hb1.alloc (by omega) _)
  have RP : Hid (Row W2 w.heap.size 51 [.int .i64 op, .int .i64 col, .bool nb, .int .i64 nn, .string ns, vv, lv]) := Lib.hid (by rw [hW2]; exact (box_rowP op col nb nn ns vv lv w).alloc _)
  have RS : Hid (Row W2 (w.heap.size + 1) 43 [.int .i64 sc, .bool sh, .bool ab, .int .i64 an, .string as_, .bool zb, .int .i64 zn, .string zs, .int .i64 su, .bool so]) := Lib.hid (by rw [hW2, ← hz1]; exact box_rowS _ _ _ _ _ _ _ _ _ _ _)
  have HVV := Lib.hid hn.vals
  dsimp only at HVV
  have HCA := Lib.hid (fun W => kcmp_own ⟨ab, an, as_⟩ ⟨nb, nn, ns⟩ W)
  have HCZ := Lib.hid (fun W => kcmp_own ⟨zb, zn, zs⟩ ⟨nb, nn, ns⟩ W)
  obtain ⟨a, ha⟩ : ∃ a, a = kcmp ⟨ab, an, as_⟩ ⟨nb, nn, ns⟩ := ⟨_, rfl⟩
  obtain ⟨z, hz⟩ : ∃ z, z = kcmp ⟨zb, zn, zs⟩ ⟨nb, nn, ns⟩ := ⟨_, rfl⟩
  rw [← ha] at HCA
  rw [← hz] at HCZ
  have HAA := Lib.hid ha
  have HZZ := Lib.hid hz
  have HSM := Lib.hid (fun W => ksame_own ⟨ab, an, as_⟩ ⟨zb, zn, zs⟩ W)
  have HAM := Lib.hid (fun W (h : IsR kcells vals vv W) => hamong_any vals vv ⟨ab, an, as_⟩ W h)
  obtain ⟨t, ht⟩ : ∃ t, t = (kcmp ⟨ab, an, as_⟩ ⟨zb, zn, zs⟩ == 0) := ⟨_, rfl⟩
  obtain ⟨u, hu⟩ : ∃ u, u = vals.any (fun x => kcmp ⟨ab, an, as_⟩ x == 0) := ⟨_, rfl⟩
  rw [← ht] at HSM
  rw [← hu] at HAM
  have HT := Lib.hid ht
  have HU7 := Lib.hid hu
  unfold cv at HSM HAM
  unfold hpv hpcells gsv gcells
  dsimp only at HSM HAM ⊢
  clear hn hb1 hz1 ha hz ht hu
  go_enter Tryd.func49, Tryd.ntmps49
  go_wp2_with fail
  rw [← hW2]
  clear hW2
  refine wp_region_list [.is (.pointer (some ⟨w.heap.size + 1, 2, none⟩)), .is (cv ⟨ab, an, as_⟩), .is (.pointer (some ⟨w.heap.size, 2, none⟩)), .is (cv ⟨nb, nn, ns⟩), .is (.int .i64 a), .is (.pointer (some ⟨w.heap.size + 1, 5, none⟩)), .is (cv ⟨zb, zn, zs⟩), .is (.pointer (some ⟨w.heap.size, 2, none⟩)), .is (cv ⟨nb, nn, ns⟩), .is (.int .i64 z), .is (.int .i64 a), .is (.int .i64 z)] [some 8, some 9, some 10, some 11, some 12, some 13, some 14, some 15, some 16, some 17, some 6, some 7] (by kernel_rfl) (by kernel_rfl) (by kernel_rfl) rfl ⟨?_, ?_, ?_, ?_, ?_, ?_, ?_, ?_, ?_, ?_, ?_, ?_, trivial⟩ ?_
  · intro ρ W1 hb1 H
    exact gives_field rfl (H.old 3 _ (by kernel_rfl) rfl) (fun W => hstats_at2 W (w.heap.size + 1)) ⟨rfl, Below.refl _ _⟩
  · intro ρ W1 hb1 H
    exact gives_load_wide (cs := kcells ⟨ab, an, as_⟩) rfl (H.new 8 0 (by kernel_rfl)) Tryd.underlying41 rfl cv_sizeH (row_atH (RS.out.below hb1 RS.out.lt) 2 (by intro q hq; rcases (by omega : q = 0 ∨ q = 1 ∨ q = 2) with rfl | rfl | rfl <;> rfl)) ⟨rfl, Below.refl _ _⟩
  · intro ρ W1 hb1 H
    exact gives_field rfl (H.old 2 _ (by kernel_rfl) rfl) (fun W => hpred_at2 W w.heap.size) ⟨rfl, Below.refl _ _⟩
  · intro ρ W1 hb1 H
    exact gives_load_wide (cs := kcells ⟨nb, nn, ns⟩) rfl (H.new 10 2 (by kernel_rfl)) Tryd.underlying41 rfl cv_sizeH (row_atH (RP.out.below hb1 RP.out.lt) 2 (by intro q hq; rcases (by omega : q = 0 ∨ q = 1 ∨ q = 2) with rfl | rfl | rfl <;> rfl)) ⟨rfl, Below.refl _ _⟩
  · intro ρ W1 hb1 H
    have e0 : ρ (.tmp 9) = cv ⟨ab, an, as_⟩ := H.new 9 1 (by kernel_rfl)
    have e1 : ρ (.tmp 11) = cv ⟨nb, nn, ns⟩ := H.new 11 3 (by kernel_rfl)
    refine gives_call rfl (fun _ _ => by kernel_rfl) (H.func _) (args := #[cv ⟨ab, an, as_⟩, cv ⟨nb, nn, ns⟩]) (by simp [e0, e1]) ?_
    exact (HCA.out W1).mono fun e w' ⟨h1, h2⟩ => ⟨_, h1, rfl, h2⟩
  · intro ρ W1 hb1 H
    exact gives_field rfl (H.old 3 _ (by kernel_rfl) rfl) (fun W => hstats_at3 W (w.heap.size + 1)) ⟨rfl, Below.refl _ _⟩
  · intro ρ W1 hb1 H
    exact gives_load_wide (cs := kcells ⟨zb, zn, zs⟩) rfl (H.new 13 5 (by kernel_rfl)) Tryd.underlying41 rfl cv_sizeH (row_atH (RS.out.below hb1 RS.out.lt) 5 (by intro q hq; rcases (by omega : q = 0 ∨ q = 1 ∨ q = 2) with rfl | rfl | rfl <;> rfl)) ⟨rfl, Below.refl _ _⟩
  · intro ρ W1 hb1 H
    exact gives_field rfl (H.old 2 _ (by kernel_rfl) rfl) (fun W => hpred_at2 W w.heap.size) ⟨rfl, Below.refl _ _⟩
  · intro ρ W1 hb1 H
    exact gives_load_wide (cs := kcells ⟨nb, nn, ns⟩) rfl (H.new 15 7 (by kernel_rfl)) Tryd.underlying41 rfl cv_sizeH (row_atH (RP.out.below hb1 RP.out.lt) 2 (by intro q hq; rcases (by omega : q = 0 ∨ q = 1 ∨ q = 2) with rfl | rfl | rfl <;> rfl)) ⟨rfl, Below.refl _ _⟩
  · intro ρ W1 hb1 H
    have e0 : ρ (.tmp 14) = cv ⟨zb, zn, zs⟩ := H.new 14 6 (by kernel_rfl)
    have e1 : ρ (.tmp 16) = cv ⟨nb, nn, ns⟩ := H.new 16 8 (by kernel_rfl)
    refine gives_call rfl (fun _ _ => by kernel_rfl) (H.func _) (args := #[cv ⟨zb, zn, zs⟩, cv ⟨nb, nn, ns⟩]) (by simp [e0, e1]) ?_
    exact (HCZ.out W1).mono fun e w' ⟨h1, h2⟩ => ⟨_, h1, rfl, h2⟩
  · intro ρ W1 hb1 H
    exact gives_assign rfl (H.new 12 4 (by kernel_rfl)) ⟨rfl, Below.refl _ _⟩
  · intro ρ W1 hb1 H
    exact gives_assign rfl (H.new 17 9 (by kernel_rfl)) ⟨rfl, Below.refl _ _⟩
  · intro vs W1 hb1 hfs
    have f10 : vs 10 = .int .i64 a := hfs 10 (by decide)
    have f11 : vs 11 = .int .i64 z := hfs 11 (by decide)
    clear hfs
    simp only [putAll, Nat.zero_add, Nat.reduceAdd]
    generalize vs 0 = z0
    generalize vs 1 = z1
    generalize vs 2 = z2
    generalize vs 3 = z3
    generalize vs 4 = z4
    generalize vs 5 = z5
    generalize vs 6 = z6
    generalize vs 7 = z7
    generalize vs 8 = z8
    generalize vs 9 = z9
    simp only [f10, f11, Act.put, List.setIfInBounds_toArray, List.set_cons_succ, List.set_cons_zero]
    clear f10 f11
    have HB1 := Lib.hid (below_then HB2.out hb1)
    have RP3 := Lib.hid (RP.out.below hb1 RP.out.lt)
    have RS3 := Lib.hid (RS.out.below hb1 RS.out.lt)
    have z0 := RP3.out.cell 0
    clear hb1 HCA HCZ
    rcases (by omega : op = 4 ∨ op = 5 ∨ op = 6 ∨ op = 7) with rfl | rfl | rfl | rfl
    all_goals clear hop
    · have HRN : Hid (hrno ⟨4, col, ⟨nb, nn, ns⟩, vals, ls, vv, lv⟩ ⟨sc, sh, ⟨ab, an, as_⟩, ⟨zb, zn, zs⟩, su, so⟩ = (a != 0 || z != 0)) := Lib.hid (by rw [HAA.out, HZZ.out]; rfl)
      have HRY : Hid (hryes ⟨4, col, ⟨nb, nn, ns⟩, vals, ls, vv, lv⟩ ⟨sc, sh, ⟨ab, an, as_⟩, ⟨zb, zn, zs⟩, su, so⟩ = (decide (a ≤ 0) && decide (0 ≤ z))) := Lib.hid (by rw [HAA.out, HZZ.out]; rfl)
      have ha3 : a = -1 ∨ a = 0 ∨ a = 1 := by rw [HAA.out]; exact kcmp_bd _ _
      have hz3 : z = -1 ∨ z = 0 ∨ z = 1 := by rw [HZZ.out]; exact kcmp_bd _ _
      clear HAA HZZ HSM HAM
      rcases ha3 with rfl | rfl | rfl <;> rcases hz3 with rfl | rfl | rfl
      all_goals
        go_wp2
        go_ret2
        exact ⟨by rw [HRN.out, HRY.out]; try rfl, HB1.out⟩
    · have HRN : Hid (hrno ⟨5, col, ⟨nb, nn, ns⟩, vals, ls, vv, lv⟩ ⟨sc, sh, ⟨ab, an, as_⟩, ⟨zb, zn, zs⟩, su, so⟩ = decide (0 ≤ z)) := Lib.hid (by rw [HZZ.out]; rfl)
      have HRY : Hid (hryes ⟨5, col, ⟨nb, nn, ns⟩, vals, ls, vv, lv⟩ ⟨sc, sh, ⟨ab, an, as_⟩, ⟨zb, zn, zs⟩, su, so⟩ = decide (a < 0)) := Lib.hid (by rw [HAA.out]; rfl)
      clear HAA HZZ HSM HAM
      go_wp2
      go_ret2
      exact ⟨by rw [HRN.out, HRY.out]; try rfl, HB1.out⟩
    · have HRN : Hid (hrno ⟨6, col, ⟨nb, nn, ns⟩, vals, ls, vv, lv⟩ ⟨sc, sh, ⟨ab, an, as_⟩, ⟨zb, zn, zs⟩, su, so⟩ = decide (0 < z)) := Lib.hid (by rw [HZZ.out]; rfl)
      have HRY : Hid (hryes ⟨6, col, ⟨nb, nn, ns⟩, vals, ls, vv, lv⟩ ⟨sc, sh, ⟨ab, an, as_⟩, ⟨zb, zn, zs⟩, su, so⟩ = decide (a ≤ 0)) := Lib.hid (by rw [HAA.out]; rfl)
      clear HAA HZZ HSM HAM
      go_wp2
      go_ret2
      exact ⟨by rw [HRN.out, HRY.out]; try rfl, HB1.out⟩
    · clear HAA HZZ
      have HRN : Hid (hrno ⟨7, col, ⟨nb, nn, ns⟩, vals, ls, vv, lv⟩ ⟨sc, sh, ⟨ab, an, as_⟩, ⟨zb, zn, zs⟩, su, so⟩ = (!t || !u)) := Lib.hid (by rw [HT.out, HU7.out]; rfl)
      have HRY : Hid (hryes ⟨7, col, ⟨nb, nn, ns⟩, vals, ls, vv, lv⟩ ⟨sc, sh, ⟨ab, an, as_⟩, ⟨zb, zn, zs⟩, su, so⟩ = vals.any (fun x => decide (kcmp ⟨ab, an, as_⟩ x ≤ 0) && decide (kcmp x ⟨zb, zn, zs⟩ ≤ 0))) := Lib.hid rfl
      obtain ⟨y, hy⟩ : ∃ y, y = vals.any (fun x => decide (kcmp ⟨ab, an, as_⟩ x ≤ 0) && decide (kcmp x ⟨zb, zn, zs⟩ ≤ 0)) := ⟨_, rfl⟩
      have HCO := Lib.hid (fun W (h : IsR kcells vals vv W) (h2 : Row W (w.heap.size + 1) 43 (gcells ⟨sc, sh, ⟨ab, an, as_⟩, ⟨zb, zn, zs⟩, su, so⟩)) => hcontainsR_any vals vv ⟨sc, sh, ⟨ab, an, as_⟩, ⟨zb, zn, zs⟩, su, so⟩ (w.heap.size + 1) W h h2)
      rw [← hy] at HRY HCO
      clear hy HT HU7
      have s2 := RS3.out.cell 2
      have s3 := RS3.out.cell 3
      have s4 := RS3.out.cell 4
      have s5 := RS3.out.cell 5
      have s6 := RS3.out.cell 6
      have s7 := RS3.out.cell 7
      go_wp2_with fail
      refine (HSM.out _).mono ?_
      rintro e w3 ⟨rfl, hb3⟩
      have HB3 := Lib.hid (below_then HB1.out hb3)
      have RP4 := Lib.hid (RP3.out.below hb3 RP3.out.lt)
      have RS4 := Lib.hid (RS3.out.below hb3 RS3.out.lt)
      clear hb3 s2 s3 s4 s5 s6 s7 z0
      have p5 := RP4.out.cell 5
      have s2 := RS4.out.cell 2
      have s3 := RS4.out.cell 3
      have s4 := RS4.out.cell 4
      cases t with
      | true =>
        go_wp2_with fail
        refine (HAM.out _ (HVV.out.below HB3.out)).mono ?_
        rintro e w4 ⟨rfl, hb4⟩
        have HB4 := Lib.hid (below_then HB3.out hb4)
        have RP5 := Lib.hid (RP4.out.below hb4 RP4.out.lt)
        have RS5 := Lib.hid (RS4.out.below hb4 RS4.out.lt)
        clear hb4 p5 s2 s3 s4
        have p5 := RP5.out.cell 5
        cases u with
        | true =>
          go_wp2_with fail
          refine (HCO.out _ (HVV.out.below HB4.out) RS5.out).mono ?_
          rintro e w5 ⟨rfl, hb5⟩
          have HB5 := Lib.hid (below_then HB4.out hb5)
          clear hb5 p5
          go_wp2
          go_ret2
          exact ⟨by rw [HRN.out, HRY.out]; try rfl, HB5.out⟩
        | false =>
          go_wp2_with fail
          refine (HCO.out _ (HVV.out.below HB4.out) RS5.out).mono ?_
          rintro e w5 ⟨rfl, hb5⟩
          have HB5 := Lib.hid (below_then HB4.out hb5)
          clear hb5 p5
          go_wp2
          go_ret2
          exact ⟨by rw [HRN.out, HRY.out]; try rfl, HB5.out⟩
      | false =>
        go_wp2_with fail
        refine (HCO.out _ (HVV.out.below HB3.out) RS4.out).mono ?_
        rintro e w5 ⟨rfl, hb5⟩
        have HB5 := Lib.hid (below_then HB3.out hb5)
        clear hb5 p5 s2 s3 s4
        go_wp2
        go_ret2
        exact ⟨by rw [HRN.out, HRY.out]; try rfl, HB5.out⟩

set_option maxHeartbeats 8000000 in
set_option maxRecDepth 100000 in
theorem hknown_any (n : HN) (l : List GS) (sv : Value) (w : World) (hn : HAt n w) (hs : IsR gcells l sv w) (hop : 4 ≤ n.op ∧ n.op ≤ 9) (hcol : n.op ≠ 9 → 0 ≤ n.col ∧ n.col < (l.length : Int)) (hcnt : ∀ x ∈ l, 0 ≤ x.count) :
    Calls Tryd.prog 41 #[hpv n, sv] w fun e w' => e = .returned (t3v (hpknown n l)) ∧ Below w.heap.size w w' := by
  have HRC := Lib.hid (fun s W (h : Below w.heap.size w W) (h8 : n.op ≤ 7) => hreached_any n s W (hn.below h) ⟨hop.1, h8⟩)
  have HKE := Lib.hid (fun h8 : n.op ≤ 7 => hpknown_eq n l ⟨hop.1, h8⟩)
  obtain ⟨op, col, ⟨nb, nn, ns⟩, vals, ls, vv, lv⟩ := n
  obtain ⟨vA, vm, vc, rfl⟩ := hn.vals.shape
  obtain ⟨lA, lm, lc, rfl⟩ := hn.ls.shape
  dsimp only at hop hcol HKE
  obtain ⟨W2, hW2⟩ : ∃ W2, W2 = (w.alloc (.cells #[.int .i64 op, .int .i64 col, .bool nb, .int .i64 nn, .string ns, .slice vA vm vc, .slice lA lm lc] 51)).alloc (.cells #[.bool false, .bool false, .bool false] 44) := ⟨_, rfl⟩
  have hbA : Below w.heap.size w (w.alloc (.cells #[.int .i64 op, .int .i64 col, .bool nb, .int .i64 nn, .string ns, .slice vA vm vc, .slice lA lm lc] 51)) := (Below.refl _ _).alloc (Nat.le_refl _) _
  have hzA : (w.alloc (.cells #[.int .i64 op, .int .i64 col, .bool nb, .int .i64 nn, .string ns, .slice vA vm vc, .slice lA lm lc] 51)).heap.size = w.heap.size + 1 := by simp
  have RB2 : Hid (Row W2 w.heap.size 51 [.int .i64 op, .int .i64 col, .bool nb, .int .i64 nn, .string ns, .slice vA vm vc, .slice lA lm lc]) := Lib.hid (by rw [hW2]; exact (box_rowP op col nb nn ns _ _ w).alloc _)
  have RT2 : Hid (Row W2 (w.heap.size + 1) 44 [.bool false, .bool false, .bool false]) := Lib.hid (by rw [hW2, ← hzA]; exact heap_alloc_new _ _)
  have HB2 : Hid (Below w.heap.size w W2) := Lib.hid (by rw [hW2]; exact hbA.alloc (by omega) _)
  have HZ2 : Hid (W2.heap.size = w.heap.size + 2) := Lib.hid (by rw [hW2]; simp)
  unfold hpv hpcells at *
  dsimp only at HRC ⊢
  clear hbA hzA
  by_cases h9 : op = 9
  · subst h9
    have HE := Lib.hid (show hpknown ⟨9, col, ⟨nb, nn, ns⟩, vals, ls, .slice vA vm vc, .slice lA lm lc⟩ l = ⟨false, false, true⟩ from rfl)
    have b0 := RB2.out.cell 0
    have HBX := HB2
    clear hn hs hop hcol hcnt
    subst hW2
    go_enter Tryd.func41, Tryd.ntmps41
    go_wp2_with (refine wpList_storeW rfl _ _ _ rfl (w.heap.size + 1) 0 44 [.bool false, .bool false, .bool false] [.bool false, .bool false, .bool true] [.bool false, .bool false, .bool true] rfl rfl rfl RT2.out infoA_size (Nat.le_refl _) (t3_one _ _ _) w w.heap.size HBX.out (by omega) ?_)
    intro w5 hr5 hb5 _
    have HR5 : Hid (Row w5 (w.heap.size + 1) 44 [.bool false, .bool false, .bool true]) := Lib.hid (by simpa using hr5)
    have HB5 := Lib.hid hb5
    clear hr5 hb5
    go_wp2
    refine bodyPost_ret (v := .agg #[.bool false, .bool false, .bool true]) (results_cell_row rfl _ _ (w.heap.size + 1) _ _ (0, 0) _ rfl HR5.out Tryd.underlying44 rfl (by kernel_rfl)) rfl ?_
    exact ⟨by rw [HE.out]; rfl, HB5.out⟩
  obtain ⟨h0, h1⟩ := hcol h9
  obtain ⟨c, rfl⟩ := Int.eq_ofNat_of_zero_le h0
  have hcl : c < l.length := by omega
  have d9 : (op == 9) = false := by simpa using h9
  obtain ⟨A, rn, rc, rfl⟩ := hs.shape
  have hrn := hs.parts.1
  have hcr : c < rn := by omega
  have hcri : (c : Int) < (rn : Int) := by omega
  obtain ⟨ad, rfl, had, hcell⟩ := (hs.below HB2.out).at (m := 10) (fun _ => rfl) (by omega) hcl
  obtain ⟨v, hv⟩ : ∃ v, v = l[c] := ⟨_, rfl⟩
  have hgetv : l.getD (c : Int).toNat hpnull = v := by rw [Int.toNat_natCast, hv]; simp [List.getD, List.getElem?_eq_getElem hcl]
  have hv0 : 0 ≤ v.count := hcnt v (by rw [hv]; exact List.getElem_mem hcl)
  rw [← hv] at hcell
  have HK2 := Lib.hid (fun h8 => HKE.out h8 (by rw [hgetv]; exact hv0))
  rw [hgetv] at HK2
  have HRV := Lib.hid (fun W h h8 => HRC.out v W h h8)
  obtain ⟨no, hno⟩ : ∃ b, b = hrno ⟨op, (c : Int), ⟨nb, nn, ns⟩, vals, ls, .slice vA vm vc, .slice lA lm lc⟩ v := ⟨_, rfl⟩
  obtain ⟨ye, hye⟩ : ∃ b, b = hryes ⟨op, (c : Int), ⟨nb, nn, ns⟩, vals, ls, .slice vA vm vc, .slice lA lm lc⟩ v := ⟨_, rfl⟩
  rw [← hno, ← hye] at HRV HK2
  have k1 := (cells10 hcell 0 (by omega)).2
  have k2 := (cells10 hcell 1 (by omega)).2
  have k3 := (cells10 hcell 2 (by omega)).2
  have k4 := (cells10 hcell 3 (by omega)).2
  have k5 := (cells10 hcell 4 (by omega)).2
  have k6 := (cells10 hcell 5 (by omega)).2
  have k7 := (cells10 hcell 6 (by omega)).2
  have k8 := (cells10 hcell 7 (by omega)).2
  have k9 := (cells10 hcell 8 (by omega)).2
  have k0 := (cells10 hcell 0 (by omega)).1
  obtain ⟨sc, sh, ⟨ab, an, as_⟩, ⟨zb, zn, zs⟩, su, so⟩ := v
  unfold gcells at k1 k2 k3 k4 k5 k6 k7 k8 k9
  dsimp only [List.getElem?_cons_succ, List.getElem?_cons_zero] at k0 k1 k2 k3 k4 k5 k6 k7 k8 k9 hv0 HK2
  obtain ⟨W3, hW3⟩ : ∃ W3, W3 = W2.alloc (.cells #[.int .i64 sc, .bool sh, .bool ab, .int .i64 an, .string as_, .bool zb, .int .i64 zn, .string zs, .int .i64 su, .bool so] 43) := ⟨_, rfl⟩
  have hbn : Below W2.heap.size W2 W3 := by rw [hW3]; exact (Below.refl _ _).alloc (Nat.le_refl _) _
  have RB3 := Lib.hid (RB2.out.below hbn RB2.out.lt)
  have RT3 := Lib.hid (RT2.out.below hbn RT2.out.lt)
  have RS3 : Hid (Row W3 (w.heap.size + 2) 43 [.int .i64 sc, .bool sh, .bool ab, .int .i64 an, .string as_, .bool zb, .int .i64 zn, .string zs, .int .i64 su, .bool so]) := Lib.hid (by
    have h : Row W3 W2.heap.size 43 [.int .i64 sc, .bool sh, .bool ab, .int .i64 an, .string as_, .bool zb, .int .i64 zn, .string zs, .int .i64 su, .bool so] := by rw [hW3]; exact heap_alloc_new W2 _
    rwa [HZ2.out] at h)
  have HB3 := Lib.hid (below_then HB2.out hbn)
  have b0 := RB2.out.cell 0
  have b1 := RB2.out.cell 1
  have g0 := RB3.out.cell 0
  have g1 := RB3.out.cell 1
  have g2 := RB3.out.cell 2
  have g3 := RB3.out.cell 3
  have g4 := RB3.out.cell 4
  have g5 := RB3.out.cell 5
  have g6 := RB3.out.cell 6
  have x0 := RS3.out.cell 0
  have x1 := RS3.out.cell 1
  have x2 := RS3.out.cell 2
  have x3 := RS3.out.cell 3
  have x4 := RS3.out.cell 4
  have x5 := RS3.out.cell 5
  have x6 := RS3.out.cell 6
  have x7 := RS3.out.cell 7
  have x8 := RS3.out.cell 8
  have x9 := RS3.out.cell 9
  have HBX := HB3
  have HGV := Lib.hid hgetv
  clear hcell had hbn hrn hs hn h0 h1 hcl hv hcol hcnt hno hye hgetv
  by_cases h8 : op = 8
  · subst h8
    have HE := Lib.hid (show hpknown ⟨8, (c : Int), ⟨nb, nn, ns⟩, vals, ls, .slice vA vm vc, .slice lA lm lc⟩ l = ⟨decide (0 < sc), false, sh⟩ by unfold hpknown; dsimp only; rw [if_neg (by decide), if_pos rfl, HGV.out])
    subst hW3
    subst hW2
    go_enter Tryd.func41, Tryd.ntmps41
    go_wp2_with (refine wpList_storeW rfl _ _ _ rfl (w.heap.size + 1) 0 44 [.bool false, .bool false, .bool false] [.bool (decide (0 < sc)), .bool false, .bool sh] [.bool (decide (0 < sc)), .bool false, .bool sh] rfl rfl rfl RT3.out infoA_size (Nat.le_refl _) (t3_one _ _ _) w w.heap.size HBX.out (by omega) ?_)
    intro w5 hr5 hb5 _
    have HR5 : Hid (Row w5 (w.heap.size + 1) 44 [.bool (decide (0 < sc)), .bool false, .bool sh]) := Lib.hid (by simpa using hr5)
    have HB5 := Lib.hid hb5
    clear hr5 hb5
    go_wp2
    refine bodyPost_ret (v := .agg #[.bool (decide (0 < sc)), .bool false, .bool sh]) (results_cell_row rfl _ _ (w.heap.size + 1) _ _ (0, 0) _ rfl HR5.out Tryd.underlying44 rfl (by kernel_rfl)) rfl ?_
    exact ⟨by rw [HE.out]; rfl, HB5.out⟩
  have d8 : (op == 8) = false := by simpa using h8
  have HRW := Lib.hid (HRV.out W3 HB3.out (by omega))
  have HKW := Lib.hid (HK2.out (by omega))
  unfold gsv gcells at HRW
  dsimp only at HRW
  by_cases hc0 : 0 < sc
  · have d0 : decide (0 < sc) = true := decide_eq_true hc0
    have HE : Hid (hpknown ⟨op, (c : Int), ⟨nb, nn, ns⟩, vals, ls, .slice vA vm vc, .slice lA lm lc⟩ l = ⟨no, sh, ye⟩) := Lib.hid (by rw [HKW.out, d0, Bool.true_and, Bool.true_and])
    subst hW3
    subst hW2
    go_enter Tryd.func41, Tryd.ntmps41
    go_wp2_with fail
    refine HRW.out.mono ?_
    rintro e w4 ⟨rfl, hb4⟩
    have HBX := Lib.hid (below_then HB3.out hb4)
    have RT4 := Lib.hid (RT3.out.below hb4 RT3.out.lt)
    have RS4 := Lib.hid (RS3.out.below hb4 RS3.out.lt)
    clear b0 b1 g0 g1 g2 g3 g4 g5 g6 x0 x1 x2 x3 x4 x5 x6 x7 x8 x9 k0 k1 k2 k3 k4 k5 k6 k7 k8 k9 hb4
    have y1 := RS4.out.cell 1
    go_wp2_with (refine wpList_storeW rfl _ _ _ rfl (w.heap.size + 1) 0 44 [.bool false, .bool false, .bool false] [.bool no, .bool sh, .bool ye] [.bool no, .bool sh, .bool ye] rfl rfl rfl RT4.out infoA_size (Nat.le_refl _) (t3_one _ _ _) w w.heap.size HBX.out (by omega) ?_)
    intro w5 hr5 hb5 _
    have HR5 : Hid (Row w5 (w.heap.size + 1) 44 [.bool no, .bool sh, .bool ye]) := Lib.hid (by simpa using hr5)
    have HB5 := Lib.hid hb5
    clear hr5 hb5
    go_wp2
    refine bodyPost_ret (v := .agg #[.bool no, .bool sh, .bool ye]) (results_cell_row rfl _ _ (w.heap.size + 1) _ _ (0, 0) _ rfl HR5.out Tryd.underlying44 rfl (by kernel_rfl)) rfl ?_
    exact ⟨by rw [HE.out]; rfl, HB5.out⟩
  · have d0 : decide (0 < sc) = false := decide_eq_false hc0
    have HE : Hid (hpknown ⟨op, (c : Int), ⟨nb, nn, ns⟩, vals, ls, .slice vA vm vc, .slice lA lm lc⟩ l = ⟨false, sh, false⟩) := Lib.hid (by rw [HKW.out, d0, Bool.false_and, Bool.false_and])
    subst hW3
    subst hW2
    go_enter Tryd.func41, Tryd.ntmps41
    go_wp2_with fail
    refine HRW.out.mono ?_
    rintro e w4 ⟨rfl, hb4⟩
    have HBX := Lib.hid (below_then HB3.out hb4)
    have RT4 := Lib.hid (RT3.out.below hb4 RT3.out.lt)
    have RS4 := Lib.hid (RS3.out.below hb4 RS3.out.lt)
    clear b0 b1 g0 g1 g2 g3 g4 g5 g6 x0 x1 x2 x3 x4 x5 x6 x7 x8 x9 k0 k1 k2 k3 k4 k5 k6 k7 k8 k9 hb4
    have y1 := RS4.out.cell 1
    go_wp2_with (refine wpList_storeW rfl _ _ _ rfl (w.heap.size + 1) 0 44 [.bool false, .bool false, .bool false] [.bool false, .bool sh, .bool false] [.bool false, .bool sh, .bool false] rfl rfl rfl RT4.out infoA_size (Nat.le_refl _) (t3_one _ _ _) w w.heap.size HBX.out (by omega) ?_)
    intro w5 hr5 hb5 _
    have HR5 : Hid (Row w5 (w.heap.size + 1) 44 [.bool false, .bool sh, .bool false]) := Lib.hid (by simpa using hr5)
    have HB5 := Lib.hid hb5
    clear hr5 hb5
    go_wp2
    refine bodyPost_ret (v := .agg #[.bool false, .bool sh, .bool false]) (results_cell_row rfl _ _ (w.heap.size + 1) _ _ (0, 0) _ rfl HR5.out Tryd.underlying44 rfl (by kernel_rfl)) rfl ?_
    exact ⟨by rw [HE.out]; rfl, HB5.out⟩
end Go.Proofs.YtniniophoocalaaDoor
