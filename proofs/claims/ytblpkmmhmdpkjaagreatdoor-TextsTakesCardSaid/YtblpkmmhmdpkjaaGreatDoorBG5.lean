import Derived.Deep.RegionLaw
import Derived.Test.YtblpkmmhmdpkjaaGreatDoorBG4
set_option maxHeartbeats 8000000
set_option maxRecDepth 100000
namespace Go.Proofs.YtblpkmmhmdpkjaaGreatDoor
open Go.RowKit
structure Later (R:World→World→Prop):Prop where
 refl:∀ w,R w w
 trans:∀ {a b c},R a b→R b c→R a c
 draw:∀ w,R w { w with drawn:=w.drawn+1 }
def upd (vs:Nat→Value) (i:Nat) (v:Value):Nat→Value:=fun j=>if j=i then v else vs j
theorem zt (vs:Nat→Value) (i:Nat) (v:Value):upd vs i v i=v:=if_pos rfl
theorem upd_ne (vs:Nat→Value) {i j:Nat} (v:Value) (h:j≠i):upd vs i v j=vs j:=if_neg h
structure RCtxR (ops:Array Oper) (F:Nat→(Nat→Value)→World→Prop) (a0:Act) (i:Nat) (ρ:Operand→Value) (vs:Nat→Value) (w:World):Prop where
 const:∀ v,ρ (.const v)=v
 func:∀ f,ρ (.func f)=.func (.func f) #[] #[]
 glob:∀ g,ρ (.global g)=.pointer (some ⟨g,0,none⟩)
 new:∀ d j,zct ops i d=some j→ρ (.tmp d)=vs j
 fact:∀ j,zbD ops j i=true→F j vs w
 old:∀ d v,zct ops i d=none→a0.eval (.tmp d)=v→ρ (.tmp d)=v
theorem zlv {ops:Array Oper} {i d j:Nat} (h:zct ops i d=some j):zbD ops j i=true:=by
 have h1:=List.find?_some h
 simp at h1
 exact h1.2
section
variable {P:Program} {ops:Array Oper} {Q:Exit→Act→World→Prop} {R:World→World→Prop}
theorem ze6 (HR:Later R) {a0:Act} {w0:World} (m:Nat) (hm:m≤ops.size) (F:Nat→(Nat→Value)→World→Prop)
  (hok:zbl ops a0.tmps.size=true)
  (hF:∀ i vs w w',F i vs w→R w w'→F i vs w')
  (hloc:∀ i vs vs' w,(∀ k,(k=i∨zbD ops k i=true)→vs k=vs' k)→F i vs w→F i vs' w)
  (hstep:∀ i o,i < m→ops[i]? = some o→∀ (vs:Nat→Value) (w:World),R w0 w→(∀ j,zbD ops j i=true→F j vs w) →
   if Region.wanted o (yielded ops (puts ops (fun _=>true) vs i a0).tmps)=true then
    o.wp P (puts ops (fun _=>true) vs i a0) w (fun a' w'=>∃ v,a'=(puts ops (fun _=>true) vs i a0).put o.dst v∧F i (upd vs i v) w'∧R w w') (fun _ _ _=>False)
   else F i (upd vs i undef) w)
  (hwait:∀ l:Array Bool,HeadInv .any ops m l→(∃ i,i < m∧l.getD i true=false)→∀ t,m≤t→t∉Region.ready .any ops l)
  (hfin:∀ (l:Array Bool) (vs:Nat→Value) (w:World),l.size=ops.size→(∀ j,j < m→l.getD j false=true)→(∀ j,m≤j→j < ops.size→l.getD j false=false)→R w0 w→(∀ i,i < m→F i vs w) →
   wpAny P .any ops Q (ops.size - m) l (puts ops (fun _=>true) vs m a0) w) :
  wpAny P .any ops Q ops.size (Array.replicate ops.size false) a0 { w0 with drawn:=w0.drawn+1 }:=by
 have main:∀ (fuel:Nat) (l:Array Bool) (vs:Nat→Value) (w:World),l.size=ops.size→left m l≤fuel→(∀ i j,i < ops.size→l.getD i false=true→zbD ops j i=true→l.getD j false=true) →
   (∀ t,m≤t→t < ops.size→l.getD t false=false) →
   (∀ i,i < ops.size→l.getD i false=true→F i vs w)→R w0 w→wpAny P .any ops Q (fuel+(ops.size - m)) l (puts ops (fun j=>l.getD j false) vs ops.size a0) w:=by
  intro fuel
  have hend:∀ (f:Nat) (l:Array Bool) (vs:Nat→Value) (w:World),l.size=ops.size→(∀ t,m≤t→t < ops.size→l.getD t false=false)→(∀ i,i < ops.size→l.getD i false=true→F i vs w)→R w0 w→(∀ j,j < m→l.getD j false=true) →
    wpAny P .any ops Q (f+(ops.size - m)) l (puts ops (fun j=>l.getD j false) vs ops.size a0) w:=by
   intro f l vs w hs htl hfs hb hall
   rw [ziE _ vs a0 m ops.size hm htl,zdg (fun j=>l.getD j false) (fun _=>true) vs vs a0 m hall (fun _ _ _=>rfl)]
   exact zjn _ _ _ _ _ (hfin l vs w hs hall htl hb fun i hi=>hfs i (by omega) (hall i hi))
  induction fuel with
  | zero =>
   intro l vs w hs hl hcl htl hfs hb
   refine hend 0 l vs w hs htl hfs hb fun j hj=>?_
   cases h1:l.getD j false with
   | true=>rfl
   | false=>have:=zdx hj (by omega) h1;omega
  | succ fuel ih =>
   intro l vs w hs hl hcl htl hfs hb
   by_cases hall:∀ j,j < m→l.getD j false=true
   ·exact hend _ l vs w hs htl hfs hb hall
   obtain ⟨j0,hj0⟩:=Classical.not_forall.1 hall
   have hj0m:j0 < m:=by
    rcases Nat.lt_or_ge j0 m with h | h
    ·exact h
    ·exact absurd (fun h'=>absurd h' (by omega)) hj0
   have hj0f:l.getD j0 false=false:=by
    cases h1:l.getD j0 false with
    | false=>rfl
    | true=>exact absurd (fun _=>h1) hj0
   have hinv:HeadInv .any ops m l:=by
    refine ⟨hs,fun j oj hj hlj e he hbd=>?_,fun t ht ht'=>getD_in (by omega) (htl t ht ht')⟩
    refine hcl j e.on (Array.getElem?_eq_some_iff.1 hj).1 hlj ?_
    unfold zbD
    rw [hj,Option.map_some,Option.getD_some,List.any_eq_true]
    exact ⟨e,by simpa using he,by rw [hbd];simp⟩
   have hwt:=hwait l hinv ⟨j0,hj0m,getD_in (by omega) hj0f⟩
   rw [show fuel+1+(ops.size - m)=(fuel+(ops.size - m))+1 by omega]
   refine ⟨fun hr=>?_,fun i hi=>?_⟩
   ·exfalso
    have hallb:∀ i,i < m→l.getD i false=true:=by
     intro i
     induction i using Nat.strongRecOn with
     | ind i ih =>
      intro hi
      by_cases hl:l.getD i false=true
      ·exact hl
      ·exfalso
       have ho:ops[i]? = some ops[i]:=Array.getElem?_eq_getElem (by omega)
       have hok':=zP hok ho
       have hmem:i∈Region.ready .any ops l:=mem_ready.2 ⟨by
        have:i < l.size:=by omega
        simp [this] at hl ⊢
        exact hl,ops[i],ho,fun e he hbd=>ih e.on (hok'.1 e he hbd) (by have:=hok'.1 e he hbd;omega)⟩
       rw [hr] at hmem
       cases hmem
    exact absurd (hallb j0 hj0m) (by rw [hj0f];decide)
   have him:i < m:=by
    rcases Nat.lt_or_ge i m with h | h
    ·exact h
    ·exact absurd hi (hwt i h)
   obtain ⟨h0,o,ho,hpre⟩:=mem_ready.1 hi
   have hlt:i < ops.size:=(Array.getElem?_eq_some_iff.1 ho).1
   have h1:l.getD i false=false:=by
    have:i < l.size:=by omega
    simp [this] at h0 ⊢
    exact h0
   obtain ⟨hback,hsel,hdst,hlook⟩:=zP hok ho
   have hpred:∀ j,zbD ops j i=true→l.getD j false=true∧j < i:=by
    intro j hj
    unfold zbD at hj
    rw [ho,Option.map_some,Option.getD_some,List.any_eq_true] at hj
    obtain ⟨e,he,hej⟩:=hj
    have he:e∈o.after:=by simpa using he
    simp at hej
    rw [←hej.2]
    exact ⟨hpre e he hej.1,hback e he hej.1⟩
   have hrd:rdst ops i=o.dst:=by unfold rdst;rw [ho];rfl
   have hsame:∀ d∈o.looksAt ops,(puts ops (fun j=>l.getD j false) vs ops.size a0).tmps[d]? = (puts ops (fun _=>true) vs i a0).tmps[d]?:=by
    intro d hd
    by_cases hex:∃ j,j < ops.size∧j≠i∧rdst ops j=some d
    ·obtain ⟨j,hj,hne,hjd⟩:=hex
     have hoj:ops[j]? = some ops[j]:=Array.getElem?_eq_getElem hj
     have hdj:ops[j].dst=some d:=by unfold rdst at hjd;rw [hoj] at hjd;exact hjd
     have huniq:∀ k,k < ops.size→k≠j→rdst ops k≠some d:=fun k hk hkj=>((zP hok hoj).2.2.1 d hdj).2 k hk hkj
     rcases hlook d hd j hj hne hjd with hp | hp
     ·obtain ⟨hlj,hji⟩:=hpred j hp
      rw [zeg _ vs a0 d j hjd hlj ops.size hj huniq,zeg _ vs a0 d j hjd rfl i hji fun k hk=>huniq k (by omega)]
     ·have hnl:l.getD j false=false:=by
       cases hlj:l.getD j false with
       | false=>rfl
       | true=>exact absurd (hcl j i hj hlj hp) (by rw [h1];decide)
      have hij:i < j:=by
       unfold zbD at hp
       rw [hoj,Option.map_some,Option.getD_some,List.any_eq_true] at hp
       obtain ⟨e,he,hej⟩:=hp
       have he:e∈ops[j].after:=by simpa using he
       simp at hej
       have:=(zP hok hoj).1 e he hej.1
       omega
      rw [zcq _ vs a0 d ops.size,zcq _ vs a0 d i]
      ·intro k hk _ hkd
       exact huniq k (by omega) (by omega) hkd
      ·intro k hk hlk hkd
       by_cases hkj:k=j
       ·subst hkj;rw [hnl] at hlk;cases hlk
       ·exact huniq k hk hkj hkd
    ·rw [zcq _ vs a0 d ops.size,zcq _ vs a0 d i]
     ·intro k hk _ hkd;exact hex ⟨k,by omega,by omega,hkd⟩
     ·intro k hk hlk hkd
      by_cases hki:k=i
      ·subst hki;rw [h1] at hlk;cases hlk
      ·exact hex ⟨k,hk,hki,hkd⟩
   have hst:=hstep i o him ho vs w hb fun j hj=>hfs j (by have:=(hpred j hj).2;omega) (hpred j hj).1
   have hwant:=zfR hsame
   have hexec:execOp (puts ops (fun j=>l.getD j false) vs ops.size a0).eval o=execOp (puts ops (fun _=>true) vs i a0).eval o:=by
    refine execOp_congr o hsel fun x hx=>?_
    cases x with
    | tmp d =>
     have hd:d∈o.looksAt ops:=List.mem_append_left _ (List.mem_filterMap.2 ⟨.tmp d,by simpa using hx,rfl⟩)
     have:=hsame d hd
     show (puts ops (fun j=>l.getD j false) vs ops.size a0).tmps.getD d undef=(puts ops (fun _=>true) vs i a0).tmps.getD d undef
     rw [Array.getD_eq_getD_getElem?,Array.getD_eq_getD_getElem?,this]
    | _=>rfl
   have hnext:∀ v w',F i (upd vs i v) w'→R w w'→wpAny P .any ops Q (fuel+(ops.size - m)) (l.setIfInBounds i true) ((puts ops (fun j=>l.getD j false) vs ops.size a0).put o.dst v) w':=by
    intro v w' hv hb'
    have hset:=zmc (ops:=ops) (fun j=>l.getD j false) vs a0 i v h1 ops.size hlt fun j hj hne d hd=>(hdst d (by rw [←hrd];exact hd)).2 j hj hne
    rw [←hrd,←hset]
    have hmarks:∀ j,j < ops.size→(j == i || l.getD j false)=(l.setIfInBounds i true).getD j false:=by
     intro j hj
     by_cases hij:i=j
     ·subst hij;simp [hs,hlt]
     ·rw [getD_set_ne false hij]
      have:(j == i)=false:=by simp;omega
      simp [this]
    rw [zdg _ (fun j=>(l.setIfInBounds i true).getD j false) _ (fun j=>if j=i then v else vs j) a0 ops.size hmarks (fun _ _ _=>rfl)]
    refine ih (l.setIfInBounds i true) _ w' (by simp [hs]) (by have:=zdx him (by omega) h1;omega) ?_ ?_ ?_ (HR.trans hb hb')
    ·intro j k hj hlj hjk
     rw [←hmarks j hj] at hlj
     by_cases hji:j=i
     ·subst hji;exact getD_set_true (hpred k hjk).1
     ·have:(j == i)=false:=by simpa using hji
      rw [this,Bool.false_or] at hlj
      exact getD_set_true (hcl j k hj hlj hjk)
    ·intro t ht ht'
     rw [getD_set_ne false (by omega)]
     exact htl t ht ht'
    ·intro j hj hlj
     rw [←hmarks j hj] at hlj
     by_cases hji:j=i
     ·subst hji;exact hv
     ·have:(j == i)=false:=by simpa using hji
      rw [this,Bool.false_or] at hlj
      refine hF j _ w w' (hloc j vs _ w (fun k hk=>?_) (hfs j hj hlj)) hb'
      have hki:k≠i:=by
       rcases hk with rfl | hk
       ·exact hji
       ·rintro rfl
        rw [hcl j k hj hlj hk] at h1
        cases h1
      show vs k=if k=i then v else vs k
      rw [if_neg hki]
   unfold wpOp
   rw [ho]
   show if Region.wanted o _=true then _ else _
   rw [hwant]
   by_cases hw:Region.wanted o (yielded ops (puts ops (fun _=>true) vs i a0).tmps)=true
   ·rw [if_pos hw] at hst ⊢
    exact .inl (zmd hexec (fun d hd=>by rw [zgt];exact (hdst d hd).1) hst fun v w' h=>hnext v w' h.1 h.2)
   ·rw [if_neg hw] at hst ⊢
    exact hnext undef w hst (HR.refl _)
 have hinit:=main m (Array.replicate ops.size false) (fun _=>undef) { w0 with drawn:=w0.drawn+1 } (by simp) (by unfold left;exact Nat.le_trans (List.length_filter_le _ _) (by simp))
  (fun i j hi h _=>by simp [hi] at h) (fun t _ _=>getD_replicate_false _ _) (fun i hi h=>by simp [hi] at h) (HR.draw _)
 have hz:puts ops (fun j=>(Array.replicate ops.size false).getD j false) (fun _=>undef) ops.size a0=a0:=by
  have:∀ n,n≤ops.size→puts ops (fun j=>(Array.replicate ops.size false).getD j false) (fun _=>undef) n a0=a0:=by
   intro n
   induction n with
   | zero=>intro _;rfl
   | succ n ih =>
    intro hn
    have hlt:n < ops.size:=by omega
    rw [puts,if_neg (by simp [hlt]),ih (by omega)]
  exact this _ (Nat.le_refl _)
 rw [hz,show m+(ops.size - m)=ops.size by omega] at hinit
 exact hinit
theorem zeJ (HR:Later R) {a0:Act} {w0:World} (F:Nat→(Nat→Value)→World→Prop)
  (hok:zbl ops a0.tmps.size=true)
  (hF:∀ i vs w w',F i vs w→R w w'→F i vs w')
  (hloc:∀ i vs vs' w,(∀ k,(k=i∨zbD ops k i=true)→vs k=vs' k)→F i vs w→F i vs' w)
  (hstep:∀ i o,ops[i]? = some o→∀ (vs:Nat→Value) (w:World),R w0 w→(∀ j,zbD ops j i=true→F j vs w) →
   if Region.wanted o (yielded ops (puts ops (fun _=>true) vs i a0).tmps)=true then
    o.wp P (puts ops (fun _=>true) vs i a0) w (fun a' w'=>∃ v,a'=(puts ops (fun _=>true) vs i a0).put o.dst v∧F i (upd vs i v) w'∧R w w') (fun _ _ _=>False)
   else F i (upd vs i undef) w)
  (hfin:∀ (vs:Nat→Value) (w:World),R w0 w→(∀ i,i < ops.size→F i vs w)→Q .normal (puts ops (fun _=>true) vs ops.size a0) w) :
  wpAny P .any ops Q ops.size (Array.replicate ops.size false) a0 { w0 with drawn:=w0.drawn+1 }:=by
 refine ze6 HR ops.size (Nat.le_refl _) F hok hF hloc (fun i o _=>hstep i o) (fun l _ _ t ht hr=>?_) fun l vs w hs hall _ hb hf=>?_
 ·obtain ⟨_,o,ho,_⟩:=mem_ready.1 hr
  have:=(Array.getElem?_eq_some_iff.1 ho).1
  omega
 ·rw [Nat.sub_self]
  refine ⟨List.eq_nil_iff_forall_not_mem.2 fun i hi=>?_,hfin vs w hb hf⟩
  obtain ⟨h0,o,ho,_⟩:=mem_ready.1 hi
  have hlt:=(Array.getElem?_eq_some_iff.1 ho).1
  have h1:=hall i hlt
  have:i < l.size:=by omega
  simp [this] at h0 h1
  rw [h0] at h1
  cases h1
def ziR (R:World→World→Prop) (P:Program) (ops:Array Oper) (F:Nat→(Nat→Value)→World→Prop) (a0:Act) (w0:World) (i:Nat) (o:Oper):Prop:=
 ∀ (ρ:Operand→Value) (vs:Nat→Value) (w:World),R w0 w→RCtxR ops F a0 i ρ vs w →
  match o.guard with
  | none=>zba P o ρ w fun v w'=>F i (upd vs i v) w'∧R w w'
  | some (g,b)=>∀ d,rdst ops g=some d→(ρ (.tmp d)=.bool b→zba P o ρ w fun v w'=>F i (upd vs i v) w'∧R w w')∧(ρ (.tmp d)≠.bool b→F i (upd vs i undef) w)
def zcJ (R:World→World→Prop) (P:Program) (ops:Array Oper) (F:Nat→(Nat→Value)→World→Prop) (a0:Act) (w0:World):Nat→List Oper→Prop
 | _,[]=>True
 | i,o::r=>ziR R P ops F a0 w0 i o∧zcJ R P ops F a0 w0 (i+1) r
theorem ziS {F:Nat→(Nat→Value)→World→Prop} {a0:Act} {w0:World}:∀ (l:List Oper) (k:Nat),zcJ R P ops F a0 w0 k l→∀ i o,l[i]? = some o→ziR R P ops F a0 w0 (k+i) o:=by
 intro l
 induction l with
 | nil=>intro k _ i o h;simp at h
 | cons x l ih =>
  intro k hs i o h
  cases i with
  | zero=>simp at h;subst h;exact hs.1
  | succ i =>
   have:=ih (k+1) hs.2 i o (by simpa using h)
   rwa [Nat.add_assoc,Nat.add_comm 1] at this
theorem zj1 {a0:Act} {w0:World} (F:Nat→(Nat→Value)→World→Prop)
  (hok:zbl ops a0.tmps.size=true) (hgd:zbQ ops=true)
  (i:Nat) (o:Oper) (ho:ops[i]? = some o) (hst:ziR R P ops F a0 w0 i o) (vs:Nat→Value) (w:World) (hb:R w0 w) (hp:∀ j,zbD ops j i=true→F j vs w) :
   if Region.wanted o (yielded ops (puts ops (fun _=>true) vs i a0).tmps)=true then
    o.wp P (puts ops (fun _=>true) vs i a0) w (fun a' w'=>∃ v,a'=(puts ops (fun _=>true) vs i a0).put o.dst v∧F i (upd vs i v) w'∧R w w') (fun _ _ _=>False)
   else F i (upd vs i undef) w:=by
 have hlt:i < ops.size:=(Array.getElem?_eq_some_iff.1 ho).1
 obtain ⟨hback,hsel,hdst,hlook⟩:=zP hok ho
 have hpi:∀ j,zbD ops j i=true→j < i:=by
  intro j hj
  unfold zbD at hj
  rw [ho,Option.map_some,Option.getD_some,List.any_eq_true] at hj
  obtain ⟨e,he,hej⟩:=hj
  simp at hej
  rw [←hej.2]
  exact hback e (by simpa using he) hej.1
 have hw:∀ d j,zct ops i d=some j→rdst ops j=some d∧zbD ops j i=true∧j < ops.size:=by
  intro d j h
  have h1:=List.find?_some h
  have h2:=List.mem_of_find?_eq_some h
  simp at h1
  exact ⟨h1.1,h1.2,List.mem_range.1 h2⟩
 have hctx:RCtxR ops F a0 i (sees ops vs a0 i) vs w:=by
  refine ⟨fun _=>rfl,fun _=>rfl,fun _=>rfl,fun d j h=>?_,hp,fun d v h hv=>?_⟩
  ·show (match zct ops i d with | some j=>vs j | none=>a0.eval (.tmp d))=vs j
   rw [h]
  ·show (match zct ops i d with | some j=>vs j | none=>a0.eval (.tmp d))=v
   rw [h]
   exact hv
 have hsee:∀ d∈o.looksAt ops,(puts ops (fun _=>true) vs i a0).tmps.getD d undef=sees ops vs a0 i (.tmp d):=by
  intro d hd
  show _=(match zct ops i d with | some j=>vs j | none=>a0.eval (.tmp d))
  cases hwr:zct ops i d with
  | some j =>
   obtain ⟨h1,h2,h3⟩:=hw d j hwr
   have hoj:ops[j]? = some ops[j]:=Array.getElem?_eq_getElem h3
   have hdj:ops[j].dst=some d:=by unfold rdst at h1;rw [hoj] at h1;exact h1
   have hu:=(zP hok hoj).2.2.1 d hdj
   have hpn:=zeg (ops:=ops) (fun _=>true) vs a0 d j h1 rfl i (hpi j h2) fun k hk=>hu.2 k (by omega)
   rw [Array.getD_eq_getD_getElem?,hpn]
   simp [Act.put,hu.1]
  | none =>
   have hno:∀ j,j < i→rdst ops j≠some d:=by
    intro j hj hjd
    have h1:=hlook d hd j (by omega) (by omega) hjd
    rcases h1 with h1 | h1
    ·have h2:=List.find?_eq_none.1 hwr j (List.mem_range.2 (by omega))
     simp [hjd,h1] at h2
    ·have hoj:ops[j]? = some ops[j]:=Array.getElem?_eq_getElem (by omega)
     unfold zbD at h1
     rw [hoj,Option.map_some,Option.getD_some,List.any_eq_true] at h1
     obtain ⟨e,he,hej⟩:=h1
     simp at hej
     have:=(zP hok hoj).1 e (by simpa using he) hej.1
     omega
   show _=a0.tmps.getD d undef
   rw [Array.getD_eq_getD_getElem?,Array.getD_eq_getD_getElem?,zcq (ops:=ops) (fun _=>true) vs a0 d i fun j hj _=>hno j hj]
 have hexec:execOp (puts ops (fun _=>true) vs i a0).eval o=execOp (sees ops vs a0 i) o:=by
  refine execOp_congr o hsel fun x hx=>?_
  cases x with
  | tmp d=>exact hsee d (List.mem_append_left _ (List.mem_filterMap.2 ⟨.tmp d,by simpa using hx,rfl⟩))
  | _=>rfl
 have h1:=hst (sees ops vs a0 i) vs w hb hctx
 cases hg:o.guard with
 | none =>
  rw [hg] at h1
  have hwa:Region.wanted o (yielded ops (puts ops (fun _=>true) vs i a0).tmps)=true:=by unfold Region.wanted;rw [hg]
  rw [if_pos hwa]
  exact zdy hexec h1
 | some p =>
  obtain ⟨g,b⟩:=p
  rw [hg] at h1
  have hgo:(rdst ops g).isSome=true:=by
   unfold zbQ at hgd
   rw [List.all_eq_true] at hgd
   have:=hgd i (List.mem_range.2 hlt)
   rw [ho,Option.map_some,Option.getD_some,hg] at this
   exact this
  obtain ⟨d,hd⟩:=Option.isSome_iff_exists.1 hgo
  obtain ⟨hyes,hno⟩:=h1 d hd
  have hdl:d∈o.looksAt ops:=List.mem_append_right _ (by rw [hg];show d∈((ops[g]?).bind (·.dst)).toList;have:(ops[g]?).bind (·.dst)=some d:=hd;rw [this];simp)
  have hv:=hsee d hdl
  by_cases hw:Region.wanted o (yielded ops (puts ops (fun _=>true) vs i a0).tmps)=true
  ·rw [if_pos hw]
   refine zdy hexec (hyes ?_)
   rw [←hv]
   unfold Region.wanted at hw
   rw [hg] at hw
   have hd':(ops[g]?).bind (·.dst)=some d:=hd
   simp only [yielded,hd',Option.bind_some] at hw
   rw [Array.getD_eq_getD_getElem?]
   cases hx:(puts ops (fun _=>true) vs i a0).tmps[d]? with
   | none=>rw [hx] at hw;simp at hw
   | some v =>
    rw [hx] at hw
    cases v <;> simp at hw
    subst hw
    rfl
  ·rw [if_neg hw]
   refine hno fun h=>hw ?_
   rw [←hv,Array.getD_eq_getD_getElem?] at h
   unfold Region.wanted
   rw [hg]
   have hd':(ops[g]?).bind (·.dst)=some d:=hd
   simp only [yielded,hd',Option.bind_some]
   cases hx:(puts ops (fun _=>true) vs i a0).tmps[d]? with
   | none=>rw [hx] at h;cases h
   | some v =>
    rw [hx] at h
    have h:v=.bool b:=h
    subst h
    simp
theorem zhE {F:Nat→(Nat→Value)→World→Prop} {a0:Act} {w0:World} (h:zcJ R P ops F a0 w0 0 ops.toList) (i:Nat) (o:Oper) (ho:ops[i]? = some o):ziR R P ops F a0 w0 i o:=by
 have:=ziS ops.toList 0 h i o (by simpa using ho)
 simpa using this
theorem zeK (HR:Later R) {a0:Act} {w0:World} (F:Nat→(Nat→Value)→World→Prop)
  (hok:zbl ops a0.tmps.size=true) (hgd:zbQ ops=true)
  (hF:∀ i vs w w',F i vs w→R w w'→F i vs w')
  (hloc:∀ i vs vs' w,(∀ k,(k=i∨zbD ops k i=true)→vs k=vs' k)→F i vs w→F i vs' w)
  (hsteps:zcJ R P ops F a0 w0 0 ops.toList)
  (hfin:∀ (vs:Nat→Value) (w:World),R w0 w→(∀ i,i < ops.size→F i vs w)→Q .normal (puts ops (fun _=>true) vs ops.size a0) w) :
  wpAny P .any ops Q ops.size (Array.replicate ops.size false) a0 { w0 with drawn:=w0.drawn+1 }:=
 zeJ HR F hok hF hloc (fun i o ho=>zj1 F hok hgd i o ho (zhE hsteps i o ho)) hfin
end
structure FactR (R:World→World→Prop) where
 holds:(Nat→Value)→Value→World→Prop
 deps:List Nat
 stays:∀ vs v w w',holds vs v w→R w w'→holds vs v w'
 local_:∀ vs vs' v w,(∀ k∈deps,vs k=vs' k)→holds vs v w→holds vs' v w
def FactR.any {R:World→World→Prop}:FactR R:=⟨fun _ _ _=>True,[],fun _ _ _ _ _ _=>trivial,fun _ _ _ _ _ _=>trivial⟩
def FactR.is {R:World→World→Prop} (u:Value):FactR R:=⟨fun _ v _=>v=u,[],fun _ _ _ _ h _=>h,fun _ _ _ _ _ h=>h⟩
def FactR.of {R:World→World→Prop} (H:Value→World→Prop) (h:∀ v w w',H v w→R w w'→H v w'):FactR R:=⟨fun _ v w=>H v w,[],fun _ v w w' a b=>h v w w' a b,fun _ _ _ _ _ h=>h⟩
def ze7 {R:World→World→Prop} (L:List (FactR R)) (i:Nat) (vs:Nat→Value) (w:World):Prop:=(L.getD i FactR.any).holds vs (vs i) w
def zmC {R:World→World→Prop} (ops:Array Oper) (L:List (FactR R)):Bool:=(List.range L.length).all fun i=>(L.getD i FactR.any).deps.all fun k=>zbD ops k i
theorem zj2 {R:World→World→Prop} {ops:Array Oper} {L:List (FactR R)} (h:zmC ops L=true) (i:Nat) (vs vs':Nat→Value) (w:World) (hk:∀ k,(k=i∨zbD ops k i=true)→vs k=vs' k) (hf:ze7 L i vs w):ze7 L i vs' w:=by
 unfold ze7 at *
 rw [←hk i (.inl rfl)]
 refine (L.getD i FactR.any).local_ vs vs' _ w (fun k hd=>hk k (.inr ?_)) hf
 by_cases hi:i < L.length
 ·unfold zmC at h
  exact List.all_eq_true.1 (List.all_eq_true.1 h i (List.mem_range.2 hi)) k hd
 ·rw [List.getD_eq_getElem?_getD,List.getElem?_eq_none (by omega)] at hd
  cases hd
theorem RCtxR.holds {R:World→World→Prop} {ops:Array Oper} {L:List (FactR R)} {a0:Act} {i:Nat} {ρ:Operand→Value} {vs:Nat→Value} {w:World} (H:RCtxR ops (ze7 L) a0 i ρ vs w) (d j:Nat) (h:zct ops i d=some j):(L.getD j FactR.any).holds vs (ρ (.tmp d)) w:=by
 rw [H.new d j h]
 exact H.fact j (zlv h)
theorem ze8 {R:World→World→Prop} (HR:Later R) {P:Program} {ops:Array Oper} {Q:Exit→Act→World→Prop} {a0:Act} {w0:World} (L:List (FactR R)) (ds:List (Option Tmp))
  (hok:zbl ops a0.tmps.size=true) (hgd:zbQ ops=true) (hdp:zmC ops L=true) (hds:ops.toList.map (·.dst)=ds) (hsteps:zcJ R P ops (ze7 L) a0 w0 0 ops.toList)
  (hfin:∀ (vs:Nat→Value) (w:World),R w0 w→(∀ i,i < ds.length→ze7 L i vs w)→Q .normal (zr vs ds 0 a0) w) :
  wpAny P .any ops Q ops.size (Array.replicate ops.size false) a0 { w0 with drawn:=w0.drawn+1 }:=
 zeK HR (ze7 L) hok hgd (fun i vs w w' h hb=>(L.getD i FactR.any).stays vs _ w w' h hb) (zj2 hdp) hsteps (fun vs w hb h=>by
  subst hds
  rw [zmf]
  exact hfin vs w hb fun i hi=>h i (by simpa using hi))
theorem zbI {R:World→World→Prop} (HR:Later R) {P:Program} {ops:Array Oper} {Q:Exit→Act→World→Prop} {id:Nat} {a0:Act} {w0:World} (L:List (FactR R)) (ds:List (Option Tmp)) (hm:P.follows .mixedOrders=true)
  (hok:zbl ops a0.tmps.size=true) (hgd:zbQ ops=true) (hdp:zmC ops L=true) (hds:ops.toList.map (·.dst)=ds) (hsteps:zcJ R P ops (ze7 L) a0 w0 0 ops.toList)
  (hfin:∀ (vs:Nat→Value) (w:World),R w0 w→(∀ i,i < ds.length→ze7 L i vs w)→Q .normal (zr vs ds 0 a0) w) :
  (Code.region id ops true).wp P Q a0 w0:=wp_region_any hm (ze8 HR L ds hok hgd hdp hds hsteps hfin)
theorem zdd {α:Type} {f:α→List Value} (n:Nat) (x:α):(List.replicate n x).flatMap f=(List.replicate n (f x)).flatten:=by
 rw [List.flatMap_def,List.map_replicate]
theorem znv (cs:List Value) (_hm:0 < cs.length) (n:Nat):(madeCells cs.toArray (n*cs.length)).toList=(List.replicate n cs).flatten:=by
 induction n with
 | zero=>simp [madeCells]
 | succ n ih =>
  have hs:(madeCells cs.toArray ((n+1)*cs.length)).toList=(madeCells cs.toArray (n*cs.length)).toList ++ cs:=by
   apply List.ext_getElem
   ·simp [madeCells,Nat.succ_mul]
   ·intro i h1 h2
    have hl:(madeCells cs.toArray (n*cs.length)).toList.length=n*cs.length:=by simp [madeCells]
    have hi:i < (n+1)*cs.length:=by simpa [madeCells] using h1
    by_cases h:i < n*cs.length
    ·rw [List.getElem_append_left (by rw [hl];exact h)]
     simp [madeCells]
    ·rw [List.getElem_append_right (by rw [hl];omega)]
     simp only [hl]
     have hi2:i - n*cs.length < cs.length:=by rw [Nat.succ_mul] at hi;omega
     have hmod:i % cs.length=i - n*cs.length:=by
      have e:i=(i - n*cs.length)+cs.length*n:=by rw [Nat.mul_comm cs.length n];omega
      conv=>lhs;rw [e,Nat.add_mul_mod_self_left,Nat.mod_eq_of_lt hi2]
     simp [madeCells,hmod,hi2]
  rw [hs,ih,List.replicate_succ']
  simp
theorem zd8 {P:Program} {w:World} {ops:Array Oper} {rest:List Oper} {o:Oper} {a:Act} {Q:Exit→Act→World→Prop} {t e:TypeId} {bytes m:Nat} {z:Value} (E:ElemW P t e bytes m z) (zc:List Value) (hzc:z.cells.toList=zc)
  (hgd:o.guard=none) (l c:Operand) (hop:o.op=Op.makeSlice t l c) (kl kc:IntKind) (L C:Int) (n:Nat) (w0:World) (B:Nat)
  (hl:a.eval l=.int kl L) (hc:a.eval c=.int kc C) (hL:L=(n:Int)) (hC:C=(n:Int)) (hn:n≤1000000000) (hby:bytes≤100) (hb:Below B w0 w) (hB:B≤w.heap.size)
  (h:∀ w',Row w' w.heap.size e (List.replicate n zc).flatten→Below B w0 w'→wpList P ops Q rest (a.put o.dst (.slice (some ⟨w.heap.size,0,none⟩) n n)) w') :
  wpList P ops Q (o::rest) a w:=by
 subst hzc
 obtain ⟨i,h1,h2,h3,h4⟩:=E.info
 refine wpList_plain hgd fun K hK=>?_
 have hle:bytes*n≤100*n:=Nat.mul_le_mul_right _ hby
 have hbi:(i.bytes:Int)*(n:Int)≤281474976710656:=by
  rw [h4,←Int.natCast_mul];omega
 have hrun:=run_make (P:=P) w t e i z E.under h1 h2 kl kc n n (by omega) (by omega) hbi (by omega)
 subst hL
 subst hC
 unfold Oper.wp
 simp only [execOp,hop,hl,hc,hrun,Result.andThen_ok,Sem.run_bind,Sem.run_pure]
 simp only [Int.toNat_natCast,h3]
 refine hK _ _ (h _ ?_ (hb.alloc hB _))
 unfold Row
 rw [heap_alloc_new]
 congr 2
 rw [←Array.toList_inj]
 have hlen:z.cells.toList.length=m:=by rw [Array.length_toList];exact E.cells
 have hz:z.cells=z.cells.toList.toArray:=by simp
 have hm:=znv z.cells.toList (by rw [hlen];exact E.pos) n
 rw [hlen] at hm
 rw [List.toList_toArray,←hm]
theorem ze9 {P:Program} (w:World) (dT sT ty elem:TypeId) (m:Nat) (g o dLen dCap:Nat) (a:Addr) (sLen sCap:Nat) (cur:Array Value) (t:TypeId) (cs:List Value)
  (hu:P.underlying dT=some (.slice elem)) (hs:(P.info? elem).map (·.size)=some m)
  (hg:w.heap[g]? = some (.cells cur t (0,0))) (hn:cs.length=Nat.min sLen dLen*m)
  (hsrc:∀ j v,cs[j]? = some v→w.cell? (a.add j)=some v) (hfit:o+cs.length≤cur.size) (h1:∀ v∈cs,v.oneCell'=true) :
  (Builtin.copy_ #[dT,sT] ty #[.slice (some ⟨g,o,none⟩) dLen dCap,.slice (some a) sLen sCap]).run P w =
   .ok (goInt (Nat.min sLen dLen)) (w.setRow g (cur.toList.take o ++ cs ++ cur.toList.drop (o+cs.length)).toArray):=by
 have hl:=run_loadCells_list (P:=P) w a cs hsrc
 have hst:=run_storeCells_at P g o t cs 0 cur w hg (by simpa using hfit) h1
 cases hq:P.info? elem with
 | none=>simp [hq] at hs
 | some i =>
  have hi:i.size=m:=by simpa [hq] using hs
  simp [Builtin.copy_,run_underlying hu,Builtin.lenOf,Builtin.firstCells,sizeOf,typeInfo,hq,hi,←hn,hl,hst]
theorem zfY {P:Program} {w:World} {ops:Array Oper} {rest:List Oper} {o:Oper} {a:Act} {Q:Exit→Act→World→Prop} {t e:TypeId} {bytes m:Nat} {z:Value} (E:ElemW P t e bytes m z)
  (hgd:o.guard=none) (d s:Operand) (ho:o.op=.call { callee:=.builtin .copy,args:=#[d,s],argTypes:=#[t,t] })
  (g off dLen dCap:Nat) (ad:Addr) (sLen sCap:Nat) (cur src new:List Value) (hnew:cur.take off ++ src ++ cur.drop (off+src.length)=new) (k B:Nat) (w0:World)
  (hd:a.eval d=.slice (some ⟨g,off,none⟩) dLen dCap) (hs:a.eval s=.slice (some ad) sLen sCap) (hr:Row w g e cur) (hk:Nat.min sLen dLen=k) (hm:src.length=k*m)
  (hl:∀ j v,src[j]? = some v→w.cell? (ad.add j)=some v) (h1:∀ u∈src,u.oneCell'=true)
  (hfit:off+src.length≤cur.length) (hb:Below B w0 w) (hB:B≤g)
  (h:∀ w',Row w' g e new→Below B w0 w'→wpList P ops Q rest (a.put o.dst (goInt k)) w') :
  wpList P ops Q (o::rest) a w:=by
 subst hnew
 obtain ⟨i,h2,h3,h4,h5⟩:=E.info
 refine wpList_plain hgd fun K hK=>?_
 have hrun:=ze9 (P:=P) w t t o.type e m g off dLen dCap ad sLen sCap cur.toArray e src E.under (by rw [h2];simp [h4]) hr (by rw [hk];exact hm) hl (by simpa using hfit) h1
 rw [hk] at hrun
 unfold Oper.wp
 simp [execOp,ho,resolve,invoke,builtin,hd,hs,hrun,Result.andThen]
 exact hK _ _ (h _ (by unfold Row;rw [show cur.take off ++ src ++ cur.drop (off+src.length)=cur.take off ++ (src ++ cur.drop (off+src.length)) by simp];simpa using setRow_heap w g _ _ e _ hr) (below_setRow hb hB _))
theorem zdI {P:Program} {w:World} {ops:Array Oper} {rest:List Oper} {o:Oper} {a:Act} {Q:Exit→Act→World→Prop} (hgd:o.guard=none) (t:TypeId) (x y:Operand) (ho:o.op=.store t x y)
  (g off:Nat) (t':TypeId) (cur cs new:List Value) (hnew:cur.take off ++ cs ++ cur.drop (off+cs.length)=new) (hx:a.eval x=.pointer (some ⟨g,off,none⟩)) (hy:a.eval y=.agg cs.toArray) (hr:Row w g t' cur) (hi:(P.info? t).map (·.size)=some cs.length)
  (hfit:off+cs.length≤cur.length) (h1:∀ u∈cs,u.oneCell'=true) (w0:World) (B:Nat) (hb:Below B w0 w) (hB:B≤g)
  (h:∀ w',Row w' g t' new→Below B w0 w'→(∀ k ty l,k≠g→Row w k ty l→Row w' k ty l)→wpList P ops Q rest (a.put o.dst undef) w'):wpList P ops Q (o::rest) a w:=by
 subst hnew
 have hst:=run_storeCells_at P g off t' cs 0 cur.toArray w hr (by simpa using hfit) h1
 have hrun:(storeVar t ⟨g,off,none⟩ (.agg cs.toArray)).run P w=.ok () (w.setRow g (cur.take off ++ cs ++ cur.drop (off+cs.length)).toArray):=by
  cases hq:P.info? t with
  | none=>simp [hq] at hi
  | some i =>
   have hs:cs.length=i.size:=by simp [hq] at hi;omega
   have hst2:(storeCells ⟨g,off,none⟩ cs).run P w=.ok () (w.setRow g (cur.take off ++ cs ++ cur.drop (off+cs.length)).toArray):=by simpa using hst
   simp [storeVar,sizeOf,typeInfo,hq,Value.cells,hs]
   rw [←hs]
   simpa using hst2
 refine wpList_plain hgd fun K hK=>?_
 unfold Oper.wp execOp
 simp only [ho,hx,hy,Instr.storeAt,Instr.sureAddr,Sem.run_bind,Sem.run_pure,Result.andThen_ok,hrun]
 refine hK _ _ (h _ (setRow_heap w g cur.toArray _ t' (0,0) hr) (below_setRow hb hB _) ?_)
 intro k ty l hk hrk
 exact (setRow_other w g k _ hk).trans hrk
section
variable {P:Program} {o:Oper} {ρ:Operand→Value} {w:World} {R:Value→World→Prop}
theorem zdJ {t e:TypeId} {bytes m:Nat} {z:Value} (E:ElemW P t e bytes m z) {d s:Operand} (ho:o.op=.call { callee:=.builtin .copy,args:=#[d,s],argTypes:=#[t,t] })
  {g off dLen dCap:Nat} {ad:Addr} {sLen sCap:Nat} {cur src:List Value} {k:Nat}
  (hd:ρ d=.slice (some ⟨g,off,none⟩) dLen dCap) (hs:ρ s=.slice (some ad) sLen sCap) (hr:Row w g e cur) (hk:Nat.min sLen dLen=k) (hm:src.length=k*m)
  (hl:∀ j v,src[j]? = some v→w.cell? (ad.add j)=some v) (h1:∀ u∈src,u.oneCell'=true) (hfit:off+src.length≤cur.length)
  (hR:R (goInt k) (w.setRow g (cur.take off ++ src ++ cur.drop (off+src.length)).toArray)):zba P o ρ w R:=by
 obtain ⟨i,h2,h3,h4,h5⟩:=E.info
 have hrun:=ze9 (P:=P) w t t o.type e m g off dLen dCap ad sLen sCap cur.toArray e src E.under (by rw [h2];simp [h4]) hr (by rw [hk];exact hm) hl (by simpa using hfit) h1
 rw [hk] at hrun
 refine zq (v:=goInt k) ?_ hR
 simp [execOp,ho,resolve,invoke,builtin,hd,hs,hrun,Result.andThen]
theorem zg0 {t:TypeId} {z:Value} {i:TypeInfo} (hi:P.info? t=some i) (hz:i.zero=some z) (ho:o.op=.alloc t) (hR:R (.pointer (some ⟨w.heap.size,0,none⟩)) (w.alloc (.cells z.cells t))):zba P o ρ w R:=by
 refine zq (v:=.pointer (some ⟨w.heap.size,0,none⟩)) (w':=w.alloc (.cells z.cells t)) ?_ hR
 have hz2:(zeroValue t).run P w=.ok z w:=by simp [zeroValue,typeInfo,hi,hz]
 unfold execOp
 simp only [ho,Instr.alloc,newVar,newRow,Sem.run_bind,Sem.run_pure,hz2,Result.andThen_ok,run_newObj]
 rfl
theorem zcR {t t':TypeId} {x y:Operand} {g:Nat} {old cs:List Value} (ho:o.op=.store t x y) (hx:ρ x=.pointer (some ⟨g,0,none⟩)) (hy:ρ y=.agg cs.toArray) (hr:Row w g t' old)
  (hi:(P.info? t).map (·.size)=some cs.length) (hl:old.length=cs.length) (h1:∀ u∈cs,u.oneCell'=true) (hR:R undef (w.setRow g cs.toArray)):zba P o ρ w R:=by
 have hrun:=run_storeVar_row (P:=P) w g t' t old.toArray cs.toArray hr (by simpa using hi) (by simp [hl]) (by simpa using h1)
 have h:(execOp ρ o).run P w=.ok .skip (w.setRow g cs.toArray):=by
  unfold execOp
  simp only [ho,hx,hy,Instr.storeAt,Instr.sureAddr,Sem.run_bind,Sem.run_pure,Result.andThen_ok,hrun]
 unfold zba
 rw [h]
 exact hR
end
theorem zU {w:World} {g:Nat} {t:TypeId} {old cs:List Value} (h:Row w g t old):Row (w.setRow g cs.toArray) g t cs:=setRow_heap w g old.toArray cs.toArray t (0,0) h
theorem zfE {w:World} {g k:Nat} {t:TypeId} {l:List Value} {cs:Array Value} (hk:k≠g) (h:Row w k t l):Row (w.setRow g cs) k t l:=(setRow_other w g k cs hk).trans h
theorem zgi {w w':World} {base s n g:Nat} {e:TypeId} {v:Value} {xs:List Value} (h:w.ownsRow base e s v n xs) (hg:w.grownBy w' (some g)) (hlt:g < base):w'.ownsRow base e s v n xs:=by
 refine h.kept hg ?_
 rcases h.2 with ⟨rfl,_⟩ | ⟨g2,cap2,cur2,rfl,hge,_⟩
 ·exact .inl rfl
 ·refine .inr ?_
  simp only [Value.ownBlock,ne_eq,Option.some.injEq]
  omega
theorem zcf (w:World) (g i:Nat) (v:Value):w.grownBy (w.setCell ⟨g,i,none⟩ v) (some g):=
 ⟨rfl,rfl,rfl,by rw [World.size_setCell];exact Nat.le_refl _,fun k _ hne=>Below.heap_setCell w _ v k (fun h=>hne (by rw [h]))⟩
theorem ziT {α:Type} {f:α→List Value} {l:List α} {w:World} {g:Nat} {t:TypeId} {m:Nat} (h:Row w g t (l.flatMap f)) (hl:l.length=m) (hm:m≤1000000):IsR f l (.slice (some ⟨g,0,none⟩) m m) w:=by
 refine ⟨some ⟨g,0,none⟩,m,by rw [hl],fun h=>by (cases h),by omega,by unfold maxLen;omega,?_⟩
 have:=h.lies 0
 rwa [List.drop_zero] at this
theorem zj3 {α:Type} {f:α→List Value} {m:Nat} (hf:∀ x,(f x).length=m):∀ (l:List α) (k:Nat),(l.drop k).flatMap f=(l.flatMap f).drop (k*m)
 | [],k=>by simp
 | x::l,0=>by simp
 | x::l,k+1=>by
  rw [List.drop_succ_cons,List.flatMap_cons,zj3 hf l k,Nat.succ_mul,List.drop_append,hf,show k*m+m - m=k*m by omega,List.drop_of_length_le (l:=f x) (by rw [hf];omega),List.nil_append]
theorem ElemW.size_ {P:Program} {t e:TypeId} {bytes m:Nat} {z:Value} (E:ElemW P t e bytes m z) (w:World):(sizeOf e).run P w=.ok m w:=by
 obtain ⟨i,h1,_,h3,_⟩:=E.info
 simp [sizeOf,typeInfo,h1,h3]
theorem zlw {P:Program} {α:Type} {f:α→List Value} {w:World} {t e:TypeId} {bytes m:Nat} {z:Value} (E:ElemW P t e bytes m z) (hf:∀ x,(f x).length=m) {A:Option Addr} {n c k:Nat} {l:List α} (hk:k≤n) (hI:IsR f l (.slice A n c) w) :
  ∃ v,(∀ W,(Instr.sliceAt t (.slice A n c) (some (.int .i64 (k:Int))) none none).run P W=.ok v W)∧IsR f (l.drop k) v w:=by
 obtain ⟨hxs,hA,hnc,hcm,hl⟩:=hI.parts
 have ht:=E.under
 have he:P.elem t=e:=by simp [Program.elem,ht]
 refine ⟨.slice (if c=k then A else A.map (·.add (k*m))) (n - k) (c - k),fun W=>?_,if c=k then A else A.map (·.add (k*m)),c - k,?_,?_,?_,by omega,?_⟩
 ·rw [run_sliceAt_slice W t _ _ _ _ (by rw [he];exact ht),run_slice_l W t A n c (by rw [he];exact ht) .i64 (k:Int) (by omega) (by omega),he,E.size_]
  simp [sliced]
 ·rw [List.length_drop,hxs]
 ·intro hB
  have:A=none:=by
   split at hB
   ·exact hB
   ·cases A with
    | none=>rfl
    | some ad=>simp at hB
  have:=hA this
  rw [List.length_drop,hxs]
  omega
 ·rw [List.length_drop,hxs];omega
 ·rw [zj3 hf]
  have hp:=E.pos
  have h1:=hl.drop (k:=k*m) (cap:=c*m) (by rw [zeo hf,hxs];exact Nat.mul_le_mul_right _ hnc)
  by_cases hc:c=k
  ·subst hc;simpa using h1
  ·rw [if_neg (fun h=>hc (Nat.eq_of_mul_eq_mul_right hp h))] at h1
   rw [if_neg hc];exact h1
def Keep (B:Nat) (T:TypeId) (cs:List Value) (w w':World):Prop:=Below B w w'∧(∀ h,Row w h T cs→Row w' h T cs)∧(∀ h old,Row w h T old→old.length=cs.length→∃ old',old'.length=cs.length∧Row w' h T old')
theorem zh5 (B:Nat) (T:TypeId) (cs:List Value):Later (Keep B T cs) where
 refl:=fun _=>⟨Below.refl _ _,fun _ h=>h,fun _ old h hl=>⟨old,hl,h⟩⟩
 trans:=fun h1 h2=>⟨h1.1.trans h2.1,fun k h=>h2.2.1 k (h1.2.1 k h),fun k old h hl=>(h1.2.2 k old h hl).elim fun o h=>h2.2.2 k o h.2 h.1⟩
 draw:=fun _=>⟨⟨rfl,rfl,rfl,Nat.le_refl _,fun _ _=>rfl⟩,fun _ h=>h,fun _ old h hl=>⟨old,hl,h⟩⟩
theorem Keep.of {B:Nat} {T:TypeId} {cs:List Value} {w w':World} (hB:B≤w.heap.size) (h:Below w.heap.size w w'):Keep B T cs w w':=
 ⟨h.mono hB,fun _ hr=>hr.below h hr.lt,fun _ old hr hl=>⟨old,hl,hr.below h hr.lt⟩⟩
theorem Keep.self {B:Nat} {T:TypeId} {cs:List Value} (w:World):Keep B T cs w w:=(zh5 B T cs).refl w
theorem Keep.alloc {B:Nat} {T:TypeId} {cs:List Value} {w:World} (hB:B≤w.heap.size) (o:Obj):Keep B T cs w (w.alloc o):=Keep.of hB ((Below.refl _ _).alloc (Nat.le_refl _) _)
theorem Keep.store {B:Nat} {T:TypeId} {cs old:List Value} {w:World} {g:Nat} (hB:B≤g) (hr:Row w g T old):Keep B T cs w (w.setRow g cs.toArray):=
 ⟨below_setRow (Below.refl _ _) hB _,fun k h=>if hk:k=g then by subst hk;exact zU hr else zfE hk h,
  fun k o h hl=>if hk:k=g then by subst hk;exact ⟨cs,rfl,zU hr⟩ else ⟨o,hl,zfE hk h⟩⟩
def FactR.laid (B:Nat) (T:TypeId) (cs:List Value):FactR (Keep B T cs):=FactR.of (fun v w=>∃ h old,v=.pointer (some ⟨h,0,none⟩)∧B≤h∧old.length=cs.length∧Row w h T old)
 fun _ _ _ ⟨h,old,h1,h2,h3,h4⟩ hk=>(hk.2.2 h old h4 h3).elim fun o ho=>⟨h,o,h1,h2,ho.1,ho.2⟩
def FactR.stored (B:Nat) (T:TypeId) (cs:List Value) (p:Nat):FactR (Keep B T cs):=⟨fun vs _ w=>∃ h,vs p=.pointer (some ⟨h,0,none⟩)∧B≤h∧Row w h T cs,[p],
 fun _ _ _ _ ⟨h,h1,h2,h3⟩ hk=>⟨h,h1,h2,hk.2.1 h h3⟩,fun _ _ _ _ hp ⟨h,h1,h2,h3⟩=>⟨h,by rw [←hp p (by simp)];exact h1,h2,h3⟩⟩
def Turn (B g:Nat) (T:TypeId) (cur new:List Value) (w w':World):Prop:=Below B w w'∧(Row w g T cur→Row w' g T cur∨Row w' g T new)∧(Row w g T new→Row w' g T new)
theorem zl (B g:Nat) (T:TypeId) (cur new:List Value):Later (Turn B g T cur new) where
 refl:=fun _=>⟨Below.refl _ _,.inl,id⟩
 trans:=fun h1 h2=>⟨h1.1.trans h2.1,fun h=>(h1.2.1 h).elim (fun h=>h2.2.1 h) (fun h=>.inr (h2.2.2 h)),fun h=>h2.2.2 (h1.2.2 h)⟩
 draw:=fun _=>⟨⟨rfl,rfl,rfl,Nat.le_refl _,fun _ _=>rfl⟩,.inl,id⟩
end Go.Proofs.YtblpkmmhmdpkjaaGreatDoor
namespace Go.Proofs.YtblpkmmhmdpkjaaGreatDoor
def zx (a b:Int):Nat × Bool × Bool:=
 if b < a then (if 9223372036854775808≤a - b then (0,false,false) else ((a - b).toNat,true,true))
 else if 9223372036854775808≤b - a then (0,false,false) else ((b - a).toNat,false,true)
def zbh (a:Int) (u:Nat) (f:Bool):Int × Bool:=
 if 9223372036854775808≤(u:Int) then (0,false)
 else if f=true then (if a < -9223372036854775808+(u:Int) then (0,false) else (a - u,true))
 else if 9223372036854775807 - (u:Int) < a then (0,false) else (a+u,true)
theorem zbJ (a b:Int):(zx a b=(0,false,false)∧(9223372036854775808≤a - b∨9223372036854775808≤b - a)) ∨
  (b < a∧a - b < 9223372036854775808∧zx a b=((a - b).toNat,true,true))∨(a≤b∧b - a < 9223372036854775808∧zx a b=((b - a).toNat,false,true)):=by
 unfold zx
 by_cases h:b < a
 ·rw [if_pos h]
  by_cases h2:9223372036854775808≤a - b
  ·rw [if_pos h2];exact .inl ⟨rfl,.inl h2⟩
  ·rw [if_neg h2];exact .inr (.inl ⟨h,by omega,rfl⟩)
 ·rw [if_neg h]
  by_cases h2:9223372036854775808≤b - a
  ·rw [if_pos h2];exact .inl ⟨rfl,.inr h2⟩
  ·rw [if_neg h2];exact .inr (.inr ⟨by omega,by omega,rfl⟩)
theorem zc4 (a b:Int):((zx a b).1:Int) < 9223372036854775808:=by
 rcases zbJ a b with ⟨h,_⟩ | ⟨h1,h2,h⟩ | ⟨h1,h2,h⟩ <;> rw [h] <;> dsimp only <;> omega
theorem znw (a b:Int):(zx a b).1 < 2 ^ 64:=by
 have:=zc4 a b
 show (zx a b).1 < 18446744073709551616
 omega
theorem zgj {a:Int} {u:Nat} {f:Bool} (ha:inInt a):inInt (zbh a u f).1:=by
 unfold inInt at ha ⊢
 unfold zbh
 split
 ·exact ⟨by omega,by omega⟩
 ·split
  ·split
   ·exact ⟨by omega,by omega⟩
   ·exact ⟨by dsimp only;omega,by dsimp only;omega⟩
  ·split
   ·exact ⟨by omega,by omega⟩
   ·exact ⟨by dsimp only;omega,by dsimp only;omega⟩
theorem zg1 {a b:Int} (hb:inInt b) (h:(zx a b).2.2=true):zbh a (zx a b).1 (zx a b).2.1=(b,true):=by
 unfold inInt at hb
 rcases zbJ a b with ⟨h3,_⟩ | ⟨h1,h2,h3⟩ | ⟨h1,h2,h3⟩
 ·rw [h3] at h;cases h
 ·rw [h3]
  dsimp only
  unfold zbh
  have e:(((a - b).toNat:Nat):Int)=a - b:=by omega
  rw [e,if_neg (by omega),if_pos rfl,if_neg (by omega)]
  congr 1
  omega
 ·rw [h3]
  dsimp only
  unfold zbh
  have e:(((b - a).toNat:Nat):Int)=b - a:=by omega
  rw [e,if_neg (by omega),if_neg (by decide),if_neg (by omega)]
  congr 1
  omega
theorem znx (a:Int):zx a a=(0,false,true):=by unfold zx;rw [if_neg (by omega),if_neg (by omega)];simp
def gone (f:Bool) (a b:Int):Option Nat:=if (zx a b).2.2=true∧((zx a b).1=0∨(zx a b).2.1=f) then some (zx a b).1 else none
theorem zrc {f:Bool} {a b:Int} (h:(zx a b).2.2=true) (h2:(zx a b).1=0∨(zx a b).2.1=f):gone f a b=some (zx a b).1:=if_pos ⟨h,h2⟩
theorem zmD {f:Bool} {a b:Int} (h:¬((zx a b).2.2=true∧((zx a b).1=0∨(zx a b).2.1=f))):gone f a b=none:=if_neg h
theorem zo8 {f:Bool} {a b:Int} {u:Nat} (h:gone f a b=some u):(u:Int) < 9223372036854775808:=by
 unfold gone at h
 split at h
 ·injection h with h;rw [←h];exact zc4 a b
 ·cases h
theorem zo9 {f:Bool} {a b:Int} {u:Nat} (ha:inInt a) (hb:inInt b) (h:gone f a b=some u):zbh a u f=(b,true):=by
 unfold gone at h
 split at h
 ·rename_i hh
  injection h with h
  subst h
  have hs:=zg1 hb hh.1
  rcases hh.2 with h0 | h0
  ·rcases zbJ a b with ⟨k,_⟩ | ⟨k1,k2,k⟩ | ⟨k1,k2,k⟩
   ·rw [k] at hh;cases hh.1
   ·rw [k] at h0;dsimp only at h0;omega
   ·rw [k] at h0
    dsimp only at h0
    have e:a=b:=by omega
    subst e
    rw [znx]
    unfold inInt at ha
    unfold zbh
    rw [if_neg (by decide)]
    dsimp only
    cases f
    ·rw [if_neg (by decide),if_neg (by omega)];simp
    ·rw [if_pos rfl,if_neg (by omega)];simp
  ·rw [h0] at hs;exact hs
 ·cases h
def gat (l:List Int) (f:Bool) (i:Nat):Option Nat:=gone f (l.getD i 0) (l.getD (i+1) 0)
def zbK (l:List Int) (f:Bool) (k:Nat):Option (List Nat):=omap (gat l f) (List.range k)
theorem zeL {l:List Int} {f:Bool} {k n:Nat} (hk:k < n) (h:gat l f k=none):zbK l f n=none:=zb0 (List.mem_range.2 hk) h
theorem zny {l:List Int} {f:Bool} {k:Nat} {us:List Nat} (h:zbK l f k=some us):us.length=k:=by rw [zb4 h,List.length_range]
theorem zpa {l:List Int} {f:Bool} {k:Nat} {us:List Nat} (h:zbK l f k=some us):∀ u∈us,(u:Int) < 9223372036854775808:=by
 intro u hu
 obtain ⟨i,_,hi⟩:=ze1 h hu
 exact zo8 hi
theorem zfa {l:List Int} {f:Bool} {k:Nat} {us:List Nat} (h:zbK l f k=some us):∀ u∈us,u < 2 ^ 64:=by
 intro u hu
 have:=zpa h u hu
 show u < 18446744073709551616
 omega
def zbA (l:List Int):Bool:=decide (l.getD 1 0 < l.getD 0 0)
def gall (us:List Nat):Bool:=us.all fun u=>u == us.headD 0
def zd0 (us:List Nat):Nat:=(zi (max 2 (zbS us):Nat)).toNat
def zhF (us:List Nat):Nat:=(zbb (zd0 us:Int)).toNat
theorem znz:∀ n:Fin 65,2≤n.val→2≤zi (n.val:Int)∧zi (n.val:Int)≤64∧1≤zbb (zi (n.val:Int))∧zbb (zi (n.val:Int))≤31∧wof (zbb (zi (n.val:Int)))=zi (n.val:Int)∧(n.val:Int)≤zi (n.val:Int):=by decide +kernel
theorem zcS {us:List Nat} (h:∀ u∈us,u < 2 ^ 64):zi ((max 2 (zbS us):Nat):Int)=(zd0 us:Int)∧zbb (zd0 us:Int)=(zhF us:Int)∧wof (zhF us:Int)=(zd0 us:Int)∧2≤zd0 us∧zd0 us≤64∧1≤zhF us∧zhF us≤31∧zbS us≤zd0 us:=by
 have hm:=zei h
 have h1:=znz ⟨max 2 (zbS us),by omega⟩ (Nat.le_max_left _ _)
 dsimp only at h1
 have e1:zi ((max 2 (zbS us):Nat):Int)=(zd0 us:Int):=by unfold zd0;omega
 rw [e1] at h1
 have e2:zbb (zd0 us:Int)=(zhF us:Int):=by unfold zhF;omega
 rw [e2] at h1
 exact ⟨e1,e2,h1.2.2.2.2.1,by omega,by omega,by omega,by omega,by omega⟩
theorem zh6 {us:List Nat} (h:∀ u∈us,u < 2 ^ 64):∀ u∈us,u < 2 ^ zd0 us:=by
 obtain ⟨_,_,_,_,h1,_,_,h2⟩:=zcS h
 intro u hu
 have h3:=(zeW (zk4 h) h1).1 (by rw [zeX h];exact h2)
 exact Nat.lt_of_le_of_lt (ziN hu) h3
def zfb (l:List Int) (us:List Nat):Int:=if zbA l=true then -(us.headD 0:Int) else (us.headD 0:Int)
def zeM (us:List Nat):List UInt8:=if gall us=true then [] else zby us.tail (zd0 us.tail)
def gnum (us:List Nat):Nat:=if gall us=true then 0 else zhF us.tail
def glay (l:List Int) (s:Bool) (us:List Nat):List UInt8:=zz 3 (gnum us) l.length ++ vput (vint (l.headD 0) s) ++ vput (vint (zfb l us) true) ++ zeM us
def zd9 (l:List Int) (s:Bool):List UInt8 × Int:=
 if zG l s=none∨l.length < 2∨512 < l.length then ([],1)
 else match zbK l (zbA l) (l.length - 1) with | none=>([],1) | some us=>(glay l s us,0)
theorem zmE {l:List Int} {s:Bool} (h:zG l s=none∨l.length < 2∨512 < l.length):zd9 l s=([],1):=if_pos h
theorem zep {l:List Int} {s:Bool} (h:zbK l (zbA l) (l.length - 1)=none):zd9 l s=([],1):=by unfold zd9;split <;> simp [h]
theorem zh7 {l:List Int} {s:Bool} {us:List Nat} (h1:zG l s≠none) (h2:2≤l.length) (h3:l.length≤512) (h:zbK l (zbA l) (l.length - 1)=some us):zd9 l s=(glay l s us,0):=by
 unfold zd9
 rw [if_neg (by rintro (h | h | h) <;> first | exact h1 h | omega),h]
def zbj (s f:Bool) (x:Int) (u:Nat):Option Int:=if (zbh x u f).2=true∧(s=true∨0≤(zbh x u f).1) then some (zbh x u f).1 else none
def zbm (s f:Bool):Int→List Nat→Option (List Int)
 | _,[]=>some []
 | x,u::us=>match zbj s f x u with | none=>none | some y=>(zbm s f y us).map (y :: ·)
def zdK:Int→List Int→Int
 | x,[]=>x
 | _,y::ys=>zdK y ys
theorem zfF (x:Int) (ys:List Int) (y:Int):zdK x (ys ++ [y])=y:=by
 induction ys generalizing x with
 | nil=>rfl
 | cons z zs ih=>exact ih z
theorem zcK (s f:Bool) (x:Int) (us:List Nat) (u:Nat):zbm s f x (us ++ [u])=match zbm s f x us with | none=>none | some ys=>match zbj s f (zdK x ys) u with | none=>none | some y=>some (ys ++ [y]):=by
 induction us generalizing x with
 | nil =>
  simp only [List.nil_append,zbm,zdK]
  cases zbj s f x u <;> rfl
 | cons v us ih =>
  simp only [List.cons_append,zbm]
  cases zbj s f x v with
  | none=>rfl
  | some y =>
   dsimp only
   rw [ih]
   cases zbm s f y us with
   | none=>rfl
   | some ys =>
    simp only [Option.map_some,zdK]
    cases zbj s f (zdK y ys) u <;> rfl
theorem zg2 {s f:Bool}:∀ {us:List Nat} {x:Int} {ys:List Int},zbm s f x us=some ys→ys.length=us.length
 | [],x,ys,h=>by simp [zbm] at h;subst h;rfl
 | u::us,x,ys,h=>by
  rw [zbm] at h
  cases hn:zbj s f x u with
  | none=>rw [hn] at h;cases h
  | some y =>
   rw [hn] at h
   dsimp only at h
   cases hw:zbm s f y us with
   | none=>rw [hw] at h;cases h
   | some zs =>
    rw [hw] at h
    simp at h
    subst h
    simp [zg2 hw]
theorem zcT {s f:Bool} {x:Int} {us:List Nat} {k:Nat} (h:zbm s f x (us.take k)=none):zbm s f x us=none:=by
 induction us generalizing x k with
 | nil=>simp [zbm] at h
 | cons u us ih =>
  cases k with
  | zero=>simp [zbm] at h
  | succ k =>
   rw [List.take_succ_cons,zbm] at h
   rw [zbm]
   cases hn:zbj s f x u with
   | none=>rfl
   | some y =>
    rw [hn] at h
    dsimp only at h ⊢
    cases hw:zbm s f y (us.take k) with
    | none=>rw [ih hw];rfl
    | some zs=>rw [hw] at h;cases h
def gbad:List Int × List UInt8 × Int:=([],[],2)
def gend (s f:Bool) (x:Int) (us:List Nat) (q:List UInt8):List Int × List UInt8 × Int:=match zbm s f x us with | none=>gbad | some ys=>(x::ys,q,0)
def zez (s f:Bool) (x:Int) (u:Nat) (c m:Int) (r:List UInt8):List Int × List UInt8 × Int:=
 if 0 < c then match zh r (m - 2) (wof c) with | (us,q,e)=>if e≠0 then gbad else gend s f x (u::us) q
 else gend s f x (List.replicate (m - 1).toNat u) r
def zhG (s:Bool) (c m:Int) (r:List UInt8):List Int × List UInt8 × Int:=
 match zbx r s with
 | none=>gbad
 | some (x,r1)=>match zbx r1 true with
  | none=>gbad
  | some (d,r2)=>if (zx 0 d).2.2=true then zez s (zx 0 d).2.1 x (zx 0 d).1 c m r2 else gbad
def zR (l:List UInt8) (s:Bool):List Int × List UInt8 × Int:=
 if (zp l).2.2.2.2≠0∨(zp l).1≠3∨(zp l).2.2.1 < 2 then gbad else zhG s (zp l).2.1 (zp l).2.2.1 (zp l).2.2.2.1
theorem zj4 {x:Int} {s:Bool} (hx:inInt x) (h:s=true∨0≤x) (r:List UInt8):zbx (vput (vint x s) ++ r) s=some (x,r):=by
 unfold inInt at hx
 cases s with
 | true =>
  have hb:=zd5 hx.1 hx.2
  have e:vint x true=(vzig x).toNat:=rfl
  rw [e,zdj (zd4 (by omega) r),Int.toNat_of_nonneg hb.1,zjE]
 | false =>
  have h0:0≤x:=h.elim (fun h=>nomatch h) id
  have e:vint x false=(x % 18446744073709551616).toNat:=rfl
  have e2:x % 18446744073709551616=x:=by omega
  rw [e,e2,zcO (zd4 (by omega) r) (by omega),Int.toNat_of_nonneg h0]
theorem zrd {s f:Bool} {a b:Int} {u:Nat} (ha:inInt a) (hb:inInt b) (hs:s=true∨0≤b) (h:gone f a b=some u):zbj s f a u=some b:=by
 unfold zbj
 rw [zo9 ha hb h]
 exact if_pos ⟨rfl,hs⟩
theorem zg3 {s f:Bool} {l:List Int} (hl:∀ x∈l,inInt x∧(s=true∨0≤x)):∀ (k:Nat) (us:List Nat),k+1≤l.length→zbK l f k=some us→zbm s f (l.getD 0 0) us=some ((l.drop 1).take k)∧zdK (l.getD 0 0) ((l.drop 1).take k)=l.getD k 0
 | 0,us,_,h=>by simp [zbK,omap] at h;subst h;simp [zbm,zdK]
 | k+1,us,hk,h=>by
  unfold zbK at h
  rw [List.range_succ,zjN] at h
  cases hg:omap (gat l f) (List.range k) with
  | none=>rw [hg] at h;cases h
  | some vs =>
   rw [hg] at h
   dsimp only at h
   cases hu:gat l f k with
   | none=>rw [hu] at h;cases h
   | some u =>
    rw [hu] at h
    injection h with h
    subst h
    obtain ⟨h1,h2⟩:=zg3 hl k vs (by omega) hg
    have hd:(l.drop 1).take (k+1)=(l.drop 1).take k ++ [l.getD (k+1) 0]:=by
     rw [List.take_succ_eq_append_getElem (by rw [List.length_drop];omega),List.getElem_drop]
     congr 2
     rw [List.getD_eq_getElem?_getD,List.getElem?_eq_getElem (show k+1 < l.length by omega)]
     simp [Nat.add_comm]
    have hm:∀ i,i < l.length→inInt (l.getD i 0)∧(s=true∨0≤l.getD i 0):=by
     intro i hi
     rw [List.getD_eq_getElem?_getD,List.getElem?_eq_getElem hi]
     exact hl _ (List.getElem_mem hi)
    refine ⟨?_,by rw [hd,zfF]⟩
    rw [zcK,h1,hd]
    dsimp only
    rw [h2,zrd (hm k (by omega)).1 (hm (k+1) (by omega)).1 (hm (k+1) (by omega)).2 hu]
theorem zpb {us:List Nat} (h:gall us=true):us=List.replicate us.length (us.headD 0):=by
 unfold gall at h
 rw [List.eq_replicate_iff]
 refine ⟨rfl,fun u hu=>?_⟩
 have:=List.all_eq_true.1 h u hu
 simpa using this
theorem zeN {l:List Int} {us:List Nat} (h2:2≤l.length) (h:zbK l (zbA l) (l.length - 1)=some us):zx 0 (zfb l us)=(us.headD 0,zbA l,true)∧inInt (zfb l us):=by
 obtain ⟨k,hk⟩:∃ k,l.length - 1=k+1:=⟨l.length - 2,by omega⟩
 have h0:gat l (zbA l) 0=some (us.headD 0):=by
  unfold zbK at h
  rw [hk,List.range_succ_eq_map,omap] at h
  cases hz:gat l (zbA l) 0 with
  | none=>rw [hz] at h;cases h
  | some u =>
   rw [hz] at h
   dsimp only at h
   cases hr:omap (gat l (zbA l)) ((List.range k).map Nat.succ) with
   | none=>rw [hr] at h;cases h
   | some vs=>rw [hr] at h;injection h with h;subst h;rfl
 have hlt:=zo8 h0
 have hf:zbA l=true→0 < us.headD 0:=by
  intro hf
  have hba:l.getD 1 0 < l.getD 0 0:=of_decide_eq_true hf
  unfold gat gone at h0
  split at h0
  ·injection h0 with h0
   rename_i hh
   rcases zbJ (l.getD 0 0) (l.getD (0+1) 0) with ⟨k,_⟩ | ⟨k1,k2,k⟩ | ⟨k1,k2,k⟩
   ·rw [k] at hh;cases hh.1
   ·rw [k] at h0;dsimp only at h0;omega
   ·rw [Nat.zero_add] at k1;omega
  ·cases h0
 unfold zfb inInt
 generalize us.headD 0=u at *
 cases hg:zbA l with
 | true =>
  have:=hf hg
  rw [if_pos rfl]
  refine ⟨?_,by omega,by omega⟩
  unfold zx
  rw [if_pos (by omega),if_neg (by omega)]
  congr 1
  omega
 | false =>
  rw [if_neg (by decide)]
  refine ⟨?_,by omega,by omega⟩
  unfold zx
  rw [if_neg (by omega),if_neg (by omega)]
  congr 1
theorem znA {l:List Int} {s:Bool} {us:List Nat} (hl:∀ x∈l,inInt x∧(s=true∨0≤x)) (h2:2≤l.length) (h5:l.length≤512) (h:zbK l (zbA l) (l.length - 1)=some us) (b:List UInt8) :
  zR (glay l s us ++ b) s=(l,b,0):=by
 obtain ⟨hd,hi⟩:=zeN h2 h
 have hul:=zny h
 have h64:=zfa h
 have h64t:∀ u∈us.tail,u < 2 ^ 64:=fun u hu=>h64 u (List.mem_of_mem_tail hu)
 obtain ⟨hw,_⟩:=zg3 hl (l.length - 1) us (by omega) h
 obtain ⟨x0,l',rfl⟩:∃ x0 l',l=x0::l':=by cases l with | nil=>simp at h2 | cons x0 l'=>exact ⟨x0,l',rfl⟩
 have hw':zbm s (zbA (x0::l')) x0 us=some l':=by
  rw [List.length_cons,Nat.add_sub_cancel] at hw
  simpa using hw
 have hx:=hl x0 List.mem_cons_self
 have hcode:gnum us≤31:=by
  unfold gnum
  split
  ·omega
  ·exact (zcS h64t).2.2.2.2.2.2.1
 have hlook:zp (glay (x0::l') s us ++ b)=(3,(gnum us:Int),((x0::l').length:Int),vput (vint x0 s) ++ (vput (vint (zfb (x0::l') us) true) ++ (zeM us ++ b)),0):=by
  unfold glay
  simp only [List.append_assoc]
  exact zfB (k:=3) (by omega) hcode (by omega) h5 _
 unfold zR
 rw [hlook]
 dsimp only
 rw [if_neg (by omega)]
 unfold zhG
 rw [zj4 hx.1 hx.2]
 dsimp only
 rw [zj4 hi (.inl rfl)]
 dsimp only
 rw [hd]
 dsimp only
 rw [if_pos rfl]
 unfold zez
 by_cases ha:gall us=true
 ·have e1:gnum us=0:=by unfold gnum;rw [if_pos ha]
  have e2:zeM us=[]:=by unfold zeM;rw [if_pos ha]
  have e3:List.replicate (((x0::l').length:Int) - 1).toNat (us.headD 0)=us:=by
   rw [show (((x0::l').length:Int) - 1).toNat=us.length by omega]
   exact (zpb ha).symm
  rw [e1,e2,if_neg (by omega),e3]
  unfold gend
  rw [hw']
  rfl
 ·have e1:gnum us=zhF us.tail:=by unfold gnum;rw [if_neg ha]
  have e2:zeM us=zby us.tail (zd0 us.tail):=by unfold zeM;rw [if_neg ha]
  obtain ⟨_,_,g3,g4,g5,g6,g7,_⟩:=zcS h64t
  have hut:(us.tail).length=(x0::l').length - 2:=by rw [List.length_tail];omega
  have e4:((x0::l').length:Int) - 2=((us.tail).length:Int):=by omega
  have e5:us=us.headD 0::us.tail:=by cases us with | nil=>simp at hul h2;omega | cons a t=>rfl
  rw [e1,e2,if_pos (by omega),g3,e4,zbT _ _ _ (by omega) g5,zc2 (zh6 h64t)]
  dsimp only
  rw [if_neg (by decide),←e5]
  unfold gend
  rw [hw']
end Go.Proofs.YtblpkmmhmdpkjaaGreatDoor
namespace Go.Proofs.YtblpkmmhmdpkjaaGreatDoor
open Go.RowKit
theorem zmF {a b d:Int} (h:d=a - b) (h0:0≤d) (h1:d < 18446744073709551616):IntKind.u64.wrap (IntKind.u64.wrap a - IntKind.u64.wrap b)=d:=by
 rw [IntKind.wrap_u64,IntKind.wrap_u64,IntKind.wrap_u64];omega
def RetD (p:Nat × Bool × Bool) (e:Ending):Prop:=e=.returned (.tuple #[.int .u64 (p.1:Int),.bool p.2.1,.bool p.2.2])
theorem znB (a b:Int) (w:World) (ha:inInt a) (hb:inInt b):Calls Tryz.prog 79 #[.int .i64 a,.int .i64 b] w fun e w'=>RetD (zx a b) e∧w=w':=by
 unfold inInt at ha hb
 by_cases h:b < a
 ·obtain ⟨d,hd⟩:∃ d,d=a - b:=⟨_,rfl⟩
  have hw:=zmF hd (by omega) (by omega)
  by_cases h2:9223372036854775808≤d
  ·have hE:Hid (zx a b=(0,false,false)):=Lib.hid (by unfold zx;rw [if_pos h,if_pos (by omega)])
   have d1:decide (b < a)=true:=decide_eq_true h
   have d2:decide ((9223372036854775808:Int)≤d)=true:=decide_eq_true h2
   clear hd ha hb
   go_enter Tryz.func79,Tryz.ntmps79
   go_wp2
   refine bodyPost_ret (results_tmp3 rfl _ _ _) rfl ?_
   rw [hE.out]
   exact ⟨rfl,rfl⟩
  ·have hE:Hid (zx a b=(d.toNat,true,true)):=Lib.hid (by unfold zx;rw [if_pos h,if_neg (by omega),hd])
   have d1:decide (b < a)=true:=decide_eq_true h
   have d2:decide ((9223372036854775808:Int)≤d)=false:=decide_eq_false h2
   have HD:=Lib.hid (show ((d.toNat:Nat):Int)=d by omega)
   clear hd ha hb
   go_enter Tryz.func79,Tryz.ntmps79
   go_wp2
   refine bodyPost_ret (results_tmp3 rfl _ _ _) rfl ?_
   rw [hE.out]
   unfold RetD
   dsimp only
   rw [HD.out]
   exact ⟨rfl,rfl⟩
 ·obtain ⟨d,hd⟩:∃ d,d=b - a:=⟨_,rfl⟩
  have hw:=zmF hd (by omega) (by omega)
  by_cases h2:9223372036854775808≤d
  ·have hE:Hid (zx a b=(0,false,false)):=Lib.hid (by unfold zx;rw [if_neg h,if_pos (by omega)])
   have d1:decide (b < a)=false:=decide_eq_false h
   have d2:decide ((9223372036854775808:Int)≤d)=true:=decide_eq_true h2
   clear hd ha hb
   go_enter Tryz.func79,Tryz.ntmps79
   go_wp2
   refine bodyPost_ret (results_tmp3 rfl _ _ _) rfl ?_
   rw [hE.out]
   exact ⟨rfl,rfl⟩
  ·have hE:Hid (zx a b=(d.toNat,false,true)):=Lib.hid (by unfold zx;rw [if_neg h,if_neg (by omega),hd])
   have d1:decide (b < a)=false:=decide_eq_false h
   have d2:decide ((9223372036854775808:Int)≤d)=false:=decide_eq_false h2
   have HD:=Lib.hid (show ((d.toNat:Nat):Int)=d by omega)
   clear hd ha hb
   go_enter Tryz.func79,Tryz.ntmps79
   go_wp2
   refine bodyPost_ret (results_tmp3 rfl _ _ _) rfl ?_
   rw [hE.out]
   unfold RetD
   dsimp only
   rw [HD.out]
   exact ⟨rfl,rfl⟩
def RetG (p:Int × Bool) (e:Ending):Prop:=e=.returned (.tuple #[.int .i64 p.1,.bool p.2])
theorem zeq (a U:Int) (f:Bool) (w:World) (ha:inInt a) (h0:0≤U) (h1:U < 18446744073709551616):Calls Tryz.prog 99 #[.int .i64 a,.int .u64 U,.bool f] w fun e w'=>RetG (zbh a U.toNat f) e∧w=w':=by
 unfold inInt at ha
 have hU:((U.toNat:Nat):Int)=U:=by omega
 by_cases h2:9223372036854775808≤U
 ·have hE:Hid (zbh a U.toNat f=(0,false)):=Lib.hid (by unfold zbh;rw [hU,if_pos h2])
  have d2:decide ((9223372036854775808:Int)≤U)=true:=decide_eq_true h2
  clear hU
  go_enter Tryz.func99,Tryz.ntmps99
  go_wp2
  go_ret2
  rw [hE.out]
  exact ⟨rfl,rfl⟩
 ·have d2:decide ((9223372036854775808:Int)≤U)=false:=decide_eq_false h2
  have hw1:IntKind.i64.wrap U=U:=by rw [IntKind.wrap_i64];omega
  cases f with
  | true =>
   have hw2:IntKind.i64.wrap (-9223372036854775808+U) = -9223372036854775808+U:=by rw [IntKind.wrap_i64];omega
   by_cases h3:a < -9223372036854775808+U
   ·have hE:Hid (zbh a U.toNat true=(0,false)):=Lib.hid (by unfold zbh;rw [hU,if_neg h2,if_pos rfl,if_pos h3])
    have d3:decide (a < -9223372036854775808+U)=true:=decide_eq_true h3
    clear hU
    go_enter Tryz.func99,Tryz.ntmps99
    go_wp2
    go_ret2
    rw [hE.out]
    exact ⟨rfl,rfl⟩
   ·have hE:Hid (zbh a U.toNat true=(a - U,true)):=Lib.hid (by unfold zbh;rw [hU,if_neg h2,if_pos rfl,if_neg h3])
    have d3:decide (a < -9223372036854775808+U)=false:=decide_eq_false h3
    have hw3:IntKind.i64.wrap (a - U)=a - U:=by rw [IntKind.wrap_i64];omega
    clear hU
    go_enter Tryz.func99,Tryz.ntmps99
    go_wp2
    go_ret2
    rw [hE.out]
    exact ⟨rfl,rfl⟩
  | false =>
   have hw2:IntKind.i64.wrap (9223372036854775807 - U)=9223372036854775807 - U:=by rw [IntKind.wrap_i64];omega
   by_cases h3:9223372036854775807 - U < a
   ·have hE:Hid (zbh a U.toNat false=(0,false)):=Lib.hid (by unfold zbh;rw [hU,if_neg h2,if_neg (by decide),if_pos h3])
    have d3:decide (9223372036854775807 - U < a)=true:=decide_eq_true h3
    clear hU
    go_enter Tryz.func99,Tryz.ntmps99
    go_wp2
    go_ret2
    rw [hE.out]
    exact ⟨rfl,rfl⟩
   ·have hE:Hid (zbh a U.toNat false=(a+U,true)):=Lib.hid (by unfold zbh;rw [hU,if_neg h2,if_neg (by decide),if_neg h3])
    have d3:decide (9223372036854775807 - U < a)=false:=decide_eq_false h3
    have hw3:IntKind.i64.wrap (a+U)=a+U:=by rw [IntKind.wrap_i64];omega
    clear hU
    go_enter Tryz.func99,Tryz.ntmps99
    go_wp2
    go_ret2
    rw [hE.out]
    exact ⟨rfl,rfl⟩
theorem zre (a b:Int) (u:Nat) (d o:Bool) (w:World) (ha:inInt a) (hb:inInt b) (h:zx a b=(u,d,o)):Calls Tryz.prog 79 #[.int .i64 a,.int .i64 b] w fun e w'=>e=.returned (.tuple #[.int .u64 (u:Int),.bool d,.bool o])∧w'=w:=by
 refine (znB a b w ha hb).mono ?_
 rintro e w' ⟨h1,h2⟩
 rw [h] at h1
 exact ⟨h1,h2.symm⟩
def Low63 (u:Nat):Prop:=∃ b:Int,b=9223372036854775808∧(u:Int) < b
theorem Low63.lt {u:Nat} (h:Low63 u):(u:Int) < 9223372036854775808:=by obtain ⟨b,rfl,h⟩:=h;exact h
theorem ziU {x:Int} {s:Bool} (h:inInt x):vint x s < 18446744073709551616:=by
 unfold inInt at h
 unfold vint
 split
 ·have:=zd5 h.1 h.2;omega
 ·omega
theorem zfc {l:List UInt8} {v:Value} {w:World} (s:Bool) (h:IsB l v w) (hl:l.length≤1000000) (hn:zbx l s=none):Calls Tryz.prog 100 #[v,.bool s] w fun e w'=>∃ r,e=.returned (.tuple #[.int .i64 0,r,.int .i64 2])∧Below w.heap.size w w':=by
 refine (zfV s h hl).mono fun e w' h=>?_
 obtain ⟨r,h1,_,h3⟩:=h.parts
 rw [hn] at h1
 exact ⟨r,h1,h3⟩
theorem zbf {l r:List UInt8} {v:Value} {w:World} {x:Int} (s:Bool) (h:IsB l v w) (hl:l.length≤1000000) (hn:zbx l s=some (x,r)):Calls Tryz.prog 100 #[v,.bool s] w fun e w'=>∃ u,e=.returned (.tuple #[.int .i64 x,u,.int .i64 0])∧OwnB w r u w'∧Below w.heap.size w w':=by
 refine (zfV s h hl).mono fun e w' h=>?_
 obtain ⟨u,h1,h2,h3⟩:=h.owned
 rw [hn] at h1 h2
 exact ⟨u,h1,h2,h3⟩
theorem zc5 {l r:List UInt8} {s:Bool} {x:Int} (h:zbx l s=some (x,r)):inInt x∧r.length≤l.length:=by
 unfold zbx at h
 cases ht:zbs l with
 | none=>rw [ht] at h;cases h
 | some p =>
  obtain ⟨u,q⟩:=p
  rw [ht] at h
  obtain ⟨h1,h2⟩:=zcj ht
  have h3:q.length≤l.length:=by rw [h1,List.length_append];omega
  cases s with
  | true =>
   injection h with h
   injection h with h4 h5
   subst h4 h5
   exact ⟨zoX (by omega) (by omega),h3⟩
  | false =>
   dsimp only at h
   split at h
   ·cases h
   ·injection h with h
    injection h with h4 h5
    subst h4 h5
    exact ⟨⟨by omega,by omega⟩,h3⟩
theorem zer {s f:Bool}:∀ {us:List Nat} {x:Int} {ys:List Int},zbm s f x us=some ys→inInt x→inInt (zdK x ys)
 | [],x,ys,h,hx=>by simp [zbm] at h;subst h;exact hx
 | u::us,x,ys,h,hx=>by
  rw [zbm] at h
  cases hn:zbj s f x u with
  | none=>rw [hn] at h;cases h
  | some y =>
   rw [hn] at h
   dsimp only at h
   cases hw:zbm s f y us with
   | none=>rw [hw] at h;cases h
   | some zs =>
    rw [hw] at h
    simp at h
    subst h
    have hy:inInt y:=by
     unfold zbj at hn
     split at hn
     ·injection hn with hn;rw [←hn];exact zgj hx
     ·cases hn
    show inInt (zdK y zs)
    exact zer hw hy
theorem zb7 {l:List UInt8} {s:Bool} (h:(zp l).2.2.2.2≠0∨(zp l).1≠3∨(zp l).2.2.1 < 2):zR l s=([],[],2):=by unfold zR;rw [if_pos h];rfl
theorem zdn {l r:List UInt8} {s:Bool} {c m:Int} (h:zp l=(3,c,m,r,0)) (hm:2≤m):zR l s=zhG s c m r:=by
 unfold zR
 rw [h]
 dsimp only
 rw [if_neg (by omega)]
theorem zes {r:List UInt8} {s:Bool} {c m:Int} (h:zbx r s=none):zhG s c m r=([],[],2):=by unfold zhG;rw [h];rfl
theorem zdL {r r1:List UInt8} {s:Bool} {c m x:Int} (h:zbx r s=some (x,r1)) (h2:zbx r1 true=none):zhG s c m r=([],[],2):=by unfold zhG;rw [h];dsimp only;rw [h2];rfl
theorem zcl {r r1 r2:List UInt8} {s:Bool} {c m x d:Int} {u:Nat} {f o:Bool} (h:zbx r s=some (x,r1)) (h2:zbx r1 true=some (d,r2)) (hg:zx 0 d=(u,f,o)) :
  zhG s c m r=if o=true then zez s f x u c m r2 else ([],[],2):=by unfold zhG;rw [h];dsimp only;rw [h2];dsimp only;rw [hg];rfl
theorem zdo {s f:Bool} {x:Int} {u:Nat} {c m:Int} {r:List UInt8} (h:¬0 < c):zez s f x u c m r=gend s f x (List.replicate (m - 1).toNat u) r:=by unfold zez;rw [if_neg h]
theorem zfd {s f:Bool} {x:Int} {u:Nat} {c m e:Int} {r q:List UInt8} {us:List Nat} (h:0 < c) (hu:zh r (m - 2) (wof c)=(us,q,e)) (he:e≠0):zez s f x u c m r=([],[],2):=by
 unfold zez;rw [if_pos h,hu];dsimp only;rw [if_pos he];rfl
theorem zdp {s f:Bool} {x:Int} {u:Nat} {c m:Int} {r q:List UInt8} {us:List Nat} (h:0 < c) (hu:zh r (m - 2) (wof c)=(us,q,0)):zez s f x u c m r=gend s f x (u::us) q:=by
 unfold zez;rw [if_pos h,hu];dsimp only;rw [if_neg (by decide)]
theorem zJ {l q:List UInt8} {M:Nat} {W:Int} {us:List Nat} (h:zh l M W=(us,q,0)):us.length=M∧q.length≤l.length:=by
 unfold zh at h
 split at h
 ·rw [Int.toNat_natCast] at h
  unfold zbo at h
  split at h
  ·injection h with _ h;injection h with _ h;cases h
  ·split at h
   ·injection h with h1 h2
    injection h2 with h2 _
    subst h1 h2
    exact ⟨zbH _ _ _ _,by rw [List.length_drop];omega⟩
   ·injection h with _ h;injection h with _ h;cases h
 ·injection h with _ h;injection h with _ h;cases h
def zgk (s f:Bool) (x0:Int) (us:List Nat) (w:World) (xv out i:Value) (wr:World):Prop:=
 ∃ (k:Nat) (ys:List Int),k≤us.length∧xv=.int .i64 (zdK x0 ys)∧zbm s f x0 (us.take k)=some ys∧i=.int .i64 (k:Int)∧wr.ownsRow w.heap.size 3 1 out (k+1) ((x0::ys).map iv)∧Below w.heap.size w wr
theorem znC (l:List UInt8) (v:Value) (s:Bool) (w:World) (hv:IsB l v w) (hb:l.length≤1000000) :
  Calls Tryz.prog 65 #[v,.bool s] w (RetIO w (zR l s)):=by
 have HLK:=Lib.hid (zfC l v w hv hb)
 obtain ⟨A,c,rfl,_⟩:=hv
 have hbd:=zcG l
 obtain ⟨K,C,M,r,x,hd⟩:∃ K C M r x,zp l=(K,C,M,r,x):=⟨_,_,_,_,_,rfl⟩
 rw [hd] at HLK hbd
 dsimp only at hbd
 obtain ⟨hK0,hK1,hC0,hC1,hM0,hM1,hr⟩:=hbd
 by_cases hx:x=0
 ·subst hx
  by_cases hK:K=3
  ·subst hK
   by_cases hM2:M < 2
   ·have hE:=Lib.hid (zb7 (l:=l) (s:=s) (.inr (.inr (by rw [hd];exact hM2))))
    have d1:decide (M < 2)=true:=decide_eq_true hM2
    clear hd
    go_enter Tryz.func65,Tryz.ntmps65
    go_wp2_with fail
    refine HLK.out.mono ?_
    rintro e w1 ⟨rv,rfl,hrv,hb1⟩
    have HB:=Lib.hid hb1
    have HRV:=Lib.hid hrv
    clear hb1 hrv
    go_wp2
    go_ret3
    rw [hE.out]
    exact RetIO.nil _ HB.out
   ·have d1:decide (M < 2)=false:=decide_eq_false hM2
    obtain ⟨m,rfl⟩:=Int.eq_ofNat_of_zero_le hM0
    have HE0:=Lib.hid (zdn (s:=s) hd (by omega))
    have HRL:Hid (r.length≤1000000):=Lib.hid (by omega)
    clear hd
    cases hv1:zbx r s with
    | none =>
     have hE:Hid (zR l s=([],[],2)):=Lib.hid (by rw [HE0.out,zes hv1])
     have HV1:=Lib.hid hv1
     clear hv1
     go_enter Tryz.func65,Tryz.ntmps65
     go_wp2_with fail
     refine HLK.out.mono ?_
     rintro e w1 ⟨rv,rfl,hrv,hb1⟩
     have HB:=Lib.hid hb1
     have HRV:=Lib.hid hrv
     clear hb1 hrv
     go_wp2_with fail
     refine (zfc s HRV.out HRL.out HV1.out).mono ?_
     rintro e w2 ⟨rv2,rfl,hb2⟩
     have HB:=Lib.hid (za HB.out hb2)
     clear hb2
     go_wp2
     go_ret3
     rw [hE.out]
     exact RetIO.nil _ HB.out
    | some p =>
     obtain ⟨x0,r1⟩:=p
     have HV1:=Lib.hid hv1
     have HX0:=Lib.hid (zc5 hv1).1
     have HRL2:Hid (r1.length≤1000000):=Lib.hid (by have:=(zc5 hv1).2;omega)
     clear hv1
     cases hv2:zbx r1 true with
     | none =>
      have hE:Hid (zR l s=([],[],2)):=Lib.hid (by rw [HE0.out,zdL HV1.out hv2])
      have HV2:=Lib.hid hv2
      clear hv2
      go_enter Tryz.func65,Tryz.ntmps65
      go_wp2_with fail
      refine HLK.out.mono ?_
      rintro e w1 ⟨rv,rfl,hrv,hb1⟩
      have HB:=Lib.hid hb1
      have HRV:=Lib.hid hrv
      clear hb1 hrv
      go_wp2_with fail
      refine (zbf s HRV.out HRL.out HV1.out).mono ?_
      rintro e w2 ⟨rv2,rfl,hrv2,hb2⟩
      have HRV2:=Lib.hid hrv2.isB
      clear hrv2
      have HB:=Lib.hid (za HB.out hb2)
      clear hb2
      go_wp2_with fail
      refine (zfc true HRV2.out HRL2.out HV2.out).mono ?_
      rintro e w3 ⟨rv3,rfl,hb3⟩
      have HB:=Lib.hid (za HB.out hb3)
      clear hb3
      go_wp2
      go_ret3
      rw [hE.out]
      exact RetIO.nil _ HB.out
     | some p =>
      obtain ⟨dd,r2⟩:=p
      have HV2:=Lib.hid hv2
      have HDI:=Lib.hid (zc5 hv2).1
      have HRL3:Hid (r2.length≤1000000):=Lib.hid (by have:=(zc5 hv2).2;have:=HRL2.out;omega)
      clear hv2
      obtain ⟨u,f,o,hg⟩:∃ u f o,zx 0 dd=(u,f,o):=⟨_,_,_,rfl⟩
      have HUB:Hid ((u:Int) < 9223372036854775808):=Lib.hid (by have:=zc4 0 dd;rw [hg] at this;exact this)
      have HDF:=Lib.hid (fun W=>(zre 0 dd u f o W ⟨by omega,by omega⟩ HDI.out hg).mono fun _ _ (h:_∧_)=>(⟨h.1,h.2.symm⟩:_∧W=_))
      have HGB:=Lib.hid (zcl (c:=C) (m:=(m:Int)) HV1.out HV2.out hg)
      clear hg
      cases o with
      | false =>
       have hE:Hid (zR l s=([],[],2)):=Lib.hid (by rw [HE0.out,HGB.out];rfl)
       go_enter Tryz.func65,Tryz.ntmps65
       go_wp2_with fail
       refine HLK.out.mono ?_
       rintro e w1 ⟨rv,rfl,hrv,hb1⟩
       have HB:=Lib.hid hb1
       have HRV:=Lib.hid hrv
       clear hb1 hrv
       go_wp2_with fail
       refine (zbf s HRV.out HRL.out HV1.out).mono ?_
       rintro e w2 ⟨rv2,rfl,hrv2,hb2⟩
       have HRV2:=Lib.hid hrv2.isB
       clear hrv2
       have HB:=Lib.hid (za HB.out hb2)
       clear hb2
       go_wp2_with fail
       refine (zbf true HRV2.out HRL2.out HV2.out).mono ?_
       rintro e w3 ⟨rv3,rfl,hrv3,hb3⟩
       have HRO3:=Lib.hid (OwnB.base HB.out.size hrv3)
       have HRV3:=Lib.hid hrv3.isB
       clear hrv3
       have HB:=Lib.hid (za HB.out hb3)
       clear hb3
       go_wp2_with fail
       refine (HDF.out _).mono ?_
       rintro e w' ⟨rfl,rfl⟩
       go_wp2
       go_ret3
       rw [hE.out]
       exact RetIO.nil _ HB.out
      | true =>
       have HE1:Hid (zR l s=zez s f x0 u C m r2):=Lib.hid (by rw [HE0.out,HGB.out];rfl)
       obtain ⟨N,hN⟩:∃ N,N=m - 1:=⟨_,rfl⟩
       have hNi:(m:Int) - 1=(N:Int):=by omega
       have hN5:N≤511:=by omega
       have hN1:1≤N:=by omega
       by_cases hC:0 < C
       ·have d2:decide ((0:Int) < C)=true:=decide_eq_true hC
        obtain ⟨N2,hN2⟩:∃ N2,N2=m - 2:=⟨_,rfl⟩
        have hN2i:(m:Int) - 2=(N2:Int):=by omega
        have hN25:N2≤510:=by omega
        obtain ⟨us,q,y,hu⟩:∃ us q y,zh r2 (N2:Int) (wof C)=(us,q,y):=⟨_,_,_,rfl⟩
        have hlt:=(zZ (l:=r2) (M:=(N2:Int)) (W:=wof C)).1
        rw [hu] at hlt
        dsimp only at hlt
        have HU:=Lib.hid hu
        have HLTT:=Lib.hid hlt
        have HOF:=Lib.hid (fun X=>zgC C X (by omega) (by omega))
        obtain ⟨W,hW⟩:∃ W,W=wof C:=⟨_,rfl⟩
        rw [←hW] at HOF HU
        have HUN:=Lib.hid (fun (u:Value) (X:World) (h:IsB r2 u X)=>zdF (N2:Int) W h HRL3.out)
        rw [HU.out] at HUN
        have HWW:=Lib.hid hW
        have HN2:=Lib.hid (show N=N2+1 by omega)
        clear hu hlt hW hN hN2
        by_cases hy:y=0
        ·subst hy
         have hus:=zJ HU.out
         have HUS:Hid ((u::us).length=N):=Lib.hid (by rw [List.length_cons,hus.1,HN2.out])
         have HULN:=Lib.hid hus.1
         have HUA:Hid (∀ z∈u::us,(z:Int) < 18446744073709551616):=Lib.hid (by
          intro z hz
          rcases List.mem_cons.1 hz with h | h
          ·rw [h];have:=HUB.out;omega
          ·have h2:z < 18446744073709551616:=HLTT.out z h
           omega)
         have hE:Hid (zR l s=gend s f x0 (u::us) q):=Lib.hid (by rw [HE1.out,zdp hC (by rw [hN2i,←HWW.out];exact HU.out)])
         clear hus
         go_enter Tryz.func65,Tryz.ntmps65
         go_wp2_with fail
         refine HLK.out.mono ?_
         rintro e w1 ⟨rv,rfl,hrv,hb1⟩
         have HB:=Lib.hid hb1
         have HRV:=Lib.hid hrv
         clear hb1 hrv
         go_wp2_with fail
         refine (zbf s HRV.out HRL.out HV1.out).mono ?_
         rintro e w2 ⟨rv2,rfl,hrv2,hb2⟩
         have HRV2:=Lib.hid hrv2.isB
         clear hrv2
         have HB:=Lib.hid (za HB.out hb2)
         clear hb2
         go_wp2_with fail
         refine (zbf true HRV2.out HRL2.out HV2.out).mono ?_
         rintro e w3 ⟨rv3,rfl,hrv3,hb3⟩
         have HRO3:=Lib.hid (OwnB.base HB.out.size hrv3)
         have HRV3:=Lib.hid hrv3.isB
         clear hrv3
         have HB:=Lib.hid (za HB.out hb3)
         clear hb3
         go_wp2_with fail
         refine (HDF.out _).mono ?_
         rintro e w' ⟨rfl,rfl⟩
         have hownS:=zgO w3 101 (uv u) (base:=w3.heap.size) (Nat.le_refl _)
         have hbS:Below w3.heap.size w3 (w3.alloc (.cells #[uv u] 101)):=(Below.refl _ _).alloc (Nat.le_refl _) _
         have HRV4:=Lib.hid (HRV3.out.below hbS)
         have HOS:=Lib.hid hownS
         have HBS:=Lib.hid hbS
         clear hownS hbS
         go_wp2_with (go_at_call 56;refine (HOF.out _).mono ?_;rintro e w' ⟨rfl,rfl⟩)
         refine (HUN.out _ _ HRV4.out).mono ?_
         rintro e w5 ⟨u5,q5,rfl,hu5,hq5,hb5⟩
         have hown5:=own_below HOS.out hb5
         have hb5':=HBS.out.trans (hb5.mono HBS.out.size)
         have hz5:=hb5'.size
         obtain ⟨A5,n5,c5,rfl⟩:=IsV.shape (f:=uv) (zbi (f:=uv) hu5)
         obtain ⟨hn5,hA5,-,-,hl5⟩:=IsV.parts (f:=uv) (zbi (f:=uv) hu5)
         have HM5:=Lib.hid (show (us.map uv).length=n5 by rw [List.length_map];exact hn5)
         have hn5b:n5≤600:=by rw [←hn5,HULN.out];omega
         have HQ5:=Lib.hid hq5
         clear hu5 hq5 hn5 hb5
         go_wp2_with (at_builtin;refine zo elemU rfl _ _ rfl w3.heap.size _ _ _ _ _ _ (us.map uv) w3 rfl rfl hA5 HM5.out hl5 (zs7 us) hown5 hb5' hz5 (by omega) (by omega) ?_)
         intro v6 W0 hown6 hb6 hkeep6 _
         have HQ0:Hid (OwnB w q q5 W0):=Lib.hid (OwnB.base HB.out.size (HQ5.out.elim fun _ h=>⟨_,zgy (zbR HBS.out.size h) hown5 (by decide) hkeep6⟩))
         have hI6:IsV uv (u::us) v6 W0:=zbi (n:=1+n5) hown6
         obtain ⟨B6,n6,c6,rfl⟩:=hI6.shape
         have hn6:=hI6.parts.1
         rw [HUS.out] at hn6
         subst hn6
         obtain ⟨bd,rfl,_⟩:=hI6.at (k:=0) (by simp)
         have HSZ:=Lib.hid hI6
         have HB:=Lib.hid (za HB.out hb6)
         clear hI6 hown6 hb6 hkeep6 hown5 hb5' hz5 hl5
         have hown0:=zgO W0 3 (.int .i64 x0) (base:=W0.heap.size) (Nat.le_refl _)
         have hbo:Below W0.heap.size W0 (W0.alloc (.cells #[.int .i64 x0] 3)):=(Below.refl _ _).alloc (Nat.le_refl _) _
         have hst:zgk s f x0 (u::us) W0 (.int .i64 x0) (.slice (some ⟨W0.heap.size,0,none⟩) 1 1) (.int .i64 0) (W0.alloc (.cells #[.int .i64 x0] 3)):=⟨0,[],by omega,rfl,rfl,rfl,hown0,hbo⟩
         have HST:=Lib.hid hst
         clear hst hown0 hbo
         go_wp2
         go_loopw [12,21,22] (zgk s f x0 (u::us) W0) (fun _ _ i _=>N - (intOf i).toNat)
         case atStart=>exact HST.out
         case round =>
          obtain ⟨k,ys,hk,rfl,hgw,rfl,hown,hbr⟩:=hrel
          have hz:=hbr.size
          have HBR:=Lib.hid (za HB.out hbr)
          have HGW:=Lib.hid hgw
          have hkN:k≤N:=by have:=HUS.out;omega
          have hyi:inInt (zdK x0 ys):=zer hgw HX0.out
          obtain ⟨x,hx⟩:∃ x,x=zdK x0 ys:=⟨_,rfl⟩
          rw [←hx] at hyi ⊢
          have HX:=Lib.hid hx
          have HXI:=Lib.hid hyi
          have HTT:=Lib.hid HST
          clear hgw hx hyi
          by_cases hlt:k < N
          ·have hlti:(k:Int) < (N:Int):=by omega
           have hkl:k < (u::us).length:=by have:=HUS.out;omega
           obtain ⟨_,hAd,_,hcell⟩:=(HSZ.out.below hbr).at hkl
           injection hAd with hAd
           subst hAd
           obtain ⟨u',hu'⟩:∃ u',u'=(u::us)[k]:=⟨_,rfl⟩
           obtain ⟨wr',hwr⟩:∃ w',w'=wr:=⟨_,rfl⟩
           rw [←hwr] at hown hbr hz HBR hcell ⊢
           clear hwr
           have hcx:wr'.cell? (bd.add k)=some (.int .u64 (u':Int)):=by rw [hcell,hu'];rfl
           have HTK:Hid ((u::us).take (k+1)=(u::us).take k ++ [u']):=Lib.hid (by rw [List.take_succ_eq_append_getElem hkl,hu'])
           have HU64:Hid ((u':Int) < 18446744073709551616):=Lib.hid (by rw [hu'];exact HUA.out _ (List.getElem_mem _))
           clear hcell hu' hkl
           have hgs:=zeq x (u':Int) f wr' HXI.out (by omega) (by have:=HU64.out;omega)
           rw [Int.toNat_natCast] at hgs
           obtain ⟨y,ok,hy⟩:∃ y ok,zbh x u' f=(y,ok):=⟨_,_,rfl⟩
           have hyb:inInt y:=by have:=zgj (u:=u') (f:=f) HXI.out;rw [hy] at this;exact this
           rw [hy] at hgs
           have HGS:=Lib.hid hgs
           have hnx:zbj s f (zdK x0 ys) u'=if ok=true∧(s=true∨0≤y) then some y else none:=by unfold zbj;rw [←HX.out,hy]
           have HNX:=Lib.hid hnx
           have HYB:=Lib.hid hyb
           clear hgs hy hyb hnx
           by_cases hgo:ok=true∧(s=true∨0≤y)
           ·have HW2:Hid (zbm s f x0 ((u::us).take (k+1))=some (ys ++ [y])):=Lib.hid (by rw [HTK.out,zcK,HGW.out];dsimp only;rw [HNX.out,if_pos hgo])
            obtain ⟨rfl,hsy⟩:=hgo
            have hcase:decide (y < 0)=false∨(decide (y < 0)=true∧s=true):=by
             rcases hsy with h | h
             ·by_cases h2:y < 0
              ·exact .inr ⟨decide_eq_true h2,h⟩
              ·exact .inl (decide_eq_false h2)
             ·exact .inl (decide_eq_false (by omega))
            clear hsy
            rcases hcase with hd0 | ⟨hd0,rfl⟩
            all_goals
             go_wp2_with (first | (go_at_call 99;refine HGS.out.mono ?_;rintro e w' ⟨rfl,rfl⟩) | (at_builtin;refine zX zdk rfl _ _ rfl W0.heap.size _ _ _ (.int .i64 y) wr' W0 rfl rfl rfl rfl hown hbr hz (by omega) (by omega) ?_))
             intro v5 w5 hown5 hb5 _ _
             have hown6:w5.ownsRow W0.heap.size 3 1 v5 (k+1+1) ((x0::(ys ++ [y])).map iv):=by rw [←List.cons_append,List.map_append];exact hown5
             have HO6:=Lib.hid hown6
             have HB5:=Lib.hid hb5
             have hki:IntKind.i64.wrap ((k:Int)+1)=(k:Int)+1:=by rw [IntKind.wrap_i64];omega
             clear hown5 hown6 hown hb5
             go_wp2
             go_roundw
             case rel=>exact ⟨k+1,ys ++ [y],by have:=HUS.out;omega,by rw [zfF],HW2.out,by rw [Int.natCast_add];rfl,HO6.out,HB5.out⟩
             case measure=>simp [intOf];omega
           ·have hW2:zbm s f x0 ((u::us).take (k+1))=none:=by rw [HTK.out,zcK,HGW.out];dsimp only;rw [HNX.out,if_neg hgo]
            have hE2:Hid (zR l s=([],[],2)):=Lib.hid (by rw [hE.out];unfold gend;rw [zcT hW2];rfl)
            have hcase:ok=false∨(ok=true∧decide (y < 0)=true∧s=false):=by
             cases ok with
             | false=>exact .inl rfl
             | true =>
              refine .inr ⟨rfl,?_,?_⟩
              ·exact decide_eq_true (Int.not_le.1 fun h=>hgo ⟨rfl,.inr h⟩)
              ·cases s with | false=>rfl | true=>exact absurd ⟨rfl,.inl rfl⟩ hgo
            clear hW2 hgo hown
            rcases hcase with rfl | ⟨rfl,hd0,rfl⟩
            all_goals
             go_wp2_with (go_at_call 99;refine HGS.out.mono ?_;rintro e w' ⟨rfl,rfl⟩)
             go_ret3
             rw [hE2.out]
             exact RetIO.nil _ HBR.out
          ·obtain rfl:N=k:=by omega
           have hlti:¬(N:Int) < (N:Int):=by omega
           have hW2:zbm s f x0 (u::us)=some ys:=by have h:=HGW.out;rw [List.take_of_length_le (by have:=HUS.out;omega)] at h;exact h
           have hE2:Hid (zR l s=(x0::ys,q,0)):=Lib.hid (by rw [hE.out];unfold gend;rw [hW2])
           have HO:=Lib.hid (zbi (f:=iv) (l:=x0::ys) hown)
           have HQ:=Lib.hid (HQ0.out.below hbr)
           clear hW2 hown hbr
           go_wp2
           go_ret3
           rw [hE2.out]
           exact ⟨_,_,rfl,HO.out,HQ.out,HBR.out⟩
        ·have hE:Hid (zR l s=([],[],2)):=Lib.hid (by rw [HE1.out,zfd hC (by rw [hN2i,←HWW.out];exact HU.out) hy])
         have d3:(y != 0)=true:=by simpa using hy
         go_enter Tryz.func65,Tryz.ntmps65
         go_wp2_with fail
         refine HLK.out.mono ?_
         rintro e w1 ⟨rv,rfl,hrv,hb1⟩
         have HB:=Lib.hid hb1
         have HRV:=Lib.hid hrv
         clear hb1 hrv
         go_wp2_with fail
         refine (zbf s HRV.out HRL.out HV1.out).mono ?_
         rintro e w2 ⟨rv2,rfl,hrv2,hb2⟩
         have HRV2:=Lib.hid hrv2.isB
         clear hrv2
         have HB:=Lib.hid (za HB.out hb2)
         clear hb2
         go_wp2_with fail
         refine (zbf true HRV2.out HRL2.out HV2.out).mono ?_
         rintro e w3 ⟨rv3,rfl,hrv3,hb3⟩
         have HRO3:=Lib.hid (OwnB.base HB.out.size hrv3)
         have HRV3:=Lib.hid hrv3.isB
         clear hrv3
         have HB:=Lib.hid (za HB.out hb3)
         clear hb3
         go_wp2_with fail
         refine (HDF.out _).mono ?_
         rintro e w' ⟨rfl,rfl⟩
         have hbS:Below w3.heap.size w3 (w3.alloc (.cells #[uv u] 101)):=(Below.refl _ _).alloc (Nat.le_refl _) _
         have HRV4:=Lib.hid (HRV3.out.below hbS)
         have HBS:=Lib.hid hbS
         clear hbS
         go_wp2_with (go_at_call 56;refine (HOF.out _).mono ?_;rintro e w' ⟨rfl,rfl⟩)
         refine (HUN.out _ _ HRV4.out).mono ?_
         rintro e w5 ⟨u5,q5,rfl,hu5,hq5,hb5⟩
         have HB:=Lib.hid (za HB.out (HBS.out.trans (hb5.mono HBS.out.size)))
         clear hb5
         go_wp2
         go_ret3
         rw [hE.out]
         exact RetIO.nil _ HB.out
       ·have d2:decide ((0:Int) < C)=false:=decide_eq_false hC
        have HUS:Hid ((List.replicate N u).length=N):=Lib.hid (by simp)
        have hE:Hid (zR l s=gend s f x0 (List.replicate N u) r2):=Lib.hid (by rw [HE1.out,zdo hC,hNi,Int.toNat_natCast])
        clear hN
        go_enter Tryz.func65,Tryz.ntmps65
        go_wp2_with fail
        refine HLK.out.mono ?_
        rintro e w1 ⟨rv,rfl,hrv,hb1⟩
        have HB:=Lib.hid hb1
        have HRV:=Lib.hid hrv
        clear hb1 hrv
        go_wp2_with fail
        refine (zbf s HRV.out HRL.out HV1.out).mono ?_
        rintro e w2 ⟨rv2,rfl,hrv2,hb2⟩
        have HRV2:=Lib.hid hrv2.isB
        clear hrv2
        have HB:=Lib.hid (za HB.out hb2)
        clear hb2
        go_wp2_with fail
        refine (zbf true HRV2.out HRL2.out HV2.out).mono ?_
        rintro e w3 ⟨rv3,rfl,hrv3,hb3⟩
        have HRO3:=Lib.hid (OwnB.base HB.out.size hrv3)
        have HRV3:=Lib.hid hrv3.isB
        clear hrv3
        have HB:=Lib.hid (za HB.out hb3)
        clear hb3
        go_wp2_with fail
        refine (HDF.out _).mono ?_
        rintro e w' ⟨rfl,rfl⟩
        have hbS:Below w3.heap.size w3 (w3.alloc (.cells #[uv u] 101)):=(Below.refl _ _).alloc (Nat.le_refl _) _
        have HRO4:=Lib.hid (HRO3.out.below hbS)
        have HBS:=Lib.hid hbS
        have HB:=Lib.hid (za HB.out hbS)
        clear hbS
        obtain ⟨W0,hW0⟩:∃ W0,W0=w3.alloc (.cells #[.int .u64 (u:Int)] 101):=⟨_,rfl⟩
        have hsz0:W0.heap.size=w3.heap.size+1:=by rw [hW0];simp
        have HW0:=Lib.hid hW0
        have HSZ0:=Lib.hid hsz0
        rw [show uv u=.int .u64 (u:Int) from rfl,←hW0] at HB HRO4
        clear hW0 hsz0
        have hown0:=zgO W0 3 (.int .i64 x0) (base:=W0.heap.size) (Nat.le_refl _)
        have hbo:Below W0.heap.size W0 (W0.alloc (.cells #[.int .i64 x0] 3)):=(Below.refl _ _).alloc (Nat.le_refl _) _
        have hst:zgk s f x0 (List.replicate N u) W0 (.int .i64 x0) (.slice (some ⟨W0.heap.size,0,none⟩) 1 1) (.int .i64 0) (W0.alloc (.cells #[.int .i64 x0] 3)):=⟨0,[],by omega,rfl,rfl,rfl,hown0,hbo⟩
        have HST:=Lib.hid hst
        clear hst hown0 hbo
        go_wp2
        go_loopw [12,21,22] (zgk s f x0 (List.replicate N u) W0) (fun _ _ i _=>N - (intOf i).toNat)
        case atStart=>rw [←HW0.out,←HSZ0.out];exact HST.out
        case round =>
         obtain ⟨k,ys,hk,rfl,hgw,rfl,hown,hbr⟩:=hrel
         have hz:=hbr.size
         have HBR:=Lib.hid (za HB.out hbr)
         have HGW:=Lib.hid hgw
         have hkN:k≤N:=by have:=HUS.out;omega
         have hyi:inInt (zdK x0 ys):=zer hgw HX0.out
         obtain ⟨x,hx⟩:∃ x,x=zdK x0 ys:=⟨_,rfl⟩
         rw [←hx] at hyi ⊢
         have HX:=Lib.hid hx
         have HXI:=Lib.hid hyi
         have HTT:=Lib.hid HST
         clear hgw hx hyi
         by_cases hlt:k < N
         ·have hlti:(k:Int) < (N:Int):=by omega
          obtain ⟨wr',hwr⟩:∃ w',w'=wr:=⟨_,rfl⟩
          rw [←hwr] at hown hbr hz HBR ⊢
          clear hwr
          have HTK:Hid ((List.replicate N u).take (k+1)=(List.replicate N u).take k ++ [u]):=Lib.hid (by rw [List.take_succ_eq_append_getElem (by rw [List.length_replicate];exact hlt),List.getElem_replicate])
          have HU64:Hid ((u:Int) < 9223372036854775808):=Lib.hid HUB.out
          have hgs:=zeq x (u:Int) f wr' HXI.out (by omega) (by have:=HU64.out;omega)
          rw [Int.toNat_natCast] at hgs
          obtain ⟨y,ok,hy⟩:∃ y ok,zbh x u f=(y,ok):=⟨_,_,rfl⟩
          have hyb:inInt y:=by have:=zgj (u:=u) (f:=f) HXI.out;rw [hy] at this;exact this
          rw [hy] at hgs
          have HGS:=Lib.hid hgs
          have hnx:zbj s f (zdK x0 ys) u=if ok=true∧(s=true∨0≤y) then some y else none:=by unfold zbj;rw [←HX.out,hy]
          have HNX:=Lib.hid hnx
          have HYB:=Lib.hid hyb
          clear hgs hy hyb hnx
          by_cases hgo:ok=true∧(s=true∨0≤y)
          ·have HW2:Hid (zbm s f x0 ((List.replicate N u).take (k+1))=some (ys ++ [y])):=Lib.hid (by rw [HTK.out,zcK,HGW.out];dsimp only;rw [HNX.out,if_pos hgo])
           obtain ⟨rfl,hsy⟩:=hgo
           have hcase:decide (y < 0)=false∨(decide (y < 0)=true∧s=true):=by
            rcases hsy with h | h
            ·by_cases h2:y < 0
             ·exact .inr ⟨decide_eq_true h2,h⟩
             ·exact .inl (decide_eq_false h2)
            ·exact .inl (decide_eq_false (by omega))
           clear hsy
           rcases hcase with hd0 | ⟨hd0,rfl⟩
           all_goals
            go_wp2_with (first | (go_at_call 99;refine HGS.out.mono ?_;rintro e w' ⟨rfl,rfl⟩) | (at_builtin;refine zX zdk rfl _ _ rfl W0.heap.size _ _ _ (.int .i64 y) wr' W0 rfl rfl rfl rfl hown hbr hz (by omega) (by omega) ?_))
            intro v5 w5 hown5 hb5 _ _
            have hown6:w5.ownsRow W0.heap.size 3 1 v5 (k+1+1) ((x0::(ys ++ [y])).map iv):=by rw [←List.cons_append,List.map_append];exact hown5
            have HO6:=Lib.hid hown6
            have HB5:=Lib.hid hb5
            have hki:IntKind.i64.wrap ((k:Int)+1)=(k:Int)+1:=by rw [IntKind.wrap_i64];omega
            clear hown5 hown6 hown hb5
            go_wp2
            go_roundw
            case rel=>exact ⟨k+1,ys ++ [y],by have:=HUS.out;omega,by rw [zfF],HW2.out,by rw [Int.natCast_add];rfl,HO6.out,HB5.out⟩
            case measure=>simp [intOf];omega
          ·have hW2:zbm s f x0 ((List.replicate N u).take (k+1))=none:=by rw [HTK.out,zcK,HGW.out];dsimp only;rw [HNX.out,if_neg hgo]
           have hE2:Hid (zR l s=([],[],2)):=Lib.hid (by rw [hE.out];unfold gend;rw [zcT hW2];rfl)
           have hcase:ok=false∨(ok=true∧decide (y < 0)=true∧s=false):=by
            cases ok with
            | false=>exact .inl rfl
            | true =>
             refine .inr ⟨rfl,?_,?_⟩
             ·exact decide_eq_true (Int.not_le.1 fun h=>hgo ⟨rfl,.inr h⟩)
             ·cases s with | false=>rfl | true=>exact absurd ⟨rfl,.inl rfl⟩ hgo
           clear hW2 hgo hown
           rcases hcase with rfl | ⟨rfl,hd0,rfl⟩
           all_goals
            go_wp2_with (go_at_call 99;refine HGS.out.mono ?_;rintro e w' ⟨rfl,rfl⟩)
            go_ret3
            rw [hE2.out]
            exact RetIO.nil _ HBR.out
         ·obtain rfl:N=k:=by omega
          have hlti:¬(N:Int) < (N:Int):=by omega
          have hW2:zbm s f x0 (List.replicate N u)=some ys:=by have h:=HGW.out;rw [List.take_of_length_le (by have:=HUS.out;omega)] at h;exact h
          have hE2:Hid (zR l s=(x0::ys,r2,0)):=Lib.hid (by rw [hE.out];unfold gend;rw [hW2])
          have HO:=Lib.hid (zbi (f:=iv) (l:=x0::ys) hown)
          have HQ:=Lib.hid (HRO4.out.below hbr)
          clear hW2 hown hbr
          go_wp2
          go_ret3
          rw [hE2.out]
          exact ⟨_,_,rfl,HO.out,HQ.out,HBR.out⟩
  ·have hE:=Lib.hid (zb7 (l:=l) (s:=s) (.inr (.inl (by rw [hd];exact hK))))
   have d1:(K != 3)=true:=by simpa using hK
   clear hd
   go_enter Tryz.func65,Tryz.ntmps65
   go_wp2_with fail
   refine HLK.out.mono ?_
   rintro e w1 ⟨rv,rfl,hrv,hb1⟩
   have HB:=Lib.hid hb1
   have HRV:=Lib.hid hrv
   clear hb1 hrv
   go_wp2
   go_ret3
   rw [hE.out]
   exact RetIO.nil _ HB.out
 ·have hE:=Lib.hid (zb7 (l:=l) (s:=s) (.inl (by rw [hd];exact hx)))
  have d1:(x != 0)=true:=by simpa using hx
  clear hd
  go_enter Tryz.func65,Tryz.ntmps65
  go_wp2_with fail
  refine HLK.out.mono ?_
  rintro e w1 ⟨rv,rfl,hrv,hb1⟩
  have HB:=Lib.hid hb1
  have HRV:=Lib.hid hrv
  clear hb1 hrv
  go_wp2
  go_ret3
  rw [hE.out]
  exact RetIO.nil _ HB.out
end Go.Proofs.YtblpkmmhmdpkjaaGreatDoor
