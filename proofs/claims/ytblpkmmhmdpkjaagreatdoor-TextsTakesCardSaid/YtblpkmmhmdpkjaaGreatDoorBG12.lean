import Derived.Deep.RegionLaw
import Derived.Sort.Walk0
import Derived.Laws.Strings
import Derived.WalkKit
import Derived.Lib.SmallJoins
import Derived.Deep.Slices
import Derived.Lib.AppendStr
import Derived.Test.YtblpkmmhmdpkjaaGreatDoorBG11
set_option maxHeartbeats 8000000
set_option maxRecDepth 100000
namespace Go.Proofs.YtblpkmmhmdpkjaaGreatDoor
open Go.RowKit
theorem zqi {P:Program} {ops:Array Oper} {o:Oper} {a:Act} {w:World} {K:Act→World→Prop} {Q:Exit→Act→World→Prop} {F:Prop} {t e:TypeId} {bytes:Nat} {z:Value} (E:Elem P t e bytes z)
  (hgd:o.guard=none) (s x:Operand) (ho:o.op=.call { callee:=.builtin .append,args:=#[s,x],argTypes:=#[t,t] })
  (base:Nat) (v:Value) (n:Nat) (xs:List Value) (ad:Addr) (m c:Nat) (news:List Value) (w0:World) (hs:a.eval s=v) (hx:a.eval x=.slice (some ad) m c)
  (hm:news.length=m) (hr:Lies w (some ad) news) (h1:∀ u∈news,u.oneCell'=true)
  (hown:w.ownsRow base e 1 v n xs) (hb:Below base w0 w) (hbase:base≤w.heap.size) (hn:n+m≤1000000000) (hby:bytes≤100)
  (h:∀ v' w',w'.ownsRow base e 1 v' (n+m) (xs ++ news)→Below base w0 w'→w.grownBy w' v.ownBlock→K (a.put o.dst v') w') :
  if Region.wanted o (yielded ops a.tmps)=true then Oper.wp P o a w K Q else F:=by
 obtain ⟨i,h2,h3,h4,h5⟩:=E.info
 have h6:z.cells.size=1:=by rw [E.one];rfl
 have hle:(n+m)*bytes≤(n+m)*100:=Nat.mul_le_mul_left _ hby
 have hw:Region.wanted o (yielded ops a.tmps)=true:=by simp [Region.wanted,hgd]
 have hcell:∀ j u,news[j]? = some u→w.cell? (ad.add j)=some u:=by
  rcases hr with hr | ⟨ad',hA,_,hc⟩
  ·subst hr;intro j u hj;simp at hj
  ·injection hA with hA;subst hA;exact hc
 obtain ⟨v',w',hrun,r1,r2,_,_⟩:=run_append_own_at (P:=P) w base t o.type e i z 1 bytes E.under h2 h3 h4 h5 h6 (by omega) v n xs hown ad m c news (by omega) hcell h1 (by unfold maxLen;omega) (by omega) hbase
 rw [if_pos hw]
 unfold Oper.wp
 simp [execOp,ho,resolve,invoke,builtin,hs,hx,hrun,Result.andThen]
 exact h v' w' r1 (zd1 hb hown hbase r2) r2
theorem zrQ (l:List Int) (v:Value) (s:Bool) (w:World) (ht:WTab w) (hv:IsV iv l v w) (hl:∀ x∈l,inInt x) :
  Calls Tryz.prog 48 #[v,.bool s] w (RetEO w (zbY l s)):=by
 have HT:=Lib.hid ht
 have HV:=Lib.hid hv
 have HI:=Lib.hid hl
 obtain ⟨A,n,c,rfl⟩:=hv.shape
 have HN:=Lib.hid hv.parts.1
 clear hv hl ht
 by_cases hbig:4096 < n
 ·have d1:(4096:Int) < (n:Int):=by omega
  have hE:Hid (zbY l s=([],3)):=Lib.hid (by unfold zbY;rw [if_pos (by rw [HN.out];exact hbig)])
  go_enter Tryz.func48,Tryz.ntmps48
  go_wp2
  go_ret2
  rw [hE.out]
  exact RetEO.nil _ (Below.refl _ _)
 ·have d1:¬(4096:Int) < (n:Int):=by omega
  have hE:Hid (zbY l s=zhI [] (zdP s l.length l)):=Lib.hid (by
   unfold zbY zhI
   rw [if_neg (by rw [HN.out];exact hbig)]
   by_cases h:(zdP s l.length l).2≠0
   ·rw [if_pos h]
    have h2:∀ (k:Nat) (l:List Int),(zdP s k l).2≠0→(zdP s k l).1=[]:=by
     intro k
     induction k with
     | zero=>intro l h;exact absurd rfl h
     | succ k ih =>
      intro l h
      rw [zdP] at h ⊢
      split
      ·rfl
      ·split
       ·rfl
       ·split
        ·rfl
        ·rename_i h3 h4 h5
         rw [if_neg h3,if_neg h4,if_neg h5] at h
         exact absurd rfl h
    exact Prod.ext (h2 _ _ h) rfl
   ·rw [if_neg h]
    exact Prod.ext rfl (Decidable.not_not.1 h))
  have hst:zlQ (zbY l s) s w (.slice A n c) (.slice none 0 0) w:=⟨l.length,l,[],Nat.le_refl _,by have:=HN.out;omega,by have:=HN.out;simp;omega,HI.out,HV.out,hE.out.symm,World.ownsRow_nil _ _ _ _,Below.refl _ _⟩
  have HST:=Lib.hid hst
  clear hst
  go_enter Tryz.func48,Tryz.ntmps48
  go_wp2
  go_loopw [0,6] (zlQ (zbY l s) s w) (fun x _ _=>lenOf x)
  case atStart=>exact HST.out
  case round =>
   obtain ⟨k,rest,out,hk,h4,hol,hin,hrv,hres,hown,hbw⟩:=hrel
   have HSTT:=HST
   clear HST
   have HIN:=Lib.hid hin
   have HRV:=Lib.hid hrv
   have HRES:=Lib.hid hres
   have HOWN:=Lib.hid hown
   have HBW:=Lib.hid hbw
   obtain ⟨A2,n2,c2,rfl⟩:=hrv.shape
   have HN2:=Lib.hid hrv.parts.1
   have hnc2:n2≤c2:=hrv.parts.2.2.1
   have hci2:(c2:Int)≤9223372036854775807:=by have:=hrv.parts.2.2.2.1;unfold maxLen at this;omega
   have hn2k:n2≤k:=by have:=HN2.out;omega
   have hn24:n2≤4096:=by have:=HN2.out;omega
   have hol2:out.length+10*n2≤50000:=by have:=HN2.out;omega
   obtain ⟨ol,hol3⟩:∃ ol,ol=out.length:=⟨_,rfl⟩
   have HOL:=Lib.hid hol3
   clear hin hrv hres hown hbw hk h4 hol
   by_cases h0:n2=0
   ·subst h0
    have hR:Hid (zbY l s=(out,0)):=Lib.hid (by rw [←HRES.out];exact zn8 out s HN2.out)
    clear hol3
    go_wp2
    go_ret2
    rw [hR.out]
    exact ⟨_,rfl,HOWN.out,HBW.out⟩
   ·have d2:decide (0 < n2)=true:=decide_eq_true (by omega)
    have hn0i:(0:Int) < (n2:Int):=by omega
    obtain ⟨m,hm⟩:∃ m,m=ucut rest:=⟨_,rfl⟩
    obtain ⟨m1,m2,m3⟩:=zsU (l:=rest) (by have:=HN2.out;omega)
    rw [←hm] at m1 m2 m3
    have hmn:m≤n2:=by have:=HN2.out;omega
    have hmc:(m:Int)≤(c2:Int):=by omega
    obtain ⟨k',rfl⟩:∃ k',k=k'+1:=⟨k - 1,by omega⟩
    have HCU:=Lib.hid (zrL rest _ wr (HRV.out.below HBW.out) (by have:=HN2.out;omega))
    rw [←hm] at HCU
    have HM:=Lib.hid hm
    have htl:(rest.take m).length=m:=by rw [List.length_take];have:=HN2.out;omega
    have HTL:=Lib.hid htl
    have HTI:Hid (∀ x∈rest.take m,inInt x):=Lib.hid (fun x hx=>HIN.out x (List.mem_of_mem_take hx))
    obtain ⟨rb,re,hr⟩:∃ rb re,zcX (rest.take m) s=(rb,re):=⟨_,_,rfl⟩
    have HR:=Lib.hid hr
    obtain ⟨v4,hv4,hI4⟩:=zbp (P:=Tryz.prog) zdk (k:=m) hmn HRV.out
    have HI4:=Lib.hid hI4
    clear hm htl hr hI4 m2
    go_wp2_with fail
    refine HCU.out.mono ?_
    rintro e w2 ⟨rfl,hb2⟩
    have HV2:=Lib.hid ((HRV.out.take hmn).below (HBW.out.trans (hb2.mono HBW.out.size)))
    have HO2:=Lib.hid (own_below HOWN.out hb2)
    have HB2:=Lib.hid (za HBW.out hb2)
    clear hb2
    have HRN:=Lib.hid (zrO (rest.take m) _ s w2 (HT.out.below HB2.out HT.out.lt) HV2.out HTI.out (by have:=HTL.out;omega))
    rw [HR.out] at HRN
    go_wp2_with fail
    refine HRN.out.mono ?_
    rintro e w3 ⟨b3,rfl,hb3v,hb3⟩
    have HO3:=Lib.hid (own_below HO2.out hb3)
    have HB3:=Lib.hid (za HB2.out hb3)
    have HBV:=Lib.hid hb3v
    clear hb3
    by_cases he:re=0
    ·subst he
     have hlen:=zrG (s:=s) HTI.out (by rw [HTL.out];exact m3)
     have hstep:=zn9 (k:=k') out s (l:=rest) (by have:=HN2.out;omega) (by rw [←HM.out,HR.out])
     rw [HRES.out,←HM.out,HR.out] at hstep
     rw [HR.out] at hlen
     have hlen2:=(zhm (r:=[]) (s:=s) HTI.out (by
      intro h
      have h2:=HR.out
      rw [zi4 (.inl h)] at h2
      injection h2 with _ h2
      cases h2) (by rw [HTL.out];exact m1) (by rw [HTL.out];exact m3)).2.2.2
     have HRB2:Hid (2≤rb.length):=Lib.hid (by have h:=(zhm (r:=[]) (s:=s) HTI.out (by
      intro h
      have h2:=HR.out
      rw [zi4 (.inl h)] at h2
      injection h2 with _ h2
      cases h2) (by rw [HTL.out];exact m1) (by rw [HTL.out];exact m3)).2.2.1;rw [HR.out] at h;exact h)
     rw [HR.out,HTL.out] at hlen2
     dsimp only at hlen hstep hlen2
     obtain ⟨A5,n5,c5,rfl⟩:=IsV.shape (f:=bv) hb3v
     obtain ⟨hn5,hA5,-,-,hl5⟩:=IsV.parts (f:=bv) (show IsV bv rb _ _ from hb3v)
     have HM5:=Lib.hid (show (rb.map bv).length=n5 by rw [List.length_map];exact hn5)
     have hn5b:n5≤5000:=by omega
     have hn510:n5≤10*m:=by omega
     have hown3:=HO3.out
     rw [←hol3] at hown3
     have hbw3:=HB3.out
     have hz3:=hbw3.size
     have HSTEP:=Lib.hid hstep
     have HN5:=Lib.hid hn5
     have hol4:ol+10*n2≤50000:=by omega
     clear hb3v hlen hstep hlen2 hn5 hol3 hol2
     have hA5s:∃ ad5,A5=some ad5:=by
      cases A5 with
      | none=>exfalso;have h5:=hA5 rfl;have:=HN5.out;have:=HRB2.out;omega
      | some ad5=>exact ⟨ad5,rfl⟩
     obtain ⟨ad5,rfl⟩:=hA5s
     have hbd:=(Below.refl w3.heap.size w3).drew
     have hownD:=own_below hown3 hbd
     have hbwD:=za hbw3 hbd
     have hlD:=hl5.below hbd
     have hzD:=hbwD.size
     have hv4':=hv4
     clear hown3 hbw3 hz3 hl5 hA5 hbd
     go_wp2
     go_region_law (refine zqi elemB rfl _ _ rfl w.heap.size _ _ _ _ _ _ (rb.map bv) w rfl rfl HM5.out hlD (zcb _) hownD hbwD hzD (by omega) (by omega) ?_;intro v6 w6 hown6 hb6 _)
     have HREL:Hid (zlQ (zbY l s) s w v4 v6 w6):=Lib.hid ⟨k',rest.drop m,out ++ rb,by rw [List.length_drop];have:=HN2.out;omega,by rw [List.length_drop];have:=HN2.out;omega,
      by rw [List.length_drop,List.length_append,HN5.out,←HOL.out];have:=HN2.out;omega,fun x hx=>HIN.out x (List.mem_of_mem_drop hx),HI4.out,HSTEP.out.symm,
      by rw [List.length_append,←HOL.out,HN5.out,List.map_append];exact hown6,hb6⟩
     clear hown6 hb6 hownD hbwD hzD hlD
     simp only [List.getElem_toArray,List.getElem_cons_succ,List.getElem_cons_zero,Act.put,List.setIfInBounds_toArray,List.set_cons_succ,List.set_cons_zero]
     go_wp2
     go_roundw
     case rel=>exact HREL.out
     case measure =>
      obtain ⟨A7,c7,e7,_⟩:=HI4.out
      rw [e7]
      have:=HN2.out
      simp [lenOf]
      omega
    ·have hbad:=zp5 (k:=k') out s (l:=rest) (by have:=HN2.out;omega) (by rw [←HM.out,HR.out];exact he)
     rw [HRES.out,←HM.out,HR.out] at hbad
     have HBD:=Lib.hid hbad
     have d3:(re != 0)=true:=by simpa using he
     clear hb3v hbad
     obtain ⟨A5,n5,c5,rfl⟩:=IsV.shape (f:=bv) HBV.out
     go_wp2
     go_ret2
     rw [HBD.out]
     exact RetEO.nil _ HB3.out
theorem zmX (l:List Int) (v:Value) (s:Bool) (w:World) (ht:WTab w) (hv:IsV iv l v w) (hl:∀ x∈l,inInt x) (_hb:l.length≤1000000) :
  Calls Tryz.prog 48 #[v,.bool s] w (RetE w (zbY l s)):=(zrQ l v s w ht hv hl).mono fun _ _ h=>h.e
def zqj (res:List Int × List UInt8 × Int) (s:Bool) (M:Nat) (w:World) (rv ov:Value) (wr:World):Prop:=
 ∃ (f:Nat) (out:List Int) (rest:List UInt8),M+1≤out.length+f∧out.length≤M∧rest.length≤1000000∧zbW s M f out rest=res∧wr.ownsRow w.heap.size 3 1 ov out.length (out.map iv)∧IsB rest rv w∧Below w.heap.size w wr
theorem zqk (l:List UInt8) (v:Value) (many:Int) (s:Bool) (w:World) (ht:WTab w) (hv:IsB l v w) (hb:l.length≤1000000) :
  Calls Tryz.prog 95 #[v,.int .i64 many,.bool s] w (RetIOO w (zO l many s)):=by
 have HT:=Lib.hid ht
 clear ht
 by_cases hm:many < 0∨4096 < many
 ·have hE:Hid (zO l many s=([],[],1)):=Lib.hid (by unfold zO;rw [if_pos hm])
  obtain ⟨A,n,c,rfl⟩:=IsV.shape (f:=bv) hv
  have hd:decide (many < 0)=true∨(decide (many < 0)=false∧decide (4096 < many)=true):=by
   by_cases h:many < 0
   ·exact .inl (decide_eq_true h)
   ·exact .inr ⟨decide_eq_false h,decide_eq_true (by omega)⟩
  clear hm hv hb
  rcases hd with d1 | ⟨d1,d2⟩
  all_goals
   go_enter Tryz.func95,Tryz.ntmps95
   go_wp2
   go_ret3
   rw [hE.out]
   exact RetIOO.nil _ (Below.refl _ _)
 ·obtain ⟨M,rfl⟩:=Int.eq_ofNat_of_zero_le (show 0≤many by omega)
  have hM4:M≤4096:=by omega
  have d1:decide ((M:Int) < 0)=false:=decide_eq_false (by omega)
  have d2:decide ((4096:Int) < (M:Int))=false:=decide_eq_false (by omega)
  have hE:Hid (zO l (M:Int) s=zbW s M (M+1) [] l):=Lib.hid (by unfold zO;rw [if_neg hm,Int.toNat_natCast])
  have HV:=Lib.hid hv
  have HL6:=Lib.hid hb
  clear hm hv hb
  go_enter Tryz.func95,Tryz.ntmps95
  go_wp2_with (refine zjp zdk rfl _ _ rfl .i64 .i64 (M:Int) M w.heap.size w rfl rfl rfl (by omega) (by omega) (Below.refl _ _) (Nat.le_refl _) ?_)
  intro w1 hown1 hb1 hz1
  have HST:Hid (zqj (zO l (M:Int) s) s M w v (.slice (some ⟨w.heap.size,0,none⟩) 0 M) w1):=Lib.hid ⟨M+1,[],l,by simp,by simp,HL6.out,hE.out.symm,hown1,HV.out,hb1⟩
  clear hown1 hb1 hz1
  go_wp2
  go_loopw [0,9] (zqj (zO l (M:Int) s) s M w) (fun _ o _=>M - lenOf o)
  case atStart=>exact HST.out
  case round =>
   obtain ⟨f,out,rest,hf,hoM,hr6,hres,hown,hrest,hbw⟩:=hrel
   have HSTT:=HST
   clear HST
   have HRES:=Lib.hid hres
   have HOWN:=Lib.hid hown
   have HREST:=Lib.hid hrest
   have HBW:=Lib.hid hbw
   have HR6:=Lib.hid hr6
   obtain ⟨B,co,rfl,_,_,_,_,_⟩:=zbd hown
   obtain ⟨ol,hol⟩:∃ ol,ol=out.length:=⟨_,rfl⟩
   have HOL:=Lib.hid hol
   rw [←hol] at hf hoM ⊢
   clear hres hown hrest hbw hr6 hol
   by_cases hlt:ol < M
   ·have hlti:(ol:Int) < (M:Int):=by omega
    obtain ⟨f',rfl⟩:∃ f',f=f'+1:=⟨f - 1,by omega⟩
    have HON:=Lib.hid (zkK rest _ s wr (HT.out.below HBW.out HT.out.lt) (IsB.below HREST.out HBW.out) HR6.out)
    obtain ⟨us,q,e,hu⟩:∃ us q e,uone rest s=(us,q,e):=⟨_,_,_,rfl⟩
    have HU:=Lib.hid hu
    rw [hu] at HON
    clear hu
    go_wp2_with fail
    refine HON.out.mono ?_
    rintro e1 w3 (⟨he,rfl,hb3⟩ | ⟨he,uv3,rv3,rfl,hu3,hr3,hb3⟩)
    ·have hbad:=zir (s:=s) (M:=M) (f:=f') (out:=out) (rest:=rest) (by rw [←HOL.out];exact hlt) (by rw [HU.out];exact he)
     rw [HRES.out] at hbad
     have HBD:=Lib.hid hbad
     have HB3:=Lib.hid (za HBW.out hb3)
     clear hbad he hb3
     go_wp2
     go_ret3
     rw [HBD.out]
     exact RetIOO.nil _ HB3.out
    ·have HB3:=Lib.hid (za HBW.out hb3)
     obtain rfl:e=0:=he
     have hbd:=zp3 (b:=rest) (s:=s) (by rw [HU.out])
     rw [HU.out] at hbd
     dsimp only at hbd
     obtain ⟨b1,b2,b3⟩:=hbd
     have hstep:=zhn (s:=s) (M:=M) (f:=f') (out:=out) (rest:=rest) (by rw [←HOL.out];exact hlt) (by rw [HU.out])
     rw [HRES.out,HU.out] at hstep
     dsimp only at hstep
     have hown3:=own_below HOWN.out hb3
     rw [←HOL.out] at hown3
     obtain ⟨A5,n5,c5,rfl⟩:=hu3.shape
     obtain ⟨hn5,hA5,-,-,hl5⟩:=IsV.parts (f:=iv) (show IsV iv us _ _ from hu3)
     have HM5:=Lib.hid (show (us.map iv).length=n5 by rw [List.length_map];exact hn5)
     have hn5b:n5≤512:=by omega
     have hn51:1≤n5:=by omega
     have hbw3:=HB3.out
     have hz3:=hbw3.size
     have HSTEP:=Lib.hid hstep
     have HN5:=Lib.hid hn5
     have HQ6:Hid (q.length≤1000000):=Lib.hid (by have:=HR6.out;omega)
     have HREST3:=Lib.hid (hr3 _ HREST.out)
     clear hstep hu3 hr3 hb3 hn5 b1 b2 b3
     by_cases hgt:M < ol+n5
     ·have hgti:(M:Int) < (ol:Int)+(n5:Int):=by omega
      have hend:=zfL (s:=s) (M:=M) (f:=f') (out:=out ++ us) (rest:=q) (by rw [List.length_append,←HOL.out,HN5.out];omega) (by rw [List.length_append,←HOL.out,HN5.out];omega)
      rw [if_pos (by rw [List.length_append,←HOL.out,HN5.out];exact hgt),←HSTEP.out] at hend
      have HEND:=Lib.hid hend
      clear hend hown3 hbw3 hz3 hl5 hA5
      go_wp2
      go_ret3
      rw [HEND.out]
      exact RetIOO.nil _ HB3.out
     ·have hgti:¬(M:Int) < (ol:Int)+(n5:Int):=by omega
      go_wp2_with (at_builtin;refine zo zdk rfl _ _ rfl w.heap.size _ _ _ _ _ _ (us.map iv) w rfl rfl hA5 HM5.out hl5 (zsb (fun _=>rfl) us) hown3 hbw3 hz3 (by omega) (by omega) ?_)
      intro v6 w6 hown6 hb6 _ _
      have HREL:Hid (zqj (zO l (M:Int) s) s M w rv3 v6 w6):=Lib.hid ⟨f',out ++ us,q,by rw [List.length_append,←HOL.out,HN5.out];omega,by rw [List.length_append,←HOL.out,HN5.out];omega,HQ6.out,HSTEP.out.symm,
       by rw [List.length_append,←HOL.out,HN5.out,List.map_append];exact hown6,HREST3.out,hb6⟩
      obtain ⟨B6,c6,rfl,_,_,_,_,_⟩:=zbd hown6
      clear hown6 hb6 hown3 hbw3 hz3 hl5 hA5
      go_wp2
      go_roundw
      case rel=>exact HREL.out
      case measure=>simp [lenOf];omega
   ·have hlti:¬(ol:Int) < (M:Int):=by omega
    have hend:=zfL (s:=s) (M:=M) (f:=f) (out:=out) (rest:=rest) (by rw [←HOL.out];omega) (by rw [←HOL.out];exact hf)
    rw [HRES.out,←HOL.out,if_neg (by omega)] at hend
    have HEND:=Lib.hid hend
    have hrb:=IsB.below HREST.out HBW.out
    obtain ⟨A4,n4,c4,rfl⟩:=IsV.shape (f:=bv) hrb
    obtain ⟨hn4,hA4,-,-,hl4⟩:=IsV.parts (f:=bv) (show IsV bv rest _ _ from hrb)
    have HM4:=Lib.hid (show (rest.map bv).length=n4 by rw [List.length_map];exact hn4)
    have hn46:n4≤1000000:=by rw [←hn4];exact HR6.out
    clear hend hrb hn4
    go_wp2_with (at_builtin;refine zo elemB rfl _ _ rfl wr.heap.size _ _ _ _ _ _ (rest.map bv) wr rfl rfl hA4 HM4.out hl4 (zcb _) (World.ownsRow_nil _ _ _ _) (Below.refl _ _) (Nat.le_refl _) (by omega) (by omega) ?_)
    intro v5 w5 hown5 hb5 _ _
    have HR5:Hid (OwnB w rest v5 w5):=Lib.hid (OwnB.base HBW.out.size ⟨_,by simpa using hown5⟩)
    have HO5:Hid (OwnV iv 3 w out (.slice B ol co) w5):=Lib.hid ⟨_,by have h:=own_below HOWN.out hb5;rw [←HOL.out] at h;exact h⟩
    have HB5:=Lib.hid (za HBW.out hb5)
    clear hown5 hb5 hl4 hA4
    go_wp2
    go_ret3
    rw [HEND.out]
    exact ⟨_,_,rfl,HO5.out,HR5.out,HB5.out⟩
end Go.Proofs.YtblpkmmhmdpkjaaGreatDoor
namespace Go.Proofs.YtblpkmmhmdpkjaaGreatDoor
structure CV where
 null:Bool
 n:Int
 s:ByteArray
def CV.inInt (v:CV):Prop:=-9223372036854775808≤v.n∧v.n≤9223372036854775807
def zcp (a b:ByteArray):Bool:=Op.bytesLess a.toList b.toList
theorem zee (a b:ByteArray):zcp a b=true↔a.data.toList < b.data.toList:=by
 unfold zcp
 rw [bytesLess_eq,ByteArray.toList_eq,ByteArray.toList_eq,decide_eq_true_iff]
theorem zfp (a:ByteArray):zcp a a=false:=by
 rw [←Bool.not_eq_true,zee]
 exact List.lt_irrefl _
theorem zhr {a b c:ByteArray} (h1:zcp a b=true) (h2:zcp b c=true):zcp a c=true:=by
 rw [zee] at *
 exact List.lt_trans h1 h2
theorem zql {a b:ByteArray} (h:a.data.toList=b.data.toList):a=b:=by
 cases a;cases b
 congr 1
 exact Array.toList_inj.1 h
theorem zlY {a b:ByteArray} (h:a≠b):zcp a b=true∨zcp b a=true:=by
 rw [zee,zee]
 by_cases h1:a.data.toList < b.data.toList
 ·exact .inl h1
 ·refine .inr ?_
  have h2:b.data.toList≤a.data.toList:=List.not_lt.1 h1
  rcases List.le_iff_lt_or_eq.1 h2 with h3 | h3
  ·exact h3
  ·exact absurd (zql h3).symm h
theorem zlZ {a b:ByteArray} (h:zcp a b=true):zcp b a=false:=by
 rw [←Bool.not_eq_true]
 intro h2
 have:=zhr h h2
 rw [zfp] at this
 cases this
end Go.Proofs.YtblpkmmhmdpkjaaGreatDoor
namespace Go.Proofs.YtblpkmmhmdpkjaaGreatDoor
open Go.RowKit Go.ChangeShapes Go.WideShapes Go.Deep
theorem zl0 {H:Type} {enc:TypeId × Value→H} {P:Program} {t e:TypeId} {W:World} {v:Value} {y:DataW H × List MemPlace} {n:Nat} (ht:P.underlying t=some (.slice e)) (he:P.underlying e=some (.int .u8)) (hc:P.cellsOf e=1)
  (hf:DataW.trod enc P W 0 (fun _=>true) true n t [v]=some y) (hlt:∀ x∈y.2,x.block < W.heap.size):∃ l:List UInt8,IsB l v W:=by
 obtain ⟨d,ps⟩:=y
 rcases open_ints ht he hc hf with ⟨hcs,hx⟩ | ⟨a,len,cap,zs,hcs,_,hl,hm,hz,hx,hcell,hwz⟩
 ·simp at hcs
  subst hcs
  exact ⟨[],zdz _⟩
 ·simp at hcs
  subst hcs
  simp only [Prod.mk.injEq] at hx
  obtain ⟨rfl,rfl⟩:=hx
  simp only [if_true] at hz
  have htl:(zs.take len).length=len:=by rw [List.length_take];omega
  have hb:∀ z∈zs.take len,Value.int .u8 z=bv (UInt8.ofNat z.toNat):=by
   intro z hz'
   have:=hwz z (List.mem_of_mem_take hz')
   simp [Lit.wf,IntKind.min,IntKind.max,IntKind.signed,IntKind.bits] at this
   show _=bv (UInt8.ofNat z.toNat)
   unfold bv
   congr 1
   simp
   omega
  refine ⟨(zs.take len).map fun z=>UInt8.ofNat z.toNat,some a,cap,by rw [List.length_map,htl],by simp,by rw [List.length_map,htl];exact hl,hm,?_⟩
  rw [List.map_map,show (zs.take len).map (bv ∘ fun z=>UInt8.ofNat z.toNat)=(zs.take len).map (Value.int .u8) from List.map_congr_left fun z hz'=>(hb z hz').symm]
  by_cases h0:len=0
  ·subst h0;exact .inl (by simp)
  ·refine .inr ⟨a,rfl,?_,fun j u hu=>?_⟩
   ·have hs:a.spot=none:=by
     have:=hcell 0 (by omega)
     have h1:a.add 0=a:=by simp [Addr.add]
     rw [h1] at this
     exact World.cell?_spot this
    obtain ⟨b,off,spot⟩:=a
    exact hlt (.cell b off) (MemPlace.mem_row.2 ⟨0,by omega,by simp⟩)
   ·rw [List.getElem?_map,List.getElem?_take] at hu
    by_cases hj:j < len
    ·rw [if_pos hj] at hu
     have hjl:j < zs.length:=by omega
     rw [List.getElem?_eq_getElem hjl] at hu
     simp at hu
     subst hu
     rw [hcell j hjl]
     simp [List.getElem?_eq_getElem hjl]
    ·rw [if_neg hj] at hu;simp at hu
theorem zol {H:Type} {enc:TypeId × Value→H} {P:Program} {α:Type} [Inhabited α] {f:α→List Value} {m:Nat} {p:α→Prop} {t e:TypeId} {W:World} {v:Value} {y:DataW H × List MemPlace} {fuel:Nat}
  (ht:P.underlying t=some (.slice e)) (hc:P.cellsOf e=m) (hm:0 < m) (hf:∀ x,(f x).length=m)
  (each:∀ cs n x,cs.length=m→DataW.trod enc P W 0 (fun _=>true) true n e cs=some x→(∀ q∈x.2,q.block < W.heap.size)→∃ a:α,cs=f a∧p a)
  (hf0:DataW.trod enc P W 0 (fun _=>true) true fuel t [v]=some y) (hlt:∀ x∈y.2,x.block < W.heap.size) :
  ∃ l:List α,IsR f l v W∧∀ x∈l,p x:=by
 obtain ⟨d,ps⟩:=y
 rcases open_slice ht hf0 with ⟨hcs,hx⟩ | ⟨a,len,cap,k,n,D,Pl,hcs,_,hl,hmx,hk,hx,hcell⟩
 ·simp at hcs
  subst hcs
  exact ⟨[],⟨none,0,rfl,by simp,by simp,by unfold maxLen;omega,Lies.nil⟩,by simp⟩
 ·simp at hcs
  subst hcs
  simp only [Prod.mk.injEq] at hx
  obtain ⟨rfl,rfl⟩:=hx
  simp only [if_true] at hk
  obtain ⟨F,hF⟩:=choose_lt (n:=len) (p:=fun i (a':α)=>p a'∧∀ j u,(f a')[j]? = some u→W.cell? (a.add (i*m+j))=some u) fun i hi=>by
   obtain ⟨cs',h1,h2⟩:=hcell i (by omega)
   rw [hc] at h1
   obtain ⟨_,hlen,hce⟩:=World.cells?_some h1
   obtain ⟨a',rfl,ha⟩:=each cs' n _ hlen h2 fun q hq=>hlt q (List.mem_append_right _ (List.mem_flatMap.2 ⟨i,List.mem_range.2 (by omega),hq⟩))
   refine ⟨a',ha,fun j u hu=>?_⟩
   have hj:j < m:=by rw [←hf a'];exact (List.getElem?_eq_some_iff.1 hu).1
   have h3:=hce j hj
   rw [add_add,hu] at h3
   exact h3
  have hll:((List.range len).map F).length=len:=by simp
  refine ⟨(List.range len).map F,⟨some a,cap,by rw [hll],by simp,by rw [hll];exact hl,hmx,?_⟩,fun x hx=>?_⟩
  ·by_cases h0:len=0
   ·subst h0;exact .inl (by simp)
   ·refine .inr ⟨a,rfl,?_,fun j u hu=>?_⟩
    ·have h1:=(hF 0 (by omega)).2 0 _ (List.getElem?_eq_getElem (by rw [hf];exact hm))
     have hs:a.spot=none:=by
      have h2:a.add (0*m+0)=a:=by simp [Addr.add]
      rw [h2] at h1
      exact World.cell?_spot h1
     obtain ⟨b,off,spot⟩:=a
     exact hlt (.cell b off) (List.mem_append_left _ (MemPlace.mem_row.2 ⟨0,by rw [hc];exact Nat.mul_pos (by omega) hm,by simp⟩))
    ·have hjl:j < len*m:=by
      have h1:=(List.getElem?_eq_some_iff.1 hu).1
      rwa [zeo hf,hll] at h1
     have hk2:j / m < len:=Nat.div_lt_of_lt_mul (by rwa [Nat.mul_comm])
     have e1:j / m*m+j % m=j:=by rw [Nat.mul_comm];exact Nat.div_add_mod j m
     have h1:=ziP hf ((List.range len).map F) (j / m) (by rw [hll];exact hk2) (j % m) (Nat.mod_lt _ hm)
     rw [e1,List.getElem_map,List.getElem_range] at h1
     have h2:=(hF (j / m) hk2).2 (j % m) u (by rw [←h1];exact hu)
     rwa [e1] at h2
  ·obtain ⟨i,hi,rfl⟩:=List.mem_map.1 hx
   exact (hF i (by simpa using hi)).1
end Go.Proofs.YtblpkmmhmdpkjaaGreatDoor
namespace Go.Proofs.YtblpkmmhmdpkjaaGreatDoor
def Alike (a b:List Int × List UInt8 × Int):Prop:=a.2.2=0→b.2.2=0→a.1.length=b.1.length∧a.2.1=b.2.1
theorem Alike.bad (b:List Int × List UInt8 × Int):Alike gbad b:=fun h=>by cases h
theorem zrR {α β:Type} (f:α→β) {l:List α} {j:Nat} (h:j < l.length):(l.take (j+1)).map f=(l.take j).map f ++ [f l[j]]:=by
 rw [List.take_succ_eq_append_getElem h,List.map_append]
 rfl
def Pos (p:List Int × List UInt8 × Int):Prop:=p.2.2=0→∀ x∈p.1,0≤x
theorem Pos.bad:Pos gbad:=fun h=>by cases h
theorem zkL {u:Nat} {x:Int} (h:zbe u false=some x):0≤x:=by
 unfold zbe at h
 rw [if_neg (by simp)] at h
 split at h
 ·injection h with h;omega
 ·cases h
theorem zqm (b:List UInt8):Pos (zbg b false):=by
 unfold zbg
 split
 ·exact Pos.bad
 ·generalize zh (zp b).2.2.2.1 (zp b).2.2.1 (wof (zp b).2.1)=p
  obtain ⟨u,r,e⟩:=p
  dsimp only
  split
  ·exact Pos.bad
  ·cases h1:zey u false with
   | none=>exact Pos.bad
   | some m =>
    intro _ x hx
    obtain ⟨y,_,hy⟩:=ze1 h1 hx
    exact zkL hy
theorem zkM {f:Bool} {a:Int} {u:Nat} {y:Int} (h:zbj false f a u=some y):0≤y:=by
 unfold zbj at h
 split at h
 ·rename_i h2
  injection h with h
  rw [←h]
  exact h2.2.elim (fun h=>nomatch h) id
 ·cases h
theorem zkN {f:Bool}:∀ {us:List Nat} {x:Int} {ys:List Int},zbm false f x us=some ys→∀ y∈ys,0≤y
 | [],_,_,h=>by
  injection h with h
  subst h
  intro y hy
  cases hy
 | u::us,x,ys,h=>by
  rw [zbm] at h
  cases hg:zbj false f x u with
  | none=>rw [hg] at h;cases h
  | some z =>
   rw [hg] at h
   obtain ⟨zs,hz,rfl⟩:=Option.map_eq_some_iff.1 h
   intro y hy
   rcases List.mem_cons.1 hy with rfl | hy
   ·exact zkM hg
   ·exact zkN hz y hy
theorem zmY {f:Bool} {x:Int} {us:List Nat} {q:List UInt8} (hx:0≤x):Pos (gend false f x us q):=by
 unfold gend
 cases h:zbm false f x us with
 | none=>exact Pos.bad
 | some ys =>
  intro _ y hy
  rcases List.mem_cons.1 hy with rfl | hy
  ·exact hx
  ·exact zkN h y hy
theorem zqn {l r:List UInt8} {x:Int} (h:zbx l false=some (x,r)):0≤x:=by
 unfold zbx at h
 cases hv:zbs l with
 | none=>rw [hv] at h;cases h
 | some p =>
  rw [hv] at h
  dsimp only at h
  split at h
  ·cases h
  ·injection h with h
   injection h with h _
   omega
theorem zqo (b:List UInt8):Pos (zR b false):=by
 unfold zR
 split
 ·exact Pos.bad
 ·unfold zhG
  cases h1:zbx (zp b).2.2.2.1 false with
  | none=>exact Pos.bad
  | some p =>
   obtain ⟨x,r1⟩:=p
   have hx:=zqn h1
   dsimp only
   cases zbx r1 true with
   | none=>exact Pos.bad
   | some d =>
    obtain ⟨d,r2⟩:=d
    dsimp only
    split
    ·unfold zez
     split
     ·generalize zh r2 ((zp b).2.2.1 - 2) (wof (zp b).2.1)=p
      obtain ⟨us,q,e⟩:=p
      dsimp only
      split
      ·exact Pos.bad
      ·exact zmY hx
     ·exact zmY hx
    ·exact Pos.bad
theorem zqp (b:List UInt8):Pos (zy b false):=by
 unfold zy
 split
 ·exact Pos.bad
 ·unfold zhH
  split
  ·exact Pos.bad
  ·split
   ·exact Pos.bad
   ·unfold zfH
    generalize zh _ (zp b).2.2.1 (wof (zp b).2.1)=p
    obtain ⟨low,r3,e⟩:=p
    dsimp only
    split
    ·exact Pos.bad
    ·generalize zh r3 _ _=p2
     obtain ⟨both,r4,e⟩:=p2
     dsimp only
     split
     ·exact Pos.bad
     ·unfold pend
      split
      ·exact Pos.bad
      ·cases h1:omap (zbj false false _) _ with
       | none=>exact Pos.bad
       | some xs =>
        intro _ x hx
        obtain ⟨y,_,hy⟩:=ze1 h1 hx
        exact zkM hy
theorem zqq {b:List UInt8} (h:(zC b false).2.2.2=0):0≤(zC b false).1:=by
 cases b with
 | nil=>cases h
 | cons x r =>
  unfold zC at h ⊢
  dsimp only at h ⊢
  split
  ·exact Int.le_refl _
  ·split
   ·exact Int.le_refl _
   ·split
    ·exact Int.le_refl _
    ·cases h1:zbe (bval (r.take (x.toNat / 8+1))) false with
     | none=>exact Int.le_refl _
     | some y=>exact zkL h1
theorem zrS (b:List UInt8):Pos (uone b false):=by
 unfold uone
 cases b with
 | nil=>exact Pos.bad
 | cons x r =>
  dsimp only
  split
  ·exact zqm _
  ·split
   ·exact zqp _
   ·split
    ·exact zqo _
    ·intro h y hy
     rw [(List.mem_replicate.1 hy).2]
     exact zqq h
theorem zit {M:Nat}:∀ (k:Nat) (out:List Int) (rest:List UInt8),(∀ x∈out,0≤x)→Pos (zbW false M k out rest)
 | 0,_,_,_=>Pos.bad
 | k+1,out,rest,h=>by
  rw [zbW]
  split
  ·split
   ·exact Pos.bad
   ·exact fun _=>h
  ·split
   ·exact Pos.bad
   ·rename_i h2
    refine zit k _ _ fun x hx=>?_
    rcases List.mem_append.1 hx with hx | hx
    ·exact h x hx
    ·exact zrS rest (Decidable.not_not.1 h2) x hx
theorem zhs {s:Bool} {M:Nat}:∀ (k:Nat) (out:List Int) (rest:List UInt8),(zbW s M k out rest).2.2=0→(zbW s M k out rest).1.length=M
 | 0,_,_,h=>by cases h
 | k+1,out,rest,h=>by
  rw [zbW] at h ⊢
  split at h
  ·rename_i h1
   rw [if_pos h1]
   split at h
   ·cases h
   ·rename_i h2
    rw [if_neg h2]
    dsimp only
    omega
  ·rename_i h1
   rw [if_neg h1]
   split at h
   ·cases h
   ·rename_i h2
    rw [if_neg h2]
    exact zhs k _ _ h
theorem zcy {b r:List UInt8} {M:Nat} {s:Bool} {l:List Int} (h:zO b (M:Int) s=(l,r,0)):l.length=M∧(s=false→∀ x∈l,0≤x):=by
 unfold zO at h
 split at h
 ·cases h
 ·rw [Int.toNat_natCast] at h
  have h1:=zhs (s:=s) (M:=M) (M+1) [] b (by rw [h])
  rw [h] at h1
  refine ⟨h1,fun hs=>?_⟩
  subst hs
  have h2:=zit (M:=M) (M+1) [] b (by simp) (by rw [h])
  rw [h] at h2
  exact h2
def jins (s:ByteArray):List ByteArray→List ByteArray
 | []=>[s]
 | x::l=>if zcp s x=true then s::x::l else x::jins s l
def jin (ws:List ByteArray) (s:ByteArray):Bool:=ws.any fun x=>decide (x=s)
theorem jin_iff {ws:List ByteArray} {s:ByteArray}:jin ws s=true↔s∈ws:=by
 unfold jin
 rw [List.any_eq_true]
 constructor
 ·rintro ⟨x,h1,h2⟩
  rw [←of_decide_eq_true h2]
  exact h1
 ·exact fun h=>⟨s,h,decide_eq_true rfl⟩
def jadd (ws:List ByteArray) (s:ByteArray):List ByteArray:=if jin ws s=true then ws else jins s ws
def zbw (l:List ByteArray):List ByteArray:=l.foldl jadd []
def zeQ (l:List ByteArray):Prop:=l.Pairwise fun a b=>zcp a b=true
theorem jins_mem {s x:ByteArray} {l:List ByteArray}:x∈jins s l↔x=s∨x∈l:=by
 induction l with
 | nil=>simp [jins]
 | cons y l ih =>
  rw [jins]
  split
  ·simp
  ·rw [List.mem_cons,ih,List.mem_cons]
   constructor
   ·rintro (h | h | h)
    ·exact .inr (.inl h)
    ·exact .inl h
    ·exact .inr (.inr h)
   ·rintro (h | h | h)
    ·exact .inr (.inl h)
    ·exact .inl h
    ·exact .inr (.inr h)
theorem zom {s:ByteArray} {l:List ByteArray} (h:zeQ l) (hs:s∉l):zeQ (jins s l):=by
 induction l with
 | nil=>exact List.pairwise_singleton _ _
 | cons y l ih =>
  obtain ⟨h1,h2⟩:=List.pairwise_cons.1 h
  rw [jins]
  split
  ·rename_i h3
   refine List.pairwise_cons.2 ⟨fun z hz=>?_,h⟩
   rcases List.mem_cons.1 hz with rfl | hz
   ·exact h3
   ·exact zhr h3 (h1 z hz)
  ·rename_i h3
   refine List.pairwise_cons.2 ⟨fun z hz=>?_,ih h2 fun hm=>hs (List.mem_cons_of_mem _ hm)⟩
   rcases jins_mem.1 hz with rfl | hz
   ·exact (zlY fun e=>hs (by rw [e];exact List.mem_cons_self)).resolve_left h3
   ·exact h1 z hz
theorem zrT (s:ByteArray) (l:List ByteArray):(jins s l).length=l.length+1:=by
 induction l with
 | nil=>rfl
 | cons y l ih =>
  rw [jins]
  split
  ·rfl
  ·rw [List.length_cons,ih];rfl
theorem zrU {x s:ByteArray} {ws:List ByteArray}:x∈jadd ws s↔x=s∨x∈ws:=by
 unfold jadd
 split
 ·rename_i h
  exact ⟨.inr,fun h2=>h2.elim (fun e=>e ▸ jin_iff.1 h) id⟩
 ·exact jins_mem
theorem zon {s:ByteArray} {ws:List ByteArray} (h:zeQ ws):zeQ (jadd ws s):=by
 unfold jadd
 split
 ·exact h
 ·rename_i h2;exact zom h fun h3=>h2 (jin_iff.2 h3)
theorem zrV (s:ByteArray) (ws:List ByteArray):(jadd ws s).length≤ws.length+1:=by
 unfold jadd
 split
 ·omega
 ·rw [zrT];exact Nat.le_refl _
theorem zdS:∀ (l ws:List ByteArray),(zeQ ws→zeQ (l.foldl jadd ws))∧(∀ x,x∈l.foldl jadd ws↔x∈ws∨x∈l)∧(l.foldl jadd ws).length≤ws.length+l.length
 | [],ws=>⟨id,fun x=>by simp,by simp⟩
 | s::l,ws=>by
  obtain ⟨h1,h2,h3⟩:=zdS l (jadd ws s)
  refine ⟨fun h=>h1 (zon h),fun x=>?_,?_⟩
  ·rw [List.foldl_cons,h2,zrU,List.mem_cons]
   constructor
   ·rintro ((h | h) | h)
    ·exact .inr (.inl h)
    ·exact .inl h
    ·exact .inr (.inr h)
   ·rintro (h | h | h)
    ·exact .inl (.inr h)
    ·exact .inl (.inl h)
    ·exact .inr h
  ·have:=zrV s ws
   rw [List.foldl_cons,List.length_cons]
   omega
theorem zf4 (l:List ByteArray):zeQ (zbw l):=(zdS l []).1 List.Pairwise.nil
theorem jwords_mem {x:ByteArray} {l:List ByteArray}:x∈zbw l↔x∈l:=by
 rw [zbw,(zdS l []).2.1]
 simp
theorem zoo (l:List ByteArray):(zbw l).length≤l.length:=by
 have:=(zdS l []).2.2
 simpa [zbw] using this
theorem zmZ:∀ {a b:List ByteArray},zeQ a→zeQ b→(∀ x,x∈a↔x∈b)→a=b
 | [],[],_,_,_=>rfl
 | [],y::b,_,_,h=>by have:=(h y).2 List.mem_cons_self;cases this
 | x::a,[],_,_,h=>by have:=(h x).1 List.mem_cons_self;cases this
 | x::a,y::b,ha,hb,h=>by
  obtain ⟨a1,a2⟩:=List.pairwise_cons.1 ha
  obtain ⟨b1,b2⟩:=List.pairwise_cons.1 hb
  have e:x=y:=by
   rcases List.mem_cons.1 ((h x).1 List.mem_cons_self) with e | hx
   ·exact e
   ·rcases List.mem_cons.1 ((h y).2 List.mem_cons_self) with e | hy
    ·exact e.symm
    ·have h1:=b1 x hx
     have h2:=a1 y hy
     rw [zlZ h1] at h2
     cases h2
  subst e
  rw [zmZ a2 b2 fun z=>?_]
  constructor
  ·intro hz
   rcases List.mem_cons.1 ((h z).1 (List.mem_cons_of_mem _ hz)) with e | hz2
   ·subst e
    have:=a1 z hz
    rw [zfp] at this
    cases this
   ·exact hz2
  ·intro hz
   rcases List.mem_cons.1 ((h z).2 (List.mem_cons_of_mem _ hz)) with e | hz2
   ·subst e
    have:=b1 z hz
    rw [zfp] at this
    cases this
   ·exact hz2
def zc8:List ByteArray→ByteArray→Nat
 | [],_=>0
 | x::l,s=>if x=s then 0 else zc8 l s+1
theorem zht:∀ {l:List ByteArray} {s:ByteArray},s∈l→∃ h:zc8 l s < l.length,l[zc8 l s]=s
 | x::l,s,h=>by
  by_cases e:x=s
  ·have e1:zc8 (x::l) s=0:=by rw [zc8,if_pos e]
   rw [show (zc8 (x::l) s)=0 from e1]
   exact ⟨by simp,by simpa using e⟩
  ·have e1:zc8 (x::l) s=zc8 l s+1:=by rw [zc8,if_neg e]
   obtain ⟨h1,h2⟩:=zht ((List.mem_cons.1 h).resolve_left fun h=>e h.symm)
   rw [e1]
   exact ⟨by simpa using h1,by simpa using h2⟩
def zbq (l:List ByteArray):List UInt8:=l.flatMap fun s=>s.toList
def zdT (l:List ByteArray):List Int:=l.map fun s=>(s.size:Int)
structure JC where
 many:Int
 enc:Int
 texts:Int
 streams:List (Int × List UInt8)
def zrW:JC:=⟨0,0,0,[]⟩
def zcC (ws l:List ByteArray):List Int:=l.map fun s=>(zc8 ws s:Int)
def zl1 (l:List ByteArray):JC × Int:=
 if 4096 < l.length∨(l.any fun s=>decide (300 < s.size))=true then (zrW,3)
 else if l.length < 2*(zbw l).length then (⟨(l.length:Int),1,0,[(2,zbq l),(3,(zbY (zdT l) false).1)]⟩,0)
 else (⟨(l.length:Int),2,((zbw l).length:Int),[(2,(zbY (zcC (zbw l) l) false).1),(3,(zbY (zdT (zbw l)) false).1),(4,zbq (zbw l))]⟩,0)
def zM:List UInt8→List Int→Option (List ByteArray)
 | [],[]=>some []
 | _::_,[]=>none
 | b,n::ns=>if 300 < n∨(b.length:Int) < n then none else (zM (b.drop n.toNat) ns).map (⟨(b.take n.toNat).toArray⟩ :: ·)
def jcut (b lengths:List UInt8) (many:Int):Option (List ByteArray):=
 if (zO lengths many false).2.2≠0∨0 < (zO lengths many false).2.1.length then none else zM b (zO lengths many false).1
def zch (ws:List ByteArray):List Int→Option (List ByteArray)
 | []=>some []
 | p::ps=>match ws[p.toNat]? with | none=>none | some s=>(zch ws ps).map (s :: ·)
def zhJ (places:List Int) (o:Option (List ByteArray)):List ByteArray × Int:=match o with
 | none=>([],2)
 | some ws=>if (List.range' 1 (ws.length - 1)).all (fun i=>zcp (ws.getD (i - 1) ⟨#[]⟩) (ws.getD i ⟨#[]⟩))=true then (match zch ws places with | none=>([],2) | some l=>(l,0)) else ([],2)
def zbP (c:JC):List ByteArray × Int:=
 if c.many < 0∨4096 < c.many then ([],1)
 else if c.enc=1∧c.streams.map (·.1)=[2,3] then (match jcut (c.streams.getD 0 (0,[])).2 (c.streams.getD 1 (0,[])).2 c.many with | none=>([],2) | some l=>(l,0))
 else if c.enc≠2∨c.streams.map (·.1)≠[2,3,4]∨c.texts < 0∨4096 < c.texts then ([],2)
 else if (zO (c.streams.getD 0 (0,[])).2 c.many false).2.2≠0∨0 < (zO (c.streams.getD 0 (0,[])).2 c.many false).2.1.length then ([],2)
 else zhJ (zO (c.streams.getD 0 (0,[])).2 c.many false).1 (jcut (c.streams.getD 2 (0,[])).2 (c.streams.getD 1 (0,[])).2 c.texts)
theorem zl2 (s:ByteArray):s.toList.length=s.size:=by rw [ByteArray.toList_eq];rfl
end Go.Proofs.YtblpkmmhmdpkjaaGreatDoor
namespace Go.Proofs.YtblpkmmhmdpkjaaGreatDoor
open Go.RowKit
theorem Tryz.infoS:(Tryz.prog.info? 9).map (fun i=>(i.zero,i.size,i.bytes))=some (some (.string ⟨#[]⟩),1,16):=by kernel_rfl
theorem zqr:Elem Tryz.prog 22 9 16 (.string ⟨#[]⟩):=by
 obtain ⟨i0,hi,hz0,hz1,hz2⟩:=info_parts Tryz.infoS
 exact ⟨Tryz.underlying22,rfl,i0,hi,hz0,hz1,hz2⟩
def zrX (n:Nat) (w:World) (i:Value) (wr:World):Prop:=∃ k:Nat,k≤n∧i=.int .i64 (k:Int)∧Below w.heap.size w wr
theorem zqs (l:List ByteArray) (u v:Value) (w:World) (hu:IsV Value.string l u w) (hv:IsV Value.string l v w) (hb:l.length≤1000000) :
  Calls Tryz.prog 13 #[u,v] w fun e w'=>e=.returned (.bool true)∧Below w.heap.size w w':=by
 obtain ⟨A,n,c,rfl⟩:=hu.shape
 obtain ⟨B,m,d,rfl⟩:=hv.shape
 have hnm:n=m:=by rw [←hu.parts.1,hv.parts.1]
 subst hnm
 have HN:=Lib.hid hu.parts.1
 have HU:=Lib.hid hu
 have HV:=Lib.hid hv
 have hn6:n≤1000000:=by have:=HN.out;omega
 have d0:((n:Int) != (n:Int))=false:=by simp
 clear hu hv hb
 go_enter Tryz.func13,Tryz.ntmps13
 go_wp2
 go_loopw [5] (zrX n w) (fun i _=>n - (intOf i).toNat)
 case atStart=>exact ⟨0,Nat.zero_le _,rfl,Below.refl _ _⟩
 case round =>
  obtain ⟨k,hkn,rfl,hbw⟩:=hrel
  by_cases hlt:k < n
  ·have hkl:k < l.length:=by have:=HN.out;omega
   have hlti:(k:Int) < (n:Int):=by omega
   obtain ⟨ad,rfl,had,hcell⟩:=(HU.out.below hbw).at hkl
   obtain ⟨bd,rfl,hbd,hcell2⟩:=(HV.out.below hbw).at hkl
   obtain ⟨x,hx⟩:∃ x,x=l[k]:=⟨_,rfl⟩
   rw [←hx] at hcell hcell2
   have d1:(!(x.toList == x.toList))=false:=by simp
   clear hx had hbd
   go_wp2
   go_quiet (fail)
   go_wp2
   go_roundw
   case rel=>exact ⟨k+1,by omega,by go_num,below_drewN hbw _⟩
   case measure=>simp [intOf];omega
  ·obtain rfl:k=n:=by omega
   have hlti:¬(k:Int) < (k:Int):=by omega
   go_wp2
   go_ret
   exact ⟨rfl,hbw⟩
def ztF (w:World) (l:List ByteArray) (e:Ending) (w':World):Prop:=∃ v,e=.returned v∧OwnV Value.string 9 w l v w'∧Below w.heap.size w w'
theorem ziu:∀ {l:List ByteArray},(∀ s∈l,s.size≤300)→(zbq l).length≤300*l.length
 | [],_=>Nat.zero_le _
 | s::l,h=>by
  have h1:=h s List.mem_cons_self
  have h2:=ziu fun t ht=>h t (List.mem_cons_of_mem _ ht)
  have e:zbq (s::l)=s.toList ++ zbq l:=List.flatMap_cons
  rw [e,List.length_append,zl2,List.length_cons]
  omega
def RetTE (w:World) (p:List ByteArray × Int) (e:Ending) (w':World):Prop:=∃ v,e=.returned (.tuple #[v,.int .i64 p.2])∧OwnV Value.string 9 w p.1 v w'∧Below w.heap.size w w'
theorem RetTE.nil {w w':World} (n:Int) (hb:Below w.heap.size w w'):RetTE w ([],n) (.returned (.tuple #[.slice none 0 0,.int .i64 n])) w':=⟨_,rfl,OwnV.nil _ _ _ _,hb⟩
def zbE (b lengths:List UInt8) (many:Int):List ByteArray × Int:=match jcut b lengths many with | none=>([],2) | some l=>(l,0)
theorem zdU {b lengths:List UInt8} {many:Int} (h:jcut b lengths many=none):zbE b lengths many=([],2):=by unfold zbE;rw [h]
theorem zkO {b lengths:List UInt8} {many:Int} {l:List ByteArray} (h:jcut b lengths many=some l):zbE b lengths many=(l,0):=by unfold zbE;rw [h]
theorem zcY {b:List UInt8} {n:Int} {ns:List Int} (h:300 < n∨(b.length:Int) < n):zM b (n::ns)=none:=by
 rw [zM,if_pos h]
theorem zf5 {b:List UInt8} {N:Nat} {ns:List Int} (h3:N≤300) (h:N≤b.length):zM b ((N:Int)::ns)=(zM (b.drop N) ns).map ((⟨(b.take N).toArray⟩:ByteArray) :: ·):=by
 rw [zM,if_neg (by omega),Int.toNat_natCast]
theorem zeR (b:List UInt8):zM b []=if 0 < b.length then none else some []:=by
 cases b with
 | nil=>rfl
 | cons x b=>rw [if_pos (by simp)];rfl
def zqt (b0:List UInt8) (ns:List Int) (nv_:Value) (w:World) (bv_ ov i:Value) (wr:World):Prop:=
 ∃ (k:Nat) (rest:List UInt8) (acc:List ByteArray),k≤ns.length∧i=.int .i64 (k:Int)∧IsB rest bv_ w∧rest.length≤1000000∧zM b0 ns=(zM rest (ns.drop k)).map (acc ++ ·) ∧
  wr.ownsRow w.heap.size 9 1 ov k (acc.map Value.string)∧OwnV iv 3 w ns nv_ wr∧acc.length=k∧Below w.heap.size w wr
theorem ziv (b lengths:List UInt8) (M:Nat) (u v:Value) (w:World) (hu:IsB b u w) (hv:IsB lengths v w) (hb:b.length≤1000000) (hb2:lengths.length≤1000000) (hM:M≤4096) :
  Calls Tryz.prog 30 #[u,v,.int .i64 (M:Int)] w (RetTE w (zbE b lengths M)):=by
 have HQ:=Lib.hid (zho lengths v (M:Int) false w hv hb2)
 have HU:=Lib.hid hu
 obtain ⟨A,n,c,rfl⟩:=IsV.shape (f:=bv) hu
 have hci:(c:Int)≤9223372036854775807:=by have:=(IsV.parts (f:=bv) hu).2.2.2.1;unfold maxLen at this;omega
 obtain ⟨A2,n2,c2,rfl⟩:=IsV.shape (f:=bv) hv
 obtain ⟨ns,r,x,hq⟩:∃ ns r x,zO lengths (M:Int) false=(ns,r,x):=⟨_,_,_,rfl⟩
 have hE:jcut b lengths (M:Int)=if x≠0∨0 < r.length then none else zM b ns:=by unfold jcut;rw [hq]
 have HEE:=Lib.hid hE
 rw [hq] at HQ
 have HQQ:=Lib.hid hq
 have HBL:=Lib.hid hb
 clear hu hv hb hb2 hE hq
 go_enter Tryz.func30,Tryz.ntmps30
 go_wp2_with fail
 refine HQ.out.mono ?_
 rintro e w1 ⟨nsv,rv,rfl,hns,hr,hb1⟩
 obtain ⟨Br,rn,rc,rfl⟩:=IsV.shape (f:=bv) hr.isB
 have hrn:r.length=rn:=(IsV.parts (f:=bv) (show IsV bv r _ _ from hr.isB)).1
 have HB1:=Lib.hid hb1
 have HNS:=Lib.hid hns
 have hE:=HEE.out
 clear hr hb1 hns
 by_cases hx:x=0
 case neg =>
  rw [if_pos (.inl hx)] at hE
  have HE:=Lib.hid (zdU hE)
  have d4:(x != 0)=true:=by simpa using hx
  clear hE hx hrn
  go_wp2
  go_ret2
  rw [HE.out]
  exact RetTE.nil _ HB1.out
 subst hx
 by_cases hr0:0 < rn
 case pos =>
  rw [if_pos (.inr (by rw [hrn];exact hr0))] at hE
  have HE:=Lib.hid (zdU hE)
  have d5:decide ((0:Int) < (rn:Int))=true:=decide_eq_true (by omega)
  clear hE hrn
  go_wp2
  go_ret2
  rw [HE.out]
  exact RetTE.nil _ HB1.out
 obtain rfl:rn=0:=by omega
 rw [if_neg (by rw [hrn];simp)] at hE
 have HE:=Lib.hid hE
 have HNL:=Lib.hid (zcy HQQ.out).1
 have HNP:=Lib.hid ((zcy HQQ.out).2 rfl)
 obtain ⟨Bn,nn,nc,rfl⟩:=HNS.out.isV.shape
 have HNN:=Lib.hid (show nn=M by rw [←HNS.out.isV.parts.1];exact HNL.out)
 have hst:zqt b ns (.slice Bn nn nc) w (.slice A n c) (.slice (some ⟨w1.heap.size,0,none⟩) 0 0) (.int .i64 0) (w1.alloc (.cells #[] 9)):=
  ⟨0,b,[],Nat.zero_le _,rfl,HU.out,HBL.out,by cases h:zM b ns <;> simp [h],zjY HB1.out.size (zgZ w1 9 1),HNS.out.below ((Below.refl _ _).alloc (Nat.le_refl _) _),rfl,HB1.out.alloc HB1.out.size _⟩
 have HST:=Lib.hid hst
 clear hE hrn hr0 hst
 go_wp2
 go_loopw [0,11,12] (zqt b ns (.slice Bn nn nc) w) (fun _ _ i _=>M - (intOf i).toNat)
 case atStart=>exact HST.out
 case round =>
  obtain ⟨k,rest,acc,hk,rfl,hrb,hrl,hp,hown,hon,hal,hbw⟩:=hrel
  clear HST
  have hkm:k≤M:=by have:=HNL.out;omega
  have hz:=hbw.size
  have HP:=Lib.hid hp
  have HRB:=Lib.hid hrb
  have HON:=Lib.hid hon
  obtain ⟨R,rl,rc2,rfl⟩:=IsV.shape (f:=bv) hrb
  obtain ⟨hrl2,hR,hrc,hrm,-⟩:=IsV.parts (f:=bv) (show IsV bv rest _ _ from hrb)
  have hrci:(rc2:Int)≤9223372036854775807:=by unfold maxLen at hrm;omega
  have HRL:=Lib.hid hrl2
  clear hp hon hk hrb
  by_cases hlt:k < M
  ·have hkl:k < ns.length:=by rw [HNL.out];exact hlt
   have hlti:(k:Int) < (M:Int):=by omega
   have hkn:(k:Int) < (nn:Int):=by have:=HNN.out;omega
   obtain ⟨ad,hAd,_,hcell⟩:=HON.out.isV.at hkl
   subst hAd
   obtain ⟨N,hN⟩:=Int.eq_ofNat_of_zero_le (HNP.out _ (List.getElem_mem hkl))
   have hcn:wr.cell? (ad.add k)=some (.int .i64 (N:Int)):=by rw [hcell,hN];rfl
   have HD:=Lib.hid (show ns.drop k=(N:Int)::ns.drop (k+1) by rw [List.drop_eq_getElem_cons hkl,hN])
   clear hcell hN
   by_cases h3:300 < N
   ·have hE2:=Lib.hid (zdU (b:=b) (lengths:=lengths) (many:=(M:Int)) (by rw [HE.out,HP.out,HD.out,zcY (.inl (by omega))];rfl))
    have d1:decide ((300:Int) < (N:Int))=true:=decide_eq_true (by omega)
    clear hown
    go_wp2
    go_ret2
    rw [hE2.out]
    exact RetTE.nil _ hbw
   ·have d1:decide ((300:Int) < (N:Int))=false:=decide_eq_false (by omega)
    by_cases h4:rl < N
    ·have hE2:=Lib.hid (zdU (b:=b) (lengths:=lengths) (many:=(M:Int)) (by rw [HE.out,HP.out,HD.out,zcY (.inr (by have:=HRL.out;omega))];rfl))
     have d2:decide (rl < N)=true:=decide_eq_true h4
     have d3:decide ((rl:Int) < (N:Int))=true:=decide_eq_true (by omega)
     clear hown
     go_wp2
     go_ret2
     rw [hE2.out]
     exact RetTE.nil _ hbw
    ·have d2:decide (rl < N)=false:=decide_eq_false h4
     have d3:decide ((rl:Int) < (N:Int))=false:=decide_eq_false (by omega)
     have hNc:(N:Int)≤(rc2:Int):=by omega
     have hNr:(N:Int)≤(rl:Int):=by omega
     have HTX:=Lib.hid (fun (X:World) (h:Below w.heap.size w X)=>ziG (l:=rest.take N) (v:=.slice R N rc2) (IsV.below (f:=bv) (IsV.take (f:=bv) HRB.out (by omega)) h))
     have htx:=HTX.out wr hbw
     obtain ⟨v3,hv3,hI3⟩:=zbr (P:=Tryz.prog) (w:=w) elemB (k:=N) (by omega) hrc hrm HRL.out (IsV.parts (f:=bv) (show IsV bv rest _ _ from HRB.out)).2.2.2.2 hR
     obtain ⟨t,ht⟩:∃ t:ByteArray,t=⟨(rest.take N).toArray⟩:=⟨_,rfl⟩
     rw [←ht] at htx
     have HP2:=Lib.hid (show zM b ns=(zM (rest.drop N) (ns.drop (k+1))).map ((acc ++ [t]) ++ ·) by
      rw [HP.out,HD.out,zf5 (by omega) (by have:=HRL.out;omega),Option.map_map,ht]
      congr 1
      funext y
      simp)
     have HI3:=Lib.hid hI3
     have HDL:=Lib.hid (show (rest.drop N).length≤1000000 by rw [List.length_drop];omega)
     clear hI3 HTX ht h3 h4
     go_wp2_with (first | (refine zI rfl _ _ _ rfl _ (hv3 _) ?_) | (at_builtin;refine zX zqr rfl _ _ rfl w.heap.size _ _ _ (.string t) wr w rfl rfl rfl rfl hown hbw hz (by omega) (by omega) ?_))
     intro v5 w5 ho5 hb5 hg5 _
     have hcn5:w5.cell? (ad.add k)=some (.int .i64 (N:Int)):=by
      have HO5:=OwnV.other HON.out hown (by decide) hg5
      obtain ⟨ad2,h1,_,h2⟩:=HO5.isV.at hkl
      obtain ⟨ad3,h3,_,h4⟩:=HON.out.isV.at hkl
      injection h1 with h1
      subst h1
      injection h3 with h3
      subst h3
      rw [h2,←h4,hcn]
     have HREL:=Lib.hid (show zqt b ns _ w v3 v5 (.int .i64 ((k+1:Nat):Int)) w5 from ⟨k+1,_,acc ++ [t],hkl,rfl,HI3.out,HDL.out,HP2.out,by rw [List.map_append];exact ho5,OwnV.other HON.out hown (by decide) hg5,by rw [List.length_append,hal];rfl,hb5⟩)
     clear ho5 hg5 hown hb5 hbw htx
     go_wp2_with (refine zI rfl _ _ _ rfl _ (hv3 _) ?_)
     go_roundw
     case rel=>exact HREL.out
     case measure=>simp [intOf];omega
  ·obtain rfl:k=M:=by omega
   have hlti:¬(k:Int) < (k:Int):=by omega
   have hend:=HP.out
   rw [List.drop_of_length_le (by rw [HNL.out];exact Nat.le_refl _),zeR,HRL.out] at hend
   by_cases h0:0 < rl
   ·rw [if_pos h0] at hend
    have hE2:=Lib.hid (zdU (b:=b) (lengths:=lengths) (many:=(k:Int)) (by rw [HE.out,hend];rfl))
    have d5:decide ((0:Int) < (rl:Int))=true:=decide_eq_true (by omega)
    clear hend hown
    go_wp2
    go_ret2
    rw [hE2.out]
    exact RetTE.nil _ hbw
   ·rw [if_neg h0] at hend
    obtain rfl:rl=0:=by omega
    have hE2:=Lib.hid (zkO (b:=b) (lengths:=lengths) (many:=(k:Int)) (l:=acc) (by rw [HE.out,hend];simp))
    have HO:=Lib.hid (show OwnV Value.string 9 w acc _ wr from ⟨_,hown⟩)
    clear hend hown
    go_wp2
    go_ret2
    rw [hE2.out]
    exact ⟨_,rfl,HO.out,hbw⟩
def zdY (p:Int × List UInt8 × Value):List Value:=[.int .i64 p.1,p.2.2]
def colv (c:JC) (sv:Value):Value:=.agg #[.int .i64 c.many,.int .i64 c.enc,.int .i64 c.texts,sv]
def IsCol (c:JC) (v:Value) (w:World):Prop:=∃ (L:List (Int × List UInt8 × Value)) (sv:Value),v=colv c sv∧IsR zdY L sv w∧(∀ p∈L,IsB p.2.1 p.2.2 w)∧c.streams=L.map (fun p=>(p.1,p.2.1))
theorem IsCol.below {c:JC} {v:Value} {w w':World} (h:IsCol c v w) (hb:Below w.heap.size w w'):IsCol c v w':=by
 obtain ⟨L,sv,h1,h2,h3,h4⟩:=h
 exact ⟨L,sv,h1,h2.below hb,fun p hp=>(h3 p hp).below hb,h4⟩
def zts (w:World) (p:JC × Int) (e:Ending) (w':World):Prop:=∃ v,e=.returned (.tuple #[v,.int .i64 p.2])∧IsCol p.1 v w'∧Below w.heap.size w w'
def ztG (w:World) (v:Value):Prop:=∀ (a b c:Value) (A:Addr) (n m:Nat),v=.agg #[a,b,c,.slice (some A) n m]→w.heap.size≤A.block
def RetCN (w:World) (p:JC × Int) (e:Ending) (w':World):Prop:=∃ v,e=.returned (.tuple #[v,.int .i64 p.2])∧IsCol p.1 v w'∧ztG w v∧Below w.heap.size w w'
theorem RetCN.ce {w w':World} {p:JC × Int} {e:Ending} (h:RetCN w p e w'):zts w p e w':=by
 obtain ⟨v,h1,h2,_,h4⟩:=h
 exact ⟨v,h1,h2,h4⟩
theorem zkP (w:World):IsCol zrW (colv zrW (.slice none 0 0)) w:=⟨[],_,rfl,zsE _ _,by simp,rfl⟩
structure Spared (g:Nat) (w w':World):Prop where
 size:w.heap.size≤w'.heap.size
 block:∀ k,k≠g→w'.heap[k]? = w.heap[k]?
theorem Spared.cell {g:Nat} {w w':World} (h:Spared g w w') {p:Addr} (hp:p.block≠g):w'.cell? p=w.cell? p:=by
 unfold World.cell?
 rw [h.block p.block hp]
theorem Spared.bytes {g:Nat} {w w':World} {t:TypeId} {old:List Value} {l:List UInt8} {v:Value} (h:Spared g w w') (hr:Row w g t old) (ho:∀ u∈old,∀ x,u≠bv x) (hv:IsB l v w):IsB l v w':=by
 obtain ⟨A,c,h1,h2,h3,h4,h5⟩:=hv
 refine ⟨A,c,h1,h2,h3,h4,?_⟩
 rcases h5 with h5 | ⟨ad,hA,hlt,hc⟩
 ·exact .inl h5
 ·refine .inr ⟨ad,hA,Nat.lt_of_lt_of_le hlt h.size,fun j u hu=>?_⟩
  have h6:=hc j u hu
  by_cases hg:ad.block=g
  ·exfalso
   obtain ⟨b,hb⟩:∃ b,u=bv b:=by
    have:=List.mem_of_getElem? hu
    obtain ⟨b,_,hb⟩:=List.mem_map.1 this
    exact ⟨b,hb.symm⟩
   have hs:(ad.add j).spot=none:=World.cell?_spot h6
   have hbk:(ad.add j).block=g:=by rw [add_block];exact hg
   have e:ad.add j=⟨g,(ad.add j).off,none⟩:=by
    generalize ad.add j=q at hs hbk
    obtain ⟨b1,o1,s1⟩:=q
    dsimp only at hs hbk
    subst hs hbk
    rfl
   rw [e,hr.cell] at h6
   exact ho u (List.mem_of_getElem? h6) b hb
  ·rw [h.cell (by rw [add_block];exact hg)]
   exact h6
theorem Spared.slice {α:Type} {f:α→List Value} {g k:Nat} {w w':World} {l:List α} {n c:Nat} (h:Spared g w w') (hk:k≠g) (hv:IsR f l (.slice (some ⟨k,0,none⟩) n c) w):IsR f l (.slice (some ⟨k,0,none⟩) n c) w':=by
 obtain ⟨A,c',h1,h2,h3,h4,h5⟩:=hv
 injection h1 with e1 e2 e3
 subst e1
 refine ⟨_,c',by rw [e2,e3],h2,h3,h4,?_⟩
 rcases h5 with h5 | ⟨ad,hA,hlt,hc⟩
 ·exact .inl h5
 ·injection hA with hA
  subst hA
  exact .inr ⟨_,rfl,Nat.lt_of_lt_of_le hlt h.size,fun j u hu=>by rw [h.cell (by rw [add_block];exact hk)];exact hc j u hu⟩
theorem zc9 {c:JC} {L:List (Int × List UInt8 × Value)} {g k n m:Nat} {w w':World} {t:TypeId} {old:List Value} (h:Spared g w w') (hk:k≠g) (hr:Row w g t old) (ho:∀ u∈old,∀ x,u≠bv x)
  (hi:IsR zdY L (.slice (some ⟨k,0,none⟩) n m) w) (hb:∀ p∈L,IsB p.2.1 p.2.2 w) (hc:c.streams=L.map (fun p=>(p.1,p.2.1))):IsCol c (colv c (.slice (some ⟨k,0,none⟩) n m)) w':=
 ⟨L,_,rfl,h.slice hk hi,fun p hp=>h.bytes hr ho (hb p hp),hc⟩
theorem zfq (v:Value) (h:∀ x,v≠bv x) (a b c:Int):∀ u∈[Value.int .i64 a,.int .i64 b,.int .i64 c,v],∀ x,u≠bv x:=by
 intro u hu x
 simp at hu
 rcases hu with rfl | rfl | rfl | rfl
 ·intro h;cases h
 ·intro h;cases h
 ·intro h;cases h
 ·exact h x
section
variable {P:Program} {t:TypeId} {n:Nat} {ops:Array Oper} {rest:List Oper} {o:Oper} {a:Act} {Q:Exit→Act→World→Prop} {w:World}
theorem zS (hsz:(P.info? t).map (·.size)=some n) (hgd:o.guard=none) (x y:Operand) (ho:o.op=.store t x y) (g:Nat) (t':TypeId) (old cs:List Value) (hx:a.eval x=.pointer (some ⟨g,0,none⟩)) (hy:a.eval y=.agg cs.toArray) (hr:Row w g t' old)
  (hl:cs.length=n) (hl':old.length=n) (h1:∀ u∈cs,u.oneCell'=true) (w0:World) (B:Nat) (hb:Below B w0 w) (hB:B≤g)
  (h:∀ w',Row w' g t' cs→Below B w0 w'→Spared g w w'→wpList P ops Q rest (a.put o.dst undef) w'):wpList P ops Q (o::rest) a w:=by
 have hrun:=run_storeVar_row (P:=P) w g t' t old.toArray cs.toArray hr (by rw [hsz,←hl];simp) (by simp [hl,hl']) (by simpa using h1)
 refine wpList_plain hgd fun K hK=>?_
 unfold Oper.wp execOp
 simp only [ho,hx,hy,Instr.storeAt,Instr.sureAddr,Sem.run_bind,Sem.run_pure,Result.andThen_ok,hrun]
 exact hK _ _ (h _ (setRow_heap w g old.toArray cs.toArray t' (0,0) hr) (below_setRow hb hB _) ⟨by simp [World.setRow],fun k hk=>setRow_other w g k cs.toArray hk⟩)
end
theorem zkQ {l:List ByteArray} (h:4096 < l.length∨∃ s∈l,300 < s.size):zl1 l=(zrW,3):=by
 unfold zl1
 rw [if_pos]
 rcases h with h | ⟨s,h1,h2⟩
 ·exact .inl h
 ·exact .inr (List.any_eq_true.2 ⟨s,h1,decide_eq_true h2⟩)
theorem zrY {l:List ByteArray} (h:l.length≤4096) (hs:∀ s∈l,s.size≤300):zl1 l=if l.length < 2*(zbw l).length then (⟨(l.length:Int),1,0,[(2,zbq l),(3,(zbY (zdT l) false).1)]⟩,0)
  else (⟨(l.length:Int),2,((zbw l).length:Int),[(2,(zbY (zcC (zbw l) l) false).1),(3,(zbY (zdT (zbw l)) false).1),(4,zbq (zbw l))]⟩,0):=by
 unfold zl1
 rw [if_neg]
 rintro (h1 | h1)
 ·omega
 ·obtain ⟨s,h2,h3⟩:=List.any_eq_true.1 h1
  have:=hs s h2
  have:=of_decide_eq_true h3
  omega
theorem zs2 (w:World) (p q:Int × List UInt8 × Value):IsR zdY [p,q] (.slice (some ⟨w.heap.size,0,none⟩) 2 2) (w.alloc (.cells #[.int .i64 p.1,p.2.2,.int .i64 q.1,q.2.2] 40)):=
 ⟨_,_,rfl,by simp,Nat.le_refl _,by unfold maxLen;simp,zgY w _ _⟩
theorem zqu (w:World) (p q r:Int × List UInt8 × Value):IsR zdY [p,q,r] (.slice (some ⟨w.heap.size,0,none⟩) 3 3) (w.alloc (.cells #[.int .i64 p.1,p.2.2,.int .i64 q.1,q.2.2,.int .i64 r.1,r.2.2] 40)):=
 ⟨_,_,rfl,by simp,Nat.le_refl _,by unfold maxLen;simp,zgY w _ _⟩
theorem zdV:(Tryz.prog.info? 27).map (·.size)=some 4:=by kernel_rfl
end Go.Proofs.YtblpkmmhmdpkjaaGreatDoor
namespace Go.Proofs.YtblpkmmhmdpkjaaGreatDoor
open Go.RowKit Go.ChangeShapes Go.WideShapes Go.Deep
instance:Inhabited ByteArray:=⟨⟨#[]⟩⟩
section
variable {H:Type} {enc:TypeId × Value→H} {W:World} {v:Value} {d:DataW H} {ps:List MemPlace} {base:Nat}
end
instance:Inhabited (Int × List UInt8 × Value):=⟨⟨0,[],.slice none 0 0⟩⟩
section
variable {H:Type} {enc:TypeId × Value→H} {W:World} {v:Value} {d:DataW H} {ps:List MemPlace} {base:Nat}
theorem Tryz.cells_intJ:Tryz.prog.cellsOf 3=1:=by kernel_rfl
theorem Tryz.cells_bytes:Tryz.prog.cellsOf 38=1:=by kernel_rfl
theorem zrZ (hval:Value.okWide Tryz.prog W .any base 27 v) (hd:DataW.Trod enc Tryz.prog W 0 (fun _=>true) true 27 v d ps) (hlt:∀ x∈ps,x.block < W.heap.size) :
  ∃ c:JC,IsCol c v W:=by
 obtain ⟨v0,v1,v2,v3,y0,y1,y2,y3,n,rfl,_,rfl,h0,h1,h2,h3⟩:=Joins.open_agg4 Tryz.underlying27 (by kernel_rfl) (by kernel_rfl) hval hd
 obtain ⟨i0,e0,_,_⟩:=DataW.trod_int Tryz.underlying3 h0
 obtain ⟨i1,e1,_,_⟩:=DataW.trod_int Tryz.underlying3 h1
 obtain ⟨i2,e2,_,_⟩:=DataW.trod_int Tryz.underlying3 h2
 simp at e0 e1 e2
 subst e0 e1 e2
 obtain ⟨L,hL,hLb⟩:=zol (f:=zdY) (m:=2) (p:=fun x=>IsB x.2.1 x.2.2 W) Tryz.underlying25 (by kernel_rfl) (by omega) (fun _=>rfl) (fun cs n x hlen h hq=>by
  obtain ⟨xs,k,hk,hxy,_,hxl,hf⟩:=DataW.trod_struct Tryz.underlying40 h
  match xs,hxl,cs,hlen with
  | [y0,y1],_,[v0,v1],_ =>
   have g0:=hf 0 _ rfl
   have g1:=hf 1 _ rfl
   simp [Tryz.cells_bytes,Tryz.cells_intJ] at g0 g1
   obtain ⟨i,e1,_,hw⟩:=DataW.trod_int Tryz.underlying3 g0
   simp at e1
   subst e1
   obtain ⟨b,hb⟩:=zl0 Tryz.underlying38 Tryz.underlying5 (by kernel_rfl) g1 fun q hq2=>hq q (by rw [hxy];simp [hq2])
   exact ⟨(i,b,v1),rfl,hb⟩) h3 fun q hq=>hlt q (by simp [hq])
 exact ⟨⟨i0,i1,i2,L.map fun p=>(p.1,p.2.1)⟩,L,v3,rfl,hL,hLb,rfl⟩
end
end Go.Proofs.YtblpkmmhmdpkjaaGreatDoor
namespace Go.Proofs.YtblpkmmhmdpkjaaGreatDoor
open Go.RowKit
theorem zcs (W:World):(sizeOf 40).run Tryz.prog W=.ok 2 W:=by kernel_rfl
def zm0 (ls ks:List Int) (w:World) (i:Value) (wr:World):Prop:=∃ k:Nat,k≤ls.length∧i=.int .i64 (k:Int)∧ls.take k=ks.take k∧Below w.heap.size w wr
theorem ziw (L:List (Int × List UInt8 × Value)) (ks:List Int) (sv kv:Value) (w:World) (hs:IsR zdY L sv w) (hk:IsV iv ks kv w) (hb:L.length≤1000000) :
  Calls Tryz.prog 29 #[sv,kv] w fun e w'=>e=.returned (.bool (L.map (·.1) == ks))∧Below w.heap.size w w':=by
 obtain ⟨A,n,c,rfl⟩:=hs.shape
 obtain ⟨B,m,d,rfl⟩:=hk.shape
 have HN:=Lib.hid hs.parts.1
 have HM:=Lib.hid hk.parts.1
 have HS:=Lib.hid hs
 have HK:=Lib.hid hk
 have hn6:n≤1000000:=by have:=HN.out;omega
 obtain ⟨ls,hls⟩:∃ ls,ls=L.map (·.1):=⟨_,rfl⟩
 have HLL:=Lib.hid (show ls.length=n by rw [hls,List.length_map];exact HN.out)
 have HLS:=Lib.hid hls
 rw [←hls]
 clear hs hk hb hls
 by_cases hnm:n=m
 ·subst hnm
  have d0:((n:Int) != (n:Int))=false:=by simp
  go_enter Tryz.func29,Tryz.ntmps29
  go_wp2
  go_loopw [5] (zm0 ls ks w) (fun i _=>n - (intOf i).toNat)
  case atStart=>exact ⟨0,Nat.zero_le _,rfl,by simp,Below.refl _ _⟩
  case round =>
   obtain ⟨k,hk,rfl,he,hbw⟩:=hrel
   have hkn:k≤n:=by have:=HLL.out;omega
   have HEQ:=Lib.hid he
   clear he hk
   by_cases hlt:k < n
   ·have hkl:k < L.length:=by have:=HN.out;omega
    have hkk:k < ks.length:=by have:=HM.out;omega
    have hkls:k < ls.length:=by have:=HLL.out;omega
    have hlti:(k:Int) < (n:Int):=by omega
    obtain ⟨ad,rfl,had,hcell⟩:=(HS.out.below hbw).at (m:=2) (fun _=>rfl) (by omega) hkl
    obtain ⟨bd,rfl,hbd,hcell2⟩:=(HK.out.below hbw).at hkk
    obtain ⟨x,hx⟩:∃ x,x=ls[k]:=⟨_,rfl⟩
    obtain ⟨y,hy⟩:∃ y,y=ks[k]:=⟨_,rfl⟩
    have hc1:wr.cell? (ad.add (k*2))=some (.int .i64 x):=by
     have h:=hcell 0 (by omega)
     rw [Nat.add_zero] at h
     rw [h,hx]
     have:ls[k]=L[k].1:=by simp [HLS.out]
     rw [this]
     rfl
    have hc2:wr.cell? (bd.add k)=some (.int .i64 y):=by rw [hcell2,hy];rfl
    have HX:=Lib.hid hx
    have HY:=Lib.hid hy
    clear hx hy hcell hcell2 had hbd
    by_cases e:x=y
    ·subst e
     have d1:(x != x)=false:=by simp
     have HEQ2:=Lib.hid (show ls.take (k+1)=ks.take (k+1) by rw [List.take_succ_eq_append_getElem hkls,List.take_succ_eq_append_getElem hkk,HEQ.out,←HX.out,←HY.out])
     go_wp2
     go_quiet (fail)
     go_wp2
     go_roundw
     case rel=>exact ⟨k+1,hkls,by go_num,HEQ2.out,below_drewN hbw _⟩
     case measure=>simp [intOf];omega
    ·have d1:(x != y)=true:=by simpa using e
     have hF:=Lib.hid (show (ls == ks)=false by
      rw [beq_eq_false_iff_ne]
      intro h
      subst h
      exact e (by rw [HX.out,HY.out]))
     clear e
     go_wp2
     go_quiet (fail)
     go_wp2
     go_ret
     exact ⟨zce hF.out.symm,below_drewN hbw _⟩
   ·obtain rfl:k=n:=by omega
    have hlti:¬(k:Int) < (k:Int):=by omega
    have hT:=Lib.hid (show (ls == ks)=true by
     rw [beq_iff_eq]
     have h:=HEQ.out
     rw [List.take_of_length_le (by rw [HLL.out];exact Nat.le_refl _),List.take_of_length_le (by rw [HM.out];exact Nat.le_refl _)] at h
     exact h)
    go_wp2
    go_ret
    exact ⟨zce hT.out.symm,hbw⟩
 ·have d0:((n:Int) != (m:Int))=true:=by simpa using fun h=>hnm (by omega)
  have hF:=Lib.hid (show (ls == ks)=false by
   rw [beq_eq_false_iff_ne]
   intro h
   have h1:=HLL.out
   rw [h,HM.out] at h1
   exact hnm h1.symm)
  go_enter Tryz.func29,Tryz.ntmps29
  go_wp2
  go_ret
  exact ⟨zce hF.out.symm,Below.refl _ _⟩
theorem zfP {c:JC} (h:c.many < 0∨4096 < c.many):zbP c=([],1):=by unfold zbP;rw [if_pos h]
theorem zf6 {c:JC} (h:¬(c.many < 0∨4096 < c.many)) (h1:c.enc=1) (h2:c.streams.map (·.1)=[2,3]):zbP c=zbE (c.streams.getD 0 (0,[])).2 (c.streams.getD 1 (0,[])).2 c.many:=by
 unfold zbP
 rw [if_neg h,if_pos ⟨h1,h2⟩]
 rfl
theorem zb9 {c:JC} (h:¬(c.many < 0∨4096 < c.many)) (h1:¬(c.enc=1∧c.streams.map (·.1)=[2,3])) (h2:c.enc≠2∨c.streams.map (·.1)≠[2,3,4]∨c.texts < 0∨4096 < c.texts):zbP c=([],2):=by
 unfold zbP
 rw [if_neg h,if_neg h1,if_pos h2]
theorem zhu {c:JC} (h:¬(c.many < 0∨4096 < c.many)) (h1:c.enc=2) (h2:c.streams.map (·.1)=[2,3,4]) (h3:¬(c.texts < 0∨4096 < c.texts)) {ns:List Int} {q:List UInt8} {y:Int} (hu:zO (c.streams.getD 0 (0,[])).2 c.many false=(ns,q,y)) :
  zbP c=if y≠0∨0 < q.length then ([],2) else zhJ ns (jcut (c.streams.getD 2 (0,[])).2 (c.streams.getD 1 (0,[])).2 c.texts):=by
 unfold zbP
 rw [if_neg h,if_neg (by rintro ⟨h4,_⟩;rw [h1] at h4;cases h4),if_neg (by rintro (h4 | h4 | h4);exact h4 h1;exact h4 h2;exact h3 h4),hu]
theorem zop {ps:List Int} {ws:List ByteArray} {j:Nat} (h1:1≤j) (h2:j < ws.length) (h:zcp (ws[j - 1]'(by omega)) ws[j]=false):zhJ ps (some ws)=([],2):=by
 unfold zhJ
 dsimp only
 rw [if_neg]
 intro ha
 have h3:=List.all_eq_true.1 ha j (List.mem_range'_1.2 (by omega))
 rw [List.getD_eq_getElem?_getD,List.getD_eq_getElem?_getD,List.getElem?_eq_getElem (show j - 1 < ws.length by omega),List.getElem?_eq_getElem h2] at h3
 dsimp only [Option.getD_some] at h3
 rw [h] at h3
 cases h3
theorem zoq {ps:List Int} {ws:List ByteArray} (h:∀ j,1≤j→(hj:j < ws.length)→zcp (ws[j - 1]'(by omega)) ws[j]=true):zhJ ps (some ws)=(match zch ws ps with | none=>([],2) | some l=>(l,0)):=by
 unfold zhJ
 dsimp only
 refine if_pos ?_
 rw [List.all_eq_true]
 intro j hj
 have hj:=List.mem_range'_1.1 hj
 rw [List.getD_eq_getElem?_getD,List.getD_eq_getElem?_getD,List.getElem?_eq_getElem (show j - 1 < ws.length by omega),List.getElem?_eq_getElem (show j < ws.length by omega)]
 exact h j hj.1 (by omega)
theorem zix {ws:List ByteArray} {N:Nat} {ps:List Int} (h:N < ws.length):zch ws ((N:Int)::ps)=(zch ws ps).map (ws[N] :: ·):=by
 rw [zch,Int.toNat_natCast,List.getElem?_eq_getElem h]
theorem zkR {ws:List ByteArray} {N:Nat} {ps:List Int} (h:ws.length≤N):zch ws ((N:Int)::ps)=none:=by
 rw [zch,Int.toNat_natCast,List.getElem?_eq_none h]
def Fact.texts (w0:World) (l:List ByteArray):Fact:=⟨OwnV Value.string 9 w0 l,fun _ _ _ h hb=>h.below hb⟩
def Fact.texte (w0:World) (p:List ByteArray × Int):Fact:=⟨fun v w=>∃ u,v=.tuple #[u,.int .i64 p.2]∧OwnV Value.string 9 w0 p.1 u w,fun _ _ _ ⟨u,h1,h2⟩ hb=>⟨u,h1,h2.below hb⟩⟩
def Fact.intse (ns:List Int) (q:List UInt8) (y:Int):Fact:=⟨fun v w=>∃ u r,v=.tuple #[u,r,.int .i64 y]∧IsV iv ns u w∧IsB q r w,fun _ _ _ ⟨u,r,h1,h2,h3⟩ hb=>⟨u,r,h1,h2.below hb,h3.below hb⟩⟩
theorem zje (W:World) (g:Nat):(Instr.fieldAt 27 (.pointer (some ⟨g,0,none⟩)) 0).run Tryz.prog W=.ok (.pointer (some ⟨g,0,none⟩)) W:=by
 simp [Instr.fieldAt,run_underlying Tryz.underlying27,Instr.sureAddr,fieldPlace,Addr.add]
theorem zqv (W:World) (g:Nat):(Instr.fieldAt 27 (.pointer (some ⟨g,0,none⟩)) 2).run Tryz.prog W=.ok (.pointer (some ⟨g,2,none⟩)) W:=by
 simp [Instr.fieldAt,run_underlying Tryz.underlying27,Instr.sureAddr,fieldPlace,Addr.add]
theorem zde (W:World) (g:Nat):(Instr.fieldAt 27 (.pointer (some ⟨g,0,none⟩)) 3).run Tryz.prog W=.ok (.pointer (some ⟨g,3,none⟩)) W:=by
 simp [Instr.fieldAt,run_underlying Tryz.underlying27,Instr.sureAddr,fieldPlace,Addr.add]
theorem zdf (W:World) (a:Addr):(Instr.fieldAt 40 (.pointer (some a)) 1).run Tryz.prog W=.ok (.pointer (some (a.add 1))) W:=by
 simp [Instr.fieldAt,run_underlying Tryz.underlying40,Instr.sureAddr,fieldPlace]
theorem zqw {L:List (Int × List UInt8 × Value)} {a b:Int} (h:L.map (·.1)=[a,b]):∃ b0 v0 b1 v1,L=[(a,b0,v0),(b,b1,v1)]:=by
 rcases L with _ | ⟨⟨x,b0,v0⟩,_ | ⟨⟨y,b1,v1⟩,_ | ⟨p,L⟩⟩⟩
 ·cases h
 ·simp at h
 ·injection h with h1 h2
  injection h2 with h2 _
  dsimp only at h1 h2
  subst h1 h2
  exact ⟨b0,v0,b1,v1,rfl⟩
 ·simp at h
theorem zkS {L:List (Int × List UInt8 × Value)} {a b c:Int} (h:L.map (·.1)=[a,b,c]):∃ b0 v0 b1 v1 b2 v2,L=[(a,b0,v0),(b,b1,v1),(c,b2,v2)]:=by
 rcases L with _ | ⟨⟨x,b0,v0⟩,_ | ⟨⟨y,b1,v1⟩,_ | ⟨⟨z,b2,v2⟩,_ | ⟨p,L⟩⟩⟩⟩
 ·cases h
 ·simp at h
 ·simp at h
 ·injection h with h1 h2
  injection h2 with h2 h3
  injection h3 with h3 _
  dsimp only at h1 h2 h3
  subst h1 h2 h3
  exact ⟨b0,v0,b1,v1,b2,v2,rfl⟩
 ·simp at h
theorem zf7:∀ {ns:List Int} {b:List UInt8} {l:List ByteArray},zM b ns=some l→l.length=ns.length
 | [],b,l,h=>by
  rw [zeR] at h
  split at h
  ·cases h
  ·injection h with h
   rw [←h]
   rfl
 | n::ns,b,l,h=>by
  by_cases hb:300 < n∨(b.length:Int) < n
  ·rw [zcY hb] at h
   cases h
  ·rw [zM,if_neg hb,Option.map_eq_some_iff] at h
   obtain ⟨l',h1,rfl⟩:=h
   rw [List.length_cons,List.length_cons,zf7 h1]
theorem zhv {b lengths:List UInt8} {T:Nat} {ws:List ByteArray} (h:jcut b lengths (T:Int)=some ws):ws.length=T:=by
 obtain ⟨ns,q,y,hu⟩:∃ ns q y,zO lengths (T:Int) false=(ns,q,y):=⟨_,_,_,rfl⟩
 unfold jcut at h
 rw [hu] at h
 dsimp only at h
 split at h
 ·cases h
 ·rename_i h2
  have hy:y=0:=by
   by_cases hy:y=0
   ·exact hy
   ·exact absurd (.inl hy) h2
  subst hy
  rw [zf7 h,(zcy hu).1]
def zjf (ws:List ByteArray) (w:World) (i:Value) (wr:World):Prop:=
 ∃ k:Nat,1≤k∧k≤ws.length+1∧i=.int .i64 (k:Int)∧(∀ j,1≤j→j < k→(hj:j < ws.length)→zcp (ws[j - 1]'(by omega)) ws[j]=true)∧Below w.heap.size w wr
def zl3 (ws:List ByteArray) (ns:List Int) (w:World) (v i:Value) (wr:World):Prop:=
 ∃ (k:Nat) (acc:List ByteArray),k≤ns.length∧i=.int .i64 (k:Int)∧zch ws ns=(zch ws (ns.drop k)).map (acc ++ ·)∧wr.ownsRow w.heap.size 9 1 v k (acc.map Value.string)∧Below w.heap.size w wr
theorem zor (c:JC) (v:Value) (w:World) (hv:IsCol c v w) (hb:c.streams.length≤1000000) (hbb:∀ p∈c.streams,p.2.length≤1000000) :
  Calls Tryz.prog 18 #[v] w (RetTE w (zbP c)):=by
 obtain ⟨L,sv,rfl,hL,hLb,hLs⟩:=hv
 obtain ⟨A,n,ca,rfl⟩:=hL.shape
 obtain ⟨cm,ce,ct,cs⟩:=c
 dsimp only at hLs hb hbb
 subst hLs
 unfold colv
 dsimp only
 obtain ⟨C,hC⟩:∃ C:JC,C=⟨cm,ce,ct,L.map (fun p=>(p.1,p.2.1))⟩:=⟨_,rfl⟩
 rw [←hC]
 have hks:C.streams.map (·.1)=L.map (·.1):=by rw [hC,List.map_map];rfl
 have hlen:L.length≤1000000:=by rw [List.length_map] at hb;exact hb
 have hbl:∀ p∈L,p.2.1.length≤1000000:=fun p hp=>hbb (p.1,p.2.1) (List.mem_map.2 ⟨p,hp,rfl⟩)
 have h0:=heap_alloc_new w (.cells #[.int .i64 cm,.int .i64 ce,.int .i64 ct,.slice A n ca] 27)
 have hR0:Row (w.alloc (.cells #[.int .i64 cm,.int .i64 ce,.int .i64 ct,.slice A n ca] 27)) w.heap.size 27 [.int .i64 cm,.int .i64 ce,.int .i64 ct,.slice A n ca]:=h0
 have hb0:Below w.heap.size w (w.alloc (.cells #[.int .i64 cm,.int .i64 ce,.int .i64 ct,.slice A n ca] 27)):=(Below.refl _ _).alloc (Nat.le_refl _) _
 have a0:=hR0.cell 0
 have a1:=hR0.cell 1
 have a2:=hR0.cell 2
 have a3:=hR0.cell 3
 simp only [List.getElem?_cons_zero,List.getElem?_cons_succ] at a0 a1 a2 a3
 obtain ⟨w0,hw0⟩:∃ w0,w0=w.alloc (.cells #[.int .i64 cm,.int .i64 ce,.int .i64 ct,.slice A n ca] 27):=⟨_,rfl⟩
 have hz0:w0.heap.size=w.heap.size+1:=by rw [hw0];simp
 rw [←hw0] at hR0 hb0
 have HR0:=Lib.hid hR0
 have HB0:=Lib.hid hb0
 have HZ0:=Lib.hid hz0
 have HL0:=Lib.hid (hL.below hb0)
 have HLB:=Lib.hid (show ∀ p∈L,IsB p.2.1 p.2.2 w0 from fun p hp=>(hLb p hp).below hb0)
 have HLN:=Lib.hid hL.parts.1
 have HBL:=Lib.hid hbl
 have HC:=Lib.hid hC
 have HKS:=Lib.hid hks
 have hn6:n≤1000000:=by rw [←hL.parts.1];exact hlen
 have HLE:=Lib.hid hlen
 clear hL hLb hb hbb hR0 hb0 hz0 h0 hbl hC hks hlen
 by_cases hlo:cm < 0
 case pos =>
  have hE:=Lib.hid (zfP (c:=C) (.inl (by rw [HC.out];exact hlo)))
  have d1:decide (cm < 0)=true:=decide_eq_true hlo
  go_enter Tryz.func18,Tryz.ntmps18
  go_wp2
  go_ret2
  rw [hE.out]
  rw [←hw0]
  exact RetTE.nil _ HB0.out
 by_cases hhi:4096 < cm
 case pos =>
  have hE:=Lib.hid (zfP (c:=C) (.inr (by rw [HC.out];exact hhi)))
  have d1:decide (cm < 0)=false:=decide_eq_false hlo
  have d2:decide (4096 < cm)=true:=decide_eq_true hhi
  go_enter Tryz.func18,Tryz.ntmps18
  go_wp2
  go_ret2
  rw [hE.out]
  rw [←hw0]
  exact RetTE.nil _ HB0.out
 have HM:=Lib.hid (show ¬(C.many < 0∨4096 < C.many) by rw [HC.out];dsimp only;omega)
 obtain ⟨M,rfl⟩:=Int.eq_ofNat_of_zero_le (show 0≤cm by omega)
 have hM6:M≤4096:=by omega
 have d1:decide ((M:Int) < 0)=false:=decide_eq_false (by omega)
 have d2:decide (4096 < (M:Int))=false:=decide_eq_false (by omega)
 clear hlo hhi
 have HK1:=Lib.hid (ziw L [2,3] (.slice A n ca) (.slice (some ⟨w0.heap.size,0,none⟩) 2 2) (w0.alloc (.cells #[.int .i64 2,.int .i64 3] 3)) (HL0.out.below ((Below.refl _ _).alloc (Nat.le_refl _) _)) (zeF iv w0 3 [2,3] 2 rfl (by omega)) HLE.out)
 rw [HZ0.out] at HK1
 have HK2:=Lib.hid (fun (X:World) (h:Below w0.heap.size w0 X)=>ziw L [2,3,4] (.slice A n ca) (.slice (some ⟨X.heap.size,0,none⟩) 3 3) (X.alloc (.cells #[.int .i64 2,.int .i64 3,.int .i64 4] 3)) (HL0.out.below (h.alloc h.size _)) (zeF iv X 3 [2,3,4] 3 rfl (by omega)) HLE.out)
 obtain ⟨k1,hk1⟩:∃ k1,k1=(L.map (·.1) == [2,3]):=⟨_,rfl⟩
 obtain ⟨k2,hk2⟩:∃ k2,k2=(L.map (·.1) == [2,3,4]):=⟨_,rfl⟩
 rw [←hk1] at HK1
 rw [←hk2] at HK2
 have HKK1:=Lib.hid hk1
 have HKK2:=Lib.hid hk2
 clear hk1 hk2
 go_enter Tryz.func18,Tryz.ntmps18
 go_wp2_with fail
 rw [←hw0]
 refine HK1.out.mono ?_
 rintro e w1 ⟨rfl,hb1⟩
 have HB01:=Lib.hid (za ((Below.refl w0.heap.size w0).alloc (Nat.le_refl _) (.cells #[.int .i64 2,.int .i64 3] 3)) hb1)
 have HB1:=Lib.hid (za HB0.out HB01.out)
 have HR1:=Lib.hid (HR0.out.below HB01.out HR0.out.lt)
 have HK21:=Lib.hid (HK2.out w1 HB01.out)
 have b0':=HR1.out.cell 0
 have b1':=HR1.out.cell 1
 have b2':=HR1.out.cell 2
 have b3':=HR1.out.cell 3
 simp only [List.getElem?_cons_zero,List.getElem?_cons_succ] at b0' b1' b2' b3'
 clear hb1 hw0 a0 a1 a2 a3
 by_cases he1:ce=1
 case pos =>
  subst he1
  have e0:((1:Int) == 1)=true:=by decide
  have e3:((1:Int) != 2)=true:=by decide
  cases k1 with
  | true =>
   have hmk:L.map (·.1)=[2,3]:=by have h:=HKK1.out;simpa using h.symm
   obtain ⟨b0,v0,b1,v1,hLL⟩:=zqw hmk
   have hE:=Lib.hid (zf6 (c:=C) HM.out (by rw [HC.out]) (by rw [HKS.out];exact hmk))
   have hE2:zbP C=zbE b0 b1 (M:Int):=by rw [hE.out,HC.out,hLL];rfl
   have HE:=Lib.hid hE2
   subst hLL
   obtain rfl:n=2:=HLN.out.symm
   have HL1:=Lib.hid (HL0.out.below HB01.out)
   obtain ⟨ad,hAd,hadl,hc0⟩:=HL1.out.at (m:=2) (fun _=>rfl) (by omega) (k:=0) (by simp)
   obtain ⟨ad',hAd',_,hc1⟩:=HL1.out.at (m:=2) (fun _=>rfl) (by omega) (k:=1) (by simp)
   subst hAd
   injection hAd' with hAd'
   subst hAd'
   have HAB:=Lib.hid hadl
   have HC0:=Lib.hid (show w1.cell? (ad.add (0*2+1))=some v0 from hc0 1 (by omega))
   have HC1:=Lib.hid (show w1.cell? (ad.add (1*2+1))=some v1 from hc1 1 (by omega))
   have HV0:=Lib.hid ((HLB.out _ (List.mem_cons_self)).below HB01.out)
   have HV1:=Lib.hid ((HLB.out _ (List.mem_cons_of_mem _ List.mem_cons_self)).below HB01.out)
   have HCUT:=Lib.hid (fun (X:World) (h:w.heap.size≤X.heap.size) (h1:IsB b0 v0 X) (h2:IsB b1 v1 X)=>(show Calls Tryz.prog 30 #[v0,v1,.int .i64 (M:Int)] X (fun e w'=>∃ x,e=.returned x∧(∃ y,x=.tuple #[y,.int .i64 (zbE b0 b1 (M:Int)).2]∧OwnV Value.string 9 w (zbE b0 b1 (M:Int)).1 y w')∧Below X.heap.size X w') from (ziv b0 b1 M v0 v1 X h1 h2 (HBL.out _ List.mem_cons_self) (HBL.out _ (List.mem_cons_of_mem _ List.mem_cons_self)) hM6).mono fun e w' ⟨u,h3,h4,h5⟩=>⟨_,h3,⟨u,rfl,h4.base h⟩,h5⟩))
   clear hE2 hE hmk hadl hc0 hc1
   go_wp2_with fail
   refine wp_region_list [.is (.pointer (some ⟨w.heap.size,3,none⟩)),.is (.slice (some ad) 2 ca),.is (.pointer (some (ad.add (0*2)))),.is (.pointer (some ((ad.add (0*2)).add 1))),.is (v0),.is (.pointer (some ⟨w.heap.size,3,none⟩)),.is (.slice (some ad) 2 ca),.is (.pointer (some (ad.add (1*2)))),.is (.pointer (some ((ad.add (1*2)).add 1))),.is (v1),.is (.pointer (some ⟨w.heap.size,0,none⟩)),.is (.int .i64 (M:Int)),.texte w (zbE b0 b1 (M:Int)),.texts w (zbE b0 b1 (M:Int)).1,.is (.int .i64 (zbE b0 b1 (M:Int)).2),.texts w (zbE b0 b1 (M:Int)).1,.is (.int .i64 (zbE b0 b1 (M:Int)).2)] [some 31,some 32,some 33,some 34,some 35,some 36,some 37,some 38,some 39,some 40,some 41,some 42,some 43,some 44,some 45,some 2,some 3] (by kernel_rfl) (by kernel_rfl) (by kernel_rfl) rfl ⟨?_,?_,?_,?_,?_,?_,?_,?_,?_,?_,?_,?_,?_,?_,?_,?_,?_,trivial⟩ ?_
   ·intro ρ W1 hb1 H
    exact zj rfl (H.old 1 _ (by kernel_rfl) rfl) (fun W=>zde W _) ⟨rfl,Below.refl _ _⟩
   ·intro ρ W1 hb1 H
    exact ze rfl (H.new 31 0 (by kernel_rfl)) Tryz.underlying25 rfl ((HR1.out.below hb1 HR1.out.lt).cell 3) ⟨rfl,Below.refl _ _⟩
   ·intro ρ W1 hb1 H
    exact zu (k:=0) Tryz.underlying25 zcs rfl (H.new 32 1 (by kernel_rfl)) (H.const _) (by decide) ⟨rfl,Below.refl _ _⟩
   ·intro ρ W1 hb1 H
    exact zj rfl (H.new 33 2 (by kernel_rfl)) (fun W=>zdf W _) ⟨rfl,Below.refl _ _⟩
   ·intro ρ W1 hb1 H
    exact ze rfl (H.new 34 3 (by kernel_rfl)) Tryz.underlying38 rfl (by rw [add_add];exact (hb1.cell (by rw [add_block];exact HAB.out)).trans HC0.out) ⟨rfl,Below.refl _ _⟩
   ·intro ρ W1 hb1 H
    exact zj rfl (H.old 1 _ (by kernel_rfl) rfl) (fun W=>zde W _) ⟨rfl,Below.refl _ _⟩
   ·intro ρ W1 hb1 H
    exact ze rfl (H.new 36 5 (by kernel_rfl)) Tryz.underlying25 rfl ((HR1.out.below hb1 HR1.out.lt).cell 3) ⟨rfl,Below.refl _ _⟩
   ·intro ρ W1 hb1 H
    exact zu (k:=1) Tryz.underlying25 zcs rfl (H.new 37 6 (by kernel_rfl)) (H.const _) (by decide) ⟨rfl,Below.refl _ _⟩
   ·intro ρ W1 hb1 H
    exact zj rfl (H.new 38 7 (by kernel_rfl)) (fun W=>zdf W _) ⟨rfl,Below.refl _ _⟩
   ·intro ρ W1 hb1 H
    exact ze rfl (H.new 39 8 (by kernel_rfl)) Tryz.underlying38 rfl (by rw [add_add];exact (hb1.cell (by rw [add_block];exact HAB.out)).trans HC1.out) ⟨rfl,Below.refl _ _⟩
   ·intro ρ W1 hb1 H
    exact zj rfl (H.old 1 _ (by kernel_rfl) rfl) (fun W=>zje W _) ⟨rfl,Below.refl _ _⟩
   ·intro ρ W1 hb1 H
    exact ze rfl (H.new 41 10 (by kernel_rfl)) Tryz.underlying3 rfl ((HR1.out.below hb1 HR1.out.lt).cell 0) ⟨rfl,Below.refl _ _⟩
   ·intro ρ W1 hb1 H
    have e0:ρ (.tmp 35)=v0:=H.new 35 4 (by kernel_rfl)
    have e1:ρ (.tmp 40)=v1:=H.new 40 9 (by kernel_rfl)
    have e2:ρ (.tmp 42)=.int .i64 (M:Int):=H.new 42 11 (by kernel_rfl)
    refine zk rfl (fun _ _=>by kernel_rfl) (H.func _) (args:=#[v0,v1,.int .i64 (M:Int)]) (by simp [e0,e1,e2]) ?_
    exact (HCUT.out W1 (Nat.le_trans HB1.out.size hb1.size) (HV0.out.below hb1) (HV1.out.below hb1)).mono fun e w' h=>h
   ·intro ρ W1 hb1 H
    have h43:∃ u,ρ (.tmp 43)=.tuple #[u,.int .i64 (zbE b0 b1 (M:Int)).2]∧OwnV Value.string 9 w (zbE b0 b1 (M:Int)).1 u W1:=H.new 43 12 (by kernel_rfl)
    obtain ⟨u,h1,h2⟩:=h43
    exact zg rfl h1 rfl ⟨h2,Below.refl _ _⟩
   ·intro ρ W1 hb1 H
    have h43:∃ u,ρ (.tmp 43)=.tuple #[u,.int .i64 (zbE b0 b1 (M:Int)).2]∧OwnV Value.string 9 w (zbE b0 b1 (M:Int)).1 u W1:=H.new 43 12 (by kernel_rfl)
    obtain ⟨u,h1,h2⟩:=h43
    exact zg rfl h1 rfl ⟨rfl,Below.refl _ _⟩
   ·intro ρ W1 hb1 H
    exact zf rfl rfl ⟨H.new 44 13 (by kernel_rfl),Below.refl _ _⟩
   ·intro ρ W1 hb1 H
    exact zf rfl (H.new 45 14 (by kernel_rfl)) ⟨rfl,Below.refl _ _⟩
   ·intro vs W1 hb1 hfs
    have f15:OwnV Value.string 9 w (zbE b0 b1 (M:Int)).1 (vs 15) W1:=hfs 15 (by decide)
    have f16:vs 16=.int .i64 (zbE b0 b1 (M:Int)).2:=hfs 16 (by decide)
    clear hfs
    simp only [zr,Nat.zero_add,Nat.reduceAdd]
    generalize vs 0=z0
    generalize vs 1=z1
    generalize vs 2=z2
    generalize vs 3=z3
    generalize vs 4=z4
    generalize vs 5=z5
    generalize vs 6=z6
    generalize vs 7=z7
    generalize vs 8=z8
    generalize vs 9=z9
    generalize vs 10=z10
    generalize vs 11=z11
    generalize vs 12=z12
    generalize vs 13=z13
    generalize vs 14=z14
    generalize vs 15=z15 at f15 ⊢
    simp only [f16,Act.put,List.setIfInBounds_toArray,List.set_cons_succ,List.set_cons_zero]
    clear f16
    go_wp2
    go_ret2
    rw [HE.out]
    exact ⟨_,rfl,f15,za HB1.out hb1⟩
  | false =>
   have hE:=Lib.hid (zb9 (c:=C) HM.out (by rw [HKS.out];rintro ⟨_,h⟩;have h2:=HKK1.out;rw [h] at h2;cases h2) (.inl (by rw [HC.out];exact (by decide:(1:Int)≠2))))
   go_wp2_with fail
   refine HK21.out.mono ?_
   rintro e w2 ⟨rfl,hb2⟩
   have HB12:=Lib.hid (za ((Below.refl w1.heap.size w1).alloc (Nat.le_refl _) (.cells #[.int .i64 2,.int .i64 3,.int .i64 4] 3)) hb2)
   have HB2:=Lib.hid (za HB1.out HB12.out)
   have HR2:=Lib.hid (HR1.out.below HB12.out HR1.out.lt)
   have c0':=HR2.out.cell 0
   have c1':=HR2.out.cell 1
   have c2':=HR2.out.cell 2
   have c3':=HR2.out.cell 3
   simp only [List.getElem?_cons_zero,List.getElem?_cons_succ] at c0' c1' c2' c3'
   clear hb2 b0' b1' b2' b3'
   go_wp2
   go_ret2
   rw [hE.out]
   exact RetTE.nil _ HB2.out
 have e0:(ce == 1)=false:=by simpa using he1
 by_cases he2:ce=2
 case neg =>
  have hE:=Lib.hid (zb9 (c:=C) HM.out (by rw [HC.out];exact fun h=>he1 h.1) (.inl (by rw [HC.out];exact he2)))
  have e3:(ce != 2)=true:=by simpa using he2
  clear he1 he2
  go_wp2_with fail
  refine HK21.out.mono ?_
  rintro e w2 ⟨rfl,hb2⟩
  have HB12:=Lib.hid (za ((Below.refl w1.heap.size w1).alloc (Nat.le_refl _) (.cells #[.int .i64 2,.int .i64 3,.int .i64 4] 3)) hb2)
  have HB2:=Lib.hid (za HB1.out HB12.out)
  have HR2:=Lib.hid (HR1.out.below HB12.out HR1.out.lt)
  have c0':=HR2.out.cell 0
  have c1':=HR2.out.cell 1
  have c2':=HR2.out.cell 2
  have c3':=HR2.out.cell 3
  simp only [List.getElem?_cons_zero,List.getElem?_cons_succ] at c0' c1' c2' c3'
  clear hb2 b0' b1' b2' b3'
  go_wp2
  go_ret2
  rw [hE.out]
  exact RetTE.nil _ HB2.out
 subst he2
 clear he1
 have e3:((2:Int) != 2)=false:=by decide
 cases k2 with
 | false =>
  have hE:=Lib.hid (zb9 (c:=C) HM.out (by rw [HC.out];exact fun h=>by cases h.1) (.inr (.inl (by rw [HKS.out];intro h;have h2:=HKK2.out;rw [h] at h2;cases h2))))
  go_wp2_with fail
  refine HK21.out.mono ?_
  rintro e w2 ⟨rfl,hb2⟩
  have HB12:=Lib.hid (za ((Below.refl w1.heap.size w1).alloc (Nat.le_refl _) (.cells #[.int .i64 2,.int .i64 3,.int .i64 4] 3)) hb2)
  have HB2:=Lib.hid (za HB1.out HB12.out)
  have HR2:=Lib.hid (HR1.out.below HB12.out HR1.out.lt)
  have c0':=HR2.out.cell 0
  have c1':=HR2.out.cell 1
  have c2':=HR2.out.cell 2
  have c3':=HR2.out.cell 3
  simp only [List.getElem?_cons_zero,List.getElem?_cons_succ] at c0' c1' c2' c3'
  clear hb2 b0' b1' b2' b3'
  go_wp2
  go_ret2
  rw [hE.out]
  exact RetTE.nil _ HB2.out
 | true =>
  by_cases ht0:ct < 0
  case pos =>
   have hE:=Lib.hid (zb9 (c:=C) HM.out (by rw [HC.out];exact fun h=>by cases h.1) (.inr (.inr (.inl (by rw [HC.out];exact ht0)))))
   have e4:decide (ct < 0)=true:=decide_eq_true ht0
   go_wp2_with fail
   refine HK21.out.mono ?_
   rintro e w2 ⟨rfl,hb2⟩
   have HB12:=Lib.hid (za ((Below.refl w1.heap.size w1).alloc (Nat.le_refl _) (.cells #[.int .i64 2,.int .i64 3,.int .i64 4] 3)) hb2)
   have HB2:=Lib.hid (za HB1.out HB12.out)
   have HR2:=Lib.hid (HR1.out.below HB12.out HR1.out.lt)
   have c0':=HR2.out.cell 0
   have c1':=HR2.out.cell 1
   have c2':=HR2.out.cell 2
   have c3':=HR2.out.cell 3
   simp only [List.getElem?_cons_zero,List.getElem?_cons_succ] at c0' c1' c2' c3'
   clear hb2 b0' b1' b2' b3'
   go_wp2
   go_ret2
   rw [hE.out]
   exact RetTE.nil _ HB2.out
  by_cases ht1:4096 < ct
  case pos =>
   have hE:=Lib.hid (zb9 (c:=C) HM.out (by rw [HC.out];exact fun h=>by cases h.1) (.inr (.inr (.inr (by rw [HC.out];exact ht1)))))
   have e4:decide (ct < 0)=false:=decide_eq_false ht0
   have e5:decide (4096 < ct)=true:=decide_eq_true ht1
   go_wp2_with fail
   refine HK21.out.mono ?_
   rintro e w2 ⟨rfl,hb2⟩
   have HB12:=Lib.hid (za ((Below.refl w1.heap.size w1).alloc (Nat.le_refl _) (.cells #[.int .i64 2,.int .i64 3,.int .i64 4] 3)) hb2)
   have HB2:=Lib.hid (za HB1.out HB12.out)
   have HR2:=Lib.hid (HR1.out.below HB12.out HR1.out.lt)
   have c0':=HR2.out.cell 0
   have c1':=HR2.out.cell 1
   have c2':=HR2.out.cell 2
   have c3':=HR2.out.cell 3
   simp only [List.getElem?_cons_zero,List.getElem?_cons_succ] at c0' c1' c2' c3'
   clear hb2 b0' b1' b2' b3'
   go_wp2
   go_ret2
   rw [hE.out]
   exact RetTE.nil _ HB2.out
  have HT6:=Lib.hid (show ¬(C.texts < 0∨4096 < C.texts) by rw [HC.out];dsimp only;omega)
  obtain ⟨T,rfl⟩:=Int.eq_ofNat_of_zero_le (show 0≤ct by omega)
  have hT6:T≤4096:=by omega
  have e4:decide ((T:Int) < 0)=false:=decide_eq_false (by omega)
  have e5:decide (4096 < (T:Int))=false:=decide_eq_false (by omega)
  clear ht0 ht1
  go_wp2_with fail
  refine HK21.out.mono ?_
  rintro e w2 ⟨rfl,hb2⟩
  have HB12:=Lib.hid (za ((Below.refl w1.heap.size w1).alloc (Nat.le_refl _) (.cells #[.int .i64 2,.int .i64 3,.int .i64 4] 3)) hb2)
  have HB2:=Lib.hid (za HB1.out HB12.out)
  have HR2:=Lib.hid (HR1.out.below HB12.out HR1.out.lt)
  have c0':=HR2.out.cell 0
  have c1':=HR2.out.cell 1
  have c2':=HR2.out.cell 2
  have c3':=HR2.out.cell 3
  simp only [List.getElem?_cons_zero,List.getElem?_cons_succ] at c0' c1' c2' c3'
  clear hb2 b0' b1' b2' b3'
  have hmk:L.map (·.1)=[2,3,4]:=by have h:=HKK2.out;simpa using h.symm
  obtain ⟨b0,v0,b1,v1,b2,v2,hLL⟩:=zkS hmk
  obtain ⟨ns,q,y,hu⟩:∃ ns q y,zO b0 (M:Int) false=(ns,q,y):=⟨_,_,_,rfl⟩
  have hE:=zhu (c:=C) HM.out (by rw [HC.out]) (by rw [HKS.out];exact hmk) HT6.out (ns:=ns) (q:=q) (y:=y) (by rw [HC.out,hLL];exact hu)
  have hcs:jcut (C.streams.getD 2 (0,[])).2 (C.streams.getD 1 (0,[])).2 C.texts=jcut b2 b1 (T:Int):=by rw [HC.out,hLL];rfl
  rw [hcs] at hE
  have HEE:=Lib.hid hE
  have HUU:=Lib.hid hu
  subst hLL
  obtain rfl:n=3:=HLN.out.symm
  have HB02:=Lib.hid (za HB01.out HB12.out)
  have HL2:=Lib.hid (HL0.out.below HB02.out)
  obtain ⟨ad,hAd,hadl,hc0⟩:=HL2.out.at (m:=2) (fun _=>rfl) (by omega) (k:=0) (by simp)
  obtain ⟨ad',hAd',_,hc1⟩:=HL2.out.at (m:=2) (fun _=>rfl) (by omega) (k:=1) (by simp)
  obtain ⟨ad2,hAd2,_,hc2⟩:=HL2.out.at (m:=2) (fun _=>rfl) (by omega) (k:=2) (by simp)
  subst hAd
  injection hAd' with hAd'
  subst hAd'
  injection hAd2 with hAd2
  subst hAd2
  have HAB2:=Lib.hid hadl
  have HC02:=Lib.hid (show w2.cell? (ad.add (0*2+1))=some v0 from hc0 1 (by omega))
  have HC12:=Lib.hid (show w2.cell? (ad.add (1*2+1))=some v1 from hc1 1 (by omega))
  have HC22:=Lib.hid (show w2.cell? (ad.add (2*2+1))=some v2 from hc2 1 (by omega))
  have hm1:((3:Int),b1,v1)∈[((2:Int),b0,v0),(3,b1,v1),(4,b2,v2)]:=List.mem_cons_of_mem _ List.mem_cons_self
  have hm2:((4:Int),b2,v2)∈[((2:Int),b0,v0),(3,b1,v1),(4,b2,v2)]:=List.mem_cons_of_mem _ (List.mem_cons_of_mem _ List.mem_cons_self)
  have HV0:=Lib.hid ((HLB.out _ (List.mem_cons_self)).below HB02.out)
  have HV12:=Lib.hid ((HLB.out _ hm1).below HB02.out)
  have HV22:=Lib.hid ((HLB.out _ hm2).below HB02.out)
  have HUT:=Lib.hid (fun (X:World) (h1:IsB b0 v0 X)=>zho b0 v0 (M:Int) false X h1 (HBL.out _ List.mem_cons_self))
  rw [HUU.out] at HUT
  have HCUT:=Lib.hid (fun (X:World) (h:w.heap.size≤X.heap.size) (h1:IsB b2 v2 X) (h2:IsB b1 v1 X)=>(show Calls Tryz.prog 30 #[v2,v1,.int .i64 (T:Int)] X (fun e w'=>∃ x,e=.returned x∧(∃ y,x=.tuple #[y,.int .i64 (zbE b2 b1 (T:Int)).2]∧OwnV Value.string 9 w (zbE b2 b1 (T:Int)).1 y w')∧Below X.heap.size X w') from (ziv b2 b1 T v2 v1 X h1 h2 (HBL.out _ hm2) (HBL.out _ hm1) hT6).mono fun e w' ⟨u,h3,h4,h5⟩=>⟨_,h3,⟨u,rfl,h4.base h⟩,h5⟩))
  clear hE hcs hmk hadl hc0 hc1 hc2 hm1 hm2 hu
  go_wp2_with fail
  clear c0' c1' c2' c3'
  refine wp_region_list [.is (.pointer (some ⟨w.heap.size,3,none⟩)),.is (.slice (some ad) 3 ca),.is (.pointer (some (ad.add (0*2)))),.is (.pointer (some ((ad.add (0*2)).add 1))),.is (v0),.is (.pointer (some ⟨w.heap.size,0,none⟩)),.is (.int .i64 (M:Int)),.intse ns q y,.intse ns q y,.vals iv ns,.bytes (q),.is (.int .i64 y),.vals iv ns,.bytes (q),.is (.int .i64 y)] [some 68,some 69,some 70,some 71,some 72,some 73,some 74,some 75,some 67,some 76,some 77,some 78,some 6,some 7,some 8] (by kernel_rfl) (by kernel_rfl) (by kernel_rfl) rfl ⟨?_,?_,?_,?_,?_,?_,?_,?_,?_,?_,?_,?_,?_,?_,?_,trivial⟩ ?_
  ·intro ρ W1 hb1 H
   exact zj rfl (H.old 1 _ (by kernel_rfl) rfl) (fun W=>zde W _) ⟨rfl,Below.refl _ _⟩
  ·intro ρ W1 hb1 H
   exact ze rfl (H.new 68 0 (by kernel_rfl)) Tryz.underlying25 rfl ((HR2.out.below hb1 HR2.out.lt).cell 3) ⟨rfl,Below.refl _ _⟩
  ·intro ρ W1 hb1 H
   exact zu (k:=0) Tryz.underlying25 zcs rfl (H.new 69 1 (by kernel_rfl)) (H.const _) (by decide) ⟨rfl,Below.refl _ _⟩
  ·intro ρ W1 hb1 H
   exact zj rfl (H.new 70 2 (by kernel_rfl)) (fun W=>zdf W _) ⟨rfl,Below.refl _ _⟩
  ·intro ρ W1 hb1 H
   exact ze rfl (H.new 71 3 (by kernel_rfl)) Tryz.underlying38 rfl (by rw [add_add];exact (hb1.cell (by rw [add_block];exact HAB2.out)).trans HC02.out) ⟨rfl,Below.refl _ _⟩
  ·intro ρ W1 hb1 H
   exact zj rfl (H.old 1 _ (by kernel_rfl) rfl) (fun W=>zje W _) ⟨rfl,Below.refl _ _⟩
  ·intro ρ W1 hb1 H
   exact ze rfl (H.new 73 5 (by kernel_rfl)) Tryz.underlying3 rfl ((HR2.out.below hb1 HR2.out.lt).cell 0) ⟨rfl,Below.refl _ _⟩
  ·intro ρ W1 hb1 H
   have e0:ρ (.tmp 72)=v0:=H.new 72 4 (by kernel_rfl)
   have e1:ρ (.tmp 74)=.int .i64 (M:Int):=H.new 74 6 (by kernel_rfl)
   refine zk rfl (fun _ _=>by kernel_rfl) (H.func _) (args:=#[v0,.int .i64 (M:Int),.bool false]) (by simp [e0,e1,H.const]) ?_
   exact (HUT.out W1 (HV0.out.below hb1)).mono fun e w' ⟨u,r,h1,h2,h3,h4⟩=>⟨_,h1,⟨u,r,rfl,h2.isV,h3.isB⟩,h4⟩
  ·intro ρ W1 hb1 H
   exact zd rfl rfl ⟨H.new 75 7 (by kernel_rfl),Below.refl _ _⟩
  ·intro ρ W1 hb1 H
   have h67:∃ u r,ρ (.tmp 67)=.tuple #[u,r,.int .i64 y]∧IsV iv ns u W1∧IsB q r W1:=H.new 67 8 (by kernel_rfl)
   obtain ⟨u,r,h1,h2,h3⟩:=h67
   exact zg rfl h1 rfl ⟨h2,Below.refl _ _⟩
  ·intro ρ W1 hb1 H
   have h67:∃ u r,ρ (.tmp 67)=.tuple #[u,r,.int .i64 y]∧IsV iv ns u W1∧IsB q r W1:=H.new 67 8 (by kernel_rfl)
   obtain ⟨u,r,h1,h2,h3⟩:=h67
   exact zg rfl h1 rfl ⟨h3,Below.refl _ _⟩
  ·intro ρ W1 hb1 H
   have h67:∃ u r,ρ (.tmp 67)=.tuple #[u,r,.int .i64 y]∧IsV iv ns u W1∧IsB q r W1:=H.new 67 8 (by kernel_rfl)
   obtain ⟨u,r,h1,h2,h3⟩:=h67
   exact zg rfl h1 rfl ⟨rfl,Below.refl _ _⟩
  ·intro ρ W1 hb1 H
   exact zf rfl rfl ⟨H.new 76 9 (by kernel_rfl),Below.refl _ _⟩
  ·intro ρ W1 hb1 H
   exact zf rfl rfl ⟨H.new 77 10 (by kernel_rfl),Below.refl _ _⟩
  ·intro ρ W1 hb1 H
   exact zf rfl (H.new 78 11 (by kernel_rfl)) ⟨rfl,Below.refl _ _⟩
  ·intro vs W1 hb1 hfs
   have f12:IsV iv ns (vs 12) W1:=hfs 12 (by decide)
   have f13:IsB (q) (vs 13) W1:=hfs 13 (by decide)
   have f14:vs 14=.int .i64 y:=hfs 14 (by decide)
   clear hfs
   simp only [zr,Nat.zero_add,Nat.reduceAdd]
   generalize vs 0=z0
   generalize vs 1=z1
   generalize vs 2=z2
   generalize vs 3=z3
   generalize vs 4=z4
   generalize vs 5=z5
   generalize vs 6=z6
   generalize vs 7=z7
   generalize vs 8=z8
   generalize vs 9=z9
   generalize vs 10=z10
   generalize vs 11=z11
   generalize vs 12=z12 at f12 ⊢
   generalize vs 13=z13 at f13 ⊢
   simp only [f14,Act.put,List.setIfInBounds_toArray,List.set_cons_succ,List.set_cons_zero]
   clear f14
   have HNS:=Lib.hid f12
   obtain ⟨Br,rn,rc,rfl⟩:=IsV.shape (f:=bv) f13
   have hrn:q.length=rn:=(IsV.parts (f:=bv) (show IsV bv q _ _ from f13)).1
   have HB23:=Lib.hid hb1
   have HB3:=Lib.hid (za HB2.out hb1)
   have HR3:=Lib.hid (HR2.out.below hb1 HR2.out.lt)
   obtain ⟨w3,hw3⟩:∃ w3,w3=W1:=⟨_,rfl⟩
   rw [←hw3] at HNS HB23 HB3 HR3 ⊢
   clear hw3 hb1 f12 f13 W1
   have hE:=HEE.out
   by_cases hy:y=0
   case neg =>
    rw [if_pos (.inl hy)] at hE
    have HE:=Lib.hid hE
    have d5:(y != 0)=true:=by simpa using hy
    clear hE hy hrn
    go_wp2
    go_ret2
    rw [HE.out]
    exact RetTE.nil _ HB3.out
   subst hy
   by_cases hr0:0 < rn
   case pos =>
    rw [if_pos (.inr (by rw [hrn];exact hr0))] at hE
    have HE:=Lib.hid hE
    have d5:decide ((0:Int) < (rn:Int))=true:=decide_eq_true (by omega)
    clear hE hrn
    go_wp2
    go_ret2
    rw [HE.out]
    exact RetTE.nil _ HB3.out
   obtain rfl:rn=0:=by omega
   rw [if_neg (by rw [hrn];simp)] at hE
   have HE:=Lib.hid hE
   have HNL:=Lib.hid (zcy HUU.out).1
   have HNP:=Lib.hid ((zcy HUU.out).2 rfl)
   have HAB3:=Lib.hid (Nat.lt_of_lt_of_le HAB2.out HB23.out.size)
   have HC13:=Lib.hid ((HB23.out.cell (p:=ad.add (1*2+1)) (by rw [add_block];exact HAB2.out)).trans HC12.out)
   have HC23:=Lib.hid ((HB23.out.cell (p:=ad.add (2*2+1)) (by rw [add_block];exact HAB2.out)).trans HC22.out)
   have HV13:=Lib.hid (HV12.out.below HB23.out)
   have HV23:=Lib.hid (HV22.out.below HB23.out)
   clear hE hrn hr0
   go_wp2_with fail
   refine wp_region_list [.is (.pointer (some ⟨w.heap.size,3,none⟩)),.is (.slice (some ad) 3 ca),.is (.pointer (some (ad.add (2*2)))),.is (.pointer (some ((ad.add (2*2)).add 1))),.is (v2),.is (.pointer (some ⟨w.heap.size,3,none⟩)),.is (.slice (some ad) 3 ca),.is (.pointer (some (ad.add (1*2)))),.is (.pointer (some ((ad.add (1*2)).add 1))),.is (v1),.is (.pointer (some ⟨w.heap.size,2,none⟩)),.is (.int .i64 (T:Int)),.texte w (zbE b2 b1 (T:Int)),.texte w (zbE b2 b1 (T:Int)),.texts w (zbE b2 b1 (T:Int)).1,.is (.int .i64 (zbE b2 b1 (T:Int)).2),.texts w (zbE b2 b1 (T:Int)).1,.is (.int .i64 (zbE b2 b1 (T:Int)).2)] [some 87,some 88,some 89,some 90,some 91,some 92,some 93,some 94,some 95,some 96,some 97,some 98,some 99,some 86,some 100,some 101,some 9,some 8] (by kernel_rfl) (by kernel_rfl) (by kernel_rfl) rfl ⟨?_,?_,?_,?_,?_,?_,?_,?_,?_,?_,?_,?_,?_,?_,?_,?_,?_,?_,trivial⟩ ?_
   ·intro ρ W1 hb1 H
    exact zj rfl (H.old 1 _ (by kernel_rfl) rfl) (fun W=>zde W _) ⟨rfl,Below.refl _ _⟩
   ·intro ρ W1 hb1 H
    exact ze rfl (H.new 87 0 (by kernel_rfl)) Tryz.underlying25 rfl ((HR3.out.below hb1 HR3.out.lt).cell 3) ⟨rfl,Below.refl _ _⟩
   ·intro ρ W1 hb1 H
    exact zu (k:=2) Tryz.underlying25 zcs rfl (H.new 88 1 (by kernel_rfl)) (H.const _) (by decide) ⟨rfl,Below.refl _ _⟩
   ·intro ρ W1 hb1 H
    exact zj rfl (H.new 89 2 (by kernel_rfl)) (fun W=>zdf W _) ⟨rfl,Below.refl _ _⟩
   ·intro ρ W1 hb1 H
    exact ze rfl (H.new 90 3 (by kernel_rfl)) Tryz.underlying38 rfl (by rw [add_add];exact (hb1.cell (by rw [add_block];exact HAB3.out)).trans HC23.out) ⟨rfl,Below.refl _ _⟩
   ·intro ρ W1 hb1 H
    exact zj rfl (H.old 1 _ (by kernel_rfl) rfl) (fun W=>zde W _) ⟨rfl,Below.refl _ _⟩
   ·intro ρ W1 hb1 H
    exact ze rfl (H.new 92 5 (by kernel_rfl)) Tryz.underlying25 rfl ((HR3.out.below hb1 HR3.out.lt).cell 3) ⟨rfl,Below.refl _ _⟩
   ·intro ρ W1 hb1 H
    exact zu (k:=1) Tryz.underlying25 zcs rfl (H.new 93 6 (by kernel_rfl)) (H.const _) (by decide) ⟨rfl,Below.refl _ _⟩
   ·intro ρ W1 hb1 H
    exact zj rfl (H.new 94 7 (by kernel_rfl)) (fun W=>zdf W _) ⟨rfl,Below.refl _ _⟩
   ·intro ρ W1 hb1 H
    exact ze rfl (H.new 95 8 (by kernel_rfl)) Tryz.underlying38 rfl (by rw [add_add];exact (hb1.cell (by rw [add_block];exact HAB3.out)).trans HC13.out) ⟨rfl,Below.refl _ _⟩
   ·intro ρ W1 hb1 H
    exact zj rfl (H.old 1 _ (by kernel_rfl) rfl) (fun W=>zqv W _) ⟨rfl,Below.refl _ _⟩
   ·intro ρ W1 hb1 H
    exact ze rfl (H.new 97 10 (by kernel_rfl)) Tryz.underlying3 rfl ((HR3.out.below hb1 HR3.out.lt).cell 2) ⟨rfl,Below.refl _ _⟩
   ·intro ρ W1 hb1 H
    have e0:ρ (.tmp 91)=v2:=H.new 91 4 (by kernel_rfl)
    have e1:ρ (.tmp 96)=v1:=H.new 96 9 (by kernel_rfl)
    have e2:ρ (.tmp 98)=.int .i64 (T:Int):=H.new 98 11 (by kernel_rfl)
    refine zk rfl (fun _ _=>by kernel_rfl) (H.func _) (args:=#[v2,v1,.int .i64 (T:Int)]) (by simp [e0,e1,e2]) ?_
    exact (HCUT.out W1 (Nat.le_trans HB3.out.size hb1.size) (HV23.out.below hb1) (HV13.out.below hb1)).mono fun e w' h=>h
   ·intro ρ W1 hb1 H
    exact zd rfl rfl ⟨H.new 99 12 (by kernel_rfl),Below.refl _ _⟩
   ·intro ρ W1 hb1 H
    have h86:∃ u,ρ (.tmp 86)=.tuple #[u,.int .i64 (zbE b2 b1 (T:Int)).2]∧OwnV Value.string 9 w (zbE b2 b1 (T:Int)).1 u W1:=H.new 86 13 (by kernel_rfl)
    obtain ⟨u,h1,h2⟩:=h86
    exact zg rfl h1 rfl ⟨h2,Below.refl _ _⟩
   ·intro ρ W1 hb1 H
    have h86:∃ u,ρ (.tmp 86)=.tuple #[u,.int .i64 (zbE b2 b1 (T:Int)).2]∧OwnV Value.string 9 w (zbE b2 b1 (T:Int)).1 u W1:=H.new 86 13 (by kernel_rfl)
    obtain ⟨u,h1,h2⟩:=h86
    exact zg rfl h1 rfl ⟨rfl,Below.refl _ _⟩
   ·intro ρ W1 hb1 H
    exact zf rfl rfl ⟨H.new 100 14 (by kernel_rfl),Below.refl _ _⟩
   ·intro ρ W1 hb1 H
    exact zf rfl (H.new 101 15 (by kernel_rfl)) ⟨rfl,Below.refl _ _⟩
   ·intro vs W1 hb1 hfs
    have f16:OwnV Value.string 9 w (zbE b2 b1 (T:Int)).1 (vs 16) W1:=hfs 16 (by decide)
    have f17:vs 17=.int .i64 (zbE b2 b1 (T:Int)).2:=hfs 17 (by decide)
    clear hfs
    simp only [zr,Nat.zero_add,Nat.reduceAdd]
    generalize vs 0=z0
    generalize vs 1=z1
    generalize vs 2=z2
    generalize vs 3=z3
    generalize vs 4=z4
    generalize vs 5=z5
    generalize vs 6=z6
    generalize vs 7=z7
    generalize vs 8=z8
    generalize vs 9=z9
    generalize vs 10=z10
    generalize vs 11=z11
    generalize vs 12=z12
    generalize vs 13=z13
    generalize vs 14=z14
    generalize vs 15=z15
    generalize vs 16=z16 at f16 ⊢
    simp only [f17,Act.put,List.setIfInBounds_toArray,List.set_cons_succ,List.set_cons_zero]
    clear f17
    have HB4:=Lib.hid (za HB3.out hb1)
    have HNS4:=Lib.hid (HNS.out.below hb1)
    have HWO:=Lib.hid f16
    obtain ⟨w4,hw4⟩:∃ w4,w4=W1:=⟨_,rfl⟩
    rw [←hw4] at HB4 HNS4 HWO ⊢
    clear hw4 hb1 f16 W1
    cases hcut:jcut b2 b1 (T:Int) with
    | none =>
     have HE2:=Lib.hid (show zbP C=([],2) by rw [HE.out,hcut];rfl)
     have d6:((zbE b2 b1 (T:Int)).2 != 0)=true:=by rw [zdU hcut];decide
     have HQ2:=Lib.hid (show (zbE b2 b1 (T:Int)).2=2 by rw [zdU hcut])
     rw [HQ2.out]
     have d6:((2:Int) != 0)=true:=by decide
     clear hcut
     go_wp2
     go_ret2
     rw [HE2.out]
     exact RetTE.nil _ HB4.out
    | some ws =>
     rw [zkO hcut] at HWO ⊢
     dsimp only at HWO ⊢
     have HE2:=Lib.hid (show zbP C=zhJ ns (some ws) by rw [HE.out,hcut])
     have hwt:=zhv hcut
     clear hcut
     obtain ⟨Bw,wn,wc,rfl⟩:=HWO.out.isV.shape
     have HWV:=Lib.hid HWO.out.isV
     have HWN:=Lib.hid (show ws.length=wn from HWV.out.parts.1)
     obtain ⟨Bn,nn,nc,rfl⟩:=HNS4.out.shape
     have HNN:=Lib.hid (show nn=M by rw [←HNS4.out.parts.1];exact HNL.out)
     have hw6:wn≤4096:=by have:=HWN.out;omega
     clear hwt
     have HST:=Lib.hid (show zjf ws w4 (.int .i64 1) w4 from ⟨1,Nat.le_refl _,by omega,rfl,fun j h1 h2=>by omega,Below.refl _ _⟩)
     go_wp2
     go_loopw [10] (zjf ws w4) (fun i _=>wn - (intOf i).toNat)
     case atStart=>exact HST.out
     case round =>
      obtain ⟨k,hk1,hkn,rfl,hris,hbw⟩:=hrel
      clear HST
      have HRS:=Lib.hid hris
      have hkw:k≤wn+1:=by have:=HWN.out;omega
      clear hris hkn
      by_cases hlt:k < wn
      ·have hkl:k < ws.length:=by have:=HWN.out;omega
       have hkm:k - 1 < ws.length:=by omega
       obtain ⟨p,hp⟩:∃ p,p=k - 1:=⟨_,rfl⟩
       have hpl:p < ws.length:=by omega
       have hlti:(k:Int) < (wn:Int):=by omega
       have hp1:(k:Int) - 1=(p:Int):=by omega
       have hpn:(p:Int) < (wn:Int):=by omega
       obtain ⟨bd,hBd,_,hcellk⟩:=(HWV.out.below hbw).at hkl
       obtain ⟨bd',hBd',_,hcellp⟩:=(HWV.out.below hbw).at hpl
       subst hBd
       injection hBd' with hBd'
       subst hBd'
       obtain ⟨x,hx⟩:∃ x,x=ws[p]:=⟨_,rfl⟩
       obtain ⟨z,hz⟩:∃ z,z=ws[k]:=⟨_,rfl⟩
       rw [←hz] at hcellk
       rw [←hx] at hcellp
       have HSL:=Lib.hid (show zcp (ws[k - 1]'hkm) ws[k]=zcp x z by rw [hx,hz];congr 1;simp [hp])
       clear hx hz hp
       cases e:zcp x z with
       | false =>
        have HD:=Lib.hid (zop (ps:=ns) hk1 hkl (by rw [HSL.out];exact e))
        have d7:Op.bytesLess x.toList z.toList=false:=e
        clear e
        go_wp2
        go_quiet (fail)
        go_wp2
        go_ret2
        rw [HE2.out,HD.out]
        exact RetTE.nil _ (below_drewN (za HB4.out hbw) _)
       | true =>
        have HRS2:=Lib.hid (show ∀ j,1≤j→j < k+1→(hj:j < ws.length)→zcp (ws[j - 1]'(by omega)) ws[j]=true from fun j h1 h2 hj=>by
         by_cases h:j=k
         ·subst h;rw [HSL.out];exact e
         ·exact HRS.out j h1 (by omega) hj)
        have d7:Op.bytesLess x.toList z.toList=true:=e
        clear e
        go_wp2
        go_quiet (fail)
        go_wp2
        go_roundw
        case rel=>exact ⟨k+1,by omega,by omega,by go_num,HRS2.out,below_drewN hbw _⟩
        case measure=>simp [intOf];omega
      ·have hlti:¬(k:Int) < (wn:Int):=by omega
       have HE3:=Lib.hid (HE2.out.trans (zoq (ps:=ns) (ws:=ws) fun j h1 hj=>HRS.out j h1 (by have:=HWN.out;omega) hj))
       have HBW:=Lib.hid (za HB4.out hbw)
       have HWVW:=Lib.hid (HWV.out.below hbw)
       have HNSW:=Lib.hid (HNS4.out.below hbw)
       have HST3:=Lib.hid (show zl3 ws ns wr (.slice (some ⟨wr.heap.size,0,none⟩) 0 0) (.int .i64 0) (wr.alloc (.cells #[] 9)) from ⟨0,[],Nat.zero_le _,rfl,by cases h:zch ws ns <;> simp [h],zgZ wr 9 1,(Below.refl _ _).alloc (Nat.le_refl _) _⟩)
       clear hbw
       obtain ⟨w5,hw5⟩:∃ w5,w5=wr:=⟨_,rfl⟩
       rw [←hw5] at HBW HWVW HNSW HST3 ⊢
       clear hw5
       go_wp2
       go_loopw [11,12] (zl3 ws ns w5) (fun _ i _=>M - (intOf i).toNat)
       case atStart=>exact HST3.out
       case round =>
        obtain ⟨j,acc,hj,rfl,hpk,hown,hbw⟩:=hrel
        clear HST3
        have hz:=hbw.size
        have hjM:j≤M:=by have:=HNL.out;omega
        have HPK:=Lib.hid hpk
        obtain ⟨wq,hwq⟩:∃ wq,wq=wr:=⟨_,rfl⟩
        rw [←hwq] at hown hbw hz ⊢
        clear hwq hpk hj
        by_cases hlt2:j < M
        ·have hjl:j < ns.length:=by rw [HNL.out];exact hlt2
         have hlti2:(j:Int) < (nn:Int):=by have:=HNN.out;omega
         obtain ⟨ad5,hA5,_,hcell5⟩:=(HNSW.out.below hbw).at hjl
         subst hA5
         obtain ⟨N,hN⟩:=Int.eq_ofNat_of_zero_le (HNP.out _ (List.getElem_mem hjl))
         have hcn:wq.cell? (ad5.add j)=some (.int .i64 (N:Int)):=by rw [hcell5,hN];rfl
         have HD:=Lib.hid (show ns.drop j=(N:Int)::ns.drop (j+1) by rw [List.drop_eq_getElem_cons hjl,hN])
         clear hcell5 hN
         by_cases hNw:wn≤N
         ·have d8:decide (wn≤N)=true:=decide_eq_true hNw
          have d9:decide ((wn:Int)≤(N:Int))=true:=decide_eq_true (by omega)
          have HE4:=Lib.hid (show zbP C=([],2) by rw [HE3.out,HPK.out,HD.out,zkR (by have:=HWN.out;omega)];rfl)
          clear hown
          go_wp2
          go_ret2
          rw [HE4.out]
          exact RetTE.nil _ (za HBW.out hbw)
         ·have d8:decide (wn≤N)=false:=decide_eq_false hNw
          have d9:decide ((wn:Int)≤(N:Int))=false:=decide_eq_false (by omega)
          have hNl:N < ws.length:=by have:=HWN.out;omega
          have hNi:(N:Int) < (wn:Int):=by omega
          obtain ⟨ad6,hA6,_,hcell6⟩:=(HWVW.out.below hbw).at hNl
          subst hA6
          obtain ⟨s,hs⟩:∃ s,s=ws[N]:=⟨_,rfl⟩
          rw [←hs] at hcell6
          have HP2:=Lib.hid (show zch ws ns=(zch ws (ns.drop (j+1))).map ((acc ++ [s]) ++ ·) by
           rw [HPK.out,HD.out,zix hNl,←hs,Option.map_map]
           congr 1
           funext y
           simp)
          clear hs hNw
          go_wp2_with (at_builtin;refine zX zqr rfl _ _ rfl w5.heap.size _ _ _ (.string s) wq w5 rfl rfl rfl rfl hown hbw hz (by omega) (by omega) ?_)
          intro v7 w7 ho7 hb7 _ _
          have HREL:=Lib.hid (show zl3 ws ns w5 v7 (.int .i64 ((j+1:Nat):Int)) w7 from ⟨j+1,_,hjl,rfl,HP2.out,by rw [List.map_append];exact ho7,hb7⟩)
          clear ho7 hb7 hown hbw
          go_wp2
          go_roundw
          case rel=>exact HREL.out
          case measure=>simp [intOf];omega
        ·obtain rfl:j=M:=by omega
         have hlti2:¬(j:Int) < (nn:Int):=by have:=HNN.out;omega
         have hend:=HPK.out
         rw [List.drop_of_length_le (by rw [HNL.out];exact Nat.le_refl _),zch] at hend
         have HE4:=Lib.hid (show zbP C=(acc,0) by rw [HE3.out,hend];simp)
         have HO:=Lib.hid (show OwnV Value.string 9 w acc _ wq from ⟨_,zjY HBW.out.size hown⟩)
         clear hend hown
         go_wp2
         go_ret2
         rw [HE4.out]
         exact ⟨_,rfl,HO.out,za HBW.out hbw⟩
end Go.Proofs.YtblpkmmhmdpkjaaGreatDoor
