import Derived.Test.YtlibofmpnlfelaaGreatDoorBG10
set_option maxHeartbeats 8000000
set_option maxRecDepth 100000
namespace Go.Proofs.YtlibofmpnlfelaaGreatDoor
open Go.RowKit
theorem zlo {l:List UInt8} {s:Bool} {q:Nat} (h:0 < l.length) (hq:q=l[0].toNat / 64) :
  uone l s=if q=1 then zbh l s else if q=2 then zD l s else if q=3 then zU l s else (List.replicate (zG l s).2.1.toNat (zG l s).1,(zG l s).2.2.1,(zG l s).2.2.2):=by
 cases l with
 | nil=>simp at h
 | cons b r =>
  subst hq
  rfl
theorem zm6 (l:List UInt8) (s:Bool):∃ T:Nat,(zG l s).2.1=(T:Int)∧T≤10:=by
 by_cases h:(zG l s).2.2.2=0
 ·have:=zjX h
  exact ⟨(zG l s).2.1.toNat,by omega,by omega⟩
 ·rw [zom h];exact ⟨0,rfl,by omega⟩
def zm7 (x:Int) (T:Nat) (w:World) (v i:Value) (wr:World):Prop:=
 ∃ (k:Nat) (xs:List Int),k≤T∧i=.int .i64 (k:Int)∧xs=List.replicate k x∧wr.ownsRow w.heap.size 3 1 v k (xs.map iv)∧Below w.heap.size w wr
theorem zpL (l:List UInt8) (v:Value) (s:Bool) (w:World) (hv:IsB l v w) (hb:l.length≤1000000) :
  Calls Tryz.prog 53 #[v,.bool s] w (RetIO w (uone l s)):=by
 have HV:=Lib.hid hv
 have HL6:=Lib.hid hb
 obtain ⟨A,c,rfl,hA,hnc,hcm,hl⟩:=hv
 obtain ⟨n,hn⟩:∃ n,n=l.length:=⟨_,rfl⟩
 rw [←hn] at hA hnc HV ⊢
 have HN:=Lib.hid hn
 by_cases h0:n=0
 ·subst h0
  obtain rfl:l=[]:=List.eq_nil_of_length_eq_zero hn.symm
  clear hn hl hcm hA hnc hb
  go_enter Tryz.func53,Tryz.ntmps53
  go_wp2
  go_ret3
  exact RetIO.nil _ (Below.refl _ _)
 ·have h0i:((n:Int) == 0)=false:=by simp;omega
  have hn0:(0:Int) < (n:Int):=by omega
  have h0l:0 < l.length:=by omega
  obtain ⟨ad,rfl,hadlt,hcell⟩:=hl.cell (k:=0) (by rw [List.length_map];exact h0l)
  obtain ⟨B,hB⟩:∃ B:Nat,B=l[0].toNat:=⟨_,rfl⟩
  have hB8:B < 256:=by rw [hB];exact UInt8.toNat_lt _
  have hc0:w.cell? ad=some (.int .u8 (B:Int)):=by
   have h1:ad.add 0=ad:=by unfold Addr.add;split <;> simp_all
   rw [←h1,hcell,List.getElem_map,hB];rfl
  obtain ⟨q,hq⟩:∃ q,q=B / 64:=⟨_,rfl⟩
  have hqi:(B:Int) / 64=(q:Int):=by omega
  have hq4:q < 4:=by omega
  have hk:=zlo (s:=s) (q:=q) h0l (by rw [hq,hB])
  have HK:=Lib.hid hk
  clear hn hl hcm hA hnc hb hcell hB hq hk hadlt
  rcases (by omega:q=0∨q=1∨q=2∨q=3) with rfl | rfl | rfl | rfl
  ·have HE:Hid (uone l s=(List.replicate (zG l s).2.1.toNat (zG l s).1,(zG l s).2.2.1,(zG l s).2.2.2)):=Lib.hid (by rw [HK.out,if_neg (by decide),if_neg (by decide),if_neg (by decide)])
   obtain ⟨T,hT,hT10⟩:=zm6 l s
   have HT:=Lib.hid (zoX l _ s w HV.out HL6.out)
   obtain ⟨x,t,r,e,he⟩:∃ x t r e,zG l s=(x,t,r,e):=⟨_,_,_,_,rfl⟩
   rw [he] at HT HE hT
   dsimp only at hT
   subst hT
   have HE2:Hid (uone l s=(List.replicate T x,r,e)):=Lib.hid (by rw [HE.out];dsimp only;rw [Int.toNat_natCast])
   clear he HE
   go_enter Tryz.func53,Tryz.ntmps53
   go_wp2_with fail
   refine HT.out.mono ?_
   rintro e1 w1 ⟨rv,rfl,hr,hb1⟩
   have HB:=Lib.hid hb1
   have HR:=Lib.hid hr
   have hst:zm7 x T w1 (.slice (some ⟨w1.heap.size,0,none⟩) 0 0) (.int .i64 0) (w1.alloc (.cells #[] 3)):=⟨0,[],by omega,rfl,rfl,zeG w1 _,(Below.refl _ _).alloc (Nat.le_refl _) _⟩
   have HST:=Lib.hid hst
   clear hb1 hr hst
   go_wp2
   go_loopw [11,12] (zm7 x T w1) (fun _ i _=>T - (intOf i).toNat)
   case atStart=>exact HST.out
   case round =>
    obtain ⟨k,xs,hk,rfl,hxs,hown,hbw⟩:=hrel
    have HXS:=Lib.hid hxs
    clear hxs
    have HSTT:=HST
    clear HST
    have hz:=hbw.size
    by_cases hlt:k < T
    ·have hlti:(k:Int) < (T:Int):=by omega
     go_wp2_with (at_builtin;refine zQ zck rfl _ _ rfl w1.heap.size _ _ _ (iv x) wr w1 rfl rfl rfl rfl hown hbw hz (by omega) (by omega) ?_)
     intro v5 w5 hown5 hb5 _ _
     have HREL:Hid (zm7 x T w1 v5 (.int .i64 ((k:Int)+1)) w5):=Lib.hid ⟨k+1,xs ++ [x],by omega,by go_num,by rw [List.replicate_succ',HXS.out],by rw [List.map_append];exact hown5,hb5⟩
     clear hown5 hown hb5 hbw
     go_wp2
     go_roundw
     case rel=>exact HREL.out
     case measure=>simp [intOf];omega
    ·obtain rfl:k=T:=by omega
     have hlti:¬(k:Int) < (k:Int):=by omega
     have HO:=Lib.hid (zbk (f:=iv) hown)
     have HR2:=Lib.hid (HR.out.below hbw)
     have HB2:=Lib.hid (za HB.out hbw)
     clear hown hbw
     go_wp2
     go_ret3
     rw [HE2.out,←HXS.out]
     exact ⟨_,_,rfl,HO.out,HR2.out,HB2.out⟩
  ·have HE:Hid (uone l s=zbh l s):=Lib.hid (by rw [HK.out,if_pos rfl])
   have HT:=Lib.hid (zo3 l _ s w HV.out HL6.out)
   go_enter Tryz.func53,Tryz.ntmps53
   go_wp2_with fail
   refine HT.out.mono ?_
   rintro e1 w1 ⟨u,rv,rfl,hu,hr,hb1⟩
   have HU:=Lib.hid hu
   have HR:=Lib.hid hr
   have HB:=Lib.hid hb1
   clear hu hr hb1
   go_wp2
   go_ret3
   rw [HE.out]
   exact ⟨_,_,rfl,HU.out,HR.out,HB.out⟩
  ·have HE:Hid (uone l s=zD l s):=Lib.hid (by rw [HK.out,if_neg (by decide),if_pos rfl])
   have HT:=Lib.hid (zmU l _ s w HV.out HL6.out)
   go_enter Tryz.func53,Tryz.ntmps53
   go_wp2_with fail
   refine HT.out.mono ?_
   rintro e1 w1 ⟨u,rv,rfl,hu,hr,hb1⟩
   have HU:=Lib.hid hu
   have HR:=Lib.hid hr
   have HB:=Lib.hid hb1
   clear hu hr hb1
   go_wp2
   go_ret3
   rw [HE.out]
   exact ⟨_,_,rfl,HU.out,HR.out,HB.out⟩
  ·have HE:Hid (uone l s=zU l s):=Lib.hid (by rw [HK.out,if_neg (by decide),if_neg (by decide),if_pos rfl])
   have HT:=Lib.hid (zpd l _ s w HV.out HL6.out)
   go_enter Tryz.func53,Tryz.ntmps53
   go_wp2_with fail
   refine HT.out.mono ?_
   rintro e1 w1 ⟨u,rv,rfl,hu,hr,hb1⟩
   have HU:=Lib.hid hu
   have HR:=Lib.hid hr
   have HB:=Lib.hid hb1
   clear hu hr hb1
   go_wp2
   go_ret3
   rw [HE.out]
   exact ⟨_,_,rfl,HU.out,HR.out,HB.out⟩
theorem zgd {s:Bool} {M f:Nat} {out:List Int} {rest:List UInt8} (h:M≤out.length) (hf:M+1≤out.length+f):zbq s M f out rest=if M < out.length then ([],[],2) else (out,rest,0):=by
 cases f with
 | zero=>rw [zbq,if_pos (by omega)];rfl
 | succ f=>rw [zbq,if_pos h];rfl
theorem zjd {s:Bool} {M f:Nat} {out:List Int} {rest:List UInt8} (h:out.length < M) (he:(uone rest s).2.2≠0):zbq s M (f+1) out rest=([],[],2):=by rw [zbq,if_neg (by omega),if_pos he];rfl
theorem zhX {s:Bool} {M f:Nat} {out:List Int} {rest:List UInt8} (h:out.length < M) (he:(uone rest s).2.2=0):zbq s M (f+1) out rest=zbq s M f (out ++ (uone rest s).1) (uone rest s).2.1:=by rw [zbq,if_neg (by omega),if_neg (by rw [he];simp)]
def RetIOO (w:World) (p:List Int × List UInt8 × Int) (e:Ending) (w':World):Prop:=∃ u v,e=.returned (.tuple #[u,v,.int .i64 p.2.2])∧OwnV iv 3 w p.1 u w'∧OwnB w p.2.1 v w'∧Below w.heap.size w w'
theorem RetIOO.nil {w w':World} (n:Int) (hb:Below w.heap.size w w'):RetIOO w ([],[],n) (.returned (.tuple #[.slice none 0 0,.slice none 0 0,.int .i64 n])) w':=⟨_,_,rfl,OwnV.nil _ _ _ _,OwnB.nil _ _,hb⟩
theorem RetIOO.io {w w':World} {p:List Int × List UInt8 × Int} {e:Ending} (h:RetIOO w p e w'):RetIO w p e w':=by
 obtain ⟨u,v,h1,h2,h3,h4⟩:=h
 exact ⟨u,v,h1,h2.isV,h3,h4⟩
def zjY (res:List Int × List UInt8 × Int) (s:Bool) (M:Nat) (w:World) (ov rv:Value) (wr:World):Prop:=
 ∃ (f:Nat) (out:List Int) (rest:List UInt8),M+1≤out.length+f∧out.length≤5000∧rest.length≤1000000∧zbq s M f out rest=res∧wr.ownsRow w.heap.size 3 1 ov out.length (out.map iv)∧OwnB w rest rv wr∧Below w.heap.size w wr
theorem zfh (l:List UInt8) (v:Value) (many:Int) (s:Bool) (w:World) (hv:IsB l v w) (hb:l.length≤1000000) :
  Calls Tryz.prog 29 #[v,.int .i64 many,.bool s] w (RetIOO w (zB l many s)):=by
 by_cases hm:many < 0∨4096 < many
 ·have hE:Hid (zB l many s=([],[],1)):=Lib.hid (by unfold zB;rw [if_pos hm])
  obtain ⟨A,n,c,rfl⟩:=IsV.shape (f:=bv) hv
  have hd:decide (many < 0)=true∨(decide (many < 0)=false∧decide (4096 < many)=true):=by
   by_cases h:many < 0
   ·exact .inl (decide_eq_true h)
   ·exact .inr ⟨decide_eq_false h,decide_eq_true (by omega)⟩
  clear hm hv hb
  rcases hd with d1 | ⟨d1,d2⟩
  all_goals
   go_enter Tryz.func29,Tryz.ntmps29
   go_wp2
   go_ret3
   rw [hE.out]
   exact RetIOO.nil _ (Below.refl _ _)
 ·obtain ⟨M,rfl⟩:=Int.eq_ofNat_of_zero_le (show 0≤many by omega)
  have hM4:M≤4096:=by omega
  have d1:decide ((M:Int) < 0)=false:=decide_eq_false (by omega)
  have d2:decide ((4096:Int) < (M:Int))=false:=decide_eq_false (by omega)
  have hE:Hid (zB l (M:Int) s=zbq s M (M+1) [] l):=Lib.hid (by unfold zB;rw [if_neg hm,Int.toNat_natCast])
  obtain ⟨A,n,c,rfl⟩:=IsV.shape (f:=bv) hv
  obtain ⟨hn,hA,-,-,hl⟩:=IsV.parts (f:=bv) (show IsV bv l _ _ from hv)
  have HM:=Lib.hid (show (l.map bv).length=n by rw [List.length_map];exact hn)
  have hn6:n≤1000000:=by omega
  have HL6:=Lib.hid hb
  have hownI:=zeG w 3
  have hbI:Below w.heap.size w (w.alloc (.cells #[] 3)):=(Below.refl _ _).alloc (Nat.le_refl _) _
  have hownB:=zbV (by simp:w.heap.size≤(w.alloc (.cells #[] 3)).heap.size) (zeG (w.alloc (.cells #[] 3)) 5)
  rw [show (w.alloc (.cells #[] 3)).heap.size=w.heap.size+1 by simp] at hownB
  have hbB:Below w.heap.size w ((w.alloc (.cells #[] 3)).alloc (.cells #[] 5)):=hbI.alloc (by simp) _
  have hownI2:=hownI.alloc (.cells #[] 5)
  have hlB:=hl.below hbB
  have hzB:=hbB.size
  clear hm hv hb hn hl hownI hbI
  go_enter Tryz.func29,Tryz.ntmps29
  go_wp2_with (at_builtin;go_must (refine zk elemB rfl _ _ rfl w.heap.size _ _ _ _ _ _ (l.map bv) w rfl rfl hA HM.out hlB (zbv l) hownB hbB hzB (by omega) (by omega) ?_))
  intro v2 w2 hown2 hb2 hgr2 _
  have hownI3:=zhd hownI2 hownB (by decide) hgr2
  have hst:zjY (zB l (M:Int) s) s M w (.slice (some ⟨w.heap.size,0,none⟩) 0 0) v2 w2:=⟨M+1,[],l,by simp,by simp,HL6.out,hE.out.symm,hownI3,⟨_,by simpa using hown2⟩,hb2⟩
  have HST:=Lib.hid hst
  clear hst hownI3 hownI2 hownB hown2 hb2 hgr2 hlB hzB hbB hA
  go_wp2
  go_loopw [9,10] (zjY (zB l (M:Int) s) s M w) (fun o _ _=>M - lenOf o)
  case atStart=>exact HST.out
  case round =>
   obtain ⟨f,out,rest,hf,ho5,hr6,hres,hown,hrest,hbw⟩:=hrel
   have HSTT:=HST
   clear HST
   have HRES:=Lib.hid hres
   have HOWN:=Lib.hid hown
   have HREST:=Lib.hid hrest
   have HBW:=Lib.hid hbw
   have HR6:=Lib.hid hr6
   obtain ⟨B,co,rfl,_,_,_,_,_⟩:=zz hown
   obtain ⟨ol,hol⟩:∃ ol,ol=out.length:=⟨_,rfl⟩
   have HOL:=Lib.hid hol
   rw [←hol] at hf ho5 ⊢
   clear hres hown hrest hbw hr6 hol
   by_cases hlt:ol < M
   ·have hlti:(ol:Int) < (M:Int):=by omega
    obtain ⟨f',rfl⟩:∃ f',f=f'+1:=⟨f - 1,by omega⟩
    have HON:=Lib.hid (zpL rest _ s wr HREST.out.isB HR6.out)
    obtain ⟨us,q,e,hu⟩:∃ us q e,uone rest s=(us,q,e):=⟨_,_,_,rfl⟩
    have HU:=Lib.hid hu
    rw [hu] at HON
    clear hu
    go_wp2_with fail
    refine HON.out.mono ?_
    rintro e1 w3 ⟨uv3,rv3,rfl,hu3,hr3,hb3⟩
    have HB3:=Lib.hid (za HBW.out hb3)
    by_cases he:e=0
    ·subst he
     have hbd:=zm4 (b:=rest) (s:=s) (by rw [HU.out])
     rw [HU.out] at hbd
     dsimp only at hbd
     obtain ⟨b1,b2,b3⟩:=hbd
     have hstep:=zhX (s:=s) (M:=M) (f:=f') (out:=out) (rest:=rest) (by rw [←HOL.out];exact hlt) (by rw [HU.out])
     rw [HRES.out,HU.out] at hstep
     dsimp only at hstep
     have hown3:=own_below HOWN.out hb3
     rw [←HOL.out] at hown3
     have hrest3:OwnB w q rv3 w3:=OwnB.base HBW.out.size hr3
     obtain ⟨A5,n5,c5,rfl⟩:=hu3.shape
     obtain ⟨hn5,hA5,-,-,hl5⟩:=IsV.parts (f:=iv) (show IsV iv us _ _ from hu3)
     have HM5:=Lib.hid (show (us.map iv).length=n5 by rw [List.length_map];exact hn5)
     have hn5b:n5≤512:=by omega
     have hn51:1≤n5:=by omega
     have hbw3:=HB3.out
     have hz3:=hbw3.size
     have HSTEP:=Lib.hid hstep
     have HN5:=Lib.hid hn5
     have HQ6:Hid (q.length≤1000000):=Lib.hid (by have:=HR6.out;omega)
     have HREST3:=Lib.hid hrest3
     clear hstep hu3 hr3 hb3 hn5 b1 b2 b3 hrest3
     go_wp2_with (at_builtin;refine zk zck rfl _ _ rfl w.heap.size _ _ _ _ _ _ (us.map iv) w rfl rfl hA5 HM5.out hl5 (zuq (fun _=>rfl) us) hown3 hbw3 hz3 (by omega) (by omega) ?_)
     intro v6 w6 hown6 hb6 hgr6 _
     have HREL:Hid (zjY (zB l (M:Int) s) s M w v6 rv3 w6):=Lib.hid ⟨f',out ++ us,q,by rw [List.length_append,←HOL.out,HN5.out];omega,by rw [List.length_append,←HOL.out,HN5.out];omega,HQ6.out,HSTEP.out.symm,
      by rw [List.length_append,←HOL.out,HN5.out,List.map_append];exact hown6,HREST3.out.elim fun _ h=>⟨_,zhd h hown3 (by decide) hgr6⟩,hb6⟩
     obtain ⟨B6,c6,rfl,_,_,_,_,_⟩:=zz hown6
     clear hown6 hb6 hgr6 hown3 hbw3 hz3 hl5 hA5
     go_wp2
     go_roundw
     case rel=>exact HREL.out
     case measure=>simp [lenOf];omega
    ·have hbad:=zjd (s:=s) (M:=M) (f:=f') (out:=out) (rest:=rest) (by rw [←HOL.out];exact hlt) (by rw [HU.out];exact he)
     rw [HRES.out] at hbad
     have HBD:=Lib.hid hbad
     have d3:(e != 0)=true:=by simpa using he
     clear hbad hu3 hr3 hb3
     go_wp2
     go_ret3
     rw [HBD.out]
     exact RetIOO.nil _ HB3.out
   ·have hlti:¬(ol:Int) < (M:Int):=by omega
    have hend:=zgd (s:=s) (M:=M) (f:=f) (out:=out) (rest:=rest) (by rw [←HOL.out];omega) (by rw [←HOL.out];exact hf)
    rw [HRES.out,←HOL.out] at hend
    by_cases hgt:M < ol
    ·have hgti:(M:Int) < (ol:Int):=by omega
     rw [if_pos hgt] at hend
     have HEND:=Lib.hid hend
     clear hend
     go_wp2
     go_ret3
     rw [HEND.out]
     exact RetIOO.nil _ HBW.out
    ·have hgti:¬(M:Int) < (ol:Int):=by omega
     rw [if_neg hgt] at hend
     have HEND:=Lib.hid hend
     have HO:=Lib.hid (show OwnV iv 3 w out (.slice B ol co) wr from ⟨_,by have h:=HOWN.out;rw [←HOL.out] at h;exact h⟩)
     clear hend
     go_wp2
     go_ret3
     rw [HEND.out]
     exact ⟨_,_,rfl,HO.out,HREST.out,HBW.out⟩
end Go.Proofs.YtlibofmpnlfelaaGreatDoor
namespace Go.Proofs.YtlibofmpnlfelaaGreatDoor
def Took {β:Type} (n:Nat) (f:List UInt8→β) (ans:List UInt8→β) (l q:List UInt8):Prop:=∃ a:List UInt8,l=a ++ q∧a.length≤n∧∀ r,f (a ++ r)=ans r
theorem zcF {l q:List UInt8} {M W:Int} {us:List Nat} (h:zg l M W=(us,q,0)):Took (8*M.toNat) (fun l=>zg l M W) (fun r=>(us,r,0)) l q:=by
 unfold zg at h
 split at h
 ·rename_i hc
  unfold zbt at h
  split at h
  ·injection h with _ h;injection h with _ h;cases h
  ·rename_i h1
   split at h
   ·rename_i h2
    injection h with h3 h;injection h with h4 _
    have hW:W.toNat≤64:=by omega
    have hs:=zhW (n:=M.toNat) hW
    have htl:(l.take (zT M.toNat W.toNat)).length=zT M.toNat W.toNat:=by rw [List.length_take];omega
    refine ⟨l.take (zT M.toNat W.toNat),by rw [←h4,List.take_append_drop],by omega,fun r=>?_⟩
    have e1:(l.take (zT M.toNat W.toNat) ++ r).take (zT M.toNat W.toNat)=l.take (zT M.toNat W.toNat):=by rw [List.take_append_of_le_length (by omega),List.take_of_length_le (by omega)]
    have e2:(l.take (zT M.toNat W.toNat) ++ r).drop (zT M.toNat W.toNat)=r:=by
     rw [List.drop_append_of_le_length (by omega),List.drop_of_length_le (by omega),List.nil_append]
    unfold zg
    dsimp only
    rw [if_pos hc]
    unfold zbt
    rw [if_neg (by rw [List.length_append,htl];omega),e1,e2,if_pos h2,h3]
   ·injection h with _ h;injection h with _ h;cases h
 ·injection h with _ h;injection h with _ h;cases h
theorem zhY {l q:List UInt8} {k c m:Int} (h:zp l=(k,c,m,q,0)):Took 2 zp (fun r=>(k,c,m,r,0)) l q:=by
 unfold zp at h
 split at h
 ·injection h with _ h;injection h with _ h;injection h with _ h;injection h with _ h;cases h
 ·rename_i h1
  injection h with hk h;injection h with hc h;injection h with hm h;injection h with hq _
  have htl:(l.take 2).length=2:=by rw [List.length_take];omega
  refine ⟨l.take 2,by rw [←hq,List.take_append_drop],by omega,fun r=>?_⟩
  have e1:(l.take 2 ++ r).take 2=l.take 2:=by rw [List.take_append_of_le_length (by omega),List.take_of_length_le (by omega)]
  have e2:(l.take 2 ++ r).drop 2=r:=by rw [List.drop_append_of_le_length (by omega),List.drop_of_length_le (by omega),List.nil_append]
  unfold zp
  rw [if_neg (by rw [List.length_append,htl];omega),e1,e2,hk,hc,hm]
theorem zlp {l q:List UInt8} {s:Bool} {x:Int} (h:zbC l s=some (x,q)):Took 10 (fun l=>zbC l s) (fun r=>some (x,r)) l q:=by
 cases ht:zby l with
 | none=>rw [zf1 s ht] at h;cases h
 | some p =>
  obtain ⟨u,r0⟩:=p
  obtain ⟨h1,h2⟩:=zcv ht
  have h10:=zbE h2
  cases s with
  | true =>
   rw [zdx ht] at h
   injection h with h;injection h with h3 h4
   subst h4
   refine ⟨vput u,h1,h10,fun r=>?_⟩
   dsimp only
   rw [zdx (zek h2 r),h3]
  | false =>
   by_cases hu:(u:Int) < 9223372036854775808
   ·rw [zcZ ht hu] at h
    injection h with h;injection h with h3 h4
    subst h4
    refine ⟨vput u,h1,h10,fun r=>?_⟩
    dsimp only
    rw [zcZ (zek h2 r) hu,h3]
   ·rw [zhp ht (by omega)] at h
    cases h
theorem Took.mono {β:Type} {m n:Nat} {f g:List UInt8→β} {l q:List UInt8} (h:Took m f g l q) (hn:m≤n):Took n f g l q:=by
 obtain ⟨a,h1,h2,h3⟩:=h
 exact ⟨a,h1,by omega,h3⟩
theorem zr7 {b:List UInt8} {s:Bool} (h:(zG b s).2.2.2=0):Took 9 (fun b=>zG b s) (fun r=>((zG b s).1,(zG b s).2.1,r,0)) b (zG b s).2.2.1:=by
 cases b with
 | nil=>cases h
 | cons c r =>
  obtain ⟨n,hn⟩:∃ n,n=c.toNat / 8+1:=⟨_,rfl⟩
  unfold zG at h ⊢
  dsimp only at h ⊢
  rw [←hn] at h ⊢
  split at h
  ·cases h
  ·rename_i h1
   rw [if_neg h1]
   split at h
   ·cases h
   ·rename_i h2
    rw [if_neg h2]
    split at h
    ·cases h
    ·rename_i h3
     rw [if_neg h3]
     cases hm:zbf (bval (r.take n)) s with
     | none=>rw [hm] at h;cases h
     | some x =>
      dsimp only
      have htl:(r.take n).length=n:=by rw [List.length_take];omega
      refine ⟨c::r.take n,by rw [List.cons_append,List.take_append_drop],by rw [List.length_cons];omega,fun t=>?_⟩
      have e1:(r.take n ++ t).take n=r.take n:=by rw [List.take_append_of_le_length (by omega),List.take_of_length_le (by omega)]
      have e2:(r.take n ++ t).drop n=t:=by rw [List.drop_append_of_le_length (by omega),List.drop_of_length_le (by omega),List.nil_append]
      rw [List.cons_append]
      dsimp only
      rw [←hn,if_neg h1,if_neg (by rw [List.length_append,htl];omega),e1,e2,if_neg h3,hm]
theorem zr8 {b:List UInt8} {s:Bool} (h:(zbh b s).2.2=0):Took 4098 (fun b=>zbh b s) (fun r=>((zbh b s).1,r,0)) b (zbh b s).2.1:=by
 obtain ⟨K,C,M,r,x,hd⟩:∃ K C M r x,zp b=(K,C,M,r,x):=⟨_,_,_,_,_,rfl⟩
 have hbd:=zcS b
 rw [hd] at hbd
 dsimp only at hbd
 have e0:=h
 unfold zbh at h
 rw [hd] at h
 dsimp only at h
 split at h
 ·cases h
 ·rename_i hn
  have hx:x=0:=Decidable.not_not.1 fun h2=>hn (.inl h2)
  have hK:K=1:=Decidable.not_not.1 fun h2=>hn (.inr h2)
  subst hx hK
  obtain ⟨u,q,e,hu⟩:∃ u q e,zg r M (wof C)=(u,q,e):=⟨_,_,_,rfl⟩
  rw [hu] at h
  dsimp only at h
  split at h
  ·cases h
  ·rename_i he
   have he0:e=0:=Decidable.not_not.1 he
   subst he0
   cases hm:zeW u s with
   | none=>rw [hm] at h;cases h
   | some o =>
    obtain ⟨a1,p1,p2,p3⟩:=zhY hd
    obtain ⟨a2,q1,q2,q3⟩:=zcF hu
    rw [zen hd hu hm]
    refine ⟨a1 ++ a2,by rw [List.append_assoc,←q1,←p1],by rw [List.length_append];omega,fun t=>?_⟩
    dsimp only
    rw [List.append_assoc]
    exact zen (p3 _) (q3 t) hm
theorem zr9 {b:List UInt8} {s:Bool} (h:(zD b s).2.2=0):Took 4356 (fun b=>zD b s) (fun r=>((zD b s).1,r,0)) b (zD b s).2.1:=by
 obtain ⟨K,C,M,r,x,hd⟩:∃ K C M r x,zp b=(K,C,M,r,x):=⟨_,_,_,_,_,rfl⟩
 have hbd:=zcS b
 rw [hd] at hbd
 dsimp only at hbd
 by_cases hk:x≠0∨K≠2
 ·rw [zc8 (by rw [hd];exact hk)] at h;cases h
 ·obtain rfl:x=0:=Decidable.not_not.1 fun h2=>hk (.inl h2)
  obtain rfl:K=2:=Decidable.not_not.1 fun h2=>hk (.inr h2)
  have hM:=zeP hd
  rw [zdH hd] at h ⊢
  obtain ⟨m,rfl⟩:=zol (show 0≤M by omega)
  by_cases h2:r.length < 2
  ·rw [zd4 h2] at h;cases h
  ·obtain ⟨c0,r0,rfl⟩:∃ c r',r=c::r':=by cases r with | nil=>simp at h2 | cons c r'=>exact ⟨c,r',rfl⟩
   obtain ⟨c1,r1,rfl⟩:∃ c r',r0=c::r':=by cases r0 with | nil=>simp at h2 | cons c r'=>exact ⟨c,r',rfl⟩
   obtain ⟨p,hp⟩:=zjT (c0.toNat % 32)
   have hfo:∀ t:List UInt8,ziq s C (m:Int) (c0::c1::t)=if 64 < c1.toNat / 32+1+p∨t.length < c0.toNat / 32+1 then gbad else zf9 s (zdF (t.take (c0.toNat / 32+1))) C (m:Int) (c1.toNat / 32+1) p (c1.toNat % 32) (t.drop (c0.toNat / 32+1)):=by
    intro t
    unfold ziq
    rw [if_neg (by simp)]
    simp only [List.getD_cons_zero,List.getD_cons_succ,List.length_cons,hp,Int.toNat_natCast,List.drop_succ_cons,List.drop_zero,show t.length+1+1 - 2=t.length from by omega]
   rw [hfo] at h ⊢
   split at h
   ·cases h
   ·rename_i hg
    rw [if_neg hg]
    obtain ⟨n,hn⟩:∃ n,n=c0.toNat / 32+1:=⟨_,rfl⟩
    have hn8:n≤8:=by have:=c0.toNat_lt;omega
    have ht31:c1.toNat % 32≤31:=by omega
    rw [←hn] at h hg ⊢
    have hrl:n≤r1.length:=Nat.not_lt.1 fun h=>hg (.inr h)
    have htl:(r1.take n).length=n:=by rw [List.length_take];omega
    obtain ⟨us,q1,e1,hu⟩:∃ u q e,zg (r1.drop n) (m:Int) (wof C)=(u,q,e):=⟨_,_,_,rfl⟩
    by_cases he1:e1=0
    ·subst he1
     obtain ⟨vs,q2,e2,hv⟩:∃ u r e,zg q1 ((c1.toNat % 32:Nat):Int) (zh ((c1.toNat / 32+1+p:Nat):Int))=(u,r,e):=⟨_,_,_,rfl⟩
     by_cases he2:e2=0
     ·subst he2
      obtain ⟨a1,p1,p2,p3⟩:=zhY hd
      obtain ⟨a2,u1,u2,u3⟩:=zcF hu
      obtain ⟨a3,v1,v2,v3⟩:=zcF hv
      rw [Int.toNat_natCast] at u2 v2
      rw [zfN hu hv] at h ⊢
      cases hpa:pall (wof C).toNat (c1.toNat / 32+1) p (m:Int).toNat (0,us) vs with
      | none=>rw [zdI hpa] at h;cases h
      | some st =>
       obtain ⟨a,lf⟩:=st
       rw [zeq hpa] at h ⊢
       cases ho:omap (zbl s false (zdF (r1.take n))) lf with
       | none=>rw [ho] at h;cases h
       | some xs =>
        dsimp only
        have hr1:r1=r1.take n ++ (a2 ++ (a3 ++ q2)):=by rw [←v1,←u1,List.take_append_drop]
        refine ⟨a1 ++ (c0::c1::r1.take n) ++ a2 ++ a3,?_,?_,fun t=>?_⟩
        ·rw [p1]
         simp only [List.append_assoc,List.cons_append]
         rw [←hr1]
        ·simp only [List.length_append,List.length_cons,htl]
         omega
        ·have e1:(a1 ++ (c0::c1::r1.take n) ++ a2 ++ a3) ++ t=a1 ++ (c0::c1::(r1.take n ++ (a2 ++ (a3 ++ t)))):=by simp only [List.append_assoc,List.cons_append]
         have e2:(r1.take n ++ (a2 ++ (a3 ++ t))).take n=r1.take n:=by rw [List.take_append_of_le_length (by omega),List.take_of_length_le (by omega)]
         have e3:(r1.take n ++ (a2 ++ (a3 ++ t))).drop n=a2 ++ (a3 ++ t):=by rw [List.drop_append_of_le_length (by omega),List.drop_of_length_le (by omega),List.nil_append]
         dsimp only
         rw [e1,zdH (p3 _),hfo,←hn,if_neg (by
          rintro (h | h)
          ·exact hg (.inl h)
          ·rw [List.length_append,htl] at h;omega),e2,e3,zfN (u3 _) (v3 t),zeq hpa,ho]
     ·rw [zeQ hu hv he2] at h;cases h
    ·rw [zfM hu he1] at h;cases h
theorem zon {s f:Bool} {x:Int} {us:List Nat} {q:List UInt8} (h:(gend s f x us q).2.2=0):(gend s f x us q).2.1=q∧∀ r,gend s f x us r=((gend s f x us q).1,r,0):=by
 unfold gend at h ⊢
 cases hw:zbp s f x us with
 | none=>rw [hw] at h;cases h
 | some ys=>exact ⟨rfl,fun r=>rfl⟩
theorem zsa {b:List UInt8} {s:Bool} (h:(zU b s).2.2=0):Took 4118 (fun b=>zU b s) (fun r=>((zU b s).1,r,0)) b (zU b s).2.1:=by
 obtain ⟨K,C,M,r,x,hd⟩:∃ K C M r x,zp b=(K,C,M,r,x):=⟨_,_,_,_,_,rfl⟩
 have hbd:=zcS b
 rw [hd] at hbd
 dsimp only at hbd
 by_cases hk:x≠0∨K≠3∨M < 2
 ·rw [zce (by rw [hd];exact hk)] at h;cases h
 ·obtain rfl:x=0:=Decidable.not_not.1 fun h2=>hk (.inl h2)
  obtain rfl:K=3:=Decidable.not_not.1 fun h2=>hk (.inr (.inl h2))
  have hM2:2≤M:=Int.not_lt.1 fun h2=>hk (.inr (.inr h2))
  rw [zdA hd hM2] at h ⊢
  cases h1:zbC r s with
  | none=>rw [zeM h1] at h;cases h
  | some p =>
   obtain ⟨x0,r1⟩:=p
   cases h2:zbC r1 true with
   | none=>rw [zd1 h1 h2] at h;cases h
   | some p2 =>
    obtain ⟨dd,r2⟩:=p2
    obtain ⟨u,f,o,hg⟩:∃ u f o,zC 0 dd=(u,f,o):=⟨_,_,_,rfl⟩
    obtain ⟨a1,p1,p2,p3⟩:=zhY hd
    obtain ⟨a2,s1,s2,s3⟩:=zlp h1
    obtain ⟨a3,t1,t2,t3⟩:=zlp h2
    dsimp only at s3 t3
    rw [zcx h1 h2 hg] at h ⊢
    cases o with
    | false=>cases h
    | true =>
     have key:∀ q,(if true=true then zeX s f x0 u C M q else ([],[],2))=zeX s f x0 u C M q:=fun _=>if_pos rfl
     try rw [key] at h
     try rw [key]
     by_cases hC:0 < C
     ·obtain ⟨us,q,e,hu⟩:∃ us q e,zg r2 (M - 2) (wof C)=(us,q,e):=⟨_,_,_,rfl⟩
      by_cases he:e=0
      ·subst he
       rw [zdC hC hu] at h ⊢
       obtain ⟨a4,u1,u2,u3⟩:=zcF hu
       obtain ⟨e1,e2⟩:=zon h
       rw [e1]
       refine ⟨a1 ++ (a2 ++ (a3 ++ a4)),by rw [p1,s1,t1,u1];simp only [List.append_assoc],by simp only [List.length_append];omega,fun t=>?_⟩
       dsimp only
       simp only [List.append_assoc]
       rw [zdA (p3 _) hM2,zcx (s3 _) (t3 _) hg]
       try rw [key]
       rw [zdC hC (u3 t),e2]
      ·rw [zfF hC hu he] at h;cases h
     ·rw [zdB hC] at h ⊢
      obtain ⟨e1,e2⟩:=zon h
      rw [e1]
      refine ⟨a1 ++ (a2 ++ a3),by rw [p1,s1,t1];simp only [List.append_assoc],by simp only [List.length_append];omega,fun t=>?_⟩
      dsimp only
      simp only [List.append_assoc]
      rw [zdA (p3 _) hM2,zcx (s3 _) (t3 _) hg]
      try rw [key]
      rw [zdB hC,e2]
theorem zt0 {β:Type} {n:Nat} {f:List UInt8→β} {ans:List UInt8→β} {l q:List UInt8} (h:Took n f ans l q):f (l.take n)=ans ((l.take n).drop (l.length - q.length))∧(l.take n).length - ((l.take n).drop (l.length - q.length)).length=l.length - q.length∧l.drop (l.length - q.length)=q∧f l=ans q:=by
 obtain ⟨a,rfl,h2,h3⟩:=h
 have h4:(a ++ q).length - q.length=a.length:=by rw [List.length_append];omega
 rw [h4]
 have e1:(a ++ q).take n=a ++ q.take (n - a.length):=by rw [List.take_append,List.take_of_length_le h2]
 have e2:(a ++ q.take (n - a.length)).drop a.length=q.take (n - a.length):=by simp
 rw [e1,e2]
 refine ⟨h3 _,?_,by simp,h3 _⟩
 rw [List.length_append]
 omega
theorem zsb {β:Type} {n:Nat} {f:List UInt8→β} {ans:List UInt8→β} {l:List UInt8} {q:List UInt8} {k:Nat} (h:Took n f ans (l.take k) q):f l=ans (q ++ l.drop k)∧Took n f ans l (q ++ l.drop k):=by
 obtain ⟨a,h1,h2,h3⟩:=h
 have e:l=a ++ (q ++ l.drop k):=by
  rw [←List.append_assoc,←h1,List.take_append_drop]
 refine ⟨?_,a,e,h2,h3⟩
 have:=h3 (q ++ l.drop k)
 rw [←e] at this
 exact this
theorem zt1 (s:Bool):uone [] s=([],[],2):=rfl
theorem zdK {c:UInt8} {a r:List UInt8} {s:Bool}:uone (c::a ++ r) s=if c.toNat / 64=1 then zbh (c::a ++ r) s else if c.toNat / 64=2 then zD (c::a ++ r) s else if c.toNat / 64=3 then zU (c::a ++ r) s
  else (List.replicate (zG (c::a ++ r) s).2.1.toNat (zG (c::a ++ r) s).1,(zG (c::a ++ r) s).2.2.1,(zG (c::a ++ r) s).2.2.2):=rfl
theorem zge {c:UInt8} {b q:List UInt8} {n:Nat} {f:List UInt8→List Int × List UInt8 × Int} {xs:List Int} (h:Took n f (fun r=>(xs,r,0)) (c::b) q) (h0:(f []).2.2≠0):∃ a,b=a ++ q∧a.length+1≤n∧∀ r,f (c::a ++ r)=(xs,r,0):=by
 obtain ⟨a,h1,h2,h3⟩:=h
 cases a with
 | nil =>
  have h4:=h3 []
  rw [List.append_nil] at h4
  rw [h4] at h0
  exact absurd rfl h0
 | cons d a =>
  rw [List.cons_append] at h1
  injection h1 with h4 h5
  subst h4
  exact ⟨a,h5,h2,h3⟩
theorem zoo {b:List UInt8} {s:Bool} (h:(uone b s).2.2=0):Took 4356 (fun b=>uone b s) (fun r=>((uone b s).1,r,0)) b (uone b s).2.1:=by
 cases b with
 | nil=>cases h
 | cons c b =>
  have hb:=zdK (c:=c) (a:=b) (r:=[]) (s:=s)
  rw [List.append_nil] at hb
  by_cases h1:c.toNat / 64=1
  ·rw [if_pos h1] at hb
   rw [hb] at h ⊢
   obtain ⟨a,h4,h5,h6⟩:=zge (zr8 h) (by unfold zbh zp;simp)
   refine ⟨c::a,by rw [List.cons_append,←h4],by rw [List.length_cons];omega,fun r=>?_⟩
   dsimp only
   rw [zdK,if_pos h1,h6]
  ·rw [if_neg h1] at hb
   by_cases h2:c.toNat / 64=2
   ·rw [if_pos h2] at hb
    rw [hb] at h ⊢
    obtain ⟨a,h4,h5,h6⟩:=zge (zr9 h) (by unfold zD zp;simp [gbad])
    refine ⟨c::a,by rw [List.cons_append,←h4],by rw [List.length_cons];omega,fun r=>?_⟩
    dsimp only
    rw [zdK,if_neg h1,if_pos h2,h6]
   ·rw [if_neg h2] at hb
    by_cases h3:c.toNat / 64=3
    ·rw [if_pos h3] at hb
     rw [hb] at h ⊢
     obtain ⟨a,h4,h5,h6⟩:=zge (zsa h) (by unfold zU zp;simp [gbad])
     refine ⟨c::a,by rw [List.cons_append,←h4],by rw [List.length_cons];omega,fun r=>?_⟩
     dsimp only
     rw [zdK,if_neg h1,if_neg h2,if_pos h3,h6]
    ·rw [if_neg h3] at hb
     rw [hb] at h ⊢
     dsimp only at h ⊢
     obtain ⟨a,h4,h5,h6⟩:=zr7 h
     cases a with
     | nil =>
      have h7:=h6 []
      dsimp only at h7
      rw [List.append_nil] at h7
      have h8:=congrArg (fun p=>p.2.2.2) h7
      simp [zG] at h8
     | cons d a =>
      rw [List.cons_append] at h4
      injection h4 with h7 h8
      subst h7
      refine ⟨c::a,by rw [List.cons_append,←h8],by omega,fun r=>?_⟩
      have h9:=h6 r
      dsimp only at h9 ⊢
      rw [zdK,if_neg h1,if_neg h2,if_neg h3,h9]
theorem zpM {b sh:List UInt8} {s:Bool} (hs:sh=b.take 4356):((uone sh s).2.2≠0→(uone b s).2.2≠0)∧((uone sh s).2.2=0→(uone sh s).2.1.length≤sh.length∧uone b s=((uone sh s).1,b.drop (sh.length - (uone sh s).2.1.length),0)):=by
 subst hs
 refine ⟨fun h h2=>?_,fun h=>?_⟩
 ·have h3:=(zt0 (zoo h2)).1
  try dsimp only at h3
  rw [h3] at h
  exact h rfl
 ·obtain ⟨q,hq⟩:∃ q,q=(uone (b.take 4356) s).2.1:=⟨_,rfl⟩
  have h1:=zoo h
  rw [←hq] at h1 ⊢
  obtain ⟨a,h3,h4,h5⟩:=h1
  obtain ⟨h6,-⟩:=zsb (n:=4356) (f:=fun b=>uone b s) (ans:=fun r=>((uone (b.take 4356) s).1,r,0)) (k:=4356) (l:=b) ⟨a,h3,h4,h5⟩
  try dsimp only at h6
  have hl:(b.take 4356).length=a.length+q.length:=by rw [h3,List.length_append]
  refine ⟨by omega,?_⟩
  rw [h6,hl,Nat.add_sub_cancel]
  congr 2
  have e:b=a ++ (q ++ b.drop 4356):=by rw [←List.append_assoc,←h3,List.take_append_drop]
  have e2:b.drop a.length=(a ++ (q ++ b.drop 4356)).drop a.length:=by rw [←e]
  rw [e2,List.drop_left]
def zbz:Option (List UInt8)→List UInt8 × Int→Option (List UInt8)
 | none,p=>if p.2=0 then some p.1 else none
 | some a,p=>if p.2=0∧p.1.length < a.length then some p.1 else some a
def uans:Option (List UInt8)→List UInt8 × Int
 | none=>([],1)
 | some a=>(a,0)
theorem zbA {o:Option (List UInt8)} {p:List UInt8 × Int} (h:p.2≠0):zbz o p=o:=by
 cases o with
 | none=>exact if_neg h
 | some a=>exact if_neg fun h2=>h h2.1
theorem zbI {p:List UInt8 × Int} (h:p.2=0):zbz none p=some p.1:=if_pos h
theorem zbB {a:List UInt8} {p:List UInt8 × Int} (h:p.2=0) (h2:p.1.length < a.length):zbz (some a) p=some p.1:=if_pos ⟨h,h2⟩
theorem zb0 {a:List UInt8} {p:List UInt8 × Int} (h2:¬p.1.length < a.length):zbz (some a) p=some a:=if_neg fun h=>h2 h.2
theorem zpN (o x:Option (List UInt8)) (c:List UInt8 × Int):zbz o (uans (zbz x c))=zbz (zbz o (uans x)) c:=by
 by_cases hc:c.2=0
 ·cases x with
  | none =>
   rw [zbI hc,zbA (o:=o) (p:=uans none) (by simp [uans])]
   have e:uans (some c.1)=c:=by rw [uans,←hc]
   rw [e]
  | some x =>
   have e:uans (some c.1)=c:=by rw [uans,←hc]
   by_cases h1:c.1.length < x.length
   ·rw [zbB hc h1,e]
    cases o with
    | none=>rw [zbI (p:=uans (some x)) rfl,zbI hc,zbB (a:=(uans (some x)).1) hc h1]
    | some o =>
     by_cases h2:x.length < o.length
     ·rw [zbB (p:=uans (some x)) rfl h2,zbB hc (by omega),zbB (a:=(uans (some x)).1) hc h1]
     ·rw [zb0 (p:=uans (some x)) h2]
   ·rw [zb0 h1]
    cases o with
    | none=>rw [zbI (p:=uans (some x)) rfl,zb0 (a:=(uans (some x)).1) h1]
    | some o =>
     by_cases h2:x.length < o.length
     ·rw [zbB (p:=uans (some x)) rfl h2,zb0 (a:=(uans (some x)).1) h1]
     ·rw [zb0 (p:=uans (some x)) h2,zb0 (by omega)]
 ·rw [zbA (o:=x) hc,zbA hc]
theorem zpO (L:List (List UInt8 × Int)):∀ (o x:Option (List UInt8)),zbz o (uans (L.foldl zbz x))=L.foldl zbz (zbz o (uans x)):=by
 induction L with
 | nil=>intro o x;rfl
 | cons c L ih =>
  intro o x
  rw [List.foldl_cons,List.foldl_cons,ih,zpN]
theorem zfP {L:List (List UInt8 × Int)} (h:∀ p∈L,p.2≠0) (o:Option (List UInt8)):L.foldl zbz o=o:=by
 induction L generalizing o with
 | nil=>rfl
 | cons c L ih=>rw [List.foldl_cons,zbA (h c List.mem_cons_self),ih fun p hp=>h p (List.mem_cons_of_mem _ hp)]
theorem zpP {L:List (List UInt8 × Int)}:∀ {o:Option (List UInt8)},((∃ a,o=some a)∨∃ p∈L,p.2=0)→∃ a,L.foldl zbz o=some a:=by
 induction L with
 | nil =>
  rintro o (h | ⟨p,hp,_⟩)
  ·exact h
  ·cases hp
 | cons c L ih =>
  rintro o h
  rw [List.foldl_cons]
  refine ih ?_
  rcases h with ⟨a,rfl⟩ | ⟨p,hp,h0⟩
  ·left;unfold zbz;dsimp only;split <;> exact ⟨_,rfl⟩
  ·rcases List.mem_cons.1 hp with rfl | hp
   ·left
    cases o with
    | none=>exact ⟨_,zbI h0⟩
    | some a=>unfold zbz;dsimp only;split <;> exact ⟨_,rfl⟩
   ·exact .inr ⟨p,hp,h0⟩
theorem zfQ {L:List (List UInt8 × Int)}:∀ {o:Option (List UInt8)},(∀ p∈L,p.2=0→p.1.length≠0)→(∀ a,o=some a→a.length≠0)→L.foldl zbd (o.getD [])=(L.foldl zbz o).getD []:=by
 induction L with
 | nil=>intro o _ _;rfl
 | cons c L ih =>
  intro o h1 h2
  rw [List.foldl_cons,List.foldl_cons]
  have hc:=h1 c List.mem_cons_self
  have e:zbd (o.getD []) c=(zbz o c).getD []:=by
   unfold zbd
   cases o with
   | none =>
    by_cases h:c.2=0
    ·rw [zbI h,if_pos ⟨h,.inl rfl⟩];rfl
    ·rw [zbA h,if_neg fun h3=>h h3.1]
   | some a =>
    have ha:=h2 a rfl
    by_cases h:c.2=0∧c.1.length < a.length
    ·rw [zbB h.1 h.2,if_pos ⟨h.1,.inr h.2⟩];rfl
    ·rw [if_neg fun h3=>h ⟨h3.1,h3.2.resolve_left ha⟩]
     by_cases h4:c.2=0
     ·rw [zb0 fun h5=>h ⟨h4,h5⟩]
     ·rw [zbA h4]
  rw [e]
  refine ih (fun p hp=>h1 p (List.mem_cons_of_mem _ hp)) fun a ha=>?_
  cases o with
  | none =>
   by_cases h:c.2=0
   ·rw [zbI h] at ha;injection ha with ha;rw [←ha];exact hc h
   ·rw [zbA h] at ha;cases ha
  | some b =>
   by_cases h:c.2=0∧c.1.length < b.length
   ·rw [zbB h.1 h.2] at ha;injection ha with ha;rw [←ha];exact hc h.1
   ·have e2:zbz (some b) c=some b:=if_neg h
    rw [e2] at ha
    exact h2 a ha
theorem zet {p:List UInt8 × Int} (h:p.2=0):p=(p.1,0):=by rw [←h]
def urep (l:List Int) (s:Bool):List UInt8 × Int:=if l.length=0∨zb3 l < l.length then ([],1) else eput (l.headD 0) l.length s
def zpQ (l:List Int) (s:Bool):List (List UInt8 × Int):=(List.range 31).map fun c:Nat=>zcN l (wof (c:Int)) s
def upat (l:List Int) (s:Bool):List UInt8 × Int:=uans ((zpQ l s).foldl zbz none)
def zeb (l:List Int) (s:Bool):List (List UInt8 × Int):=[urep l s,zdY l s,zeo l s,upat l s]
theorem zt2 {l:List Int} {s:Bool} (h:(urep l s).2=0):(urep l s).1.length≠0:=by
 unfold urep at h ⊢
 split
 ·rename_i h1;rw [if_pos h1] at h;cases h
 ·rename_i h1
  rw [if_neg h1] at h
  obtain ⟨_,_,u,_,hb⟩:=zd5 (b:=(eput (l.headD 0) l.length s).1) (zet h)
  rw [hb,zgQ]
  omega
theorem zsc {x t:Int} {s:Bool} (h:(eput x t s).2=0):(eput x t s).1.length≠0:=by
 obtain ⟨_,_,u,_,hb⟩:=zd5 (b:=(eput x t s).1) (zet h)
 rw [hb,zgQ]
 omega
theorem zlq {l:List Int} {s:Bool} (h:(zdY l s).2=0):(zdY l s).1.length≠0:=by
 obtain ⟨_,_,u,_,hb⟩:=zff (b:=(zdY l s).1) (zet h)
 rw [hb]
 unfold dlay
 rw [List.length_append,zV]
 omega
theorem zlr {l:List Int} {s:Bool} (h:(zeo l s).2=0):(zeo l s).1.length≠0:=by
 obtain ⟨_,_,_,u,_,hb⟩:=zfg (b:=(zeo l s).1) (zet h)
 rw [hb]
 unfold glay
 simp only [List.length_append,zV]
 omega
theorem zhZ {l:List Int} {W:Int} {s:Bool} (h:(zcN l W s).2=0):(zcN l W s).1.length≠0:=by
 obtain ⟨us,_,_,_,_,_,_,_,_,hb⟩:=zoj (b:=(zcN l W s).1) (zet h)
 rw [hb]
 unfold play
 simp only [List.length_append,zV]
 omega
theorem zpR {l:List Int} {s:Bool}:∀ p∈zcP l s,p.2=0→p.1.length≠0:=by
 intro p hp
 unfold zcP zhV at hp
 simp only [List.mem_append,List.mem_cons,List.mem_map,List.mem_range,List.not_mem_nil,or_false] at hp
 rcases hp with (hp | rfl | rfl) | ⟨c,hc,rfl⟩
 ·split at hp
  ·rw [List.mem_singleton] at hp
   subst hp
   exact zsc
  ·cases hp
 ·exact zlq
 ·exact zlr
 ·exact zhZ
theorem zls {l:List Int} {s:Bool}:∀ p∈zpQ l s,p.2=0→p.1.length≠0:=by
 intro p hp
 unfold zpQ at hp
 simp only [List.mem_map,List.mem_range] at hp
 obtain ⟨c,hc,rfl⟩:=hp
 exact zhZ
theorem zt3 {l:List Int} {s:Bool} (h:(upat l s).2=0):(upat l s).1.length≠0:=by
 have h1:=zfQ (o:=none) (zls (l:=l) (s:=s)) (fun a h=>by cases h)
 unfold upat at h ⊢
 cases ho:(zpQ l s).foldl zbz none with
 | none=>rw [ho] at h;cases h
 | some a =>
  have key:∀ (L:List (List UInt8 × Int)) (o:Option (List UInt8)),(∀ p∈L,p.2=0→p.1.length≠0)→(∀ a,o=some a→a.length≠0)→∀ a,L.foldl zbz o=some a→a.length≠0:=by
   intro L
   induction L with
   | nil=>intro o _ h a ha;exact h a ha
   | cons c L ih =>
    intro o h1 h2 a ha
    rw [List.foldl_cons] at ha
    refine ih _ (fun p hp=>h1 p (List.mem_cons_of_mem _ hp)) (fun b hb=>?_) a ha
    have hc:=h1 c List.mem_cons_self
    cases o with
    | none =>
     by_cases h:c.2=0
     ·rw [zbI h] at hb;injection hb with hb;rw [←hb];exact hc h
     ·rw [zbA h] at hb;cases hb
    | some d =>
     by_cases h:c.2=0∧c.1.length < d.length
     ·rw [zbB h.1 h.2] at hb;injection hb with hb;rw [←hb];exact hc h.1
     ·rw [show zbz (some d) c=some d from if_neg h] at hb
      exact h2 b hb
  exact key _ _ zls (fun a h=>by cases h) a ho
theorem zpS {l:List Int} {s:Bool}:∀ p∈zeb l s,p.2=0→p.1.length≠0:=by
 intro p hp
 unfold zeb at hp
 simp only [List.mem_cons,List.not_mem_nil,or_false] at hp
 rcases hp with rfl | rfl | rfl | rfl
 ·exact zt2
 ·exact zlq
 ·exact zlr
 ·exact zt3
theorem zsd {l:List Int} (h:¬(l.length=0∨zb3 l < l.length)):l=List.replicate l.length (l.headD 0):=by
 cases l with
 | nil=>exact absurd (.inl rfl) h
 | cons x r =>
  have h1:=zja (x:=x) (r:=r) (k:=(x::r).length) (Nat.not_lt.1 fun h2=>h (.inr h2))
  rw [List.take_of_length_le (Nat.le_refl _)] at h1
  rw [List.headD_cons]
  exact h1
theorem zjZ {l:List Int} {s:Bool} (h:zy l s=none∨l.length < 1∨512 < l.length):∀ p∈zeb l s,p.2≠0:=by
 intro p hp h0
 unfold zeb at hp
 simp only [List.mem_cons,List.not_mem_nil,or_false] at hp
 rcases hp with rfl | rfl | rfl | rfl
 ·unfold urep at h0
  split at h0
  ·cases h0
  ·rename_i hn
   obtain ⟨t3,t10,u,hu,_⟩:=zd5 (b:=(eput (l.headD 0) l.length s).1) (zet h0)
   rcases h with h | h | h
   ·have hr:=zsd hn
    have:∀ n:Nat,zy (List.replicate n (l.headD 0)) s≠none:=by
     intro n
     induction n with
     | zero=>intro h;cases h
     | succ n ih =>
      unfold zy at ih ⊢
      rw [List.replicate_succ,omap,hu]
      cases ho:omap (zx · s) (List.replicate n (l.headD 0)) with
      | none=>exact absurd ho ih
      | some ys=>intro h;cases h
    exact this l.length (by rw [←hr];exact h)
   ·omega
   ·omega
 ·obtain ⟨h1,h2,u,hu,_⟩:=zff (b:=(zdY l s).1) (zet h0)
  rcases h with h | h | h
  ·rw [h] at hu;cases hu
  ·omega
  ·omega
 ·obtain ⟨h1,h2,h3,_⟩:=zfg (b:=(zeo l s).1) (zet h0)
  rcases h with h | h | h
  ·exact h1 h
  ·omega
  ·omega
 ·have:∀ p∈zpQ l s,p.2≠0:=by
   intro p hp
   unfold zpQ at hp
   simp only [List.mem_map,List.mem_range] at hp
   obtain ⟨c,hc,rfl⟩:=hp
   unfold zcN
   rw [if_pos (by rcases h with h | h | h;exact .inl h;exact .inr (.inl h);exact .inr (.inr (.inl h)))]
   simp
  unfold upat at h0
  rw [zfP this] at h0
  cases h0
theorem zpT (l:List Int) (s:Bool):zc9 l s=uans ((zeb l s).foldl zbz none):=by
 by_cases h:zy l s=none∨l.length < 1∨512 < l.length
 ·rw [zfP (zjZ h)]
  unfold zc9
  rw [if_pos h]
  rfl
 ·have e1:(zeb l s).foldl zbz none=(zcP l s).foldl zbz none:=by
   have e2:zbz none (urep l s)=((if zb3 l=l.length then [eput (l.headD 0) l.length s] else []):List (List UInt8 × Int)).foldl zbz none:=by
    have h1:=zfO l
    unfold urep
    by_cases h2:zb3 l=l.length
    ·rw [if_pos h2,if_neg (by
      rintro (h3 | h3)
      ·exact h (.inr (.inl (by omega)))
      ·omega)]
     rfl
    ·rw [if_neg h2,if_pos (.inr (by omega))]
     rfl
   unfold zeb zcP zhV
   rw [List.foldl_append,List.foldl_append,←e2]
   simp only [List.foldl_cons,List.foldl_nil]
   unfold upat
   rw [zpO,zbA (p:=uans none) (by simp [uans])]
   rfl
  have h1:1≤l.length:=Nat.not_lt.1 fun h2=>h (.inr (.inl h2))
  have h5:l.length≤512:=Nat.not_lt.1 fun h2=>h (.inr (.inr h2))
  have hp:zy l s≠none:=fun h2=>h (.inl h2)
  obtain ⟨u,hu,hd⟩:=zok hp h1 h5
  obtain ⟨a,ha⟩:=zpP (L:=zcP l s) (o:=none) (.inr ⟨_,zjW l s,by rw [hd]⟩)
  have h3:=zfQ (o:=none) (zpR (l:=l) (s:=s)) (fun a h=>by cases h)
  rw [e1,ha,zjV hp h1 h5]
  rw [ha] at h3
  rw [show ([]:List UInt8)=(none:Option (List UInt8)).getD [] from rfl,h3]
  rfl
end Go.Proofs.YtlibofmpnlfelaaGreatDoor
namespace Go.Proofs.YtlibofmpnlfelaaGreatDoor
open Go.RowKit
def ic (x:Int):List Value:=[iv x]
theorem zse (x:Int):(ic x).length=1:=rfl
theorem zuw (x:Int):∀ u∈ic x,u.oneCell'=true:=by
 intro u hu
 unfold ic at hu
 simp at hu
 subst hu
 rfl
theorem zu6 (l:List Int):∀ u∈l.flatMap ic,u.oneCell'=true:=by
 intro u hu
 obtain ⟨x,_,hx⟩:=List.mem_flatMap.1 hu
 exact zuw x u hx
theorem zlt (l:List Int):(l.flatMap ic).length=l.length*1:=zcE zse l
theorem zu7 (l:List Int):l.flatMap ic=l.map iv:=by
 induction l with
 | nil=>rfl
 | cons x l ih=>rw [List.flatMap_cons,ih];rfl
theorem Tryz.infoIW:(Tryz.prog.info? 3).map (fun i=>(i.zero,i.size,i.bytes))=some (some (iv 0),1,8):=by kernel_rfl
theorem elemIW:ElemW Tryz.prog 34 3 8 1 (iv 0):=by
 obtain ⟨i0,hi,hz0,hz1,hz2⟩:=info_parts Tryz.infoIW
 exact ⟨Tryz.underlying34,rfl,by omega,i0,hi,hz0,hz1,hz2⟩
def zcA (k:Nat) (d:Int):List Value:=(List.replicate k d).flatMap ic
theorem zbT (k:Nat) (d:Int):(zcA k d).length=k*1:=by unfold zcA;rw [zlt,List.length_replicate]
theorem zlu (k j:Nat) (d:Int):zcA (k+j) d=zcA k d ++ zcA j d:=by unfold zcA;rw [←List.flatMap_append,List.replicate_append_replicate]
theorem zlv (k:Nat) (d:Int):∀ u∈zcA k d,u.oneCell'=true:=zu6 _
theorem zgf {k j:Nat} (d:Int) (h:j≤k) (r:List Value):(zcA k d ++ r).take (j*1)=zcA j d:=by
 obtain ⟨i,rfl⟩:∃ i,k=j+i:=⟨k - j,by omega⟩
 rw [zlu,List.append_assoc,List.take_append_of_le_length (by rw [zbT];exact Nat.le_refl _),List.take_of_length_le (by rw [zbT];exact Nat.le_refl _)]
theorem zgD {k j i e:Nat} (d:Int) (r:List Value) (hk:k≤i) (_hj:j≤i) (he:i*1+e=k*1+j*1) :
  (zcA i d ++ r).take (k*1) ++ zcA j d ++ (zcA i d ++ r).drop (k*1+(zcA j d).length)=zcA (k+j) d ++ r.drop e:=by
 rw [zgf d hk r,←zlu,zbT,List.drop_append,zbT,List.drop_of_length_le (by rw [zbT];omega),List.nil_append,show k*1+j*1 - i*1=e by omega]
theorem zje {w:World} {g:Nat} {t:TypeId} {cs:List Value} (h:Row w g t cs):∀ j v,cs[j]? = some v→w.cell? ((⟨g,0,none⟩:Addr).add j)=some v:=by
 intro j v hj
 have h1:=h.cell j
 rw [hj] at h1
 rw [←h1]
 congr 1
 unfold Addr.add
 split <;> simp_all
def zsf (d:Int) (g m:Nat) (w:World) (n:Value) (wr:World):Prop:=∃ (k:Nat) (rest:List Value),1≤k∧k≤m∧n=.int .i64 (k:Int)∧rest.length=(m - k)*1∧Row wr g 3 (zcA k d ++ rest)∧Below w.heap.size w wr
theorem zm8 {w:World} {g k m:Nat} (h:k < m):(Instr.sliceAt 34 (.slice (some ⟨g,0,none⟩) m m) (some (.int .i64 (k:Int))) none none).run Tryz.prog w=.ok (.slice (some ⟨g,k*1,none⟩) (m - k) (m - k)) w:=by
 have ht:=elemIW.under
 have he:Tryz.prog.elem 34=3:=by simp [Program.elem,ht]
 rw [run_sliceAt_slice w _ _ _ _ _ (by rw [he];exact ht),run_slice_l w _ _ m m (by rw [he];exact ht) .i64 (k:Int) (by omega) (by omega),he,elemIW.size_]
 have hne:¬m=k:=by omega
 simp [sliced,Addr.add,hne]
 intro h;omega
theorem zm9 {w:World} {g k m:Nat} (h:k≤m):(Instr.sliceAt 34 (.slice (some ⟨g,0,none⟩) m m) none (some (.int .i64 (k:Int))) none).run Tryz.prog w=.ok (.slice (some ⟨g,0,none⟩) k m) w:=by
 have ht:=elemIW.under
 have he:Tryz.prog.elem 34=3:=by simp [Program.elem,ht]
 rw [run_sliceAt_slice w _ _ _ _ _ (by rw [he];exact ht),run_slice_h w _ _ m m (by rw [he];exact ht) .i64 (k:Int) (by omega) (by omega),he,elemIW.size_]
 simp [sliced,Addr.add]
theorem zna (d:Int) (g1 c m:Nat) (w:World) (hr:Row w g1 3 (ic d)) (h1:1≤m) (hm:m≤1000) :
  Calls Tryz.prog 134 #[.slice (some ⟨g1,0,none⟩) 1 c,.int .i64 (m:Int)] w
   fun e w'=>∃ g,e=.returned (.slice (some ⟨g,0,none⟩) m m)∧w.heap.size≤g∧Row w' g 3 (zcA m d)∧Below w.heap.size w w':=by
 have HM:=Lib.hid (Tryz.bits_Mul 1 m (by omega) (by omega) w)
 rw [Nat.one_mul,Nat.div_eq_of_lt (by omega),Nat.mod_eq_of_lt (by omega)] at HM
 have HR:=Lib.hid hr
 have hmi:IntKind.u64.wrap (m:Int)=(m:Int):=by rw [IntKind.wrap_u64];omega
 have hmj:IntKind.i64.wrap (m:Int)=(m:Int):=by rw [IntKind.wrap_i64];omega
 have hm1:1≤m:=h1
 have hc1:decide ((9223372036854775807:Int) < (m:Int))=false:=decide_eq_false (by omega)
 go_enter Tryz.func134,Tryz.ntmps134
 go_wp2_with (first | (go_at_call 169;refine HM.out.mono ?_;rintro e w' ⟨rfl,hw'⟩;rw [hw']) | (refine zcL elemIW (ic 0) rfl rfl _ _ rfl _ _ _ _ m w w.heap.size rfl rfl rfl rfl (by omega) (by omega) (Below.refl _ _) (Nat.le_refl _) ?_))
 intro w2 hr2 hb2
 have HR2:=Lib.hid (HR.out.below hb2 HR.out.lt)
 have HNEW:=Lib.hid (show ((List.replicate m (ic 0)).flatten).take 0 ++ ic d ++ ((List.replicate m (ic 0)).flatten).drop (0+(ic d).length)=zcA 1 d ++ ((List.replicate m (ic 0)).flatten).drop 1 by
  rw [List.take_zero,List.nil_append,Nat.zero_add,zse];rfl)
 have hlen:((List.replicate m (ic 0)).flatten).length=m*1:=by rw [←zb6 (f:=ic) m 0,zlt,List.length_replicate]
 have HLEN:=Lib.hid hlen
 clear hlen hr h1
 go_wp2_with (refine zgy elemIW rfl _ _ rfl w.heap.size 0 m m ⟨g1,0,none⟩ 1 c _ (ic d) _ HNEW.out 1 w.heap.size w rfl rfl hr2 (Nat.min_eq_left (by omega)) rfl (zje HR2.out) (zuw d) (by rw [HLEN.out,zse];omega) hb2 (Nat.le_refl _) ?_)
 intro w3 hr3 hb3
 have HS:=Lib.hid (show zsf d w.heap.size m w (.int .i64 1) w3 from ⟨1,_,Nat.le_refl _,by omega,rfl,by simp only [List.length_tail,HLEN.out];omega,hr3,hb3⟩)
 clear hr2 hb2 hr3 hb3
 go_wp2
 go_loopw [8] (zsf d w.heap.size m w) (fun i _=>m - (intOf i).toNat)
 case atStart=>exact HS.out
 case round =>
  obtain ⟨k,rest,hk1,hkm,rfl,hrl,hrow,hbw⟩:=hrel
  have HRL:=Lib.hid hrl
  have HROW:=Lib.hid hrow
  have HB:=Lib.hid hbw
  clear hrl hrow hbw
  by_cases hlt:k < m
  ·have hlti:(k:Int) < (m:Int):=by omega
   obtain ⟨j,hj⟩:∃ j,j=min k (m - k):=⟨_,rfl⟩
   have hj1:1≤j:=by omega
   have hjk:j≤k:=by omega
   have hjm:k+j≤m:=by omega
   have HJ:=Lib.hid hj
   clear hj
   obtain ⟨cur,hcur⟩:∃ cur,cur=zcA k d ++ rest:=⟨_,rfl⟩
   obtain ⟨new,hnew⟩:∃ new,new=zcA (k+j) d ++ rest.drop (j*1):=⟨_,rfl⟩
   rw [←hcur] at HROW
   have HSC:=Lib.hid (show cur.take (k*1) ++ zcA j d ++ cur.drop (k*1+(zcA j d).length)=new by rw [hcur,hnew];exact zgD d rest (Nat.le_refl _) hjk rfl)
   have HSN:=Lib.hid (show new.take (k*1) ++ zcA j d ++ new.drop (k*1+(zcA j d).length)=new by
    rw [hnew,zgD (e:=0) d (rest.drop (j*1)) (by omega) (by omega) (by omega),List.drop_zero])
   have HTC:=Lib.hid (show cur.take (j*1)=zcA j d by rw [hcur,zgf d hjk])
   have HTN:=Lib.hid (show new.take (j*1)=zcA j d by rw [hnew,zgf d (by omega)])
   have HLC:=Lib.hid (show cur.length=m*1 by rw [hcur,List.length_append,zbT,HRL.out];omega)
   have HLN:=Lib.hid (show new.length=m*1 by rw [hnew,List.length_append,zbT,List.length_drop,HRL.out];omega)
   have HNEW2:=Lib.hid hnew
   clear hcur hnew
   go_wp2
   refine zcn (zF w.heap.size w.heap.size 3 cur new) [.is (.int .i64 (k:Int)),.is (.slice (some ⟨w.heap.size,0,none⟩) m m),.is (.int .i64 (k:Int)),.is (.slice (some ⟨w.heap.size,k*1,none⟩) (m - k) (m - k)),.is (.slice (some ⟨w.heap.size,0,none⟩) m m),.is (.int .i64 (k:Int)),.is (.slice (some ⟨w.heap.size,0,none⟩) k m),
    .of (fun v W=>v=.int .i64 (j:Int)∧Row W w.heap.size 3 new) (fun v W W' h hk=>⟨h.1,hk.2.2 h.2⟩),.is (.int .i64 ((k:Int)+(j:Int))),.is (.int .i64 ((k:Int)+(j:Int)))]
    [some 38,some 39,some 40,some 41,some 42,some 43,some 44,some 45,some 46,some 8] (by kernel_rfl) (by kernel_rfl) (by kernel_rfl) (by kernel_rfl) rfl ⟨?_,?_,?_,?_,?_,?_,?_,?_,?_,?_,trivial⟩ ?_
   ·intro ρ vs W1 hb1 H
    exact zd rfl (H.old 8 _ (by kernel_rfl) rfl) ⟨zJ _ _ _,(zF _ _ _ _ _).refl _⟩
   ·intro ρ vs W1 hb1 H
    exact zd rfl (H.old 7 _ (by kernel_rfl) rfl) ⟨zJ _ _ _,(zF _ _ _ _ _).refl _⟩
   ·intro ρ vs W1 hb1 H
    exact zd rfl (H.old 8 _ (by kernel_rfl) rfl) ⟨zJ _ _ _,(zF _ _ _ _ _).refl _⟩
   ·intro ρ vs W1 hb1 H
    have e1:ρ (.tmp 40)=.int .i64 (k:Int):=H.holds 40 2 (by kernel_rfl)
    exact zI rfl (H.holds 39 1 (by kernel_rfl)) (by simp only [Option.map_some];rw [e1]) rfl rfl (zm8 hlt) ⟨zJ _ _ _,(zF _ _ _ _ _).refl _⟩
   ·intro ρ vs W1 hb1 H
    exact zd rfl (H.old 7 _ (by kernel_rfl) rfl) ⟨zJ _ _ _,(zF _ _ _ _ _).refl _⟩
   ·intro ρ vs W1 hb1 H
    exact zd rfl (H.old 8 _ (by kernel_rfl) rfl) ⟨zJ _ _ _,(zF _ _ _ _ _).refl _⟩
   ·intro ρ vs W1 hb1 H
    have e1:ρ (.tmp 43)=.int .i64 (k:Int):=H.holds 43 5 (by kernel_rfl)
    exact zI rfl (H.holds 42 4 (by kernel_rfl)) rfl (by simp only [Option.map_some];rw [e1]) rfl (zm9 hkm) ⟨zJ _ _ _,(zF _ _ _ _ _).refl _⟩
   ·intro ρ vs W1 hb1 H
    have hsrc:∀ (l:List Value),l.take (j*1)=zcA j d→Row W1 w.heap.size 3 l→∀ i v,(zcA j d)[i]? = some v→W1.cell? ((⟨w.heap.size,0,none⟩:Addr).add i)=some v:=by
     intro l hl hr i v hi
     refine zje hr i v ?_
     rw [←hl,List.getElem?_take] at hi
     split at hi
     ·exact hi
     ·cases hi
    have hto:∀ (l:List Value),Row W1 w.heap.size 3 l→Turn w.heap.size w.heap.size 3 cur new W1 (W1.setRow w.heap.size new.toArray):=fun l hr =>
     ⟨below_setRow (Below.refl _ _) (Nat.le_refl _) _,fun _=>.inr (zP hr),fun _=>zP hr⟩
    rcases hb1.2.1 HROW.out with h | h
    ·refine zdZ elemIW rfl (H.holds 41 3 (by kernel_rfl)) (H.holds 44 6 (by kernel_rfl)) h (k:=j) HJ.out.symm (zbT j d) (hsrc cur HTC.out h) (zlv j d) (by rw [HLC.out,zbT];omega) ?_
     rw [HSC.out]
     exact ⟨⟨zJ _ _ _,zP h⟩,hto _ h⟩
    ·refine zdZ elemIW rfl (H.holds 41 3 (by kernel_rfl)) (H.holds 44 6 (by kernel_rfl)) h (k:=j) HJ.out.symm (zbT j d) (hsrc new HTN.out h) (zlv j d) (by rw [HLN.out,zbT];omega) ?_
     rw [HSN.out]
     exact ⟨⟨zJ _ _ _,zP h⟩,hto _ h⟩
   ·intro ρ vs W1 hb1 H
    have e1:ρ (.tmp 45)=.int .i64 (j:Int):=(H.holds 45 7 (by kernel_rfl)).1
    exact zb4 rfl (H.holds 38 0 (by kernel_rfl)) e1 (by omega) (by omega) ⟨zJ _ _ _,(zF _ _ _ _ _).refl _⟩
   ·intro ρ vs W1 hb1 H
    exact ze rfl (H.holds 46 8 (by kernel_rfl)) ⟨zJ _ _ _,(zF _ _ _ _ _).refl _⟩
   ·intro vs W1 hb1 hfs
    have f7:Row W1 w.heap.size 3 new:=(hfs 7 (by decide)).2
    have f9:vs 9=.int .i64 ((k:Int)+(j:Int)):=hfs 9 (by decide)
    clear hfs
    simp only [zr,Nat.zero_add,Nat.reduceAdd]
    generalize vs 0=z0
    generalize vs 1=z1
    generalize vs 2=z2
    generalize vs 3=z3
    generalize vs 4=z4
    generalize vs 5=z5
    generalize vs 6=z6
    generalize vs 7=z7
    generalize vs 8=z8
    simp only [f9,Act.put,List.setIfInBounds_toArray,List.set_cons_succ,List.set_cons_zero]
    have HREL:=Lib.hid (show zsf d w.heap.size m w (.int .i64 ((k:Int)+(j:Int))) W1 from ⟨k+j,rest.drop (j*1),by omega,hjm,by congr 1,by rw [List.length_drop,HRL.out];omega,by rw [←HNEW2.out];exact f7,HB.out.trans hb1.1⟩)
    clear f7 f9 hb1
    go_wp2
    go_roundw
    case rel=>exact HREL.out
    case measure=>simp [intOf];omega
  ·obtain rfl:k=m:=by omega
   obtain rfl:rest=[]:=List.eq_nil_of_length_eq_zero (by rw [HRL.out];omega)
   have HR9:=HROW
   rw [List.append_nil] at HR9
   go_wp2
   go_ret
   exact ⟨_,rfl,Nat.le_refl _,HR9.out,HB.out⟩
theorem zsg (l:List Int) (k:Nat):zb3 (l.take k)=min (zb3 l) k:=by
 cases l with
 | nil=>simp [zb3]
 | cons x r =>
  cases k with
  | zero=>simp [zb3]
  | succ k =>
   rw [List.take_succ_cons,zcz,zcz]
   have key:∀ (r:List Int) (k:Nat),((r.take k).takeWhile (· == x)).length=min (r.takeWhile (· == x)).length k:=by
    intro r
    induction r with
    | nil=>intro k;simp
    | cons y r ih =>
     intro k
     cases k with
     | zero=>simp
     | succ k =>
      rw [List.take_succ_cons,List.takeWhile_cons,List.takeWhile_cons]
      split
      ·rw [List.length_cons,List.length_cons,ih];omega
      ·simp
   rw [key]
   omega
def zux (l:List Int) (w:World) (i:Value) (wr:World):Prop:=∃ k:Nat,k≤zb3 l∧i=.int .i64 (k:Int)∧Below w.heap.size w wr
theorem zgg (l:List Int) (v:Value) (K:Nat) (w:World) (hv:IsV iv l v w) (hb:l.length≤1000000) (_hK:K≤1000000) :
  Calls Tryz.prog 88 #[v,.int .i64 (K:Int)] w fun e w'=>e=.returned (.int .i64 ((min (zb3 l) K:Nat):Int))∧Below w.heap.size w w':=by
 obtain ⟨A,n,c,rfl⟩:=hv.shape
 have hln:=hv.parts.1
 have hnc:n≤c:=hv.parts.2.2.1
 have hci:(c:Int)≤9223372036854775807:=by have:=hv.parts.2.2.2.1;unfold maxLen at this;omega
 have hn6:n≤1000000:=by omega
 obtain ⟨m,hm⟩:∃ m,m=min n K:=⟨_,rfl⟩
 have hmn:m≤n:=by omega
 have hV:=hv.take hmn
 have HE:=Lib.hid (show zb3 (l.take m)=min (zb3 l) K by
  have:=zfO l
  rw [zsg];omega)
 have hmin:∀ (ts:Array TypeId) (t:TypeId) (W:World),(Builtin.min_ ts t #[.int .i64 (n:Int),.int .i64 (K:Int)]).run Tryz.prog W=.ok (.int .i64 (m:Int)) W:=fun ts t W=>by
  rw [run_min_int2]
  congr 2
  split <;> omega
 obtain ⟨t,ht⟩:∃ t,t=l.take m:=⟨_,rfl⟩
 rw [←ht] at hV HE
 rw [←HE.out]
 have HN:=Lib.hid (show t.length=m by rw [ht,List.length_take];omega)
 have HV:=Lib.hid hV
 have hmi:(m:Int)≤(c:Int):=by omega
 have hm6:m≤1000000:=by omega
 clear hv hb hV hm ht hln HE
 have HS:Hid (zux t w (.int .i64 0) w):=Lib.hid ⟨0,Nat.zero_le _,rfl,Below.refl _ _⟩
 go_enter Tryz.func88,Tryz.ntmps88
 go_wp2
 go_loopw [15] (zux t w) (fun i _=>m - (intOf i).toNat)
 case atStart=>exact HS.out
 case round =>
  obtain ⟨k,hk,rfl,hbw⟩:=hrel
  have hle:=zfO t
  have hkn:k≤m:=by have:=HN.out;omega
  have HK:=Lib.hid hk
  have HB:=Lib.hid hbw
  clear HS
  by_cases hlt:k < m
  ·have hkl:k < t.length:=by have:=HN.out;omega
   have hn0i:(0:Int) < (m:Int):=by omega
   have hlti:(k:Int) < (m:Int):=by omega
   have hiff:=zr2 hkl hk
   obtain ⟨ad,rfl,had,hcell⟩:=(HV.out.below hbw).at hkl
   obtain ⟨_,hAd,_,hcell0⟩:=(HV.out.below hbw).at (k:=0) (by omega)
   injection hAd with hAd
   subst hAd
   obtain ⟨x,hx⟩:∃ x,x=t[k]:=⟨_,rfl⟩
   obtain ⟨x0,hx0⟩:∃ x,x=t[0]:=⟨_,rfl⟩
   rw [←hx,←hx0] at hiff
   have hcx:wr.cell? (ad.add k)=some (.int .i64 x):=by rw [hcell,hx];rfl
   have hc0:wr.cell? ad=some (.int .i64 x0):=by
    have h1:ad.add 0=ad:=by unfold Addr.add;split <;> simp_all
    rw [←h1,hcell0,hx0];rfl
   have HI:=Lib.hid hiff
   clear hcell hcell0 hx hx0 hiff hk hbw hle
   by_cases he:x=x0
   ·have d2:(x != x0)=false:=by simpa using he
    have HE:=Lib.hid he
    clear he
    go_wp2
    go_roundw
    case rel=>exact ⟨k+1,HI.out.2 HE.out,by go_num,HB.out⟩
    case measure=>simp [intOf];omega
   ·have d2:(x != x0)=true:=by simpa using he
    have HE:=Lib.hid he
    clear he
    go_wp2
    go_ret
    refine ⟨?_,HB.out⟩
    have h1:k=zb3 t:=Nat.le_antisymm HK.out (Nat.not_lt.1 fun h=>HE.out (HI.out.1 h))
    rw [←h1]
    rfl
  ·obtain rfl:k=m:=by omega
   have hlti:¬(k:Int) < (k:Int):=by omega
   have h1:k=zb3 t:=by have:=HN.out;omega
   have HE:=Lib.hid h1
   clear h1 hk hbw hle
   go_wp2
   go_ret
   refine ⟨?_,HB.out⟩
   rw [←HE.out]
   rfl
def zvL (l:List Int) (m:Nat) (w:World) (i:Value) (wr:World):Prop:=∃ k:Nat,1≤k∧k≤max 1 m∧i=.int .i64 (k:Int)∧(∀ j,1≤j→j < k→zli l j=false)∧Below w.heap.size w wr
theorem zt4 (l:List Int) (v:Value) (w:World) (hv:IsV iv l v w) (hb:l.length≤1000000) :
  Calls Tryz.prog 63 #[v] w fun e w'=>e=.returned (.int .i64 (ucut l:Int))∧Below w.heap.size w w':=by
 have HV:=Lib.hid hv
 obtain ⟨A,n,c,rfl⟩:=hv.shape
 have HN:=Lib.hid hv.parts.1
 have hnc:n≤c:=hv.parts.2.2.1
 have hci:(c:Int)≤9223372036854775807:=by have:=hv.parts.2.2.2.1;unfold maxLen at this;omega
 have hn6:n≤1000000:=by have:=HN.out;omega
 have HL:=Lib.hid hb
 obtain ⟨u,hu⟩:∃ u,u=min (zb3 l) 512:=⟨_,rfl⟩
 have HA:=Lib.hid (zgg l _ 512 w hv hb (by omega))
 rw [←hu] at HA
 have hul:u≤512:=by omega
 obtain ⟨m,hm⟩:∃ m,m=min n 512:=⟨_,rfl⟩
 have hmin:∀ (ts:Array TypeId) (t:TypeId) (W:World),(Builtin.min_ ts t #[.int .i64 (n:Int),.int .i64 512]).run Tryz.prog W=.ok (.int .i64 (m:Int)) W:=fun ts t W=>by
  rw [run_min_int2]
  congr 2
  split <;> omega
 have hmn:m≤n:=by omega
 have hm5:m≤512:=by omega
 by_cases hu3:3≤u
 ·have hu3i:(3:Int)≤(u:Int):=by omega
  have hE:Hid (ucut l=u):=Lib.hid (by rw [hu];exact zr5 (by omega))
  clear hv hb hu hm
  go_enter Tryz.func63,Tryz.ntmps63
  go_wp2_with fail
  refine HA.out.mono ?_
  rintro e w1 ⟨rfl,hb1⟩
  go_wp2
  go_ret
  exact ⟨by rw [hE.out];rfl,hb1⟩
 ·have hu3i:¬(3:Int)≤(u:Int):=by omega
  have HU3:Hid (¬3≤zb3 l):=Lib.hid (by omega)
  have HM:Hid (min l.length 512=m):=Lib.hid (by rw [hm,HN.out])
  clear hv hb hu hm
  go_enter Tryz.func63,Tryz.ntmps63
  go_wp2_with fail
  refine HA.out.mono ?_
  rintro e w1 ⟨rfl,hb1⟩
  have HS:Hid (zvL l m w (.int .i64 1) w1):=Lib.hid ⟨1,by omega,by omega,rfl,fun j h1 h2=>by omega,hb1⟩
  clear hb1
  go_wp2
  go_loopw [5] (zvL l m w) (fun i _=>513 - (intOf i).toNat)
  case atStart=>exact HS.out
  case round =>
   obtain ⟨k,hk1,hkm,rfl,hno,hbw⟩:=hrel
   have HNO:=Lib.hid hno
   have HBW:=Lib.hid hbw
   clear hno hbw HS
   by_cases hlt:k < m
   ·have hlti:(k:Int) < (m:Int):=by omega
    have hkn:k≤n:=by omega
    obtain ⟨v4,hv4,hI4⟩:=zbe (P:=Tryz.prog) zck (k:=k) hkn (HV.out.below HBW.out)
    obtain ⟨g,hg⟩:∃ g,g=min (zb3 (l.drop k)) 5:=⟨_,rfl⟩
    have HS4:=Lib.hid (zgg (l.drop k) v4 5 wr hI4 (by rw [List.length_drop];have:=HL.out;omega) (by omega))
    rw [←hg] at HS4
    have hg5:g≤5:=by omega
    have HG:=Lib.hid hg
    clear hg hI4
    by_cases h5:g=5
    ·have hE:Hid (ucut l=k):=Lib.hid (zu5 HU3.out hk1 (by have:=HN.out;omega) (by omega) HNO.out (by unfold zli;exact decide_eq_true (by have:=HG.out;omega)))
     have d1:((g:Int) == 5)=true:=by rw [h5];rfl
     clear h5
     go_wp2_with (refine zbb rfl _ _ _ rfl _ (hv4 _) ?_)
     refine HS4.out.mono ?_
     rintro e w2 ⟨rfl,hb2⟩
     have HB2:=Lib.hid (za HBW.out hb2)
     clear hb2
     go_wp2
     go_ret
     exact ⟨by rw [hE.out];rfl,HB2.out⟩
    ·have d1:((g:Int) == 5)=false:=by simp;omega
     have HG5:=Lib.hid h5
     clear h5
     go_wp2_with (refine zbb rfl _ _ _ rfl _ (hv4 _) ?_)
     refine HS4.out.mono ?_
     rintro e w2 ⟨rfl,hb2⟩
     have HB2:=Lib.hid (za HBW.out hb2)
     clear hb2
     go_wp2
     go_roundw
     case rel =>
      refine ⟨k+1,by omega,by omega,by go_num,fun j h1 h2=>?_,HB2.out⟩
      by_cases hj:j < k
      ·exact HNO.out j h1 hj
      ·obtain rfl:j=k:=by omega
       unfold zli
       exact decide_eq_false (by have:=HG.out;have:=HG5.out;omega)
     case measure=>simp [intOf];omega
   ·have hlti:¬(k:Int) < (m:Int):=by omega
    have hE:Hid (ucut l=m):=Lib.hid (by
     rw [ztY HU3.out (fun j h1 h2=>HNO.out j h1 (by have:=HM.out;omega)),HM.out])
    go_wp2
    go_ret
    exact ⟨by rw [hE.out];rfl,HBW.out⟩
end Go.Proofs.YtlibofmpnlfelaaGreatDoor
