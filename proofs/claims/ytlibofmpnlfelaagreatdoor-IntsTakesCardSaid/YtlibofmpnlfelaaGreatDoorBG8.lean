import Derived.Test.YtlibofmpnlfelaaGreatDoorBG7
set_option maxHeartbeats 8000000
set_option maxRecDepth 100000
namespace Go.Proofs.YtlibofmpnlfelaaGreatDoor
open Go.RowKit
theorem zbQ {a b c:World} {g:Option Nat} (h1:a.grownBy b g) (h2:b.grownBy c g):a.grownBy c g:=
 ⟨h2.os.trans h1.os,h2.tape.trans h1.tape,h2.output.trans h1.output,Nat.le_trans h1.size h2.size,fun k hk hg=>(h2.block k (Nat.lt_of_lt_of_le hk h1.size) hg).trans (h1.block k hk hg)⟩
theorem zcf {a b:World} {g:Option Nat} (h:Below a.heap.size a b):a.grownBy b g:=⟨h.os,h.tape,h.output,h.size,fun k hk _=>h.block k hk⟩
theorem zbR {B g:Nat} {w a b:World} (h1:Below B w a) (h2:a.grownBy b (some g)) (hB:B≤g) (hz:B≤a.heap.size):Below B w b:=
 ⟨h2.os.trans h1.os,h2.tape.trans h1.tape,h2.output.trans h1.output,Nat.le_trans h1.size h2.size,fun k hk=>(h2.block k (by omega) (by intro e;injection e with e;omega)).trans (h1.block k hk)⟩
theorem zk4 {w:World} {base n:Nat} {e:TypeId} {v:Value} {xs:List Value} (h:w.ownsRow base e 1 v n xs) (hn:1≤n):∃ g c,v=.slice (some ⟨g,0,none⟩) n c∧base≤g∧g < w.heap.size∧n≤c∧c≤maxLen:=by
 rcases h.2 with ⟨_,h0⟩ | ⟨g,c,cur,h1,h2,h3,h4,h5,_⟩
 ·omega
 ·exact ⟨g,c,h1,h2,(Array.getElem?_eq_some_iff.1 h3).1,h4,h5⟩
theorem zjP {w:World} {base n g:Nat} {e:TypeId} {v:Value} {xs:List Value} (h:w.ownsRow base e 1 v n xs) (hg:g < base):v.ownBlock=none∨v.ownBlock≠some g:=by
 rcases h.2 with ⟨h1,_⟩ | ⟨g',c,cur,h1,h2,_⟩
 ·left;rw [h1];rfl
 ·right;rw [h1];intro e;injection e with e;dsimp only at e;omega
def zod (x:List UInt8) (v i:Value):Prop:=∃ (k:Nat) (U:Int),1≤k∧k≤x.length∧i=.int .i64 (k:Int)∧v=.int .u64 U∧U=((bval (x.take k) % 2 ^ (8*k - 1):Nat):Int)
def zuv (both low0:List Nat) (w g p m:Nat) (W0:World) (g0 base:Nat) (lv at_ i:Value) (wr:World):Prop:=
 ∃ (k a:Nat) (low:List Nat),k≤both.length∧i=.int .i64 (k:Int)∧at_=.int .i64 (a:Int)∧pall w g p m (0,low0) (both.take k)=some (a,low)∧low.length=m∧a < m∧(∀ z∈low,z < 2 ^ 64)∧wr.ownsRow base 119 1 lv m (low.map uv)∧W0.grownBy wr (some g0)
theorem zmU (l:List UInt8) (v:Value) (s:Bool) (w:World) (hv:IsB l v w) (hb:l.length≤1000000) :
  Calls Tryz.prog 82 #[v,.bool s] w (RetIO w (zD l s)):=by
 have HLK:=Lib.hid (zf4 l v w hv hb)
 obtain ⟨A,c,rfl,_⟩:=hv
 have hbd:=zcS l
 obtain ⟨K,C,M,r,x,hd⟩:∃ K C M r x,zp l=(K,C,M,r,x):=⟨_,_,_,_,_,rfl⟩
 rw [hd] at HLK hbd
 dsimp only at hbd
 obtain ⟨hK0,hK1,hC0,hC1,hM0,hM1,hr⟩:=hbd
 go_enter Tryz.func82,Tryz.ntmps82
 go_wp2_with fail
 refine HLK.out.mono ?_
 rintro e w1 ⟨rv,rfl,hrv,hb1⟩
 have HB:=Lib.hid hb1
 have HRV:Hid (IsB r rv w1):=Lib.hid hrv
 clear hb1 hrv
 by_cases hx:x=0
 case neg =>
  have hE:=Lib.hid (zc8 (l:=l) (s:=s) (.inl (by rw [hd];exact hx)))
  have d0:(x != 0)=true:=by simpa using hx
  clear hd
  obtain ⟨A1,n1,c1,rfl⟩:=IsV.shape (f:=bv) HRV.out
  go_wp2
  all_goals
   go_ret3
   rw [hE.out]
   exact RetIO.nil _ HB.out
 case pos =>
 subst hx
 by_cases hK:K=2
 case neg =>
  have hE:=Lib.hid (zc8 (l:=l) (s:=s) (.inr (by rw [hd];exact hK)))
  have d0:(K != 2)=true:=by simpa using hK
  clear hd
  obtain ⟨A1,n1,c1,rfl⟩:=IsV.shape (f:=bv) HRV.out
  go_wp2
  all_goals
   go_ret3
   rw [hE.out]
   exact RetIO.nil _ HB.out
 case pos =>
 subst hK
 have hM11:=zeP hd
 have HE0:=Lib.hid (zdH (s:=s) hd)
 clear hd hK0 hK1
 obtain ⟨A1,c1,rfl,hA1,hnc1,hcm1,hl1⟩:=HRV.out
 obtain ⟨N,hN⟩:∃ N,N=r.length:=⟨_,rfl⟩
 rw [←hN] at hA1 hnc1 ⊢
 have hN6:N≤1000000:=by omega
 by_cases hN2:N < 2
 case pos =>
  have hE:Hid (zD l s=([],[],2)):=Lib.hid (by rw [HE0.out,zd4 (by omega)])
  have d0:decide ((N:Int) < 2)=true:=decide_eq_true (by omega)
  clear hN hl1 hcm1 hA1
  go_wp2
  go_ret3
  rw [hE.out]
  exact RetIO.nil _ HB.out
 case neg =>
 have d0:decide ((N:Int) < 2)=false:=decide_eq_false (by omega)
 obtain ⟨ad,rfl,had,hcell0⟩:=hl1.cell (k:=0) (by rw [List.length_map];omega)
 obtain ⟨_,hAd,_,hcell1⟩:=hl1.cell (k:=1) (by rw [List.length_map];omega)
 injection hAd with hAd
 subst hAd
 obtain ⟨b0,hb0⟩:∃ b:Nat,b=r[0].toNat:=⟨_,rfl⟩
 obtain ⟨b1,hb1⟩:∃ b:Nat,b=r[1].toNat:=⟨_,rfl⟩
 have hb08:b0 < 256:=by rw [hb0];exact UInt8.toNat_lt _
 have hb18:b1 < 256:=by rw [hb1];exact UInt8.toNat_lt _
 have hc0:w1.cell? ad=some (.int .u8 (b0:Int)):=by
  have h1:ad.add 0=ad:=by unfold Addr.add;split <;> simp_all
  rw [←h1,hcell0,List.getElem_map,hb0];rfl
 have hc1:w1.cell? ⟨ad.block,ad.off+1,none⟩=some (.int .u8 (b1:Int)):=by
  have h1:ad.add 1=⟨ad.block,ad.off+1,none⟩:=by unfold Addr.add;rw [if_neg (by omega)]
  rw [←h1,hcell1,List.getElem_map,hb1];rfl
 obtain ⟨n,hn⟩:∃ n,n=b0 / 32+1:=⟨_,rfl⟩
 obtain ⟨q0,hq0⟩:∃ q,q=b0 % 32:=⟨_,rfl⟩
 obtain ⟨g,hg⟩:∃ g,g=b1 / 32+1:=⟨_,rfl⟩
 obtain ⟨t,ht⟩:∃ t,t=b1 % 32:=⟨_,rfl⟩
 have hni:(b0:Int) / 32+1=(n:Int):=by omega
 have hqi:(b0:Int) % 32=(q0:Int):=by omega
 have hgi:(b1:Int) / 32+1=(g:Int):=by omega
 have hti:(b1:Int) % 32=(t:Int):=by omega
 have hn8:n≤8:=by omega
 have hn1:1≤n:=by omega
 have hg8:g≤8:=by omega
 have hg1:1≤g:=by omega
 have ht31:t≤31:=by omega
 obtain ⟨p,hp⟩:∃ p:Nat,wof (q0:Int)=(p:Int):=⟨(wof (q0:Int)).toNat,by have:=zei (q0:Int);omega⟩
 have hp64:p≤64:=by have:=zei (q0:Int);omega
 have HOF:=Lib.hid (fun X=>zhh (q0:Int) X (by omega) (by omega))
 rw [hp] at HOF
 obtain ⟨d,hdd⟩:∃ d,d=r.drop 2:=⟨_,rfl⟩
 have HPB:=Lib.hid (zjN (s:=s) (c:=C) (m:=M) (by omega:2≤r.length) hb0 hb1 hn hg ht (by rw [←hq0];exact hp) hdd)
 obtain ⟨v2,hv2,hI2⟩:=zbm (P:=Tryz.prog) (w:=w1) elemB (k:=2) (by omega) hnc1 hcm1 hN.symm hl1 hA1
 rw [←hdd] at hI2
 rw [show ((2:Nat):Int)=2 from rfl] at hv2
 have hD2:d.length+2=N:=by rw [hdd,List.length_drop,hN];omega
 have HI2:=Lib.hid hI2
 obtain ⟨A2,c2,hv2e,hA2,hnc2,hcm2,hl2⟩:=hI2
 obtain ⟨D,hD⟩:∃ D,D=d.length:=⟨_,rfl⟩
 rw [←hD] at hv2e hA2 hnc2 hD2
 subst hv2e
 have HD:=Lib.hid hD
 clear hcell0 hcell1 hb0 hb1 hl1 hA1 hN hn hq0 hg ht hdd hD hcm1 hnc1 had
 obtain ⟨GP,hGP⟩:∃ GP,GP=g+p:=⟨_,rfl⟩
 have hGPi:(g:Int)+(p:Int)=(GP:Int):=by omega
 by_cases hgp:64 < GP
 case pos =>
  have hE:Hid (zD l s=([],[],2)):=Lib.hid (by rw [HE0.out,HPB.out,if_pos (.inl (by omega))])
  have d1:decide ((64:Int) < (GP:Int))=true:=decide_eq_true (by omega)
  clear hGP
  go_wp2_with (first | (refine zbb rfl _ _ _ rfl _ (hv2 _) ?_) | (go_at_call 74;refine (HOF.out _).mono ?_;rintro e w' ⟨rfl,rfl⟩))
  all_goals
   go_ret3
   rw [hE.out]
   exact RetIO.nil _ HB.out
 case neg =>
 have d1:decide ((64:Int) < (GP:Int))=false:=decide_eq_false (by omega)
 by_cases hDn:D < n
 case pos =>
  have hE:Hid (zD l s=([],[],2)):=Lib.hid (by rw [HE0.out,HPB.out,if_pos (.inr (by rw [←HD.out];exact hDn))])
  have d2:decide ((D:Int) < (n:Int))=true:=decide_eq_true (by omega)
  clear hGP
  go_wp2_with (first | (refine zbb rfl _ _ _ rfl _ (hv2 _) ?_) | (go_at_call 74;refine (HOF.out _).mono ?_;rintro e w' ⟨rfl,rfl⟩))
  all_goals
   go_ret3
   rw [hE.out]
   exact RetIO.nil _ HB.out
 case neg =>
 have d2:decide ((D:Int) < (n:Int))=false:=decide_eq_false (by omega)
 have hp63:p≤63:=by omega
 have HE1:Hid (zD l s=zf9 s (zdF (d.take n)) C M g p t (d.drop n)):=Lib.hid (by rw [HE0.out,HPB.out,if_neg (by have:=HD.out;omega)])
 have HGP:=Lib.hid hGP
 clear hGP
 have hD0:0 < D:=by omega
 have hD0i:(0:Int) < (D:Int):=by omega
 have hDl:0 < d.length:=by have:=HD.out;omega
 have hD6:D≤1000000:=by omega
 obtain ⟨ad2,rfl,had2,hcell2⟩:=hl2.cell (k:=0) (by rw [List.length_map];exact hDl)
 obtain ⟨y0,hy0⟩:∃ y:Nat,y=d[0].toNat:=⟨_,rfl⟩
 have hy08:y0 < 256:=by rw [hy0];exact UInt8.toNat_lt _
 have hcy0:w1.cell? ad2=some (.int .u8 (y0:Int)):=by
  have h1:ad2.add 0=ad2:=by unfold Addr.add;split <;> simp_all
  rw [←h1,hcell2,List.getElem_map,hy0];rfl
 obtain ⟨xs,hxs⟩:∃ xs,xs=d.take n:=⟨_,rfl⟩
 have hxl:xs.length=n:=by rw [hxs,List.length_take];have:=HD.out;omega
 have hx0:∀ h:0 < xs.length,y0=xs[0].toNat:=by intro h;rw [hy0];subst hxs;rw [List.getElem_take]
 have HX0:=Lib.hid hx0
 have HXL:=Lib.hid hxl
 have HXS:=Lib.hid hxs
 have h0st:zod xs (.int .u64 ((y0:Int) % 128)) (.int .i64 1):=by
  refine ⟨1,_,Nat.le_refl _,by omega,rfl,rfl,?_⟩
  rw [List.take_succ_eq_append_getElem (by omega),List.take_zero,List.nil_append,zk2,←hx0 (by omega)]
  simp [bval]
 have HST:=Lib.hid h0st
 have HL2:=Lib.hid hl2
 rw [←HXS.out] at HE1
 clear hcell2 hy0 hxs hxl hx0 h0st hl2
 go_wp2_with (first | (refine zbb rfl _ _ _ rfl _ (hv2 _) ?_) | (go_at_call 74;refine (HOF.out _).mono ?_;rintro e w' ⟨rfl,rfl⟩))
 go_loop [16,17] (zod xs) (fun _ i=>n - (intOf i).toNat)
 case atStart=>exact HST.out
 case round =>
  obtain ⟨k,U,hk1,hk,rfl,rfl,hU⟩:=hrel
  rw [HXL.out] at hk
  have HU:=Lib.hid hU
  by_cases hlt:k < n
  ·have hlti:(k:Int) < (n:Int):=by omega
   have hkD:(k:Int) < (D:Int):=by omega
   have hkd:k < d.length:=by have:=HD.out;omega
   obtain ⟨_,hAd,_,hcell⟩:=HL2.out.cell (k:=k) (by rw [List.length_map];exact hkd)
   injection hAd with hAd
   subst hAd
   obtain ⟨y,hy⟩:∃ y:Nat,y=d[k].toNat:=⟨_,rfl⟩
   have hy8:y < 256:=by rw [hy];exact UInt8.toNat_lt _
   have hcy:w1.cell? (ad2.add k)=some (.int .u8 (y:Int)):=by rw [hcell,List.getElem_map,hy];rfl
   have hU0:0≤U:=by omega
   have hU7:U < 72057594037927936:=by
    rw [hU]
    have h1:bval (xs.take k) % 2 ^ (8*k - 1) < 2 ^ (8*k - 1):=Nat.mod_lt _ (Nat.two_pow_pos _)
    have h2:2 ^ (8*k - 1)≤2 ^ 56:=Nat.pow_le_pow_right (by omega) (by omega)
    omega
   have HN1:Hid (256*U+y=((bval (xs.take (k+1)) % 2 ^ (8*(k+1) - 1):Nat):Int)):=Lib.hid (by
    have hkx:k < xs.length:=by rw [HXL.out];exact hlt
    have e1:xs[k].toNat=y:=by rw [hy];congr 1;have:=HXS.out;subst this;rw [List.getElem_take]
    rw [zgC _ _ hkx,e1,zrz hk1 hy8,HU.out]
    simp)
   clear hcell hy hU hcy0
   go_wp2
   go_round
   case rel=>exact ⟨k+1,256*U+y,by omega,by rw [HXL.out];omega,by go_num,rfl,HN1.out⟩
   case measure=>simp [intOf];omega
  ·obtain rfl:n=k:=by omega
   have hlti:¬(n:Int) < (n:Int):=by omega
   obtain ⟨m,rfl⟩:=Int.eq_ofNat_of_zero_le (show 0≤M by omega)
   have hm1:1≤m:=by omega
   have hm5:m≤512:=by omega
   obtain ⟨S,hS⟩:∃ S,S=bval xs % 2 ^ (8*xs.length - 1):=⟨_,rfl⟩
   have hUS:U=(S:Int):=by rw [hU,hS,List.take_of_length_le (by rw [HXL.out];exact Nat.le_refl _),HXL.out]
   subst hUS
   obtain ⟨hps,hpi,hS63⟩:=zpr (by rw [HXL.out];exact hn1) (by rw [HXL.out];exact hn8) (HX0.out (by rw [HXL.out];exact hn1)) hS
   obtain ⟨f,hf⟩:∃ f,f=decide (128≤y0):=⟨_,rfl⟩
   have df:decide ((128:Int)≤(y0:Int))=f:=by rw [hf];exact decide_eq_decide.2 (by omega)
   obtain ⟨B,hB⟩:∃ B,B=zdF xs:=⟨_,rfl⟩
   rw [←hf,←hB] at hps
   rw [←hB] at hpi HE1
   have HBI:=Lib.hid hpi
   have hst9:=fun X=>zeK 0 (S:Int) f X ⟨by omega,by omega⟩ (by omega) (by omega)
   rw [Int.toNat_natCast,hps] at hst9
   have HSP:=Lib.hid hst9
   obtain ⟨W,hW⟩:∃ W:Nat,wof C=(W:Int):=⟨(wof C).toNat,by have:=zei C;omega⟩
   have hW64:W≤64:=by have:=zei C;omega
   have HWC:=Lib.hid hW
   have HOC:=Lib.hid (fun X=>zhh C X (by omega) (by omega))
   rw [hW] at HOC
   obtain ⟨v3,hv3,hI3⟩:=zbm (P:=Tryz.prog) (w:=w1) elemB (k:=n) (by omega) hnc2 hcm2 HD.out.symm HL2.out (fun h=>by cases h)
   have HI3:=Lib.hid hI3
   have HV3:=Lib.hid hv3
   obtain ⟨us,q,e1,hu⟩:∃ us q y,zg (d.drop n) (m:Int) (W:Int)=(us,q,y):=⟨_,_,_,rfl⟩
   have HUN:=Lib.hid (zdV (m:Int) (W:Int) hI3 (by rw [List.length_drop];have:=HD.out;omega))
   rw [hu] at HUN
   have hlt:=(zba (l:=d.drop n) (M:=(m:Int)) (W:=(W:Int))).1
   rw [hu] at hlt
   dsimp only at hlt
   have HLT:=Lib.hid hlt
   have HUE:=Lib.hid hu
   clear hlt hu hv3 hI3 hW hst9 hps hpi hB hf hS hU HU hcm2 hnc2 hk1 hk hS63 HST
   go_wp2_with (first | (go_at_call 111;refine (HSP.out _).mono ?_;rintro e w' ⟨rfl,rfl⟩) | (go_at_call 74;refine (HOC.out _).mono ?_;rintro e w' ⟨rfl,rfl⟩) | (refine zbb rfl _ _ _ rfl _ (HV3.out _) ?_))
   refine HUN.out.mono ?_
   rintro e w2 ⟨u2,r2v,rfl,hu2,hq2,hb2⟩
   have HB2:=Lib.hid (za HB.out hb2)
   have HZ2:=Lib.hid hb2.size
   have HU2:=Lib.hid hu2
   have HQ2:=Lib.hid hq2.isB
   clear hu2 hq2 hb2 hcy0 hc0 hc1
   by_cases he1:e1=0
   case neg =>
    have hE:Hid (zD l s=([],[],2)):=Lib.hid (by rw [HE1.out,zfM (by rw [HWC.out];exact HUE.out) he1])
    have d3:(e1 != 0)=true:=by simpa using he1
    go_wp2
    go_ret3
    rw [hE.out]
    exact RetIO.nil _ HB2.out
   case pos =>
   subst he1
   obtain ⟨hul,hql⟩:=zM HUE.out
   have HUL:=Lib.hid hul
   have HQL:Hid (q.length≤1000000):=Lib.hid (by rw [List.length_drop] at hql;have:=HD.out;omega)
   obtain ⟨W2,hW2⟩:∃ W:Nat,zh (GP:Int)=(W:Int):=⟨(zh (GP:Int)).toNat,(zkZ (by omega)).2.2.2.2.2.1⟩
   have HWCL:=Lib.hid hW2
   have HCL:=Lib.hid (fun X=>zkk (GP:Int) X)
   rw [hW2] at HCL
   obtain ⟨vs,q2,e2,hv⟩:∃ us r y,zg q (t:Int) (W2:Int)=(us,r,y):=⟨_,_,_,rfl⟩
   have HUN2:=Lib.hid (zdV (t:Int) (W2:Int) HQ2.out HQL.out)
   rw [hv] at HUN2
   have hlt:=(zba (l:=q) (M:=(t:Int)) (W:=(W2:Int))).1
   rw [hv] at hlt
   dsimp only at hlt
   have HLT2:=Lib.hid hlt
   have HVE:=Lib.hid hv
   clear hlt hv hW2 hul hql
   go_wp2_with (go_at_call 94;refine (HCL.out _).mono ?_;rintro e w' ⟨rfl,rfl⟩)
   refine HUN2.out.mono ?_
   rintro e w3 ⟨u3,r3v,rfl,hu3,hq3,hb3⟩
   have HB3:=Lib.hid (za HB2.out hb3)
   have HLOW:=Lib.hid (own_below HU2.out hb3)
   have HBOTH:=Lib.hid hu3
   have HQ3:=Lib.hid hq3
   have HZ3:=Lib.hid hb3.size
   clear hu3 hq3 hb3
   by_cases he2:e2=0
   case neg =>
    have hE:Hid (zD l s=([],[],2)):=Lib.hid (by rw [HE1.out,zeQ (by rw [HWC.out];exact HUE.out) (by rw [←HGP.out,HWCL.out];exact HVE.out) he2])
    have d4:(e2 != 0)=true:=by simpa using he2
    go_wp2
    go_ret3
    rw [hE.out]
    exact RetIO.nil _ HB3.out
   case pos =>
   subst he2
   obtain ⟨hvl,hq2l⟩:=zM HVE.out
   have HVL:=Lib.hid hvl
   have hu2:=HU2.out
   rw [HUL.out] at hu2
   obtain ⟨g0,c0,rfl,hg0,hg2,hmc0,hc0m⟩:=zk4 hu2 hm1
   have hlow0:=HLOW.out
   rw [HUL.out] at hlow0
   have HGB:Hid (w.heap.size≤g0):=Lib.hid (by have:=HB.out.size;omega)
   have HG2:=Lib.hid hg2
   obtain ⟨A3,c3,rfl,hnc3,hcm3,_,_,_⟩:=zz HBOTH.out
   have HE2:Hid (zD l s=pend s B W g p m us vs q2):=Lib.hid (by
    rw [HE1.out,zfN (by rw [HWC.out];exact HUE.out) (by rw [←HGP.out,HWCL.out];exact HVE.out),HWC.out];rfl)
   have h0st:zuv vs us W g p m w3 g0 w1.heap.size (.slice (some ⟨g0,0,none⟩) m c0) (.int .i64 0) (.int .i64 0) w3:=
    ⟨0,0,us,by omega,rfl,rfl,by rw [List.take_zero,pall],HUL.out,by omega,HLT.out,hlow0,⟨rfl,rfl,rfl,Nat.le_refl _,fun _ _ _=>rfl⟩⟩
   have HST:=Lib.hid h0st
   rw [HVL.out] at hnc3 ⊢
   have hmi:¬(m:Int)≤0:=by omega
   clear hvl hq2l hu2 hlow0 h0st hg0 hg2 hmi hcm3
   go_wp2
   go_loopw [23,24] (zuv vs us W g p m w3 g0 w1.heap.size (.slice (some ⟨g0,0,none⟩) m c0)) (fun _ i _=>t - (intOf i).toNat)
   case atStart=>exact HST.out
   case round =>
    obtain ⟨k,a,low,hk,rfl,rfl,hpl,hll,ham,hlo,hown,hgr⟩:=hrel
    rw [HVL.out] at hk
    have HPL:=Lib.hid hpl
    have HLL0:=Lib.hid hll
    have HLO:=Lib.hid hlo
    have HOWN0:=Lib.hid hown
    have HGR0:=Lib.hid hgr
    have HSTT:=HST
    clear HST
    by_cases hlt:k < t
    ·have hlti:(k:Int) < (t:Int):=by omega
     have hkv:k < vs.length:=by have:=HVL.out;omega
     have hbk:=zbk (f:=uv) (HBOTH.out.kept hgr (zjP HBOTH.out HG2.out))
     rw [HVL.out] at hbk
     obtain ⟨ad3,rfl,_,hcell⟩:=hbk.at hkv
     obtain ⟨x,hx⟩:∃ x,x=vs[k]:=⟨_,rfl⟩
     have hcx:wr.cell? (ad3.add k)=some (.int .u64 (x:Int)):=by rw [hcell,hx];rfl
     have hx64:x < 2 ^ 64:=by rw [hx];exact HLT2.out _ (List.getElem_mem hkv)
     have HNX0:=Lib.hid (zk3 hkv hx hpl)
     obtain ⟨gap,hgap⟩:∃ gap,gap=x / 2 ^ p:=⟨_,rfl⟩
     obtain ⟨pat,hpat⟩:∃ pat,pat=x % 2 ^ p:=⟨_,rfl⟩
     have HPS:=Lib.hid (zoc (w:=W) (g:=g) (m:=m) (at_:=a) (low:=low) hgap hpat)
     obtain ⟨K,hK⟩:∃ K,K=2 ^ p:=⟨_,rfl⟩
     obtain ⟨K1,hK1⟩:∃ K1,K1=K - 1:=⟨_,rfl⟩
     obtain ⟨GG,hGG⟩:∃ GG,GG=2 ^ g:=⟨_,rfl⟩
     have hkp:1≤K:=by rw [hK];exact Nat.one_le_two_pow
     have hK63:K≤9223372036854775808:=by rw [hK];exact Nat.pow_le_pow_right (n:=2) (i:=p) (j:=63) (by omega) hp63
     have hGG8:GG≤256:=by rw [hGG];exact Nat.pow_le_pow_right (n:=2) (i:=g) (j:=8) (by omega) hg8
     have hshr:(x:Int) / (K:Int)=(gap:Int):=by rw [hgap,hK];simp
     have hKc:(2:Int) ^ p=(K:Int):=by rw [hK];simp
     have hKw:IntKind.u64.wrap (K:Int)=(K:Int):=by rw [IntKind.wrap_u64];omega
     have hK1i:(K:Int) - 1=(K1:Int):=by omega
     have hK1w:IntKind.u64.wrap (K1:Int)=(K1:Int):=by rw [IntKind.wrap_u64];omega
     have hGc:(2:Int) ^ g=(GG:Int):=by rw [hGG];simp
     have hGw:IntKind.u64.wrap (GG:Int)=(GG:Int):=by rw [IntKind.wrap_u64];omega
     have hand:bits .and .u64 (x:Int) (K1:Int)=(pat:Int):=by rw [u64_and _ _ (by omega) (by omega) (by omega) (by omega),Int.toNat_natCast,Int.toNat_natCast,hK1,hK,Nat.and_two_pow_sub_one_eq_mod,hpat]
     have HPT:Hid (pat < 2 ^ 64):=Lib.hid (by rw [hpat];exact Nat.lt_of_le_of_lt (Nat.mod_le _ _) hx64)
     have HGX:=Lib.hid (show GG=2 ^ g from hGG)
     clear hcell hx hx64 hgap hpat hK hK1 hkp hK63 hGG hpl hll hlo hown hgr hbk
     go_wp2
     go_quiet (fail)
     obtain ⟨wd,hwd⟩:∃ wd,wd=wr.drewN nq:=⟨_,rfl⟩
     have HOWN:Hid (wd.ownsRow w1.heap.size 119 1 (.slice (some ⟨g0,0,none⟩) m c0) m (low.map uv)):=Lib.hid (by rw [hwd];exact own_drewN HOWN0.out nq)
     have HGR:Hid (w3.grownBy wd (some g0)):=Lib.hid (by rw [hwd];exact zbQ HGR0.out (zcf (below_drewN (Below.refl _ _) nq)))
     rw [←hwd]
     clear hwd hcx HOWN0 HGR0
     by_cases hA:GG≤gap
     case pos =>
      have hE:Hid (zD l s=([],[],2)):=Lib.hid (by
       rw [HE2.out,zdI (zb9 (k:=k+1) (by rw [HNX0.out,HPS.out,if_neg (by rw [←HGX.out];omega)]))])
      have d5:decide ((GG:Int)≤(gap:Int))=true:=decide_eq_true (by omega)
      go_wp2
      go_ret3
      rw [hE.out]
      exact RetIO.nil _ (zbR HB3.out HGR.out HGB.out HB3.out.size)
     case neg =>
     have d5:decide ((GG:Int)≤(gap:Int))=false:=decide_eq_false (by omega)
     have hgap8:gap < 256:=by omega
     have hgw:IntKind.i64.wrap (gap:Int)=(gap:Int):=by rw [IntKind.wrap_i64];omega
     obtain ⟨a1,ha1e⟩:∃ a1,a1=a+gap:=⟨_,rfl⟩
     have hai:(a:Int)+(gap:Int)=(a1:Int):=by omega
     rw [←ha1e] at HPS
     have ha1b:a1≤1000:=by omega
     clear ha1e
     by_cases hBm:m≤a1
     case pos =>
      have hE:Hid (zD l s=([],[],2)):=Lib.hid (by
       rw [HE2.out,zdI (zb9 (k:=k+1) (by rw [HNX0.out,HPS.out,if_neg (by omega)]))])
      have d6:decide ((m:Int)≤(a1:Int))=true:=decide_eq_true (by omega)
      go_wp2
      go_ret3
      rw [hE.out]
      exact RetIO.nil _ (zbR HB3.out HGR.out HGB.out HB3.out.size)
     case neg =>
     have d6:decide ((m:Int)≤(a1:Int))=false:=decide_eq_false (by omega)
     obtain ⟨nb,hnb⟩:∃ nb,nb=zY pat:=⟨_,rfl⟩
     have hnb64:nb≤64:=by rw [hnb];exact zcQ HPT.out
     have HBT:=Lib.hid (fun X=>zkl pat X HPT.out)
     rw [←hnb] at HBT HPS
     obtain ⟨nW,hnW⟩:∃ nW,nW=nb+W:=⟨_,rfl⟩
     have hnWi:(nb:Int)+(W:Int)=(nW:Int):=by omega
     by_cases hC:nW≤63∨pat=0
     case neg =>
      have hE:Hid (zD l s=([],[],2)):=Lib.hid (by
       rw [HE2.out,zdI (zb9 (k:=k+1) (by rw [HNX0.out,HPS.out,if_neg (by omega)]))])
      have d7:decide ((63:Int) < (nW:Int))=true:=decide_eq_true (by omega)
      have d8:((pat:Int) != 0)=true:=by simp;omega
      clear hnb hnW
      go_wp2_with (go_at_call 93;refine (HBT.out _).mono ?_;rintro e w' ⟨rfl,rfl⟩)
      go_ret3
      rw [hE.out]
      exact RetIO.nil _ (zbR HB3.out HGR.out HGB.out HB3.out.size)
     case pos =>
     have ha1:a1 < m:=by omega
     have hlen:=HLL0.out
     obtain ⟨y,hy⟩:∃ y,y=low.getD a1 0:=⟨_,rfl⟩
     have hyl:low[a1]? = some y:=by rw [hy,List.getD_eq_getElem?_getD,List.getElem?_eq_getElem (by omega)];rfl
     have hy64:y < 2 ^ 64:=HLO.out y (List.mem_of_getElem? hyl)
     obtain ⟨Z,hZ⟩:∃ Z,Z=pat*2 ^ W:=⟨_,rfl⟩
     have hZ63:Z < 2 ^ 63:=by rw [hZ];exact zg1 HPT.out (by rw [←hnb];omega)
     obtain ⟨z,hz⟩:∃ z,z=y ^^^ Z:=⟨_,rfl⟩
     have HZC:=Lib.hid (show (pat:Int)*2 ^ W=(Z:Int) by rw [hZ];simp)
     have HZW:Hid (IntKind.u64.wrap (Z:Int)=(Z:Int)):=Lib.hid (by rw [IntKind.wrap_u64];omega)
     have HXO:Hid (bits .xor .u64 (y:Int) (Z:Int)=(z:Int)):=Lib.hid (by rw [u64_xor_nat y Z (by omega) (by omega),hz])
     have HADD:Hid ((⟨g0,0,none⟩:Addr).add a1=⟨g0,a1,none⟩):=Lib.hid (by unfold Addr.add;split <;> simp_all)
     have HCL:Hid (wd.cell? ⟨g0,a1,none⟩=some (.int .u64 (y:Int))):=Lib.hid (by rw [HOWN.out.cellAt a1 (by omega),List.getElem?_map,hyl];rfl)
     have HGL:Hid (g0 < wd.heap.size):=Lib.hid (by have:=HGR.out.size;have:=HG2.out;have:=HZ3.out;omega)
     have hnx:pall W g p m (0,us) (vs.take (k+1))=some (a1,low.set a1 z):=by
      rw [HNX0.out,HPS.out,if_pos ⟨by rw [←HGX.out];omega,ha1,by rw [←hnW];exact hC⟩,←hy,←hZ,←hz]
     have HNX:=Lib.hid hnx
     have HLL:=HLL0
     have HL64:Hid (∀ e∈low.set a1 z,e < 2 ^ 64):=Lib.hid (fun e he=>by
      rcases List.mem_or_eq_of_mem_set he with h | h
      ·exact HLO.out e h
      ·rw [h,hz];exact Nat.xor_lt_two_pow hy64 (by omega))
     clear hlen hy hyl hy64 hZ hZ63 hz hnx hnb hnW
     have d7:decide ((63:Int) < (nW:Int))=false∨(decide ((63:Int) < (nW:Int))=true∧((pat:Int) != 0)=false):=by
      by_cases h:nW≤63
      ·exact .inl (decide_eq_false (by omega))
      ·exact .inr ⟨decide_eq_true (by omega),by simp;omega⟩
     clear hC
     rcases d7 with d7 | ⟨d7,d8⟩
     all_goals
      go_wp2_with (go_at_call 93;refine (HBT.out _).mono ?_;rintro e w' ⟨rfl,rfl⟩)
      refine zt 11 [.is (.slice (some ⟨g0,0,none⟩) m c0),.is (.int .i64 (a1:Int)),.is (.slice (some ⟨g0,0,none⟩) m c0),.is (.int .i64 (a1:Int)),.is (.pointer (some ⟨g0,a1,none⟩)),.is (.int .u64 (y:Int)),.is (.int .u64 (pat:Int)),.is (.int .i64 (W:Int)),.is (.int .u64 (Z:Int)),.is (.int .u64 (z:Int)),.is (.pointer (some ⟨g0,a1,none⟩))] [some 180,some 181,some 182,some 183,some 184,some 185,some 186,some 187,some 188,some 189,some 190] (by kernel_rfl) (by kernel_rfl) (by kernel_rfl) (by kernel_rfl) rfl ⟨?_,?_,?_,?_,?_,?_,?_,?_,?_,?_,?_,trivial⟩ ?_
      ·intro ρ W1 hb1 H
       exact zd rfl (H.old 21 _ (by kernel_rfl) rfl) ⟨rfl,Below.refl _ _⟩
      ·intro ρ W1 hb1 H
       exact zd rfl (H.old 23 _ (by kernel_rfl) rfl) ⟨rfl,Below.refl _ _⟩
      ·intro ρ W1 hb1 H
       exact zd rfl (H.old 21 _ (by kernel_rfl) rfl) ⟨rfl,Below.refl _ _⟩
      ·intro ρ W1 hb1 H
       exact zd rfl (H.old 23 _ (by kernel_rfl) rfl) ⟨rfl,Below.refl _ _⟩
      ·intro ρ W1 hb1 H
       exact zw (k:=a1) elemU rfl (H.new 182 2 (by kernel_rfl)) (H.new 183 3 (by kernel_rfl)) ha1 ⟨congrArg (fun q=>Value.pointer (some q)) HADD.out,Below.refl _ _⟩
      ·intro ρ W1 hb1 H
       exact zf rfl (H.new 184 4 (by kernel_rfl)) Tryz.underlying119 rfl ((hb1.cell HGL.out).trans HCL.out) ⟨rfl,Below.refl _ _⟩
      ·intro ρ W1 hb1 H
       exact zd rfl (H.old 26 _ (by kernel_rfl) rfl) ⟨rfl,Below.refl _ _⟩
      ·intro ρ W1 hb1 H
       exact zd rfl (H.old 20 _ (by kernel_rfl) rfl) ⟨rfl,Below.refl _ _⟩
      ·intro ρ W1 hb1 H
       exact ze8 (k:=W) rfl (H.new 186 6 (by kernel_rfl)) (H.new 187 7 (by kernel_rfl)) hW64 (by rw [HZC.out];exact HZW.out) ⟨rfl,Below.refl _ _⟩
      ·intro ρ W1 hb1 H
       exact zhy rfl (H.new 185 5 (by kernel_rfl)) (H.new 188 8 (by kernel_rfl)) HXO.out ⟨rfl,Below.refl _ _⟩
      ·intro ρ W1 hb1 H
       exact zw (k:=a1) elemU rfl (H.new 180 0 (by kernel_rfl)) (H.new 181 1 (by kernel_rfl)) ha1 ⟨congrArg (fun q=>Value.pointer (some q)) HADD.out,Below.refl _ _⟩
      ·intro vs W1 hb1 hfs
       have f0:vs 0=(.slice (some ⟨g0,0,none⟩) m c0):=hfs 0 (by decide)
       have f1:vs 1=(.int .i64 (a1:Int)):=hfs 1 (by decide)
       have f2:vs 2=(.slice (some ⟨g0,0,none⟩) m c0):=hfs 2 (by decide)
       have f3:vs 3=(.int .i64 (a1:Int)):=hfs 3 (by decide)
       have f4:vs 4=(.pointer (some ⟨g0,a1,none⟩)):=hfs 4 (by decide)
       have f5:vs 5=(.int .u64 (y:Int)):=hfs 5 (by decide)
       have f6:vs 6=(.int .u64 (pat:Int)):=hfs 6 (by decide)
       have f7:vs 7=(.int .i64 (W:Int)):=hfs 7 (by decide)
       have f8:vs 8=(.int .u64 (Z:Int)):=hfs 8 (by decide)
       have f9:vs 9=(.int .u64 (z:Int)):=hfs 9 (by decide)
       have f10:vs 10=(.pointer (some ⟨g0,a1,none⟩)):=hfs 10 (by decide)
       clear hfs
       simp only [zr,Nat.zero_add,Nat.reduceAdd,List.drop_succ_cons,List.drop_zero]
       rw [f0,f1,f2,f3,f4,f5,f6,f7,f8,f9,f10]
       clear f0 f1 f2 f3 f4 f5 f6 f7 f8 f9 f10
       simp only [Act.put,List.setIfInBounds_toArray,List.set_cons_succ,List.set_cons_zero]
       have hownW:=own_below HOWN.out hb1
       have hgrW:=zbQ HGR.out (zcf hb1)
       have hcW:W1.cell? ⟨g0,a1,none⟩=some (.int .u64 (y:Int)):=(hb1.cell HGL.out).trans HCL.out
       have hfW:=hownW.frozenAt a1
       have HST1:=Lib.hid (hownW.stored a1 (uv z)).1
       have HST2:=Lib.hid (zbQ hgrW (hownW.stored a1 (uv z)).2)
       clear hownW hgrW hb1
       go_wp2
       go_roundw
       case rel=>exact ⟨k+1,a1,_,by have:=HVL.out;omega,by go_num,rfl,HNX.out,by rw [List.length_set];exact HLL.out,ha1,HL64.out,by rw [List.map_set];exact HST1.out,HST2.out⟩
       case measure=>simp [intOf];omega
    ·obtain rfl:t=k:=by omega
     have hlti:¬(t:Int) < (t:Int):=by omega
     have hpl2:=HPL.out
     rw [List.take_of_length_le (by rw [HVL.out];exact Nat.le_refl _)] at hpl2
     have HE3:Hid (zD l s=match omap (zbl s false B) low with | none=>([],[],2) | some xs=>(xs,q2,0)):=Lib.hid (by rw [HE2.out,zeq hpl2];try (cases omap (zbl s false B) low <;> rfl))
     have HLL:=HLL0
     have HB4:=Lib.hid (zbR HB3.out HGR0.out HGB.out HB3.out.size)
     have HQ4:Hid (OwnB w q2 r3v wr):=Lib.hid (OwnB.base HB2.out.size (HQ3.out.elim fun _ h=>⟨_,h.kept HGR0.out (zjP h HG2.out)⟩))
     have HLV:=Lib.hid (zbk (f:=uv) HOWN0.out)
     generalize wr=w4 at *
     have hst5:zjG (zbl s false B) iv 3 low w4 (.slice (some ⟨w4.heap.size,0,none⟩) 0 0) (.int .i64 0) (w4.alloc (.cells #[] 3)):=⟨0,[],by omega,rfl,rfl,zeG w4 _,(Below.refl _ _).alloc (Nat.le_refl _) _⟩
     have HST5:=Lib.hid hst5
     clear hpl hll ham hlo hown hgr hpl2 hst5 hk HPL HOWN0 HGR0 HSTT
     go_wp2
     go_loopw [27,28] (zjG (zbl s false B) iv 3 low w4) (fun _ i _=>m - (intOf i).toNat)
     case atStart=>exact HST5.out
     case round =>
      obtain ⟨k,acc,hk,rfl,hacc,hown,hbw⟩:=hrel
      have hz:=hbw.size
      have hal:acc.length=k:=by rw [zcb hacc,List.length_take];omega
      have HACC:=Lib.hid hacc
      have HAL:=Lib.hid hal
      have hk':k≤m:=by have:=HLL.out;omega
      have HST55:=HST5
      clear hacc HST5
      rw [hal] at hown
      clear hal
      by_cases hlt:k < m
      ·have hkl:k < low.length:=by have:=HLL.out;omega
       have hlti:(k:Int) < (m:Int):=by omega
       obtain ⟨ad5,e5,_,hcell⟩:=(HLV.out.below hbw).at hkl
       injection e5 with e5
       subst e5
       obtain ⟨x,hx⟩:∃ x,x=low[k]:=⟨_,rfl⟩
       have hcx:wr.cell? ((⟨g0,0,none⟩:Addr).add k)=some (.int .u64 (x:Int)):=by rw [hcell,hx];rfl
       have hcx2:wr.cell? ⟨g0,k,none⟩=some (.int .u64 (x:Int)):=by
        have e0:(⟨g0,0,none⟩:Addr).add k=⟨g0,k,none⟩:=by unfold Addr.add;split <;> simp_all
        rw [←e0];exact hcx
       have HX64:Hid ((x:Int) < 18446744073709551616):=Lib.hid (by
        have h1:x < 2 ^ 64:=by rw [hx];exact HLO.out _ (List.getElem_mem hkl)
        have h2:x < 18446744073709551616:=h1
        omega)
       have hgs:=zeK B (x:Int) false wr HBI.out (by omega) HX64.out
       rw [Int.toNat_natCast] at hgs
       obtain ⟨y,ok,hy⟩:∃ y ok,zbi B x false=(y,ok):=⟨_,_,rfl⟩
       rw [hy] at hgs
       have HGS:=Lib.hid hgs
       have hnx:zbl s false B x=if ok=true∧(s=true∨0≤y) then some y else none:=by unfold zbl;rw [hy]
       have HNX:=Lib.hid hnx
       have HXE:=Lib.hid hx
       have hyb:inInt y:=by have:=zgU (u:=x) (f:=false) HBI.out;rw [hy] at this;exact this
       have HYB:=Lib.hid hyb
       clear hgs hy hyb hnx hcell hx
       by_cases hgo:ok=true∧(s=true∨0≤y)
       ·have HAN:Hid (omap (zbl s false B) (low.take (k+1))=some (acc ++ [y])):=Lib.hid (zc0 hkl HACC.out (by rw [←HXE.out,HNX.out,if_pos hgo]))
        obtain ⟨rfl,hsy⟩:=hgo
        have hcase:decide (y < 0)=false∨(decide (y < 0)=true∧s=true):=by
         rcases hsy with h | h
         ·by_cases h2:y < 0
          ·exact .inr ⟨decide_eq_true h2,h⟩
          ·exact .inl (decide_eq_false h2)
         ·exact .inl (decide_eq_false (by omega))
        clear hsy
        rcases hcase with hd0 | ⟨hd0,rfl⟩
        all_goals
         go_wp2_with (first | (go_at_call 111;refine HGS.out.mono ?_;rintro e w' ⟨rfl,rfl⟩) | (at_builtin;refine zQ zck rfl _ _ rfl w4.heap.size _ _ _ (iv y) wr w4 rfl rfl rfl rfl hown hbw hz (by omega) (by omega) ?_))
         intro v5 w5 hown5 hb5 _ _
         have hown6:w5.ownsRow w4.heap.size 3 1 v5 (acc ++ [y]).length ((acc ++ [y]).map iv):=by
          rw [List.length_append,List.length_singleton,List.map_append,List.map_singleton,HAL.out]
          exact hown5
         have HO6:=Lib.hid hown6
         have HB6:=Lib.hid hb5
         clear hown5 hown hown6 hb5
         go_wp2
         go_roundw
         case rel=>exact ⟨k+1,_,by have:=HLL.out;omega,by go_num,HAN.out,HO6.out,HB6.out⟩
         case measure=>simp [intOf];omega
       ·have hE:Hid (zD l s=([],[],2)):=Lib.hid (by
         rw [HE3.out,zb5 (x:=x) (by rw [HXE.out];exact List.getElem_mem hkl) (by rw [HNX.out,if_neg hgo])])
        have hcase:ok=false∨(ok=true∧decide (y < 0)=true∧s=false):=by
         cases ok with
         | false=>exact .inl rfl
         | true =>
          refine .inr ⟨rfl,?_,?_⟩
          ·exact decide_eq_true (Int.not_le.1 fun h=>hgo ⟨rfl,.inr h⟩)
          ·cases s with | false=>rfl | true=>exact absurd ⟨rfl,.inl rfl⟩ hgo
        have HB7:=Lib.hid (za HB4.out hbw)
        clear hgo hown hbw
        rcases hcase with rfl | ⟨rfl,hd0,rfl⟩
        all_goals
         go_wp2_with (go_at_call 111;refine HGS.out.mono ?_;rintro e w' ⟨rfl,rfl⟩)
         go_ret3
         rw [hE.out]
         exact RetIO.nil _ HB7.out
      ·obtain rfl:k=m:=by omega
       have hlti:¬(k:Int) < (k:Int):=by omega
       have hE:Hid (zD l s=(acc,q2,0)):=Lib.hid (by
        have h1:=HACC.out
        rw [List.take_of_length_le (by rw [HLL.out];exact Nat.le_refl _)] at h1
        rw [HE3.out,h1])
       have HO:=Lib.hid (zbk (f:=iv) hown)
       have HQ5:=Lib.hid (HQ4.out.below hbw)
       have HB7:=Lib.hid (za HB4.out hbw)
       clear hown hbw
       go_wp2
       go_ret3
       rw [hE.out]
       exact ⟨_,_,rfl,HO.out,HQ5.out,HB7.out⟩
theorem zoe (n L:Nat) (w:World) (h:n≤64) (hL:L=2 ^ n - 1):Calls Tryz.prog 196 #[.int .i64 (n:Int)] w fun e w'=>e=.returned (.int .u64 (L:Int))∧w=w':=by
 have h1:2 ^ n≤2 ^ 64:=Nat.pow_le_pow_right (by omega) h
 have h2:1≤2 ^ n:=Nat.one_le_two_pow
 have h3:((2 ^ n:Nat):Int)=2 ^ n:=by simp
 have HE:Hid (IntKind.u64.wrap (IntKind.u64.wrap (2 ^ n) - 1)=(L:Int)):=Lib.hid (by
  rw [←h3,IntKind.wrap_u64,IntKind.wrap_u64,hL]
  generalize 2 ^ n=p at *
  omega)
 clear h1 h2 h3 hL
 go_enter Tryz.func196,Tryz.ntmps196
 go_wp2
 go_ret
 exact ⟨zu HE.out,rfl⟩
theorem zpt (n:Int) (w:World) (h0:1≤n) (h1:n≤512):Calls Tryz.prog 184 #[.int .i64 n] w fun e w'=>e=.returned (.bool true)∧w=w':=by
 go_enter Tryz.func184,Tryz.ntmps184
 go_wp2
 go_ret
 exact ⟨rfl,rfl⟩
theorem zrD (n:Int) (w:World) (h:n < 1∨512 < n):Calls Tryz.prog 184 #[.int .i64 n] w fun e w'=>e=.returned (.bool false)∧w=w':=by
 rcases h with h | h
 ·have h2:decide (1≤n)=false:=by simp;omega
  go_enter Tryz.func184,Tryz.ntmps184
  go_wp2
  go_ret
  exact ⟨rfl,rfl⟩
 ·have h2:decide (n≤512)=false:=by simp;omega
  have h3:decide (1≤n)=true:=by simp;omega
  go_enter Tryz.func184,Tryz.ntmps184
  go_wp2
  go_ret
  exact ⟨rfl,rfl⟩
theorem ztI (W:Int) (w:World) (ht:WTab w):Calls Tryz.prog 185 #[.int .i64 W] w fun e w'=>e=.returned (.bool (decide (W < 64) && decide (0≤zbc W)))∧w=w':=by
 have HC:=Lib.hid (zfo W w ht)
 obtain ⟨c,hc⟩:∃ c,c=zbc W:=⟨_,rfl⟩
 rw [←hc] at HC ⊢
 clear ht hc
 by_cases h:W < 64
 ·have h1:decide (W < 64)=true:=decide_eq_true h
  rw [h1,Bool.true_and]
  obtain ⟨d,hd⟩:∃ d,d=decide (0≤c):=⟨_,rfl⟩
  have hd':=hd.symm
  rw [hd']
  clear hd h
  go_enter Tryz.func185,Tryz.ntmps185
  go_wp2_with (go_at_call 141;refine HC.out.mono ?_;rintro e w' ⟨rfl,rfl⟩)
  go_ret
  exact ⟨rfl,rfl⟩
 ·have h1:decide (W < 64)=false:=decide_eq_false h
  rw [h1,Bool.false_and]
  clear h
  go_enter Tryz.func185,Tryz.ntmps185
  go_wp2
  go_ret
  exact ⟨rfl,rfl⟩
def shc (m W n p g t:Int):List Value:=[.int .i64 m,.int .i64 W,.int .i64 n,.int .i64 p,.int .i64 g,.int .i64 t]
def shv (m W n p g t:Int):Value:=.agg (shc m W n p g t).toArray
theorem zhQ (m W n p g t:Int):∀ u∈shc m W n p g t,u.oneCell'=true:=by
 intro u hu
 simp only [shc,List.mem_cons,List.not_mem_nil,or_false] at hu
 rcases hu with h | h | h | h | h | h <;> (subst h;rfl)
theorem zk5 (m W n p g t:Int) (w:World) (hp:0≤p∧p≤1000) (hg:0≤g∧g≤1000):Calls Tryz.prog 190 #[shv m W n p g t] w fun e w'=>e=.returned (.bool (decide (g+p≤64)))∧Below w.heap.size w w':=by
 have hw:IntKind.i64.wrap (g+p)=g+p:=by rw [IntKind.wrap_i64];omega
 obtain ⟨x,hx⟩:∃ x,x=g+p:=⟨_,rfl⟩
 rw [←hx] at hw ⊢
 have hx':=hx.symm
 obtain ⟨d,hd⟩:∃ d,d=decide (x≤64):=⟨_,rfl⟩
 have hd':=hd.symm
 rw [hd']
 clear hx hd hp hg
 unfold shv shc
 go_enter Tryz.func190,Tryz.ntmps190
 go_wp2
 go_ret
 exact ⟨rfl,(Below.refl _ _).alloc (Nat.le_refl _) _⟩
theorem zk6 (m W n p g t:Int) (w:World) (ht:WTab w) (hp:0≤p∧p≤1000) (hg:0≤g∧g≤1000):Calls Tryz.prog 161 #[shv m W n p g t] w fun e w'=>e=.returned (.int .i64 (zh (g+p)))∧Below w.heap.size w w':=by
 have hw:IntKind.i64.wrap (g+p)=g+p:=by rw [IntKind.wrap_i64];omega
 obtain ⟨x,hx⟩:∃ x,x=g+p:=⟨_,rfl⟩
 rw [←hx] at hw ⊢
 have hx':=hx.symm
 have HC:=Lib.hid (fun W (h:WTab W)=>zdR x W h)
 have HT:=Lib.hid (ht.below ((Below.refl w.heap.size w).alloc (Nat.le_refl _) (.cells (shc m W n p g t).toArray 172)) ht.lt)
 unfold shc at HT
 clear hx hp hg ht
 unfold shv shc
 go_enter Tryz.func161,Tryz.ntmps161
 go_wp2_with (go_at_call 137;refine (HC.out _ HT.out).mono ?_;rintro e w' ⟨rfl,rfl⟩)
 go_ret
 exact ⟨rfl,(Below.refl _ _).alloc (Nat.le_refl _) _⟩
theorem zpu {base:Int} (hb:inInt base) (hne:base≠-9223372036854775808):zC 0 base=(zeY base,decide (base < 0),true):=by
 unfold inInt at hb
 unfold zeY
 rcases zbO 0 base with ⟨_,k⟩ | ⟨k1,_,k⟩ | ⟨k1,_,k⟩
 ·omega
 ·rw [k,decide_eq_true k1]
 ·rw [k,decide_eq_false (by omega)]
theorem zmV:zC 0 (-9223372036854775808)=(0,false,false):=by decide
theorem zrE (w:World):Calls Tryz.prog 186 #[.int .i64 (-9223372036854775808)] w fun e w'=>e=.returned (.tuple #[.slice none 0 0,.bool false])∧Below w.heap.size w w':=by
 have HD:=Lib.hid (zhG 0 (-9223372036854775808) w (by unfold inInt;omega) (by unfold inInt;omega))
 rw [zmV] at HD
 go_enter Tryz.func186,Tryz.ntmps186
 go_wp2_with fail
 refine HD.out.mono ?_
 rintro e w1 ⟨rfl,hb1⟩
 go_wp2
 go_ret2
 exact ⟨rfl,hb1⟩
def zvE (S n g:Nat) (w:World) (i:Value) (wr:World):Prop:=∃ k:Nat,k≤n∧i=.int .i64 (k:Int)∧Row wr g 5 ((List.replicate (n - k) (0:UInt8) ++ be k S).map bv)∧Below w.heap.size w wr
theorem zuW {S n k:Nat} (hk:k < n):(List.replicate (n - k) (0:UInt8) ++ be k S).set (n - 1 - k) (UInt8.ofNat (S / 256 ^ k % 256))=List.replicate (n - (k+1)) 0 ++ be (k+1) S:=by
 obtain ⟨m,hm⟩:∃ m,n - k=m+1:=⟨n - k - 1,by omega⟩
 rw [hm,show n - 1 - k=m by omega,show n - (k+1)=m by omega,List.replicate_succ',List.append_assoc,List.set_append_right _ _ (by simp),List.length_replicate,Nat.sub_self]
 rfl
def zuX (base:Int) (w:World) (e:Ending) (w':World):Prop:=
 ∃ g,e=.returned (.tuple #[.slice (some ⟨g,0,none⟩) (pn base) (pn base),.bool true])∧w.heap.size≤g∧Row w' g 5 ((zdE base).map bv)∧Below w.heap.size w w'
theorem zpv (base:Int) (w:World) (hb:inInt base) (hne:base≠-9223372036854775808):Calls Tryz.prog 186 #[.int .i64 base] w (zuX base w):=by
 obtain ⟨_,hlt⟩:=zeO hb hne
 obtain ⟨n1,n8,hS8⟩:=zry hlt
 have hg:=zpu hb hne
 unfold zuX
 obtain ⟨S,hS⟩:∃ S,S=zeY base:=⟨_,rfl⟩
 obtain ⟨n,hn⟩:∃ n,n=pn base:=⟨_,rfl⟩
 obtain ⟨f,hf⟩:∃ f,f=decide (base < 0):=⟨_,rfl⟩
 rw [←hS,←hf] at hg
 have HD:=Lib.hid (zhG 0 base w (by unfold inInt;omega) hb)
 rw [hg] at HD
 have hpb:zdE base=be n (S+if f=true then 2 ^ (8*n - 1) else 0):=by
  unfold zdE
  rw [←hS,←hn]
  congr 2
  rw [hf]
  by_cases h:base < 0
  ·rw [if_pos h,if_pos (by simpa using h)]
  ·rw [if_neg h,if_neg (by simpa using h)]
 obtain ⟨B,hB⟩:∃ B,B=zY S:=⟨_,rfl⟩
 have HBI:=Lib.hid (fun W=>zgO S W (by rw [hS];show zeY base < 18446744073709551616;omega))
 rw [←hB] at HBI
 obtain ⟨Q,hQ⟩:∃ Q,Q=B / 8:=⟨_,rfl⟩
 have hnq:n=Q+1:=by rw [hn,hQ,hB,hS];rfl
 have hBq:(B:Int) / 8=(Q:Int):=by omega
 rw [←hn] at n1 n8 hS8 ⊢
 rw [←hS] at hS8
 have HPB:=Lib.hid hpb
 have HS8:=Lib.hid hS8
 have hQn:(Q:Int)+1=(n:Int):=by omega
 have hnw:IntKind.i64.wrap (n:Int)=(n:Int):=by rw [IntKind.wrap_i64];omega
 clear hlt hS hn hf hg hpb hB hQ hnq hS8 hb hne
 go_enter Tryz.func186,Tryz.ntmps186
 go_wp2_with fail
 refine HD.out.mono ?_
 rintro e w1 ⟨rfl,hb1⟩
 have HB1:=Lib.hid hb1
 have hz1:=hb1.size
 clear hb1
 go_wp2_with (first | (go_at_call 170;refine (HBI.out _).mono ?_;rintro e w' ⟨rfl,rfl⟩) | (refine zn elemB rfl _ _ rfl _ _ _ _ n w w.heap.size rfl rfl (by first | exact hQn | rfl) (by first | exact hQn | rfl) (by omega) (by omega) HB1.out hz1 ?_))
 intro w2 hr2 hb2
 have HS:=Lib.hid (show zvE S n w1.heap.size w (.int .i64 0) w2 from ⟨0,Nat.zero_le _,rfl,by rw [Nat.sub_zero];simpa [be] using hr2,hb2⟩)
 clear hr2 hb2
 go_wp2
 go_loopw [24] (zvE S n w1.heap.size w) (fun i _=>n - (intOf i).toNat)
 case atStart=>exact HS.out
 case round =>
  obtain ⟨k,hk,rfl,hr,hbw⟩:=hrel
  have HBW:=Lib.hid hbw
  have hgr:=hr.lt
  by_cases hlt:k < n
  ·have hlti:(k:Int) < (n:Int):=by omega
   obtain ⟨I,hI⟩:∃ I,I=n - 1 - k:=⟨_,rfl⟩
   have hIi:(n:Int) - 1 - (k:Int)=(I:Int):=by omega
   have hn1:IntKind.i64.wrap ((n:Int) - 1)=(n:Int) - 1:=by rw [IntKind.wrap_i64];omega
   have hIw:IntKind.i64.wrap (I:Int)=(I:Int):=by rw [IntKind.wrap_i64];omega
   obtain ⟨T,hT⟩:∃ T,T=S / 2 ^ (8*k):=⟨_,rfl⟩
   obtain ⟨M,hM⟩:∃ M,M=8*k:=⟨_,rfl⟩
   have hMi:8*(k:Int)=(M:Int):=by omega
   have hMw:IntKind.i64.wrap (M:Int)=(M:Int):=by rw [IntKind.wrap_i64];omega
   have hsh:(S:Int) / 2 ^ M=(T:Int):=by rw [hT,hM];simp
   obtain ⟨C,hC⟩:∃ C,C=T % 256:=⟨_,rfl⟩
   have hC256:C < 256:=by omega
   have hCw:IntKind.u8.wrap (T:Int)=(C:Int):=by rw [IntKind.wrap_u8];omega
   have hTm:(T:Int) % 256=(C:Int):=by omega
   have hset:=zjD hr I C hC256
   rw [hC,hT,←p256,hI,zuW hlt,←hI,p256,←hT,←hC] at hset
   have HSET:=Lib.hid hset
   have HB3:=Lib.hid (hbw.setCell (p:=⟨w1.heap.size,I,none⟩) hz1 (.int .u8 (C:Int)))
   have hcu:∃ u,wr.cell? ⟨w1.heap.size,I,none⟩=some u:=by
    rw [hr.cell]
    exact ⟨_,List.getElem?_eq_getElem (by simp [zcJ];omega)⟩
   obtain ⟨u0,hcu⟩:=hcu
   have hfr:=hr.free I
   have hIn:(I:Int) < (n:Int):=by omega
   have hM64:M < 64:=by omega
   clear hset hr hT hC hI hM hbw
   go_wp2
   go_roundw
   case rel=>exact ⟨k+1,hlt,by go_num,HSET.out,HB3.out⟩
   case measure=>simp [intOf];omega
  ·obtain rfl:k=n:=by omega
   rw [Nat.sub_self,List.replicate_zero,List.nil_append] at hr
   clear hbw
   cases f with
   | false =>
    have HE:Hid (zdE base=be k S):=Lib.hid (by rw [HPB.out];rfl)
    have HO:=Lib.hid hr
    clear hr
    go_wp2
    go_ret2
    rw [HE.out]
    exact ⟨_,rfl,hz1,HO.out,HBW.out⟩
   | true =>
    have HE:Hid (zdE base=be k (S+2 ^ (8*k - 1))):=Lib.hid (by rw [HPB.out];rfl)
    obtain ⟨b0,hb0⟩:∃ b0,b0=S / 256 ^ (k - 1) % 256:=⟨_,rfl⟩
    obtain ⟨hb1,hbe⟩:=zrB n1 HS8.out hb0
    have hc0:wr.cell? ⟨w1.heap.size,0,none⟩=some (.int .u8 (b0:Int)):=by
     rw [hr.cell,List.getElem?_map,List.getElem?_eq_getElem (by rw [zcJ];omega),zrA,Nat.sub_zero,←hb0]
     show some (bv (UInt8.ofNat b0))=_
     rw [←zem (by omega)]
    have hf0:=hr.free 0
    obtain ⟨C,hC⟩:∃ C,C=b0+128:=⟨_,rfl⟩
    have hor:bits .or .u8 (b0:Int) 128=(C:Int):=by rw [u8_or128 _ (by omega) (by omega)];omega
    have hst:=zjD hr 0 C (by omega)
    rw [hC,hbe,←hC] at hst
    have HO:=Lib.hid hst
    have HB:=Lib.hid (HBW.out.setCell (p:=⟨w1.heap.size,0,none⟩) hz1 (.int .u8 (C:Int)))
    have hn0:(0:Int) < (k:Int):=by omega
    clear hst hr hb0 hbe hC
    go_wp2
    go_ret2
    rw [HE.out]
    exact ⟨_,rfl,hz1,HO.out,HB.out⟩
theorem zrF {X M:Nat} (hM:M≤63) (h:X < 2 ^ (M+1)):X &&& (18446744073709551615 - 2 ^ M)=X % 2 ^ M:=by
 have hp:2 ^ M < 2 ^ 64:=Nat.pow_lt_pow_right (by omega) (by omega)
 rw [show 18446744073709551615 - 2 ^ M=2 ^ 64 - (2 ^ M+1) by omega]
 refine Nat.eq_of_testBit_eq fun i=>?_
 rw [Nat.testBit_and,Nat.testBit_two_pow_sub_succ hp,Nat.testBit_mod_two_pow,Nat.testBit_two_pow]
 by_cases h1:i < M
 ·rw [decide_eq_true (by omega:i < 64),decide_eq_true h1,decide_eq_false (by omega:¬M=i)];simp
 ·rw [decide_eq_false h1,Bool.false_and]
  by_cases h2:M=i
  ·subst h2;simp
  ·have:X.testBit i=false:=Nat.testBit_lt_two_pow (Nat.lt_of_lt_of_le h (Nat.pow_le_pow_right (by omega) (by omega)))
   rw [this,Bool.false_and]
theorem zuY {X M:Nat} (h:X < 2 ^ (M+1)):(X &&& 2 ^ M)=if 2 ^ M≤X then 2 ^ M else 0:=by
 refine Nat.eq_of_testBit_eq fun i=>?_
 rw [Nat.testBit_and,Nat.testBit_two_pow]
 by_cases h2:M=i
 ·subst h2
  rw [decide_eq_true rfl,Bool.and_true]
  by_cases h3:2 ^ M≤X
  ·rw [if_pos h3,Nat.testBit_two_pow_self,Nat.testBit_eq_decide_div_mod_eq]
   have:X / 2 ^ M=1:=by
    rw [Nat.pow_succ] at h
    have h4:X / 2 ^ M < 2:=Nat.div_lt_of_lt_mul (by omega)
    have h5:1≤X / 2 ^ M:=(Nat.le_div_iff_mul_le (Nat.two_pow_pos M)).2 (by omega)
    omega
   rw [this];decide
  ·rw [if_neg h3,Nat.zero_testBit]
   exact Nat.testBit_lt_two_pow (by omega)
 ·rw [decide_eq_false h2,Bool.and_false]
  by_cases h3:2 ^ M≤X
  ·rw [if_pos h3,Nat.testBit_two_pow,decide_eq_false h2]
  ·rw [if_neg h3,Nat.zero_testBit]
def zvF (x:List UInt8) (w:World) (u i:Value) (wr:World):Prop:=∃ k U:Nat,k≤x.length∧i=.int .i64 (k:Int)∧u=.int .u64 (U:Int)∧U=bval (x.take k)∧wr=w
theorem zi2 {x:List UInt8} {X M:Nat} (h1:1≤x.length) (h8:x.length≤8) (hM:M=8*x.length - 1) (hX:X=bval x):zbi 0 (X % 2 ^ M) (decide (2 ^ M≤X))=(zdF x,true)∧inInt (zdF x)∧X < 2 ^ (M+1):=by
 have hlt:X < 2 ^ (M+1):=by rw [hX,show M+1=8*x.length by omega,←p256];exact zdq x
 have h63:2 ^ M≤2 ^ 63:=Nat.pow_le_pow_right (by omega) (by omega)
 have hR:X % 2 ^ M < 2 ^ M:=Nat.mod_lt _ (Nat.two_pow_pos M)
 have e:zdF x=if 2 ^ M≤X then -((X % 2 ^ M:Nat):Int) else ((X % 2 ^ M:Nat):Int):=by unfold zdF;rw [←hM,←hX]
 rw [e]
 generalize X % 2 ^ M=S at *
 generalize 2 ^ M=P at *
 refine ⟨?_,?_,hlt⟩
 ·unfold zbi
  rw [if_neg (by omega)]
  by_cases h:P≤X
  ·rw [if_pos (decide_eq_true h),if_neg (by omega),if_pos h];try simp
  ·rw [if_neg (by simpa using h),if_neg (by omega),if_neg h];try simp
 ·unfold inInt
  split <;> omega
theorem zpw (x:List UInt8) (v:Value) (w:World) (hv:IsB x v w) (h1:1≤x.length) (h8:x.length≤8):Calls Tryz.prog 160 #[v] w fun e w'=>e=.returned (.int .i64 (zdF x))∧Below w.heap.size w w':=by
 rw [isB_iff] at hv
 obtain ⟨A,n,c,rfl⟩:=hv.shape
 have HN:=Lib.hid hv.parts.1
 have HV:=Lib.hid hv
 have hn1:1≤n:=by have:=HN.out;omega
 have hn8:n≤8:=by have:=HN.out;omega
 obtain ⟨M,hM⟩:∃ M,M=8*n - 1:=⟨_,rfl⟩
 obtain ⟨hst,hin,hX⟩:=zi2 (M:=M) (X:=bval x) h1 h8 (by rw [HN.out];exact hM) rfl
 have HST:=Lib.hid hst
 have HX:=Lib.hid hX
 have hMn:8*(n:Int) - 1=(M:Int):=by omega
 have hw8:IntKind.i64.wrap (8*(n:Int))=8*(n:Int):=by rw [IntKind.wrap_i64];omega
 have hMw:IntKind.i64.wrap (M:Int)=(M:Int):=by rw [IntKind.wrap_i64];omega
 have hM64:M≤63:=by omega
 have HS:=Lib.hid (show zvF x w (.int .u64 0) (.int .i64 0) w from ⟨0,0,Nat.zero_le _,rfl,rfl,by simp [bval],rfl⟩)
 clear hv h1 h8 hst hin hX hM
 go_enter Tryz.func160,Tryz.ntmps160
 go_wp2
 go_loopw [3,11] (zvF x w) (fun _ i _=>n - (intOf i).toNat)
 case atStart=>exact HS.out
 case round =>
  obtain ⟨k,U,hk,rfl,rfl,hU,rfl⟩:=hrel
  have HU:=Lib.hid hU
  have hkn:k≤n:=by have:=HN.out;omega
  clear hU hk
  by_cases hlt:k < n
  ·have hkl:k < x.length:=by have:=HN.out;omega
   have hlti:(k:Int) < (n:Int):=by omega
   obtain ⟨ad,rfl,had,hcell⟩:=HV.out.at hkl
   obtain ⟨d,hd⟩:∃ d,d=x[k].toNat:=⟨_,rfl⟩
   have hcx:wr.cell? (ad.add k)=some (.int .u8 (d:Int)):=by rw [hcell,hd];rfl
   have hd8:d < 256:=by rw [hd];exact UInt8.toNat_lt _
   have hU7:U < 72057594037927936:=by
    rw [HU.out]
    refine Nat.lt_of_lt_of_le (zdq _) ?_
    have:256 ^ (x.take k).length≤256 ^ 7:=Nat.pow_le_pow_right (by omega) (by rw [List.length_take];omega)
    omega
   obtain ⟨V,hV⟩:∃ V,V=U*256:=⟨_,rfl⟩
   have hor:bits .or .u64 (V:Int) (d:Int)=((V+d:Nat):Int):=zmm 8 V d (by omega) hd8 (by omega)
   have hshl:IntKind.u64.wrap ((U:Int)*256)=(V:Int):=by rw [IntKind.wrap_u64];omega
   obtain ⟨Y,hY⟩:∃ Y,Y=V+d:=⟨_,rfl⟩
   rw [←hY] at hor
   have hdw:IntKind.u64.wrap (d:Int)=(d:Int):=by rw [IntKind.wrap_u64];omega
   have HN1:=Lib.hid (show Y=bval (x.take (k+1)) by rw [zgC x k hkl,←HU.out,←hd];omega)
   clear hcell hd hY hU7 hV
   go_wp2
   go_roundw
   case rel=>exact ⟨k+1,Y,hkl,by go_num,rfl,HN1.out,rfl⟩
   case measure=>simp [intOf];omega
  ·obtain rfl:k=n:=by omega
   have hXU:U=bval x:=by have:=HU.out;rwa [List.take_of_length_le (by have:=HN.out;omega)] at this
   rw [←hXU] at HST HX
   obtain ⟨P,hP⟩:∃ P,P=2 ^ M:=⟨_,rfl⟩
   obtain ⟨R,hR⟩:∃ R,R=U % 2 ^ M:=⟨_,rfl⟩
   have hPb:P≤9223372036854775808:=by
    rw [hP]
    exact Nat.pow_le_pow_right (n:=2) (i:=M) (j:=63) (by omega) hM64
   have hU64:U < 18446744073709551616:=by
    have h:=HX.out
    rw [Nat.pow_succ,←hP] at h
    omega
   have hRP:R < P:=by rw [hR,hP];exact Nat.mod_lt _ (Nat.two_pow_pos M)
   have hpi:(2:Int) ^ M=(P:Int):=by rw [hP];simp
   have hpw:IntKind.u64.wrap (P:Int)=(P:Int):=by rw [IntKind.wrap_u64];omega
   have hand:bits .andNot .u64 (U:Int) (P:Int)=(R:Int):=by
    rw [u64_andNot_nat _ _ hU64 (by omega),hP,zrF hM64 HX.out,hR]
   obtain ⟨Z,hZ⟩:∃ Z,Z=(U &&& P):=⟨_,rfl⟩
   have hand2:bits .and .u64 (U:Int) (P:Int)=(Z:Int):=by
    rw [u64_and_nat _ _ hU64 (by omega),hZ]
   have hZt:((Z:Int) != 0)=decide (2 ^ M≤U):=by
    rw [hZ,hP,zuY HX.out,←hP]
    by_cases h:P≤U
    ·rw [if_pos h,decide_eq_true h]
     have:0 < P:=by omega
     simp;omega
    ·rw [if_neg h,decide_eq_false h];rfl
   obtain ⟨f,hf⟩:∃ f,f=decide (2 ^ M≤U):=⟨_,rfl⟩
   rw [←hf] at hZt HST
   rw [←hR] at HST
   have HSP:=Lib.hid (zkT 0 (R:Int) f wr (by unfold inInt;omega) (by omega) (by omega))
   rw [Int.toNat_natCast,HST.out] at HSP
   clear hXU hP hR hPb hU64 hRP hZ hf
   go_wp2_with (go_at_call 194;refine HSP.out.mono ?_;rintro e w1 ⟨rfl,hb1⟩)
   go_ret
   exact ⟨rfl,hb1⟩
def zvX (o:Option (List Nat)) (w:World) (e:Ending) (w':World):Prop:=
 match o with
 | none=>e=.returned (.tuple #[.slice none 0 0,.bool false])∧Below w.heap.size w w'
 | some us=>∃ g,e=.returned (.tuple #[.slice (some ⟨g,0,none⟩) us.length us.length,.bool true])∧w.heap.size≤g∧Row w' g 119 (us.map uv)∧Below w.heap.size w w'
def zvY (o:Option (List Int)) (w:World) (e:Ending) (w':World):Prop:=
 match o with
 | none=>e=.returned (.tuple #[.slice none 0 0,.bool false])∧Below w.heap.size w w'
 | some xs=>∃ v,e=.returned (.tuple #[v,.bool true])∧IsV iv xs v w'∧Below w.heap.size w w'
theorem zrG (base:Int) (l:List Int) (v:Value) (w:World) (hv:IsV iv l v w) (hbi:inInt base) (hl:∀ x∈l,inInt x) (hb:l.length≤1000000) :
  Calls Tryz.prog 187 #[.int .i64 base,v] w (zvX (omap (pone base) l) w):=by
 obtain ⟨A,n,c,rfl⟩:=hv.shape
 have HN:=Lib.hid hv.parts.1
 have HV:=Lib.hid hv
 have HL:=Lib.hid hl
 have hn6:n≤1000000:=by have:=HN.out;omega
 clear hv hl hb
 go_enter Tryz.func187,Tryz.ntmps187
 go_wp2_with (refine zn elemU rfl _ _ rfl _ _ _ _ n w w.heap.size rfl rfl rfl rfl (by omega) (by omega) (Below.refl _ _) (Nat.le_refl _) ?_)
 intro w1 hr1 hb1
 have HS:=Lib.hid (show zds (pone base) uv (uv 0) 119 l w (.int .i64 0) w1 from ⟨0,[],Nat.zero_le _,rfl,rfl,by rw [Nat.sub_zero,HN.out];simpa [uv] using hr1,hb1⟩)
 clear hr1 hb1
 go_wp2
 go_loopw [17] (zds (pone base) uv (uv 0) 119 l w) (fun i _=>n - (intOf i).toNat)
 case atStart=>exact HS.out
 case round =>
  obtain ⟨k,acc,hk,rfl,hacc,hr,hbw⟩:=hrel
  have hal:acc.length=k:=by rw [zcb hacc,List.length_take];omega
  rw [HN.out] at hr
  have HACC:=Lib.hid hacc
  have HAL:=Lib.hid hal
  have HB:=Lib.hid hbw
  have HR:=Lib.hid hr
  have hk':k≤n:=by have:=HN.out;omega
  clear hacc hal hk hr
  by_cases hlt:k < n
  ·have hkl:k < l.length:=by have:=HN.out;omega
   have hlti:(k:Int) < (n:Int):=by omega
   obtain ⟨ad,rfl,_,hcell⟩:=(HV.out.below hbw).at hkl
   obtain ⟨x,hx⟩:∃ x,x=l[k]:=⟨_,rfl⟩
   have hcx:wr.cell? (ad.add k)=some (.int .i64 x):=by rw [hcell,hx];rfl
   have hxb:inInt x:=by rw [hx];exact HL.out _ (List.getElem_mem hkl)
   have HX:=Lib.hid hx
   have HD:=Lib.hid (zhG base x wr hbi hxb)
   obtain ⟨u,d,o,hg⟩:∃ u d o,zC base x=(u,d,o):=⟨_,_,_,rfl⟩
   rw [hg] at HD
   have HP:=Lib.hid (show pone base x=if o=true then some u else none by unfold pone;rw [hg])
   clear hcell hx hxb hg hbw
   go_wp2_with fail
   refine HD.out.mono ?_
   rintro e w2 ⟨rfl,hb2⟩
   have HB2:=Lib.hid (za HB.out hb2)
   cases o with
   | false =>
    have hE:=Lib.hid (show omap (pone base) l=none from zb5 (x:=x) (by rw [HX.out];exact List.getElem_mem hkl) (by rw [HP.out];rfl))
    clear hb2
    go_wp2
    go_ret2
    rw [hE.out]
    exact ⟨rfl,HB2.out⟩
   | true =>
    have hnext:=Lib.hid (show omap (pone base) (l.take (k+1))=some (acc ++ [u]) from zc0 hkl HACC.out (by rw [←HX.out,HP.out];rfl))
    have hr2:=HR.out.below hb2 HR.out.lt
    have hfx:=hr2.free k
    have hcu:∃ y,w2.cell? ⟨w.heap.size,k,none⟩=some y:=by
     rw [hr2.cell]
     exact ⟨_,List.getElem?_eq_getElem (by rw [List.length_append,List.length_map,List.length_replicate];have:=HAL.out;omega)⟩
    obtain ⟨u0,hcu⟩:=hcu
    have hset:=hr2.set_ k (uv u)
    rw [zc1 hlt HAL.out] at hset
    have HSET:=Lib.hid hset
    have HB3:=Lib.hid (HB2.out.setCell (p:=⟨w.heap.size,k,none⟩) (Nat.le_refl _) (uv u))
    clear hset hr2 hb2
    go_wp2
    go_roundw
    case rel=>exact ⟨k+1,_,hkl,by go_num,hnext.out,by rw [HN.out];exact HSET.out,HB3.out⟩
    case measure=>simp [intOf];omega
  ·obtain rfl:k=n:=by omega
   have hlti:¬(k:Int) < (k:Int):=by omega
   have hE:Hid (omap (pone base) l=some acc):=Lib.hid (by
    have h1:=HACC.out
    rwa [List.take_of_length_le (by have:=HN.out;omega)] at h1)
   have hr:=HR.out
   rw [Nat.sub_self,List.replicate_zero,List.append_nil] at hr
   have HRR:=Lib.hid hr
   clear hr hbw
   go_wp2
   go_ret2
   rw [hE.out]
   exact ⟨w.heap.size,by rw [HAL.out];rfl,Nat.le_refl _,HRR.out,HB.out⟩
theorem ztJ {s f:Bool} {x:Int} {u:Nat} {z:Int} {ok:Bool} (h:zbi x u f=(z,ok)):zbl s f x u=if ok=true∧(s=true∨0≤z) then some z else none:=by
 unfold zbl
 rw [h]
theorem zk7 (base:Int) (us:List Nat) (v:Value) (s:Bool) (w:World) (hv:IsV uv us v w) (hbi:inInt base) (hu:∀ u∈us,u < 2 ^ 64) (hb:us.length≤1000000) :
  Calls Tryz.prog 163 #[.int .i64 base,v,.bool s] w (zvY (omap (zbl s false base) us) w):=by
 obtain ⟨A,n,c,rfl⟩:=hv.shape
 have HN:=Lib.hid hv.parts.1
 have HV:=Lib.hid hv
 have HL:=Lib.hid hu
 have hn6:n≤1000000:=by have:=HN.out;omega
 clear hv hu hb
 go_enter Tryz.func163,Tryz.ntmps163
 go_wp2_with (refine zn zck rfl _ _ rfl _ _ _ _ n w w.heap.size rfl rfl rfl rfl (by omega) (by omega) (Below.refl _ _) (Nat.le_refl _) ?_)
 intro w1 hr1 hb1
 have HS:=Lib.hid (show zds (zbl s false base) iv (iv 0) 3 us w (.int .i64 0) w1 from ⟨0,[],Nat.zero_le _,rfl,rfl,by rw [Nat.sub_zero,HN.out];simpa [iv] using hr1,hb1⟩)
 clear hr1 hb1
 go_wp2
 go_loopw [18] (zds (zbl s false base) iv (iv 0) 3 us w) (fun i _=>n - (intOf i).toNat)
 case atStart=>exact HS.out
 case round =>
  obtain ⟨k,acc,hk,rfl,hacc,hr,hbw⟩:=hrel
  have hal:acc.length=k:=by rw [zcb hacc,List.length_take];omega
  rw [HN.out] at hr
  have HACC:=Lib.hid hacc
  have HAL:=Lib.hid hal
  have HB:=Lib.hid hbw
  have HR:=Lib.hid hr
  have hk':k≤n:=by have:=HN.out;omega
  clear hacc hal hk hr
  by_cases hlt:k < n
  ·have hkl:k < us.length:=by have:=HN.out;omega
   have hlti:(k:Int) < (n:Int):=by omega
   obtain ⟨ad,rfl,_,hcell⟩:=(HV.out.below hbw).at hkl
   obtain ⟨x,hx⟩:∃ x,x=us[k]:=⟨_,rfl⟩
   have hcx:wr.cell? (ad.add k)=some (.int .u64 (x:Int)):=by rw [hcell,hx];rfl
   have hxb:x < 18446744073709551616:=by rw [hx];exact HL.out _ (List.getElem_mem hkl)
   have HX:=Lib.hid hx
   have HD:=Lib.hid (zkT base (x:Int) false wr hbi (by omega) (by omega))
   rw [Int.toNat_natCast] at HD
   obtain ⟨z,o,hg⟩:∃ z o,zbi base x false=(z,o):=⟨_,_,rfl⟩
   rw [hg] at HD
   have HP:=Lib.hid (ztJ (s:=s) hg)
   clear hcell hx hxb hg hbw
   go_wp2_with fail
   refine HD.out.mono ?_
   rintro e w2 ⟨rfl,hb2⟩
   have HB2:=Lib.hid (za HB.out hb2)
   by_cases hok:o=true∧(s=true∨0≤z)
   ·have hnext:=Lib.hid (show omap (zbl s false base) (us.take (k+1))=some (acc ++ [z]) from zc0 hkl HACC.out (by rw [←HX.out,HP.out,if_pos hok]))
    have hr2:=HR.out.below hb2 HR.out.lt
    have hfx:=hr2.free k
    have hcu:∃ y,w2.cell? ⟨w.heap.size,k,none⟩=some y:=by
     rw [hr2.cell]
     exact ⟨_,List.getElem?_eq_getElem (by rw [List.length_append,List.length_map,List.length_replicate];have:=HAL.out;omega)⟩
    obtain ⟨u0,hcu⟩:=hcu
    have hset:=hr2.set_ k (iv z)
    rw [zc1 hlt HAL.out] at hset
    have HSET:=Lib.hid hset
    have HB3:=Lib.hid (HB2.out.setCell (p:=⟨w.heap.size,k,none⟩) (Nat.le_refl _) (iv z))
    obtain ⟨rfl,hsz⟩:=hok
    clear hset hr2 hb2
    cases s with
    | true =>
     obtain ⟨d,hd⟩:∃ d,decide (z < 0)=d:=⟨_,rfl⟩
     cases d
     all_goals
      go_wp2
      go_roundw
      case rel=>exact ⟨k+1,_,hkl,by go_num,hnext.out,by rw [HN.out];exact HSET.out,HB3.out⟩
      case measure=>simp [intOf];omega
    | false =>
     have d3:decide (z < 0)=false:=decide_eq_false (by rcases hsz with h | h <;> first | cases h | omega)
     clear hsz
     go_wp2
     go_roundw
     case rel=>exact ⟨k+1,_,hkl,by go_num,hnext.out,by rw [HN.out];exact HSET.out,HB3.out⟩
     case measure=>simp [intOf];omega
   ·have hE:=Lib.hid (show omap (zbl s false base) us=none from zb5 (x:=x) (by rw [HX.out];exact List.getElem_mem hkl) (by rw [HP.out,if_neg hok]))
    clear hb2
    cases o with
    | false =>
     clear hok
     go_wp2
     go_ret2
     rw [hE.out]
     exact ⟨rfl,HB2.out⟩
    | true =>
     obtain ⟨rfl,d3⟩:s=false∧decide (z < 0)=true:=by
      cases s
      ·exact ⟨rfl,decide_eq_true (by refine Int.not_le.1 fun h=>hok ⟨rfl,.inr h⟩)⟩
      ·exact absurd ⟨rfl,.inl rfl⟩ hok
     clear hok
     go_wp2
     go_ret2
     rw [hE.out]
     exact ⟨rfl,HB2.out⟩
  ·obtain rfl:k=n:=by omega
   have hlti:¬(k:Int) < (k:Int):=by omega
   have hE:Hid (omap (zbl s false base) us=some acc):=Lib.hid (by
    have h1:=HACC.out
    rwa [List.take_of_length_le (by have:=HN.out;omega)] at h1)
   have hr:=HR.out
   rw [Nat.sub_self,List.replicate_zero,List.append_nil] at hr
   have HRR:=Lib.hid (zbN hr HAL.out (by omega))
   clear hr hbw
   go_wp2
   go_ret2
   rw [hE.out]
   exact ⟨_,rfl,HRR.out,HB.out⟩
structure Two (w:World) (B:Nat) (u v:Value) (n m:Nat) (xs ys:List Value):Prop where
 h1:w.ownsRow B 119 1 u n xs
 h2:w.ownsRow B 119 1 v m ys
 d:∀ a,u.ownBlock=some a→v.ownBlock=some a→False
theorem Two.turn {w:World} {B n m:Nat} {u v:Value} {xs ys:List Value} (h:Two w B u v n m xs ys):Two w B v u m n ys xs:=⟨h.h2,h.h1,fun a p q=>h.d a q p⟩
theorem Two.below {w w':World} {B n m:Nat} {u v:Value} {xs ys:List Value} (h:Two w B u v n m xs ys) (hb:Below w.heap.size w w'):Two w' B u v n m xs ys:=⟨own_below h.h1 hb,own_below h.h2 hb,h.d⟩
theorem Two.past {w w':World} {B n m g:Nat} {u v:Value} {xs ys:List Value} (h:Two w B u v n m xs ys) (hg:w.grownBy w' (some g)) (hlt:g < B):Two w' B u v n m xs ys:=⟨zgT h.h1 hg hlt,zgT h.h2 hg hlt,h.d⟩
theorem zvG {w:World} {B n a:Nat} {e:TypeId} {v:Value} {xs:List Value} (h:w.ownsRow B e 1 v n xs) (ha:v.ownBlock=some a):a < w.heap.size:=by
 rcases h.2 with ⟨h1,_⟩ | ⟨g,c,cur,h1,_,h3,_⟩
 ·rw [h1] at ha;cases ha
 ·rw [h1] at ha;injection ha with ha;subst ha;exact (Array.getElem?_eq_some_iff.1 h3).1
theorem Two.push {w w':World} {B n n' m k:Nat} {u v u':Value} {xs xs' ys:List Value} (h:Two w B u v n m xs ys) (ho:w'.ownsRow B 119 1 u' n' xs') (hg:w.grownBy w' u.ownBlock) (hq:u'.ownBlock=u.ownBlock∨u'.ownBlock=some k) (hk:w.heap.size≤k):Two w' B u' v n' m xs' ys:=by
 refine ⟨ho,h.h2.kept hg ?_,?_⟩
 ·cases hv:v.ownBlock with
  | none=>exact .inl rfl
  | some a=>exact .inr fun he=>h.d a he.symm hv
 ·intro a h1 h2
  rcases hq with hq | hq
  ·exact h.d a (hq ▸ h1) h2
  ·rw [hq] at h1
   injection h1 with h1
   have:=zvG h.h2 h2
   omega
theorem Two.nil (w:World) (B:Nat):Two w B (.slice none 0 0) (.slice none 0 0) 0 0 [] []:=⟨World.ownsRow_nil _ _ _ _,World.ownsRow_nil _ _ _ _,fun a h=>by cases h⟩
def zuZ (m B b a:Nat) (n A gap patch:Nat) (xs ys:List Nat) (w:World) (e:Ending) (w':World):Prop:=
 ∃ u v,e=.returned (.tuple #[])∧Row w' b 198 [u,v]∧Row w' a 3 [.int .i64 ((A+gap:Nat):Int)]∧Two w' B u v (n+1) (n+1) ((xs ++ [gap]).map uv) ((ys ++ [patch]).map uv)∧Below m w w'
theorem zu0 (m B b a n A gap patch:Nat) (u v:Value) (xs ys:List Nat) (w:World) (hrb:Row w b 198 [u,v]) (hra:Row w a 3 [.int .i64 (A:Int)]) (hmb:m≤b) (hma:m≤a) (hbB:b < B) (haB:a < B) (hab:a≠b) (hB:B≤w.heap.size)
  (h2:Two w B u v n n (xs.map uv) (ys.map uv)) (hn:n≤1000000) (hA:A≤1000000) (hgap:gap≤1000000) :
  Calls Tryz.prog 208 #[.int .i64 (gap:Int),.int .u64 (patch:Int),.pointer (some ⟨b,0,none⟩),.pointer (some ⟨a,0,none⟩)] w (zuZ m B b a n A gap patch xs ys w):=by
 have hgw:IntKind.u64.wrap (gap:Int)=(gap:Int):=by rw [IntKind.wrap_u64];omega
 have hc0:w.cell? ⟨b,0,none⟩=some u:=hrb.cell 0
 have H2:=Lib.hid h2
 have HRB:=Lib.hid hrb
 have HRA:=Lib.hid hra
 clear hrb hra h2
 go_enter Tryz.func208,Tryz.ntmps208
 go_wp2_with (at_builtin;refine zQ elemU rfl _ _ rfl B u n (xs.map uv) (uv gap) w w rfl rfl rfl rfl H2.out.h1 (Below.refl _ _) hB (by omega) (by omega) ?_)
 intro u1 w1 ho1 hb1 hg1 hq1
 obtain ⟨A1,c1,hu1,_⟩:=zz ho1
 subst hu1
 have hz1:=hb1.size
 have HT1:=Lib.hid (H2.out.push ho1 hg1 hq1 (Nat.le_succ _))
 have hrb1:=HRB.out.below hb1 hbB
 have hra1:=HRA.out.below hb1 haB
 have hcb:w1.cell? ⟨b,0,none⟩=some u:=hrb1.cell 0
 have hfb:=hrb1.free 0
 have hset:=hrb1.set_ 0 (.slice A1 (n+1) c1)
 rw [show [u,v].set 0 (.slice A1 (n+1) c1)=[.slice A1 (n+1) c1,v] from rfl] at hset
 have HRB2:=Lib.hid hset
 have HRA2:=Lib.hid (hra1.far (p:=⟨b,0,none⟩) hab (.slice A1 (n+1) c1))
 have HS2:=Lib.hid (HT1.out.past (zco w1 b 0 (.slice A1 (n+1) c1)) hbB).turn
 have hc1:(w1.setCell ⟨b,0,none⟩ (.slice A1 (n+1) c1)).cell? ⟨b,1,none⟩=some v:=hset.cell 1
 have HZS:=Lib.hid (show Value.slice (some ⟨w1.heap.size,0,none⟩) 1 1=.slice (some ⟨(w1.setCell ⟨b,0,none⟩ (.slice A1 (n+1) c1)).heap.size,0,none⟩) 1 1 by simp)
 have HBM:=Lib.hid ((hb1.mono (Nat.le_of_lt (Nat.lt_of_le_of_lt hmb hbB))).setCell (p:=⟨b,0,none⟩) hmb (.slice A1 (n+1) c1))
 clear ho1 hg1 hq1 hrb1 hra1 hset hb1 hc0
 go_wp2_with (at_builtin;go_must (refine zQ elemU rfl _ _ rfl B v n (ys.map uv) (uv patch) (w1.setCell ⟨b,0,none⟩ (.slice A1 (n+1) c1)) (w1.setCell ⟨b,0,none⟩ (.slice A1 (n+1) c1)) rfl HZS.out rfl rfl HS2.out.h1 (Below.refl _ _) (Nat.le_trans hB (by simpa using hz1)) (by omega) (by omega) ?_))
 intro v2 w2 ho2 hb2 hg2 hq2
 obtain ⟨A2,c2,hv2,_⟩:=zz ho2
 subst hv2
 have HT2:=Lib.hid (HS2.out.push ho2 hg2 hq2 (by simp)).turn
 have hrb2:=HRB2.out.below hb2 hbB
 have hra2:=HRA2.out.below hb2 haB
 have hcb2:w2.cell? ⟨b,1,none⟩=some v:=hrb2.cell 1
 have hfb2:=hrb2.free 1
 have hset2:=hrb2.set_ 1 (.slice A2 (n+1) c2)
 rw [show [Value.slice A1 (n+1) c1,v].set 1 (.slice A2 (n+1) c2)=[Value.slice A1 (n+1) c1,.slice A2 (n+1) c2] from rfl] at hset2
 have hra3:=hra2.far (p:=⟨b,1,none⟩) hab (.slice A2 (n+1) c2)
 have hca:(w2.setCell ⟨b,1,none⟩ (.slice A2 (n+1) c2)).cell? ⟨a,0,none⟩=some (.int .i64 (A:Int)):=hra3.cell 0
 have hfa:=hra3.free 0
 obtain ⟨C,hC⟩:∃ C,C=A+gap:=⟨_,rfl⟩
 have hCi:(A:Int)+(gap:Int)=(C:Int):=by omega
 have hCw:IntKind.i64.wrap (C:Int)=(C:Int):=by rw [IntKind.wrap_i64];omega
 have hset3:=hra3.set_ 0 (.int .i64 (C:Int))
 rw [show [Value.int .i64 (A:Int)].set 0 (.int .i64 (C:Int))=[.int .i64 (C:Int)] from rfl] at hset3
 have HRA3:=Lib.hid hset3
 have HRB3:=Lib.hid (hset2.far (p:=⟨a,0,none⟩) (Ne.symm hab) (.int .i64 (C:Int)))
 have HT3:=Lib.hid ((HT2.out.past (zco w2 b 1 (.slice A2 (n+1) c2)) hbB).past (zco (w2.setCell ⟨b,1,none⟩ (.slice A2 (n+1) c2)) a 0 (.int .i64 (C:Int))) haB)
 have HBF:=Lib.hid ((((HBM.out.trans (hb2.mono (Nat.le_of_lt (Nat.lt_of_le_of_lt hmb hbB)))).setCell (p:=⟨b,1,none⟩) hmb (.slice A2 (n+1) c2))).setCell (p:=⟨a,0,none⟩) hma (.int .i64 (C:Int)))
 have HC:=Lib.hid hC
 clear ho2 hg2 hq2 hrb2 hra2 hset2 hra3 hset3 hb2 hC hcb hfb hc1
 go_wp2
 go_end0
 refine ⟨(.slice A1 (n+1) c1),(.slice A2 (n+1) c2),rfl,HRB3.out,by rw [←HC.out];exact HRA3.out,?_,HBF.out⟩
 rw [List.map_append,List.map_append]
 exact HT3.out
theorem zi3 {P:Program} {f:Func} {p:Tmp} {t t':TypeId} {K:Ending→World→Prop} {a:Act} {w:World} {g:Nat} {cs:List Value} {d:TypeDesc} (hf:f.results = #[.cell p t]) (hp:a.tmps.getD p undef=.pointer (some ⟨g,0,none⟩)) (hr:Row w g t' cs)
  (hu:P.underlying t=some d) (hdd:(match d with | .struct _ | .array _ _=>true | _=>false)=true) (hi:(P.info? t).map (·.size)=some cs.length) (hd:a.defers=[]) (hK:K (.returned (.agg cs.toArray)) w):bodyPost P f K .ret a w:=
 bodyPost_ret (v:=.agg cs.toArray) (results_cell_row hf a.tmps w g t' cs.toArray (0,0) _ hp hr hu hdd (by rw [hi];simp)) hd hK
def prow (us:List Nat) (w k:Nat):List Nat:=plow (us.take k) w ++ us.drop k
theorem ztK (us:List Nat) (w k:Nat):(prow us w k).length=us.length:=by
 unfold prow plow
 rw [List.length_append,List.length_map,←List.length_append,List.take_append_drop]
theorem zmW {us:List Nat} {w k:Nat} (hk:k < us.length):(prow us w k)[k]? = some us[k]:=by
 unfold prow plow
 rw [List.getElem?_append_right (by rw [List.length_map,List.length_take];omega),List.length_map,List.length_take,show k - min k us.length=0 by omega,List.getElem?_drop,Nat.add_zero,List.getElem?_eq_getElem hk]
theorem zof {us:List Nat} {w k:Nat} (hk:k < us.length):(prow us w k).set k (us[k] % 2 ^ w)=prow us w (k+1):=by
 unfold prow plow
 have hl:((us.take k).map (· % 2 ^ w)).length=k:=by rw [List.length_map,List.length_take];omega
 rw [List.set_append_right _ _ (by omega),hl,Nat.sub_self,List.drop_eq_getElem_cons hk,List.set_cons_zero,List.take_succ_eq_append_getElem hk,List.map_append,List.append_assoc]
 rfl
theorem zrH {us:List Nat} {w k:Nat} (hk:k < us.length) (h:us[k] / 2 ^ w=0):prow us w (k+1)=prow us w k:=by
 rw [←zof hk]
 have h1:us[k] % 2 ^ w=us[k]:=by have:=Nat.div_add_mod us[k] (2 ^ w);rw [h] at this;omega
 rw [h1]
 refine List.ext_getElem? fun i=>?_
 rw [List.getElem?_set]
 split
 ·rename_i e
  subst e
  rw [zmW hk,if_pos (by rw [ztK];exact hk)]
 ·rfl
theorem zrI (us:List Nat) (w:Nat):prow us w 0=us:=by simp [prow,plow]
theorem ztL (us:List Nat) (w:Nat):prow us w us.length=plow us w:=by simp [prow]
def zrJ (a:Nat) (W:World):Nat:=match W.cell? ⟨a,0,none⟩ with | some v=>(intOf v).toNat | none=>0
theorem zi4 {a A:Nat} {W:World} {t:TypeId} (h:Row W a t [.int .i64 (A:Int)]):zrJ a W=A:=by
 unfold zrJ
 have h1:W.cell? ⟨a,0,none⟩=some (.int .i64 (A:Int)):=h.cell 0
 rw [h1]
 simp [intOf]
structure Cutting (row:List Nat) (ps:List (Nat × Nat)) (last g r:Nat) (w wr:World):Prop where
 ex:∃ u v,Row wr (r+1) 198 [u,v]∧Two wr (r+3) u v ps.length ps.length ((ps.map (·.1)).map uv) ((ps.map (·.2)).map uv)
 box:Row wr (r+2) 3 [.int .i64 (last:Int)]
 res:Row wr r 198 [.slice none 0 0,.slice none 0 0]
 row:Row wr g 119 (row.map uv)
 size:r+3≤wr.heap.size
 below:Below g w wr
theorem Cutting.add {row:List Nat} {ps:List (Nat × Nat)} {last g r:Nat} {w wr:World} (h:Cutting row ps last g r w wr) (hgr:g < r) (gap patch:Nat) (hn:ps.length≤1000000) (hA:last≤1000000) (hgap:gap≤1000000) :
  Calls Tryz.prog 208 #[.int .i64 (gap:Int),.int .u64 (patch:Int),.pointer (some ⟨r+1,0,none⟩),.pointer (some ⟨r+2,0,none⟩)] wr fun e w'=>e=.returned (.tuple #[])∧Cutting row (ps ++ [(gap,patch)]) (last+gap) g r w w':=by
 obtain ⟨u,v,hrb,h2⟩:=h.ex
 refine (zu0 (r+1) (r+3) (r+1) (r+2) ps.length last gap patch u v _ _ wr hrb h.box (Nat.le_refl _) (by omega) (by omega) (by omega) (by omega) h.size h2 hn hA hgap).mono ?_
 rintro e w' ⟨u',v',rfl,h3,h4,h5,h6⟩
 refine ⟨rfl,⟨u',v',h3,?_⟩,h4,h.res.below h6 (by omega),h.row.below h6 (by omega),Nat.le_trans h.size h6.size,h.below.trans (h6.mono (by omega))⟩
 rw [List.length_append,List.length_singleton]
 have h7:=h5
 rw [show ps.map (·.1) ++ [gap]=(ps ++ [(gap,patch)]).map (·.1) by simp,show ps.map (·.2) ++ [patch]=(ps ++ [(gap,patch)]).map (·.2) by simp] at h7
 exact h7
theorem Cutting.set {row:List Nat} {ps:List (Nat × Nat)} {last g r:Nat} {w wr:World} (h:Cutting row ps last g r w wr) (hgr:g < r) (k T:Nat):Cutting (row.set k T) ps last g r w (wr.setCell ⟨g,k,none⟩ (.int .u64 (T:Int))):=by
 obtain ⟨u,v,hrb,h2⟩:=h.ex
 refine ⟨⟨u,v,hrb.far (p:=⟨g,k,none⟩) (by dsimp only;omega) _,h2.past (zco _ _ _ _) (by omega)⟩,h.box.far (p:=⟨g,k,none⟩) (by dsimp only;omega) _,h.res.far (p:=⟨g,k,none⟩) (by dsimp only;omega) _,?_,by simpa using h.size,h.below.setCell (p:=⟨g,k,none⟩) (Nat.le_refl _) _⟩
 have h3:=h.row.set_ k (uv T)
 rw [←List.map_set] at h3
 exact h3
def zmX (us:List Nat) (W0 g r:Nat) (w:World) (i:Value) (wr:World):Prop:=
 ∃ k:Nat,k≤us.length∧i=.int .i64 (k:Int)∧Cutting (prow us W0 k) (pst W0 us k).1 (pst W0 us k).2 g r w wr
def zvH (row:List Nat) (ps:List (Nat × Nat)) (l0 J g r:Nat) (w:World) (_i:Value) (wr:World):Prop:=
 ∃ i:Nat,i≤J∧Cutting row (ps ++ List.replicate i (255,0)) (l0+255*i) g r w wr
def ze0 (u v:Value):Value:=.agg #[u,v]
def zrK (us:List Nat) (W0 g:Nat) (w:World) (e:Ending) (w':World):Prop:=
 ∃ u v,e=.returned (ze0 u v)∧IsV uv ((zm W0 us).map (·.1)) u w'∧IsV uv ((zm W0 us).map (·.2)) v w'∧Row w' g 119 ((plow us W0).map uv)∧Below g w w'
theorem zi5:(Tryz.prog.info? 198).map (·.size)=some 2:=by kernel_rfl
theorem zu1 (us:List Nat) (W0 g n:Nat) (w:World) (hr:Row w g 119 (us.map uv)) (hn:us.length=n) (h64:∀ u∈us,u < 2 ^ 64) (hb:n≤10000) (hw:W0≤64) :
  Calls Tryz.prog 188 #[.slice (some ⟨g,0,none⟩) n n,.int .i64 (W0:Int)] w (zrK us W0 g w):=by
 have hgr:=hr.lt
 obtain ⟨r,hrz⟩:∃ r,r=w.heap.size:=⟨_,rfl⟩
 rw [←hrz] at hgr
 have HN:=Lib.hid hn
 have H64:=Lib.hid h64
 obtain ⟨w1,hw1⟩:∃ w1,w1=w.alloc (.cells #[.slice none 0 0,.slice none 0 0] 198):=⟨_,rfl⟩
 have z1:w1.heap.size=r+1:=by rw [hw1,hrz];simp
 obtain ⟨w2,hw2⟩:∃ w2,w2=w1.alloc (.cells #[.slice none 0 0,.slice none 0 0] 198):=⟨_,rfl⟩
 have z2:w2.heap.size=r+2:=by rw [hw2];simp [z1]
 obtain ⟨w3,hw3⟩:∃ w3,w3=w2.alloc (.cells #[.int .i64 0] 3):=⟨_,rfl⟩
 have z3:w3.heap.size=r+3:=by rw [hw3];simp [z2]
 have b1:Below g w w1:=by rw [hw1];exact (Below.refl _ _).alloc (by omega) _
 have b2:Below g w w2:=by rw [hw2];exact b1.alloc (by omega) _
 have b3:Below g w w3:=by rw [hw3];exact b2.alloc (by omega) _
 have q1:Row w1 r 198 [.slice none 0 0,.slice none 0 0]:=by rw [hw1,hrz];exact heap_alloc_new w _
 have q2:Row w2 (r+1) 198 [.slice none 0 0,.slice none 0 0]:=by rw [hw2,←z1];exact heap_alloc_new w1 _
 have q3:Row w3 (r+2) 3 [.int .i64 0]:=by rw [hw3,←z2];exact heap_alloc_new w2 _
 have HC:=Lib.hid (show Cutting us [] 0 g r w w3 from by
  refine ⟨⟨.slice none 0 0,.slice none 0 0,?_,Two.nil _ _⟩,q3,?_,?_,by omega,b3⟩
  ·rw [hw3];exact q2.alloc _
  ·rw [hw3,hw2];exact (q1.alloc _).alloc _
  ·rw [hw3,hw2,hw1];exact ((hr.alloc _).alloc _).alloc _)
 have HS:=Lib.hid (show zmX us W0 g r w (.int .i64 0) w3 from ⟨0,Nat.zero_le _,rfl,by rw [zrI];exact HC.out⟩)
 clear HC q1 q2 q3 b1 b2 b3 hr hn h64
 go_enter Tryz.func188,Tryz.ntmps188
 go_wp2
 rw [←hrz,←hw1,←hw2,←hw3,show r+1+1=r+2 from rfl]
 have HZ:=Lib.hid hrz
 clear hw1 hw2 hw3 z1 z2 z3 hrz
 go_loopw [14] (zmX us W0 g r w) (fun i _=>n - (intOf i).toNat)
 case atStart=>exact HS.out
 case round =>
  obtain ⟨k,hk,rfl,hC⟩:=hrel
  have HC:=Lib.hid hC
  have hkn:k≤n:=by have:=HN.out;omega
  by_cases hlt:k < n
  ·have hkl:k < us.length:=by have:=HN.out;omega
   have hlti:(k:Int) < (n:Int):=by omega
   obtain ⟨u,hu⟩:∃ u,u=us[k]:=⟨_,rfl⟩
   have hcu:wr.cell? ⟨g,k,none⟩=some (.int .u64 (u:Int)):=by rw [hC.row.cell,List.getElem?_map,zmW hkl,←hu];rfl
   have hgd:us.getD k 0=u:=by rw [List.getD_eq_getElem?_getD,List.getElem?_eq_getElem hkl,hu];rfl
   have hu64:u < 18446744073709551616:=by rw [hu];exact H64.out _ (List.getElem_mem hkl)
   obtain ⟨q,hq⟩:∃ q,q=u / 2 ^ W0:=⟨_,rfl⟩
   have hsh:(u:Int) / 2 ^ W0=(q:Int):=by rw [hq];simp
   have hlast:=zfL W0 us k
   have hpl:=zmS W0 us k
   have HNX:=Lib.hid (zof (w:=W0) hkl)
   rw [←hu] at HNX
   obtain ⟨last,hla⟩:∃ last,last=(pst W0 us k).2:=⟨_,rfl⟩
   obtain ⟨ps,hps⟩:∃ ps,ps=(pst W0 us k).1:=⟨_,rfl⟩
   rw [←hla] at hlast hpl HC
   rw [←hps] at HC hpl
   have hplb:ps.length≤20000:=by omega
   have hca:wr.cell? ⟨r+2,0,none⟩=some (.int .i64 (last:Int)):=HC.out.box.cell 0
   have HLA:=Lib.hid hla
   have HPS:=Lib.hid hps
   have HGD:=Lib.hid hgd
   have HQ:=Lib.hid hq
   have HU:=Lib.hid hu
   clear hu hgd hq hla hps hpl hC HS
   by_cases hq0:q=0
   ·have HSK:Hid (pst W0 us (k+1)=pst W0 us k):=Lib.hid (zfJ (by rw [HGD.out,←HQ.out,hq0]))
    have HSR:Hid (prow us W0 (k+1)=prow us W0 k):=Lib.hid (zrH hkl (by rw [←HU.out,←HQ.out,hq0]))
    have hsz:(u:Int) / 2 ^ W0=0:=by rw [hsh,hq0];rfl
    clear hsh hq0
    go_wp2
    go_roundw
    case rel=>exact ⟨k+1,hkl,by go_num,by rw [HSK.out,HSR.out,←HLA.out,←HPS.out];exact HC.out⟩
    case measure=>simp [intOf];omega
   ·obtain ⟨j,hj⟩:∃ j,j=(k - last - 1) / 255:=⟨_,rfl⟩
    have HMO:Hid (pst W0 us (k+1)=(ps ++ (List.replicate j (255,0) ++ [(k - last - 255*j,q)]),k)):=Lib.hid (by rw [zfK (by rw [HGD.out,←HQ.out];exact hq0),←HLA.out,←HPS.out,←hj,HGD.out,←HQ.out])
    have hq1:((q:Int) == 0)=false:=by rw [beq_eq_false_iff_ne];omega
    obtain ⟨row,hrow⟩:∃ row,row=prow us W0 k:=⟨_,rfl⟩
    have HRK:=Lib.hid (show row[k]? = some u by rw [hrow,zmW hkl,HU.out])
    rw [←hrow] at HC HNX
    have HST:=Lib.hid (show zvH row ps last j g r w undef wr from ⟨0,Nat.zero_le _,by simpa using HC.out⟩)
    have HJ:=Lib.hid hj
    have hjb:j≤10000:=by omega
    clear hj hq0 hrow
    go_wp2
    clear hcu hca
    go_loopw [24] (zvH row ps last j g r w) (fun _ W=>k - zrJ (r+2) W)
    case atStart=>exact HST.out
    case round =>
     obtain ⟨i,hi,hC⟩:=hrel
     have HC2:=Lib.hid hC
     obtain ⟨L,hL⟩:∃ L,L=last+255*i:=⟨_,rfl⟩
     rw [←hL] at HC2
     have hca:wr.cell? ⟨r+2,0,none⟩=some (.int .i64 (L:Int)):=HC2.out.box.cell 0
     have HBX:=Lib.hid (zi4 HC2.out.box)
     obtain ⟨d,hd⟩:∃ d,d=k - L:=⟨_,rfl⟩
     have hLk:L≤k:=by have:=HJ.out;omega
     have hdi:(k:Int) - (L:Int)=(d:Int):=by omega
     have hdw:IntKind.i64.wrap (d:Int)=(d:Int):=by rw [IntKind.wrap_i64];omega
     have hlen:(ps ++ List.replicate i (255,0)).length≤1000000:=by rw [List.length_append,List.length_replicate];omega
     have HL:=Lib.hid hL
     have HD:=Lib.hid hd
     clear hL hd hC HST
     by_cases hij:i < j
     ·have hd5:(255:Int) < (d:Int):=by have:=HJ.out;have:=HL.out;have:=HD.out;omega
      have HA:=Lib.hid (HC2.out.add hgr 255 0 hlen (by omega) (by omega))
      clear hlen
      go_wp2_with (go_at_call 208;refine HA.out.mono ?_;rintro e w4 ⟨rfl,hC4⟩)
      have HC4:=Lib.hid hC4
      clear hC4
      go_roundw
      case rel=>exact ⟨i+1,hij,by rw [List.replicate_succ',←List.append_assoc,show last+255*(i+1)=L+255 by have:=HL.out;omega];exact HC4.out⟩
      case measure=>rw [zi4 HC4.out.box,HBX.out];omega
     ·obtain rfl:i=j:=by omega
      have hd5:¬(255:Int) < (d:Int):=by have:=HJ.out;have:=HL.out;have:=HD.out;omega
      have HA:=Lib.hid (HC2.out.add hgr d q hlen (by omega) (by omega))
      have HLD:Hid (L+d=k∧d=k - last - 255*i):=Lib.hid (by have:=HL.out;have:=HD.out;omega)
      clear hlen
      go_wp2_with (go_at_call 208;refine HA.out.mono ?_;rintro e w4 ⟨rfl,hC4⟩)
      have HC4:=Lib.hid hC4
      rw [List.append_assoc,HLD.out.1,HLD.out.2] at HC4
      clear hC4
      obtain ⟨T,hT⟩:∃ T,T=u % 2 ^ W0:=⟨_,rfl⟩
      rw [←hT] at HNX
      obtain ⟨M,hM⟩:∃ M,M=2 ^ W0 - 1:=⟨_,rfl⟩
      have hMb:M < 18446744073709551616:=by
       have h1:2 ^ W0≤2 ^ 64:=Nat.pow_le_pow_right (by omega) hw
       have h2:=Nat.two_pow_pos W0
       omega
      have hand:bits .and .u64 (u:Int) (M:Int)=(T:Int):=by rw [u64_and_nat _ _ hu64 hMb,hM,Nat.and_two_pow_sub_one_eq_mod,hT]
      have HLW:=Lib.hid (fun W=>zoe W0 M W hw hM)
      have hcu:w4.cell? ⟨g,k,none⟩=some (.int .u64 (u:Int)):=by rw [HC4.out.row.cell,List.getElem?_map,HRK.out];rfl
      have hfu:=HC4.out.row.free k
      have HC5:=Lib.hid (HC4.out.set hgr k T)
      rw [HNX.out] at HC5
      have HREL:=Lib.hid (show zmX us W0 g r w (.int .i64 ((k:Int)+1)) (w4.setCell ⟨g,k,none⟩ (.int .u64 (T:Int))) from ⟨k+1,hkl,by go_num,by rw [HMO.out];exact HC5.out⟩)
      clear hT hM hMb
      go_wp2_with (go_at_call 196;refine (HLW.out _).mono ?_;rintro e w5 ⟨rfl,rfl⟩)
      go_roundw
      case rel=>exact HREL.out
      case measure=>simp [intOf];omega
  ·obtain rfl:k=n:=by omega
   have hlti:¬(k:Int) < (k:Int):=by omega
   have HE:Hid ((pst W0 us k).1=zm W0 us∧prow us W0 k=plow us W0):=Lib.hid ⟨by unfold zm;rw [HN.out],by rw [←HN.out];exact ztL _ _⟩
   rw [HE.out.1,HE.out.2] at HC
   obtain ⟨u,v,hrb,h2⟩:=HC.out.ex
   have hc0:wr.cell? ⟨r+1,0,none⟩=some u:=hrb.cell 0
   have hc1:wr.cell? ⟨r+1,1,none⟩=some v:=hrb.cell 1
   have H2:=Lib.hid h2
   obtain ⟨A1,c1,hu,_⟩:=zz h2.h1
   obtain ⟨A2,c2,hv,_⟩:=zz h2.h2
   generalize hm:(zm W0 us).length=m at hu hv H2
   subst hu hv
   clear hC hrb h2 hm
   have hr0:wr.cell? ⟨r,0,none⟩=some (.slice none 0 0):=HC.out.res.cell 0
   have hf0:=HC.out.res.free 0
   have hs1:=HC.out.res.set_ 0 (.slice A1 m c1)
   have hr1:(wr.setCell ⟨r,0,none⟩ (.slice A1 m c1)).cell? ⟨r,1,none⟩=some (.slice none 0 0):=hs1.cell 1
   have hf1:=hs1.free 1
   have hs2:=hs1.set_ 1 (.slice A2 m c2)
   rw [show (([Value.slice none 0 0,.slice none 0 0].set 0 (.slice A1 m c1)).set 1 (.slice A2 m c2))=[.slice A1 m c1,.slice A2 m c2] from rfl] at hs2
   obtain ⟨W,hW⟩:∃ W,W=(wr.setCell ⟨r,0,none⟩ (.slice A1 m c1)).setCell ⟨r,1,none⟩ (.slice A2 m c2):=⟨_,rfl⟩
   rw [←hW] at hs2
   have HS2:=Lib.hid hs2
   have h3:Two W (r+3) (.slice A1 m c1) (.slice A2 m c2) m m (((zm W0 us).map (·.1)).map uv) (((zm W0 us).map (·.2)).map uv):=by rw [hW];exact (H2.out.past (zco _ r 0 _) (by omega)).past (zco _ r 1 _) (by omega)
   have HU:=Lib.hid (zbk h3.h1)
   have HV:=Lib.hid (zbk h3.h2)
   have HG:=Lib.hid (show Row W g 119 ((plow us W0).map uv) by rw [hW];exact (HC.out.row.far (p:=⟨r,0,none⟩) (by dsimp only;omega) _).far (p:=⟨r,1,none⟩) (by dsimp only;omega) _)
   have HBW:=Lib.hid (show Below g w W by rw [hW];exact (HC.out.below.setCell (p:=⟨r,0,none⟩) (Nat.le_of_lt hgr) _).setCell (p:=⟨r,1,none⟩) (Nat.le_of_lt hgr) _)
   have HW:=Lib.hid hW
   clear hs1 hs2 h3 hW
   go_wp2
   rw [←HW.out]
   refine zi3 rfl rfl HS2.out Tryz.underlying198 rfl zi5 rfl ?_
   exact ⟨_,_,rfl,HU.out,HV.out,HG.out,HBW.out⟩
end Go.Proofs.YtlibofmpnlfelaaGreatDoor
