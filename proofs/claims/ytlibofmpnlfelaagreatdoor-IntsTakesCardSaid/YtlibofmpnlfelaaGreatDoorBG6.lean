import Derived.Shelf.Bits.Mul64
import Derived.Laws.StructEq
import Derived.Test.YtlibofmpnlfelaaGreatDoorProg
import Derived.Test.YtlibofmpnlfelaaGreatDoorBG5
set_option maxHeartbeats 8000000
set_option maxRecDepth 100000
namespace Go.Proofs.YtlibofmpnlfelaaGreatDoor
open Go.RowKit
theorem zfE {l:List UInt8} {v:Value} {w:World} (s:Bool) (h:IsB l v w) (hl:l.length≤1000000) (hn:zbC l s=none):Calls Tryz.prog 112 #[v,.bool s] w fun e w'=>∃ r,e=.returned (.tuple #[.int .i64 0,r,.int .i64 2])∧Below w.heap.size w w':=by
 refine (zgw s h hl).mono fun e w' h=>?_
 obtain ⟨r,h1,_,h3⟩:=h.parts
 rw [hn] at h1
 exact ⟨r,h1,h3⟩
theorem zbg {l r:List UInt8} {v:Value} {w:World} {x:Int} (s:Bool) (h:IsB l v w) (hl:l.length≤1000000) (hn:zbC l s=some (x,r)):Calls Tryz.prog 112 #[v,.bool s] w fun e w'=>∃ u,e=.returned (.tuple #[.int .i64 x,u,.int .i64 0])∧OwnB w r u w'∧Below w.heap.size w w':=by
 refine (zgw s h hl).mono fun e w' h=>?_
 obtain ⟨u,h1,h2,h3⟩:=h.owned
 rw [hn] at h1 h2
 exact ⟨u,h1,h2,h3⟩
theorem zdk {l r:List UInt8} {s:Bool} {x:Int} (h:zbC l s=some (x,r)):inInt x∧r.length≤l.length:=by
 unfold zbC at h
 cases ht:zby l with
 | none=>rw [ht] at h;cases h
 | some p =>
  obtain ⟨u,q⟩:=p
  rw [ht] at h
  obtain ⟨h1,h2⟩:=zcv ht
  have h3:q.length≤l.length:=by rw [h1,List.length_append];omega
  cases s with
  | true =>
   injection h with h
   injection h with h4 h5
   subst h4 h5
   exact ⟨zqY (by omega) (by omega),h3⟩
  | false =>
   dsimp only at h
   split at h
   ·cases h
   ·injection h with h
    injection h with h4 h5
    subst h4 h5
    exact ⟨⟨by omega,by omega⟩,h3⟩
theorem zeL {s f:Bool}:∀ {us:List Nat} {x:Int} {ys:List Int},zbp s f x us=some ys→inInt x→inInt (zd0 x ys)
 | [],x,ys,h,hx=>by simp [zbp] at h;subst h;exact hx
 | u::us,x,ys,h,hx=>by
  rw [zbp] at h
  cases hn:zbl s f x u with
  | none=>rw [hn] at h;cases h
  | some y =>
   rw [hn] at h
   dsimp only at h
   cases hw:zbp s f y us with
   | none=>rw [hw] at h;cases h
   | some zs =>
    rw [hw] at h
    simp at h
    subst h
    have hy:inInt y:=by
     unfold zbl at hn
     split at hn
     ·injection hn with hn;rw [←hn];exact zgU hx
     ·cases hn
    show inInt (zd0 y zs)
    exact zeL hw hy
theorem zce {l:List UInt8} {s:Bool} (h:(zp l).2.2.2.2≠0∨(zp l).1≠3∨(zp l).2.2.1 < 2):zU l s=([],[],2):=by unfold zU;rw [if_pos h];rfl
theorem zdA {l r:List UInt8} {s:Bool} {c m:Int} (h:zp l=(3,c,m,r,0)) (hm:2≤m):zU l s=zio s c m r:=by
 unfold zU
 rw [h]
 dsimp only
 rw [if_neg (by omega)]
theorem zeM {r:List UInt8} {s:Bool} {c m:Int} (h:zbC r s=none):zio s c m r=([],[],2):=by unfold zio;rw [h];rfl
theorem zd1 {r r1:List UInt8} {s:Bool} {c m x:Int} (h:zbC r s=some (x,r1)) (h2:zbC r1 true=none):zio s c m r=([],[],2):=by unfold zio;rw [h];dsimp only;rw [h2];rfl
theorem zcx {r r1 r2:List UInt8} {s:Bool} {c m x d:Int} {u:Nat} {f o:Bool} (h:zbC r s=some (x,r1)) (h2:zbC r1 true=some (d,r2)) (hg:zC 0 d=(u,f,o)) :
  zio s c m r=if o=true then zeX s f x u c m r2 else ([],[],2):=by unfold zio;rw [h];dsimp only;rw [h2];dsimp only;rw [hg];rfl
theorem zdB {s f:Bool} {x:Int} {u:Nat} {c m:Int} {r:List UInt8} (h:¬0 < c):zeX s f x u c m r=gend s f x (List.replicate (m - 1).toNat u) r:=by unfold zeX;rw [if_neg h]
theorem zfF {s f:Bool} {x:Int} {u:Nat} {c m e:Int} {r q:List UInt8} {us:List Nat} (h:0 < c) (hu:zg r (m - 2) (wof c)=(us,q,e)) (he:e≠0):zeX s f x u c m r=([],[],2):=by
 unfold zeX;rw [if_pos h,hu];dsimp only;rw [if_pos he];rfl
theorem zdC {s f:Bool} {x:Int} {u:Nat} {c m:Int} {r q:List UInt8} {us:List Nat} (h:0 < c) (hu:zg r (m - 2) (wof c)=(us,q,0)):zeX s f x u c m r=gend s f x (u::us) q:=by
 unfold zeX;rw [if_pos h,hu];dsimp only;rw [if_neg (by decide)]
theorem zM {l q:List UInt8} {M:Nat} {W:Int} {us:List Nat} (h:zg l M W=(us,q,0)):us.length=M∧q.length≤l.length:=by
 unfold zg at h
 split at h
 ·rw [Int.toNat_natCast] at h
  unfold zbt at h
  split at h
  ·injection h with _ h;injection h with _ h;cases h
  ·split at h
   ·injection h with h1 h2
    injection h2 with h2 _
    subst h1 h2
    exact ⟨zbF _ _ _ _,by rw [List.length_drop];omega⟩
   ·injection h with _ h;injection h with _ h;cases h
 ·injection h with _ h;injection h with _ h;cases h
def zgV (s f:Bool) (x0:Int) (us:List Nat) (w:World) (xv out i:Value) (wr:World):Prop:=
 ∃ (k:Nat) (ys:List Int),k≤us.length∧xv=.int .i64 (zd0 x0 ys)∧zbp s f x0 (us.take k)=some ys∧i=.int .i64 (k:Int)∧wr.ownsRow w.heap.size 3 1 out (k+1) ((x0::ys).map iv)∧Below w.heap.size w wr
theorem zpd (l:List UInt8) (v:Value) (s:Bool) (w:World) (hv:IsB l v w) (hb:l.length≤1000000) :
  Calls Tryz.prog 83 #[v,.bool s] w (RetIO w (zU l s)):=by
 have HLK:=Lib.hid (zf4 l v w hv hb)
 obtain ⟨A,c,rfl,_⟩:=hv
 have hbd:=zcS l
 obtain ⟨K,C,M,r,x,hd⟩:∃ K C M r x,zp l=(K,C,M,r,x):=⟨_,_,_,_,_,rfl⟩
 rw [hd] at HLK hbd
 dsimp only at hbd
 obtain ⟨hK0,hK1,hC0,hC1,hM0,hM1,hr⟩:=hbd
 by_cases hx:x=0
 ·subst hx
  by_cases hK:K=3
  ·subst hK
   by_cases hM2:M < 2
   ·have hE:=Lib.hid (zce (l:=l) (s:=s) (.inr (.inr (by rw [hd];exact hM2))))
    have d1:decide (M < 2)=true:=decide_eq_true hM2
    clear hd
    go_enter Tryz.func83,Tryz.ntmps83
    go_wp2_with fail
    refine HLK.out.mono ?_
    rintro e w1 ⟨rv,rfl,hrv,hb1⟩
    have HB:=Lib.hid hb1
    have HRV:=Lib.hid hrv
    clear hb1 hrv
    go_wp2
    go_ret3
    rw [hE.out]
    exact RetIO.nil _ HB.out
   ·have d1:decide (M < 2)=false:=decide_eq_false hM2
    obtain ⟨m,rfl⟩:=Int.eq_ofNat_of_zero_le hM0
    have HE0:=Lib.hid (zdA (s:=s) hd (by omega))
    have HRL:Hid (r.length≤1000000):=Lib.hid (by omega)
    clear hd
    cases hv1:zbC r s with
    | none =>
     have hE:Hid (zU l s=([],[],2)):=Lib.hid (by rw [HE0.out,zeM hv1])
     have HV1:=Lib.hid hv1
     clear hv1
     go_enter Tryz.func83,Tryz.ntmps83
     go_wp2_with fail
     refine HLK.out.mono ?_
     rintro e w1 ⟨rv,rfl,hrv,hb1⟩
     have HB:=Lib.hid hb1
     have HRV:=Lib.hid hrv
     clear hb1 hrv
     go_wp2_with fail
     refine (zfE s HRV.out HRL.out HV1.out).mono ?_
     rintro e w2 ⟨rv2,rfl,hb2⟩
     have HB:=Lib.hid (za HB.out hb2)
     clear hb2
     go_wp2
     go_ret3
     rw [hE.out]
     exact RetIO.nil _ HB.out
    | some p =>
     obtain ⟨x0,r1⟩:=p
     have HV1:=Lib.hid hv1
     have HX0:=Lib.hid (zdk hv1).1
     have HRL2:Hid (r1.length≤1000000):=Lib.hid (by have:=(zdk hv1).2;omega)
     clear hv1
     cases hv2:zbC r1 true with
     | none =>
      have hE:Hid (zU l s=([],[],2)):=Lib.hid (by rw [HE0.out,zd1 HV1.out hv2])
      have HV2:=Lib.hid hv2
      clear hv2
      go_enter Tryz.func83,Tryz.ntmps83
      go_wp2_with fail
      refine HLK.out.mono ?_
      rintro e w1 ⟨rv,rfl,hrv,hb1⟩
      have HB:=Lib.hid hb1
      have HRV:=Lib.hid hrv
      clear hb1 hrv
      go_wp2_with fail
      refine (zbg s HRV.out HRL.out HV1.out).mono ?_
      rintro e w2 ⟨rv2,rfl,hrv2,hb2⟩
      have HRV2:=Lib.hid hrv2.isB
      clear hrv2
      have HB:=Lib.hid (za HB.out hb2)
      clear hb2
      go_wp2_with fail
      refine (zfE true HRV2.out HRL2.out HV2.out).mono ?_
      rintro e w3 ⟨rv3,rfl,hb3⟩
      have HB:=Lib.hid (za HB.out hb3)
      clear hb3
      go_wp2
      go_ret3
      rw [hE.out]
      exact RetIO.nil _ HB.out
     | some p =>
      obtain ⟨dd,r2⟩:=p
      have HV2:=Lib.hid hv2
      have HDI:=Lib.hid (zdk hv2).1
      have HRL3:Hid (r2.length≤1000000):=Lib.hid (by have:=(zdk hv2).2;have:=HRL2.out;omega)
      clear hv2
      obtain ⟨u,f,o,hg⟩:∃ u f o,zC 0 dd=(u,f,o):=⟨_,_,_,rfl⟩
      have HUB:Hid ((u:Int) < 9223372036854775808):=Lib.hid (by have:=zdj 0 dd;rw [hg] at this;exact this)
      have HDF:=Lib.hid (fun W=>(ztx 0 dd u f o W ⟨by omega,by omega⟩ HDI.out hg).mono fun _ _ (h:_∧_)=>(⟨h.1,h.2.symm⟩:_∧W=_))
      have HGB:=Lib.hid (zcx (c:=C) (m:=(m:Int)) HV1.out HV2.out hg)
      clear hg
      cases o with
      | false =>
       have hE:Hid (zU l s=([],[],2)):=Lib.hid (by rw [HE0.out,HGB.out];rfl)
       go_enter Tryz.func83,Tryz.ntmps83
       go_wp2_with fail
       refine HLK.out.mono ?_
       rintro e w1 ⟨rv,rfl,hrv,hb1⟩
       have HB:=Lib.hid hb1
       have HRV:=Lib.hid hrv
       clear hb1 hrv
       go_wp2_with fail
       refine (zbg s HRV.out HRL.out HV1.out).mono ?_
       rintro e w2 ⟨rv2,rfl,hrv2,hb2⟩
       have HRV2:=Lib.hid hrv2.isB
       clear hrv2
       have HB:=Lib.hid (za HB.out hb2)
       clear hb2
       go_wp2_with fail
       refine (zbg true HRV2.out HRL2.out HV2.out).mono ?_
       rintro e w3 ⟨rv3,rfl,hrv3,hb3⟩
       have HRO3:=Lib.hid (OwnB.base HB.out.size hrv3)
       have HRV3:=Lib.hid hrv3.isB
       clear hrv3
       have HB:=Lib.hid (za HB.out hb3)
       clear hb3
       go_wp2_with fail
       refine (HDF.out _).mono ?_
       rintro e w' ⟨rfl,rfl⟩
       go_wp2
       go_ret3
       rw [hE.out]
       exact RetIO.nil _ HB.out
      | true =>
       have HE1:Hid (zU l s=zeX s f x0 u C m r2):=Lib.hid (by rw [HE0.out,HGB.out];rfl)
       obtain ⟨N,hN⟩:∃ N,N=m - 1:=⟨_,rfl⟩
       have hNi:(m:Int) - 1=(N:Int):=by omega
       have hN5:N≤511:=by omega
       have hN1:1≤N:=by omega
       by_cases hC:0 < C
       ·have d2:decide ((0:Int) < C)=true:=decide_eq_true hC
        obtain ⟨N2,hN2⟩:∃ N2,N2=m - 2:=⟨_,rfl⟩
        have hN2i:(m:Int) - 2=(N2:Int):=by omega
        have hN25:N2≤510:=by omega
        obtain ⟨us,q,y,hu⟩:∃ us q y,zg r2 (N2:Int) (wof C)=(us,q,y):=⟨_,_,_,rfl⟩
        have hlt:=(zba (l:=r2) (M:=(N2:Int)) (W:=wof C)).1
        rw [hu] at hlt
        dsimp only at hlt
        have HU:=Lib.hid hu
        have HLTT:=Lib.hid hlt
        have HOF:=Lib.hid (fun X=>zhh C X (by omega) (by omega))
        obtain ⟨W,hW⟩:∃ W,W=wof C:=⟨_,rfl⟩
        rw [←hW] at HOF HU
        have HUN:=Lib.hid (fun (u:Value) (X:World) (h:IsB r2 u X)=>zdV (N2:Int) W h HRL3.out)
        rw [HU.out] at HUN
        have HWW:=Lib.hid hW
        have HN2:=Lib.hid (show N=N2+1 by omega)
        clear hu hlt hW hN hN2
        by_cases hy:y=0
        ·subst hy
         have hus:=zM HU.out
         have HUS:Hid ((u::us).length=N):=Lib.hid (by rw [List.length_cons,hus.1,HN2.out])
         have HULN:=Lib.hid hus.1
         have HUA:Hid (∀ z∈u::us,(z:Int) < 18446744073709551616):=Lib.hid (by
          intro z hz
          rcases List.mem_cons.1 hz with h | h
          ·rw [h];have:=HUB.out;omega
          ·have h2:z < 18446744073709551616:=HLTT.out z h
           omega)
         have hE:Hid (zU l s=gend s f x0 (u::us) q):=Lib.hid (by rw [HE1.out,zdC hC (by rw [hN2i,←HWW.out];exact HU.out)])
         clear hus
         go_enter Tryz.func83,Tryz.ntmps83
         go_wp2_with fail
         refine HLK.out.mono ?_
         rintro e w1 ⟨rv,rfl,hrv,hb1⟩
         have HB:=Lib.hid hb1
         have HRV:=Lib.hid hrv
         clear hb1 hrv
         go_wp2_with fail
         refine (zbg s HRV.out HRL.out HV1.out).mono ?_
         rintro e w2 ⟨rv2,rfl,hrv2,hb2⟩
         have HRV2:=Lib.hid hrv2.isB
         clear hrv2
         have HB:=Lib.hid (za HB.out hb2)
         clear hb2
         go_wp2_with fail
         refine (zbg true HRV2.out HRL2.out HV2.out).mono ?_
         rintro e w3 ⟨rv3,rfl,hrv3,hb3⟩
         have HRO3:=Lib.hid (OwnB.base HB.out.size hrv3)
         have HRV3:=Lib.hid hrv3.isB
         clear hrv3
         have HB:=Lib.hid (za HB.out hb3)
         clear hb3
         go_wp2_with fail
         refine (HDF.out _).mono ?_
         rintro e w' ⟨rfl,rfl⟩
         have hownS:=zhs w3 119 (uv u) (base:=w3.heap.size) (Nat.le_refl _)
         have hbS:Below w3.heap.size w3 (w3.alloc (.cells #[uv u] 119)):=(Below.refl _ _).alloc (Nat.le_refl _) _
         have HRV4:=Lib.hid (HRV3.out.below hbS)
         have HOS:=Lib.hid hownS
         have HBS:=Lib.hid hbS
         clear hownS hbS
         go_wp2_with (go_at_call 74;refine (HOF.out _).mono ?_;rintro e w' ⟨rfl,rfl⟩)
         refine (HUN.out _ _ HRV4.out).mono ?_
         rintro e w5 ⟨u5,q5,rfl,hu5,hq5,hb5⟩
         have hown5:=own_below HOS.out hb5
         have hb5':=HBS.out.trans (hb5.mono HBS.out.size)
         have hz5:=hb5'.size
         obtain ⟨A5,n5,c5,rfl⟩:=IsV.shape (f:=uv) (zbk (f:=uv) hu5)
         obtain ⟨hn5,hA5,-,-,hl5⟩:=IsV.parts (f:=uv) (zbk (f:=uv) hu5)
         have HM5:=Lib.hid (show (us.map uv).length=n5 by rw [List.length_map];exact hn5)
         have hn5b:n5≤600:=by rw [←hn5,HULN.out];omega
         have HQ5:=Lib.hid hq5
         clear hu5 hq5 hn5 hb5
         go_wp2_with (at_builtin;refine zk elemU rfl _ _ rfl w3.heap.size _ _ _ _ _ _ (us.map uv) w3 rfl rfl hA5 HM5.out hl5 (zvt us) hown5 hb5' hz5 (by omega) (by omega) ?_)
         intro v6 W0 hown6 hb6 hkeep6 _
         have HQ0:Hid (OwnB w q q5 W0):=Lib.hid (OwnB.base HB.out.size (HQ5.out.elim fun _ h=>⟨_,zhd (zbV HBS.out.size h) hown5 (by decide) hkeep6⟩))
         have hI6:IsV uv (u::us) v6 W0:=zbk (n:=1+n5) hown6
         obtain ⟨B6,n6,c6,rfl⟩:=hI6.shape
         have hn6:=hI6.parts.1
         rw [HUS.out] at hn6
         subst hn6
         obtain ⟨bd,rfl,_⟩:=hI6.at (k:=0) (by simp)
         have HSZ:=Lib.hid hI6
         have HB:=Lib.hid (za HB.out hb6)
         clear hI6 hown6 hb6 hkeep6 hown5 hb5' hz5 hl5
         have hown0:=zhs W0 3 (.int .i64 x0) (base:=W0.heap.size) (Nat.le_refl _)
         have hbo:Below W0.heap.size W0 (W0.alloc (.cells #[.int .i64 x0] 3)):=(Below.refl _ _).alloc (Nat.le_refl _) _
         have hst:zgV s f x0 (u::us) W0 (.int .i64 x0) (.slice (some ⟨W0.heap.size,0,none⟩) 1 1) (.int .i64 0) (W0.alloc (.cells #[.int .i64 x0] 3)):=⟨0,[],by omega,rfl,rfl,rfl,hown0,hbo⟩
         have HST:=Lib.hid hst
         clear hst hown0 hbo
         go_wp2
         go_loopw [12,21,22] (zgV s f x0 (u::us) W0) (fun _ _ i _=>N - (intOf i).toNat)
         case atStart=>exact HST.out
         case round =>
          obtain ⟨k,ys,hk,rfl,hgw,rfl,hown,hbr⟩:=hrel
          have hz:=hbr.size
          have HBR:=Lib.hid (za HB.out hbr)
          have HGW:=Lib.hid hgw
          have hkN:k≤N:=by have:=HUS.out;omega
          have hyi:inInt (zd0 x0 ys):=zeL hgw HX0.out
          obtain ⟨x,hx⟩:∃ x,x=zd0 x0 ys:=⟨_,rfl⟩
          rw [←hx] at hyi ⊢
          have HX:=Lib.hid hx
          have HXI:=Lib.hid hyi
          have HTT:=Lib.hid HST
          clear hgw hx hyi
          by_cases hlt:k < N
          ·have hlti:(k:Int) < (N:Int):=by omega
           have hkl:k < (u::us).length:=by have:=HUS.out;omega
           obtain ⟨_,hAd,_,hcell⟩:=(HSZ.out.below hbr).at hkl
           injection hAd with hAd
           subst hAd
           obtain ⟨u',hu'⟩:∃ u',u'=(u::us)[k]:=⟨_,rfl⟩
           obtain ⟨wr',hwr⟩:∃ w',w'=wr:=⟨_,rfl⟩
           rw [←hwr] at hown hbr hz HBR hcell ⊢
           clear hwr
           have hcx:wr'.cell? (bd.add k)=some (.int .u64 (u':Int)):=by rw [hcell,hu'];rfl
           have HTK:Hid ((u::us).take (k+1)=(u::us).take k ++ [u']):=Lib.hid (by rw [List.take_succ_eq_append_getElem hkl,hu'])
           have HU64:Hid ((u':Int) < 18446744073709551616):=Lib.hid (by rw [hu'];exact HUA.out _ (List.getElem_mem _))
           clear hcell hu' hkl
           have hgs:=zeK x (u':Int) f wr' HXI.out (by omega) (by have:=HU64.out;omega)
           rw [Int.toNat_natCast] at hgs
           obtain ⟨y,ok,hy⟩:∃ y ok,zbi x u' f=(y,ok):=⟨_,_,rfl⟩
           have hyb:inInt y:=by have:=zgU (u:=u') (f:=f) HXI.out;rw [hy] at this;exact this
           rw [hy] at hgs
           have HGS:=Lib.hid hgs
           have hnx:zbl s f (zd0 x0 ys) u'=if ok=true∧(s=true∨0≤y) then some y else none:=by unfold zbl;rw [←HX.out,hy]
           have HNX:=Lib.hid hnx
           have HYB:=Lib.hid hyb
           clear hgs hy hyb hnx
           by_cases hgo:ok=true∧(s=true∨0≤y)
           ·have HW2:Hid (zbp s f x0 ((u::us).take (k+1))=some (ys ++ [y])):=Lib.hid (by rw [HTK.out,zcW,HGW.out];dsimp only;rw [HNX.out,if_pos hgo])
            obtain ⟨rfl,hsy⟩:=hgo
            have hcase:decide (y < 0)=false∨(decide (y < 0)=true∧s=true):=by
             rcases hsy with h | h
             ·by_cases h2:y < 0
              ·exact .inr ⟨decide_eq_true h2,h⟩
              ·exact .inl (decide_eq_false h2)
             ·exact .inl (decide_eq_false (by omega))
            clear hsy
            rcases hcase with hd0 | ⟨hd0,rfl⟩
            all_goals
             go_wp2_with (first | (go_at_call 111;refine HGS.out.mono ?_;rintro e w' ⟨rfl,rfl⟩) | (at_builtin;refine zQ zck rfl _ _ rfl W0.heap.size _ _ _ (.int .i64 y) wr' W0 rfl rfl rfl rfl hown hbr hz (by omega) (by omega) ?_))
             intro v5 w5 hown5 hb5 _ _
             have hown6:w5.ownsRow W0.heap.size 3 1 v5 (k+1+1) ((x0::(ys ++ [y])).map iv):=by rw [←List.cons_append,List.map_append];exact hown5
             have HO6:=Lib.hid hown6
             have HB5:=Lib.hid hb5
             have hki:IntKind.i64.wrap ((k:Int)+1)=(k:Int)+1:=by rw [IntKind.wrap_i64];omega
             clear hown5 hown6 hown hb5
             go_wp2
             go_roundw
             case rel=>exact ⟨k+1,ys ++ [y],by have:=HUS.out;omega,by rw [zf7],HW2.out,by rw [Int.natCast_add];rfl,HO6.out,HB5.out⟩
             case measure=>simp [intOf];omega
           ·have hW2:zbp s f x0 ((u::us).take (k+1))=none:=by rw [HTK.out,zcW,HGW.out];dsimp only;rw [HNX.out,if_neg hgo]
            have hE2:Hid (zU l s=([],[],2)):=Lib.hid (by rw [hE.out];unfold gend;rw [zc5 hW2];rfl)
            have hcase:ok=false∨(ok=true∧decide (y < 0)=true∧s=false):=by
             cases ok with
             | false=>exact .inl rfl
             | true =>
              refine .inr ⟨rfl,?_,?_⟩
              ·exact decide_eq_true (Int.not_le.1 fun h=>hgo ⟨rfl,.inr h⟩)
              ·cases s with | false=>rfl | true=>exact absurd ⟨rfl,.inl rfl⟩ hgo
            clear hW2 hgo hown
            rcases hcase with rfl | ⟨rfl,hd0,rfl⟩
            all_goals
             go_wp2_with (go_at_call 111;refine HGS.out.mono ?_;rintro e w' ⟨rfl,rfl⟩)
             go_ret3
             rw [hE2.out]
             exact RetIO.nil _ HBR.out
          ·obtain rfl:N=k:=by omega
           have hlti:¬(N:Int) < (N:Int):=by omega
           have hW2:zbp s f x0 (u::us)=some ys:=by have h:=HGW.out;rw [List.take_of_length_le (by have:=HUS.out;omega)] at h;exact h
           have hE2:Hid (zU l s=(x0::ys,q,0)):=Lib.hid (by rw [hE.out];unfold gend;rw [hW2])
           have HO:=Lib.hid (zbk (f:=iv) (l:=x0::ys) hown)
           have HQ:=Lib.hid (HQ0.out.below hbr)
           clear hW2 hown hbr
           go_wp2
           go_ret3
           rw [hE2.out]
           exact ⟨_,_,rfl,HO.out,HQ.out,HBR.out⟩
        ·have hE:Hid (zU l s=([],[],2)):=Lib.hid (by rw [HE1.out,zfF hC (by rw [hN2i,←HWW.out];exact HU.out) hy])
         have d3:(y != 0)=true:=by simpa using hy
         go_enter Tryz.func83,Tryz.ntmps83
         go_wp2_with fail
         refine HLK.out.mono ?_
         rintro e w1 ⟨rv,rfl,hrv,hb1⟩
         have HB:=Lib.hid hb1
         have HRV:=Lib.hid hrv
         clear hb1 hrv
         go_wp2_with fail
         refine (zbg s HRV.out HRL.out HV1.out).mono ?_
         rintro e w2 ⟨rv2,rfl,hrv2,hb2⟩
         have HRV2:=Lib.hid hrv2.isB
         clear hrv2
         have HB:=Lib.hid (za HB.out hb2)
         clear hb2
         go_wp2_with fail
         refine (zbg true HRV2.out HRL2.out HV2.out).mono ?_
         rintro e w3 ⟨rv3,rfl,hrv3,hb3⟩
         have HRO3:=Lib.hid (OwnB.base HB.out.size hrv3)
         have HRV3:=Lib.hid hrv3.isB
         clear hrv3
         have HB:=Lib.hid (za HB.out hb3)
         clear hb3
         go_wp2_with fail
         refine (HDF.out _).mono ?_
         rintro e w' ⟨rfl,rfl⟩
         have hbS:Below w3.heap.size w3 (w3.alloc (.cells #[uv u] 119)):=(Below.refl _ _).alloc (Nat.le_refl _) _
         have HRV4:=Lib.hid (HRV3.out.below hbS)
         have HBS:=Lib.hid hbS
         clear hbS
         go_wp2_with (go_at_call 74;refine (HOF.out _).mono ?_;rintro e w' ⟨rfl,rfl⟩)
         refine (HUN.out _ _ HRV4.out).mono ?_
         rintro e w5 ⟨u5,q5,rfl,hu5,hq5,hb5⟩
         have HB:=Lib.hid (za HB.out (HBS.out.trans (hb5.mono HBS.out.size)))
         clear hb5
         go_wp2
         go_ret3
         rw [hE.out]
         exact RetIO.nil _ HB.out
       ·have d2:decide ((0:Int) < C)=false:=decide_eq_false hC
        have HUS:Hid ((List.replicate N u).length=N):=Lib.hid (by simp)
        have hE:Hid (zU l s=gend s f x0 (List.replicate N u) r2):=Lib.hid (by rw [HE1.out,zdB hC,hNi,Int.toNat_natCast])
        clear hN
        go_enter Tryz.func83,Tryz.ntmps83
        go_wp2_with fail
        refine HLK.out.mono ?_
        rintro e w1 ⟨rv,rfl,hrv,hb1⟩
        have HB:=Lib.hid hb1
        have HRV:=Lib.hid hrv
        clear hb1 hrv
        go_wp2_with fail
        refine (zbg s HRV.out HRL.out HV1.out).mono ?_
        rintro e w2 ⟨rv2,rfl,hrv2,hb2⟩
        have HRV2:=Lib.hid hrv2.isB
        clear hrv2
        have HB:=Lib.hid (za HB.out hb2)
        clear hb2
        go_wp2_with fail
        refine (zbg true HRV2.out HRL2.out HV2.out).mono ?_
        rintro e w3 ⟨rv3,rfl,hrv3,hb3⟩
        have HRO3:=Lib.hid (OwnB.base HB.out.size hrv3)
        have HRV3:=Lib.hid hrv3.isB
        clear hrv3
        have HB:=Lib.hid (za HB.out hb3)
        clear hb3
        go_wp2_with fail
        refine (HDF.out _).mono ?_
        rintro e w' ⟨rfl,rfl⟩
        have hbS:Below w3.heap.size w3 (w3.alloc (.cells #[uv u] 119)):=(Below.refl _ _).alloc (Nat.le_refl _) _
        have HRO4:=Lib.hid (HRO3.out.below hbS)
        have HBS:=Lib.hid hbS
        have HB:=Lib.hid (za HB.out hbS)
        clear hbS
        obtain ⟨W0,hW0⟩:∃ W0,W0=w3.alloc (.cells #[.int .u64 (u:Int)] 119):=⟨_,rfl⟩
        have hsz0:W0.heap.size=w3.heap.size+1:=by rw [hW0];simp
        have HW0:=Lib.hid hW0
        have HSZ0:=Lib.hid hsz0
        rw [show uv u=.int .u64 (u:Int) from rfl,←hW0] at HB HRO4
        clear hW0 hsz0
        have hown0:=zhs W0 3 (.int .i64 x0) (base:=W0.heap.size) (Nat.le_refl _)
        have hbo:Below W0.heap.size W0 (W0.alloc (.cells #[.int .i64 x0] 3)):=(Below.refl _ _).alloc (Nat.le_refl _) _
        have hst:zgV s f x0 (List.replicate N u) W0 (.int .i64 x0) (.slice (some ⟨W0.heap.size,0,none⟩) 1 1) (.int .i64 0) (W0.alloc (.cells #[.int .i64 x0] 3)):=⟨0,[],by omega,rfl,rfl,rfl,hown0,hbo⟩
        have HST:=Lib.hid hst
        clear hst hown0 hbo
        go_wp2
        go_loopw [12,21,22] (zgV s f x0 (List.replicate N u) W0) (fun _ _ i _=>N - (intOf i).toNat)
        case atStart=>rw [←HW0.out,←HSZ0.out];exact HST.out
        case round =>
         obtain ⟨k,ys,hk,rfl,hgw,rfl,hown,hbr⟩:=hrel
         have hz:=hbr.size
         have HBR:=Lib.hid (za HB.out hbr)
         have HGW:=Lib.hid hgw
         have hkN:k≤N:=by have:=HUS.out;omega
         have hyi:inInt (zd0 x0 ys):=zeL hgw HX0.out
         obtain ⟨x,hx⟩:∃ x,x=zd0 x0 ys:=⟨_,rfl⟩
         rw [←hx] at hyi ⊢
         have HX:=Lib.hid hx
         have HXI:=Lib.hid hyi
         have HTT:=Lib.hid HST
         clear hgw hx hyi
         by_cases hlt:k < N
         ·have hlti:(k:Int) < (N:Int):=by omega
          obtain ⟨wr',hwr⟩:∃ w',w'=wr:=⟨_,rfl⟩
          rw [←hwr] at hown hbr hz HBR ⊢
          clear hwr
          have HTK:Hid ((List.replicate N u).take (k+1)=(List.replicate N u).take k ++ [u]):=Lib.hid (by rw [List.take_succ_eq_append_getElem (by rw [List.length_replicate];exact hlt),List.getElem_replicate])
          have HU64:Hid ((u:Int) < 9223372036854775808):=Lib.hid HUB.out
          have hgs:=zeK x (u:Int) f wr' HXI.out (by omega) (by have:=HU64.out;omega)
          rw [Int.toNat_natCast] at hgs
          obtain ⟨y,ok,hy⟩:∃ y ok,zbi x u f=(y,ok):=⟨_,_,rfl⟩
          have hyb:inInt y:=by have:=zgU (u:=u) (f:=f) HXI.out;rw [hy] at this;exact this
          rw [hy] at hgs
          have HGS:=Lib.hid hgs
          have hnx:zbl s f (zd0 x0 ys) u=if ok=true∧(s=true∨0≤y) then some y else none:=by unfold zbl;rw [←HX.out,hy]
          have HNX:=Lib.hid hnx
          have HYB:=Lib.hid hyb
          clear hgs hy hyb hnx
          by_cases hgo:ok=true∧(s=true∨0≤y)
          ·have HW2:Hid (zbp s f x0 ((List.replicate N u).take (k+1))=some (ys ++ [y])):=Lib.hid (by rw [HTK.out,zcW,HGW.out];dsimp only;rw [HNX.out,if_pos hgo])
           obtain ⟨rfl,hsy⟩:=hgo
           have hcase:decide (y < 0)=false∨(decide (y < 0)=true∧s=true):=by
            rcases hsy with h | h
            ·by_cases h2:y < 0
             ·exact .inr ⟨decide_eq_true h2,h⟩
             ·exact .inl (decide_eq_false h2)
            ·exact .inl (decide_eq_false (by omega))
           clear hsy
           rcases hcase with hd0 | ⟨hd0,rfl⟩
           all_goals
            go_wp2_with (first | (go_at_call 111;refine HGS.out.mono ?_;rintro e w' ⟨rfl,rfl⟩) | (at_builtin;refine zQ zck rfl _ _ rfl W0.heap.size _ _ _ (.int .i64 y) wr' W0 rfl rfl rfl rfl hown hbr hz (by omega) (by omega) ?_))
            intro v5 w5 hown5 hb5 _ _
            have hown6:w5.ownsRow W0.heap.size 3 1 v5 (k+1+1) ((x0::(ys ++ [y])).map iv):=by rw [←List.cons_append,List.map_append];exact hown5
            have HO6:=Lib.hid hown6
            have HB5:=Lib.hid hb5
            have hki:IntKind.i64.wrap ((k:Int)+1)=(k:Int)+1:=by rw [IntKind.wrap_i64];omega
            clear hown5 hown6 hown hb5
            go_wp2
            go_roundw
            case rel=>exact ⟨k+1,ys ++ [y],by have:=HUS.out;omega,by rw [zf7],HW2.out,by rw [Int.natCast_add];rfl,HO6.out,HB5.out⟩
            case measure=>simp [intOf];omega
          ·have hW2:zbp s f x0 ((List.replicate N u).take (k+1))=none:=by rw [HTK.out,zcW,HGW.out];dsimp only;rw [HNX.out,if_neg hgo]
           have hE2:Hid (zU l s=([],[],2)):=Lib.hid (by rw [hE.out];unfold gend;rw [zc5 hW2];rfl)
           have hcase:ok=false∨(ok=true∧decide (y < 0)=true∧s=false):=by
            cases ok with
            | false=>exact .inl rfl
            | true =>
             refine .inr ⟨rfl,?_,?_⟩
             ·exact decide_eq_true (Int.not_le.1 fun h=>hgo ⟨rfl,.inr h⟩)
             ·cases s with | false=>rfl | true=>exact absurd ⟨rfl,.inl rfl⟩ hgo
           clear hW2 hgo hown
           rcases hcase with rfl | ⟨rfl,hd0,rfl⟩
           all_goals
            go_wp2_with (go_at_call 111;refine HGS.out.mono ?_;rintro e w' ⟨rfl,rfl⟩)
            go_ret3
            rw [hE2.out]
            exact RetIO.nil _ HBR.out
         ·obtain rfl:N=k:=by omega
          have hlti:¬(N:Int) < (N:Int):=by omega
          have hW2:zbp s f x0 (List.replicate N u)=some ys:=by have h:=HGW.out;rw [List.take_of_length_le (by have:=HUS.out;omega)] at h;exact h
          have hE2:Hid (zU l s=(x0::ys,r2,0)):=Lib.hid (by rw [hE.out];unfold gend;rw [hW2])
          have HO:=Lib.hid (zbk (f:=iv) (l:=x0::ys) hown)
          have HQ:=Lib.hid (HRO4.out.below hbr)
          clear hW2 hown hbr
          go_wp2
          go_ret3
          rw [hE2.out]
          exact ⟨_,_,rfl,HO.out,HQ.out,HBR.out⟩
  ·have hE:=Lib.hid (zce (l:=l) (s:=s) (.inr (.inl (by rw [hd];exact hK))))
   have d1:(K != 3)=true:=by simpa using hK
   clear hd
   go_enter Tryz.func83,Tryz.ntmps83
   go_wp2_with fail
   refine HLK.out.mono ?_
   rintro e w1 ⟨rv,rfl,hrv,hb1⟩
   have HB:=Lib.hid hb1
   have HRV:=Lib.hid hrv
   clear hb1 hrv
   go_wp2
   go_ret3
   rw [hE.out]
   exact RetIO.nil _ HB.out
 ·have hE:=Lib.hid (zce (l:=l) (s:=s) (.inl (by rw [hd];exact hx)))
  have d1:(x != 0)=true:=by simpa using hx
  clear hd
  go_enter Tryz.func83,Tryz.ntmps83
  go_wp2_with fail
  refine HLK.out.mono ?_
  rintro e w1 ⟨rv,rfl,hrv,hb1⟩
  have HB:=Lib.hid hb1
  have HRV:=Lib.hid hrv
  clear hb1 hrv
  go_wp2
  go_ret3
  rw [hE.out]
  exact RetIO.nil _ HB.out
def zep (p:Nat × Bool × Bool):Nat × Bool:=(p.1,p.2.1)
def dc (d:Nat × Bool):List Value:=[.int .u64 (d.1:Int),.bool d.2]
theorem zdl (d:Nat × Bool):(dc d).length=2:=rfl
theorem zn8 (d:Nat × Bool):∀ u∈dc d,u.oneCell'=true:=by
 intro u hu
 unfold dc at hu
 simp at hu
 rcases hu with rfl | rfl <;> rfl
theorem zuS (l:List (Nat × Bool)):∀ u∈l.flatMap dc,u.oneCell'=true:=by
 intro u hu
 obtain ⟨x,_,hx⟩:=List.mem_flatMap.1 hu
 exact zn8 x u hx
def dv (d:Nat × Bool):Value:=.agg (dc d).toArray
theorem Tryz.infoD:(Tryz.prog.info? 167).map (fun i=>(i.zero,i.size,i.bytes))=some (some (dv (0,false)),2,16):=by kernel_rfl
theorem elemD:ElemW Tryz.prog 160 167 16 2 (dv (0,false)):=by
 obtain ⟨i0,hi,hz0,hz1,hz2⟩:=info_parts Tryz.infoD
 exact ⟨Tryz.underlying160,rfl,by omega,i0,hi,hz0,hz1,hz2⟩
theorem zre:(Tryz.prog.info? 167).map (·.size)=some 2:=by
 obtain ⟨i0,hi,hz0,hz1,hz2⟩:=info_parts Tryz.infoD
 rw [hi,Option.map_some,hz1]
theorem zhF {w:World} {ad:Addr} {k:Nat} {x:Nat × Bool} (h:∀ i,i < 2→w.cell? (ad.add (k*2+i))=(dc x)[i]?) :
  w.cell? (ad.add (k*2))=some (.int .u64 (x.1:Int))∧w.cell? ⟨(ad.add (k*2)).block,(ad.add (k*2)).off+1,none⟩=some (.bool x.2):=by
 refine ⟨h 0 (by omega),?_⟩
 have h1:=h 1 (by omega);rw [←add_add] at h1;exact h1
def zrf (p:Nat × Bool × Bool) (e:Ending):Prop:=e=.returned (.tuple #[dv (zep p),.bool p.2.2])
theorem zgW {fn:Func} {p u:Tmp} (h:fn.results = #[.cell p 167,.tmp u]) (tmps:Array Value) (w:World) (g:Nat) (d:Nat × Bool) (b:Bool)
  (hp:tmps.getD p undef=.pointer (some ⟨g,0,none⟩)) (hr:Row w g 167 (dc d)) (hu:tmps.getD u undef=.bool b):(results fn tmps).run Tryz.prog w=.ok (.tuple #[dv d,.bool b]) w:=
 zbM h tmps w g 167 (dc d).toArray (0,0) _ _ hp hr Tryz.underlying167 rfl zre hu
theorem zfG (w:World) (cs:List Value) (t:TypeId) (o:Obj):Row ((w.alloc (.cells cs.toArray t)).alloc o) w.heap.size t cs:=Row.alloc (heap_alloc_new w _) o
theorem zfH (w:World) (o o':Obj):Below w.heap.size w ((w.alloc o).alloc o'):=((Below.refl _ _).alloc (Nat.le_refl _) _).alloc (by simp) _
theorem zc6 (a b:Int) (w:World) (ha:inInt a) (hb:inInt b):Calls Tryz.prog 177 #[.int .i64 a,.int .i64 b] w fun e w'=>zrf (zC a b) e∧Below w.heap.size w w':=by
 unfold inInt at ha hb
 obtain ⟨S,hS⟩:∃ S:Nat,(S:Int)=IntKind.u64.wrap (b - a):=⟨(IntKind.u64.wrap (b - a)).toNat,by rw [IntKind.wrap_u64];omega⟩
 have hS2:IntKind.u64.wrap (IntKind.u64.wrap b - IntKind.u64.wrap a)=(S:Int):=by rw [hS,IntKind.wrap_u64,IntKind.wrap_u64,IntKind.wrap_u64,IntKind.wrap_u64];omega
 rw [IntKind.wrap_u64] at hS
 by_cases h:b < a
 ·obtain ⟨D,hD⟩:∃ D:Nat,(D:Int)=a - b:=⟨(a - b).toNat,by omega⟩
  have hn:IntKind.u64.wrap (-(S:Int))=(D:Int):=by rw [IntKind.wrap_u64];omega
  have d1:decide (b < a)=true:=decide_eq_true h
  by_cases h2:9223372036854775808≤(D:Int)
  ·have hE:Hid (zC a b=(0,false,false)):=Lib.hid (by unfold zC;rw [if_pos h,if_pos (by omega)])
   have d2:decide ((9223372036854775807:Int) < (D:Int))=true:=decide_eq_true (by omega)
   clear hD ha hb hS h2
   go_enter Tryz.func177,Tryz.ntmps177
   go_wp2
   refine bodyPost_ret (zgW rfl _ _ _ (0,false) false rfl (zfG _ _ _ _) rfl) rfl ?_
   rw [hE.out]
   exact ⟨rfl,zfH _ _ _⟩
  ·have hE:Hid (zC a b=(D,true,true)):=Lib.hid (by unfold zC;rw [if_pos h,if_neg (by omega)];congr 1;omega)
   have d2:decide ((9223372036854775807:Int) < (D:Int))=false:=decide_eq_false (by omega)
   clear hD ha hb hS h2
   go_enter Tryz.func177,Tryz.ntmps177
   go_wp2
   refine bodyPost_ret (zgW rfl _ _ _ (D,true) true rfl (zfG _ _ _ _) rfl) rfl ?_
   rw [hE.out]
   exact ⟨rfl,zfH _ _ _⟩
 ·have d1:decide (b < a)=false:=decide_eq_false h
  have hSD:(S:Int)=b - a:=by omega
  by_cases h2:9223372036854775808≤(S:Int)
  ·have hE:Hid (zC a b=(0,false,false)):=Lib.hid (by unfold zC;rw [if_neg h,if_pos (by omega)])
   have d2:decide ((9223372036854775807:Int) < (S:Int))=true:=decide_eq_true (by omega)
   clear ha hb hS h2 hSD
   go_enter Tryz.func177,Tryz.ntmps177
   go_wp2
   refine bodyPost_ret (zgW rfl _ _ _ (0,false) false rfl (zfG _ _ _ _) rfl) rfl ?_
   rw [hE.out]
   exact ⟨rfl,zfH _ _ _⟩
  ·have hE:Hid (zC a b=(S,false,true)):=Lib.hid (by unfold zC;rw [if_neg h,if_neg (by omega)];congr 1;omega)
   have d2:decide ((9223372036854775807:Int) < (S:Int))=false:=decide_eq_false (by omega)
   clear ha hb hS h2 hSD
   go_enter Tryz.func177,Tryz.ntmps177
   go_wp2
   refine bodyPost_ret (zgW rfl _ _ _ (S,false) true rfl (zfG _ _ _ _) rfl) rfl ?_
   rw [hE.out]
   exact ⟨rfl,zfH _ _ _⟩
theorem zhG (a b:Int) (w:World) (ha:inInt a) (hb:inInt b):Calls Tryz.prog 207 #[.int .i64 a,.int .i64 b] w fun e w'=>RetD (zC a b) e∧Below w.heap.size w w':=by
 have HB:=Lib.hid (zc6 a b w ha hb)
 generalize zC a b=p at HB ⊢
 obtain ⟨U,f,ok⟩:=p
 clear ha hb
 go_enter Tryz.func207,Tryz.ntmps207
 go_wp2_with fail
 refine HB.out.mono ?_
 rintro e w1 ⟨rfl,hb1⟩
 unfold zep dv dc
 dsimp only
 go_wp2
 go_quiet (fail)
 go_wp2
 refine bodyPost_ret (results_tmp3 rfl _ _ _) rfl ?_
 exact ⟨rfl,(hb1.alloc hb1.size _).trans ⟨rfl,rfl,rfl,Nat.le_refl _,fun _ _=>rfl⟩⟩
theorem zgX (a:Int) (U:Nat) (f:Bool) (w:World) (ha:inInt a) (h1:(U:Int) < 18446744073709551616):Calls Tryz.prog 151 #[.int .i64 a,dv (U,f)] w fun e w'=>RetG (zbi a U f) e∧Below w.heap.size w w':=by
 unfold inInt at ha
 by_cases h2:9223372036854775808≤(U:Int)
 ·have hE:Hid (zbi a U f=(0,false)):=Lib.hid (by unfold zbi;rw [if_pos h2])
  have d2:decide ((9223372036854775807:Int) < (U:Int))=true:=decide_eq_true (by omega)
  clear h2 h1
  unfold dv dc
  dsimp only
  go_enter Tryz.func151,Tryz.ntmps151
  go_wp2
  go_ret2
  rw [hE.out]
  exact ⟨rfl,(Below.refl _ _).alloc (Nat.le_refl _) _⟩
 ·have d2:decide ((9223372036854775807:Int) < (U:Int))=false:=decide_eq_false (by omega)
  have hw1:IntKind.i64.wrap (U:Int)=(U:Int):=by rw [IntKind.wrap_i64];omega
  cases f with
  | true =>
   obtain ⟨M,hM⟩:∃ M,M = -(U:Int):=⟨_,rfl⟩
   have hw2:IntKind.i64.wrap (-(U:Int))=M:=by rw [IntKind.wrap_i64];omega
   obtain ⟨b,hb⟩:∃ b,b=IntKind.i64.wrap (a+M):=⟨_,rfl⟩
   have hw3:IntKind.i64.wrap (a+M)=b:=hb.symm
   rw [IntKind.wrap_i64] at hb
   by_cases h3:a < -9223372036854775808+(U:Int)
   ·have hE:Hid (zbi a U true=(0,false)):=Lib.hid (by unfold zbi;rw [if_neg h2,if_pos rfl,if_pos h3])
    have d3:decide (b < a)=false:=decide_eq_false (by omega)
    have d4:decide (M < 0)=true:=decide_eq_true (by omega)
    clear h2 h1 hM hb h3 ha
    unfold dv dc
    dsimp only
    go_enter Tryz.func151,Tryz.ntmps151
    go_wp2
    go_ret2
    rw [hE.out]
    exact ⟨rfl,(Below.refl _ _).alloc (Nat.le_refl _) _⟩
   ·have hE:Hid (zbi a U true=(b,true)):=Lib.hid (by unfold zbi;rw [if_neg h2,if_pos rfl,if_neg h3];congr 1;omega)
    have d3:decide (b < a)=decide (M < 0):=by
     by_cases h4:M < 0
     ·rw [decide_eq_true h4];exact decide_eq_true (by omega)
     ·rw [decide_eq_false h4];exact decide_eq_false (by omega)
    clear h2 h1 hM hb h3 ha
    obtain ⟨d,hd⟩:∃ d,d=decide (M < 0):=⟨_,rfl⟩
    rw [←hd] at d3
    have d4:=hd.symm
    clear hd
    unfold dv dc
    dsimp only
    cases d
    ·go_enter Tryz.func151,Tryz.ntmps151
     go_wp2
     go_ret2
     rw [hE.out]
     exact ⟨rfl,(Below.refl _ _).alloc (Nat.le_refl _) _⟩
    ·go_enter Tryz.func151,Tryz.ntmps151
     go_wp2
     go_ret2
     rw [hE.out]
     exact ⟨rfl,(Below.refl _ _).alloc (Nat.le_refl _) _⟩
  | false =>
   obtain ⟨b,hb⟩:∃ b,b=IntKind.i64.wrap (a+(U:Int)):=⟨_,rfl⟩
   have hw3:IntKind.i64.wrap (a+(U:Int))=b:=hb.symm
   rw [IntKind.wrap_i64] at hb
   have d4:decide ((U:Int) < 0)=false:=decide_eq_false (by omega)
   by_cases h3:9223372036854775807 - (U:Int) < a
   ·have hE:Hid (zbi a U false=(0,false)):=Lib.hid (by unfold zbi;rw [if_neg h2,if_neg (by decide),if_pos h3])
    have d3:decide (b < a)=true:=decide_eq_true (by omega)
    clear h2 h1 hb h3 ha
    unfold dv dc
    dsimp only
    go_enter Tryz.func151,Tryz.ntmps151
    go_wp2
    go_ret2
    rw [hE.out]
    exact ⟨rfl,(Below.refl _ _).alloc (Nat.le_refl _) _⟩
   ·have hE:Hid (zbi a U false=(b,true)):=Lib.hid (by unfold zbi;rw [if_neg h2,if_neg (by decide),if_neg h3];congr 1;omega)
    have d3:decide (b < a)=false:=decide_eq_false (by omega)
    clear h2 h1 hb h3 ha
    unfold dv dc
    dsimp only
    go_enter Tryz.func151,Tryz.ntmps151
    go_wp2
    go_ret2
    rw [hE.out]
    exact ⟨rfl,(Below.refl _ _).alloc (Nat.le_refl _) _⟩
theorem zkT (a U:Int) (f:Bool) (w:World) (ha:inInt a) (h0:0≤U) (h1:U < 18446744073709551616):Calls Tryz.prog 194 #[.int .i64 a,.int .u64 U,.bool f] w fun e w'=>RetG (zbi a U.toNat f) e∧Below w.heap.size w w':=by
 obtain ⟨N,hN⟩:∃ N:Nat,U=(N:Int):=⟨U.toNat,by omega⟩
 subst hN
 have HS:=Lib.hid (zgX a N f w ha h1)
 clear ha h0 h1
 rw [Int.toNat_natCast]
 unfold dv dc at HS
 dsimp only at HS
 go_enter Tryz.func194,Tryz.ntmps194
 go_wp2_with fail
 refine HS.out.mono ?_
 rintro e w1 ⟨rfl,hb1⟩
 go_wp2
 go_ret2
 exact ⟨rfl,hb1⟩
theorem zpe (n:Int) (w:World) (h0:2≤n) (h1:n≤512):Calls Tryz.prog 146 #[.int .i64 n] w fun e w'=>e=.returned (.bool true)∧w=w':=by
 go_enter Tryz.func146,Tryz.ntmps146
 go_wp2
 go_ret
 exact ⟨rfl,rfl⟩
theorem zrg (n:Int) (w:World) (h:n < 2∨512 < n):Calls Tryz.prog 146 #[.int .i64 n] w fun e w'=>e=.returned (.bool false)∧w=w':=by
 rcases h with h | h
 ·have h2:decide (2≤n)=false:=by simp;omega
  go_enter Tryz.func146,Tryz.ntmps146
  go_wp2
  go_ret
  exact ⟨rfl,rfl⟩
 ·have h2:decide (n≤512)=false:=by simp;omega
  have h3:decide (2≤n)=true:=by simp;omega
  go_enter Tryz.func146,Tryz.ntmps146
  go_wp2
  go_ret
  exact ⟨rfl,rfl⟩
def lmin:List Int→Int
 | []=>0
 | x::xs=>xs.foldl min x
theorem zrh {l:List Int} (hl:l≠[]) (x:Int):lmin (l ++ [x])=min (lmin l) x:=by
 cases l with
 | nil=>exact absurd rfl hl
 | cons y ys=>simp [lmin,List.foldl_append]
theorem zty {l:List Int} (hl:l≠[]):lmin l < 0↔∃ x∈l,x < 0:=by
 cases l with
 | nil=>exact absurd rfl hl
 | cons y ys =>
  show ys.foldl min y < 0↔_
  induction ys generalizing y with
  | nil=>simp
  | cons z zs ih =>
   rw [List.foldl_cons,ih (min y z) (by simp)]
   simp only [List.mem_cons,exists_eq_or_imp]
   constructor
   ·rintro (h | h)
    ·rcases (by omega:y < 0∨z < 0) with h | h
     ·exact .inl h
     ·exact .inr (.inl h)
    ·exact .inr (.inr h)
   ·rintro (h | h | h)
    ·exact .inl (by omega)
    ·exact .inl (by omega)
    ·exact .inr h
def zri (l:List Int) (m i:Value):Prop:=∃ (k:Nat) (x:Int),1≤k∧k≤l.length∧i=.int .i64 (k:Int)∧m=.int .i64 x∧x=lmin (l.take k)
theorem zrj (l:List Int) (v:Value) (w:World) (hv:IsV iv l v w) (h1:1≤l.length) (hb:l.length≤1000000) :
  Calls Tryz.prog 147 #[v] w fun e w'=>e=.returned (.int .i64 (lmin l))∧w=w':=by
 obtain ⟨A,n,c,rfl⟩:=hv.shape
 have HN:=Lib.hid hv.len
 have HV:=Lib.hid hv
 have hn:1≤n:=by have:=HN.out;omega
 have hn6:n≤1000000:=by have:=HN.out;omega
 obtain ⟨ad,rfl,_,h0⟩:=hv.at (k:=0) h1
 obtain ⟨x0,hx0⟩:∃ x,x=l[0]:=⟨_,rfl⟩
 have h0':w.cell? ad=some (.int .i64 l[0]):=by have:=h0;simp [Addr.add,iv] at this;exact this
 have HS:=Lib.hid (show zri l (.int .i64 l[0]) (.int .i64 1) from ⟨1,_,Nat.le_refl _,h1,rfl,rfl,by cases l with | nil=>simp at h1 | cons a t=>simp [lmin]⟩)
 rw [←hx0] at h0' HS
 clear hv h1 hb h0 hx0
 go_enter Tryz.func147,Tryz.ntmps147
 go_wp2
 go_loop [3,4] (zri l) (fun _ i=>n - (intOf i).toNat)
 case atStart=>exact HS.out
 case round =>
  obtain ⟨k,x,hk1,hk2,rfl,rfl,hx⟩:=hrel
  have HX:=Lib.hid hx
  have hkn:k≤n:=by have:=HN.out;omega
  clear hx
  by_cases hlt:k < n
  ·have hkl:k < l.length:=by have:=HN.out;omega
   have hlti:(k:Int) < (n:Int):=by omega
   obtain ⟨ad',had,_,hc⟩:=HV.out.at hkl
   injection had with had
   subst had
   obtain ⟨y,hy⟩:∃ y,y=l[k]:=⟨_,rfl⟩
   rw [←hy] at hc
   unfold iv at hc
   obtain ⟨z,hz⟩:∃ z,z=min x y:=⟨_,rfl⟩
   have hmin:∀ (ts:Array TypeId) (t:TypeId) (W:World),(Builtin.min_ ts t #[.int .i64 x,.int .i64 y]).run Tryz.prog W=.ok (.int .i64 z) W:=fun ts t W=>by
    rw [run_min_int2]
    congr 2
    rw [hz]
    split <;> omega
   have HR:=Lib.hid (show zri l (.int .i64 z) (.int .i64 ((k+1:Nat):Int)) from ⟨k+1,_,by omega,hkl,rfl,rfl,by
    rw [List.take_succ_eq_append_getElem hkl,zrh (by intro h0;have h1:=congrArg List.length h0;rw [List.length_take,List.length_nil] at h1;omega),←HX.out,←hy,hz]⟩)
   clear hy hz
   go_wp2
   go_round
   case rel=>exact HR.out
   case measure=>simp [intOf];omega
  ·obtain rfl:k=n:=by omega
   go_wp2
   go_ret
   refine ⟨?_,rfl⟩
   rw [HX.out,List.take_of_length_le (by have:=HN.out;omega)]
   rfl
def zH (l:List Int) (i:Nat):Nat × Bool × Bool:=zC (l.getD i 0) (l.getD (i+1) 0)
def zur (l:List (Nat × Bool)) (w:World) (i:Value) (wr:World):Prop:=∃ k:Nat,k≤l.length∧i=.int .i64 (k:Int)∧(∀ j,j < k→l[j]? = l[0]?)∧Below w.heap.size w wr
def zhH (l:List (Nat × Bool)):Bool:=l.all fun d=>d == l.headD (0,false)
theorem zrk {l:List (Nat × Bool)} (h:∀ j,j < l.length→l[j]? = l[0]?):zhH l=true:=by
 unfold zhH
 rw [List.all_eq_true]
 intro d hd
 obtain ⟨j,hj,rfl⟩:=List.getElem_of_mem hd
 have h1:=h j hj
 rw [List.getElem?_eq_getElem hj] at h1
 cases l with
 | nil=>simp at hj
 | cons a t=>simp at h1;simp [h1]
theorem ztz {l:List (Nat × Bool)} {j:Nat} (hj:j < l.length) (h:l[j]?≠l[0]?):zhH l=false:=by
 unfold zhH
 rw [List.all_eq_false]
 refine ⟨l[j],List.getElem_mem hj,?_⟩
 rw [List.getElem?_eq_getElem hj] at h
 cases l with
 | nil=>simp at hj
 | cons a t=>simp at h;simpa using h
theorem eqD (a b:Nat × Bool) (w:World):(Op.equalIn 10000 167 (dv a) (dv b)).run Tryz.prog w=.ok (a == b) w:=by
 have hS:Tryz.prog.underlying 167=some (.struct (Tryz.prog.fieldsOf 167)):=by kernel_rfl
 have hp:Tryz.prog.stoodInHeld 167=false:=by kernel_rfl
 obtain ⟨au,af⟩:=a
 obtain ⟨bu,bf⟩:=b
 unfold dv dc
 have u1:=Tryz.underlying119
 have u2:=Tryz.underlying4
 have s1:=Tryz.sizeOf119
 have s2:=Tryz.sizeOf4
 have g1:=Tryz.isAgg119
 have g2:=Tryz.isAgg4
 rw [show (10000:Nat)=9999+1 from rfl,run_equalIn_agg w 9999 167 _ _ hS hp]
 simp only [Program.fieldsOf,Tryz.underlying167]
 go_simp
 by_cases h1:au=bu
 ·subst h1
  rw [if_pos rfl]
  cases af <;> cases bf <;> simp
 ·have h3:¬(au:Int)=(bu:Int):=by omega
  rw [if_neg h3]
  have h4:((au,af) == (bu,bf))=false:=by
   rw [beq_eq_false_iff_ne]
   intro h
   injection h with h _
   exact h1 h
  rw [h4]
theorem zpf {o:Oper} {ρ:Operand→Value} {w:World} {R:Value→World→Prop} {x y:Operand} {a b:Nat × Bool} (ho:o.op=.binOp .neq 167 x y 167) (hx:ρ x=dv a) (hy:ρ y=dv b)
  (hR:R (.bool (!(a == b))) w):zX Tryz.prog o ρ w R:=by
 refine zo (v:=.bool (!(a == b))) (w':=w) ?_ hR
 have hg:=run_eqGuard_agg (P:=Tryz.prog) w .neq 167 x y (dc a).toArray (dc b).toArray (by kernel_rfl)
 have hq:=run_neq_struct (P:=Tryz.prog) w 167 (dc a).toArray (dc b).toArray
 have he:=eqD a b w
 unfold dv at he
 rw [he] at hq
 unfold dv at hx hy
 simp [execOp,ho,hx,hy,hg,hq]
theorem zhI (l:List (Nat × Bool)) (v:Value) (w:World) (hv:IsR dc l v w) (hb:l.length≤1000000) :
  Calls Tryz.prog 180 #[v] w fun e w'=>e=.returned (.bool (zhH l))∧Below w.heap.size w w':=by
 obtain ⟨A,n,c,rfl⟩:=hv.shape
 have HN:=Lib.hid hv.parts.1
 have HV:=Lib.hid hv
 have hn6:n≤1000000:=by have:=HN.out;omega
 have HS:=Lib.hid (show zur l w (.int .i64 0) w from ⟨0,Nat.zero_le _,rfl,fun j hj=>by omega,Below.refl _ _⟩)
 clear hv hb
 go_enter Tryz.func180,Tryz.ntmps180
 go_wp2
 go_loopw [7] (zur l w) (fun i _=>n - (intOf i).toNat)
 case atStart=>exact HS.out
 case round =>
  obtain ⟨k,hk,rfl,hs,hbw⟩:=hrel
  have HSM:=Lib.hid hs
  have HB:=Lib.hid hbw
  have hkn:k≤n:=by have:=HN.out;omega
  clear hs hk
  by_cases hlt:k < n
  ·have hkl:k < l.length:=by have:=HN.out;omega
   have h0l:0 < l.length:=by omega
   have hlti:(k:Int) < (n:Int):=by omega
   have h0i:(0:Int) < (n:Int):=by omega
   obtain ⟨ad,rfl,had,hcell⟩:=(HV.out.below hbw).at (m:=2) zdl (by omega) hkl
   obtain ⟨x,hx⟩:∃ x,x=l[k]:=⟨_,rfl⟩
   rw [←hx] at hcell
   have k0:=zhF hcell
   have HX:=Lib.hid hx
   obtain ⟨xu,xf⟩:=x
   dsimp only at k0
   obtain ⟨k1,k2⟩:=k0
   clear hcell hx hbw
   have HR:=Lib.hid (show Row (wr.alloc (.cells #[.int .u64 (xu:Int),.bool xf] 167)) wr.heap.size 167 (dc (xu,xf)) from heap_alloc_new wr _)
   have HBA:=Lib.hid (HB.out.alloc HB.out.size (.cells #[.int .u64 (xu:Int),.bool xf] 167))
   obtain ⟨y,hy⟩:∃ y,y=l[0]:=⟨_,rfl⟩
   have HY:=Lib.hid hy
   clear hy
   obtain ⟨b,hb⟩:∃ b,b = !((xu,xf) == y):=⟨_,rfl⟩
   have HEQ:=Lib.hid hb
   clear hb
   go_wp2
   refine wp_region_list [.is (dv (xu,xf)),.is (.slice (some ad) n c),.is (.pointer (some (ad.add (0*2)))),.is (dv y),.is (.bool b)] [some 11,some 12,some 13,some 14,some 15] (by kernel_rfl) (by kernel_rfl) (by kernel_rfl) rfl ⟨?_,?_,?_,?_,?_,trivial⟩ ?_
   ·intro ρ W1 hb1 H
    exact zL (cs:=dc (xu,xf)) rfl (H.old 4 _ (by kernel_rfl) rfl) Tryz.underlying167 rfl zre (HR.out.below hb1 HR.out.lt) ⟨rfl,Below.refl _ _⟩
   ·intro ρ W1 hb1 H
    exact zd rfl (H.old 0 _ (by kernel_rfl) rfl) ⟨rfl,Below.refl _ _⟩
   ·intro ρ W1 hb1 H
    exact zgJ (k:=0) Tryz.underlying160 Tryz.sizeOf167 rfl (H.new 12 1 (by kernel_rfl)) (H.const _) (by omega) ⟨rfl,Below.refl _ _⟩
   ·intro ρ W1 hb1 H
    obtain ⟨ad0,had0,had1,hcell0⟩:=(HV.out.below (HBA.out.trans (hb1.mono HBA.out.size))).at (m:=2) zdl (by omega) h0l
    injection had0 with had0
    subst had0
    exact zhB (cs:=dc y) rfl (H.new 13 2 (by kernel_rfl)) Tryz.underlying167 rfl Tryz.sizeOf167 (fun j v hj=>by
     have hj2:j < 2:=by have:=(List.getElem?_eq_some_iff.1 hj).1;exact this
     have h:=hcell0 j hj2
     rw [←HY.out] at h
     rw [add_add]
     exact h.trans hj) ⟨rfl,Below.refl _ _⟩
   ·intro ρ W1 hb1 H
    exact zpf rfl (H.new 11 0 (by kernel_rfl)) (H.new 14 3 (by kernel_rfl)) ⟨by rw [HEQ.out];rfl,Below.refl _ _⟩
   ·intro vs W1 hb1 hfs
    have f4:vs 4=.bool b:=hfs 4 (by decide)
    clear hfs
    simp only [zr,Nat.zero_add,Nat.reduceAdd]
    generalize vs 0=z0
    generalize vs 1=z1
    generalize vs 2=z2
    generalize vs 3=z3
    simp only [f4,Act.put,List.setIfInBounds_toArray,List.set_cons_succ,List.set_cons_zero]
    have HB1:=Lib.hid (HBA.out.trans (hb1.mono HBA.out.size))
    clear f4 hb1
    cases b with
    | true =>
     have HD:=Lib.hid (show zhH l=false from ztz hkl (by
      rw [List.getElem?_eq_getElem hkl,List.getElem?_eq_getElem h0l,←HX.out,←HY.out]
      intro h
      injection h with h
      rw [h] at HEQ
      have:=HEQ.out
      simp at this))
     go_wp2
     go_ret
     rw [HD.out]
     exact ⟨rfl,HB1.out⟩
    | false =>
     have HK:=Lib.hid (show ∀ j,j < k+1→l[j]? = l[0]? from fun j hj=>by
      rcases (by omega:j < k∨j=k) with h | rfl
      ·exact HSM.out j h
      ·rw [List.getElem?_eq_getElem hkl,List.getElem?_eq_getElem h0l,←HX.out,←HY.out]
       have:=HEQ.out
       simp at this
       rw [this])
     go_wp2
     go_roundw
     case rel=>exact ⟨k+1,hkl,by go_num,HK.out,HB1.out⟩
     case measure=>simp [intOf];omega
  ·obtain rfl:k=n:=by omega
   have HD:=Lib.hid (zrk (l:=l) (fun j hj=>HSM.out j (by have:=HN.out;omega)))
   go_wp2
   go_ret
   rw [HD.out]
   exact ⟨rfl,HB.out⟩
def zb7 (down:Bool) (d:Nat × Bool):Bool:=d.1 != 0 && d.2 != down
theorem zuT (d:Nat × Bool) (b:Nat) (down:Bool) (w:World) (hr:Row w b 4 [.bool down]) :
  Calls Tryz.prog 179 #[dv d,.pointer (some ⟨b,0,none⟩)] w fun e w'=>e=.returned (.bool (zb7 down d))∧Below w.heap.size w w':=by
 obtain ⟨U,f⟩:=d
 have hc:=(hr.alloc (.cells #[.int .u64 (U:Int),.bool f] 167)).cell 0
 have hc2:(w.alloc (.cells #[.int .u64 (U:Int),.bool f] 167)).cell? ⟨b,0,none⟩=some (.bool down):=hc
 clear hc
 unfold dv dc zb7
 dsimp only
 by_cases h0:U=0
 ·subst h0
  go_enter Tryz.func179,Tryz.ntmps179
  go_wp2
  go_ret
  exact ⟨rfl,(Below.refl _ _).alloc (Nat.le_refl _) _⟩
 ·have h1:((U:Int) != 0)=true:=by simp;omega
  have h2:(U != 0)=true:=by simpa using h0
  rw [h2]
  go_enter Tryz.func179,Tryz.ntmps179
  go_wp2
  go_ret
  exact ⟨by cases f <;> cases down <;> rfl,(Below.refl _ _).alloc (Nat.le_refl _) _⟩
def zus (l:List (Nat × Bool)) (p:Nat × Bool→Bool) (w:World) (i:Value) (wr:World):Prop:=∃ k:Nat,k≤l.length∧i=.int .i64 (k:Int)∧(l.take k).any p=false∧Below w.heap.size w wr
theorem zrl (l:List (Nat × Bool)) (v:Value) (b:Nat) (down:Bool) (w:World) (hv:IsR dc l v w) (hr:Row w b 4 [.bool down]) (hb:l.length≤1000000) :
  Calls Tryz.prog 204 #[v,.func (.func 179) #[] #[.pointer (some ⟨b,0,none⟩)]] w
   fun e w'=>(∃ r:Int,e=.returned (.int .i64 r)∧decide (0≤r)=l.any (zb7 down))∧Below w.heap.size w w':=by
 obtain ⟨A,n,c,rfl⟩:=hv.shape
 have HN:=Lib.hid hv.parts.1
 have HV:=Lib.hid hv
 have HR:=Lib.hid hr
 have hn6:n≤1000000:=by have:=HN.out;omega
 have HS:=Lib.hid (show zus l (zb7 down) w (.int .i64 0) w from ⟨0,Nat.zero_le _,rfl,rfl,Below.refl _ _⟩)
 clear hv hb hr
 go_enter Tryz.func204,Tryz.ntmps204
 go_wp2
 go_loopw [8] (zus l (zb7 down) w) (fun i _=>n - (intOf i).toNat)
 case atStart=>exact HS.out
 case round =>
  obtain ⟨k,hk,rfl,hs,hbw⟩:=hrel
  have HSM:=Lib.hid hs
  have HB:=Lib.hid hbw
  have hkn:k≤n:=by have:=HN.out;omega
  clear hs hk
  by_cases hlt:k < n
  ·have hkl:k < l.length:=by have:=HN.out;omega
   have hlti:(k:Int) < (n:Int):=by omega
   obtain ⟨ad,rfl,had,hcell⟩:=(HV.out.below hbw).at (m:=2) zdl (by omega) hkl
   obtain ⟨x,hx⟩:∃ x,x=l[k]:=⟨_,rfl⟩
   rw [←hx] at hcell
   have k0:=zhF hcell
   have HX:=Lib.hid hx
   have HL:=Lib.hid (zuT x b down wr (HR.out.below hbw HR.out.lt))
   have HSN:=Lib.hid (show (l.take (k+1)).any (zb7 down)=zb7 down x by rw [List.take_succ_eq_append_getElem hkl,List.any_append,HSM.out,hx];simp)
   have HAL:=Lib.hid (show zb7 down x=true→l.any (zb7 down)=true from fun h=>List.any_eq_true.2 ⟨x,by rw [hx];exact List.getElem_mem hkl,h⟩)
   obtain ⟨xu,xf⟩:=x
   dsimp only at k0
   obtain ⟨k1,k2⟩:=k0
   clear hcell hx hbw
   generalize hq:zb7 down (xu,xf)=q at HL HSN HAL
   clear hq
   unfold dv dc at HL
   dsimp only at HL
   cases q with
   | true =>
    have HA:=Lib.hid (HAL.out rfl)
    go_wp2_with (go_at_call 179;refine HL.out.mono ?_;rintro e w1 ⟨rfl,hb1⟩)
    go_ret
    exact ⟨⟨_,rfl,by rw [HA.out];exact decide_eq_true (by omega)⟩,za HB.out hb1⟩
   | false =>
    go_wp2_with (go_at_call 179;refine HL.out.mono ?_;rintro e w1 ⟨rfl,hb1⟩)
    go_roundw
    case rel=>exact ⟨k+1,hkl,by go_num,HSN.out,za HB.out hb1⟩
    case measure=>simp [intOf];omega
  ·obtain rfl:k=n:=by omega
   have HA:=Lib.hid HSM.out
   rw [List.take_of_length_le (by have:=HN.out;omega)] at HA
   go_wp2
   go_ret
   exact ⟨⟨_,rfl,by rw [HA.out];rfl⟩,HB.out⟩
theorem zkU (l:List (Nat × Bool)) (v:Value) (b:Nat) (down:Bool) (w:World) (hv:IsR dc l v w) (hr:Row w b 4 [.bool down]) (hb:l.length≤1000000) :
  Calls Tryz.prog 178 #[v,.func (.func 179) #[] #[.pointer (some ⟨b,0,none⟩)]] w
   fun e w'=>e=.returned (.bool (l.any (zb7 down)))∧Below w.heap.size w w':=by
 have HI:=Lib.hid (zrl l v b down w hv hr hb)
 clear hv hr hb
 go_enter Tryz.func178,Tryz.ntmps178
 go_wp2_with fail
 refine HI.out.mono ?_
 rintro e w1 ⟨⟨r,rfl,hr⟩,hb1⟩
 go_wp2
 go_ret
 exact ⟨rfl,hb1⟩
def dway (l:List (Nat × Bool)):Bool:=!(l.any (zb7 (l.headD (0,false)).2))
theorem zrm (l:List (Nat × Bool)) (v:Value) (w:World) (hv:IsR dc l v w) (h1:1≤l.length) (hb:l.length≤1000000) :
  Calls Tryz.prog 149 #[v] w fun e w'=>e=.returned (.bool (dway l))∧Below w.heap.size w w':=by
 obtain ⟨A,n,c,rfl⟩:=hv.shape
 have HN:=Lib.hid hv.parts.1
 have h0i:(0:Int) < (n:Int):=by have:=HN.out;omega
 obtain ⟨ad,rfl,had,hcell⟩:=hv.at (m:=2) zdl (by omega) (k:=0) h1
 have k0:=zhF hcell
 rw [Nat.zero_mul] at k0
 have k2:=k0.2
 have ha0:ad.add 0=ad:=by simp [Addr.add]
 rw [ha0] at k2
 obtain ⟨down,hd⟩:∃ down,down=l[0].2:=⟨_,rfl⟩
 rw [←hd] at k2
 have HW:=Lib.hid (show dway l = !(l.any (zb7 down)) by
  unfold dway
  rw [hd]
  cases l with
  | nil=>simp at h1
  | cons a t=>rfl)
 have HB:=Lib.hid ((Below.refl w.heap.size w).alloc (Nat.le_refl _) (.cells #[.bool down] 4))
 have HC:=Lib.hid (zkU l (.slice (some ad) n c) w.heap.size down (w.alloc (.cells #[.bool down] 4)) (hv.below ((Below.refl _ _).alloc (Nat.le_refl _) _)) (heap_alloc_new w _) hb)
 generalize l.any (zb7 down)=q at HW HC
 clear hv h1 hb hcell k0 hd
 go_enter Tryz.func149,Tryz.ntmps149
 go_wp2_with (go_at_call 178;refine HC.out.mono ?_;rintro e w1 ⟨rfl,hb1⟩)
 go_ret
 rw [HW.out]
 exact ⟨rfl,HB.out.trans (hb1.mono HB.out.size)⟩
def zl (l:List Int) (k:Nat):List (Nat × Bool):=(List.range k).map fun i=>zep (zH l i)
theorem zK (l:List Int) (k:Nat):(zl l k).length=k:=by unfold zl;rw [List.length_map,List.length_range]
theorem zmL (l:List Int) (k:Nat):zl l (k+1)=zl l k ++ [zep (zH l k)]:=by unfold zl;rw [List.range_succ,List.map_append];rfl
theorem zc7 (l:List (Nat × Bool)):(l.flatMap dc).length=l.length*2:=zcE zdl l
def zvT (l:List Int) (w:World) (e:Ending) (w':World):Prop:=
 ((∀ i,i+1 < l.length→(zH l i).2.2=true)∧∃ v,e=.returned (.tuple #[v,.bool true])∧IsR dc (zl l (l.length - 1)) v w'∧Below w.heap.size w w') ∨
 ((∃ i,i+1 < l.length∧(zH l i).2.2=false)∧e=.returned (.tuple #[.slice none 0 0,.bool false])∧Below w.heap.size w w')
def zvA (l:List Int) (g m:Nat) (w:World) (i:Value) (wr:World):Prop:=∃ (k:Nat) (rest:List Value),k≤m∧i=.int .i64 (k:Int)∧(∀ j,j < k→(zH l j).2.2=true) ∧
 rest.length=(m - k)*2∧Row wr g 167 ((zl l k).flatMap dc ++ rest)∧Below w.heap.size w wr
theorem zrn (l:List Int) (v:Value) (w:World) (hv:IsV iv l v w) (hl:∀ x∈l,inInt x) (h2:2≤l.length) (hb:l.length≤1000000) :
  Calls Tryz.prog 148 #[v] w (zvT l w):=by
 obtain ⟨A,n,c,rfl⟩:=hv.shape
 have HN:=Lib.hid hv.len
 have HV:=Lib.hid hv
 have HL:=Lib.hid hl
 obtain ⟨m,hm⟩:∃ m,n=m+1:=⟨n - 1,by have:=HN.out;omega⟩
 subst hm
 have hm6:m≤1000000:=by have:=HN.out;omega
 have hmi:IntKind.i64.wrap (((m+1:Nat):Int) - 1)=(m:Int):=by rw [IntKind.wrap_i64];omega
 clear hv h2 hb hl
 go_enter Tryz.func148,Tryz.ntmps148
 go_wp2_with (refine zcL elemD (dc (0,false)) rfl rfl _ _ rfl _ _ _ _ m w w.heap.size rfl rfl rfl rfl (by omega) (by omega) (Below.refl _ _) (Nat.le_refl _) ?_)
 intro w1 hr1 hb1
 have HS:=Lib.hid (show zvA l w.heap.size m w (.int .i64 0) w1 from ⟨0,(List.replicate m (dc (0,false))).flatten,Nat.zero_le _,rfl,fun j hj=>by omega,by rw [←zb6 (f:=dc) m (0,false),zc7,List.length_replicate,Nat.sub_zero],hr1,hb1⟩)
 clear hr1 hb1
 go_wp2
 go_loopw [14] (zvA l w.heap.size m w) (fun i _=>m - (intOf i).toNat)
 case atStart=>exact HS.out
 case round =>
  obtain ⟨k,rest,hk,rfl,hok,hrl,hrow,hbw⟩:=hrel
  have HB:=Lib.hid hbw
  have HOK:=Lib.hid hok
  have HRL:=Lib.hid hrl
  have HROW:=Lib.hid hrow
  have hgw:=hrow.lt
  clear hok hrl hrow
  by_cases hlt:k < m
  ·have hkl:k < l.length:=by have:=HN.out;omega
   have hkl1:k+1 < l.length:=by have:=HN.out;omega
   have hlti:(k:Int) < (m:Int):=by omega
   obtain ⟨ad,hA,had,hc0⟩:=(HV.out.below hbw).at hkl
   obtain ⟨ad',hA',had',hc1⟩:=(HV.out.below hbw).at hkl1
   subst hA
   injection hA' with hA'
   subst hA'
   obtain ⟨a,ha⟩:∃ a,a=l[k]:=⟨_,rfl⟩
   obtain ⟨b,hb⟩:∃ b,b=l[k+1]:=⟨_,rfl⟩
   have hai:inInt a:=by rw [ha];exact HL.out _ (List.getElem_mem hkl)
   have hbi:inInt b:=by rw [hb];exact HL.out _ (List.getElem_mem hkl1)
   have hdf:zH l k=zC a b:=by
    unfold zH
    rw [List.getD_eq_getElem?_getD,List.getD_eq_getElem?_getD,List.getElem?_eq_getElem hkl,List.getElem?_eq_getElem hkl1,ha,hb]
    rfl
   have HC0:=Lib.hid hc0
   have HC1:=Lib.hid hc1
   rw [←ha] at HC0
   rw [←hb] at HC1
   have HD:=Lib.hid hdf
   have HBT:=Lib.hid (fun W=>zc6 a b W hai hbi)
   rw [←hdf] at HBT
   obtain ⟨x,ok,hx⟩:∃ x ok,x=zep (zH l k)∧ok=(zH l k).2.2:=⟨_,_,rfl,rfl⟩
   unfold zrf at HBT
   rw [←hx.1,←hx.2] at HBT
   have HX:=Lib.hid hx
   clear hx hdf hc0 hc1 ha hb hai hbi
   go_wp2
   have hcc0:∀ W1,Below wr.heap.size wr W1→W1.cell? (ad.add k)=some (.int .i64 a):=fun W1 h=>by rw [h.cell (by rw [add_block];exact had),HC0.out];rfl
   have hcc1:∀ W1,Below wr.heap.size wr W1→W1.cell? (ad.add (k+1))=some (.int .i64 b):=fun W1 h=>by rw [h.cell (by rw [add_block];exact had),HC1.out];rfl
   refine zcn (ziR wr.heap.size 167 (dc x)) [.is (.slice (some ad) (m+1) c),.is (.int .i64 (k:Int)),.is (.pointer (some (ad.add k))),.is (.int .i64 a),.is (.slice (some ad) (m+1) c),.is (.int .i64 (k:Int)),.is (.int .i64 ((k:Int)+1)),.is (.pointer (some (ad.add (k+1)))),.is (.int .i64 b),
    .is (.tuple #[dv x,.bool ok]),.is (.tuple #[dv x,.bool ok]),.is (dv x),.is (.bool ok),.laid wr.heap.size 167 (dc x),.stored wr.heap.size 167 (dc x) 13,.is (.bool ok)]
    [some 18,some 19,some 20,some 21,some 22,some 23,some 24,some 25,some 26,some 27,some 17,some 28,some 29,some 6,none,some 7] (by kernel_rfl) (by kernel_rfl) (by kernel_rfl) (by kernel_rfl) rfl ⟨?_,?_,?_,?_,?_,?_,?_,?_,?_,?_,?_,?_,?_,?_,?_,?_,trivial⟩ ?_
   ·intro ρ vs W1 hb1 H
    exact zd rfl (H.old 0 _ (by kernel_rfl) rfl) ⟨zJ _ _ _,Keep.self _⟩
   ·intro ρ vs W1 hb1 H
    exact zd rfl (H.old 5 _ (by kernel_rfl) rfl) ⟨zJ _ _ _,Keep.self _⟩
   ·intro ρ vs W1 hb1 H
    exact zw zck rfl (H.holds 18 0 (by kernel_rfl)) (H.holds 19 1 (by kernel_rfl)) (by omega) ⟨zJ _ _ _,Keep.self _⟩
   ·intro ρ vs W1 hb1 H
    exact zf rfl (H.holds 20 2 (by kernel_rfl)) Tryz.underlying3 rfl (hcc0 W1 hb1.1) ⟨zJ _ _ _,Keep.self _⟩
   ·intro ρ vs W1 hb1 H
    exact zd rfl (H.old 0 _ (by kernel_rfl) rfl) ⟨zJ _ _ _,Keep.self _⟩
   ·intro ρ vs W1 hb1 H
    exact zd rfl (H.old 5 _ (by kernel_rfl) rfl) ⟨zJ _ _ _,Keep.self _⟩
   ·intro ρ vs W1 hb1 H
    exact zb4 rfl (H.holds 23 5 (by kernel_rfl)) (H.const _) (by omega) (by omega) ⟨zJ _ _ _,Keep.self _⟩
   ·intro ρ vs W1 hb1 H
    exact zw zck (k:=k+1) rfl (H.holds 22 4 (by kernel_rfl)) (H.holds 24 6 (by kernel_rfl)) (by omega) ⟨zJ _ _ _,Keep.self _⟩
   ·intro ρ vs W1 hb1 H
    exact zf rfl (H.holds 25 7 (by kernel_rfl)) Tryz.underlying3 rfl (hcc1 W1 hb1.1) ⟨zJ _ _ _,Keep.self _⟩
   ·intro ρ vs W1 hb1 H
    have e0:ρ (.tmp 21)=.int .i64 a:=H.holds 21 3 (by kernel_rfl)
    have e1:ρ (.tmp 26)=.int .i64 b:=H.holds 26 8 (by kernel_rfl)
    refine zj rfl (fun _ _=>by kernel_rfl) (H.func _) (args:=#[.int .i64 a,.int .i64 b]) (by simp [e0,e1]) ?_
    exact (HBT.out W1).mono fun e w' ⟨h1,h2⟩=>⟨_,h1,zJ _ _ _,Keep.of hb1.1.size h2⟩
   ·intro ρ vs W1 hb1 H
    exact zd rfl (H.holds 27 9 (by kernel_rfl)) ⟨zJ _ _ _,Keep.self _⟩
   ·intro ρ vs W1 hb1 H
    exact zi rfl (H.holds 17 10 (by kernel_rfl)) rfl ⟨zJ _ _ _,Keep.self _⟩
   ·intro ρ vs W1 hb1 H
    exact zi rfl (H.holds 17 10 (by kernel_rfl)) rfl ⟨zJ _ _ _,Keep.self _⟩
   ·intro ρ vs W1 hb1 H
    obtain ⟨i0,hi,hz0,hz1,hz2⟩:=info_parts Tryz.infoD
    exact zfb hi hz0 rfl ⟨⟨W1.heap.size,dc (0,false),zJ _ _ _,hb1.1.size,rfl,heap_alloc_new W1 _⟩,Keep.alloc hb1.1.size _⟩
   ·intro ρ vs W1 hb1 H
    obtain ⟨h,old,e1,e2,e3,e4⟩:=H.holds 6 13 (by kernel_rfl)
    have e5:vs 13=.pointer (some ⟨h,0,none⟩):=(H.new 6 13 (by kernel_rfl)).symm.trans e1
    exact zc3 (cs:=dc x) rfl e1 (H.holds 28 11 (by kernel_rfl)) e4 zre e3 (zn8 x) ⟨⟨h,(upd_ne _ _ (by decide)).trans e5,e2,zP e4⟩,Keep.store e2 e4⟩
   ·intro ρ vs W1 hb1 H
    exact ze rfl (H.holds 29 12 (by kernel_rfl)) ⟨zJ _ _ _,Keep.self _⟩
   ·intro vs W1 hb1 hfs
    obtain ⟨h,f13,hh,hrw⟩:∃ h,vs 13=.pointer (some ⟨h,0,none⟩)∧wr.heap.size≤h∧Row W1 h 167 (dc x):=hfs 14 (by decide)
    have f15:vs 15=.bool ok:=hfs 15 (by decide)
    clear hfs
    simp only [zr,Nat.zero_add,Nat.reduceAdd]
    generalize vs 0=z0
    generalize vs 1=z1
    generalize vs 2=z2
    generalize vs 3=z3
    generalize vs 4=z4
    generalize vs 5=z5
    generalize vs 6=z6
    generalize vs 7=z7
    generalize vs 8=z8
    generalize vs 9=z9
    generalize vs 10=z10
    generalize vs 11=z11
    generalize vs 12=z12
    generalize vs 14=z14
    simp only [f13,f15,Act.put,List.setIfInBounds_toArray,List.set_cons_succ,List.set_cons_zero]
    have HB1:=Lib.hid (HB.out.trans (hb1.1.mono HB.out.size))
    have HROW1:=Lib.hid (HROW.out.below hb1.1 hgw)
    have hne:¬h=w.heap.size:=by omega
    clear f13 f15 hb1 hcc0 hcc1
    cases ok with
    | false =>
     go_wp2
     go_ret2
     exact .inr ⟨⟨k,hkl1,by rw [←HX.out.2]⟩,rfl,HB1.out⟩
    | true =>
     obtain ⟨xu,xf⟩:=x
     have hk1:W1.cell? ⟨h,0,none⟩=some (.int .u64 (xu:Int)):=hrw.cell 0
     have hk2:W1.cell? ⟨h,1,none⟩=some (.bool xf):=hrw.cell 1
     have HFIT:=Lib.hid (show k*2+(dc (xu,xf)).length≤((zl l k).flatMap dc ++ rest).length by
      rw [List.length_append,zc7,zK,HRL.out,zdl];omega)
     have HNEW:=Lib.hid (show ((zl l k).flatMap dc ++ rest).take (k*2) ++ dc (xu,xf) ++ ((zl l k).flatMap dc ++ rest).drop (k*2+(dc (xu,xf)).length)=(zl l (k+1)).flatMap dc ++ rest.drop 2 by
      have hl1:((zl l k).flatMap dc).length=k*2:=by rw [zc7,zK]
      rw [List.take_append_of_le_length (by omega),List.take_of_length_le (by omega),List.drop_append,hl1,List.drop_of_length_le (by rw [hl1];exact Nat.le_add_right _ _),zmL,←HX.out.1,List.flatMap_append,List.flatMap_singleton,zdl,
       show k*2+2 - k*2=2 by omega,List.nil_append])
     go_wp2_with (refine zbY rfl 167 _ _ rfl w.heap.size (k*2) 167 ((zl l k).flatMap dc ++ rest) (dc (xu,xf)) _ HNEW.out rfl rfl HROW1.out zre HFIT.out (zn8 _) w w.heap.size HB1.out (Nat.le_refl _) ?_)
     intro w3 hr3 hb3 _
     have HR3:=Lib.hid hr3
     have HB3:=Lib.hid hb3
     clear hr3 hb3
     go_wp2
     go_roundw
     case rel=>exact ⟨k+1,rest.drop 2,hlt,by go_num,fun j hj=>by
      rcases (by omega:j < k∨j=k) with h | rfl
      ·exact HOK.out j h
      ·exact HX.out.2.symm,by rw [List.length_drop,HRL.out];omega,HR3.out,HB3.out⟩
     case measure=>simp [intOf];omega
  ·obtain rfl:k=m:=by omega
   obtain rfl:rest=[]:=List.eq_nil_of_length_eq_zero (by rw [HRL.out];omega)
   go_wp2
   go_ret2
   refine .inl ⟨fun i hi=>HOK.out i (by have:=HN.out;omega),_,rfl,?_,HB.out⟩
   have hr:=HROW.out
   rw [List.append_nil] at hr
   rw [show l.length - 1=k by have:=HN.out;omega]
   exact zf6 hr (zK l k) (by omega)
end Go.Proofs.YtlibofmpnlfelaaGreatDoor
namespace Go.Proofs
open Go.Shelf
def Tryz.lays212_ren:Go.Shelf.Ren:=⟨fun | 212=>169 | 263=>198 | 264=>199 | n=>n,fun | 46=>91 | 51=>206 | 53=>119 | 146=>207 | 148=>209 | n=>n,fun | n=>n⟩
theorem Tryz.lays212:Go.Proofs.Lays.n212 Tryz.prog Tryz.lays212_ren:={
 mixed:=by kernel_rfl
 f212:=Tryz.func169.trans (congrArg some (by kernel_rfl))
 f263:=Tryz.func198.trans (congrArg some (by kernel_rfl))
 f264:=Tryz.func199.trans (congrArg some (by kernel_rfl))
 t46:=Tryz.underlying91
 a46:=Tryz.isAgg91
 z46:=Tryz.sizeOf91
 v46:=Tryz.zeroValue91
 t51:=Tryz.underlying206
 a51:=Tryz.isAgg206
 z51:=Tryz.sizeOf206
 v51:=Tryz.zeroValue206
 t53:=Tryz.underlying119
 a53:=Tryz.isAgg119
 z53:=Tryz.sizeOf119
 v53:=Tryz.zeroValue119
 t146:=Tryz.underlying207
 a146:=Tryz.isAgg207
 z146:=Tryz.sizeOf207
 v146:=Tryz.zeroValue207
 t148:=Tryz.underlying209
 a148:=Tryz.isAgg209
 z148:=Tryz.sizeOf209
 v148:=Tryz.zeroValue209 }
theorem Tryz.bits_Mul (x y:Nat) (hx:x < 18446744073709551616) (hy:y < 18446744073709551616) (w:World) :
  Calls Tryz.prog 169 #[.int .u64 x,.int .u64 y] w fun e w'=>e=.returned (.tuple #[.int .u64 ((x*y / 18446744073709551616:Nat):Int),.int .u64 ((x*y % 18446744073709551616:Nat):Int)])∧w'=w:=Any.bits_Mul Tryz.lays212 x y hx hy w
end Go.Proofs
namespace Go.Proofs.YtlibofmpnlfelaaGreatDoor
open Go.RowKit
def reps (k:Nat) (d:Nat × Bool):List Value:=(List.replicate k d).flatMap dc
theorem zcc (k:Nat) (d:Nat × Bool):(reps k d).length=k*2:=by unfold reps;rw [zc7,List.length_replicate]
theorem zgY (k j:Nat) (d:Nat × Bool):reps (k+j) d=reps k d ++ reps j d:=by unfold reps;rw [←List.flatMap_append,List.replicate_append_replicate]
theorem zn9 (k:Nat) (d:Nat × Bool):∀ u∈reps k d,u.oneCell'=true:=zuS _
theorem zhJ {k j:Nat} (d:Nat × Bool) (h:j≤k) (r:List Value):(reps k d ++ r).take (j*2)=reps j d:=by
 obtain ⟨i,rfl⟩:∃ i,k=j+i:=⟨k - j,by omega⟩
 rw [zgY,List.append_assoc,List.take_append_of_le_length (by rw [zcc];exact Nat.le_refl _),List.take_of_length_le (by rw [zcc];exact Nat.le_refl _)]
theorem zhK {k j i e:Nat} (d:Nat × Bool) (r:List Value) (hk:k≤i) (_hj:j≤i) (he:i*2+e=k*2+j*2) :
  (reps i d ++ r).take (k*2) ++ reps j d ++ (reps i d ++ r).drop (k*2+(reps j d).length)=reps (k+j) d ++ r.drop e:=by
 rw [zhJ d hk r,←zgY,zcc,List.drop_append,zcc,List.drop_of_length_le (by rw [zcc];omega),List.nil_append,show k*2+j*2 - i*2=e by omega]
theorem zhL {w:World} {g:Nat} {t:TypeId} {cs:List Value} (h:Row w g t cs):∀ j v,cs[j]? = some v→w.cell? ((⟨g,0,none⟩:Addr).add j)=some v:=by
 intro j v hj
 have h1:=h.cell j
 rw [hj] at h1
 rw [←h1]
 congr 1
 unfold Addr.add
 split <;> simp_all
def zuU (d:Nat × Bool) (g m:Nat) (w:World) (n:Value) (wr:World):Prop:=∃ (k:Nat) (rest:List Value),1≤k∧k≤m∧n=.int .i64 (k:Int)∧rest.length=(m - k)*2∧Row wr g 167 (reps k d ++ rest)∧Below w.heap.size w wr
theorem zpg {w:World} {g k m:Nat} (h:k < m):(Instr.sliceAt 160 (.slice (some ⟨g,0,none⟩) m m) (some (.int .i64 (k:Int))) none none).run Tryz.prog w=.ok (.slice (some ⟨g,k*2,none⟩) (m - k) (m - k)) w:=by
 have ht:=elemD.under
 have he:Tryz.prog.elem 160=167:=by simp [Program.elem,ht]
 rw [run_sliceAt_slice w _ _ _ _ _ (by rw [he];exact ht),run_slice_l w _ _ m m (by rw [he];exact ht) .i64 (k:Int) (by omega) (by omega),he,elemD.size_]
 have hne:¬m=k:=by omega
 simp [sliced,Addr.add,hne]
 intro h;omega
theorem zph {w:World} {g k m:Nat} (h:k≤m):(Instr.sliceAt 160 (.slice (some ⟨g,0,none⟩) m m) none (some (.int .i64 (k:Int))) none).run Tryz.prog w=.ok (.slice (some ⟨g,0,none⟩) k m) w:=by
 have ht:=elemD.under
 have he:Tryz.prog.elem 160=167:=by simp [Program.elem,ht]
 rw [run_sliceAt_slice w _ _ _ _ _ (by rw [he];exact ht),run_slice_h w _ _ m m (by rw [he];exact ht) .i64 (k:Int) (by omega) (by omega),he,elemD.size_]
 simp [sliced,Addr.add]
theorem ziU (d:Nat × Bool) (g1 c m:Nat) (w:World) (hr:Row w g1 167 (dc d)) (h1:1≤m) (hm:m≤1000) :
  Calls Tryz.prog 183 #[.slice (some ⟨g1,0,none⟩) 1 c,.int .i64 (m:Int)] w
   fun e w'=>∃ g,e=.returned (.slice (some ⟨g,0,none⟩) m m)∧w.heap.size≤g∧Row w' g 167 (reps m d)∧Below w.heap.size w w':=by
 have HM:=Lib.hid (Tryz.bits_Mul 1 m (by omega) (by omega) w)
 rw [Nat.one_mul,Nat.div_eq_of_lt (by omega),Nat.mod_eq_of_lt (by omega)] at HM
 have HR:=Lib.hid hr
 have hmi:IntKind.u64.wrap (m:Int)=(m:Int):=by rw [IntKind.wrap_u64];omega
 have hmj:IntKind.i64.wrap (m:Int)=(m:Int):=by rw [IntKind.wrap_i64];omega
 have hm1:1≤m:=h1
 have hc1:decide ((9223372036854775807:Int) < (m:Int))=false:=decide_eq_false (by omega)
 go_enter Tryz.func183,Tryz.ntmps183
 go_wp2_with (first | (go_at_call 169;refine HM.out.mono ?_;rintro e w' ⟨rfl,hw'⟩;rw [hw']) | (refine zcL elemD (dc (0,false)) rfl rfl _ _ rfl _ _ _ _ m w w.heap.size rfl rfl rfl rfl (by omega) (by omega) (Below.refl _ _) (Nat.le_refl _) ?_))
 intro w2 hr2 hb2
 have HR2:=Lib.hid (HR.out.below hb2 HR.out.lt)
 have HNEW:=Lib.hid (show ((List.replicate m (dc (0,false))).flatten).take 0 ++ dc d ++ ((List.replicate m (dc (0,false))).flatten).drop (0+(dc d).length)=reps 1 d ++ ((List.replicate m (dc (0,false))).flatten).drop 2 by
  rw [List.take_zero,List.nil_append,Nat.zero_add,zdl];rfl)
 have hlen:((List.replicate m (dc (0,false))).flatten).length=m*2:=by rw [←zb6 (f:=dc) m (0,false),zc7,List.length_replicate]
 have HLEN:=Lib.hid hlen
 clear hlen hr h1
 go_wp2_with (refine zgy elemD rfl _ _ rfl w.heap.size 0 m m ⟨g1,0,none⟩ 1 c _ (dc d) _ HNEW.out 1 w.heap.size w rfl rfl hr2 (Nat.min_eq_left (by omega)) rfl (zhL HR2.out) (zn8 d) (by rw [HLEN.out,zdl];omega) hb2 (Nat.le_refl _) ?_)
 intro w3 hr3 hb3
 have HS:=Lib.hid (show zuU d w.heap.size m w (.int .i64 1) w3 from ⟨1,_,Nat.le_refl _,by omega,rfl,by rw [List.length_drop,HLEN.out];omega,hr3,hb3⟩)
 clear hr2 hb2 hr3 hb3
 go_wp2
 go_loopw [8] (zuU d w.heap.size m w) (fun i _=>m - (intOf i).toNat)
 case atStart=>exact HS.out
 case round =>
  obtain ⟨k,rest,hk1,hkm,rfl,hrl,hrow,hbw⟩:=hrel
  have HRL:=Lib.hid hrl
  have HROW:=Lib.hid hrow
  have HB:=Lib.hid hbw
  clear hrl hrow hbw
  by_cases hlt:k < m
  ·have hlti:(k:Int) < (m:Int):=by omega
   obtain ⟨j,hj⟩:∃ j,j=min k (m - k):=⟨_,rfl⟩
   have hj1:1≤j:=by omega
   have hjk:j≤k:=by omega
   have hjm:k+j≤m:=by omega
   have HJ:=Lib.hid hj
   clear hj
   obtain ⟨cur,hcur⟩:∃ cur,cur=reps k d ++ rest:=⟨_,rfl⟩
   obtain ⟨new,hnew⟩:∃ new,new=reps (k+j) d ++ rest.drop (j*2):=⟨_,rfl⟩
   rw [←hcur] at HROW
   have HSC:=Lib.hid (show cur.take (k*2) ++ reps j d ++ cur.drop (k*2+(reps j d).length)=new by rw [hcur,hnew];exact zhK d rest (Nat.le_refl _) hjk rfl)
   have HSN:=Lib.hid (show new.take (k*2) ++ reps j d ++ new.drop (k*2+(reps j d).length)=new by
    rw [hnew,zhK (e:=0) d (rest.drop (j*2)) (by omega) (by omega) (by omega),List.drop_zero])
   have HTC:=Lib.hid (show cur.take (j*2)=reps j d by rw [hcur,zhJ d hjk])
   have HTN:=Lib.hid (show new.take (j*2)=reps j d by rw [hnew,zhJ d (by omega)])
   have HLC:=Lib.hid (show cur.length=m*2 by rw [hcur,List.length_append,zcc,HRL.out];omega)
   have HLN:=Lib.hid (show new.length=m*2 by rw [hnew,List.length_append,zcc,List.length_drop,HRL.out];omega)
   have HNEW2:=Lib.hid hnew
   clear hcur hnew
   go_wp2
   refine zcn (zF w.heap.size w.heap.size 167 cur new) [.is (.int .i64 (k:Int)),.is (.slice (some ⟨w.heap.size,0,none⟩) m m),.is (.int .i64 (k:Int)),.is (.slice (some ⟨w.heap.size,k*2,none⟩) (m - k) (m - k)),.is (.slice (some ⟨w.heap.size,0,none⟩) m m),.is (.int .i64 (k:Int)),.is (.slice (some ⟨w.heap.size,0,none⟩) k m),
    .of (fun v W=>v=.int .i64 (j:Int)∧Row W w.heap.size 167 new) (fun v W W' h hk=>⟨h.1,hk.2.2 h.2⟩),.is (.int .i64 ((k:Int)+(j:Int))),.is (.int .i64 ((k:Int)+(j:Int)))]
    [some 38,some 39,some 40,some 41,some 42,some 43,some 44,some 45,some 46,some 8] (by kernel_rfl) (by kernel_rfl) (by kernel_rfl) (by kernel_rfl) rfl ⟨?_,?_,?_,?_,?_,?_,?_,?_,?_,?_,trivial⟩ ?_
   ·intro ρ vs W1 hb1 H
    exact zd rfl (H.old 8 _ (by kernel_rfl) rfl) ⟨zJ _ _ _,(zF _ _ _ _ _).refl _⟩
   ·intro ρ vs W1 hb1 H
    exact zd rfl (H.old 7 _ (by kernel_rfl) rfl) ⟨zJ _ _ _,(zF _ _ _ _ _).refl _⟩
   ·intro ρ vs W1 hb1 H
    exact zd rfl (H.old 8 _ (by kernel_rfl) rfl) ⟨zJ _ _ _,(zF _ _ _ _ _).refl _⟩
   ·intro ρ vs W1 hb1 H
    have e1:ρ (.tmp 40)=.int .i64 (k:Int):=H.holds 40 2 (by kernel_rfl)
    exact zI rfl (H.holds 39 1 (by kernel_rfl)) (by simp only [Option.map_some];rw [e1]) rfl rfl (zpg hlt) ⟨zJ _ _ _,(zF _ _ _ _ _).refl _⟩
   ·intro ρ vs W1 hb1 H
    exact zd rfl (H.old 7 _ (by kernel_rfl) rfl) ⟨zJ _ _ _,(zF _ _ _ _ _).refl _⟩
   ·intro ρ vs W1 hb1 H
    exact zd rfl (H.old 8 _ (by kernel_rfl) rfl) ⟨zJ _ _ _,(zF _ _ _ _ _).refl _⟩
   ·intro ρ vs W1 hb1 H
    have e1:ρ (.tmp 43)=.int .i64 (k:Int):=H.holds 43 5 (by kernel_rfl)
    exact zI rfl (H.holds 42 4 (by kernel_rfl)) rfl (by simp only [Option.map_some];rw [e1]) rfl (zph hkm) ⟨zJ _ _ _,(zF _ _ _ _ _).refl _⟩
   ·intro ρ vs W1 hb1 H
    have hsrc:∀ (l:List Value),l.take (j*2)=reps j d→Row W1 w.heap.size 167 l→∀ i v,(reps j d)[i]? = some v→W1.cell? ((⟨w.heap.size,0,none⟩:Addr).add i)=some v:=by
     intro l hl hr i v hi
     refine zhL hr i v ?_
     rw [←hl,List.getElem?_take] at hi
     split at hi
     ·exact hi
     ·cases hi
    have hto:∀ (l:List Value),Row W1 w.heap.size 167 l→Turn w.heap.size w.heap.size 167 cur new W1 (W1.setRow w.heap.size new.toArray):=fun l hr =>
     ⟨below_setRow (Below.refl _ _) (Nat.le_refl _) _,fun _=>.inr (zP hr),fun _=>zP hr⟩
    rcases hb1.2.1 HROW.out with h | h
    ·refine zdZ elemD rfl (H.holds 41 3 (by kernel_rfl)) (H.holds 44 6 (by kernel_rfl)) h (k:=j) HJ.out.symm (zcc j d) (hsrc cur HTC.out h) (zn9 j d) (by rw [HLC.out,zcc];omega) ?_
     rw [HSC.out]
     exact ⟨⟨zJ _ _ _,zP h⟩,hto _ h⟩
    ·refine zdZ elemD rfl (H.holds 41 3 (by kernel_rfl)) (H.holds 44 6 (by kernel_rfl)) h (k:=j) HJ.out.symm (zcc j d) (hsrc new HTN.out h) (zn9 j d) (by rw [HLN.out,zcc];omega) ?_
     rw [HSN.out]
     exact ⟨⟨zJ _ _ _,zP h⟩,hto _ h⟩
   ·intro ρ vs W1 hb1 H
    have e1:ρ (.tmp 45)=.int .i64 (j:Int):=(H.holds 45 7 (by kernel_rfl)).1
    exact zb4 rfl (H.holds 38 0 (by kernel_rfl)) e1 (by omega) (by omega) ⟨zJ _ _ _,(zF _ _ _ _ _).refl _⟩
   ·intro ρ vs W1 hb1 H
    exact ze rfl (H.holds 46 8 (by kernel_rfl)) ⟨zJ _ _ _,(zF _ _ _ _ _).refl _⟩
   ·intro vs W1 hb1 hfs
    have f7:Row W1 w.heap.size 167 new:=(hfs 7 (by decide)).2
    have f9:vs 9=.int .i64 ((k:Int)+(j:Int)):=hfs 9 (by decide)
    clear hfs
    simp only [zr,Nat.zero_add,Nat.reduceAdd]
    generalize vs 0=z0
    generalize vs 1=z1
    generalize vs 2=z2
    generalize vs 3=z3
    generalize vs 4=z4
    generalize vs 5=z5
    generalize vs 6=z6
    generalize vs 7=z7
    generalize vs 8=z8
    simp only [f9,Act.put,List.setIfInBounds_toArray,List.set_cons_succ,List.set_cons_zero]
    have HREL:=Lib.hid (show zuU d w.heap.size m w (.int .i64 ((k:Int)+(j:Int))) W1 from ⟨k+j,rest.drop (j*2),by omega,hjm,by congr 1,by rw [List.length_drop,HRL.out];omega,by rw [←HNEW2.out];exact f7,HB.out.trans hb1.1⟩)
    clear f7 f9 hb1
    go_wp2
    go_roundw
    case rel=>exact HREL.out
    case measure=>simp [intOf];omega
  ·obtain rfl:k=m:=by omega
   obtain rfl:rest=[]:=List.eq_nil_of_length_eq_zero (by rw [HRL.out];omega)
   have HR9:=HROW
   rw [List.append_nil] at HR9
   go_wp2
   go_ret
   exact ⟨_,rfl,Nat.le_refl _,HR9.out,HB.out⟩
def zA (l:List (Nat × Bool)):List Nat:=l.map (·.1)
theorem ztA:∀ n:Fin 65,max 2 (zh (n.val:Int))=zh ((max 2 n.val:Nat):Int):=by decide +kernel
theorem ztB (l:List (Nat × Bool)):omap (fun d:Nat × Bool=>some d.1) l=some (zA l):=by
 induction l with
 | nil=>rfl
 | cons x l ih=>unfold omap;rw [ih];rfl
def zuV (w:World) (c:Nat) (p:List UInt8) (e:Ending) (w':World):Prop:=∃ v,e=.returned (.tuple #[.int .i64 (c:Int),v,.int .i64 0])∧IsB p v w'∧Below w.heap.size w w'
theorem zro (l:List (Nat × Bool)) (v:Value) (w:World) (hv:IsR dc l v w) (hb:l.length≤1000000) (hs:zhH l=true):Calls Tryz.prog 150 #[v] w (zuV w 0 []):=by
 have HA:=Lib.hid (zhI l v w hv hb)
 rw [hs] at HA
 clear hv hb hs
 go_enter Tryz.func150,Tryz.ntmps150
 go_wp2_with fail
 refine HA.out.mono ?_
 rintro e w1 ⟨rfl,hb1⟩
 go_wp2
 go_ret3
 exact ⟨_,rfl,zcu _,hb1⟩
theorem zrp (l:List (Nat × Bool)) (v:Value) (w:World) (ht:WTab w) (hv:IsR dc l v w) (h1:1≤l.length) (hb:l.length≤511) (hs:zhH l=false) (hu:∀ d∈l,d.1 < 2 ^ 63) :
  Calls Tryz.prog 150 #[v] w (zuV w (zin (zA l.tail)) (zbx (zA l.tail) (zee (zA l.tail)))):=by
 have HA:=Lib.hid (zhI l v w hv (by omega))
 rw [hs] at HA
 obtain ⟨A,n,c,rfl⟩:=hv.shape
 have HN:=Lib.hid hv.parts.1
 have HV:=Lib.hid hv
 obtain ⟨m,hm⟩:∃ m,n=m+1:=⟨n - 1,by have:=HN.out;omega⟩
 subst hm
 have hm6:m≤510:=by have:=HN.out;omega
 have HT:=Lib.hid ht
 obtain ⟨q,hq⟩:∃ q,q=l.tail:=⟨_,rfl⟩
 have HQ:=Lib.hid (show l.drop 1=q by rw [hq,List.drop_one])
 have HQL:=Lib.hid (show q.length=m by rw [hq,List.length_tail];have:=HN.out;omega)
 have HU:=Lib.hid (show ∀ x∈zA q,x < 2 ^ 64 by
  intro x hx
  obtain ⟨d,hd,rfl⟩:=List.mem_map.1 hx
  have:=hu d (List.mem_of_mem_tail (hq ▸ hd))
  exact Nat.lt_trans this (by decide))
 rw [←hq]
 clear hs hu hb h1 hv ht hq
 obtain ⟨v2,hv2,hi2⟩:=zmK (P:=Tryz.prog) elemD zdl (k:=1) (by omega) HV.out
 rw [show ((1:Nat):Int)=1 from rfl] at hv2
 rw [HQ.out] at hi2
 obtain ⟨A2,n2,c2,rfl⟩:=hi2.shape
 have hn2:n2=m:=by have:=hi2.parts.1;have:=HQL.out;omega
 subst hn2
 have HI2:=Lib.hid hi2
 clear hi2
 have hmi:IntKind.i64.wrap (((n2+1:Nat):Int) - 1)=(n2:Int):=by rw [IntKind.wrap_i64];omega
 go_enter Tryz.func150,Tryz.ntmps150
 go_wp2_with fail
 refine HA.out.mono ?_
 rintro e w1 ⟨rfl,hb1⟩
 have HB1:=Lib.hid hb1
 clear hb1 HA
 go_wp2_with (refine zn elemU rfl _ _ rfl _ _ _ _ n2 w1 w1.heap.size rfl rfl rfl rfl (by omega) (by omega) (Below.refl _ _) (Nat.le_refl _) ?_)
 intro w2 hr2 hb2
 have HS:=Lib.hid (show zds (fun d:Nat × Bool=>some d.1) uv (uv 0) 119 q w1 (.int .i64 0) w2 from ⟨0,[],by omega,rfl,rfl,by rw [Nat.sub_zero,HQL.out];simpa [uv] using hr2,hb2⟩)
 clear hb2 hr2
 go_wp2_with (refine zbb rfl _ _ _ rfl _ (hv2 _) ?_)
 go_loopw [20] (zds (fun d:Nat × Bool=>some d.1) uv (uv 0) 119 q w1) (fun i _=>n2 - (intOf i).toNat)
 case atStart=>exact HS.out
 case round =>
  obtain ⟨k,acc,hk,rfl,hacc,hr,hbw⟩:=hrel
  have hz:=hbw.size
  have hal:acc.length=k:=by rw [zcb hacc,List.length_take];omega
  rw [HQL.out] at hr
  have HACC:=Lib.hid hacc
  have HAL:=Lib.hid hal
  have hk':k≤n2:=by have:=HQL.out;omega
  clear hacc hal hk
  by_cases hlt:k < n2
  ·have hkl:k < q.length:=by have:=HQL.out;omega
   have hlti:(k:Int) < (n2:Int):=by omega
   obtain ⟨ad,rfl,had,hcell⟩:=(HI2.out.below (HB1.out.trans (hbw.mono HB1.out.size))).at (m:=2) zdl (by omega) hkl
   obtain ⟨x,hx⟩:∃ x,x=q[k]:=⟨_,rfl⟩
   rw [←hx] at hcell
   have k0:=zhF hcell
   have HN2:=Lib.hid (zc0 (f:=fun d:Nat × Bool=>some d.1) hkl HACC.out (by rw [←hx]))
   obtain ⟨xu,xf⟩:=x
   dsimp only at k0 HN2
   obtain ⟨k1,k2⟩:=k0
   have hra:=hr.alloc (.cells #[.int .u64 (xu:Int),.bool xf] 167)
   have hfx:=hra.free k
   have hgr:=hr.lt
   have hcu:∃ u,(wr.alloc (.cells #[.int .u64 (xu:Int),.bool xf] 167)).cell? ⟨w1.heap.size,k,none⟩=some u:=by
    rw [hra.cell]
    exact ⟨_,List.getElem?_eq_getElem (by rw [List.length_append,List.length_map,List.length_replicate];have:=HAL.out;omega)⟩
   obtain ⟨u0,hcu⟩:=hcu
   have hset:=hr.set_ k (uv xu)
   rw [zc1 hlt HAL.out] at hset
   have hset:=hset.alloc (.cells #[.int .u64 (xu:Int),.bool xf] 167)
   have HSET:=Lib.hid hset
   have HB3:=Lib.hid ((hbw.setCell (p:=⟨w1.heap.size,k,none⟩) (Nat.le_refl _) (uv xu)).alloc (by rw [World.size_setCell];exact hbw.size) (.cells #[.int .u64 (xu:Int),.bool xf] 167))
   clear hset hr hra hbw hz hx hcell
   unfold uv at HB3 HSET
   go_wp2
   go_roundw
   case rel=>exact ⟨k+1,acc ++ [xu],hkl,by go_num,HN2.out,by rw [HQL.out];exact HSET.out,HB3.out⟩
   case measure=>simp [intOf];omega
  ·obtain rfl:k=n2:=by omega
   have he:acc=zA q:=by
    have h:=HACC.out
    rw [List.take_of_length_le (by rw [HQL.out];exact Nat.le_refl _),ztB] at h
    injection h with h
    exact h.symm
   subst he
   have hlen:(zA q).length=k:=by unfold zA;rw [List.length_map,HQL.out]
   obtain ⟨us,hus⟩:∃ us,us=zA q:=⟨_,rfl⟩
   rw [←hus] at hr hlen HU
   have HUS:=Lib.hid hus
   rw [Nat.sub_self,List.replicate_zero,List.append_nil] at hr
   have HI:=Lib.hid (zbN hr hlen (by omega))
   have hlies:=hr.lies 0
   rw [List.drop_zero] at hlies
   have HM:=Lib.hid (znL (some ⟨w1.heap.size,0,none⟩) k k us wr (fun h=>by cases h) hlen (Nat.le_refl _) (by omega) hlies HU.out)
   obtain ⟨g1,g2,_,g4,g5,g6,g7,g8⟩:=zc4 HU.out
   have hmx:max 2 (zh (zbW us:Int))=(zee us:Int):=by
    rw [←g1]
    have:=ztA ⟨zbW us,by have:=zeA HU.out;omega⟩
    exact this
   have HTW:=Lib.hid (HT.out.below (HB1.out.trans (hbw.mono HB1.out.size)) HT.out.lt)
   have HC:=Lib.hid (zdR (zbW us:Int) wr HTW.out)
   obtain ⟨C,hC⟩:∃ C,C=zh (zbW us:Int):=⟨_,rfl⟩
   rw [←hC] at HC hmx
   obtain ⟨M,hM⟩:∃ M,M=(zbW us:Int):=⟨_,rfl⟩
   rw [←hM] at HM HC
   have hmax:∀ (ts:Array TypeId) (t:TypeId) (W:World),(Builtin.max_ ts t #[.int .i64 2,.int .i64 C]).run Tryz.prog W=.ok (.int .i64 (zee us:Int)) W:=fun ts t W=>by
    rw [run_max_int2]
    congr 2
    rw [←hmx]
    split <;> omega
   obtain ⟨W,hW⟩:∃ W,W=zee us:=⟨_,rfl⟩
   have HPK:=Lib.hid (zmo (W:Int) (v:=.slice (some ⟨w1.heap.size,0,none⟩) k k) (w:=wr) HI.out (by omega) HU.out)
   rw [zcd _ _ (by omega),hW,zdU (ziS HU.out),←hW] at HPK
   rw [←hW] at hmax g2
   have HWW:=Lib.hid hW
   have HCD:=Lib.hid (fun w=>zfo (W:Int) w)
   rw [g2] at HCD
   have HB4:=Lib.hid (HB1.out.trans (hbw.mono HB1.out.size))
   clear hr hbw hlies hmx hC hM hW g1 g2 g4 g5 g6 g7 g8 hlen hus hz
   go_wp2_with (first | (go_at_call 138;refine HM.out.mono ?_;rintro e w' ⟨rfl,rfl⟩) | (go_at_call 137;refine HC.out.mono ?_;rintro e w' ⟨rfl,rfl⟩) | (go_at_call 139;refine HPK.out.mono ?_))
   rintro e w5 ⟨v5,rfl,hi5,hb5⟩
   have HI5:=Lib.hid hi5
   have HB5:=Lib.hid (za HB4.out hb5)
   have HT5:=Lib.hid (HTW.out.below hb5 HTW.out.lt)
   clear hi5 hb5
   go_wp2_with (go_at_call 141;refine (HCD.out _ HT5.out).mono ?_;rintro e w' ⟨rfl,rfl⟩)
   go_ret3
   rw [←HUS.out,←HWW.out]
   exact ⟨_,rfl,HI5.out,HB5.out⟩
def zb1 (f:Bool) (us:List Nat):List (Nat × Bool):=us.map fun u=>(u,f)
theorem zpi {s f:Bool} {x:Int} {u:Nat} {z:Int} {ok:Bool} (h:zbi x u f=(z,ok)):zbl s f x u=if ok=true∧(s=true∨0≤z) then some z else none:=by unfold zbl;rw [h]
theorem zkV:∀ (ys:List Int) (x:Int),(x::ys)[ys.length]? = some (zd0 x ys)
 | [],_=>rfl
 | y::ys,x=>by rw [List.length_cons,List.getElem?_cons_succ,zkV ys y];rfl
def zvU (x:Int) (o:Option (List Int)) (w:World) (e:Ending) (w':World):Prop:=
 match o with
 | none=>e=.returned (.tuple #[.slice none 0 0,.bool false])∧Below w.heap.size w w'
 | some ys=>∃ v,e=.returned (.tuple #[v,.bool true])∧IsV iv (x::ys) v w'∧Below w.heap.size w w'
def zut (s f:Bool) (x:Int) (us:List Nat) (g:Nat) (w:World) (i:Value) (wr:World):Prop:=∃ (k:Nat) (ys:List Int),k≤us.length∧i=.int .i64 (k:Int)∧zbp s f x (us.take k)=some ys ∧
 Row wr g 3 ((x::ys).map iv ++ List.replicate (us.length - k) (iv 0))∧Below w.heap.size w wr
theorem zmM (s f:Bool) (x:Int) (us:List Nat) (v:Value) (w:World) (hv:IsR dc (zb1 f us) v w) (hx:inInt x) (hu:∀ u∈us,u < 2 ^ 64) (hb:us.length≤1000) :
  Calls Tryz.prog 156 #[.int .i64 x,v,.bool s] w (zvU x (zbp s f x us) w):=by
 obtain ⟨A,n,c,rfl⟩:=hv.shape
 have HN:=Lib.hid (show us.length=n by have:=hv.parts.1;unfold zb1 at this;rwa [List.length_map] at this)
 have HV:=Lib.hid hv
 have HU:=Lib.hid hu
 have HXI:=Lib.hid hx
 have hn6:n≤1000:=by have:=HN.out;omega
 have hni:IntKind.i64.wrap ((n:Int)+1)=((n+1:Nat):Int):=by rw [IntKind.wrap_i64];omega
 have hni2:(n:Int)+1=((n+1:Nat):Int):=by omega
 have HNI:=Lib.hid hni2
 clear hv hu hb hx hni2
 go_enter Tryz.func156,Tryz.ntmps156
 go_wp2_with (refine zn zck rfl _ _ rfl _ _ _ _ (n+1) w w.heap.size rfl rfl rfl rfl (by omega) (by omega) (Below.refl _ _) (Nat.le_refl _) ?_)
 intro w2 hr2 hb2
 have hset:=hr2.set_ 0 (iv x)
 have hfx:=hr2.free 0
 have hcu:∃ u,w2.cell? ⟨w.heap.size,0,none⟩=some u:=by rw [hr2.cell];exact ⟨_,List.getElem?_eq_getElem (by rw [List.length_replicate];omega)⟩
 obtain ⟨u0,hcu⟩:=hcu
 have HS:=Lib.hid (show zut s f x us w.heap.size w (.int .i64 0) (w2.setCell ⟨w.heap.size,0,none⟩ (iv x)) from ⟨0,[],Nat.zero_le _,rfl,by rw [List.take_zero];rfl,by
  rw [HN.out,Nat.sub_zero];rw [List.replicate_succ,List.set_cons_zero] at hset;exact hset,hb2.setCell (p:=⟨w.heap.size,0,none⟩) (Nat.le_refl _) _⟩)
 clear hset hb2 hr2
 unfold iv at HS
 go_wp2
 go_loopw [22] (zut s f x us w.heap.size w) (fun i _=>n - (intOf i).toNat)
 case atStart=>exact HS.out
 case round =>
  clear hcu hfx
  obtain ⟨k,ys,hk,rfl,hwk,hrow,hbw⟩:=hrel
  have HWK:=Lib.hid hwk
  have HYL:=Lib.hid (show ys.length=k by rw [zhD hwk,List.length_take];omega)
  have HZ:=Lib.hid (zeL hwk HXI.out)
  rw [HN.out] at hrow
  have HROW:=Lib.hid hrow
  have HB:=Lib.hid hbw
  have hkn:k≤n:=by have:=HN.out;omega
  have hgw:=hrow.lt
  clear hwk hrow hk
  by_cases hlt:k < n
  ·have hkl:k < us.length:=by have:=HN.out;omega
   have hkt:k < (zb1 f us).length:=by unfold zb1;rw [List.length_map];exact hkl
   have hlti:(k:Int) < (n:Int):=by omega
   obtain ⟨ad,rfl,had,hcell⟩:=(HV.out.below hbw).at (m:=2) zdl (by omega) hkt
   obtain ⟨u,hue⟩:∃ u,u=us[k]:=⟨_,rfl⟩
   have hte:(zb1 f us)[k]=(u,f):=by
    have h:(zb1 f us)[k]? = some (u,f):=by unfold zb1;rw [List.getElem?_map,List.getElem?_eq_getElem hkl,←hue];rfl
    rw [List.getElem?_eq_getElem hkt] at h
    injection h
   rw [hte] at hcell
   have k0:=zhF hcell
   dsimp only at k0
   obtain ⟨k1,k2⟩:=k0
   have hu64:(u:Int) < 18446744073709551616:=by have:=HU.out u (by rw [hue];exact List.getElem_mem hkl);omega
   obtain ⟨y,hy⟩:∃ y,y=zd0 x ys:=⟨_,rfl⟩
   rw [←hy] at HZ
   have HTK:=Lib.hid (show us.take (k+1)=us.take k ++ [u] by rw [List.take_succ_eq_append_getElem hkl,hue])
   have HSN:=Lib.hid (show zbp s f x (us.take (k+1))=match zbl s f y u with | none=>none | some z=>some (ys ++ [z]) by rw [HTK.out,zcW,HWK.out];dsimp only;rw [←hy];rfl)
   obtain ⟨z,ok,hzo⟩:∃ z ok,zbi y u f=(z,ok):=⟨_,_,rfl⟩
   have HST:=Lib.hid (fun W=>zgX y u f W HZ.out hu64)
   rw [hzo] at HST
   have HGN:=Lib.hid (zpi (s:=s) hzo)
   obtain ⟨W0,hW0⟩:∃ W0,W0=wr.alloc (.cells #[.int .u64 (u:Int),.bool f] 167):=⟨_,rfl⟩
   have HBA:=Lib.hid (show Below wr.heap.size wr W0 by rw [hW0];exact (Below.refl _ _).alloc (Nat.le_refl _) _)
   have HD:=Lib.hid (show Row W0 wr.heap.size 167 (dc (u,f)) by rw [hW0];exact heap_alloc_new wr _)
   have HCY:=Lib.hid (show ∀ W,Below wr.heap.size wr W→W.cell? ((⟨w.heap.size,0,none⟩:Addr).add k)=some (.int .i64 y) from fun W hW=>zhL (HROW.out.below hW hgw) k _ (by
    rw [List.getElem?_append_left (by rw [List.length_map,List.length_cons,HYL.out];omega),List.getElem?_map,←HYL.out,zkV,hy];rfl))
   clear hcell hue hte hzo hu64 hy hbw
   go_wp2
   rw [←hW0]
   refine wp_region_list [.is (.slice (some ⟨w.heap.size,0,none⟩) (n+1) (n+1)),.is (.int .i64 (k:Int)),.is (.pointer (some ((⟨w.heap.size,0,none⟩:Addr).add k))),.is (.int .i64 y),.is (dv (u,f)),.is (.tuple #[.int .i64 z,.bool ok]),.is (.tuple #[.int .i64 z,.bool ok]),.is (.int .i64 z),.is (.bool ok),.is (.int .i64 z),.is (.bool ok)]
    [some 28,some 29,some 30,some 31,some 32,some 33,some 27,some 34,some 35,some 11,some 12] (by kernel_rfl) (by kernel_rfl) (by kernel_rfl) rfl ⟨?_,?_,?_,?_,?_,?_,?_,?_,?_,?_,?_,trivial⟩ ?_
   ·intro ρ W1 hb1 H
    exact zd rfl (H.old 8 _ (by kernel_rfl) rfl) ⟨rfl,Below.refl _ _⟩
   ·intro ρ W1 hb1 H
    exact zd rfl (H.old 9 _ (by kernel_rfl) rfl) ⟨rfl,Below.refl _ _⟩
   ·intro ρ W1 hb1 H
    exact zw zck rfl (H.new 28 0 (by kernel_rfl)) (H.new 29 1 (by kernel_rfl)) (by omega) ⟨rfl,Below.refl _ _⟩
   ·intro ρ W1 hb1 H
    exact zf rfl (H.new 30 2 (by kernel_rfl)) Tryz.underlying3 rfl (HCY.out W1 (HBA.out.trans (hb1.mono HBA.out.size))) ⟨rfl,Below.refl _ _⟩
   ·intro ρ W1 hb1 H
    exact zL (cs:=dc (u,f)) rfl (H.old 10 _ (by kernel_rfl) rfl) Tryz.underlying167 rfl zre (HD.out.below hb1 HD.out.lt) ⟨rfl,Below.refl _ _⟩
   ·intro ρ W1 hb1 H
    have e0:ρ (.tmp 31)=.int .i64 y:=H.new 31 3 (by kernel_rfl)
    have e1:ρ (.tmp 32)=dv (u,f):=H.new 32 4 (by kernel_rfl)
    refine zj rfl (fun _ _=>by kernel_rfl) (H.func _) (args:=#[.int .i64 y,dv (u,f)]) (by simp [e0,e1]) ?_
    exact (HST.out W1).mono fun e w' ⟨h1,h2⟩=>⟨_,h1,rfl,h2⟩
   ·intro ρ W1 hb1 H
    exact zd rfl (H.new 33 5 (by kernel_rfl)) ⟨rfl,Below.refl _ _⟩
   ·intro ρ W1 hb1 H
    exact zi rfl (H.new 27 6 (by kernel_rfl)) rfl ⟨rfl,Below.refl _ _⟩
   ·intro ρ W1 hb1 H
    exact zi rfl (H.new 27 6 (by kernel_rfl)) rfl ⟨rfl,Below.refl _ _⟩
   ·intro ρ W1 hb1 H
    exact ze rfl (H.new 34 7 (by kernel_rfl)) ⟨rfl,Below.refl _ _⟩
   ·intro ρ W1 hb1 H
    exact ze rfl (H.new 35 8 (by kernel_rfl)) ⟨rfl,Below.refl _ _⟩
   ·intro vs W1 hb1 hfs
    have f9:vs 9=.int .i64 z:=hfs 9 (by decide)
    have f10:vs 10=.bool ok:=hfs 10 (by decide)
    clear hfs
    simp only [zr,Nat.zero_add,Nat.reduceAdd]
    generalize vs 0=z0
    generalize vs 1=z1
    generalize vs 2=z2
    generalize vs 3=z3
    generalize vs 4=z4
    generalize vs 5=z5
    generalize vs 6=z6
    generalize vs 7=z7
    generalize vs 8=z8
    simp only [f9,f10,Act.put,List.setIfInBounds_toArray,List.set_cons_succ,List.set_cons_zero]
    have hbb:=HBA.out.trans (hb1.mono HBA.out.size)
    have HB1:=Lib.hid (HB.out.trans (hbb.mono HB.out.size))
    have hrow1:=HROW.out.below hbb hgw
    have hset:=hrow1.set_ (k+1) (iv z)
    have hfx:=hrow1.free (k+1)
    have hcu:∃ u,W1.cell? ⟨w.heap.size,k+1,none⟩=some u:=by
     rw [hrow1.cell]
     exact ⟨_,List.getElem?_eq_getElem (by rw [List.length_append,List.length_map,List.length_cons,HYL.out,List.length_replicate];omega)⟩
    obtain ⟨u0,hcu⟩:=hcu
    have hfill:=zc1 (enc:=iv) (z:=iv 0) (acc:=x::ys) (y:=z) (n:=n+1) (k:=k+1) (by omega) (by rw [List.length_cons,HYL.out])
    rw [show n+1 - (k+1)=n - k by omega,show n+1 - (k+1+1)=n - (k+1) by omega] at hfill
    rw [hfill] at hset
    have HSET:=Lib.hid hset
    have HB3:=Lib.hid (HB1.out.setCell (p:=⟨w.heap.size,k+1,none⟩) (Nat.le_refl _) (iv z))
    unfold iv at HSET HB3
    clear f9 f10 hb1 hbb hrow1 hset hfill
    have hno:zbl s f y u=none→zbp s f x us=none:=fun h=>zc5 (k:=k+1) (by rw [HSN.out,h])
    have HNO:=Lib.hid hno
    clear hno
    cases ok with
    | false =>
     have HE:=Lib.hid (HNO.out (by rw [HGN.out,if_neg (by rintro ⟨h,_⟩;cases h)]))
     go_wp2
     go_ret2
     rw [HE.out]
     exact ⟨rfl,HB1.out⟩
    | true =>
     by_cases hz:z < 0
     ·have d3:decide (z < 0)=true:=decide_eq_true hz
      cases s with
      | false =>
       have HE:=Lib.hid (HNO.out (by rw [HGN.out,if_neg (by rintro ⟨_,h | h⟩;cases h;omega)]))
       go_wp2
       go_ret2
       rw [HE.out]
       exact ⟨rfl,HB1.out⟩
      | true =>
       have HW2:=Lib.hid (show zbp true f x (us.take (k+1))=some (ys ++ [z]) by rw [HSN.out,HGN.out,if_pos ⟨rfl,.inl rfl⟩])
       go_wp2
       go_roundw
       case rel=>exact ⟨k+1,ys ++ [z],hkl,by go_num,HW2.out,by rw [HN.out];exact HSET.out,HB3.out⟩
       case measure=>simp [intOf];omega
     ·have d3:decide (z < 0)=false:=decide_eq_false hz
      have HW2:=Lib.hid (show zbp s f x (us.take (k+1))=some (ys ++ [z]) by rw [HSN.out,HGN.out,if_pos ⟨rfl,.inr (by omega)⟩])
      go_wp2
      go_roundw
      case rel=>exact ⟨k+1,ys ++ [z],hkl,by go_num,HW2.out,by rw [HN.out];exact HSET.out,HB3.out⟩
      case measure=>simp [intOf];omega
  ·obtain rfl:k=n:=by omega
   have HE:=Lib.hid HWK.out
   rw [List.take_of_length_le (by rw [HN.out];exact Nat.le_refl _)] at HE
   have hr:=HROW.out
   rw [Nat.sub_self,List.replicate_zero,List.append_nil] at hr
   have HI:=Lib.hid (zbN hr (show (x::ys).length=k+1 by rw [List.length_cons,HYL.out]) (by omega))
   clear hr
   go_wp2
   go_ret2
   rw [HE.out]
   exact ⟨_,rfl,HI.out,HB.out⟩
end Go.Proofs.YtlibofmpnlfelaaGreatDoor
