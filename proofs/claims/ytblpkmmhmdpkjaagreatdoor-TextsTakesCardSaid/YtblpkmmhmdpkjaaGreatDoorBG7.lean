import Derived.Laws.OwnMore
import Derived.Test.YtblpkmmhmdpkjaaGreatDoorBG6
set_option maxHeartbeats 8000000
set_option maxRecDepth 100000
namespace Go.Proofs.YtblpkmmhmdpkjaaGreatDoor
open Go.RowKit
theorem zic {us:List Nat} (h:gall us=true):zeM us=[]∧gnum us=0:=⟨by unfold zeM;rw [if_pos h],by unfold gnum;rw [if_pos h]⟩
theorem zid {us:List Nat} (h:gall us=false):zeM us=zby us.tail (zd0 us.tail)∧gnum us=zhF us.tail:=by
 have h2:¬gall us=true:=by rw [h];decide
 exact ⟨by unfold zeM;rw [if_neg h2],by unfold gnum;rw [if_neg h2]⟩
theorem zj9 (l:List Int) (m:Nat) (v:Value) (w:World) (ht:WTab w) (hd:IsR dc (zm l m) v w) (h1:1≤m) (h5:m≤511) (hs:zg6 (zm l m)=gall (zw (zm l m))) :
  Calls Tryz.prog 151 #[v] w (zsJ w (gnum (zw (zm l m))) (zeM (zw (zm l m)))):=by
 cases h:gall (zw (zm l m)) with
 | true =>
  rw [(zic h).1,(zic h).2]
  exact zpm _ v w hd (by rw [zH];omega) (by rw [hs,h])
 | false =>
  rw [(zid h).1,(zid h).2,←znK]
  exact zpn _ v w ht hd (by rw [zH];omega) (by rw [zH];omega) (by rw [hs,h]) zrj
theorem zpq {us:List Nat} (h:∀ u∈us,u < 2 ^ 64):gnum us≤31:=by
 unfold gnum
 split
 ·omega
 ·exact (zcS fun u hu=>h u (List.mem_of_mem_tail hu)).2.2.2.2.2.2.1
theorem zhd {us:List Nat} (hl:us.length≤512) (h:∀ u∈us,u < 2 ^ 64):(zeM us).length≤5000:=by
 unfold zeM
 split
 ·simp
 ·rw [zcL]
  have h1:(us.tail).length≤512:=by rw [List.length_tail];omega
  have h2:=(zcS fun u hu=>h u (List.mem_of_mem_tail hu)).2.2.2.2.1
  exact Nat.le_trans (zgT h1 h2) (by omega)
theorem zrk (l:List Int) (v:Value) (s:Bool) (w:World) (ht:WTab w) (hv:IsV iv l v w) (hl:∀ x∈l,inInt x) (hb:l.length≤1000000):Calls Tryz.prog 126 #[v,.bool s] w (RetEO w (zd9 l s)):=by
 obtain ⟨A,n,c,rfl⟩:=hv.shape
 have hn:=hv.len
 by_cases h2:n < 2∨512 < n
 ·have hE:=Lib.hid (zmE (s:=s) (.inr (by rw [←hn];exact h2):zG l s=none∨l.length < 2∨512 < l.length))
  have HC:=Lib.hid (zpe (n:Int) w (by omega))
  clear hv hl hb hn h2 ht
  go_enter Tryz.func126,Tryz.ntmps126
  go_wp2_with (go_at_call 147;refine HC.out.mono ?_;rintro e w' ⟨rfl,rfl⟩)
  go_ret2
  rw [hE.out]
  exact RetEO.nil _ (Below.refl _ _)
 ·have HN:=Lib.hid hn
  have HV:=Lib.hid hv
  have HT:=Lib.hid ht
  have HL:=Lib.hid hl
  have HC:=Lib.hid (znD (n:Int) w (by omega) (by omega))
  have hn2:2≤n:=by omega
  have hn5:n≤512:=by omega
  obtain ⟨m,hm⟩:∃ m,m=n - 1:=⟨_,rfl⟩
  have HM:=Lib.hid (show l.length - 1=m by omega)
  have hm1:1≤m:=by omega
  have hm5:m≤511:=by omega
  have HL0:=Lib.hid (show inInt (l.headD 0) by
   cases l with
   | nil=>unfold inInt;simp
   | cons a t=>exact hl a List.mem_cons_self)
  have hne:l≠[]:=by rintro rfl;simp at hn;omega
  have HMIN:=Lib.hid (zph l (.slice A n c) w hv (by omega) hb)
  have HNEG:=Lib.hid (zrf hne)
  obtain ⟨mn,hmn⟩:∃ mn,mn=lmin l:=⟨_,rfl⟩
  rw [←hmn] at HMIN HNEG
  have HDF:=Lib.hid (zpl l (.slice A n c) w hv hl (by omega) hb)
  clear hv ht hl hb h2 hn hne hmn hm
  cases s with
  | true =>
   have HPL:=Lib.hid (zhb (l:=l) (s:=true) (.inl rfl))
   go_enter Tryz.func126,Tryz.ntmps126
   go_wp2_with (first | (go_at_call 147;refine HC.out.mono ?_;rintro e w' ⟨rfl,rfl⟩) | (go_at_call 148;refine HMIN.out.mono ?_;rintro e w' ⟨rfl,rfl⟩) | (go_at_call 149;refine HDF.out.mono ?_))
   rintro e w1 (⟨hok,dv1,rfl,hd1,hb1⟩ | ⟨⟨i,hi,hbad⟩,rfl,hb1⟩)
   ·have HOK:=Lib.hid (show ∀ i,i < m→(zE l i).2.2=true from fun i hi=>hok i (by have:=HN.out;have:=HM.out;omega))
    rw [HM.out] at hd1
    obtain ⟨DA,dn,dcap,rfl⟩:=hd1.shape
    have hdn:dn=m:=by have:=hd1.parts.1;rw [zH] at this;omega
    subst hdn
    have HD1:=Lib.hid hd1
    have HB1:=Lib.hid hb1
    have HT1:=Lib.hid (HT.out.below hb1 HT.out.lt)
    have HWAY:=Lib.hid (zpk (zm l dn) (.slice DA dn dcap) w1 hd1 (by rw [zH];exact hm1) (by rw [zH];omega))
    clear hok hd1 hb1
    cases hway:dway (zm l dn) with
    | false =>
     have hE:=Lib.hid (zep (s:=true) (show zbK l (zbA l) (l.length - 1)=none by rw [HM.out];exact zhc hm1 HOK.out hway))
     rw [hway] at HWAY
     clear hway
     go_wp2_with (go_at_call 150;refine HWAY.out.mono ?_;rintro e w2 ⟨rfl,hb2⟩)
     go_ret2
     rw [hE.out]
     exact RetEO.nil _ (za HB1.out hb2)
    | true =>
     have HSZ:=Lib.hid (zia hm1 HOK.out hway)
     have HSM:=Lib.hid (zj8 hm1 HOK.out hway)
     have hst:=zib hm1 HOK.out
     have hE:=zh7 (s:=true) HPL.out (by have:=HN.out;omega) (by have:=HN.out;omega) (show zbK l (zbA l) (l.length - 1)=some (zw (zm l dn)) by rw [HM.out];exact HSZ.out)
     have hfi:=(zeN (l:=l) (us:=zw (zm l dn)) (by have:=HN.out;omega) (by rw [HM.out];exact HSZ.out)).2
     have h64:=zfa HSZ.out
     have HPK:=Lib.hid (fun (w:World) ht hd=>zj9 l dn (.slice DA dn dcap) w ht hd hm1 (by omega) HSM.out)
     have hgn:=zpq h64
     have HTB:=Lib.hid (zhd (us:=zw (zm l dn)) (by rw [show (zw (zm l dn)).length=dn by unfold zw;rw [List.length_map,zH]];omega) h64)
     unfold glay at hE
     obtain ⟨us,hus⟩:∃ us,us=zw (zm l dn):=⟨_,rfl⟩
     rw [←hus] at hE hst hfi HPK hgn HTB
     obtain ⟨G,hG⟩:∃ G,G=gnum us:=⟨_,rfl⟩
     obtain ⟨tl,htl⟩:∃ tl,tl=zeM us:=⟨_,rfl⟩
     obtain ⟨x1,hx1⟩:∃ x1,x1=zfb l us:=⟨_,rfl⟩
     obtain ⟨x0,hx0⟩:∃ x0,x0=l.headD 0:=⟨_,rfl⟩
     rw [←hG,←htl,←hx1,←hx0,←HN.out] at hE
     rw [←hG,←htl] at HPK
     rw [←hG] at hgn
     rw [←htl] at HTB
     rw [←hx1] at hst hfi
     obtain ⟨u0,f0,ok0,hd0⟩:∃ u0 f0 ok0,zE l 0=(u0,f0,ok0):=⟨_,_,_,rfl⟩
     have hu0:(u0:Int) < 18446744073709551616:=by have h:=zc4 (l.getD 0 0) (l.getD (0+1) 0);unfold zE at hd0;rw [hd0] at h;dsimp only at h;omega
     rw [hd0] at hst
     have HSP:=Lib.hid (fun (w:World)=>zgm 0 u0 f0 w (by unfold inInt;omega) hu0)
     rw [hst] at HSP
     unfold RetG at HSP
     have HE2:=Lib.hid hE
     have HX1:=Lib.hid hfi
     have HG31:=Lib.hid hgn
     have HX0:=Lib.hid (show inInt x0 by rw [hx0];exact HL0.out)
     have HC0:=Lib.hid (show ∀ W,Below w.heap.size w W→∃ ad,A=some ad∧ad.block < W.heap.size∧W.cell? (ad.add 0)=some (.int .i64 x0) from fun W hW=>by
      obtain ⟨ad,e1,e2,e3⟩:=(HV.out.below hW).at (k:=0) (by have:=HN.out;omega)
      refine ⟨ad,e1,e2,?_⟩
      rw [e3,hx0]
      cases l with
      | nil=>have:=HN.out;simp at this;omega
      | cons a t=>rfl)
     have HDC:=Lib.hid (show ∀ W,IsR dc (zm l dn) (.slice DA dn dcap) W→∃ ad,DA=some ad∧ad.block < W.heap.size∧W.cell? ad=some (.int .u64 (u0:Int))∧W.cell? ⟨ad.block,ad.off+1,none⟩=some (.bool f0) from fun W hW=>by
      obtain ⟨ad,e1,e2,e3⟩:=hW.at (m:=2) zc6 (by omega) (k:=0) (by rw [zH];exact hm1)
      have e4:(zm l dn)[0]? = some (u0,f0):=by rw [zdq 0 hm1,hd0];rfl
      rw [List.getElem?_eq_getElem (by rw [zH];exact hm1)] at e4
      injection e4 with e4
      rw [e4] at e3
      have k0:=zg4 e3
      rw [Nat.zero_mul] at k0
      have ha0:ad.add 0=ad:=by simp [Addr.add]
      rw [ha0] at k0
      exact ⟨ad,e1,e2,k0.1,k0.2⟩)
     rw [hway] at HWAY
     clear hway hE hst hfi h64 hgn hus hG htl hx1 hx0 hd0 hu0
     go_wp2_with fail
     refine HWAY.out.mono ?_
     rintro e w2 ⟨rfl,hb2⟩
     have HB2:=Lib.hid (za HB1.out hb2)
     have HT2:=Lib.hid (HT1.out.below hb2 HT1.out.lt)
     have HD2:=Lib.hid (HD1.out.below hb2)
     clear hb2
     go_wp2_with fail
     refine (HPK.out w2 HT2.out HD2.out).mono ?_
     rintro e w3 ⟨pv,rfl,hp3,hb3⟩
     have HB3:=Lib.hid (za HB2.out hb3)
     have HT3:=Lib.hid (HT2.out.below hb3 HT2.out.lt)
     have HP3:=Lib.hid hp3
     obtain ⟨da,rfl,hda,hdc1,hdc2⟩:=HDC.out w3 (HD2.out.below hb3)
     clear hb3 hp3
     have ha0:da.add 0=da:=by simp [Addr.add]
     go_wp2_with fail
     refine (HSP.out w3).mono ?_
     rintro e w4 ⟨rfl,hb4⟩
     have HB4:=Lib.hid (za HB3.out hb4)
     have HT4:=Lib.hid (HT3.out.below hb4 HT3.out.lt)
     have HP4:=Lib.hid (IsB.below HP3.out hb4)
     clear hb4 hdc1 hdc2 hda ha0
     go_wp2
     obtain ⟨ad,rfl,had,_⟩:=HC0.out w4 HB4.out
     refine wp_region_list [.is (.int .i64 (G:Int)),.is (.slice (some ad) n c),.is (.int .i64 (n:Int)),.bytes (zz 3 G n),.is (.slice (some ad) n c),.is (.pointer (some (ad.add 0))),.is (.int .i64 x0),.is (.bool true),.bytes (zz 3 G n ++ vput (vint x0 true)),.bytes (zz 3 G n ++ vput (vint x0 true))] [some 55,some 56,some 57,some 58,some 59,some 60,some 61,some 62,some 63,some 13] (by kernel_rfl) (by kernel_rfl) (by kernel_rfl) rfl ⟨?_,?_,?_,?_,?_,?_,?_,?_,?_,?_,trivial⟩ ?_
     ·intro ρ W1 hb1 H
      exact zd rfl (H.old 8 _ (by kernel_rfl) rfl) ⟨rfl,Below.refl _ _⟩
     ·intro ρ W1 hb1 H
      exact zd rfl (H.old 0 _ (by kernel_rfl) rfl) ⟨rfl,Below.refl _ _⟩
     ·intro ρ W1 hb1 H
      exact zbF Tryz.underlying47 rfl (H.new 56 1 (by kernel_rfl)) ⟨rfl,Below.refl _ _⟩
     ·intro ρ W1 hb1 H
      have e0:ρ (.tmp 55)=.int .i64 (G:Int):=H.new 55 0 (by kernel_rfl)
      have e1:ρ (.tmp 57)=.int .i64 (n:Int):=H.new 57 2 (by kernel_rfl)
      refine zk rfl (fun _ _=>by kernel_rfl) (H.func _) (args:=#[.int .i64 3,.int .i64 (G:Int),.int .i64 (n:Int)]) (by simp [e0,e1,H.const]) ?_
      have hG:=HG31.out
      refine (zjV 3 (G:Int) (n:Int) W1 (HT4.out.below hb1 HT4.out.lt) (by unfold inInt;omega) (by unfold inInt;omega) (by unfold inInt;omega)).mono ?_
      rintro e w' ⟨u,h1,h2,h3⟩
      rw [show ((3:Int))=((3:Nat):Int) from rfl,ze3 (by omega) hG (by omega) (by omega)] at h2
      exact ⟨_,h1,h2,h3⟩
     ·intro ρ W1 hb1 H
      exact zd rfl (H.old 0 _ (by kernel_rfl) rfl) ⟨rfl,Below.refl _ _⟩
     ·intro ρ W1 hb1 H
      exact zF (k:=0) zdk rfl (H.new 59 4 (by kernel_rfl)) (H.const _) (by omega) ⟨rfl,Below.refl _ _⟩
     ·intro ρ W1 hb1 H
      obtain ⟨ad',e1,_,e2⟩:=HC0.out W1 (za HB4.out hb1)
      injection e1 with e1
      subst e1
      exact ze rfl (H.new 60 5 (by kernel_rfl)) Tryz.underlying3 rfl e2 ⟨rfl,Below.refl _ _⟩
     ·intro ρ W1 hb1 H
      exact zd rfl (H.old 1 _ (by kernel_rfl) rfl) ⟨rfl,Below.refl _ _⟩
     ·intro ρ W1 hb1 H
      have e0:IsB (zz 3 G n) (ρ (.tmp 58)) W1:=H.new 58 3 (by kernel_rfl)
      have e1:ρ (.tmp 61)=.int .i64 x0:=H.new 61 6 (by kernel_rfl)
      have e2:ρ (.tmp 62)=.bool true:=H.new 62 7 (by kernel_rfl)
      obtain ⟨hv,hhv⟩:∃ hv,hv=ρ (.tmp 58):=⟨_,rfl⟩
      rw [←hhv] at e0
      refine zk rfl (fun _ _=>by kernel_rfl) (H.func _) (args:=#[hv,.int .i64 x0,.bool true]) (by simp [hhv,e1,e2]) ?_
      exact (zhT x0 true e0 (by rw [zT];omega) HX0.out.1 HX0.out.2).mono fun e w' ⟨u,h1,h2,h3⟩=>⟨_,h1,h2,h3⟩
     ·intro ρ W1 hb1 H
      exact zf rfl rfl ⟨H.new 63 8 (by kernel_rfl),Below.refl _ _⟩
     ·intro vs W1 hb1 hfs
      have f9:IsB (zz 3 G n ++ vput (vint x0 true)) (vs 9) W1:=hfs 9 (by decide)
      clear hfs
      simp only [zr,Nat.zero_add,Nat.reduceAdd]
      generalize vs 0=z0
      generalize vs 1=z1
      generalize vs 2=z2
      generalize vs 3=z3
      generalize vs 4=z4
      generalize vs 5=z5
      generalize vs 6=z6
      generalize vs 7=z7
      generalize vs 8=z8
      generalize vs 9=z9 at f9 ⊢
      simp only [Act.put,List.setIfInBounds_toArray,List.set_cons_succ,List.set_cons_zero]
      have HO:=Lib.hid f9
      have HBa:=Lib.hid (za HB4.out hb1)
      have HP5:=Lib.hid (IsB.below HP4.out hb1)
      have HLN:=Lib.hid (show (zz 3 G n ++ vput (vint x0 true)).length≤1000 by rw [List.length_append,zT];have:=zbz (x:=vint x0 true) (ziU HX0.out);omega)
      clear f9 hb1
      go_wp2_with fail
      refine (zhU x1 true HO.out (by have:=HLN.out;omega) HX1.out.1 HX1.out.2).mono ?_
      rintro e w6 ⟨v6,rfl,hown6,hb6⟩
      have hp6:=IsB.below HP5.out hb6
      obtain ⟨A7,n7,c7,rfl⟩:=IsV.shape (f:=bv) hp6
      obtain ⟨hn7,hA7,-,-,hl7⟩:=IsV.parts (f:=bv) (show IsV bv _ _ _ from hp6)
      have hM7:(tl.map bv).length=n7:=by rw [List.length_map];exact hn7
      have hn7b:n7≤5000:=by rw [←hn7];exact HTB.out
      have HM7:=Lib.hid hM7
      have hzz6:=hb6.size
      obtain ⟨K6,hK6⟩:∃ K,K=(zz 3 G n ++ vput (vint x0 true) ++ vput (vint x1 true)).length:=⟨_,rfl⟩
      have hK6b:K6≤2000:=by rw [hK6,List.length_append];have:=zbz (x:=vint x1 true) (ziU HX1.out);have:=HLN.out;omega
      rw [←hK6] at hown6
      have HK6:=Lib.hid hK6
      obtain ⟨xs6,hx6⟩:∃ xs,xs=(zz 3 G n ++ vput (vint x0 true) ++ vput (vint x1 true)).map bv:=⟨_,rfl⟩
      rw [←hx6] at hown6
      have HX6:=Lib.hid hx6
      clear hp6 hM7 hn7 hK6 hx6
      go_wp2_with (at_builtin;refine zo elemB rfl _ _ rfl W1.heap.size _ _ _ _ _ _ (tl.map bv) W1 rfl rfl hA7 HM7.out hl7 (zcb _) hown6 hb6 hzz6 (by omega) (by omega) ?_)
      intro v8 w8 hown8 hb8 _ _
      have HI9:=Lib.hid (show w8.ownsRow w.heap.size 5 1 v8 (zz 3 G n ++ vput (vint x0 true) ++ vput (vint x1 true) ++ tl).length ((zz 3 G n ++ vput (vint x0 true) ++ vput (vint x1 true) ++ tl).map bv) by
       rw [List.map_append,←HX6.out,List.length_append,←HK6.out,show tl.length=n7 by have:=HM7.out;rwa [List.length_map] at this]
       exact zbR HBa.out.size hown8)
      have HB9:=Lib.hid (za HBa.out hb8)
      clear hown8 hb8 hown6 hzz6
      go_wp2
      go_ret2
      rw [HE2.out]
      exact ⟨_,rfl,HI9.out,HB9.out⟩
   ·have hE:=Lib.hid (zep (s:=true) (show zbK l (zbA l) (l.length - 1)=none from zeL (k:=i) (by omega) (zpp hbad)))
    clear hi hbad
    go_wp2
    go_ret2
    rw [hE.out]
    exact RetEO.nil _ hb1
  | false =>
   by_cases h0:mn < 0
   ·have d0:decide (mn < 0)=true:=decide_eq_true h0
    have hE:=Lib.hid (zmE (l:=l) (s:=false) (.inl (by obtain ⟨x,hx,hx0⟩:=HNEG.out.1 h0;exact znJ hx hx0)))
    clear h0
    go_enter Tryz.func126,Tryz.ntmps126
    go_wp2_with (first | (go_at_call 147;refine HC.out.mono ?_;rintro e w' ⟨rfl,rfl⟩) | (go_at_call 148;refine HMIN.out.mono ?_;rintro e w' ⟨rfl,rfl⟩))
    go_ret2
    rw [hE.out]
    exact RetEO.nil _ (Below.refl _ _)
   have d0:decide (mn < 0)=false:=decide_eq_false h0
   have HPL:=Lib.hid (zhb (l:=l) (s:=false) (.inr fun x hx=>by
    by_cases h:x < 0
    ·exact absurd (HNEG.out.2 ⟨x,hx,h⟩) h0
    ·omega))
   clear h0
   go_enter Tryz.func126,Tryz.ntmps126
   go_wp2_with (first | (go_at_call 147;refine HC.out.mono ?_;rintro e w' ⟨rfl,rfl⟩) | (go_at_call 148;refine HMIN.out.mono ?_;rintro e w' ⟨rfl,rfl⟩) | (go_at_call 149;refine HDF.out.mono ?_))
   rintro e w1 (⟨hok,dv1,rfl,hd1,hb1⟩ | ⟨⟨i,hi,hbad⟩,rfl,hb1⟩)
   ·have HOK:=Lib.hid (show ∀ i,i < m→(zE l i).2.2=true from fun i hi=>hok i (by have:=HN.out;have:=HM.out;omega))
    rw [HM.out] at hd1
    obtain ⟨DA,dn,dcap,rfl⟩:=hd1.shape
    have hdn:dn=m:=by have:=hd1.parts.1;rw [zH] at this;omega
    subst hdn
    have HD1:=Lib.hid hd1
    have HB1:=Lib.hid hb1
    have HT1:=Lib.hid (HT.out.below hb1 HT.out.lt)
    have HWAY:=Lib.hid (zpk (zm l dn) (.slice DA dn dcap) w1 hd1 (by rw [zH];exact hm1) (by rw [zH];omega))
    clear hok hd1 hb1
    cases hway:dway (zm l dn) with
    | false =>
     have hE:=Lib.hid (zep (s:=false) (show zbK l (zbA l) (l.length - 1)=none by rw [HM.out];exact zhc hm1 HOK.out hway))
     rw [hway] at HWAY
     clear hway
     go_wp2_with (go_at_call 150;refine HWAY.out.mono ?_;rintro e w2 ⟨rfl,hb2⟩)
     go_ret2
     rw [hE.out]
     exact RetEO.nil _ (za HB1.out hb2)
    | true =>
     have HSZ:=Lib.hid (zia hm1 HOK.out hway)
     have HSM:=Lib.hid (zj8 hm1 HOK.out hway)
     have hst:=zib hm1 HOK.out
     have hE:=zh7 (s:=false) HPL.out (by have:=HN.out;omega) (by have:=HN.out;omega) (show zbK l (zbA l) (l.length - 1)=some (zw (zm l dn)) by rw [HM.out];exact HSZ.out)
     have hfi:=(zeN (l:=l) (us:=zw (zm l dn)) (by have:=HN.out;omega) (by rw [HM.out];exact HSZ.out)).2
     have h64:=zfa HSZ.out
     have HPK:=Lib.hid (fun (w:World) ht hd=>zj9 l dn (.slice DA dn dcap) w ht hd hm1 (by omega) HSM.out)
     have hgn:=zpq h64
     have HTB:=Lib.hid (zhd (us:=zw (zm l dn)) (by rw [show (zw (zm l dn)).length=dn by unfold zw;rw [List.length_map,zH]];omega) h64)
     unfold glay at hE
     obtain ⟨us,hus⟩:∃ us,us=zw (zm l dn):=⟨_,rfl⟩
     rw [←hus] at hE hst hfi HPK hgn HTB
     obtain ⟨G,hG⟩:∃ G,G=gnum us:=⟨_,rfl⟩
     obtain ⟨tl,htl⟩:∃ tl,tl=zeM us:=⟨_,rfl⟩
     obtain ⟨x1,hx1⟩:∃ x1,x1=zfb l us:=⟨_,rfl⟩
     obtain ⟨x0,hx0⟩:∃ x0,x0=l.headD 0:=⟨_,rfl⟩
     rw [←hG,←htl,←hx1,←hx0,←HN.out] at hE
     rw [←hG,←htl] at HPK
     rw [←hG] at hgn
     rw [←htl] at HTB
     rw [←hx1] at hst hfi
     obtain ⟨u0,f0,ok0,hd0⟩:∃ u0 f0 ok0,zE l 0=(u0,f0,ok0):=⟨_,_,_,rfl⟩
     have hu0:(u0:Int) < 18446744073709551616:=by have h:=zc4 (l.getD 0 0) (l.getD (0+1) 0);unfold zE at hd0;rw [hd0] at h;dsimp only at h;omega
     rw [hd0] at hst
     have HSP:=Lib.hid (fun (w:World)=>zgm 0 u0 f0 w (by unfold inInt;omega) hu0)
     rw [hst] at HSP
     unfold RetG at HSP
     have HE2:=Lib.hid hE
     have HX1:=Lib.hid hfi
     have HG31:=Lib.hid hgn
     have HX0:=Lib.hid (show inInt x0 by rw [hx0];exact HL0.out)
     have HC0:=Lib.hid (show ∀ W,Below w.heap.size w W→∃ ad,A=some ad∧ad.block < W.heap.size∧W.cell? (ad.add 0)=some (.int .i64 x0) from fun W hW=>by
      obtain ⟨ad,e1,e2,e3⟩:=(HV.out.below hW).at (k:=0) (by have:=HN.out;omega)
      refine ⟨ad,e1,e2,?_⟩
      rw [e3,hx0]
      cases l with
      | nil=>have:=HN.out;simp at this;omega
      | cons a t=>rfl)
     have HDC:=Lib.hid (show ∀ W,IsR dc (zm l dn) (.slice DA dn dcap) W→∃ ad,DA=some ad∧ad.block < W.heap.size∧W.cell? ad=some (.int .u64 (u0:Int))∧W.cell? ⟨ad.block,ad.off+1,none⟩=some (.bool f0) from fun W hW=>by
      obtain ⟨ad,e1,e2,e3⟩:=hW.at (m:=2) zc6 (by omega) (k:=0) (by rw [zH];exact hm1)
      have e4:(zm l dn)[0]? = some (u0,f0):=by rw [zdq 0 hm1,hd0];rfl
      rw [List.getElem?_eq_getElem (by rw [zH];exact hm1)] at e4
      injection e4 with e4
      rw [e4] at e3
      have k0:=zg4 e3
      rw [Nat.zero_mul] at k0
      have ha0:ad.add 0=ad:=by simp [Addr.add]
      rw [ha0] at k0
      exact ⟨ad,e1,e2,k0.1,k0.2⟩)
     rw [hway] at HWAY
     clear hway hE hst hfi h64 hgn hus hG htl hx1 hx0 hd0 hu0
     go_wp2_with fail
     refine HWAY.out.mono ?_
     rintro e w2 ⟨rfl,hb2⟩
     have HB2:=Lib.hid (za HB1.out hb2)
     have HT2:=Lib.hid (HT1.out.below hb2 HT1.out.lt)
     have HD2:=Lib.hid (HD1.out.below hb2)
     clear hb2
     go_wp2_with fail
     refine (HPK.out w2 HT2.out HD2.out).mono ?_
     rintro e w3 ⟨pv,rfl,hp3,hb3⟩
     have HB3:=Lib.hid (za HB2.out hb3)
     have HT3:=Lib.hid (HT2.out.below hb3 HT2.out.lt)
     have HP3:=Lib.hid hp3
     obtain ⟨da,rfl,hda,hdc1,hdc2⟩:=HDC.out w3 (HD2.out.below hb3)
     clear hb3 hp3
     have ha0:da.add 0=da:=by simp [Addr.add]
     go_wp2_with fail
     refine (HSP.out w3).mono ?_
     rintro e w4 ⟨rfl,hb4⟩
     have HB4:=Lib.hid (za HB3.out hb4)
     have HT4:=Lib.hid (HT3.out.below hb4 HT3.out.lt)
     have HP4:=Lib.hid (IsB.below HP3.out hb4)
     clear hb4 hdc1 hdc2 hda ha0
     go_wp2
     obtain ⟨ad,rfl,had,_⟩:=HC0.out w4 HB4.out
     refine wp_region_list [.is (.int .i64 (G:Int)),.is (.slice (some ad) n c),.is (.int .i64 (n:Int)),.bytes (zz 3 G n),.is (.slice (some ad) n c),.is (.pointer (some (ad.add 0))),.is (.int .i64 x0),.is (.bool false),.bytes (zz 3 G n ++ vput (vint x0 false)),.bytes (zz 3 G n ++ vput (vint x0 false))] [some 55,some 56,some 57,some 58,some 59,some 60,some 61,some 62,some 63,some 13] (by kernel_rfl) (by kernel_rfl) (by kernel_rfl) rfl ⟨?_,?_,?_,?_,?_,?_,?_,?_,?_,?_,trivial⟩ ?_
     ·intro ρ W1 hb1 H
      exact zd rfl (H.old 8 _ (by kernel_rfl) rfl) ⟨rfl,Below.refl _ _⟩
     ·intro ρ W1 hb1 H
      exact zd rfl (H.old 0 _ (by kernel_rfl) rfl) ⟨rfl,Below.refl _ _⟩
     ·intro ρ W1 hb1 H
      exact zbF Tryz.underlying47 rfl (H.new 56 1 (by kernel_rfl)) ⟨rfl,Below.refl _ _⟩
     ·intro ρ W1 hb1 H
      have e0:ρ (.tmp 55)=.int .i64 (G:Int):=H.new 55 0 (by kernel_rfl)
      have e1:ρ (.tmp 57)=.int .i64 (n:Int):=H.new 57 2 (by kernel_rfl)
      refine zk rfl (fun _ _=>by kernel_rfl) (H.func _) (args:=#[.int .i64 3,.int .i64 (G:Int),.int .i64 (n:Int)]) (by simp [e0,e1,H.const]) ?_
      have hG:=HG31.out
      refine (zjV 3 (G:Int) (n:Int) W1 (HT4.out.below hb1 HT4.out.lt) (by unfold inInt;omega) (by unfold inInt;omega) (by unfold inInt;omega)).mono ?_
      rintro e w' ⟨u,h1,h2,h3⟩
      rw [show ((3:Int))=((3:Nat):Int) from rfl,ze3 (by omega) hG (by omega) (by omega)] at h2
      exact ⟨_,h1,h2,h3⟩
     ·intro ρ W1 hb1 H
      exact zd rfl (H.old 0 _ (by kernel_rfl) rfl) ⟨rfl,Below.refl _ _⟩
     ·intro ρ W1 hb1 H
      exact zF (k:=0) zdk rfl (H.new 59 4 (by kernel_rfl)) (H.const _) (by omega) ⟨rfl,Below.refl _ _⟩
     ·intro ρ W1 hb1 H
      obtain ⟨ad',e1,_,e2⟩:=HC0.out W1 (za HB4.out hb1)
      injection e1 with e1
      subst e1
      exact ze rfl (H.new 60 5 (by kernel_rfl)) Tryz.underlying3 rfl e2 ⟨rfl,Below.refl _ _⟩
     ·intro ρ W1 hb1 H
      exact zd rfl (H.old 1 _ (by kernel_rfl) rfl) ⟨rfl,Below.refl _ _⟩
     ·intro ρ W1 hb1 H
      have e0:IsB (zz 3 G n) (ρ (.tmp 58)) W1:=H.new 58 3 (by kernel_rfl)
      have e1:ρ (.tmp 61)=.int .i64 x0:=H.new 61 6 (by kernel_rfl)
      have e2:ρ (.tmp 62)=.bool false:=H.new 62 7 (by kernel_rfl)
      obtain ⟨hv,hhv⟩:∃ hv,hv=ρ (.tmp 58):=⟨_,rfl⟩
      rw [←hhv] at e0
      refine zk rfl (fun _ _=>by kernel_rfl) (H.func _) (args:=#[hv,.int .i64 x0,.bool false]) (by simp [hhv,e1,e2]) ?_
      exact (zhT x0 false e0 (by rw [zT];omega) HX0.out.1 HX0.out.2).mono fun e w' ⟨u,h1,h2,h3⟩=>⟨_,h1,h2,h3⟩
     ·intro ρ W1 hb1 H
      exact zf rfl rfl ⟨H.new 63 8 (by kernel_rfl),Below.refl _ _⟩
     ·intro vs W1 hb1 hfs
      have f9:IsB (zz 3 G n ++ vput (vint x0 false)) (vs 9) W1:=hfs 9 (by decide)
      clear hfs
      simp only [zr,Nat.zero_add,Nat.reduceAdd]
      generalize vs 0=z0
      generalize vs 1=z1
      generalize vs 2=z2
      generalize vs 3=z3
      generalize vs 4=z4
      generalize vs 5=z5
      generalize vs 6=z6
      generalize vs 7=z7
      generalize vs 8=z8
      generalize vs 9=z9 at f9 ⊢
      simp only [Act.put,List.setIfInBounds_toArray,List.set_cons_succ,List.set_cons_zero]
      have HO:=Lib.hid f9
      have HBa:=Lib.hid (za HB4.out hb1)
      have HP5:=Lib.hid (IsB.below HP4.out hb1)
      have HLN:=Lib.hid (show (zz 3 G n ++ vput (vint x0 false)).length≤1000 by rw [List.length_append,zT];have:=zbz (x:=vint x0 false) (ziU HX0.out);omega)
      clear f9 hb1
      go_wp2_with fail
      refine (zhU x1 true HO.out (by have:=HLN.out;omega) HX1.out.1 HX1.out.2).mono ?_
      rintro e w6 ⟨v6,rfl,hown6,hb6⟩
      have hp6:=IsB.below HP5.out hb6
      obtain ⟨A7,n7,c7,rfl⟩:=IsV.shape (f:=bv) hp6
      obtain ⟨hn7,hA7,-,-,hl7⟩:=IsV.parts (f:=bv) (show IsV bv _ _ _ from hp6)
      have hM7:(tl.map bv).length=n7:=by rw [List.length_map];exact hn7
      have hn7b:n7≤5000:=by rw [←hn7];exact HTB.out
      have HM7:=Lib.hid hM7
      have hzz6:=hb6.size
      obtain ⟨K6,hK6⟩:∃ K,K=(zz 3 G n ++ vput (vint x0 false) ++ vput (vint x1 true)).length:=⟨_,rfl⟩
      have hK6b:K6≤2000:=by rw [hK6,List.length_append];have:=zbz (x:=vint x1 true) (ziU HX1.out);have:=HLN.out;omega
      rw [←hK6] at hown6
      have HK6:=Lib.hid hK6
      obtain ⟨xs6,hx6⟩:∃ xs,xs=(zz 3 G n ++ vput (vint x0 false) ++ vput (vint x1 true)).map bv:=⟨_,rfl⟩
      rw [←hx6] at hown6
      have HX6:=Lib.hid hx6
      clear hp6 hM7 hn7 hK6 hx6
      go_wp2_with (at_builtin;refine zo elemB rfl _ _ rfl W1.heap.size _ _ _ _ _ _ (tl.map bv) W1 rfl rfl hA7 HM7.out hl7 (zcb _) hown6 hb6 hzz6 (by omega) (by omega) ?_)
      intro v8 w8 hown8 hb8 _ _
      have HI9:=Lib.hid (show w8.ownsRow w.heap.size 5 1 v8 (zz 3 G n ++ vput (vint x0 false) ++ vput (vint x1 true) ++ tl).length ((zz 3 G n ++ vput (vint x0 false) ++ vput (vint x1 true) ++ tl).map bv) by
       rw [List.map_append,←HX6.out,List.length_append,←HK6.out,show tl.length=n7 by have:=HM7.out;rwa [List.length_map] at this]
       exact zbR HBa.out.size hown8)
      have HB9:=Lib.hid (za HBa.out hb8)
      clear hown8 hb8 hown6 hzz6
      go_wp2
      go_ret2
      rw [HE2.out]
      exact ⟨_,rfl,HI9.out,HB9.out⟩
   ·have hE:=Lib.hid (zep (s:=false) (show zbK l (zbA l) (l.length - 1)=none from zeL (k:=i) (by omega) (zpp hbad)))
    clear hi hbad
    go_wp2
    go_ret2
    rw [hE.out]
    exact RetEO.nil _ hb1
theorem zrl (l:List Int) (v:Value) (s:Bool) (w:World) (ht:WTab w) (hv:IsV iv l v w) (hl:∀ x∈l,inInt x) (hb:l.length≤1000000):Calls Tryz.prog 126 #[v,.bool s] w (RetE w (zd9 l s)):=(zrk l v s w ht hv hl hb).mono fun _ _ h=>h.e
theorem zfZ {l:List UInt8} {v:Value} {w:World} (s:Bool) (h:IsB l v w) (hl:l.length≤1000000) (hn:zbx l s=none):Calls Tryz.prog 155 #[v,.bool s] w fun e w'=>∃ r,e=.returned (.tuple #[.int .i64 0,r,.int .i64 2])∧Below w.heap.size w w':=by
 refine (zgL s h hl).mono fun e w' h=>?_
 obtain ⟨r,h1,_,h3⟩:=h.parts
 rw [hn] at h1
 exact ⟨r,h1,h3⟩
theorem zf0 {l r:List UInt8} {v:Value} {w:World} {x:Int} (s:Bool) (h:IsB l v w) (hl:l.length≤1000000) (hn:zbx l s=some (x,r)):Calls Tryz.prog 155 #[v,.bool s] w fun e w'=>∃ u,e=.returned (.tuple #[.int .i64 x,u,.int .i64 0])∧OwnB w r u w'∧Below w.heap.size w w':=by
 refine (zgL s h hl).mono fun e w' h=>?_
 obtain ⟨u,h1,h2,h3⟩:=h.owned
 rw [hn] at h1 h2
 exact ⟨u,h1,h2,h3⟩
def gup (r:List UInt8) (C M u0:Nat):Option (List Nat × List UInt8):=
 if C=0 then some (List.replicate (M - 1) u0,r)
 else if (zh r (M - 2:Nat) (wof C)).2.2=0 then some (u0::(zh r (M - 2:Nat) (wof C)).1,(zh r (M - 2:Nat) (wof C)).2.1) else none
def ztA (s f:Bool) (x:Int):Option (List Nat × List UInt8)→List Int × List UInt8 × Int
 | none=>([],[],2)
 | some p=>gend s f x p.1 p.2
theorem zrm {s f:Bool} {x:Int} {u0 C M:Nat} {r:List UInt8} (hM:2≤M):zez s f x u0 (C:Int) (M:Int) r=ztA s f x (gup r C M u0):=by
 unfold gup
 by_cases h0:C=0
 ·subst h0
  rw [if_pos rfl,zdo (by omega),show ((M:Int) - 1).toNat=M - 1 by omega]
  rfl
 ·rw [if_neg h0]
  obtain ⟨us,q,e,hu⟩:∃ us q e,zh r (M - 2:Nat) (wof C)=(us,q,e):=⟨_,_,_,rfl⟩
  have hu2:zh r ((M:Int) - 2) (wof C)=(us,q,e):=by rw [←hu];congr 1;omega
  rw [hu]
  dsimp only
  by_cases he:e=0
  ·subst he
   rw [if_pos rfl,zdp (by omega) hu2]
   rfl
  ·rw [if_neg he,zfd (by omega) hu2 he]
   rfl
def ztB (f:Bool) (o:Option (List Nat × List UInt8)) (w0 w:World) (e:Ending) (w':World):Prop:=
 match o with
 | none=>e=.returned (.tuple #[.slice none 0 0,.slice none 0 0,.bool false])∧Below w.heap.size w w'
 | some p=>∃ u r,e=.returned (.tuple #[u,r,.bool true])∧IsR dc (zbV f p.1) u w'∧OwnB w0 p.2 r w'∧Below w.heap.size w w'
theorem znL (r:List UInt8) (v:Value) (C M:Nat) (d:Int) (u0:Nat) (f:Bool) (w0 w:World) (ht:WTab w) (hv:OwnB w0 r v w) (h00:w0.heap.size≤w.heap.size) (hb:r.length≤1000000) (hC:C≤31) (hM2:2≤M) (hM:M≤512) (hd:inInt d) (hx:zx 0 d=(u0,f,true)) :
  Calls Tryz.prog 156 #[v,.int .i64 (C:Int),.int .i64 (M:Int),.int .i64 d] w (ztB f (gup r C M u0) w0 w):=by
 unfold gup
 by_cases h0:C=0
 ·subst h0
  rw [if_pos rfl]
  refine (zlA v M d u0 f w hM2 hM hd hx).mono ?_
  rintro e w' ⟨u,h1,h2,h3⟩
  exact ⟨u,v,h1,h2,hv.below h3,h3⟩
 ·rw [if_neg h0]
  refine (zlB r v C M d u0 f w ht hv.isB hb (by omega) hC hM2 hM hd hx).mono ?_
  intro e w' h
  split at h
  ·rename_i he
   rw [if_pos he]
   obtain ⟨u,q,h1,h2,h3,h4⟩:=h
   exact ⟨u,q,h1,h2,OwnB.base h00 h3,h4⟩
  ·rename_i he
   rw [if_neg he]
   exact h
theorem zth {r q:List UInt8} {C M u0:Nat} {us:List Nat} (h:gup r C M u0=some (us,q)) (hM2:2≤M) (hM:M≤512) (hu:u0 < 2 ^ 64):us.length≤1000∧∀ u∈us,u < 2 ^ 64:=by
 unfold gup at h
 by_cases h0:C=0
 ·rw [if_pos h0] at h
  injection h with h
  injection h with h1 h2
  subst h1
  refine ⟨by rw [List.length_replicate];omega,fun u hm=>?_⟩
  rw [List.eq_of_mem_replicate hm]
  exact hu
 ·rw [if_neg h0] at h
  obtain ⟨vs,q',e,hv⟩:∃ us q e,zh r (M - 2:Nat) (wof C)=(us,q,e):=⟨_,_,_,rfl⟩
  rw [hv] at h
  dsimp only at h
  split at h
  ·rename_i he
   subst he
   injection h with h
   injection h with h1 h2
   subst h1
   have h3:=zJ hv
   have h4:∀ u∈vs,u < 2 ^ 64:=by have h:=(zZ (l:=r) (M:=(M - 2:Nat)) (W:=wof C)).1;rw [hv] at h;exact h
   refine ⟨by rw [List.length_cons];omega,fun u hm=>?_⟩
   rcases List.mem_cons.1 hm with rfl | hm
   ·exact hu
   ·exact h4 u hm
  ·cases h
theorem zpr (l:List UInt8) (v:Value) (s:Bool) (w:World) (ht:WTab w) (hv:IsB l v w) (hb:l.length≤1000000):Calls Tryz.prog 127 #[v,.bool s] w (RetIO w (zR l s)):=by
 have HLK:=Lib.hid (zgW l v w hv hb)
 unfold RetK at HLK
 have HT:=Lib.hid ht
 rcases zgh l with ⟨_,hd⟩ | ⟨_,K,C,M,hK,hC,hM1,hM,hd⟩
 ·have hE:=Lib.hid (zb7 (l:=l) (s:=s) (.inl (by rw [hd];decide)))
  rw [hd] at HLK
  dsimp only at HLK
  clear hd ht hv hb
  go_enter Tryz.func127,Tryz.ntmps127
  go_wp2_with fail
  refine HLK.out.mono ?_
  rintro e w1 ⟨v1,rfl,_,hb1⟩
  go_wp2
  go_ret3
  rw [hE.out]
  exact RetIO.nil _ hb1
 ·by_cases hk:K=3∧2≤M
  ·obtain ⟨hk3,hM2⟩:=hk
   subst hk3
   have hE0:=Lib.hid (zdn (s:=s) hd (by omega))
   rw [hd] at HLK
   dsimp only at HLK
   have HRL:=Lib.hid (show (l.drop 2).length≤1000000 by rw [List.length_drop];omega)
   clear hd ht hv hb hK hM1
   generalize l.drop 2=r0 at HLK HRL hE0
   go_enter Tryz.func127,Tryz.ntmps127
   go_wp2_with fail
   refine HLK.out.mono ?_
   rintro e w1 ⟨v1,rfl,hi1,hb1⟩
   have HI1:=Lib.hid hi1
   have HB1:=Lib.hid hb1
   clear hi1 hb1 HLK
   have hMi:¬(M:Int) < 2:=by omega
   go_wp2_with fail
   cases h1:zbx r0 s with
   | none =>
    have hE:=Lib.hid (hE0.out.trans (zes h1))
    refine (zfZ s HI1.out HRL.out h1).mono ?_
    rintro e w2 ⟨v2,rfl,hb2⟩
    clear h1
    go_wp2
    go_ret3
    rw [hE.out]
    exact RetIO.nil _ (za HB1.out hb2)
   | some p =>
   obtain ⟨x,r1⟩:=p
   have HX:=Lib.hid (zc5 h1)
   have H1:=Lib.hid h1
   refine (zf0 s HI1.out HRL.out h1).mono ?_
   rintro e w2 ⟨v2,rfl,ho2,hb2⟩
   have HO2:=Lib.hid ho2
   have HB2:=Lib.hid (za HB1.out hb2)
   have HRL1:=Lib.hid (show r1.length≤1000000 from Nat.le_trans HX.out.2 HRL.out)
   clear h1 ho2 hb2
   go_wp2_with fail
   cases h2:zbx r1 true with
   | none =>
    have hE:=Lib.hid (hE0.out.trans (zdL H1.out h2))
    refine (zfZ true HO2.out.isB HRL1.out h2).mono ?_
    rintro e w3 ⟨v3,rfl,hb3⟩
    clear h2
    go_wp2
    go_ret3
    rw [hE.out]
    exact RetIO.nil _ (za HB2.out hb3)
   | some p =>
   obtain ⟨d,r2⟩:=p
   have HD:=Lib.hid (zc5 h2)
   have H2:=Lib.hid h2
   refine (zf0 true HO2.out.isB HRL1.out h2).mono ?_
   rintro e w3 ⟨v3,rfl,ho3,hb3⟩
   have HO3:=Lib.hid (OwnB.base HB2.out.size ho3)
   have HB3:=Lib.hid (za HB2.out hb3)
   have HT3:=Lib.hid (HT.out.below HB3.out HT.out.lt)
   have HRL2:=Lib.hid (show r2.length≤1000000 from Nat.le_trans HD.out.2 HRL1.out)
   clear h2 ho3 hb3
   go_wp2_with fail
   obtain ⟨u0,f,ok,hg⟩:∃ u0 f ok,zx 0 d=(u0,f,ok):=⟨_,_,_,rfl⟩
   cases ok with
   | false =>
    have hE:=Lib.hid (hE0.out.trans ((zcl H1.out H2.out hg).trans (if_neg (by decide))))
    refine (znI v3 (C:Int) (M:Int) d w3 HD.out.1 (by rw [hg])).mono ?_
    rintro e w4 ⟨rfl,hb4⟩
    clear hg
    go_wp2
    go_ret3
    rw [hE.out]
    exact RetIO.nil _ (za HB3.out hb4)
   | true =>
   have hE1:=Lib.hid (hE0.out.trans ((zcl H1.out H2.out hg).trans ((if_pos rfl).trans (zrm hM2))))
   have hu0:u0 < 2 ^ 64:=by have h:=znw 0 d;rw [hg] at h;exact h
   have HUP:=Lib.hid (znL r2 v3 C M d u0 f w w3 HT3.out HO3.out HB3.out.size HRL2.out hC hM2 hM HD.out.1 hg)
   refine HUP.out.mono ?_
   cases hup:gup r2 C M u0 with
   | none =>
    rintro e w4 ⟨rfl,hb4⟩
    have hE:=Lib.hid (show zR l s=([],[],2) by rw [hE1.out,hup];rfl)
    clear hg hup hu0
    go_wp2
    go_ret3
    rw [hE.out]
    exact RetIO.nil _ (za HB3.out hb4)
   | some p =>
   obtain ⟨us,q⟩:=p
   rintro e w4 ⟨v4,v5,rfl,hd4,ho4,hb4⟩
   have hbd:=zth hup hM2 hM hu0
   have HE2:=Lib.hid (show zR l s=gend s f x us q by rw [hE1.out,hup];rfl)
   have HNM:=Lib.hid (zly s f x us v4 w4 hd4 HX.out.1 hbd.2 hbd.1)
   have HO4:=Lib.hid ho4
   have HB4:=Lib.hid (za HB3.out hb4)
   clear hg hup hu0 hbd hd4 ho4 hb4
   go_wp2_with fail
   refine HNM.out.mono ?_
   unfold gend at HE2
   cases hw:zbm s f x us with
   | none =>
    rintro e w5 ⟨rfl,hb5⟩
    have hE:=HE2
    rw [hw] at hE
    clear hw
    go_wp2
    go_ret3
    rw [hE.out]
    exact RetIO.nil _ (za HB4.out hb5)
   | some ys =>
    rintro e w5 ⟨v6,rfl,hi5,hb5⟩
    have hE:=HE2
    rw [hw] at hE
    have HI5:=Lib.hid hi5
    have HO5:=Lib.hid (HO4.out.below hb5)
    have HB5:=Lib.hid (za HB4.out hb5)
    clear hw hi5 hb5
    go_wp2
    go_ret3
    rw [hE.out]
    exact ⟨_,_,rfl,HI5.out,HO5.out,HB5.out⟩
  ·have hE:=Lib.hid (zb7 (l:=l) (s:=s) (.inr (by rw [hd];dsimp only;omega)))
   rw [hd] at HLK
   dsimp only at HLK
   clear hd ht hv hb
   by_cases hk3:K=3
   ·subst hk3
    have hMi:(M:Int) < 2:=by omega
    clear hk
    go_enter Tryz.func127,Tryz.ntmps127
    go_wp2_with fail
    refine HLK.out.mono ?_
    rintro e w1 ⟨v1,rfl,_,hb1⟩
    go_wp2
    go_ret3
    rw [hE.out]
    exact RetIO.nil _ hb1
   ·have d1:((K:Int) != 3)=true:=by simp;omega
    clear hk
    go_enter Tryz.func127,Tryz.ntmps127
    go_wp2_with fail
    refine HLK.out.mono ?_
    rintro e w1 ⟨v1,rfl,_,hb1⟩
    go_wp2
    go_ret3
    rw [hE.out]
    exact RetIO.nil _ hb1
end Go.Proofs.YtblpkmmhmdpkjaaGreatDoor
namespace Go.Proofs.YtblpkmmhmdpkjaaGreatDoor
def zcw (l:List Int):Int:=l.foldl min (l.headD 0)
theorem zf1:∀ (l:List Int) (n:Int),l.foldl min n≤n∧∀ x∈l,l.foldl min n≤x
 | [],n=>⟨Int.le_refl _,fun _ h=>by cases h⟩
 | y::l,n=>by
  have h:=zf1 l (min n y)
  rw [List.foldl_cons]
  refine ⟨by omega,fun x hx=>?_⟩
  rcases List.mem_cons.1 hx with rfl | hx
  ·omega
  ·exact h.2 x hx
theorem zfg:∀ (l:List Int) (n:Int),l.foldl min n=n∨l.foldl min n∈l
 | [],n=>.inl rfl
 | y::l,n=>by
  rw [List.foldl_cons]
  rcases zfg l (min n y) with h | h
  ·by_cases hn:n≤y
   ·left;omega
   ·right;rw [h,show min n y=y by omega];exact List.mem_cons_self
  ·exact .inr (List.mem_cons_of_mem _ h)
theorem ziV {l:List Int} {x:Int} (h:x∈l):zcw l≤x:=(zf1 l _).2 x h
theorem zhe {l:List Int} (h:1≤l.length):zcw l∈l:=by
 unfold zcw
 rcases zfg l (l.headD 0) with h2 | h2
 ·rw [h2]
  cases l with
  | nil=>simp at h
  | cons a t=>exact List.mem_cons_self
 ·exact h2
def pone (base x:Int):Option Nat:=if (zx base x).2.2=true then some (zx base x).1 else none
def pups (l:List Int):Option (List Nat):=omap (pone (zcw l)) l
theorem zka {base x:Int} {u:Nat} (hx:inInt x) (hle:base≤x) (h:pone base x=some u):zbh base u false=(x,true)∧(u:Int) < 9223372036854775808:=by
 unfold pone at h
 split at h
 ·rename_i hk
  injection h with h
  subst h
  have h1:=zg1 (a:=base) hx hk
  have h2:(zx base x).2.1=false:=by
   rcases zbJ base x with ⟨k,_⟩ | ⟨k1,_,_⟩ | ⟨_,_,k⟩
   ·rw [k]
   ·omega
   ·rw [k]
  rw [h2] at h1
  exact ⟨h1,zc4 base x⟩
 ·cases h
theorem ziW {l:List Int} {us:List Nat} (h:pups l=some us):us.length=l.length:=zb4 h
theorem zps {l:List Int} {us:List Nat} (hl:∀ x∈l,inInt x) (h:pups l=some us):∀ u∈us,(u:Int) < 9223372036854775808:=by
 intro u hu
 obtain ⟨x,hx,hu⟩:=ze1 h hu
 exact (zka (hl x hx) (ziV hx) hu).2
def pst (w:Nat) (us:List Nat):Nat→List (Nat × Nat) × Nat
 | 0=>([],0)
 | k+1 =>
  if us.getD k 0 / 2 ^ w=0 then pst w us k
  else ((pst w us k).1 ++ (List.replicate ((k - (pst w us k).2 - 1) / 255) (255,0) ++ [(k - (pst w us k).2 - 255*((k - (pst w us k).2 - 1) / 255),us.getD k 0 / 2 ^ w)]),k)
theorem zfh {w:Nat} {us:List Nat} {k:Nat} (h:us.getD k 0 / 2 ^ w=0):pst w us (k+1)=pst w us k:=by rw [pst,if_pos h]
theorem zfi {w:Nat} {us:List Nat} {k:Nat} (h:us.getD k 0 / 2 ^ w≠0):pst w us (k+1)=((pst w us k).1 ++ (List.replicate ((k - (pst w us k).2 - 1) / 255) (255,0) ++ [(k - (pst w us k).2 - 255*((k - (pst w us k).2 - 1) / 255),us.getD k 0 / 2 ^ w)]),k):=by rw [pst,if_neg h]
theorem zfj (w:Nat) (us:List Nat):∀ k,(pst w us k).2≤k
 | 0=>Nat.le_refl _
 | k+1=>by
  have:=zfj w us k
  by_cases h:us.getD k 0 / 2 ^ w=0
  ·rw [zfh h];omega
  ·rw [zfi h];exact Nat.le_succ k
theorem zpt (w:Nat) (us:List Nat):∀ k,∀ q∈(pst w us k).1,q.1≤255∧(q.2=0∨∃ i,i < k∧q.2=us.getD i 0 / 2 ^ w)
 | 0=>fun q hq=>by cases hq
 | k+1=>by
  intro q hq
  have ih:=zpt w us k
  by_cases h:us.getD k 0 / 2 ^ w=0
  ·rw [zfh h] at hq
   obtain ⟨h1,h2⟩:=ih q hq
   exact ⟨h1,h2.imp id fun ⟨i,hi,h3⟩=>⟨i,by omega,h3⟩⟩
  ·rw [zfi h] at hq
   simp only [List.mem_append,List.mem_replicate,List.mem_singleton] at hq
   rcases hq with hq | ⟨_,hq⟩ | hq
   ·obtain ⟨h1,h2⟩:=ih q hq
    exact ⟨h1,h2.imp id fun ⟨i,hi,h3⟩=>⟨i,by omega,h3⟩⟩
   ·subst hq;exact ⟨Nat.le_refl _,.inl rfl⟩
   ·subst hq;exact ⟨by dsimp only;omega,.inr ⟨k,by omega,rfl⟩⟩
def zn (w:Nat) (us:List Nat):List (Nat × Nat):=(pst w us us.length).1
def pgw (ps:List (Nat × Nat)):Nat:=max 1 (zbS (ps.map (·.1)))
def ppw (ps:List (Nat × Nat)):Nat:=(zi (max 1 (zbS (ps.map (·.2))):Nat)).toNat
def zb2 (w:Nat):Nat:=(zbb (w:Int)).toNat
theorem znM:∀ n:Fin 65,1≤zi (n.val:Int)∧zi (n.val:Int)≤64∧(n.val:Int)≤zi (n.val:Int)∧0≤zbb (zi (n.val:Int))∧zbb (zi (n.val:Int))≤31∧wof (zbb (zi (n.val:Int)))=zi (n.val:Int):=by decide +kernel
theorem zkb {n:Nat} (h:n≤64):1≤(zi (n:Int)).toNat∧(zi (n:Int)).toNat≤64∧n≤(zi (n:Int)).toNat∧zb2 (zi (n:Int)).toNat≤31∧wof (zb2 (zi (n:Int)).toNat:Int)=((zi (n:Int)).toNat:Int)∧zi (n:Int)=((zi (n:Int)).toNat:Int)∧zbb ((zi (n:Int)).toNat:Int)=(zb2 (zi (n:Int)).toNat:Int):=by
 have h1:=znM ⟨n,by omega⟩
 dsimp only at h1
 have e:zi (n:Int)=((zi (n:Int)).toNat:Int):=by omega
 have e2:zbb ((zi (n:Int)).toNat:Int)=(zb2 (zi (n:Int)).toNat:Int):=by unfold zb2;rw [←e];omega
 refine ⟨by omega,by omega,by omega,?_,?_,e,e2⟩
 ·rw [←e] at e2;omega
 ·rw [←e2,←e];exact h1.2.2.2.2.2
theorem zsf {w:Nat} {us:List Nat} (hu:∀ u∈us,u < 2 ^ 64):zbS ((zn w us).map (·.2))≤64∧zbS ((zn w us).map (·.1))≤8∧(∀ q∈zn w us,q.1≤255∧q.2 < 2 ^ 64):=by
 have hq:∀ q∈zn w us,q.1≤255∧q.2 < 2 ^ 64:=by
  intro q hq
  obtain ⟨h1,h2⟩:=zpt w us us.length q hq
  refine ⟨h1,?_⟩
  rcases h2 with h2 | ⟨i,hi,h2⟩
  ·rw [h2];exact Nat.two_pow_pos _
  ·rw [h2,List.getD_eq_getElem?_getD,List.getElem?_eq_getElem hi]
   exact Nat.lt_of_le_of_lt (Nat.div_le_self _ _) (hu _ (List.getElem_mem hi))
 refine ⟨zei fun x hx=>?_,?_,hq⟩
 ·obtain ⟨q,hm,rfl⟩:=List.mem_map.1 hx
  exact (hq q hm).2
 ·have h64:∀ x∈(zn w us).map (·.1),x < 2 ^ 64:=fun x hx=>by
   obtain ⟨q,hm,rfl⟩:=List.mem_map.1 hx
   exact Nat.lt_of_le_of_lt (hq q hm).1 (by decide)
  rw [←zeX h64]
  refine zc1 (by omega) ?_
  have:∀ (l:List Nat) (n:Nat),n≤255→(∀ x∈l,x≤255)→l.foldl (fun n x=>max n x) n≤255:=by
   intro l
   induction l with
   | nil=>intro n hn _;exact hn
   | cons y l ih=>intro n hn h;rw [List.foldl_cons];exact ih _ (by have:=h y List.mem_cons_self;omega) fun x hx=>h x (List.mem_cons_of_mem _ hx)
  have h2:=this ((zn w us).map (·.1)) 0 (by omega) fun x hx=>by
   obtain ⟨q,hm,rfl⟩:=List.mem_map.1 hx
   exact (hq q hm).1
  unfold wtop
  show _ < 256
  omega
def zeA (base:Int):Nat:=(zx 0 base).1
def pn (base:Int):Nat:=zY (zeA base) / 8+1
def zdr (base:Int):List UInt8:=be (pn base) (zeA base+if base < 0 then 2 ^ (8*pn base - 1) else 0)
def plow (us:List Nat) (w:Nat):List Nat:=us.map (· % 2 ^ w)
def zcm (ps:List (Nat × Nat)) (p:Nat):List Nat:=ps.map fun q=>q.1*2 ^ p+q.2
def zpu (base:Int) (ps:List (Nat × Nat)):List UInt8:=[UInt8.ofNat (32*(pn base - 1)+zb2 (ppw ps)),UInt8.ofNat (32*(pgw ps - 1)+ps.length)]
def play (base:Int) (us:List Nat) (w:Nat):List UInt8:=
 zz 2 (zb2 w) us.length ++ zpu base (zn w us) ++ zdr base ++ zby (plow us w) w ++ zby (zcm (zn w us) (ppw (zn w us))) (zi ((pgw (zn w us)+ppw (zn w us):Nat):Int)).toNat
def zcx (l:List Int) (W:Int) (s:Bool):List UInt8 × Int:=
 if zG l s=none∨l.length < 1∨512 < l.length∨zbb W < 0∨64≤W then ([],1)
 else match pups l with
  | none=>([],1)
  | some us =>
   if zcw l = -9223372036854775808∨31 < (zn W.toNat us).length∨64 < pgw (zn W.toNat us)+ppw (zn W.toNat us)∨64 < W.toNat+ppw (zn W.toNat us) then ([],1)
   else (play (zcw l) us W.toNat,0)
def zgc (w g p m:Nat) (st:Nat × List Nat) (v:Nat):Option (Nat × List Nat):=
 if v / 2 ^ p < 2 ^ g∧st.1+v / 2 ^ p < m∧(zY (v % 2 ^ p)+w≤63∨v % 2 ^ p=0) then
  some (st.1+v / 2 ^ p,st.2.set (st.1+v / 2 ^ p) (st.2.getD (st.1+v / 2 ^ p) 0 ^^^ (v % 2 ^ p*2 ^ w)))
 else none
def pall (w g p m:Nat):Nat × List Nat→List Nat→Option (Nat × List Nat)
 | st,[]=>some st
 | st,v::vs=>match zgc w g p m st v with | none=>none | some st'=>pall w g p m st' vs
theorem zdN (w g p m:Nat) (st:Nat × List Nat) (a b:List Nat):pall w g p m st (a ++ b)=match pall w g p m st a with | none=>none | some st'=>pall w g p m st' b:=by
 induction a generalizing st with
 | nil=>rfl
 | cons v vs ih =>
  rw [List.cons_append,pall,pall]
  cases zgc w g p m st v with
  | none=>rfl
  | some st'=>exact ih st'
theorem zpv (w g p m:Nat) (st:Nat × List Nat) (a:List Nat) (v:Nat):pall w g p m st (a ++ [v])=match pall w g p m st a with | none=>none | some st'=>zgc w g p m st' v:=by
 rw [zdN]
 cases pall w g p m st a with
 | none=>rfl
 | some st' =>
  dsimp only
  rw [pall]
  cases zgc w g p m st' v with
  | none=>rfl
  | some _=>rfl
def pend (s:Bool) (base:Int) (w g p m:Nat) (low both:List Nat) (q:List UInt8):List Int × List UInt8 × Int:=
 match pall w g p m (0,low) both with
 | none=>gbad
 | some st=>match omap (zbj s false base) st.2 with | none=>gbad | some xs=>(xs,q,0)
def zfH (s:Bool) (base:Int) (c m:Int) (g p some_:Nat) (r:List UInt8):List Int × List UInt8 × Int:=
 match zh r m (wof c) with
 | (low,r3,e)=>if e≠0 then gbad else match zh r3 some_ (zi ((g+p:Nat):Int)) with
  | (both,r4,e)=>if e≠0 then gbad else pend s base (wof c).toNat g p m.toNat low both r4
def zds (x:List UInt8):Int:=if 2 ^ (8*x.length - 1)≤bval x then -((bval x % 2 ^ (8*x.length - 1):Nat):Int) else ((bval x % 2 ^ (8*x.length - 1):Nat):Int)
def zhH (s:Bool) (c m:Int) (r:List UInt8):List Int × List UInt8 × Int:=
 if r.length < 2 then gbad
 else if 64 < (r.getD 1 0).toNat / 32+1+(wof ((r.getD 0 0).toNat % 32:Nat)).toNat∨r.length - 2 < (r.getD 0 0).toNat / 32+1 then gbad
 else zfH s (zds ((r.drop 2).take ((r.getD 0 0).toNat / 32+1))) c m ((r.getD 1 0).toNat / 32+1) (wof ((r.getD 0 0).toNat % 32:Nat)).toNat ((r.getD 1 0).toNat % 32) ((r.drop 2).drop ((r.getD 0 0).toNat / 32+1))
def zy (l:List UInt8) (s:Bool):List Int × List UInt8 × Int:=
 if (zp l).2.2.2.2≠0∨(zp l).1≠2 then gbad else zhH s (zp l).2.1 (zp l).2.2.1 (zp l).2.2.2.1
theorem zrn (w a b:Nat) (ha:a < 2 ^ w):a ^^^ (b*2 ^ w)=a+b*2 ^ w:=by
 refine Nat.eq_of_testBit_eq fun i=>?_
 rw [Nat.testBit_xor,Nat.mul_comm b,Nat.add_comm a,Nat.testBit_two_pow_mul_add b ha]
 by_cases h:i < w
 ·rw [if_pos h,Nat.testBit_two_pow_mul,decide_eq_false (by omega:¬w≤i)]
  simp
 ·rw [if_neg h,Nat.testBit_two_pow_mul,decide_eq_true (by omega:w≤i)]
  have h2:a.testBit i=false:=Nat.testBit_lt_two_pow (Nat.lt_of_lt_of_le ha (Nat.pow_le_pow_right (by omega) (by omega)))
  rw [h2]
  simp
theorem znN (u w:Nat):(u % 2 ^ w) ^^^ (u / 2 ^ w*2 ^ w)=u:=by
 rw [zrn w _ _ (Nat.mod_lt _ (Nat.two_pow_pos w)),Nat.mul_comm]
 have:=Nat.div_add_mod u (2 ^ w)
 omega
theorem zmI {w g p m:Nat} {st:Nat × List Nat} {gap patch:Nat} (hp:patch < 2 ^ p) (hg:gap < 2 ^ g) (hm:st.1+gap < m) (hb:zY patch+w≤63∨patch=0) :
  zgc w g p m st (gap*2 ^ p+patch)=some (st.1+gap,st.2.set (st.1+gap) (st.2.getD (st.1+gap) 0 ^^^ (patch*2 ^ w))):=by
 have e1:(gap*2 ^ p+patch) / 2 ^ p=gap:=by rw [Nat.mul_comm,Nat.mul_add_div (Nat.two_pow_pos p),Nat.div_eq_of_lt hp,Nat.add_zero]
 have e2:(gap*2 ^ p+patch) % 2 ^ p=patch:=by rw [Nat.mul_comm,Nat.mul_add_mod,Nat.mod_eq_of_lt hp]
 unfold zgc
 rw [e1,e2,if_pos ⟨hg,hm,hb⟩]
theorem zro {low:List Nat} {k:Nat}:low.set k (low.getD k 0)=low:=by
 by_cases h:k < low.length
 ·rw [List.getD_eq_getElem?_getD,List.getElem?_eq_getElem h,Option.getD_some];exact List.set_getElem_self h
 ·exact List.set_eq_of_length_le (by omega)
theorem zkc {w g p m:Nat} (hg:255 < 2 ^ g):∀ (j at_:Nat) (low:List Nat),at_+255*j < m→pall w g p m (at_,low) (zcm (List.replicate j (255,0)) p)=some (at_+255*j,low)
 | 0,at_,low,_=>by simp [zcm,pall]
 | j+1,at_,low,h=>by
  have hm:(at_,low).1+255 < m:=Nat.lt_of_le_of_lt (Nat.add_le_add_left (by omega:255≤255*(j+1)) at_) h
  have h1:=zmI (w:=w) (p:=p) (patch:=0) (Nat.two_pow_pos p) hg hm (.inr rfl)
  have h2:=zkc (w:=w) (p:=p) hg j (at_+255) low (by omega:at_+255+255*j < m)
  rw [Nat.zero_mul,Nat.xor_zero,zro] at h1
  dsimp only at h1
  unfold zcm at h2 ⊢
  rw [List.replicate_succ,List.map_cons,pall,h1]
  dsimp only
  rw [h2]
  congr 2
  omega
theorem zlC {w g p:Nat} {us:List Nat} (hu:∀ u∈us,(u:Int) < 9223372036854775808) (hw:w≤63):∀ k,k≤us.length→(∀ q∈(pst w us k).1,q.1 < 2 ^ g∧q.2 < 2 ^ p) →
  pall w g p us.length (0,plow us w) (zcm (pst w us k).1 p)=some ((pst w us k).2,us.take k ++ (plow us w).drop k)
 | 0,_,_=>by simp [pst,zcm,pall]
 | k+1,hk,h=>by
  have hll:(plow us w).length=us.length:=by simp [plow]
  have hkl:k < (plow us w).length:=by omega
  have hd:(plow us w).drop k=(us[k] % 2 ^ w)::(plow us w).drop (k+1):=by rw [List.drop_eq_getElem_cons hkl];simp [plow]
  have hgd:us.getD k 0=us[k]:=by rw [List.getD_eq_getElem?_getD,List.getElem?_eq_getElem (by omega)];rfl
  by_cases h0:us.getD k 0 / 2 ^ w=0
  ·rw [zfh h0] at h ⊢
   rw [zlC hu hw k (by omega) h,hd,List.take_succ_eq_append_getElem (by omega),List.append_assoc]
   rw [hgd] at h0
   have:us[k] % 2 ^ w=us[k]:=by have:=Nat.div_add_mod us[k] (2 ^ w);rw [h0] at this;omega
   rw [this]
   rfl
  ·rw [zfi h0] at h ⊢
   have hlast:=zfj w us k
   obtain ⟨last,hl⟩:∃ last,last=(pst w us k).2:=⟨_,rfl⟩
   obtain ⟨j,hj⟩:∃ j,j=(k - last - 1) / 255:=⟨_,rfl⟩
   rw [←hl,←hj] at h ⊢
   rw [←hl] at hlast
   have hih:=zlC hu hw k (by omega) fun q hq=>h q (List.mem_append_left _ hq)
   have hone:=h (k - last - 255*j,us.getD k 0 / 2 ^ w) (List.mem_append_right _ (List.mem_append_right _ (List.mem_singleton.2 rfl)))
   rw [zcm,List.map_append,List.map_append,zdN,←zcm,hih]
   dsimp only
   rw [←hl,zdN,←zcm]
   have hfill:pall w g p us.length (last,us.take k ++ (plow us w).drop k) (zcm (List.replicate j (255,0)) p)=some (last+255*j,us.take k ++ (plow us w).drop k):=by
    by_cases hj0:j=0
    ·subst hj0;rfl
    ·have h255:255 < 2 ^ g:=(h (255,0) (List.mem_append_right _ (List.mem_append_left _ (List.mem_replicate.2 ⟨hj0,rfl⟩)))).1
     exact zkc h255 j last _ (by omega)
   rw [hfill]
   dsimp only
   rw [List.map_cons,List.map_nil,pall]
   have hb:zY (us.getD k 0 / 2 ^ w)+w≤63:=by
    have h1:us.getD k 0 / 2 ^ w < 2 ^ (63 - w):=by
     rw [Nat.div_lt_iff_lt_mul (Nat.two_pow_pos w),←Nat.pow_add,show 63 - w+w=63 by omega,hgd]
     have:=hu us[k] (List.getElem_mem _)
     show us[k] < 9223372036854775808
     omega
    have:=zc1 (by omega) h1
    omega
   rw [zmI hone.2 hone.1 (by dsimp only;omega) (.inl hb)]
   dsimp only
   rw [show last+255*j+(k - last - 255*j)=k by omega,pall]
   congr 2
   have htl:(us.take k).length=k:=by rw [List.length_take];omega
   rw [hd,List.getD_eq_getElem?_getD,List.getElem?_append_right (by omega),htl,Nat.sub_self,List.getElem?_cons_zero,Option.getD_some,hgd,znN,List.set_append_right _ _ (by omega),htl,Nat.sub_self,List.set_cons_zero,List.take_succ_eq_append_getElem (by omega),List.append_assoc]
   rfl
theorem zie {x:Int} (h:0≤zbb x):wof (zbb x)=x∧zbb x≤31:=by
 refine ⟨?_,(zqP x).2⟩
 unfold zbb at h ⊢
 cases hf:(List.range 32).find? fun i=>wat i == x with
 | none=>rw [hf] at h;dsimp only at h;omega
 | some i =>
  dsimp only
  have h1:=List.find?_some hf
  have h2:=List.mem_range.1 (List.mem_of_find?_eq_some hf)
  rw [zmg h2]
  simpa using h1
theorem zfI {w:Nat} (h:0≤zbb (w:Int)):wof (zb2 w:Int)=(w:Int)∧zb2 w≤31∧zbb (w:Int)=(zb2 w:Int):=by
 have h1:=zie h
 have e:zbb (w:Int)=(zb2 w:Int):=by unfold zb2;omega
 rw [e] at h1
 exact ⟨h1.1,by omega,e⟩
theorem zeu {base:Int} (h:inInt base) (h2:base≠-9223372036854775808):(zeA base:Int)=(if base < 0 then -base else base)∧(zeA base:Int) < 9223372036854775808:=by
 unfold inInt at h
 unfold zeA
 rcases zbJ 0 base with ⟨_,k⟩ | ⟨k1,k2,k⟩ | ⟨k1,k2,k⟩
 ·omega
 ·rw [k,if_pos k1];dsimp only;omega
 ·rw [k,if_neg (by omega)];dsimp only;omega
theorem zpw {base:Int} (h:(zeA base:Int) < 9223372036854775808):1≤pn base∧pn base≤8∧zeA base < 2 ^ (8*pn base - 1):=by
 have h1:zeA base < 2 ^ 63:=by show zeA base < 9223372036854775808;omega
 have h2:=zc1 (by omega) h1
 have h3:=zdA (x:=zeA base) (Nat.lt_trans h1 (by decide))
 unfold pn
 refine ⟨by omega,by omega,Nat.lt_of_lt_of_le h3 (Nat.pow_le_pow_right (by omega) (by omega))⟩
theorem zdt (base:Int):(zdr base).length=pn base:=zcv _ _
theorem zlD {base:Int} (h:(zeA base:Int) < 9223372036854775808):bval (zdr base)=zeA base+if base < 0 then 2 ^ (8*pn base - 1) else 0:=by
 obtain ⟨h1,_,h3⟩:=zpw h
 unfold zdr
 rw [zfu,Nat.mod_eq_of_lt]
 rw [p256,show 8*pn base=(8*pn base - 1)+1 by omega,Nat.pow_succ,Nat.add_sub_cancel]
 split <;> omega
theorem znO {base:Int} (h:inInt base) (h2:base≠-9223372036854775808):zds (zdr base)=base:=by
 obtain ⟨hs,hlt⟩:=zeu h h2
 obtain ⟨_,_,h3⟩:=zpw hlt
 unfold zds
 rw [zdt,zlD hlt]
 generalize 2 ^ (8*pn base - 1)=P at *
 by_cases hb:base < 0
 ·rw [if_pos hb] at hs ⊢
  rw [if_pos (by omega),Nat.add_mod_right,Nat.mod_eq_of_lt h3]
  omega
 ·rw [if_neg hb] at hs ⊢
  rw [if_neg (by omega),Nat.add_zero,Nat.mod_eq_of_lt h3]
  omega
theorem zif {l:List Nat} (h:∀ x∈l,x < 2 ^ 64) {x:Nat} (hx:x∈l):x < 2 ^ zbS l:=by
 have h1:=(zeW (zk4 h) (zei h)).1 (by rw [zeX h];exact Nat.le_refl _)
 exact Nat.lt_of_le_of_lt (ziN hx) h1
theorem zkd {w:Nat} {us:List Nat} (hu:∀ u∈us,u < 2 ^ 64) :
  1≤pgw (zn w us)∧pgw (zn w us)≤8∧1≤ppw (zn w us)∧ppw (zn w us)≤64∧zi ((max 1 (zbS ((zn w us).map (·.2))):Nat):Int)=(ppw (zn w us):Int)∧zbb (ppw (zn w us):Int)=(zb2 (ppw (zn w us)):Int)∧zb2 (ppw (zn w us))≤31∧wof (zb2 (ppw (zn w us)):Int)=(ppw (zn w us):Int) ∧
  ∀ q∈zn w us,q.1 < 2 ^ pgw (zn w us)∧q.2 < 2 ^ ppw (zn w us):=by
 obtain ⟨h1,h2,h3⟩:=zsf (w:=w) hu
 obtain ⟨c1,c2,c3,c4,c5,c6,c7⟩:=zkb (n:=max 1 (zbS ((zn w us).map (·.2)))) (by omega)
 have hg:pgw (zn w us)=max 1 (zbS ((zn w us).map (·.1))):=rfl
 refine ⟨by omega,by omega,c1,c2,c6,c7,c4,c5,fun q hq=>⟨?_,?_⟩⟩
 ·have:=zif (l:=(zn w us).map (·.1)) (fun x hx=>by
   obtain ⟨q,hm,rfl⟩:=List.mem_map.1 hx
   exact Nat.lt_of_le_of_lt (h3 q hm).1 (by decide)) (List.mem_map_of_mem hq)
  exact Nat.lt_of_lt_of_le this (Nat.pow_le_pow_right (by omega) (by omega))
 ·have:=zif (l:=(zn w us).map (·.2)) (fun x hx=>by
   obtain ⟨q,hm,rfl⟩:=List.mem_map.1 hx
   exact (h3 q hm).2) (List.mem_map_of_mem hq)
  refine Nat.lt_of_lt_of_le this (Nat.pow_le_pow_right (by omega) ?_)
  show _≤(zi ((max 1 (zbS ((zn w us).map (·.2))):Nat):Int)).toNat
  omega
theorem zmJ {ps:List (Nat × Nat)} {g p:Nat} (h:∀ q∈ps,q.1 < 2 ^ g∧q.2 < 2 ^ p):∀ x∈zcm ps p,x < 2 ^ (g+p):=by
 intro x hx
 obtain ⟨q,hq,rfl⟩:=List.mem_map.1 hx
 obtain ⟨h1,h2⟩:=h q hq
 have:(q.1+1)*2 ^ p≤2 ^ g*2 ^ p:=Nat.mul_le_mul_right _ h1
 rw [Nat.pow_add]
 rw [Nat.add_mul] at this
 omega
theorem zgp {n:Nat} (h:n < 256):(UInt8.ofNat n).toNat=n:=by simp only [UInt8.toNat_ofNat',Nat.reducePow];exact Nat.mod_eq_of_lt h
theorem znP {l:List Int} {s:Bool} {us:List Nat} {w:Nat} (hl:∀ x∈l,inInt x∧(s=true∨0≤x)) (h1:1≤l.length) (h5:l.length≤512) (hc:0≤zbb (w:Int)) (hw:w < 64) (hu:pups l=some us)
  (hb:zcw l≠-9223372036854775808) (h31:(zn w us).length≤31) (hgp:pgw (zn w us)+ppw (zn w us)≤64) (b:List UInt8):zy (play (zcw l) us w ++ b) s=(l,b,0):=by
 have hbi:inInt (zcw l):=(hl _ (zhe h1)).1
 obtain ⟨hs,hlt⟩:=zeu hbi hb
 obtain ⟨n1,n8,_⟩:=zpw hlt
 have hu63:=zps (fun x hx=>(hl x hx).1) hu
 have hu64:∀ u∈us,u < 2 ^ 64:=fun u h=>by have:=hu63 u h;show u < 18446744073709551616;omega
 obtain ⟨g1,g8,p1,p64,_,_,pc,pw,hq⟩:=zkd (w:=w) hu64
 obtain ⟨cw,c31,_⟩:=zfI hc
 have hul:=ziW hu
 obtain ⟨W2,hW2⟩:∃ W2,W2=(zi ((pgw (zn w us)+ppw (zn w us):Nat):Int)).toNat:=⟨_,rfl⟩
 obtain ⟨_,d2,d3,_,_,d6,_⟩:=zkb hgp
 rw [←hW2] at d2 d3 d6
 have hbl:=zmJ hq
 have hbl2:∀ x∈zcm (zn w us) (ppw (zn w us)),x < 2 ^ W2:=fun x hx=>Nat.lt_of_lt_of_le (hbl x hx) (Nat.pow_le_pow_right (by omega) d3)
 have hst:=zlC (w:=w) (g:=pgw (zn w us)) (p:=ppw (zn w us)) hu63 (by omega) us.length (Nat.le_refl _) hq
 have hpe:zcm (pst w us us.length).1 (ppw (zn w us))=zcm (zn w us) (ppw (zn w us)):=rfl
 rw [hpe,List.take_of_length_le (Nat.le_refl _),List.drop_eq_nil_of_le (by simp [plow]),List.append_nil] at hst
 have hback:omap (zbj s false (zcw l)) us=some l:=zjO (fun x hx u h=>by
  have h2:=zka (hl x hx).1 (ziV hx) h
  unfold zbj
  rw [h2.1]
  exact if_pos ⟨rfl,(hl x hx).2⟩) hu
 have hll:(plow us w).length=us.length:=by simp [plow]
 have hpl:(zcm (zn w us) (ppw (zn w us))).length=(zn w us).length:=by simp [zcm]
 generalize hps:zn w us=ps at *
 generalize hpp:ppw ps=p at *
 generalize hgg:pgw ps=g at *
 have e0:(UInt8.ofNat (32*(pn (zcw l) - 1)+zb2 p)).toNat=32*(pn (zcw l) - 1)+zb2 p:=zgp (by omega)
 have e1:(UInt8.ofNat (32*(g - 1)+ps.length)).toNat=32*(g - 1)+ps.length:=zgp (by omega)
 have hlook:zp (play (zcw l) us w ++ b)=(2,(zb2 w:Int),(us.length:Int),UInt8.ofNat (32*(pn (zcw l) - 1)+zb2 p)::UInt8.ofNat (32*(g - 1)+ps.length)::(zdr (zcw l) ++ (zby (plow us w) w ++ (zby (zcm ps p) W2 ++ b))),0):=by
  unfold play zpu
  rw [hps,hpp,hgg,←hW2]
  simp only [List.append_assoc,List.cons_append,List.nil_append]
  exact zfB (k:=2) (by omega) c31 (by omega) (by omega) _
 unfold zy
 rw [hlook]
 dsimp only
 rw [if_neg (by omega)]
 unfold zhH
 simp only [List.getD_cons_zero,List.getD_cons_succ,List.drop_succ_cons,List.drop_zero,List.length_cons,List.length_append,e0,e1,zdt]
 rw [if_neg (by omega),show (32*(pn (zcw l) - 1)+zb2 p) % 32=zb2 p by omega,pw,Int.toNat_natCast,show (32*(pn (zcw l) - 1)+zb2 p) / 32+1=pn (zcw l) by omega,show (32*(g - 1)+ps.length) / 32+1=g by omega,show (32*(g - 1)+ps.length) % 32=ps.length by omega,
  if_neg (by omega),List.take_left' (zdt _),List.drop_left' (zdt _),znO hbi hb]
 unfold zfH
 rw [cw,zbT _ _ _ (by omega) (by omega),←hll,zc2 (fun x hx=>by
  obtain ⟨u,_,rfl⟩:=List.mem_map.1 hx
  exact Nat.mod_lt _ (Nat.two_pow_pos w))]
 dsimp only
 rw [if_neg (by decide),d6,zbT _ _ _ (by omega) d2,←hpl,zc2 hbl2]
 dsimp only
 rw [if_neg (by decide),hll]
 unfold pend
 rw [Int.toNat_natCast,Int.toNat_natCast,hst]
 dsimp only
 rw [hback]
end Go.Proofs.YtblpkmmhmdpkjaaGreatDoor
namespace Go.Proofs.YtblpkmmhmdpkjaaGreatDoor
open Go.RowKit
theorem zcW {l:List UInt8} {s:Bool} (h:(zp l).2.2.2.2≠0∨(zp l).1≠2):zy l s=([],[],2):=by unfold zy;rw [if_pos h];rfl
theorem zdu {l r:List UInt8} {s:Bool} {c m:Int} (h:zp l=(2,c,m,r,0)):zy l s=zhH s c m r:=by
 unfold zy
 rw [h]
 exact if_neg (by simp)
theorem zev {l r:List UInt8} {k c m:Int} (h:zp l=(k,c,m,r,0)):1≤m:=by
 by_cases h2:l.length < 2
 ·rw [zeH h2] at h;injection h with _ h;injection h with _ h;injection h with _ h;injection h with _ h;cases h
 ·rw [zen (X:=256*l[0].toNat+l[1].toNat) (by omega) rfl] at h
  injection h with _ h;injection h with _ h;injection h with h _
  omega
theorem zdO {r:List UInt8} {s:Bool} {c m:Int} (h:r.length < 2):zhH s c m r=([],[],2):=by unfold zhH;rw [if_pos h];rfl
theorem ziX {r d:List UInt8} {s:Bool} {c m:Int} {b0 b1 n g p t:Nat} (h2:2≤r.length) (h0:b0=r[0].toNat) (h1:b1=r[1].toNat) (hn:n=b0 / 32+1) (hg:g=b1 / 32+1) (ht:t=b1 % 32) (hp:wof ((b0 % 32:Nat):Int)=(p:Int)) (hd:d=r.drop 2) :
  zhH s c m r=if 64 < g+p∨d.length < n then ([],[],2) else zfH s (zds (d.take n)) c m g p t (d.drop n):=by
 have e0:(r.getD 0 0).toNat=b0:=by rw [h0,List.getD_eq_getElem?_getD,List.getElem?_eq_getElem (by omega)];rfl
 have e1:(r.getD 1 0).toNat=b1:=by rw [h1,List.getD_eq_getElem?_getD,List.getElem?_eq_getElem (by omega)];rfl
 have ep:(wof ((b0 % 32:Nat):Int)).toNat=p:=by rw [hp];rfl
 unfold zhH
 rw [if_neg (by omega),e0,e1,ep,←hn,←hg,←ht,←hd,show r.length - 2=d.length by rw [hd,List.length_drop]]
 rfl
theorem zke (b:UInt8) (r:List UInt8):bval (b::r)=b.toNat*256 ^ r.length+bval r:=by simp [bval]
theorem zf2 (r:List UInt8) (k:Nat) (h:k < r.length):bval (r.take (k+1))=256*bval (r.take k)+r[k].toNat:=by
 rw [List.take_succ_eq_append_getElem h,zgD]
 simp [bval]
 omega
theorem znQ {x:List UInt8} {x0 S:Nat} (h1:1≤x.length) (h8:x.length≤8) (hx:x0=x[0].toNat) (hS:S=bval x % 2 ^ (8*x.length - 1)) :
  zbh 0 S (decide (128≤x0))=(zds x,true)∧inInt (zds x)∧(S:Int) < 9223372036854775808:=by
 cases x with
 | nil=>simp at h1
 | cons b r =>
  simp only [List.getElem_cons_zero] at hx
  rw [List.length_cons] at h8 hS
  obtain ⟨P,hP⟩:∃ P,P=256 ^ r.length:=⟨_,rfl⟩
  have hpow:2 ^ (8*(r.length+1) - 1)=128*P:=by rw [hP,p256,show 8*(r.length+1) - 1=7+8*r.length by omega,Nat.pow_add]
  have hR:bval r < P:=by rw [hP];exact zda r
  have hPp:0 < P:=by omega
  have hPb:P≤72057594037927936:=by
   rw [hP]
   have:256 ^ r.length≤256 ^ 7:=Nat.pow_le_pow_right (by omega) (by omega)
   omega
  have hS2:S < 128*P:=by rw [hS,hpow];exact Nat.mod_lt _ (by omega)
  have hge:(2 ^ (8*(b::r).length - 1)≤bval (b::r))↔128≤x0:=by
   rw [List.length_cons,hpow,zke,←hP,←hx]
   constructor
   ·intro h
    refine Nat.not_lt.1 fun h2=>?_
    have h3:(x0+1)*P≤128*P:=Nat.mul_le_mul_right _ h2
    rw [Nat.add_mul] at h3
    omega
   ·intro h
    have h3:128*P≤x0*P:=Nat.mul_le_mul_right _ h
    omega
  have hpm:zds (b::r)=if 128≤x0 then -(S:Int) else (S:Int):=by
   unfold zds
   rw [List.length_cons,←hS]
   rw [List.length_cons] at hge
   by_cases h:128≤x0
   ·rw [if_pos h,if_pos (hge.2 h)]
   ·rw [if_neg h,if_neg fun h2=>h (hge.1 h2)]
  have hS3:(S:Int) < 9223372036854775808:=by omega
  refine ⟨?_,?_,hS3⟩
  ·rw [hpm]
   unfold zbh
   rw [if_neg (by omega)]
   by_cases h:128≤x0
   ·rw [if_pos (decide_eq_true h),if_neg (by omega),if_pos h];simp
   ·rw [if_neg (by simpa using h),if_neg (by omega),if_neg h];simp
  ·rw [hpm]
   unfold inInt
   split <;> omega
theorem zpx {B y k:Nat} (hk:1≤k) (hy:y < 256):(256*B+y) % 2 ^ (8*(k+1) - 1)=256*(B % 2 ^ (8*k - 1))+y:=by
 obtain ⟨M,hM⟩:∃ M,M=2 ^ (8*k - 1):=⟨_,rfl⟩
 have hp:0 < M:=by rw [hM];exact Nat.two_pow_pos _
 rw [show 2 ^ (8*(k+1) - 1)=256*M by rw [hM,show 8*(k+1) - 1=8+(8*k - 1) by omega,Nat.pow_add],←hM]
 have h1:=Nat.div_add_mod B M
 have h2:=Nat.mod_lt B hp
 obtain ⟨q,hq⟩:∃ q,q=B / M:=⟨_,rfl⟩
 obtain ⟨t,ht⟩:∃ t,t=B % M:=⟨_,rfl⟩
 rw [←hq,←ht] at h1
 rw [←ht] at h2 ⊢
 rw [show 256*B+y=(256*t+y)+(256*M)*q by rw [←h1,Nat.mul_add,Nat.mul_assoc];omega,Nat.add_mul_mod_self_left]
 exact Nat.mod_eq_of_lt (by omega)
theorem zfk {s:Bool} {base:Int} {c m:Int} {g p t:Nat} {r q:List UInt8} {us:List Nat} {e:Int} (hu:zh r m (wof c)=(us,q,e)) (he:e≠0):zfH s base c m g p t r=([],[],2):=by
 unfold zfH;rw [hu];dsimp only;rw [if_pos he];rfl
theorem zew {s:Bool} {base:Int} {c m:Int} {g p t:Nat} {r q q2:List UInt8} {us vs:List Nat} {e:Int} (hu:zh r m (wof c)=(us,q,0)) (hv:zh q (t:Int) (zi ((g+p:Nat):Int))=(vs,q2,e)) (he:e≠0):zfH s base c m g p t r=([],[],2):=by
 unfold zfH;rw [hu];dsimp only;rw [if_neg (by simp),hv];dsimp only;rw [if_pos he];rfl
theorem zfl {s:Bool} {base:Int} {c m:Int} {g p t:Nat} {r q q2:List UInt8} {us vs:List Nat} (hu:zh r m (wof c)=(us,q,0)) (hv:zh q (t:Int) (zi ((g+p:Nat):Int))=(vs,q2,0)):zfH s base c m g p t r=pend s base (wof c).toNat g p m.toNat us vs q2:=by
 unfold zfH;rw [hu];dsimp only;rw [if_neg (by simp),hv];dsimp only;rw [if_neg (by simp)]
theorem zdv {s:Bool} {base:Int} {w g p m:Nat} {low both:List Nat} {q:List UInt8} (h:pall w g p m (0,low) both=none):pend s base w g p m low both q=([],[],2):=by unfold pend;rw [h];rfl
theorem zeb {s:Bool} {base:Int} {w g p m a:Nat} {low both lf:List Nat} {q:List UInt8} (h:pall w g p m (0,low) both=some (a,lf)):pend s base w g p m low both q=match omap (zbj s false base) lf with | none=>([],[],2) | some xs=>(xs,q,0):=by unfold pend;rw [h];rfl
theorem zb3 {w g p m:Nat} {st:Nat × List Nat} {both:List Nat} {k:Nat} (h:pall w g p m st (both.take k)=none):pall w g p m st both=none:=by
 rw [←List.take_append_drop k both,zdN,h]
theorem zkf {w g p m:Nat} {st st':Nat × List Nat} {both:List Nat} {k v:Nat} (hk:k < both.length) (hv:v=both[k]) (h:pall w g p m st (both.take k)=some st'):pall w g p m st (both.take (k+1))=zgc w g p m st' v:=by
 rw [List.take_succ_eq_append_getElem hk,zpv,h,←hv]
theorem zmK {w g p m at_ v gap patch:Nat} {low:List Nat} (hg:gap=v / 2 ^ p) (hp:patch=v % 2 ^ p):zgc w g p m (at_,low) v=if gap < 2 ^ g∧at_+gap < m∧(zY patch+w≤63∨patch=0) then some (at_+gap,low.set (at_+gap) (low.getD (at_+gap) 0 ^^^ (patch*2 ^ w))) else none:=by
 unfold zgc
 rw [←hg,←hp]
theorem zgq {w patch:Nat} (hp:patch < 2 ^ 64) (h:zY patch+w≤63∨patch=0):patch*2 ^ w < 2 ^ 63:=by
 rcases h with h | h
 ·have h1:=zdA hp
  have h2:patch*2 ^ w < 2 ^ zY patch*2 ^ w:=Nat.mul_lt_mul_of_pos_right h1 (Nat.two_pow_pos _)
  rw [←Nat.pow_add] at h2
  exact Nat.lt_of_lt_of_le h2 (Nat.pow_le_pow_right (by omega) h)
 ·rw [h,Nat.zero_mul];exact Nat.two_pow_pos _
theorem zlE (w:Nat) (us:List Nat):∀ k,(pst w us k).1.length≤k+(pst w us k).2 / 255
 | 0=>by simp [pst]
 | k+1=>by
  have ih:=zlE w us k
  have hl:=zfj w us k
  by_cases h:us.getD k 0 / 2 ^ w=0
  ·rw [zfh h];omega
  ·rw [zfi h]
   simp only [List.length_append,List.length_replicate,List.length_singleton]
   omega
theorem zpy:∀ (m N j:Nat) (h:j < (be m N).length),(be m N)[j]=UInt8.ofNat (N / 256 ^ (m - 1 - j) % 256)
 | m+1,N,0,_=>by simp [be]
 | m+1,N,j+1,h=>by
  have h':j < (be m N).length:=by simpa [be] using h
  have:=zpy m N j h'
  simp only [be,List.getElem_cons_succ]
  rw [this,show m+1 - 1 - (j+1)=m - 1 - j by omega]
theorem zpz {n S b0:Nat} (h1:1≤n) (hS:S < 2 ^ (8*n - 1)) (hb:b0=S / 256 ^ (n - 1) % 256):b0 < 128∧(be n S).set 0 (UInt8.ofNat (b0+128))=be n (S+2 ^ (8*n - 1)):=by
 have hp:2 ^ (8*n - 1)=128*256 ^ (n - 1):=by rw [p256,show 8*n - 1=7+8*(n - 1) by omega,Nat.pow_add]
 have hpos:0 < 256 ^ (n - 1):=Nat.pow_pos (by omega)
 have hlt:S / 256 ^ (n - 1) < 128:=by rw [Nat.div_lt_iff_lt_mul hpos,←hp];exact hS
 have hb1:b0 < 128:=by rw [hb];exact Nat.lt_of_le_of_lt (Nat.mod_le _ _) hlt
 refine ⟨hb1,zoH (by rw [List.length_set,zcv]) ?_⟩
 have hl:0 < (be n S).length:=by rw [zcv];omega
 have h2:=ziJ (be n S) 0 (UInt8.ofNat (b0+128)) hl
 rw [zpy n S 0 hl,zcv,Nat.sub_zero,←hb] at h2
 have e1:(UInt8.ofNat b0).toNat=b0:=zgp (by omega)
 have e2:(UInt8.ofNat (b0+128)).toNat=b0+128:=zgp (by omega)
 have h3:bval (be n S)=S:=by
  rw [zfu,Nat.mod_eq_of_lt]
  rw [p256,show 8*n=(8*n - 1)+1 by omega,Nat.pow_succ]
  omega
 rw [e1,e2,h3,Nat.add_mul] at h2
 rw [hp]
 omega
theorem ziY {l:List Int} {W:Int} {s:Bool} (h:zG l s=none∨l.length < 1∨512 < l.length∨zbb W < 0∨64≤W):zcx l W s=([],1):=by unfold zcx;rw [if_pos h]
theorem zpA {l:List Int} {W:Int} {s:Bool} (h:pups l=none):zcx l W s=([],1):=by unfold zcx;split <;> simp [h]
theorem znR {l:List Int} {W:Nat} {s:Bool} {us:List Nat} (h0:zG l s≠none) (h1:1≤l.length) (h2:l.length≤512) (h3:0≤zbb (W:Int)) (h4:W < 64) (h:pups l=some us) :
  zcx l W s=if zcw l = -9223372036854775808∨31 < (zn W us).length∨64 < pgw (zn W us)+ppw (zn W us)∨64 < W+ppw (zn W us) then ([],1) else (play (zcw l) us W,0):=by
 unfold zcx
 rw [if_neg (by rintro (h | h | h | h | h) <;> first | exact h0 h | omega),h,Int.toNat_natCast]
theorem zlF {W:Int} (h:0≤zbb W):1≤W∧W≤64:=by
 obtain ⟨h1,h2⟩:=zie h
 obtain ⟨c,hc⟩:=Int.eq_ofNat_of_zero_le h
 rw [hc] at h1 h2
 have h3:=ztw ⟨c,by omega⟩
 dsimp only at h3
 have h4:=zd3 (c:Int)
 rw [h1] at h3 h4
 omega
theorem zbL {a b c:World} {g:Option Nat} (h1:a.grownBy b g) (h2:b.grownBy c g):a.grownBy c g:=
 ⟨h2.os.trans h1.os,h2.tape.trans h1.tape,h2.output.trans h1.output,Nat.le_trans h1.size h2.size,fun k hk hg=>(h2.block k (Nat.lt_of_lt_of_le hk h1.size) hg).trans (h1.block k hk hg)⟩
theorem zb8 {a b:World} {g:Option Nat} (h:Below a.heap.size a b):a.grownBy b g:=⟨h.os,h.tape,h.output,h.size,fun k hk _=>h.block k hk⟩
theorem zbM {B g:Nat} {w a b:World} (h1:Below B w a) (h2:a.grownBy b (some g)) (hB:B≤g) (hz:B≤a.heap.size):Below B w b:=
 ⟨h2.os.trans h1.os,h2.tape.trans h1.tape,h2.output.trans h1.output,Nat.le_trans h1.size h2.size,fun k hk=>(h2.block k (by omega) (by intro e;injection e with e;omega)).trans (h1.block k hk)⟩
theorem zkg {w:World} {base n:Nat} {e:TypeId} {v:Value} {xs:List Value} (h:w.ownsRow base e 1 v n xs) (hn:1≤n):∃ g c,v=.slice (some ⟨g,0,none⟩) n c∧base≤g∧g < w.heap.size∧n≤c∧c≤maxLen:=by
 rcases h.2 with ⟨_,h0⟩ | ⟨g,c,cur,h1,h2,h3,h4,h5,_⟩
 ·omega
 ·exact ⟨g,c,h1,h2,(Array.getElem?_eq_some_iff.1 h3).1,h4,h5⟩
theorem ziZ {w:World} {base n g:Nat} {e:TypeId} {v:Value} {xs:List Value} (h:w.ownsRow base e 1 v n xs) (hg:g < base):v.ownBlock=none∨v.ownBlock≠some g:=by
 rcases h.2 with ⟨h1,_⟩ | ⟨g',c,cur,h1,h2,_⟩
 ·left;rw [h1];rfl
 ·right;rw [h1];intro e;injection e with e;dsimp only at e;omega
def zmL (x:List UInt8) (v i:Value):Prop:=∃ (k:Nat) (U:Int),1≤k∧k≤x.length∧i=.int .i64 (k:Int)∧v=.int .u64 U∧U=((bval (x.take k) % 2 ^ (8*k - 1):Nat):Int)
def zsg (both low0:List Nat) (w g p m:Nat) (W0:World) (g0 base:Nat) (lv at_ i:Value) (wr:World):Prop:=
 ∃ (k a:Nat) (low:List Nat),k≤both.length∧i=.int .i64 (k:Int)∧at_=.int .i64 (a:Int)∧pall w g p m (0,low0) (both.take k)=some (a,low)∧low.length=m∧a < m∧(∀ z∈low,z < 2 ^ 64)∧wr.ownsRow base 101 1 lv m (low.map uv)∧W0.grownBy wr (some g0)
theorem zlG (l:List UInt8) (v:Value) (s:Bool) (w:World) (hv:IsB l v w) (hb:l.length≤1000000) :
  Calls Tryz.prog 64 #[v,.bool s] w (RetIO w (zy l s)):=by
 have HLK:=Lib.hid (zfC l v w hv hb)
 obtain ⟨A,c,rfl,_⟩:=hv
 have hbd:=zcG l
 obtain ⟨K,C,M,r,x,hd⟩:∃ K C M r x,zp l=(K,C,M,r,x):=⟨_,_,_,_,_,rfl⟩
 rw [hd] at HLK hbd
 dsimp only at hbd
 obtain ⟨hK0,hK1,hC0,hC1,hM0,hM1,hr⟩:=hbd
 go_enter Tryz.func64,Tryz.ntmps64
 go_wp2_with fail
 refine HLK.out.mono ?_
 rintro e w1 ⟨rv,rfl,hrv,hb1⟩
 have HB:=Lib.hid hb1
 have HRV:Hid (IsB r rv w1):=Lib.hid hrv
 clear hb1 hrv
 by_cases hx:x=0
 case neg =>
  have hE:=Lib.hid (zcW (l:=l) (s:=s) (.inl (by rw [hd];exact hx)))
  have d0:(x != 0)=true:=by simpa using hx
  clear hd
  obtain ⟨A1,n1,c1,rfl⟩:=IsV.shape (f:=bv) HRV.out
  go_wp2
  all_goals
   go_ret3
   rw [hE.out]
   exact RetIO.nil _ HB.out
 case pos =>
 subst hx
 by_cases hK:K=2
 case neg =>
  have hE:=Lib.hid (zcW (l:=l) (s:=s) (.inr (by rw [hd];exact hK)))
  have d0:(K != 2)=true:=by simpa using hK
  clear hd
  obtain ⟨A1,n1,c1,rfl⟩:=IsV.shape (f:=bv) HRV.out
  go_wp2
  all_goals
   go_ret3
   rw [hE.out]
   exact RetIO.nil _ HB.out
 case pos =>
 subst hK
 have hM11:=zev hd
 have HE0:=Lib.hid (zdu (s:=s) hd)
 clear hd hK0 hK1
 obtain ⟨A1,c1,rfl,hA1,hnc1,hcm1,hl1⟩:=HRV.out
 obtain ⟨N,hN⟩:∃ N,N=r.length:=⟨_,rfl⟩
 rw [←hN] at hA1 hnc1 ⊢
 have hN6:N≤1000000:=by omega
 by_cases hN2:N < 2
 case pos =>
  have hE:Hid (zy l s=([],[],2)):=Lib.hid (by rw [HE0.out,zdO (by omega)])
  have d0:decide ((N:Int) < 2)=true:=decide_eq_true (by omega)
  clear hN hl1 hcm1 hA1
  go_wp2
  go_ret3
  rw [hE.out]
  exact RetIO.nil _ HB.out
 case neg =>
 have d0:decide ((N:Int) < 2)=false:=decide_eq_false (by omega)
 obtain ⟨ad,rfl,had,hcell0⟩:=hl1.cell (k:=0) (by rw [List.length_map];omega)
 obtain ⟨_,hAd,_,hcell1⟩:=hl1.cell (k:=1) (by rw [List.length_map];omega)
 injection hAd with hAd
 subst hAd
 obtain ⟨b0,hb0⟩:∃ b:Nat,b=r[0].toNat:=⟨_,rfl⟩
 obtain ⟨b1,hb1⟩:∃ b:Nat,b=r[1].toNat:=⟨_,rfl⟩
 have hb08:b0 < 256:=by rw [hb0];exact UInt8.toNat_lt _
 have hb18:b1 < 256:=by rw [hb1];exact UInt8.toNat_lt _
 have hc0:w1.cell? ad=some (.int .u8 (b0:Int)):=by
  have h1:ad.add 0=ad:=by unfold Addr.add;split <;> simp_all
  rw [←h1,hcell0,List.getElem_map,hb0];rfl
 have hc1:w1.cell? ⟨ad.block,ad.off+1,none⟩=some (.int .u8 (b1:Int)):=by
  have h1:ad.add 1=⟨ad.block,ad.off+1,none⟩:=by unfold Addr.add;rw [if_neg (by omega)]
  rw [←h1,hcell1,List.getElem_map,hb1];rfl
 obtain ⟨n,hn⟩:∃ n,n=b0 / 32+1:=⟨_,rfl⟩
 obtain ⟨q0,hq0⟩:∃ q,q=b0 % 32:=⟨_,rfl⟩
 obtain ⟨g,hg⟩:∃ g,g=b1 / 32+1:=⟨_,rfl⟩
 obtain ⟨t,ht⟩:∃ t,t=b1 % 32:=⟨_,rfl⟩
 have hni:(b0:Int) / 32+1=(n:Int):=by omega
 have hqi:(b0:Int) % 32=(q0:Int):=by omega
 have hgi:(b1:Int) / 32+1=(g:Int):=by omega
 have hti:(b1:Int) % 32=(t:Int):=by omega
 have hn8:n≤8:=by omega
 have hn1:1≤n:=by omega
 have hg8:g≤8:=by omega
 have hg1:1≤g:=by omega
 have ht31:t≤31:=by omega
 obtain ⟨p,hp⟩:∃ p:Nat,wof (q0:Int)=(p:Int):=⟨(wof (q0:Int)).toNat,by have:=zd3 (q0:Int);omega⟩
 have hp64:p≤64:=by have:=zd3 (q0:Int);omega
 have HOF:=Lib.hid (fun X=>zgC (q0:Int) X (by omega) (by omega))
 rw [hp] at HOF
 obtain ⟨d,hdd⟩:∃ d,d=r.drop 2:=⟨_,rfl⟩
 have HPB:=Lib.hid (ziX (s:=s) (c:=C) (m:=M) (by omega:2≤r.length) hb0 hb1 hn hg ht (by rw [←hq0];exact hp) hdd)
 obtain ⟨v2,hv2,hI2⟩:=zbr (P:=Tryz.prog) (w:=w1) elemB (k:=2) (by omega) hnc1 hcm1 hN.symm hl1 hA1
 rw [←hdd] at hI2
 rw [show ((2:Nat):Int)=2 from rfl] at hv2
 have hD2:d.length+2=N:=by rw [hdd,List.length_drop,hN];omega
 have HI2:=Lib.hid hI2
 obtain ⟨A2,c2,hv2e,hA2,hnc2,hcm2,hl2⟩:=hI2
 obtain ⟨D,hD⟩:∃ D,D=d.length:=⟨_,rfl⟩
 rw [←hD] at hv2e hA2 hnc2 hD2
 subst hv2e
 have HD:=Lib.hid hD
 clear hcell0 hcell1 hb0 hb1 hl1 hA1 hN hn hq0 hg ht hdd hD hcm1 hnc1 had
 obtain ⟨GP,hGP⟩:∃ GP,GP=g+p:=⟨_,rfl⟩
 have hGPi:(g:Int)+(p:Int)=(GP:Int):=by omega
 by_cases hgp:64 < GP
 case pos =>
  have hE:Hid (zy l s=([],[],2)):=Lib.hid (by rw [HE0.out,HPB.out,if_pos (.inl (by omega))])
  have d1:decide ((64:Int) < (GP:Int))=true:=decide_eq_true (by omega)
  clear hGP
  go_wp2_with (first | (refine zI rfl _ _ _ rfl _ (hv2 _) ?_) | (go_at_call 56;refine (HOF.out _).mono ?_;rintro e w' ⟨rfl,rfl⟩))
  all_goals
   go_ret3
   rw [hE.out]
   exact RetIO.nil _ HB.out
 case neg =>
 have d1:decide ((64:Int) < (GP:Int))=false:=decide_eq_false (by omega)
 by_cases hDn:D < n
 case pos =>
  have hE:Hid (zy l s=([],[],2)):=Lib.hid (by rw [HE0.out,HPB.out,if_pos (.inr (by rw [←HD.out];exact hDn))])
  have d2:decide ((D:Int) < (n:Int))=true:=decide_eq_true (by omega)
  clear hGP
  go_wp2_with (first | (refine zI rfl _ _ _ rfl _ (hv2 _) ?_) | (go_at_call 56;refine (HOF.out _).mono ?_;rintro e w' ⟨rfl,rfl⟩))
  all_goals
   go_ret3
   rw [hE.out]
   exact RetIO.nil _ HB.out
 case neg =>
 have d2:decide ((D:Int) < (n:Int))=false:=decide_eq_false (by omega)
 have hp63:p≤63:=by omega
 have HE1:Hid (zy l s=zfH s (zds (d.take n)) C M g p t (d.drop n)):=Lib.hid (by rw [HE0.out,HPB.out,if_neg (by have:=HD.out;omega)])
 have HGP:=Lib.hid hGP
 clear hGP
 have hD0:0 < D:=by omega
 have hD0i:(0:Int) < (D:Int):=by omega
 have hDl:0 < d.length:=by have:=HD.out;omega
 have hD6:D≤1000000:=by omega
 obtain ⟨ad2,rfl,had2,hcell2⟩:=hl2.cell (k:=0) (by rw [List.length_map];exact hDl)
 obtain ⟨y0,hy0⟩:∃ y:Nat,y=d[0].toNat:=⟨_,rfl⟩
 have hy08:y0 < 256:=by rw [hy0];exact UInt8.toNat_lt _
 have hcy0:w1.cell? ad2=some (.int .u8 (y0:Int)):=by
  have h1:ad2.add 0=ad2:=by unfold Addr.add;split <;> simp_all
  rw [←h1,hcell2,List.getElem_map,hy0];rfl
 obtain ⟨xs,hxs⟩:∃ xs,xs=d.take n:=⟨_,rfl⟩
 have hxl:xs.length=n:=by rw [hxs,List.length_take];have:=HD.out;omega
 have hx0:∀ h:0 < xs.length,y0=xs[0].toNat:=by intro h;rw [hy0];subst hxs;rw [List.getElem_take]
 have HX0:=Lib.hid hx0
 have HXL:=Lib.hid hxl
 have HXS:=Lib.hid hxs
 have h0st:zmL xs (.int .u64 ((y0:Int) % 128)) (.int .i64 1):=by
  refine ⟨1,_,Nat.le_refl _,by omega,rfl,rfl,?_⟩
  rw [List.take_succ_eq_append_getElem (by omega),List.take_zero,List.nil_append,zke,←hx0 (by omega)]
  simp [bval]
 have HST:=Lib.hid h0st
 have HL2:=Lib.hid hl2
 rw [←HXS.out] at HE1
 clear hcell2 hy0 hxs hxl hx0 h0st hl2
 go_wp2_with (first | (refine zI rfl _ _ _ rfl _ (hv2 _) ?_) | (go_at_call 56;refine (HOF.out _).mono ?_;rintro e w' ⟨rfl,rfl⟩))
 go_loop [16,17] (zmL xs) (fun _ i=>n - (intOf i).toNat)
 case atStart=>exact HST.out
 case round =>
  obtain ⟨k,U,hk1,hk,rfl,rfl,hU⟩:=hrel
  rw [HXL.out] at hk
  have HU:=Lib.hid hU
  by_cases hlt:k < n
  ·have hlti:(k:Int) < (n:Int):=by omega
   have hkD:(k:Int) < (D:Int):=by omega
   have hkd:k < d.length:=by have:=HD.out;omega
   obtain ⟨_,hAd,_,hcell⟩:=HL2.out.cell (k:=k) (by rw [List.length_map];exact hkd)
   injection hAd with hAd
   subst hAd
   obtain ⟨y,hy⟩:∃ y:Nat,y=d[k].toNat:=⟨_,rfl⟩
   have hy8:y < 256:=by rw [hy];exact UInt8.toNat_lt _
   have hcy:w1.cell? (ad2.add k)=some (.int .u8 (y:Int)):=by rw [hcell,List.getElem_map,hy];rfl
   have hU0:0≤U:=by omega
   have hU7:U < 72057594037927936:=by
    rw [hU]
    have h1:bval (xs.take k) % 2 ^ (8*k - 1) < 2 ^ (8*k - 1):=Nat.mod_lt _ (Nat.two_pow_pos _)
    have h2:2 ^ (8*k - 1)≤2 ^ 56:=Nat.pow_le_pow_right (by omega) (by omega)
    omega
   have HN1:Hid (256*U+y=((bval (xs.take (k+1)) % 2 ^ (8*(k+1) - 1):Nat):Int)):=Lib.hid (by
    have hkx:k < xs.length:=by rw [HXL.out];exact hlt
    have e1:xs[k].toNat=y:=by rw [hy];congr 1;have:=HXS.out;subst this;rw [List.getElem_take]
    rw [zf2 _ _ hkx,e1,zpx hk1 hy8,HU.out]
    simp)
   clear hcell hy hU hcy0
   go_wp2
   go_round
   case rel=>exact ⟨k+1,256*U+y,by omega,by rw [HXL.out];omega,by go_num,rfl,HN1.out⟩
   case measure=>simp [intOf];omega
  ·obtain rfl:n=k:=by omega
   have hlti:¬(n:Int) < (n:Int):=by omega
   obtain ⟨m,rfl⟩:=Int.eq_ofNat_of_zero_le (show 0≤M by omega)
   have hm1:1≤m:=by omega
   have hm5:m≤512:=by omega
   obtain ⟨S,hS⟩:∃ S,S=bval xs % 2 ^ (8*xs.length - 1):=⟨_,rfl⟩
   have hUS:U=(S:Int):=by rw [hU,hS,List.take_of_length_le (by rw [HXL.out];exact Nat.le_refl _),HXL.out]
   subst hUS
   obtain ⟨hps,hpi,hS63⟩:=znQ (by rw [HXL.out];exact hn1) (by rw [HXL.out];exact hn8) (HX0.out (by rw [HXL.out];exact hn1)) hS
   obtain ⟨f,hf⟩:∃ f,f=decide (128≤y0):=⟨_,rfl⟩
   have df:decide ((128:Int)≤(y0:Int))=f:=by rw [hf];exact decide_eq_decide.2 (by omega)
   obtain ⟨B,hB⟩:∃ B,B=zds xs:=⟨_,rfl⟩
   rw [←hf,←hB] at hps
   rw [←hB] at hpi HE1
   have HBI:=Lib.hid hpi
   have hst9:=fun X=>zeq 0 (S:Int) f X ⟨by omega,by omega⟩ (by omega) (by omega)
   rw [Int.toNat_natCast,hps] at hst9
   have HSP:=Lib.hid hst9
   obtain ⟨W,hW⟩:∃ W:Nat,wof C=(W:Int):=⟨(wof C).toNat,by have:=zd3 C;omega⟩
   have hW64:W≤64:=by have:=zd3 C;omega
   have HWC:=Lib.hid hW
   have HOC:=Lib.hid (fun X=>zgC C X (by omega) (by omega))
   rw [hW] at HOC
   obtain ⟨v3,hv3,hI3⟩:=zbr (P:=Tryz.prog) (w:=w1) elemB (k:=n) (by omega) hnc2 hcm2 HD.out.symm HL2.out (fun h=>by cases h)
   have HI3:=Lib.hid hI3
   have HV3:=Lib.hid hv3
   obtain ⟨us,q,e1,hu⟩:∃ us q y,zh (d.drop n) (m:Int) (W:Int)=(us,q,y):=⟨_,_,_,rfl⟩
   have HUN:=Lib.hid (zdF (m:Int) (W:Int) hI3 (by rw [List.length_drop];have:=HD.out;omega))
   rw [hu] at HUN
   have hlt:=(zZ (l:=d.drop n) (M:=(m:Int)) (W:=(W:Int))).1
   rw [hu] at hlt
   dsimp only at hlt
   have HLT:=Lib.hid hlt
   have HUE:=Lib.hid hu
   clear hlt hu hv3 hI3 hW hst9 hps hpi hB hf hS hU HU hcm2 hnc2 hk1 hk hS63 HST
   go_wp2_with (first | (go_at_call 99;refine (HSP.out _).mono ?_;rintro e w' ⟨rfl,rfl⟩) | (go_at_call 56;refine (HOC.out _).mono ?_;rintro e w' ⟨rfl,rfl⟩) | (refine zI rfl _ _ _ rfl _ (HV3.out _) ?_))
   refine HUN.out.mono ?_
   rintro e w2 ⟨u2,r2v,rfl,hu2,hq2,hb2⟩
   have HB2:=Lib.hid (za HB.out hb2)
   have HZ2:=Lib.hid hb2.size
   have HU2:=Lib.hid hu2
   have HQ2:=Lib.hid hq2.isB
   clear hu2 hq2 hb2 hcy0 hc0 hc1
   by_cases he1:e1=0
   case neg =>
    have hE:Hid (zy l s=([],[],2)):=Lib.hid (by rw [HE1.out,zfk (by rw [HWC.out];exact HUE.out) he1])
    have d3:(e1 != 0)=true:=by simpa using he1
    go_wp2
    go_ret3
    rw [hE.out]
    exact RetIO.nil _ HB2.out
   case pos =>
   subst he1
   obtain ⟨hul,hql⟩:=zJ HUE.out
   have HUL:=Lib.hid hul
   have HQL:Hid (q.length≤1000000):=Lib.hid (by rw [List.length_drop] at hql;have:=HD.out;omega)
   obtain ⟨W2,hW2⟩:∃ W:Nat,zi (GP:Int)=(W:Int):=⟨(zi (GP:Int)).toNat,(zkb (by omega)).2.2.2.2.2.1⟩
   have HWCL:=Lib.hid hW2
   have HCL:=Lib.hid (fun X=>zjt (GP:Int) X)
   rw [hW2] at HCL
   obtain ⟨vs,q2,e2,hv⟩:∃ us r y,zh q (t:Int) (W2:Int)=(us,r,y):=⟨_,_,_,rfl⟩
   have HUN2:=Lib.hid (zdF (t:Int) (W2:Int) HQ2.out HQL.out)
   rw [hv] at HUN2
   have hlt:=(zZ (l:=q) (M:=(t:Int)) (W:=(W2:Int))).1
   rw [hv] at hlt
   dsimp only at hlt
   have HLT2:=Lib.hid hlt
   have HVE:=Lib.hid hv
   clear hlt hv hW2 hul hql
   go_wp2_with (go_at_call 74;refine (HCL.out _).mono ?_;rintro e w' ⟨rfl,rfl⟩)
   refine HUN2.out.mono ?_
   rintro e w3 ⟨u3,r3v,rfl,hu3,hq3,hb3⟩
   have HB3:=Lib.hid (za HB2.out hb3)
   have HLOW:=Lib.hid (own_below HU2.out hb3)
   have HBOTH:=Lib.hid hu3
   have HQ3:=Lib.hid hq3
   have HZ3:=Lib.hid hb3.size
   clear hu3 hq3 hb3
   by_cases he2:e2=0
   case neg =>
    have hE:Hid (zy l s=([],[],2)):=Lib.hid (by rw [HE1.out,zew (by rw [HWC.out];exact HUE.out) (by rw [←HGP.out,HWCL.out];exact HVE.out) he2])
    have d4:(e2 != 0)=true:=by simpa using he2
    go_wp2
    go_ret3
    rw [hE.out]
    exact RetIO.nil _ HB3.out
   case pos =>
   subst he2
   obtain ⟨hvl,hq2l⟩:=zJ HVE.out
   have HVL:=Lib.hid hvl
   have hu2:=HU2.out
   rw [HUL.out] at hu2
   obtain ⟨g0,c0,rfl,hg0,hg2,hmc0,hc0m⟩:=zkg hu2 hm1
   have hlow0:=HLOW.out
   rw [HUL.out] at hlow0
   have HGB:Hid (w.heap.size≤g0):=Lib.hid (by have:=HB.out.size;omega)
   have HG2:=Lib.hid hg2
   obtain ⟨A3,c3,rfl,hnc3,hcm3,_,_,_⟩:=zbd HBOTH.out
   have HE2:Hid (zy l s=pend s B W g p m us vs q2):=Lib.hid (by
    rw [HE1.out,zfl (by rw [HWC.out];exact HUE.out) (by rw [←HGP.out,HWCL.out];exact HVE.out),HWC.out];rfl)
   have h0st:zsg vs us W g p m w3 g0 w1.heap.size (.slice (some ⟨g0,0,none⟩) m c0) (.int .i64 0) (.int .i64 0) w3:=
    ⟨0,0,us,by omega,rfl,rfl,by rw [List.take_zero,pall],HUL.out,by omega,HLT.out,hlow0,⟨rfl,rfl,rfl,Nat.le_refl _,fun _ _ _=>rfl⟩⟩
   have HST:=Lib.hid h0st
   rw [HVL.out] at hnc3 ⊢
   have hmi:¬(m:Int)≤0:=by omega
   clear hvl hq2l hu2 hlow0 h0st hg0 hg2 hmi hcm3
   go_wp2
   go_loopw [23,24] (zsg vs us W g p m w3 g0 w1.heap.size (.slice (some ⟨g0,0,none⟩) m c0)) (fun _ i _=>t - (intOf i).toNat)
   case atStart=>exact HST.out
   case round =>
    obtain ⟨k,a,low,hk,rfl,rfl,hpl,hll,ham,hlo,hown,hgr⟩:=hrel
    rw [HVL.out] at hk
    have HPL:=Lib.hid hpl
    have HLL0:=Lib.hid hll
    have HLO:=Lib.hid hlo
    have HOWN0:=Lib.hid hown
    have HGR0:=Lib.hid hgr
    have HSTT:=HST
    clear HST
    by_cases hlt:k < t
    ·have hlti:(k:Int) < (t:Int):=by omega
     have hkv:k < vs.length:=by have:=HVL.out;omega
     have hbk:=zbi (f:=uv) (HBOTH.out.kept hgr (ziZ HBOTH.out HG2.out))
     rw [HVL.out] at hbk
     obtain ⟨ad3,rfl,_,hcell⟩:=hbk.at hkv
     obtain ⟨x,hx⟩:∃ x,x=vs[k]:=⟨_,rfl⟩
     have hcx:wr.cell? (ad3.add k)=some (.int .u64 (x:Int)):=by rw [hcell,hx];rfl
     have hx64:x < 2 ^ 64:=by rw [hx];exact HLT2.out _ (List.getElem_mem hkv)
     have HNX0:=Lib.hid (zkf hkv hx hpl)
     obtain ⟨gap,hgap⟩:∃ gap,gap=x / 2 ^ p:=⟨_,rfl⟩
     obtain ⟨pat,hpat⟩:∃ pat,pat=x % 2 ^ p:=⟨_,rfl⟩
     have HPS:=Lib.hid (zmK (w:=W) (g:=g) (m:=m) (at_:=a) (low:=low) hgap hpat)
     obtain ⟨K,hK⟩:∃ K,K=2 ^ p:=⟨_,rfl⟩
     obtain ⟨K1,hK1⟩:∃ K1,K1=K - 1:=⟨_,rfl⟩
     obtain ⟨GG,hGG⟩:∃ GG,GG=2 ^ g:=⟨_,rfl⟩
     have hkp:1≤K:=by rw [hK];exact Nat.one_le_two_pow
     have hK63:K≤9223372036854775808:=by rw [hK];exact Nat.pow_le_pow_right (n:=2) (i:=p) (j:=63) (by omega) hp63
     have hGG8:GG≤256:=by rw [hGG];exact Nat.pow_le_pow_right (n:=2) (i:=g) (j:=8) (by omega) hg8
     have hshr:(x:Int) / (K:Int)=(gap:Int):=by rw [hgap,hK];simp
     have hKc:(2:Int) ^ p=(K:Int):=by rw [hK];simp
     have hKw:IntKind.u64.wrap (K:Int)=(K:Int):=by rw [IntKind.wrap_u64];omega
     have hK1i:(K:Int) - 1=(K1:Int):=by omega
     have hK1w:IntKind.u64.wrap (K1:Int)=(K1:Int):=by rw [IntKind.wrap_u64];omega
     have hGc:(2:Int) ^ g=(GG:Int):=by rw [hGG];simp
     have hGw:IntKind.u64.wrap (GG:Int)=(GG:Int):=by rw [IntKind.wrap_u64];omega
     have hand:bits .and .u64 (x:Int) (K1:Int)=(pat:Int):=by rw [u64_and _ _ (by omega) (by omega) (by omega) (by omega),Int.toNat_natCast,Int.toNat_natCast,hK1,hK,Nat.and_two_pow_sub_one_eq_mod,hpat]
     have HPT:Hid (pat < 2 ^ 64):=Lib.hid (by rw [hpat];exact Nat.lt_of_le_of_lt (Nat.mod_le _ _) hx64)
     have HGX:=Lib.hid (show GG=2 ^ g from hGG)
     clear hcell hx hx64 hgap hpat hK hK1 hkp hK63 hGG hpl hll hlo hown hgr hbk
     go_wp2
     go_quiet (fail)
     obtain ⟨wd,hwd⟩:∃ wd,wd=wr.drewN nq:=⟨_,rfl⟩
     have HOWN:Hid (wd.ownsRow w1.heap.size 101 1 (.slice (some ⟨g0,0,none⟩) m c0) m (low.map uv)):=Lib.hid (by rw [hwd];exact own_drewN HOWN0.out nq)
     have HGR:Hid (w3.grownBy wd (some g0)):=Lib.hid (by rw [hwd];exact zbL HGR0.out (zb8 (below_drewN (Below.refl _ _) nq)))
     rw [←hwd]
     clear hwd hcx HOWN0 HGR0
     by_cases hA:GG≤gap
     case pos =>
      have hE:Hid (zy l s=([],[],2)):=Lib.hid (by
       rw [HE2.out,zdv (zb3 (k:=k+1) (by rw [HNX0.out,HPS.out,if_neg (by rw [←HGX.out];omega)]))])
      have d5:decide ((GG:Int)≤(gap:Int))=true:=decide_eq_true (by omega)
      go_wp2
      go_ret3
      rw [hE.out]
      exact RetIO.nil _ (zbM HB3.out HGR.out HGB.out HB3.out.size)
     case neg =>
     have d5:decide ((GG:Int)≤(gap:Int))=false:=decide_eq_false (by omega)
     have hgap8:gap < 256:=by omega
     have hgw:IntKind.i64.wrap (gap:Int)=(gap:Int):=by rw [IntKind.wrap_i64];omega
     obtain ⟨a1,ha1e⟩:∃ a1,a1=a+gap:=⟨_,rfl⟩
     have hai:(a:Int)+(gap:Int)=(a1:Int):=by omega
     rw [←ha1e] at HPS
     have ha1b:a1≤1000:=by omega
     clear ha1e
     by_cases hBm:m≤a1
     case pos =>
      have hE:Hid (zy l s=([],[],2)):=Lib.hid (by
       rw [HE2.out,zdv (zb3 (k:=k+1) (by rw [HNX0.out,HPS.out,if_neg (by omega)]))])
      have d6:decide ((m:Int)≤(a1:Int))=true:=decide_eq_true (by omega)
      go_wp2
      go_ret3
      rw [hE.out]
      exact RetIO.nil _ (zbM HB3.out HGR.out HGB.out HB3.out.size)
     case neg =>
     have d6:decide ((m:Int)≤(a1:Int))=false:=decide_eq_false (by omega)
     obtain ⟨nb,hnb⟩:∃ nb,nb=zY pat:=⟨_,rfl⟩
     have hnb64:nb≤64:=by rw [hnb];exact zcE HPT.out
     have HBT:=Lib.hid (fun X=>zju pat X HPT.out)
     rw [←hnb] at HBT HPS
     obtain ⟨nW,hnW⟩:∃ nW,nW=nb+W:=⟨_,rfl⟩
     have hnWi:(nb:Int)+(W:Int)=(nW:Int):=by omega
     by_cases hC:nW≤63∨pat=0
     case neg =>
      have hE:Hid (zy l s=([],[],2)):=Lib.hid (by
       rw [HE2.out,zdv (zb3 (k:=k+1) (by rw [HNX0.out,HPS.out,if_neg (by omega)]))])
      have d7:decide ((63:Int) < (nW:Int))=true:=decide_eq_true (by omega)
      have d8:((pat:Int) != 0)=true:=by simp;omega
      clear hnb hnW
      go_wp2_with (go_at_call 73;refine (HBT.out _).mono ?_;rintro e w' ⟨rfl,rfl⟩)
      go_ret3
      rw [hE.out]
      exact RetIO.nil _ (zbM HB3.out HGR.out HGB.out HB3.out.size)
     case pos =>
     have ha1:a1 < m:=by omega
     have hlen:=HLL0.out
     obtain ⟨y,hy⟩:∃ y,y=low.getD a1 0:=⟨_,rfl⟩
     have hyl:low[a1]? = some y:=by rw [hy,List.getD_eq_getElem?_getD,List.getElem?_eq_getElem (by omega)];rfl
     have hy64:y < 2 ^ 64:=HLO.out y (List.mem_of_getElem? hyl)
     obtain ⟨Z,hZ⟩:∃ Z,Z=pat*2 ^ W:=⟨_,rfl⟩
     have hZ63:Z < 2 ^ 63:=by rw [hZ];exact zgq HPT.out (by rw [←hnb];omega)
     obtain ⟨z,hz⟩:∃ z,z=y ^^^ Z:=⟨_,rfl⟩
     have HZC:=Lib.hid (show (pat:Int)*2 ^ W=(Z:Int) by rw [hZ];simp)
     have HZW:Hid (IntKind.u64.wrap (Z:Int)=(Z:Int)):=Lib.hid (by rw [IntKind.wrap_u64];omega)
     have HXO:Hid (bits .xor .u64 (y:Int) (Z:Int)=(z:Int)):=Lib.hid (by rw [u64_xor_nat y Z (by omega) (by omega),hz])
     have HADD:Hid ((⟨g0,0,none⟩:Addr).add a1=⟨g0,a1,none⟩):=Lib.hid (by unfold Addr.add;split <;> simp_all)
     have HCL:Hid (wd.cell? ⟨g0,a1,none⟩=some (.int .u64 (y:Int))):=Lib.hid (by rw [HOWN.out.cellAt a1 (by omega),List.getElem?_map,hyl];rfl)
     have HGL:Hid (g0 < wd.heap.size):=Lib.hid (by have:=HGR.out.size;have:=HG2.out;have:=HZ3.out;omega)
     have hnx:pall W g p m (0,us) (vs.take (k+1))=some (a1,low.set a1 z):=by
      rw [HNX0.out,HPS.out,if_pos ⟨by rw [←HGX.out];omega,ha1,by rw [←hnW];exact hC⟩,←hy,←hZ,←hz]
     have HNX:=Lib.hid hnx
     have HLL:=HLL0
     have HL64:Hid (∀ e∈low.set a1 z,e < 2 ^ 64):=Lib.hid (fun e he=>by
      rcases List.mem_or_eq_of_mem_set he with h | h
      ·exact HLO.out e h
      ·rw [h,hz];exact Nat.xor_lt_two_pow hy64 (by omega))
     clear hlen hy hyl hy64 hZ hZ63 hz hnx hnb hnW
     have d7:decide ((63:Int) < (nW:Int))=false∨(decide ((63:Int) < (nW:Int))=true∧((pat:Int) != 0)=false):=by
      by_cases h:nW≤63
      ·exact .inl (decide_eq_false (by omega))
      ·exact .inr ⟨decide_eq_true (by omega),by simp;omega⟩
     clear hC
     rcases d7 with d7 | ⟨d7,d8⟩
     all_goals
      go_wp2_with (go_at_call 73;refine (HBT.out _).mono ?_;rintro e w' ⟨rfl,rfl⟩)
      refine zB 11 [.is (.slice (some ⟨g0,0,none⟩) m c0),.is (.int .i64 (a1:Int)),.is (.slice (some ⟨g0,0,none⟩) m c0),.is (.int .i64 (a1:Int)),.is (.pointer (some ⟨g0,a1,none⟩)),.is (.int .u64 (y:Int)),.is (.int .u64 (pat:Int)),.is (.int .i64 (W:Int)),.is (.int .u64 (Z:Int)),.is (.int .u64 (z:Int)),.is (.pointer (some ⟨g0,a1,none⟩))] [some 180,some 181,some 182,some 183,some 184,some 185,some 186,some 187,some 188,some 189,some 190] (by kernel_rfl) (by kernel_rfl) (by kernel_rfl) (by kernel_rfl) rfl ⟨?_,?_,?_,?_,?_,?_,?_,?_,?_,?_,?_,trivial⟩ ?_
      ·intro ρ W1 hb1 H
       exact zd rfl (H.old 21 _ (by kernel_rfl) rfl) ⟨rfl,Below.refl _ _⟩
      ·intro ρ W1 hb1 H
       exact zd rfl (H.old 23 _ (by kernel_rfl) rfl) ⟨rfl,Below.refl _ _⟩
      ·intro ρ W1 hb1 H
       exact zd rfl (H.old 21 _ (by kernel_rfl) rfl) ⟨rfl,Below.refl _ _⟩
      ·intro ρ W1 hb1 H
       exact zd rfl (H.old 23 _ (by kernel_rfl) rfl) ⟨rfl,Below.refl _ _⟩
      ·intro ρ W1 hb1 H
       exact zF (k:=a1) elemU rfl (H.new 182 2 (by kernel_rfl)) (H.new 183 3 (by kernel_rfl)) ha1 ⟨congrArg (fun q=>Value.pointer (some q)) HADD.out,Below.refl _ _⟩
      ·intro ρ W1 hb1 H
       exact ze rfl (H.new 184 4 (by kernel_rfl)) Tryz.underlying101 rfl ((hb1.cell HGL.out).trans HCL.out) ⟨rfl,Below.refl _ _⟩
      ·intro ρ W1 hb1 H
       exact zd rfl (H.old 26 _ (by kernel_rfl) rfl) ⟨rfl,Below.refl _ _⟩
      ·intro ρ W1 hb1 H
       exact zd rfl (H.old 20 _ (by kernel_rfl) rfl) ⟨rfl,Below.refl _ _⟩
      ·intro ρ W1 hb1 H
       exact zeI (k:=W) rfl (H.new 186 6 (by kernel_rfl)) (H.new 187 7 (by kernel_rfl)) hW64 (by rw [HZC.out];exact HZW.out) ⟨rfl,Below.refl _ _⟩
      ·intro ρ W1 hb1 H
       exact zgU rfl (H.new 185 5 (by kernel_rfl)) (H.new 188 8 (by kernel_rfl)) HXO.out ⟨rfl,Below.refl _ _⟩
      ·intro ρ W1 hb1 H
       exact zF (k:=a1) elemU rfl (H.new 180 0 (by kernel_rfl)) (H.new 181 1 (by kernel_rfl)) ha1 ⟨congrArg (fun q=>Value.pointer (some q)) HADD.out,Below.refl _ _⟩
      ·intro vs W1 hb1 hfs
       have f0:vs 0=(.slice (some ⟨g0,0,none⟩) m c0):=hfs 0 (by decide)
       have f1:vs 1=(.int .i64 (a1:Int)):=hfs 1 (by decide)
       have f2:vs 2=(.slice (some ⟨g0,0,none⟩) m c0):=hfs 2 (by decide)
       have f3:vs 3=(.int .i64 (a1:Int)):=hfs 3 (by decide)
       have f4:vs 4=(.pointer (some ⟨g0,a1,none⟩)):=hfs 4 (by decide)
       have f5:vs 5=(.int .u64 (y:Int)):=hfs 5 (by decide)
       have f6:vs 6=(.int .u64 (pat:Int)):=hfs 6 (by decide)
       have f7:vs 7=(.int .i64 (W:Int)):=hfs 7 (by decide)
       have f8:vs 8=(.int .u64 (Z:Int)):=hfs 8 (by decide)
       have f9:vs 9=(.int .u64 (z:Int)):=hfs 9 (by decide)
       have f10:vs 10=(.pointer (some ⟨g0,a1,none⟩)):=hfs 10 (by decide)
       clear hfs
       simp only [zr,Nat.zero_add,Nat.reduceAdd,List.drop_succ_cons,List.drop_zero]
       rw [f0,f1,f2,f3,f4,f5,f6,f7,f8,f9,f10]
       clear f0 f1 f2 f3 f4 f5 f6 f7 f8 f9 f10
       simp only [Act.put,List.setIfInBounds_toArray,List.set_cons_succ,List.set_cons_zero]
       have hownW:=own_below HOWN.out hb1
       have hgrW:=zbL HGR.out (zb8 hb1)
       have hcW:W1.cell? ⟨g0,a1,none⟩=some (.int .u64 (y:Int)):=(hb1.cell HGL.out).trans HCL.out
       have hfW:=hownW.frozenAt a1
       have HST1:=Lib.hid (hownW.stored a1 (uv z)).1
       have HST2:=Lib.hid (zbL hgrW (hownW.stored a1 (uv z)).2)
       clear hownW hgrW hb1
       go_wp2
       go_roundw
       case rel=>exact ⟨k+1,a1,_,by have:=HVL.out;omega,by go_num,rfl,HNX.out,by rw [List.length_set];exact HLL.out,ha1,HL64.out,by rw [List.map_set];exact HST1.out,HST2.out⟩
       case measure=>simp [intOf];omega
    ·obtain rfl:t=k:=by omega
     have hlti:¬(t:Int) < (t:Int):=by omega
     have hpl2:=HPL.out
     rw [List.take_of_length_le (by rw [HVL.out];exact Nat.le_refl _)] at hpl2
     have HE3:Hid (zy l s=match omap (zbj s false B) low with | none=>([],[],2) | some xs=>(xs,q2,0)):=Lib.hid (by rw [HE2.out,zeb hpl2];try (cases omap (zbj s false B) low <;> rfl))
     have HLL:=HLL0
     have HB4:=Lib.hid (zbM HB3.out HGR0.out HGB.out HB3.out.size)
     have HQ4:Hid (OwnB w q2 r3v wr):=Lib.hid (OwnB.base HB2.out.size (HQ3.out.elim fun _ h=>⟨_,h.kept HGR0.out (ziZ h HG2.out)⟩))
     have HLV:=Lib.hid (zbi (f:=uv) HOWN0.out)
     generalize wr=w4 at *
     have hst5:ziO (zbj s false B) iv 3 low w4 (.slice (some ⟨w4.heap.size,0,none⟩) 0 0) (.int .i64 0) (w4.alloc (.cells #[] 3)):=⟨0,[],by omega,rfl,rfl,zem w4 _,(Below.refl _ _).alloc (Nat.le_refl _) _⟩
     have HST5:=Lib.hid hst5
     clear hpl hll ham hlo hown hgr hpl2 hst5 hk HPL HOWN0 HGR0 HSTT
     go_wp2
     go_loopw [27,28] (ziO (zbj s false B) iv 3 low w4) (fun _ i _=>m - (intOf i).toNat)
     case atStart=>exact HST5.out
     case round =>
      obtain ⟨k,acc,hk,rfl,hacc,hown,hbw⟩:=hrel
      have hz:=hbw.size
      have hal:acc.length=k:=by rw [zb4 hacc,List.length_take];omega
      have HACC:=Lib.hid hacc
      have HAL:=Lib.hid hal
      have hk':k≤m:=by have:=HLL.out;omega
      have HST55:=HST5
      clear hacc HST5
      rw [hal] at hown
      clear hal
      by_cases hlt:k < m
      ·have hkl:k < low.length:=by have:=HLL.out;omega
       have hlti:(k:Int) < (m:Int):=by omega
       obtain ⟨ad5,e5,_,hcell⟩:=(HLV.out.below hbw).at hkl
       injection e5 with e5
       subst e5
       obtain ⟨x,hx⟩:∃ x,x=low[k]:=⟨_,rfl⟩
       have hcx:wr.cell? ((⟨g0,0,none⟩:Addr).add k)=some (.int .u64 (x:Int)):=by rw [hcell,hx];rfl
       have hcx2:wr.cell? ⟨g0,k,none⟩=some (.int .u64 (x:Int)):=by
        have e0:(⟨g0,0,none⟩:Addr).add k=⟨g0,k,none⟩:=by unfold Addr.add;split <;> simp_all
        rw [←e0];exact hcx
       have HX64:Hid ((x:Int) < 18446744073709551616):=Lib.hid (by
        have h1:x < 2 ^ 64:=by rw [hx];exact HLO.out _ (List.getElem_mem hkl)
        have h2:x < 18446744073709551616:=h1
        omega)
       have hgs:=zeq B (x:Int) false wr HBI.out (by omega) HX64.out
       rw [Int.toNat_natCast] at hgs
       obtain ⟨y,ok,hy⟩:∃ y ok,zbh B x false=(y,ok):=⟨_,_,rfl⟩
       rw [hy] at hgs
       have HGS:=Lib.hid hgs
       have hnx:zbj s false B x=if ok=true∧(s=true∨0≤y) then some y else none:=by unfold zbj;rw [hy]
       have HNX:=Lib.hid hnx
       have HXE:=Lib.hid hx
       have hyb:inInt y:=by have:=zgj (u:=x) (f:=false) HBI.out;rw [hy] at this;exact this
       have HYB:=Lib.hid hyb
       clear hgs hy hyb hnx hcell hx
       by_cases hgo:ok=true∧(s=true∨0≤y)
       ·have HAN:Hid (omap (zbj s false B) (low.take (k+1))=some (acc ++ [y])):=Lib.hid (zcP hkl HACC.out (by rw [←HXE.out,HNX.out,if_pos hgo]))
        obtain ⟨rfl,hsy⟩:=hgo
        have hcase:decide (y < 0)=false∨(decide (y < 0)=true∧s=true):=by
         rcases hsy with h | h
         ·by_cases h2:y < 0
          ·exact .inr ⟨decide_eq_true h2,h⟩
          ·exact .inl (decide_eq_false h2)
         ·exact .inl (decide_eq_false (by omega))
        clear hsy
        rcases hcase with hd0 | ⟨hd0,rfl⟩
        all_goals
         go_wp2_with (first | (go_at_call 99;refine HGS.out.mono ?_;rintro e w' ⟨rfl,rfl⟩) | (at_builtin;refine zX zdk rfl _ _ rfl w4.heap.size _ _ _ (iv y) wr w4 rfl rfl rfl rfl hown hbw hz (by omega) (by omega) ?_))
         intro v5 w5 hown5 hb5 _ _
         have hown6:w5.ownsRow w4.heap.size 3 1 v5 (acc ++ [y]).length ((acc ++ [y]).map iv):=by
          rw [List.length_append,List.length_singleton,List.map_append,List.map_singleton,HAL.out]
          exact hown5
         have HO6:=Lib.hid hown6
         have HB6:=Lib.hid hb5
         clear hown5 hown hown6 hb5
         go_wp2
         go_roundw
         case rel=>exact ⟨k+1,_,by have:=HLL.out;omega,by go_num,HAN.out,HO6.out,HB6.out⟩
         case measure=>simp [intOf];omega
       ·have hE:Hid (zy l s=([],[],2)):=Lib.hid (by
         rw [HE3.out,zb0 (x:=x) (by rw [HXE.out];exact List.getElem_mem hkl) (by rw [HNX.out,if_neg hgo])])
        have hcase:ok=false∨(ok=true∧decide (y < 0)=true∧s=false):=by
         cases ok with
         | false=>exact .inl rfl
         | true =>
          refine .inr ⟨rfl,?_,?_⟩
          ·exact decide_eq_true (Int.not_le.1 fun h=>hgo ⟨rfl,.inr h⟩)
          ·cases s with | false=>rfl | true=>exact absurd ⟨rfl,.inl rfl⟩ hgo
        have HB7:=Lib.hid (za HB4.out hbw)
        clear hgo hown hbw
        rcases hcase with rfl | ⟨rfl,hd0,rfl⟩
        all_goals
         go_wp2_with (go_at_call 99;refine HGS.out.mono ?_;rintro e w' ⟨rfl,rfl⟩)
         go_ret3
         rw [hE.out]
         exact RetIO.nil _ HB7.out
      ·obtain rfl:k=m:=by omega
       have hlti:¬(k:Int) < (k:Int):=by omega
       have hE:Hid (zy l s=(acc,q2,0)):=Lib.hid (by
        have h1:=HACC.out
        rw [List.take_of_length_le (by rw [HLL.out];exact Nat.le_refl _)] at h1
        rw [HE3.out,h1])
       have HO:=Lib.hid (zbi (f:=iv) hown)
       have HQ5:=Lib.hid (HQ4.out.below hbw)
       have HB7:=Lib.hid (za HB4.out hbw)
       clear hown hbw
       go_wp2
       go_ret3
       rw [hE.out]
       exact ⟨_,_,rfl,HO.out,HQ5.out,HB7.out⟩
end Go.Proofs.YtblpkmmhmdpkjaaGreatDoor
