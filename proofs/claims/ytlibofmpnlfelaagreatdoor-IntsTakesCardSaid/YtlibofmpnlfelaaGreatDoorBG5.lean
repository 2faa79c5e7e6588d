import Derived.Deep.WholeRow
import Derived.Deep.RegionLaw
import Derived.Test.YtlibofmpnlfelaaGreatDoorBG4
set_option maxHeartbeats 8000000
set_option maxRecDepth 100000
namespace Go.Proofs.YtlibofmpnlfelaaGreatDoor
open Go.RowKit
theorem zmF {l:List Nat} {v:Value} {w:World} (h:IsV uv l v w) (hb:l.length≤1000000) (h64:∀ x∈l,x < 2 ^ 64):Calls Tryz.prog 138 #[v] w fun e w'=>e=.returned (.int .i64 (zbW l:Int))∧w=w':=by
 obtain ⟨A,c,rfl,h2,h3,h4,h5⟩:=h
 exact znL A _ c l w h2 rfl h3 hb h5 h64
theorem ztu (l:List Int) (v:Value) (s:Bool) (w:World) (ht:WTab w) (hv:IsV iv l v w) (hl:∀ x∈l,inInt x) (hb:l.length≤1000000) :
  Calls Tryz.prog 118 #[v,.bool s] w (RetE w (zdY l s)):=by
 have HP:=Lib.hid (zo5 l v s w hv hl hb)
 obtain ⟨A,c,rfl,hA,hnc,hcm,hlw⟩:=hv
 obtain ⟨n,hn⟩:∃ n,n=l.length:=⟨_,rfl⟩
 rw [←hn] at hA hnc hb HP ⊢
 by_cases hlen:n < 1∨512 < n
 ·have hE:=Lib.hid (zq6 (l:=l) (s:=s) (by omega))
  have HC:=Lib.hid (zkK (n:Int) w (by omega))
  clear hn hlw hcm hA hlen ht
  go_enter Tryz.func118,Tryz.ntmps118
  go_wp2_with (go_at_call 135;refine HC.out.mono ?_;rintro e w' ⟨rfl,rfl⟩)
  go_ret2
  rw [hE.out]
  exact RetE.nil _ (Below.refl _ _)
 ·have HC:=Lib.hid (ziP (n:Int) w (by omega) (by omega))
  cases hd:zy l s with
  | none =>
   have hE:=Lib.hid (ztq hd)
   have hpe:zdX l s=([],1):=by unfold zdX;rw [hd]
   rw [hpe] at HP
   clear hn hlw hcm hA hd hpe ht
   go_enter Tryz.func118,Tryz.ntmps118
   go_wp2_with (first | (go_at_call 135;refine HC.out.mono ?_;rintro e w' ⟨rfl,rfl⟩) | (go_at_call 136;refine HP.out.mono ?_))
   rintro e w1 ⟨u,rfl,hu,hb1⟩
   obtain ⟨A1,c1,rfl,_⟩:=hu
   go_wp2
   go_ret2
   rw [hE.out]
   exact RetE.nil _ hb1
  | some us =>
   have hpe:zdX l s=(us,0):=by unfold zdX;rw [hd]
   rw [hpe] at HP
   have H64:=Lib.hid (zft hl hd)
   have hul:=zdz hd
   rw [←hn] at hul
   have hE:=Lib.hid (zn2 hd (by omega) (by omega))
   have hus:us.length≤512:=by omega
   have HUL:=Lib.hid hul
   obtain ⟨W,hW⟩:∃ W,W=ze6 us:=⟨_,rfl⟩
   obtain ⟨C,hC⟩:∃ C,C=zkH us:=⟨_,rfl⟩
   have HW:=Lib.hid hW
   have HC2:=Lib.hid hC
   have HCL:=Lib.hid (fun X (h:WTab X)=>zdR (zbW us:Int) X h)
   rw [zhv,←hW] at HCL
   have HPK:=Lib.hid (fun (u:Value) (X:World) (h:IsV uv us u X)=>zmo (W:Int) (isU_iff.2 h) (by omega) H64.out)
   rw [hW,zvy H64.out,←hW] at HPK
   obtain ⟨hci,hc31,_⟩:=zhw H64.out
   have HCD:=Lib.hid (fun X (h:WTab X)=>zfo (W:Int) X h)
   rw [hW,hci,←hC,←hW] at HCD
   have HHD:=Lib.hid (fun X (h:WTab X)=>zhz 1 (C:Int) (n:Int) X h (by unfold inInt;omega) (by unfold inInt;omega) (by unfold inInt;omega))
   rw [show (1:Int)=((1:Nat):Int) from rfl,zfu (by omega) (by rw [hC];exact hc31) (by omega) (by omega),show ((1:Nat):Int)=(1:Int) from rfl] at HHD
   have hsz:(zbx us W).length≤4096:=by rw [zcK];exact zhx hus (by rw [hW];exact (zeF H64.out).2.1)
   have HT:=Lib.hid ht
   clear hn hlw hcm hA hd hpe hul hW hC hci hc31 hlen ht
   go_enter Tryz.func118,Tryz.ntmps118
   go_wp2_with (first | (go_at_call 135;refine HC.out.mono ?_;rintro e w' ⟨rfl,rfl⟩) | (go_at_call 136;refine HP.out.mono ?_))
   rintro e w1 ⟨u,rfl,hu,hb1⟩
   obtain ⟨A1,c1,rfl,hr⟩:=hu
   have hu:IsV uv us (.slice A1 us.length c1) w1:=⟨A1,c1,rfl,hr⟩
   have HB1:=Lib.hid hb1
   have HM:=Lib.hid (zmF hu (by omega) H64.out)
   have HPK1:=Lib.hid (HPK.out _ w1 hu)
   have HCL1:=Lib.hid (HCL.out w1 (HT.out.below hb1 HT.out.lt))
   clear hb1 hr hu
   go_wp2_with (first | (go_at_call 138;refine HM.out.mono ?_;rintro e w' ⟨rfl,rfl⟩) | (go_at_call 137;refine HCL1.out.mono ?_;rintro e w' ⟨rfl,rfl⟩) | (go_at_call 139;refine HPK1.out.mono ?_))
   rintro e w2 ⟨pk,rfl,hpk,hb2⟩
   obtain ⟨A2,c2,rfl,hA2,hn2,hm2,hl2⟩:=hpk
   have hb02:=za HB1.out hb2
   have HB2:=Lib.hid hb02
   have HCD2:=Lib.hid (HCD.out w2 (HT.out.below hb02 HT.out.lt))
   have HHD2:=Lib.hid (HHD.out w2 (HT.out.below hb02 HT.out.lt))
   clear hb2 hb02
   go_wp2_with (first | (go_at_call 141;refine HCD2.out.mono ?_;rintro e w' ⟨rfl,rfl⟩) | (go_at_call 140;refine HHD2.out.mono ?_))
   rintro e w3 ⟨hv3,rfl,hh,hb3⟩
   rw [zV] at hh
   have hz3:=hb3.size
   have hl3:=hl2.below hb3
   have HB3:=Lib.hid (za HB2.out hb3)
   obtain ⟨pl,hpl⟩:∃ pl,pl=(zbx us W).length:=⟨_,rfl⟩
   have hpm:((zbx us W).map bv).length=pl:=by rw [List.length_map,hpl]
   have HPM:=Lib.hid hpm
   rw [←hpl] at hsz hA2 hn2 ⊢
   have HPL:=Lib.hid hpl
   obtain ⟨xs,hxs⟩:∃ xs,xs=(zE 1 C n).map bv:=⟨_,rfl⟩
   rw [←hxs] at hh
   have HXS:=Lib.hid hxs
   clear hpm hpl hxs
   go_wp2_with (at_builtin;refine zk elemB rfl _ _ rfl w2.heap.size _ _ _ _ _ _ ((zbx us W).map bv) w2 rfl rfl hA2 HPM.out hl3 (zbv _) hh hb3 hz3 (by omega) (by omega) ?_)
   intro v4 w4 hown4 hb4 _ _
   have HO:=Lib.hid (show IsB (dlay us) v4 w4 by
    have e1:dlay us=zE 1 C n ++ zbx us W:=by unfold dlay;rw [HUL.out,←HC2.out,←HW.out]
    rw [e1]
    refine zbw (n:=2+pl) (base:=w2.heap.size) (e:=5) ?_
    rw [List.map_append,←HXS.out]
    exact hown4)
   have HB4:=Lib.hid (za HB2.out hb4)
   clear hown4 hb4 hh hb3 hz3 hl3
   go_wp2
   go_ret2
   rw [hE.out]
   exact ⟨_,rfl,HO.out,HB4.out⟩
def Fact.taken (w0:World) (us:List Nat) (q:List UInt8) (y:Int):Fact:=⟨fun v w=>∃ u r,v=.tuple #[u,r,.int .i64 y]∧IsV uv us u w∧OwnB w0 q r w,fun _ _ _ ⟨u,r,h1,h2,h3⟩ hb=>⟨u,r,h1,h2.below hb,h3.below hb⟩⟩
def Fact.ownB (w0:World) (q:List UInt8):Fact:=⟨OwnB w0 q,fun _ _ _ h hb=>h.below hb⟩
theorem zq8 (l:List UInt8) (v:Value) (s:Bool) (w:World) (ht:WTab w) (hv:IsB l v w) (hb:l.length≤1000000) :
  Calls Tryz.prog 119 #[v,.bool s] w (RetIO w (zbh l s)):=by
 obtain ⟨A,c,rfl,hA,hnc,hcm,hl⟩:=hv
 obtain ⟨n,hn⟩:∃ n,n=l.length:=⟨_,rfl⟩
 rw [←hn] at hA hnc hb ⊢
 have hci:(c:Int)≤9223372036854775807:=by unfold maxLen at hcm;omega
 have HT:=Lib.hid ht
 clear ht
 rcases zgS l with ⟨h2,hd⟩ | ⟨h2,K,C,M,hK,hC,hM1,hM,hd⟩
 ·have HR:=Lib.hid (zn3 A n c w (by omega))
  have hE:=Lib.hid (zfv (l:=l) (s:=s) (.inl (by rw [hd];decide)))
  clear hd hl hn hA
  go_enter Tryz.func119,Tryz.ntmps119
  go_wp2_with (go_at_call 142;refine HR.out.mono ?_)
  rintro e w1 ⟨rfl,hb1⟩
  go_wp2
  go_ret3
  rw [hE.out]
  exact RetIO.nil _ hb1
 ·rw [←hn] at h2
  have HR:=Lib.hid (zkM A n c K C M l w hl hn.symm h2 hb hd)
  by_cases hk1:K=1
  ·subst hk1
   have HD:=Lib.hid hd
   have HF:=Lib.hid fun (W:World) (h:Below w.heap.size w W)=>zbm (P:=Tryz.prog) elemB (k:=2) (by omega) hnc hcm hn.symm (hl.below h) hA
   rw [show ((2:Nat):Int)=2 from rfl] at HF
   obtain ⟨W,hW⟩:∃ W,W=wof (C:Int):=⟨_,rfl⟩
   have HOF:=Lib.hid (fun X (h:WTab X)=>ziy (C:Int) X h (by omega) (by omega))
   rw [←hW] at HOF
   obtain ⟨us,q,y,hu⟩:∃ us q y,zg (l.drop 2) (M:Int) W=(us,q,y):=⟨_,_,_,rfl⟩
   have hlt:=(zba (l:=l.drop 2) (M:=(M:Int)) (W:=W)).1
   have hmany:=(zba (l:=l.drop 2) (M:=(M:Int)) (W:=W)).2
   rw [hu] at hlt hmany
   dsimp only at hlt hmany
   have HU:=Lib.hid hu
   have HLT:=Lib.hid hlt
   have HUN:=Lib.hid (fun (u:Value) (X:World) (h:IsB (l.drop 2) u X)=>zeD (M:Int) W h (by rw [List.length_drop];omega))
   rw [HU.out] at HUN
   have HWW:=Lib.hid hW
   have hn2:(2:Int)≤(n:Int):=by omega
   have d1:(((1:Nat):Int) != 1)=false:=by simp
   clear hd hu hlt hW hl hn
   by_cases hy:y=0
   ·subst hy
    have HMD:=Lib.hid (fun (u:Value) (X:World) (h:IsV uv us u X)=>zq7 us u s X h HLT.out (by omega))
    cases hm:zeW us s with
    | none =>
     have hpe:zcs us s=([],2):=by unfold zcs;rw [hm]
     rw [hpe] at HMD
     have hE:=Lib.hid (ziO (s:=s) HD.out (by rw [←HWW.out];exact HU.out) hm)
     clear hm hpe
     go_enter Tryz.func119,Tryz.ntmps119
     go_wp2_with (go_at_call 142;refine HR.out.mono ?_)
     rintro e w1 ⟨rfl,hb1⟩
     have HB1:=Lib.hid hb1
     have HOF1:=HOF
     have HT1:=Lib.hid (HT.out.below hb1 HT.out.lt)
     obtain ⟨v3,hv3,hI3⟩:=HF.out w1 hb1
     have HI3:=Lib.hid hI3
     clear hb1 hI3
     go_wp2_with fail
     refine wp_region_list [.is (.slice A n c),.is (v3),.is (.int .i64 (M:Int)),.is (.int .i64 (C:Int)),.is (.int .i64 W),.taken w1 us q 0,.taken w1 us q 0,.vals uv us,.ownB w1 q,.is (.int .i64 0),.vals uv us,.ownB w1 q,.is (.int .i64 0)] [some 29,some 30,some 31,some 32,some 33,some 34,some 28,some 35,some 36,some 37,some 11,some 12,some 13] (by kernel_rfl) (by kernel_rfl) (by kernel_rfl) rfl ⟨?_,?_,?_,?_,?_,?_,?_,?_,?_,?_,?_,?_,?_,trivial⟩ ?_
     ·intro ρ W1 hb1 H
      exact zd rfl (H.old 0 _ (by kernel_rfl) rfl) ⟨rfl,Below.refl _ _⟩
     ·intro ρ W1 hb1 H
      exact zI rfl (H.new 29 0 (by kernel_rfl)) rfl rfl rfl (by simpa [H.const] using hv3 W1) ⟨rfl,Below.refl _ _⟩
     ·intro ρ W1 hb1 H
      exact zd rfl (H.old 9 _ (by kernel_rfl) rfl) ⟨rfl,Below.refl _ _⟩
     ·intro ρ W1 hb1 H
      exact zd rfl (H.old 8 _ (by kernel_rfl) rfl) ⟨rfl,Below.refl _ _⟩
     ·intro ρ W1 hb1 H
      have e0:ρ (.tmp 32)=.int .i64 (C:Int):=H.new 32 3 (by kernel_rfl)
      refine zj rfl (fun _ _=>by kernel_rfl) (H.func _) (args:=#[.int .i64 (C:Int)]) (by simp [e0]) ?_
      exact (HOF1.out W1 (HT1.out.below hb1 HT1.out.lt)).mono fun e w' ⟨h1,h2⟩=>⟨_,h1,rfl,h2 ▸ Below.refl _ _⟩
     ·intro ρ W1 hb1 H
      have e0:ρ (.tmp 30)=v3:=H.new 30 1 (by kernel_rfl)
      have e1:ρ (.tmp 31)=.int .i64 (M:Int):=H.new 31 2 (by kernel_rfl)
      have e2:ρ (.tmp 33)=.int .i64 W:=H.new 33 4 (by kernel_rfl)
      refine zj rfl (fun _ _=>by kernel_rfl) (H.func _) (args:=#[v3,.int .i64 (M:Int),.int .i64 W]) (by simp [e0,e1,e2]) ?_
      exact (HUN.out v3 W1 (HI3.out.below hb1)).mono fun e w' ⟨u,r,h1,h2,h3,h4⟩=>⟨_,h1,⟨u,r,rfl,zbk h2,OwnB.base hb1.size h3⟩,h4⟩
     ·intro ρ W1 hb1 H
      exact zd rfl rfl ⟨H.new 34 5 (by kernel_rfl),Below.refl _ _⟩
     ·intro ρ W1 hb1 H
      have h28:∃ u r,ρ (.tmp 28)=.tuple #[u,r,.int .i64 0]∧IsV uv us u W1∧OwnB w1 q r W1:=H.new 28 6 (by kernel_rfl)
      obtain ⟨u,r,h1,h2,h3⟩:=h28
      exact zi rfl h1 rfl ⟨h2,Below.refl _ _⟩
     ·intro ρ W1 hb1 H
      have h28:∃ u r,ρ (.tmp 28)=.tuple #[u,r,.int .i64 0]∧IsV uv us u W1∧OwnB w1 q r W1:=H.new 28 6 (by kernel_rfl)
      obtain ⟨u,r,h1,h2,h3⟩:=h28
      exact zi rfl h1 rfl ⟨h3,Below.refl _ _⟩
     ·intro ρ W1 hb1 H
      have h28:∃ u r,ρ (.tmp 28)=.tuple #[u,r,.int .i64 0]∧IsV uv us u W1∧OwnB w1 q r W1:=H.new 28 6 (by kernel_rfl)
      obtain ⟨u,r,h1,h2,h3⟩:=h28
      exact zi rfl h1 rfl ⟨rfl,Below.refl _ _⟩
     ·intro ρ W1 hb1 H
      exact ze rfl rfl ⟨H.new 35 7 (by kernel_rfl),Below.refl _ _⟩
     ·intro ρ W1 hb1 H
      exact ze rfl rfl ⟨H.new 36 8 (by kernel_rfl),Below.refl _ _⟩
     ·intro ρ W1 hb1 H
      exact ze rfl (H.new 37 9 (by kernel_rfl)) ⟨rfl,Below.refl _ _⟩
     ·intro vs W1 hb1 hfs
      have f10:IsV uv us (vs 10) W1:=hfs 10 (by decide)
      have f11:OwnB w1 q (vs 11) W1:=hfs 11 (by decide)
      have f12:vs 12=.int .i64 0:=hfs 12 (by decide)
      clear hfs
      simp only [zr,Nat.zero_add,Nat.reduceAdd]
      generalize vs 0=z0
      generalize vs 1=z1
      generalize vs 2=z2
      generalize vs 3=z3
      generalize vs 4=z4
      generalize vs 5=z5
      generalize vs 6=z6
      generalize vs 7=z7
      generalize vs 8=z8
      generalize vs 9=z9
      generalize vs 10=z10 at f10 ⊢
      generalize vs 11=z11 at f11 ⊢
      simp only [f12,Act.put,List.setIfInBounds_toArray,List.set_cons_succ,List.set_cons_zero]
      clear f12
      have HB2:=Lib.hid (za HB1.out hb1)
      have HI:=Lib.hid f10
      have HQ:=Lib.hid (OwnB.base HB1.out.size f11)
      clear hb1 f10 f11
      go_wp2_with (go_at_call 145;refine (HMD.out _ _ HI.out).mono ?_)
      rintro e w3 ⟨m3,rfl,hm3,hb3⟩
      obtain ⟨A3,c3,rfl,_⟩:=hm3
      go_wp2
      go_ret3
      rw [hE.out]
      exact RetIO.nil _ (za HB2.out hb3)
    | some m =>
     have hpe:zcs us s=(m,0):=by unfold zcs;rw [hm]
     rw [hpe] at HMD
     have hE:=Lib.hid (zen (s:=s) HD.out (by rw [←HWW.out];exact HU.out) hm)
     clear hm hpe
     go_enter Tryz.func119,Tryz.ntmps119
     go_wp2_with (go_at_call 142;refine HR.out.mono ?_)
     rintro e w1 ⟨rfl,hb1⟩
     have HB1:=Lib.hid hb1
     have HOF1:=HOF
     have HT1:=Lib.hid (HT.out.below hb1 HT.out.lt)
     obtain ⟨v3,hv3,hI3⟩:=HF.out w1 hb1
     have HI3:=Lib.hid hI3
     clear hb1 hI3
     go_wp2_with fail
     refine wp_region_list [.is (.slice A n c),.is (v3),.is (.int .i64 (M:Int)),.is (.int .i64 (C:Int)),.is (.int .i64 W),.taken w1 us q 0,.taken w1 us q 0,.vals uv us,.ownB w1 q,.is (.int .i64 0),.vals uv us,.ownB w1 q,.is (.int .i64 0)] [some 29,some 30,some 31,some 32,some 33,some 34,some 28,some 35,some 36,some 37,some 11,some 12,some 13] (by kernel_rfl) (by kernel_rfl) (by kernel_rfl) rfl ⟨?_,?_,?_,?_,?_,?_,?_,?_,?_,?_,?_,?_,?_,trivial⟩ ?_
     ·intro ρ W1 hb1 H
      exact zd rfl (H.old 0 _ (by kernel_rfl) rfl) ⟨rfl,Below.refl _ _⟩
     ·intro ρ W1 hb1 H
      exact zI rfl (H.new 29 0 (by kernel_rfl)) rfl rfl rfl (by simpa [H.const] using hv3 W1) ⟨rfl,Below.refl _ _⟩
     ·intro ρ W1 hb1 H
      exact zd rfl (H.old 9 _ (by kernel_rfl) rfl) ⟨rfl,Below.refl _ _⟩
     ·intro ρ W1 hb1 H
      exact zd rfl (H.old 8 _ (by kernel_rfl) rfl) ⟨rfl,Below.refl _ _⟩
     ·intro ρ W1 hb1 H
      have e0:ρ (.tmp 32)=.int .i64 (C:Int):=H.new 32 3 (by kernel_rfl)
      refine zj rfl (fun _ _=>by kernel_rfl) (H.func _) (args:=#[.int .i64 (C:Int)]) (by simp [e0]) ?_
      exact (HOF1.out W1 (HT1.out.below hb1 HT1.out.lt)).mono fun e w' ⟨h1,h2⟩=>⟨_,h1,rfl,h2 ▸ Below.refl _ _⟩
     ·intro ρ W1 hb1 H
      have e0:ρ (.tmp 30)=v3:=H.new 30 1 (by kernel_rfl)
      have e1:ρ (.tmp 31)=.int .i64 (M:Int):=H.new 31 2 (by kernel_rfl)
      have e2:ρ (.tmp 33)=.int .i64 W:=H.new 33 4 (by kernel_rfl)
      refine zj rfl (fun _ _=>by kernel_rfl) (H.func _) (args:=#[v3,.int .i64 (M:Int),.int .i64 W]) (by simp [e0,e1,e2]) ?_
      exact (HUN.out v3 W1 (HI3.out.below hb1)).mono fun e w' ⟨u,r,h1,h2,h3,h4⟩=>⟨_,h1,⟨u,r,rfl,zbk h2,OwnB.base hb1.size h3⟩,h4⟩
     ·intro ρ W1 hb1 H
      exact zd rfl rfl ⟨H.new 34 5 (by kernel_rfl),Below.refl _ _⟩
     ·intro ρ W1 hb1 H
      have h28:∃ u r,ρ (.tmp 28)=.tuple #[u,r,.int .i64 0]∧IsV uv us u W1∧OwnB w1 q r W1:=H.new 28 6 (by kernel_rfl)
      obtain ⟨u,r,h1,h2,h3⟩:=h28
      exact zi rfl h1 rfl ⟨h2,Below.refl _ _⟩
     ·intro ρ W1 hb1 H
      have h28:∃ u r,ρ (.tmp 28)=.tuple #[u,r,.int .i64 0]∧IsV uv us u W1∧OwnB w1 q r W1:=H.new 28 6 (by kernel_rfl)
      obtain ⟨u,r,h1,h2,h3⟩:=h28
      exact zi rfl h1 rfl ⟨h3,Below.refl _ _⟩
     ·intro ρ W1 hb1 H
      have h28:∃ u r,ρ (.tmp 28)=.tuple #[u,r,.int .i64 0]∧IsV uv us u W1∧OwnB w1 q r W1:=H.new 28 6 (by kernel_rfl)
      obtain ⟨u,r,h1,h2,h3⟩:=h28
      exact zi rfl h1 rfl ⟨rfl,Below.refl _ _⟩
     ·intro ρ W1 hb1 H
      exact ze rfl rfl ⟨H.new 35 7 (by kernel_rfl),Below.refl _ _⟩
     ·intro ρ W1 hb1 H
      exact ze rfl rfl ⟨H.new 36 8 (by kernel_rfl),Below.refl _ _⟩
     ·intro ρ W1 hb1 H
      exact ze rfl (H.new 37 9 (by kernel_rfl)) ⟨rfl,Below.refl _ _⟩
     ·intro vs W1 hb1 hfs
      have f10:IsV uv us (vs 10) W1:=hfs 10 (by decide)
      have f11:OwnB w1 q (vs 11) W1:=hfs 11 (by decide)
      have f12:vs 12=.int .i64 0:=hfs 12 (by decide)
      clear hfs
      simp only [zr,Nat.zero_add,Nat.reduceAdd]
      generalize vs 0=z0
      generalize vs 1=z1
      generalize vs 2=z2
      generalize vs 3=z3
      generalize vs 4=z4
      generalize vs 5=z5
      generalize vs 6=z6
      generalize vs 7=z7
      generalize vs 8=z8
      generalize vs 9=z9
      generalize vs 10=z10 at f10 ⊢
      generalize vs 11=z11 at f11 ⊢
      simp only [f12,Act.put,List.setIfInBounds_toArray,List.set_cons_succ,List.set_cons_zero]
      clear f12
      have HB2:=Lib.hid (za HB1.out hb1)
      have HI:=Lib.hid f10
      have HQ:=Lib.hid (OwnB.base HB1.out.size f11)
      clear hb1 f10 f11
      go_wp2_with (go_at_call 145;refine (HMD.out _ _ HI.out).mono ?_)
      rintro e w3 ⟨m3,rfl,hm3,hb3⟩
      have HQ3:=Lib.hid (HQ.out.below hb3)
      have HM3:=Lib.hid hm3
      have HB3:=Lib.hid (za HB2.out hb3)
      clear hm3 hb3
      go_wp2
      go_ret3
      rw [hE.out]
      exact ⟨_,_,rfl,HM3.out,HQ3.out,HB3.out⟩
   ·have hE:=Lib.hid (ziN (s:=s) HD.out (by rw [←HWW.out];exact HU.out) hy)
    have d2:(y != 0)=true:=by simpa using hy
    go_enter Tryz.func119,Tryz.ntmps119
    go_wp2_with (go_at_call 142;refine HR.out.mono ?_)
    rintro e w1 ⟨rfl,hb1⟩
    have HB1:=Lib.hid hb1
    have HOF1:=HOF
    have HT1:=Lib.hid (HT.out.below hb1 HT.out.lt)
    obtain ⟨v3,hv3,hI3⟩:=HF.out w1 hb1
    have HI3:=Lib.hid hI3
    clear hb1 hI3
    go_wp2_with fail
    refine wp_region_list [.is (.slice A n c),.is (v3),.is (.int .i64 (M:Int)),.is (.int .i64 (C:Int)),.is (.int .i64 W),.taken w1 us q y,.taken w1 us q y,.vals uv us,.ownB w1 q,.is (.int .i64 y),.vals uv us,.ownB w1 q,.is (.int .i64 y)] [some 29,some 30,some 31,some 32,some 33,some 34,some 28,some 35,some 36,some 37,some 11,some 12,some 13] (by kernel_rfl) (by kernel_rfl) (by kernel_rfl) rfl ⟨?_,?_,?_,?_,?_,?_,?_,?_,?_,?_,?_,?_,?_,trivial⟩ ?_
    ·intro ρ W1 hb1 H
     exact zd rfl (H.old 0 _ (by kernel_rfl) rfl) ⟨rfl,Below.refl _ _⟩
    ·intro ρ W1 hb1 H
     exact zI rfl (H.new 29 0 (by kernel_rfl)) rfl rfl rfl (by simpa [H.const] using hv3 W1) ⟨rfl,Below.refl _ _⟩
    ·intro ρ W1 hb1 H
     exact zd rfl (H.old 9 _ (by kernel_rfl) rfl) ⟨rfl,Below.refl _ _⟩
    ·intro ρ W1 hb1 H
     exact zd rfl (H.old 8 _ (by kernel_rfl) rfl) ⟨rfl,Below.refl _ _⟩
    ·intro ρ W1 hb1 H
     have e0:ρ (.tmp 32)=.int .i64 (C:Int):=H.new 32 3 (by kernel_rfl)
     refine zj rfl (fun _ _=>by kernel_rfl) (H.func _) (args:=#[.int .i64 (C:Int)]) (by simp [e0]) ?_
     exact (HOF1.out W1 (HT1.out.below hb1 HT1.out.lt)).mono fun e w' ⟨h1,h2⟩=>⟨_,h1,rfl,h2 ▸ Below.refl _ _⟩
    ·intro ρ W1 hb1 H
     have e0:ρ (.tmp 30)=v3:=H.new 30 1 (by kernel_rfl)
     have e1:ρ (.tmp 31)=.int .i64 (M:Int):=H.new 31 2 (by kernel_rfl)
     have e2:ρ (.tmp 33)=.int .i64 W:=H.new 33 4 (by kernel_rfl)
     refine zj rfl (fun _ _=>by kernel_rfl) (H.func _) (args:=#[v3,.int .i64 (M:Int),.int .i64 W]) (by simp [e0,e1,e2]) ?_
     exact (HUN.out v3 W1 (HI3.out.below hb1)).mono fun e w' ⟨u,r,h1,h2,h3,h4⟩=>⟨_,h1,⟨u,r,rfl,zbk h2,OwnB.base hb1.size h3⟩,h4⟩
    ·intro ρ W1 hb1 H
     exact zd rfl rfl ⟨H.new 34 5 (by kernel_rfl),Below.refl _ _⟩
    ·intro ρ W1 hb1 H
     have h28:∃ u r,ρ (.tmp 28)=.tuple #[u,r,.int .i64 y]∧IsV uv us u W1∧OwnB w1 q r W1:=H.new 28 6 (by kernel_rfl)
     obtain ⟨u,r,h1,h2,h3⟩:=h28
     exact zi rfl h1 rfl ⟨h2,Below.refl _ _⟩
    ·intro ρ W1 hb1 H
     have h28:∃ u r,ρ (.tmp 28)=.tuple #[u,r,.int .i64 y]∧IsV uv us u W1∧OwnB w1 q r W1:=H.new 28 6 (by kernel_rfl)
     obtain ⟨u,r,h1,h2,h3⟩:=h28
     exact zi rfl h1 rfl ⟨h3,Below.refl _ _⟩
    ·intro ρ W1 hb1 H
     have h28:∃ u r,ρ (.tmp 28)=.tuple #[u,r,.int .i64 y]∧IsV uv us u W1∧OwnB w1 q r W1:=H.new 28 6 (by kernel_rfl)
     obtain ⟨u,r,h1,h2,h3⟩:=h28
     exact zi rfl h1 rfl ⟨rfl,Below.refl _ _⟩
    ·intro ρ W1 hb1 H
     exact ze rfl rfl ⟨H.new 35 7 (by kernel_rfl),Below.refl _ _⟩
    ·intro ρ W1 hb1 H
     exact ze rfl rfl ⟨H.new 36 8 (by kernel_rfl),Below.refl _ _⟩
    ·intro ρ W1 hb1 H
     exact ze rfl (H.new 37 9 (by kernel_rfl)) ⟨rfl,Below.refl _ _⟩
    ·intro vs W1 hb1 hfs
     have f10:IsV uv us (vs 10) W1:=hfs 10 (by decide)
     have f11:OwnB w1 q (vs 11) W1:=hfs 11 (by decide)
     have f12:vs 12=.int .i64 y:=hfs 12 (by decide)
     clear hfs
     simp only [zr,Nat.zero_add,Nat.reduceAdd]
     generalize vs 0=z0
     generalize vs 1=z1
     generalize vs 2=z2
     generalize vs 3=z3
     generalize vs 4=z4
     generalize vs 5=z5
     generalize vs 6=z6
     generalize vs 7=z7
     generalize vs 8=z8
     generalize vs 9=z9
     generalize vs 10=z10 at f10 ⊢
     generalize vs 11=z11 at f11 ⊢
     simp only [f12,Act.put,List.setIfInBounds_toArray,List.set_cons_succ,List.set_cons_zero]
     clear f12
     have HB2:=Lib.hid (za HB1.out hb1)
     have HI:=Lib.hid f10
     have HQ:=Lib.hid (OwnB.base HB1.out.size f11)
     clear hb1 f10 f11
     go_wp2
     go_ret3
     rw [hE.out]
     exact RetIO.nil _ HB2.out
  ·have hE:=Lib.hid (zfv (l:=l) (s:=s) (.inr (by rw [hd];dsimp only;omega)))
   have d1:((K:Int) != 1)=true:=by simp;omega
   clear hd hl hn hA
   go_enter Tryz.func119,Tryz.ntmps119
   go_wp2_with (go_at_call 142;refine HR.out.mono ?_)
   rintro e w1 ⟨rfl,hb1⟩
   go_wp2
   go_ret3
   rw [hE.out]
   exact RetIO.nil _ hb1
theorem zmG {α:Type} {f:α→List Value} {m:Nat} (hf:∀ x,(f x).length=m):∀ (l:List α) (k:Nat) (hk:k < l.length) (i:Nat),i < m→(l.flatMap f)[k*m+i]? = (f l[k])[i]?
 | [],_,hk,_,_=>absurd hk (Nat.not_lt_zero _)
 | x::l,0,_,i,hi=>by
  rw [List.flatMap_cons,Nat.zero_mul,Nat.zero_add,List.getElem?_append_left (by rw [hf];exact hi)]
  rfl
 | x::l,k+1,hk,i,hi=>by
  rw [List.flatMap_cons,Nat.succ_mul,List.getElem?_append_right (by rw [hf];omega),hf,show k*m+m+i - m=k*m+i by omega]
  exact zmG hf l k (by simpa using hk) i hi
theorem zkN {α:Type} {f:α→List Value} {m:Nat} (hf:∀ x,(f x).length=m):∀ (l:List α) (k:Nat),(l.take k).flatMap f=(l.flatMap f).take (k*m)
 | [],k=>by simp
 | x::l,0=>by simp
 | x::l,k+1=>by
  rw [List.take_succ_cons,List.flatMap_cons,List.flatMap_cons,zkN hf l k,Nat.succ_mul,List.take_append,hf,show k*m+m - m=k*m by omega,List.take_of_length_le (l:=f x) (by rw [hf];omega)]
theorem zcE {α:Type} {f:α→List Value} {m:Nat} (hf:∀ x,(f x).length=m):∀ l:List α,(l.flatMap f).length=l.length*m
 | []=>by simp
 | x::l=>by rw [List.flatMap_cons,List.length_append,hf,zcE hf l,List.length_cons,Nat.succ_mul,Nat.add_comm]
def IsR {α:Type} (f:α→List Value) (l:List α) (v:Value) (w:World):Prop:=∃ A c,v=.slice A l.length c∧(A=none→l.length=0)∧l.length≤c∧c≤maxLen∧Lies w A (l.flatMap f)
section
variable {α:Type} {f:α→List Value} {l:List α} {v:Value} {w w':World} {A:Option Addr} {n c m:Nat}
theorem IsR.below (h:IsR f l v w) (hb:Below w.heap.size w w'):IsR f l v w':=by
 obtain ⟨A,c,h1,h2,h3,h4,h5⟩:=h
 exact ⟨A,c,h1,h2,h3,h4,h5.below hb⟩
theorem IsR.parts (h:IsR f l (.slice A n c) w):l.length=n∧(A=none→n=0)∧n≤c∧c≤maxLen∧Lies w A (l.flatMap f):=by
 obtain ⟨A',c',h1,h2,h3,h4,h5⟩:=h
 injection h1 with e1 e2 e3
 subst e1 e2 e3
 exact ⟨rfl,h2,h3,h4,h5⟩
theorem IsR.shape (h:IsR f l v w):∃ A n c,v=.slice A n c:=by
 obtain ⟨A',c',h1,_⟩:=h
 exact ⟨_,_,_,h1⟩
theorem IsR.at (h:IsR f l (.slice A n c) w) (hf:∀ x,(f x).length=m) (hm:0 < m) {k:Nat} (hk:k < l.length):∃ ad,A=some ad∧ad.block < w.heap.size∧∀ i,i < m→w.cell? (ad.add (k*m+i))=(f l[k])[i]?:=by
 obtain ⟨_,_,_,_,h5⟩:=h.parts
 have hne:l.flatMap f≠[]:=by
  intro h0
  have h1:=zmG hf l k hk 0 hm
  rw [h0,List.getElem?_eq_getElem (l:=f l[k]) (by rw [hf];exact hm)] at h1
  cases h1
 rcases h5 with h5 | ⟨ad,hA,hlt,hc⟩
 ·exact absurd h5 hne
 ·refine ⟨ad,hA,hlt,fun i hi=>?_⟩
  have h1:=zmG hf l k hk i hi
  rw [List.getElem?_eq_getElem (l:=f l[k]) (by rw [hf];exact hi)] at h1 ⊢
  exact hc _ _ h1
theorem IsR.take (h:IsR f l (.slice A n c) w) (hf:∀ x,(f x).length=m) {k:Nat} (hk:k≤n):IsR f (l.take k) (.slice A k c) w:=by
 obtain ⟨h1,h2,h3,h4,h5⟩:=h.parts
 have hl:(l.take k).length=k:=by rw [List.length_take];omega
 exact ⟨A,c,by rw [hl],fun h=>by have:=h2 h;omega,by rw [hl];omega,h4,by rw [zkN hf];exact h5.take _⟩
end
section
variable {P:Program} {o:Oper} {ρ:Operand→Value} {w:World} {R:Value→World→Prop}
theorem zgJ {t e:TypeId} {m:Nat} (ht:P.underlying t=some (.slice e)) (hs:∀ W,(sizeOf e).run P W=.ok m W) {x y:Operand} {ad:Addr} {n c k:Nat} (ho:o.op=.indexAddr t x y) (hx:ρ x=.slice (some ad) n c) (hy:ρ y=.int .i64 (k:Int)) (hk:k < n)
  (hR:R (.pointer (some (ad.add (k*m)))) w):zX P o ρ w R:=by
 refine zo (v:=.pointer (some (ad.add (k*m)))) (w':=w) ?_ hR
 have h0:(0:Int)≤(k:Int):=by omega
 have h1:(k:Int) < (n:Int):=by omega
 simp [execOp,ho,hx,hy,go_sem,ht,hs,h0,h1]
theorem zhB {t:TypeId} {x:Operand} {ad:Addr} {cs:List Value} {d:TypeDesc} (ho:o.op=.load t x) (hx:ρ x=.pointer (some ad)) (hu:P.underlying t=some d) (hd:(match (generalizing:=false) d with | .struct _ | .array _ _=>true | _=>false)=true)
  (hs:∀ W,(sizeOf t).run P W=.ok cs.length W) (hc:∀ j v,cs[j]? = some v→w.cell? (ad.add j)=some v) (hR:R (.agg cs.toArray) w):zX P o ρ w R:=by
 refine zo (v:=.agg cs.toArray) (w':=w) ?_ hR
 have ha:(isAgg t).run P w=.ok true w:=by
  unfold isAgg
  rw [Sem.run_bind,run_underlying hu]
  cases d <;> first | rfl | cases hd
 have hl:(loadVar t ad).run P w=.ok (.agg cs.toArray) w:=by
  simp [loadVar,ha,hs,run_loadCells_list w ad cs hc]
 simp [execOp,ho,hx,Instr.loadAt,Instr.sureAddr,hl]
theorem zq {t:TypeId} {x:Operand} {ad ad':Addr} {f:Nat} (ho:o.op=.fieldAddr t x f) (hx:ρ x=.pointer (some ad)) (hrun:∀ W,(Instr.fieldAt t (.pointer (some ad)) f).run P W=.ok (.pointer (some ad')) W)
  (hR:R (.pointer (some ad')) w):zX P o ρ w R:=by
 refine zo (v:=.pointer (some ad')) (w':=w) ?_ hR
 simp [execOp,ho,hx,hrun]
end
structure ElemW (P:Program) (t e:TypeId) (bytes m:Nat) (z:Value):Prop where
 under:P.underlying t=some (.slice e)
 cells:z.cells.size=m
 pos:0 < m
 info:∃ (i:TypeInfo),P.info? e=some i∧i.zero=some z∧i.size=m∧i.bytes=bytes
section
variable {P:Program} (w:World)
theorem zgK (base:Nat) (t ty e:TypeId) (i:TypeInfo) (z:Value) (size bytes:Nat) (ht:P.underlying t=some (.slice e)) (hi:P.info? e=some i) (hz:i.zero=some z)
  (hsize:i.size=size) (hby:i.bytes=bytes) (hzs:z.cells.size=size) (hsz:0 < size)
  (v:Value) (n:Nat) (xs:List Value) (hown:w.ownsRow base e size v n xs) (A:Option Addr) (m c:Nat) (hA:A=none→m=0) (news:List Value) (hm:news.length=m*size) (hr:Lies w A news) (h1:∀ u∈news,u.oneCell'=true)
  (h63:n+m≤maxLen) (hbytes:(n+m)*bytes≤140737488355328) (hbase:base≤w.heap.size) :
  ∃ v' w',(Builtin.append_ #[t,t] ty #[v,.slice A m c]).run P w=.ok v' w'∧w'.ownsRow base e size v' (n+m) (xs ++ news)∧w.grownBy w' v.ownBlock ∧
   (v'.ownBlock=v.ownBlock∨v'.ownBlock=some w.heap.size):=by
 rcases A with _ | ad
 ·have hm0:=hA rfl
  subst hm0
  have hn:news=[]:=List.eq_nil_of_length_eq_zero (by rw [hm,Nat.zero_mul])
  subst hn
  refine ⟨v,w,?_,by simpa using hown,World.grownBy.refl w _,.inl rfl⟩
  rcases hown.2 with ⟨rfl,rfl⟩ | ⟨g,cap,cur,rfl,_,_,hnc,_⟩
  ·simp [Builtin.append_,run_underlying ht,sizeOf,typeInfo,hi,Builtin.lenOf,Builtin.firstCells]
  ·simp [Builtin.append_,run_underlying ht,sizeOf,typeInfo,hi,Builtin.lenOf,Builtin.firstCells,hnc,storeCells]
 ·have hcells:∀ j u,news[j]? = some u→w.cell? (ad.add j)=some u:=by
   intro j u hu
   rcases hr with hr | ⟨ad',hA,_,hc⟩
   ·rw [hr] at hu;simp at hu
   ·injection hA with hA;subst hA;exact hc j u hu
  obtain ⟨v',w',hrun,h2,h3,_,h5⟩:=run_append_own_at (P:=P) w base t ty e i z size bytes ht hi hz hsize hby hzs hsz v n xs hown ad m c news hm hcells h1 h63 hbytes hbase
  exact ⟨v',w',hrun,h2,h3,h5⟩
theorem zil {ops:Array Oper} {rest:List Oper} {o:Oper} {a:Act} {Q:Exit→Act→World→Prop} (hgd:o.guard=none) (s x:Operand) (t:TypeId)
  (ho:o.op=.call { callee:=.builtin .append,args:=#[s,x],argTypes:=#[t,t] })
  (base:Nat) (e:TypeId) (i:TypeInfo) (z:Value) (size bytes:Nat) (ht:P.underlying t=some (.slice e)) (hi:P.info? e=some i) (hz:i.zero=some z)
  (hsize:i.size=size) (hby:i.bytes=bytes) (hzs:z.cells.size=size) (hsz:0 < size)
  (v:Value) (n:Nat) (xs:List Value) (hs:a.eval s=v) (hown:w.ownsRow base e size v n xs) (A:Option Addr) (m c:Nat) (hx:a.eval x=.slice A m c) (hA:A=none→m=0)
  (news:List Value) (hm:news.length=m*size) (hr:Lies w A news) (h1:∀ u∈news,u.oneCell'=true)
  (h63:n+m≤maxLen) (hbytes:(n+m)*bytes≤140737488355328) (hbase:base≤w.heap.size)
  (h:∀ v' w',w'.ownsRow base e size v' (n+m) (xs ++ news)→w.grownBy w' v.ownBlock→(v'.ownBlock=v.ownBlock∨v'.ownBlock=some w.heap.size)→wpList P ops Q rest (a.put o.dst v') w'):wpList P ops Q (o::rest) a w:=by
 refine wpList_plain hgd fun K hK=>?_
 obtain ⟨v',w',hrun,h2,h3,h4⟩:=zgK (P:=P) w base t o.type e i z size bytes ht hi hz hsize hby hzs hsz v n xs hown A m c hA news hm hr h1 h63 hbytes hbase
 unfold Oper.wp execOp
 simp only [ho,resolve,invoke,builtin,Sem.run_bind,Sem.run_pure,Result.andThen_ok,List.map_toArray,List.map_cons,List.map_nil,hs,hx,hrun]
 exact hK _ _ (h v' w' h2 h3 h4)
end
theorem zuQ {w:World} {base size n:Nat} {e:TypeId} {v:Value} {xs:List Value} (h:w.ownsRow base e size v n xs) {g:Nat} (hg:v.ownBlock=some g):base≤g∧g < w.heap.size:=by
 rcases h.2 with ⟨rfl,_⟩ | ⟨g',cap,cur,rfl,hb,hc,_⟩
 ·simp [Value.ownBlock] at hg
 ·simp [Value.ownBlock] at hg
  subst hg
  exact ⟨hb,(Array.getElem?_eq_some_iff.1 hc).1⟩
theorem zjH {w0 w w':World} {base size:Nat} {e:TypeId} {v:Value} {n:Nat} {xs:List Value} (hb:Below base w0 w) (hown:w.ownsRow base e size v n xs) (hz:base≤w.heap.size) (hg:w.grownBy w' v.ownBlock):Below base w0 w':=
 hb.grown hg hz fun _ hk=>(zuQ hown hk).1
theorem ziQ {w:World} {base size n:Nat} {e:TypeId} {v:Value} {xs:List Value} (h:w.ownsRow base e size v n xs) (o:Obj):(w.alloc o).ownsRow base e size v n xs:=
 own_below h ((Below.refl _ _).alloc (Nat.le_refl _) o)
theorem zq9 {w:World} {base base' size n:Nat} {e:TypeId} {v:Value} {xs:List Value} (hb:base'≤base) (h:w.ownsRow base e size v n xs):w.ownsRow base' e size v n xs:=
 ⟨h.1,h.2.imp id fun ⟨g,cap,cur,h1,h2,h3⟩=>⟨g,cap,cur,h1,Nat.le_trans hb h2,h3⟩⟩
theorem zkO (w:World) (cs:List Value) (t:TypeId):Lies (w.alloc (.cells cs.toArray t)) (some ⟨w.heap.size,0,none⟩) cs:=by
 have h:Row (w.alloc (.cells cs.toArray t)) w.heap.size t cs:=heap_alloc_new w _
 simpa using h.lies 0
theorem zci {P:Program} {W:World} {ops:Array Oper} {rest:List Oper} {o:Oper} {a:Act} {Q:Exit→Act→World→Prop} {t e:TypeId} {bytes m:Nat} {z:Value} (E:ElemW P t e bytes m z)
  (hgd:o.guard=none) (s x:Operand) (ho:o.op=.call { callee:=.builtin .append,args:=#[s,x],argTypes:=#[t,t] })
  (base:Nat) (v:Value) (n:Nat) (xs cs:List Value) (w w0:World) (hs:a.eval s=v) (hx:a.eval x=.slice (some ⟨w.heap.size,0,none⟩) 1 1) (hW:W=w.alloc (.cells cs.toArray e)) (hm:cs.length=m)
  (hu:∀ u∈cs,u.oneCell'=true) (hown:w.ownsRow base e m v n xs) (hb:Below base w0 w) (hbase:base≤w.heap.size) (hn:n≤1000000000) (hby:bytes≤100)
  (h:∀ v' w',w'.ownsRow base e m v' (n+1) (xs ++ cs)→Below base w0 w'→w.grownBy w' v.ownBlock→(v'.ownBlock=v.ownBlock∨v'.ownBlock=some (w.heap.size+1))→wpList P ops Q rest (a.put o.dst v') w'):wpList P ops Q (o::rest) a W:=by
 obtain ⟨i,h1,h2,h3,h4⟩:=E.info
 subst hW
 have hle:(n+1)*bytes≤(n+1)*100:=Nat.mul_le_mul_left _ hby
 refine zil _ hgd s x t ho base e i z m bytes E.under h1 h2 h3 h4 E.cells E.pos v n xs hs (ziQ hown _) _ _ _ hx (by simp) cs (by rw [hm,Nat.one_mul]) (zkO w cs e) hu (by unfold maxLen;omega) (by omega) (by simp;omega) ?_
 intro v' w' hown' hg hq
 refine h v' w' hown' (zjH (hb.alloc hbase _) (ziQ hown _) (by simp;omega) hg) ⟨hg.os,hg.tape,hg.output,Nat.le_trans (by simp) hg.size,fun k hk hne=>(hg.block k (by simp;omega) hne).trans (Below.heap_alloc w _ k hk)⟩ (by simpa using hq)
section
variable {α:Type} {f:α→List Value} {l:List α} {v:Value} {w w':World} {m n:Nat}
theorem zmH {base:Nat} {e:TypeId} (hf:∀ x,(f x).length=m) (hm:0 < m) (h:w.ownsRow base e m v n (l.flatMap f)):IsR f l v w:=by
 have hl:l.length=n:=by
  have h1:=h.1
  rw [zcE hf] at h1
  exact Nat.eq_of_mul_eq_mul_right hm h1
 rcases h.2 with ⟨rfl,rfl⟩ | ⟨g,cap,cur,rfl,hb,hg,hnc,hcm,hcs,ht⟩
 ·obtain rfl:=List.eq_nil_of_length_eq_zero hl
  exact ⟨none,0,rfl,by simp,by simp,by unfold maxLen;omega,Lies.nil⟩
 ·exact ⟨_,cap,by rw [hl],by simp,by omega,hcm,.inr ⟨_,rfl,(Array.getElem?_eq_some_iff.1 hg).1,h.cells (g:=g) rfl⟩⟩
theorem zmI (f:α→List Value) (w:World):IsR f [] (.slice none 0 0) w:=⟨none,0,rfl,by simp,by simp,by unfold maxLen;omega,Lies.nil⟩
theorem zfx (w:World) (e:TypeId) (m:Nat):(w.alloc (.cells #[] e)).ownsRow w.heap.size e m (.slice (some ⟨w.heap.size,0,none⟩) 0 0) 0 []:=
 ⟨by simp,.inr ⟨w.heap.size,0,#[],rfl,Nat.le_refl _,heap_alloc_new w _,Nat.le_refl _,by unfold maxLen;omega,by simp,by simp⟩⟩
theorem zeI {base base' s1 s2 k:Nat} {e1 e2:TypeId} {v1 v2:Value} {xs ys:List Value} (h1:w.ownsRow base e1 s1 v1 n xs) (h2:w.ownsRow base' e2 s2 v2 k ys) (hne:e1≠e2) (hg:w.grownBy w' v2.ownBlock):w'.ownsRow base e1 s1 v1 n xs:=by
 refine ⟨h1.1,h1.2.imp id fun ⟨g,cap,cur,hv,hb,hc,r⟩=>⟨g,cap,cur,hv,hb,?_,r⟩⟩
 have hlt:=(Array.getElem?_eq_some_iff.1 hc).1
 refine (hg.block g hlt ?_).trans hc
 rcases h2.2 with ⟨rfl,_⟩ | ⟨g2,cap2,cur2,rfl,_,hc2,_⟩
 ·simp [Value.ownBlock]
 ·intro he
  simp [Value.ownBlock] at he
  subst he
  rw [hc] at hc2
  injection hc2 with hc2
  injection hc2 with _ h3
  exact hne h3
theorem zc2 (l:List α) (x:α):(l ++ [x]).flatMap f=l.flatMap f ++ f x:=by simp
end
theorem OwnV.other {α:Type} {f:α→Value} {e e2:TypeId} {w w1 w2:World} {l:List α} {v y:Value} {B k s:Nat} {ys:List Value} (h:OwnV f e w l v w1) (hy:w1.ownsRow B e2 s y k ys) (hne:e≠e2) (hg:w1.grownBy w2 y.ownBlock):OwnV f e w l v w2:=h.elim fun _ h=>⟨_,zeI h hy hne hg⟩
def zuR (n:Nat) (z:Value):List Value:=List.replicate n z
structure ArrT (P:Program) (t e:TypeId) (n:Nat) (z:Value):Prop where
 under:P.underlying t=some (.array n e)
 info:(P.info? t).map (fun i=>(i.zero,i.size))=some (some (.agg (zuR n z).toArray),n)
theorem ArrT.size_ {P:Program} {t e:TypeId} {n:Nat} {z:Value} (E:ArrT P t e n z):(P.info? t).map (·.size)=some n:=(zero_of_info E.info).2
section
variable {P:Program} {w:World} {ops:Array Oper} {rest:List Oper} {o:Oper} {a:Act} {Q:Exit→Act→World→Prop} {t e:TypeId} {n:Nat} {z:Value}
end
structure Later (R:World→World→Prop):Prop where
 refl:∀ w,R w w
 trans:∀ {a b c},R a b→R b c→R a c
 draw:∀ w,R w { w with drawn:=w.drawn+1 }
def upd (vs:Nat→Value) (i:Nat) (v:Value):Nat→Value:=fun j=>if j=i then v else vs j
theorem zJ (vs:Nat→Value) (i:Nat) (v:Value):upd vs i v i=v:=if_pos rfl
theorem upd_ne (vs:Nat→Value) {i j:Nat} (v:Value) (h:j≠i):upd vs i v j=vs j:=if_neg h
structure RCtxR (ops:Array Oper) (F:Nat→(Nat→Value)→World→Prop) (a0:Act) (i:Nat) (ρ:Operand→Value) (vs:Nat→Value) (w:World):Prop where
 const:∀ v,ρ (.const v)=v
 func:∀ f,ρ (.func f)=.func (.func f) #[] #[]
 glob:∀ g,ρ (.global g)=.pointer (some ⟨g,0,none⟩)
 new:∀ d j,zcH ops i d=some j→ρ (.tmp d)=vs j
 fact:∀ j,zbK ops j i=true→F j vs w
 old:∀ d v,zcH ops i d=none→a0.eval (.tmp d)=v→ρ (.tmp d)=v
theorem zmJ {ops:Array Oper} {i d j:Nat} (h:zcH ops i d=some j):zbK ops j i=true:=by
 have h1:=List.find?_some h
 simp at h1
 exact h1.2
section
variable {P:Program} {ops:Array Oper} {Q:Exit→Act→World→Prop} {R:World→World→Prop}
theorem zfy (HR:Later R) {a0:Act} {w0:World} (m:Nat) (hm:m≤ops.size) (F:Nat→(Nat→Value)→World→Prop)
  (hok:zbo ops a0.tmps.size=true)
  (hF:∀ i vs w w',F i vs w→R w w'→F i vs w')
  (hloc:∀ i vs vs' w,(∀ k,(k=i∨zbK ops k i=true)→vs k=vs' k)→F i vs w→F i vs' w)
  (hstep:∀ i o,i < m→ops[i]? = some o→∀ (vs:Nat→Value) (w:World),R w0 w→(∀ j,zbK ops j i=true→F j vs w) →
   if Region.wanted o (yielded ops (puts ops (fun _=>true) vs i a0).tmps)=true then
    o.wp P (puts ops (fun _=>true) vs i a0) w (fun a' w'=>∃ v,a'=(puts ops (fun _=>true) vs i a0).put o.dst v∧F i (upd vs i v) w'∧R w w') (fun _ _ _=>False)
   else F i (upd vs i undef) w)
  (hwait:∀ l:Array Bool,HeadInv .any ops m l→(∃ i,i < m∧l.getD i true=false)→∀ t,m≤t→t∉Region.ready .any ops l)
  (hfin:∀ (l:Array Bool) (vs:Nat→Value) (w:World),l.size=ops.size→(∀ j,j < m→l.getD j false=true)→(∀ j,m≤j→j < ops.size→l.getD j false=false)→R w0 w→(∀ i,i < m→F i vs w) →
   wpAny P .any ops Q (ops.size - m) l (puts ops (fun _=>true) vs m a0) w) :
  wpAny P .any ops Q ops.size (Array.replicate ops.size false) a0 { w0 with drawn:=w0.drawn+1 }:=by
 have main:∀ (fuel:Nat) (l:Array Bool) (vs:Nat→Value) (w:World),l.size=ops.size→left m l≤fuel→(∀ i j,i < ops.size→l.getD i false=true→zbK ops j i=true→l.getD j false=true) →
   (∀ t,m≤t→t < ops.size→l.getD t false=false) →
   (∀ i,i < ops.size→l.getD i false=true→F i vs w)→R w0 w→wpAny P .any ops Q (fuel+(ops.size - m)) l (puts ops (fun j=>l.getD j false) vs ops.size a0) w:=by
  intro fuel
  have hend:∀ (f:Nat) (l:Array Bool) (vs:Nat→Value) (w:World),l.size=ops.size→(∀ t,m≤t→t < ops.size→l.getD t false=false)→(∀ i,i < ops.size→l.getD i false=true→F i vs w)→R w0 w→(∀ j,j < m→l.getD j false=true) →
    wpAny P .any ops Q (f+(ops.size - m)) l (puts ops (fun j=>l.getD j false) vs ops.size a0) w:=by
   intro f l vs w hs htl hfs hb hall
   rw [zjv _ vs a0 m ops.size hm htl,zdt (fun j=>l.getD j false) (fun _=>true) vs vs a0 m hall (fun _ _ _=>rfl)]
   exact zkf _ _ _ _ _ (hfin l vs w hs hall htl hb fun i hi=>hfs i (by omega) (hall i hi))
  induction fuel with
  | zero =>
   intro l vs w hs hl hcl htl hfs hb
   refine hend 0 l vs w hs htl hfs hb fun j hj=>?_
   cases h1:l.getD j false with
   | true=>rfl
   | false=>have:=zdO hj (by omega) h1;omega
  | succ fuel ih =>
   intro l vs w hs hl hcl htl hfs hb
   by_cases hall:∀ j,j < m→l.getD j false=true
   ·exact hend _ l vs w hs htl hfs hb hall
   obtain ⟨j0,hj0⟩:=Classical.not_forall.1 hall
   have hj0m:j0 < m:=by
    rcases Nat.lt_or_ge j0 m with h | h
    ·exact h
    ·exact absurd (fun h'=>absurd h' (by omega)) hj0
   have hj0f:l.getD j0 false=false:=by
    cases h1:l.getD j0 false with
    | false=>rfl
    | true=>exact absurd (fun _=>h1) hj0
   have hinv:HeadInv .any ops m l:=by
    refine ⟨hs,fun j oj hj hlj e he hbd=>?_,fun t ht ht'=>getD_in (by omega) (htl t ht ht')⟩
    refine hcl j e.on (Array.getElem?_eq_some_iff.1 hj).1 hlj ?_
    unfold zbK
    rw [hj,Option.map_some,Option.getD_some,List.any_eq_true]
    exact ⟨e,by simpa using he,by rw [hbd];simp⟩
   have hwt:=hwait l hinv ⟨j0,hj0m,getD_in (by omega) hj0f⟩
   rw [show fuel+1+(ops.size - m)=(fuel+(ops.size - m))+1 by omega]
   refine ⟨fun hr=>?_,fun i hi=>?_⟩
   ·exfalso
    have hallb:∀ i,i < m→l.getD i false=true:=by
     intro i
     induction i using Nat.strongRecOn with
     | ind i ih =>
      intro hi
      by_cases hl:l.getD i false=true
      ·exact hl
      ·exfalso
       have ho:ops[i]? = some ops[i]:=Array.getElem?_eq_getElem (by omega)
       have hok':=zR hok ho
       have hmem:i∈Region.ready .any ops l:=mem_ready.2 ⟨by
        have:i < l.size:=by omega
        simp [this] at hl ⊢
        exact hl,ops[i],ho,fun e he hbd=>ih e.on (hok'.1 e he hbd) (by have:=hok'.1 e he hbd;omega)⟩
       rw [hr] at hmem
       cases hmem
    exact absurd (hallb j0 hj0m) (by rw [hj0f];decide)
   have him:i < m:=by
    rcases Nat.lt_or_ge i m with h | h
    ·exact h
    ·exact absurd hi (hwt i h)
   obtain ⟨h0,o,ho,hpre⟩:=mem_ready.1 hi
   have hlt:i < ops.size:=(Array.getElem?_eq_some_iff.1 ho).1
   have h1:l.getD i false=false:=by
    have:i < l.size:=by omega
    simp [this] at h0 ⊢
    exact h0
   obtain ⟨hback,hsel,hdst,hlook⟩:=zR hok ho
   have hpred:∀ j,zbK ops j i=true→l.getD j false=true∧j < i:=by
    intro j hj
    unfold zbK at hj
    rw [ho,Option.map_some,Option.getD_some,List.any_eq_true] at hj
    obtain ⟨e,he,hej⟩:=hj
    have he:e∈o.after:=by simpa using he
    simp at hej
    rw [←hej.2]
    exact ⟨hpre e he hej.1,hback e he hej.1⟩
   have hrd:rdst ops i=o.dst:=by unfold rdst;rw [ho];rfl
   have hsame:∀ d∈o.looksAt ops,(puts ops (fun j=>l.getD j false) vs ops.size a0).tmps[d]? = (puts ops (fun _=>true) vs i a0).tmps[d]?:=by
    intro d hd
    by_cases hex:∃ j,j < ops.size∧j≠i∧rdst ops j=some d
    ·obtain ⟨j,hj,hne,hjd⟩:=hex
     have hoj:ops[j]? = some ops[j]:=Array.getElem?_eq_getElem hj
     have hdj:ops[j].dst=some d:=by unfold rdst at hjd;rw [hoj] at hjd;exact hjd
     have huniq:∀ k,k < ops.size→k≠j→rdst ops k≠some d:=fun k hk hkj=>((zR hok hoj).2.2.1 d hdj).2 k hk hkj
     rcases hlook d hd j hj hne hjd with hp | hp
     ·obtain ⟨hlj,hji⟩:=hpred j hp
      rw [zex _ vs a0 d j hjd hlj ops.size hj huniq,zex _ vs a0 d j hjd rfl i hji fun k hk=>huniq k (by omega)]
     ·have hnl:l.getD j false=false:=by
       cases hlj:l.getD j false with
       | false=>rfl
       | true=>exact absurd (hcl j i hj hlj hp) (by rw [h1];decide)
      have hij:i < j:=by
       unfold zbK at hp
       rw [hoj,Option.map_some,Option.getD_some,List.any_eq_true] at hp
       obtain ⟨e,he,hej⟩:=hp
       have he:e∈ops[j].after:=by simpa using he
       simp at hej
       have:=(zR hok hoj).1 e he hej.1
       omega
      rw [zcD _ vs a0 d ops.size,zcD _ vs a0 d i]
      ·intro k hk _ hkd
       exact huniq k (by omega) (by omega) hkd
      ·intro k hk hlk hkd
       by_cases hkj:k=j
       ·subst hkj;rw [hnl] at hlk;cases hlk
       ·exact huniq k hk hkj hkd
    ·rw [zcD _ vs a0 d ops.size,zcD _ vs a0 d i]
     ·intro k hk _ hkd;exact hex ⟨k,by omega,by omega,hkd⟩
     ·intro k hk hlk hkd
      by_cases hki:k=i
      ·subst hki;rw [h1] at hlk;cases hlk
      ·exact hex ⟨k,hk,hki,hkd⟩
   have hst:=hstep i o him ho vs w hb fun j hj=>hfs j (by have:=(hpred j hj).2;omega) (hpred j hj).1
   have hwant:=zgr hsame
   have hexec:execOp (puts ops (fun j=>l.getD j false) vs ops.size a0).eval o=execOp (puts ops (fun _=>true) vs i a0).eval o:=by
    refine execOp_congr o hsel fun x hx=>?_
    cases x with
    | tmp d =>
     have hd:d∈o.looksAt ops:=List.mem_append_left _ (List.mem_filterMap.2 ⟨.tmp d,by simpa using hx,rfl⟩)
     have:=hsame d hd
     show (puts ops (fun j=>l.getD j false) vs ops.size a0).tmps.getD d undef=(puts ops (fun _=>true) vs i a0).tmps.getD d undef
     rw [Array.getD_eq_getD_getElem?,Array.getD_eq_getD_getElem?,this]
    | _=>rfl
   have hnext:∀ v w',F i (upd vs i v) w'→R w w'→wpAny P .any ops Q (fuel+(ops.size - m)) (l.setIfInBounds i true) ((puts ops (fun j=>l.getD j false) vs ops.size a0).put o.dst v) w':=by
    intro v w' hv hb'
    have hset:=znF (ops:=ops) (fun j=>l.getD j false) vs a0 i v h1 ops.size hlt fun j hj hne d hd=>(hdst d (by rw [←hrd];exact hd)).2 j hj hne
    rw [←hrd,←hset]
    have hmarks:∀ j,j < ops.size→(j == i || l.getD j false)=(l.setIfInBounds i true).getD j false:=by
     intro j hj
     by_cases hij:i=j
     ·subst hij;simp [hs,hlt]
     ·rw [getD_set_ne false hij]
      have:(j == i)=false:=by simp;omega
      simp [this]
    rw [zdt _ (fun j=>(l.setIfInBounds i true).getD j false) _ (fun j=>if j=i then v else vs j) a0 ops.size hmarks (fun _ _ _=>rfl)]
    refine ih (l.setIfInBounds i true) _ w' (by simp [hs]) (by have:=zdO him (by omega) h1;omega) ?_ ?_ ?_ (HR.trans hb hb')
    ·intro j k hj hlj hjk
     rw [←hmarks j hj] at hlj
     by_cases hji:j=i
     ·subst hji;exact getD_set_true (hpred k hjk).1
     ·have:(j == i)=false:=by simpa using hji
      rw [this,Bool.false_or] at hlj
      exact getD_set_true (hcl j k hj hlj hjk)
    ·intro t ht ht'
     rw [getD_set_ne false (by omega)]
     exact htl t ht ht'
    ·intro j hj hlj
     rw [←hmarks j hj] at hlj
     by_cases hji:j=i
     ·subst hji;exact hv
     ·have:(j == i)=false:=by simpa using hji
      rw [this,Bool.false_or] at hlj
      refine hF j _ w w' (hloc j vs _ w (fun k hk=>?_) (hfs j hj hlj)) hb'
      have hki:k≠i:=by
       rcases hk with rfl | hk
       ·exact hji
       ·rintro rfl
        rw [hcl j k hj hlj hk] at h1
        cases h1
      show vs k=if k=i then v else vs k
      rw [if_neg hki]
   unfold wpOp
   rw [ho]
   show if Region.wanted o _=true then _ else _
   rw [hwant]
   by_cases hw:Region.wanted o (yielded ops (puts ops (fun _=>true) vs i a0).tmps)=true
   ·rw [if_pos hw] at hst ⊢
    exact .inl (znG hexec (fun d hd=>by rw [zg7];exact (hdst d hd).1) hst fun v w' h=>hnext v w' h.1 h.2)
   ·rw [if_neg hw] at hst ⊢
    exact hnext undef w hst (HR.refl _)
 have hinit:=main m (Array.replicate ops.size false) (fun _=>undef) { w0 with drawn:=w0.drawn+1 } (by simp) (by unfold left;exact Nat.le_trans (List.length_filter_le _ _) (by simp))
  (fun i j hi h _=>by simp [hi] at h) (fun t _ _=>getD_replicate_false _ _) (fun i hi h=>by simp [hi] at h) (HR.draw _)
 have hz:puts ops (fun j=>(Array.replicate ops.size false).getD j false) (fun _=>undef) ops.size a0=a0:=by
  have:∀ n,n≤ops.size→puts ops (fun j=>(Array.replicate ops.size false).getD j false) (fun _=>undef) n a0=a0:=by
   intro n
   induction n with
   | zero=>intro _;rfl
   | succ n ih =>
    intro hn
    have hlt:n < ops.size:=by omega
    rw [puts,if_neg (by simp [hlt]),ih (by omega)]
  exact this _ (Nat.le_refl _)
 rw [hz,show m+(ops.size - m)=ops.size by omega] at hinit
 exact hinit
theorem ze9 (HR:Later R) {a0:Act} {w0:World} (F:Nat→(Nat→Value)→World→Prop)
  (hok:zbo ops a0.tmps.size=true)
  (hF:∀ i vs w w',F i vs w→R w w'→F i vs w')
  (hloc:∀ i vs vs' w,(∀ k,(k=i∨zbK ops k i=true)→vs k=vs' k)→F i vs w→F i vs' w)
  (hstep:∀ i o,ops[i]? = some o→∀ (vs:Nat→Value) (w:World),R w0 w→(∀ j,zbK ops j i=true→F j vs w) →
   if Region.wanted o (yielded ops (puts ops (fun _=>true) vs i a0).tmps)=true then
    o.wp P (puts ops (fun _=>true) vs i a0) w (fun a' w'=>∃ v,a'=(puts ops (fun _=>true) vs i a0).put o.dst v∧F i (upd vs i v) w'∧R w w') (fun _ _ _=>False)
   else F i (upd vs i undef) w)
  (hfin:∀ (vs:Nat→Value) (w:World),R w0 w→(∀ i,i < ops.size→F i vs w)→Q .normal (puts ops (fun _=>true) vs ops.size a0) w) :
  wpAny P .any ops Q ops.size (Array.replicate ops.size false) a0 { w0 with drawn:=w0.drawn+1 }:=by
 refine zfy HR ops.size (Nat.le_refl _) F hok hF hloc (fun i o _=>hstep i o) (fun l _ _ t ht hr=>?_) fun l vs w hs hall _ hb hf=>?_
 ·obtain ⟨_,o,ho,_⟩:=mem_ready.1 hr
  have:=(Array.getElem?_eq_some_iff.1 ho).1
  omega
 ·rw [Nat.sub_self]
  refine ⟨List.eq_nil_iff_forall_not_mem.2 fun i hi=>?_,hfin vs w hb hf⟩
  obtain ⟨h0,o,ho,_⟩:=mem_ready.1 hi
  have hlt:=(Array.getElem?_eq_some_iff.1 ho).1
  have h1:=hall i hlt
  have:i < l.size:=by omega
  simp [this] at h0 h1
  rw [h0] at h1
  cases h1
def zjI (R:World→World→Prop) (P:Program) (ops:Array Oper) (F:Nat→(Nat→Value)→World→Prop) (a0:Act) (w0:World) (i:Nat) (o:Oper):Prop:=
 ∀ (ρ:Operand→Value) (vs:Nat→Value) (w:World),R w0 w→RCtxR ops F a0 i ρ vs w →
  match o.guard with
  | none=>zX P o ρ w fun v w'=>F i (upd vs i v) w'∧R w w'
  | some (g,b)=>∀ d,rdst ops g=some d→(ρ (.tmp d)=.bool b→zX P o ρ w fun v w'=>F i (upd vs i v) w'∧R w w')∧(ρ (.tmp d)≠.bool b→F i (upd vs i undef) w)
def zcV (R:World→World→Prop) (P:Program) (ops:Array Oper) (F:Nat→(Nat→Value)→World→Prop) (a0:Act) (w0:World):Nat→List Oper→Prop
 | _,[]=>True
 | i,o::r=>zjI R P ops F a0 w0 i o∧zcV R P ops F a0 w0 (i+1) r
theorem zjJ {F:Nat→(Nat→Value)→World→Prop} {a0:Act} {w0:World}:∀ (l:List Oper) (k:Nat),zcV R P ops F a0 w0 k l→∀ i o,l[i]? = some o→zjI R P ops F a0 w0 (k+i) o:=by
 intro l
 induction l with
 | nil=>intro k _ i o h;simp at h
 | cons x l ih =>
  intro k hs i o h
  cases i with
  | zero=>simp at h;subst h;exact hs.1
  | succ i =>
   have:=ih (k+1) hs.2 i o (by simpa using h)
   rwa [Nat.add_assoc,Nat.add_comm 1] at this
theorem zkP {a0:Act} {w0:World} (F:Nat→(Nat→Value)→World→Prop)
  (hok:zbo ops a0.tmps.size=true) (hgd:zbU ops=true)
  (i:Nat) (o:Oper) (ho:ops[i]? = some o) (hst:zjI R P ops F a0 w0 i o) (vs:Nat→Value) (w:World) (hb:R w0 w) (hp:∀ j,zbK ops j i=true→F j vs w) :
   if Region.wanted o (yielded ops (puts ops (fun _=>true) vs i a0).tmps)=true then
    o.wp P (puts ops (fun _=>true) vs i a0) w (fun a' w'=>∃ v,a'=(puts ops (fun _=>true) vs i a0).put o.dst v∧F i (upd vs i v) w'∧R w w') (fun _ _ _=>False)
   else F i (upd vs i undef) w:=by
 have hlt:i < ops.size:=(Array.getElem?_eq_some_iff.1 ho).1
 obtain ⟨hback,hsel,hdst,hlook⟩:=zR hok ho
 have hpi:∀ j,zbK ops j i=true→j < i:=by
  intro j hj
  unfold zbK at hj
  rw [ho,Option.map_some,Option.getD_some,List.any_eq_true] at hj
  obtain ⟨e,he,hej⟩:=hj
  simp at hej
  rw [←hej.2]
  exact hback e (by simpa using he) hej.1
 have hw:∀ d j,zcH ops i d=some j→rdst ops j=some d∧zbK ops j i=true∧j < ops.size:=by
  intro d j h
  have h1:=List.find?_some h
  have h2:=List.mem_of_find?_eq_some h
  simp at h1
  exact ⟨h1.1,h1.2,List.mem_range.1 h2⟩
 have hctx:RCtxR ops F a0 i (sees ops vs a0 i) vs w:=by
  refine ⟨fun _=>rfl,fun _=>rfl,fun _=>rfl,fun d j h=>?_,hp,fun d v h hv=>?_⟩
  ·show (match zcH ops i d with | some j=>vs j | none=>a0.eval (.tmp d))=vs j
   rw [h]
  ·show (match zcH ops i d with | some j=>vs j | none=>a0.eval (.tmp d))=v
   rw [h]
   exact hv
 have hsee:∀ d∈o.looksAt ops,(puts ops (fun _=>true) vs i a0).tmps.getD d undef=sees ops vs a0 i (.tmp d):=by
  intro d hd
  show _=(match zcH ops i d with | some j=>vs j | none=>a0.eval (.tmp d))
  cases hwr:zcH ops i d with
  | some j =>
   obtain ⟨h1,h2,h3⟩:=hw d j hwr
   have hoj:ops[j]? = some ops[j]:=Array.getElem?_eq_getElem h3
   have hdj:ops[j].dst=some d:=by unfold rdst at h1;rw [hoj] at h1;exact h1
   have hu:=(zR hok hoj).2.2.1 d hdj
   have hpn:=zex (ops:=ops) (fun _=>true) vs a0 d j h1 rfl i (hpi j h2) fun k hk=>hu.2 k (by omega)
   rw [Array.getD_eq_getD_getElem?,hpn]
   simp [Act.put,hu.1]
  | none =>
   have hno:∀ j,j < i→rdst ops j≠some d:=by
    intro j hj hjd
    have h1:=hlook d hd j (by omega) (by omega) hjd
    rcases h1 with h1 | h1
    ·have h2:=List.find?_eq_none.1 hwr j (List.mem_range.2 (by omega))
     simp [hjd,h1] at h2
    ·have hoj:ops[j]? = some ops[j]:=Array.getElem?_eq_getElem (by omega)
     unfold zbK at h1
     rw [hoj,Option.map_some,Option.getD_some,List.any_eq_true] at h1
     obtain ⟨e,he,hej⟩:=h1
     simp at hej
     have:=(zR hok hoj).1 e (by simpa using he) hej.1
     omega
   show _=a0.tmps.getD d undef
   rw [Array.getD_eq_getD_getElem?,Array.getD_eq_getD_getElem?,zcD (ops:=ops) (fun _=>true) vs a0 d i fun j hj _=>hno j hj]
 have hexec:execOp (puts ops (fun _=>true) vs i a0).eval o=execOp (sees ops vs a0 i) o:=by
  refine execOp_congr o hsel fun x hx=>?_
  cases x with
  | tmp d=>exact hsee d (List.mem_append_left _ (List.mem_filterMap.2 ⟨.tmp d,by simpa using hx,rfl⟩))
  | _=>rfl
 have h1:=hst (sees ops vs a0 i) vs w hb hctx
 cases hg:o.guard with
 | none =>
  rw [hg] at h1
  have hwa:Region.wanted o (yielded ops (puts ops (fun _=>true) vs i a0).tmps)=true:=by unfold Region.wanted;rw [hg]
  rw [if_pos hwa]
  exact zdP hexec h1
 | some p =>
  obtain ⟨g,b⟩:=p
  rw [hg] at h1
  have hgo:(rdst ops g).isSome=true:=by
   unfold zbU at hgd
   rw [List.all_eq_true] at hgd
   have:=hgd i (List.mem_range.2 hlt)
   rw [ho,Option.map_some,Option.getD_some,hg] at this
   exact this
  obtain ⟨d,hd⟩:=Option.isSome_iff_exists.1 hgo
  obtain ⟨hyes,hno⟩:=h1 d hd
  have hdl:d∈o.looksAt ops:=List.mem_append_right _ (by rw [hg];show d∈((ops[g]?).bind (·.dst)).toList;have:(ops[g]?).bind (·.dst)=some d:=hd;rw [this];simp)
  have hv:=hsee d hdl
  by_cases hw:Region.wanted o (yielded ops (puts ops (fun _=>true) vs i a0).tmps)=true
  ·rw [if_pos hw]
   refine zdP hexec (hyes ?_)
   rw [←hv]
   unfold Region.wanted at hw
   rw [hg] at hw
   have hd':(ops[g]?).bind (·.dst)=some d:=hd
   simp only [yielded,hd',Option.bind_some] at hw
   rw [Array.getD_eq_getD_getElem?]
   cases hx:(puts ops (fun _=>true) vs i a0).tmps[d]? with
   | none=>rw [hx] at hw;simp at hw
   | some v =>
    rw [hx] at hw
    cases v <;> simp at hw
    subst hw
    rfl
  ·rw [if_neg hw]
   refine hno fun h=>hw ?_
   rw [←hv,Array.getD_eq_getD_getElem?] at h
   unfold Region.wanted
   rw [hg]
   have hd':(ops[g]?).bind (·.dst)=some d:=hd
   simp only [yielded,hd',Option.bind_some]
   cases hx:(puts ops (fun _=>true) vs i a0).tmps[d]? with
   | none=>rw [hx] at h;cases h
   | some v =>
    rw [hx] at h
    have h:v=.bool b:=h
    subst h
    simp
theorem zim {F:Nat→(Nat→Value)→World→Prop} {a0:Act} {w0:World} (h:zcV R P ops F a0 w0 0 ops.toList) (i:Nat) (o:Oper) (ho:ops[i]? = some o):zjI R P ops F a0 w0 i o:=by
 have:=zjJ ops.toList 0 h i o (by simpa using ho)
 simpa using this
theorem zfa (HR:Later R) {a0:Act} {w0:World} (F:Nat→(Nat→Value)→World→Prop)
  (hok:zbo ops a0.tmps.size=true) (hgd:zbU ops=true)
  (hF:∀ i vs w w',F i vs w→R w w'→F i vs w')
  (hloc:∀ i vs vs' w,(∀ k,(k=i∨zbK ops k i=true)→vs k=vs' k)→F i vs w→F i vs' w)
  (hsteps:zcV R P ops F a0 w0 0 ops.toList)
  (hfin:∀ (vs:Nat→Value) (w:World),R w0 w→(∀ i,i < ops.size→F i vs w)→Q .normal (puts ops (fun _=>true) vs ops.size a0) w) :
  wpAny P .any ops Q ops.size (Array.replicate ops.size false) a0 { w0 with drawn:=w0.drawn+1 }:=
 ze9 HR F hok hF hloc (fun i o ho=>zkP F hok hgd i o ho (zim hsteps i o ho)) hfin
end
structure FactR (R:World→World→Prop) where
 holds:(Nat→Value)→Value→World→Prop
 deps:List Nat
 stays:∀ vs v w w',holds vs v w→R w w'→holds vs v w'
 local_:∀ vs vs' v w,(∀ k∈deps,vs k=vs' k)→holds vs v w→holds vs' v w
def FactR.any {R:World→World→Prop}:FactR R:=⟨fun _ _ _=>True,[],fun _ _ _ _ _ _=>trivial,fun _ _ _ _ _ _=>trivial⟩
def FactR.is {R:World→World→Prop} (u:Value):FactR R:=⟨fun _ v _=>v=u,[],fun _ _ _ _ h _=>h,fun _ _ _ _ _ h=>h⟩
def FactR.of {R:World→World→Prop} (H:Value→World→Prop) (h:∀ v w w',H v w→R w w'→H v w'):FactR R:=⟨fun _ v w=>H v w,[],fun _ v w w' a b=>h v w w' a b,fun _ _ _ _ _ h=>h⟩
def zfz {R:World→World→Prop} (L:List (FactR R)) (i:Nat) (vs:Nat→Value) (w:World):Prop:=(L.getD i FactR.any).holds vs (vs i) w
def zn4 {R:World→World→Prop} (ops:Array Oper) (L:List (FactR R)):Bool:=(List.range L.length).all fun i=>(L.getD i FactR.any).deps.all fun k=>zbK ops k i
theorem zkQ {R:World→World→Prop} {ops:Array Oper} {L:List (FactR R)} (h:zn4 ops L=true) (i:Nat) (vs vs':Nat→Value) (w:World) (hk:∀ k,(k=i∨zbK ops k i=true)→vs k=vs' k) (hf:zfz L i vs w):zfz L i vs' w:=by
 unfold zfz at *
 rw [←hk i (.inl rfl)]
 refine (L.getD i FactR.any).local_ vs vs' _ w (fun k hd=>hk k (.inr ?_)) hf
 by_cases hi:i < L.length
 ·unfold zn4 at h
  exact List.all_eq_true.1 (List.all_eq_true.1 h i (List.mem_range.2 hi)) k hd
 ·rw [List.getD_eq_getElem?_getD,List.getElem?_eq_none (by omega)] at hd
  cases hd
theorem RCtxR.holds {R:World→World→Prop} {ops:Array Oper} {L:List (FactR R)} {a0:Act} {i:Nat} {ρ:Operand→Value} {vs:Nat→Value} {w:World} (H:RCtxR ops (zfz L) a0 i ρ vs w) (d j:Nat) (h:zcH ops i d=some j):(L.getD j FactR.any).holds vs (ρ (.tmp d)) w:=by
 rw [H.new d j h]
 exact H.fact j (zmJ h)
theorem zfA {R:World→World→Prop} (HR:Later R) {P:Program} {ops:Array Oper} {Q:Exit→Act→World→Prop} {a0:Act} {w0:World} (L:List (FactR R)) (ds:List (Option Tmp))
  (hok:zbo ops a0.tmps.size=true) (hgd:zbU ops=true) (hdp:zn4 ops L=true) (hds:ops.toList.map (·.dst)=ds) (hsteps:zcV R P ops (zfz L) a0 w0 0 ops.toList)
  (hfin:∀ (vs:Nat→Value) (w:World),R w0 w→(∀ i,i < ds.length→zfz L i vs w)→Q .normal (zr vs ds 0 a0) w) :
  wpAny P .any ops Q ops.size (Array.replicate ops.size false) a0 { w0 with drawn:=w0.drawn+1 }:=
 zfa HR (zfz L) hok hgd (fun i vs w w' h hb=>(L.getD i FactR.any).stays vs _ w w' h hb) (zkQ hdp) hsteps (fun vs w hb h=>by
  subst hds
  rw [znI]
  exact hfin vs w hb fun i hi=>h i (by simpa using hi))
theorem zcn {R:World→World→Prop} (HR:Later R) {P:Program} {ops:Array Oper} {Q:Exit→Act→World→Prop} {id:Nat} {a0:Act} {w0:World} (L:List (FactR R)) (ds:List (Option Tmp)) (hm:P.follows .mixedOrders=true)
  (hok:zbo ops a0.tmps.size=true) (hgd:zbU ops=true) (hdp:zn4 ops L=true) (hds:ops.toList.map (·.dst)=ds) (hsteps:zcV R P ops (zfz L) a0 w0 0 ops.toList)
  (hfin:∀ (vs:Nat→Value) (w:World),R w0 w→(∀ i,i < ds.length→zfz L i vs w)→Q .normal (zr vs ds 0 a0) w) :
  (Code.region id ops true).wp P Q a0 w0:=wp_region_any hm (zfA HR L ds hok hgd hdp hds hsteps hfin)
theorem zb6 {α:Type} {f:α→List Value} (n:Nat) (x:α):(List.replicate n x).flatMap f=(List.replicate n (f x)).flatten:=by
 rw [List.flatMap_def,List.map_replicate]
theorem zo6 (cs:List Value) (_hm:0 < cs.length) (n:Nat):(madeCells cs.toArray (n*cs.length)).toList=(List.replicate n cs).flatten:=by
 induction n with
 | zero=>simp [madeCells]
 | succ n ih =>
  have hs:(madeCells cs.toArray ((n+1)*cs.length)).toList=(madeCells cs.toArray (n*cs.length)).toList ++ cs:=by
   apply List.ext_getElem
   ·simp [madeCells,Nat.succ_mul]
   ·intro i h1 h2
    have hl:(madeCells cs.toArray (n*cs.length)).toList.length=n*cs.length:=by simp [madeCells]
    have hi:i < (n+1)*cs.length:=by simpa [madeCells] using h1
    by_cases h:i < n*cs.length
    ·rw [List.getElem_append_left (by rw [hl];exact h)]
     simp [madeCells]
    ·rw [List.getElem_append_right (by rw [hl];omega)]
     simp only [hl]
     have hi2:i - n*cs.length < cs.length:=by rw [Nat.succ_mul] at hi;omega
     have hmod:i % cs.length=i - n*cs.length:=by
      have e:i=(i - n*cs.length)+cs.length*n:=by rw [Nat.mul_comm cs.length n];omega
      conv=>lhs;rw [e,Nat.add_mul_mod_self_left,Nat.mod_eq_of_lt hi2]
     simp [madeCells,hmod,hi2]
  rw [hs,ih,List.replicate_succ']
  simp
theorem zcL {P:Program} {w:World} {ops:Array Oper} {rest:List Oper} {o:Oper} {a:Act} {Q:Exit→Act→World→Prop} {t e:TypeId} {bytes m:Nat} {z:Value} (E:ElemW P t e bytes m z) (zc:List Value) (hzc:z.cells.toList=zc)
  (hgd:o.guard=none) (l c:Operand) (hop:o.op=Op.makeSlice t l c) (kl kc:IntKind) (L C:Int) (n:Nat) (w0:World) (B:Nat)
  (hl:a.eval l=.int kl L) (hc:a.eval c=.int kc C) (hL:L=(n:Int)) (hC:C=(n:Int)) (hn:n≤1000000000) (hby:bytes≤100) (hb:Below B w0 w) (hB:B≤w.heap.size)
  (h:∀ w',Row w' w.heap.size e (List.replicate n zc).flatten→Below B w0 w'→wpList P ops Q rest (a.put o.dst (.slice (some ⟨w.heap.size,0,none⟩) n n)) w') :
  wpList P ops Q (o::rest) a w:=by
 subst hzc
 obtain ⟨i,h1,h2,h3,h4⟩:=E.info
 refine wpList_plain hgd fun K hK=>?_
 have hle:bytes*n≤100*n:=Nat.mul_le_mul_right _ hby
 have hbi:(i.bytes:Int)*(n:Int)≤281474976710656:=by
  rw [h4,←Int.natCast_mul];omega
 have hrun:=run_make (P:=P) w t e i z E.under h1 h2 kl kc n n (by omega) (by omega) hbi (by omega)
 subst hL
 subst hC
 unfold Oper.wp
 simp only [execOp,hop,hl,hc,hrun,Result.andThen_ok,Sem.run_bind,Sem.run_pure]
 simp only [Int.toNat_natCast,h3]
 refine hK _ _ (h _ ?_ (hb.alloc hB _))
 unfold Row
 rw [heap_alloc_new]
 congr 2
 rw [←Array.toList_inj]
 have hlen:z.cells.toList.length=m:=by rw [Array.length_toList];exact E.cells
 have hz:z.cells=z.cells.toList.toArray:=by simp
 have hm:=zo6 z.cells.toList (by rw [hlen];exact E.pos) n
 rw [hlen] at hm
 rw [List.toList_toArray,←hm]
theorem zfB {P:Program} (w:World) (dT sT ty elem:TypeId) (m:Nat) (g o dLen dCap:Nat) (a:Addr) (sLen sCap:Nat) (cur:Array Value) (t:TypeId) (cs:List Value)
  (hu:P.underlying dT=some (.slice elem)) (hs:(P.info? elem).map (·.size)=some m)
  (hg:w.heap[g]? = some (.cells cur t (0,0))) (hn:cs.length=Nat.min sLen dLen*m)
  (hsrc:∀ j v,cs[j]? = some v→w.cell? (a.add j)=some v) (hfit:o+cs.length≤cur.size) (h1:∀ v∈cs,v.oneCell'=true) :
  (Builtin.copy_ #[dT,sT] ty #[.slice (some ⟨g,o,none⟩) dLen dCap,.slice (some a) sLen sCap]).run P w =
   .ok (goInt (Nat.min sLen dLen)) (w.setRow g (cur.toList.take o ++ cs ++ cur.toList.drop (o+cs.length)).toArray):=by
 have hl:=run_loadCells_list (P:=P) w a cs hsrc
 have hst:=run_storeCells_at P g o t cs 0 cur w hg (by simpa using hfit) h1
 cases hq:P.info? elem with
 | none=>simp [hq] at hs
 | some i =>
  have hi:i.size=m:=by simpa [hq] using hs
  simp [Builtin.copy_,run_underlying hu,Builtin.lenOf,Builtin.firstCells,sizeOf,typeInfo,hq,hi,←hn,hl,hst]
theorem zgy {P:Program} {w:World} {ops:Array Oper} {rest:List Oper} {o:Oper} {a:Act} {Q:Exit→Act→World→Prop} {t e:TypeId} {bytes m:Nat} {z:Value} (E:ElemW P t e bytes m z)
  (hgd:o.guard=none) (d s:Operand) (ho:o.op=.call { callee:=.builtin .copy,args:=#[d,s],argTypes:=#[t,t] })
  (g off dLen dCap:Nat) (ad:Addr) (sLen sCap:Nat) (cur src new:List Value) (hnew:cur.take off ++ src ++ cur.drop (off+src.length)=new) (k B:Nat) (w0:World)
  (hd:a.eval d=.slice (some ⟨g,off,none⟩) dLen dCap) (hs:a.eval s=.slice (some ad) sLen sCap) (hr:Row w g e cur) (hk:Nat.min sLen dLen=k) (hm:src.length=k*m)
  (hl:∀ j v,src[j]? = some v→w.cell? (ad.add j)=some v) (h1:∀ u∈src,u.oneCell'=true)
  (hfit:off+src.length≤cur.length) (hb:Below B w0 w) (hB:B≤g)
  (h:∀ w',Row w' g e new→Below B w0 w'→wpList P ops Q rest (a.put o.dst (goInt k)) w') :
  wpList P ops Q (o::rest) a w:=by
 subst hnew
 obtain ⟨i,h2,h3,h4,h5⟩:=E.info
 refine wpList_plain hgd fun K hK=>?_
 have hrun:=zfB (P:=P) w t t o.type e m g off dLen dCap ad sLen sCap cur.toArray e src E.under (by rw [h2];simp [h4]) hr (by rw [hk];exact hm) hl (by simpa using hfit) h1
 rw [hk] at hrun
 unfold Oper.wp
 simp [execOp,ho,resolve,invoke,builtin,hd,hs,hrun,Result.andThen]
 exact hK _ _ (h _ (by unfold Row;rw [show cur.take off ++ src ++ cur.drop (off+src.length)=cur.take off ++ (src ++ cur.drop (off+src.length)) by simp];simpa using setRow_heap w g _ _ e _ hr) (below_setRow hb hB _))
theorem zbY {P:Program} {w:World} {ops:Array Oper} {rest:List Oper} {o:Oper} {a:Act} {Q:Exit→Act→World→Prop} (hgd:o.guard=none) (t:TypeId) (x y:Operand) (ho:o.op=.store t x y)
  (g off:Nat) (t':TypeId) (cur cs new:List Value) (hnew:cur.take off ++ cs ++ cur.drop (off+cs.length)=new) (hx:a.eval x=.pointer (some ⟨g,off,none⟩)) (hy:a.eval y=.agg cs.toArray) (hr:Row w g t' cur) (hi:(P.info? t).map (·.size)=some cs.length)
  (hfit:off+cs.length≤cur.length) (h1:∀ u∈cs,u.oneCell'=true) (w0:World) (B:Nat) (hb:Below B w0 w) (hB:B≤g)
  (h:∀ w',Row w' g t' new→Below B w0 w'→(∀ k ty l,k≠g→Row w k ty l→Row w' k ty l)→wpList P ops Q rest (a.put o.dst undef) w'):wpList P ops Q (o::rest) a w:=by
 subst hnew
 have hst:=run_storeCells_at P g off t' cs 0 cur.toArray w hr (by simpa using hfit) h1
 have hrun:(storeVar t ⟨g,off,none⟩ (.agg cs.toArray)).run P w=.ok () (w.setRow g (cur.take off ++ cs ++ cur.drop (off+cs.length)).toArray):=by
  cases hq:P.info? t with
  | none=>simp [hq] at hi
  | some i =>
   have hs:cs.length=i.size:=by simp [hq] at hi;omega
   have hst2:(storeCells ⟨g,off,none⟩ cs).run P w=.ok () (w.setRow g (cur.take off ++ cs ++ cur.drop (off+cs.length)).toArray):=by simpa using hst
   simp [storeVar,sizeOf,typeInfo,hq,Value.cells,hs]
   rw [←hs]
   simpa using hst2
 refine wpList_plain hgd fun K hK=>?_
 unfold Oper.wp execOp
 simp only [ho,hx,hy,Instr.storeAt,Instr.sureAddr,Sem.run_bind,Sem.run_pure,Result.andThen_ok,hrun]
 refine hK _ _ (h _ (setRow_heap w g cur.toArray _ t' (0,0) hr) (below_setRow hb hB _) ?_)
 intro k ty l hk hrk
 exact (setRow_other w g k _ hk).trans hrk
section
variable {P:Program} {o:Oper} {ρ:Operand→Value} {w:World} {R:Value→World→Prop}
theorem zdZ {t e:TypeId} {bytes m:Nat} {z:Value} (E:ElemW P t e bytes m z) {d s:Operand} (ho:o.op=.call { callee:=.builtin .copy,args:=#[d,s],argTypes:=#[t,t] })
  {g off dLen dCap:Nat} {ad:Addr} {sLen sCap:Nat} {cur src:List Value} {k:Nat}
  (hd:ρ d=.slice (some ⟨g,off,none⟩) dLen dCap) (hs:ρ s=.slice (some ad) sLen sCap) (hr:Row w g e cur) (hk:Nat.min sLen dLen=k) (hm:src.length=k*m)
  (hl:∀ j v,src[j]? = some v→w.cell? (ad.add j)=some v) (h1:∀ u∈src,u.oneCell'=true) (hfit:off+src.length≤cur.length)
  (hR:R (goInt k) (w.setRow g (cur.take off ++ src ++ cur.drop (off+src.length)).toArray)):zX P o ρ w R:=by
 obtain ⟨i,h2,h3,h4,h5⟩:=E.info
 have hrun:=zfB (P:=P) w t t o.type e m g off dLen dCap ad sLen sCap cur.toArray e src E.under (by rw [h2];simp [h4]) hr (by rw [hk];exact hm) hl (by simpa using hfit) h1
 rw [hk] at hrun
 refine zo (v:=goInt k) ?_ hR
 simp [execOp,ho,resolve,invoke,builtin,hd,hs,hrun,Result.andThen]
theorem zfb {t:TypeId} {z:Value} {i:TypeInfo} (hi:P.info? t=some i) (hz:i.zero=some z) (ho:o.op=.alloc t) (hR:R (.pointer (some ⟨w.heap.size,0,none⟩)) (w.alloc (.cells z.cells t))):zX P o ρ w R:=by
 refine zo (v:=.pointer (some ⟨w.heap.size,0,none⟩)) (w':=w.alloc (.cells z.cells t)) ?_ hR
 have hz2:(zeroValue t).run P w=.ok z w:=by simp [zeroValue,typeInfo,hi,hz]
 unfold execOp
 simp only [ho,Instr.alloc,newVar,newRow,Sem.run_bind,Sem.run_pure,hz2,Result.andThen_ok,run_newObj]
 rfl
theorem zc3 {t t':TypeId} {x y:Operand} {g:Nat} {old cs:List Value} (ho:o.op=.store t x y) (hx:ρ x=.pointer (some ⟨g,0,none⟩)) (hy:ρ y=.agg cs.toArray) (hr:Row w g t' old)
  (hi:(P.info? t).map (·.size)=some cs.length) (hl:old.length=cs.length) (h1:∀ u∈cs,u.oneCell'=true) (hR:R undef (w.setRow g cs.toArray)):zX P o ρ w R:=by
 have hrun:=run_storeVar_row (P:=P) w g t' t old.toArray cs.toArray hr (by simpa using hi) (by simp [hl]) (by simpa using h1)
 have h:(execOp ρ o).run P w=.ok .skip (w.setRow g cs.toArray):=by
  unfold execOp
  simp only [ho,hx,hy,Instr.storeAt,Instr.sureAddr,Sem.run_bind,Sem.run_pure,Result.andThen_ok,hrun]
 unfold zX
 rw [h]
 exact hR
end
theorem zP {w:World} {g:Nat} {t:TypeId} {old cs:List Value} (h:Row w g t old):Row (w.setRow g cs.toArray) g t cs:=setRow_heap w g old.toArray cs.toArray t (0,0) h
theorem zf5 {w:World} {g k:Nat} {t:TypeId} {l:List Value} {cs:Array Value} (hk:k≠g) (h:Row w k t l):Row (w.setRow g cs) k t l:=(setRow_other w g k cs hk).trans h
theorem zgT {w w':World} {base s n g:Nat} {e:TypeId} {v:Value} {xs:List Value} (h:w.ownsRow base e s v n xs) (hg:w.grownBy w' (some g)) (hlt:g < base):w'.ownsRow base e s v n xs:=by
 refine h.kept hg ?_
 rcases h.2 with ⟨rfl,_⟩ | ⟨g2,cap2,cur2,rfl,hge,_⟩
 ·exact .inl rfl
 ·refine .inr ?_
  simp only [Value.ownBlock,ne_eq,Option.some.injEq]
  omega
theorem zco (w:World) (g i:Nat) (v:Value):w.grownBy (w.setCell ⟨g,i,none⟩ v) (some g):=
 ⟨rfl,rfl,rfl,by rw [World.size_setCell];exact Nat.le_refl _,fun k _ hne=>Below.heap_setCell w _ v k (fun h=>hne (by rw [h]))⟩
theorem zf6 {α:Type} {f:α→List Value} {l:List α} {w:World} {g:Nat} {t:TypeId} {m:Nat} (h:Row w g t (l.flatMap f)) (hl:l.length=m) (hm:m≤1000000):IsR f l (.slice (some ⟨g,0,none⟩) m m) w:=by
 refine ⟨some ⟨g,0,none⟩,m,by rw [hl],fun h=>by (cases h),by omega,by unfold maxLen;omega,?_⟩
 have:=h.lies 0
 rwa [List.drop_zero] at this
theorem zkR {α:Type} {f:α→List Value} {m:Nat} (hf:∀ x,(f x).length=m):∀ (l:List α) (k:Nat),(l.drop k).flatMap f=(l.flatMap f).drop (k*m)
 | [],k=>by simp
 | x::l,0=>by simp
 | x::l,k+1=>by
  rw [List.drop_succ_cons,List.flatMap_cons,zkR hf l k,Nat.succ_mul,List.drop_append,hf,show k*m+m - m=k*m by omega,List.drop_of_length_le (l:=f x) (by rw [hf];omega),List.nil_append]
theorem ElemW.size_ {P:Program} {t e:TypeId} {bytes m:Nat} {z:Value} (E:ElemW P t e bytes m z) (w:World):(sizeOf e).run P w=.ok m w:=by
 obtain ⟨i,h1,_,h3,_⟩:=E.info
 simp [sizeOf,typeInfo,h1,h3]
theorem zmK {P:Program} {α:Type} {f:α→List Value} {w:World} {t e:TypeId} {bytes m:Nat} {z:Value} (E:ElemW P t e bytes m z) (hf:∀ x,(f x).length=m) {A:Option Addr} {n c k:Nat} {l:List α} (hk:k≤n) (hI:IsR f l (.slice A n c) w) :
  ∃ v,(∀ W,(Instr.sliceAt t (.slice A n c) (some (.int .i64 (k:Int))) none none).run P W=.ok v W)∧IsR f (l.drop k) v w:=by
 obtain ⟨hxs,hA,hnc,hcm,hl⟩:=hI.parts
 have ht:=E.under
 have he:P.elem t=e:=by simp [Program.elem,ht]
 refine ⟨.slice (if c=k then A else A.map (·.add (k*m))) (n - k) (c - k),fun W=>?_,if c=k then A else A.map (·.add (k*m)),c - k,?_,?_,?_,by omega,?_⟩
 ·rw [run_sliceAt_slice W t _ _ _ _ (by rw [he];exact ht),run_slice_l W t A n c (by rw [he];exact ht) .i64 (k:Int) (by omega) (by omega),he,E.size_]
  simp [sliced]
 ·rw [List.length_drop,hxs]
 ·intro hB
  have:A=none:=by
   split at hB
   ·exact hB
   ·cases A with
    | none=>rfl
    | some ad=>simp at hB
  have:=hA this
  rw [List.length_drop,hxs]
  omega
 ·rw [List.length_drop,hxs];omega
 ·rw [zkR hf]
  have hp:=E.pos
  have h1:=hl.drop (k:=k*m) (cap:=c*m) (by rw [zcE hf,hxs];exact Nat.mul_le_mul_right _ hnc)
  by_cases hc:c=k
  ·subst hc;simpa using h1
  ·rw [if_neg (fun h=>hc (Nat.eq_of_mul_eq_mul_right hp h))] at h1
   rw [if_neg hc];exact h1
def Keep (B:Nat) (T:TypeId) (cs:List Value) (w w':World):Prop:=Below B w w'∧(∀ h,Row w h T cs→Row w' h T cs)∧(∀ h old,Row w h T old→old.length=cs.length→∃ old',old'.length=cs.length∧Row w' h T old')
theorem ziR (B:Nat) (T:TypeId) (cs:List Value):Later (Keep B T cs) where
 refl:=fun _=>⟨Below.refl _ _,fun _ h=>h,fun _ old h hl=>⟨old,hl,h⟩⟩
 trans:=fun h1 h2=>⟨h1.1.trans h2.1,fun k h=>h2.2.1 k (h1.2.1 k h),fun k old h hl=>(h1.2.2 k old h hl).elim fun o h=>h2.2.2 k o h.2 h.1⟩
 draw:=fun _=>⟨⟨rfl,rfl,rfl,Nat.le_refl _,fun _ _=>rfl⟩,fun _ h=>h,fun _ old h hl=>⟨old,hl,h⟩⟩
theorem Keep.of {B:Nat} {T:TypeId} {cs:List Value} {w w':World} (hB:B≤w.heap.size) (h:Below w.heap.size w w'):Keep B T cs w w':=
 ⟨h.mono hB,fun _ hr=>hr.below h hr.lt,fun _ old hr hl=>⟨old,hl,hr.below h hr.lt⟩⟩
theorem Keep.self {B:Nat} {T:TypeId} {cs:List Value} (w:World):Keep B T cs w w:=(ziR B T cs).refl w
theorem Keep.alloc {B:Nat} {T:TypeId} {cs:List Value} {w:World} (hB:B≤w.heap.size) (o:Obj):Keep B T cs w (w.alloc o):=Keep.of hB ((Below.refl _ _).alloc (Nat.le_refl _) _)
theorem Keep.store {B:Nat} {T:TypeId} {cs old:List Value} {w:World} {g:Nat} (hB:B≤g) (hr:Row w g T old):Keep B T cs w (w.setRow g cs.toArray):=
 ⟨below_setRow (Below.refl _ _) hB _,fun k h=>if hk:k=g then by subst hk;exact zP hr else zf5 hk h,
  fun k o h hl=>if hk:k=g then by subst hk;exact ⟨cs,rfl,zP hr⟩ else ⟨o,hl,zf5 hk h⟩⟩
def FactR.laid (B:Nat) (T:TypeId) (cs:List Value):FactR (Keep B T cs):=FactR.of (fun v w=>∃ h old,v=.pointer (some ⟨h,0,none⟩)∧B≤h∧old.length=cs.length∧Row w h T old)
 fun _ _ _ ⟨h,old,h1,h2,h3,h4⟩ hk=>(hk.2.2 h old h4 h3).elim fun o ho=>⟨h,o,h1,h2,ho.1,ho.2⟩
def FactR.stored (B:Nat) (T:TypeId) (cs:List Value) (p:Nat):FactR (Keep B T cs):=⟨fun vs _ w=>∃ h,vs p=.pointer (some ⟨h,0,none⟩)∧B≤h∧Row w h T cs,[p],
 fun _ _ _ _ ⟨h,h1,h2,h3⟩ hk=>⟨h,h1,h2,hk.2.1 h h3⟩,fun _ _ _ _ hp ⟨h,h1,h2,h3⟩=>⟨h,by rw [←hp p (by simp)];exact h1,h2,h3⟩⟩
def Turn (B g:Nat) (T:TypeId) (cur new:List Value) (w w':World):Prop:=Below B w w'∧(Row w g T cur→Row w' g T cur∨Row w' g T new)∧(Row w g T new→Row w' g T new)
theorem zF (B g:Nat) (T:TypeId) (cur new:List Value):Later (Turn B g T cur new) where
 refl:=fun _=>⟨Below.refl _ _,.inl,id⟩
 trans:=fun h1 h2=>⟨h1.1.trans h2.1,fun h=>(h1.2.1 h).elim (fun h=>h2.2.1 h) (fun h=>.inr (h2.2.2 h)),fun h=>h2.2.2 (h1.2.2 h)⟩
 draw:=fun _=>⟨⟨rfl,rfl,rfl,Nat.le_refl _,fun _ _=>rfl⟩,.inl,id⟩
end Go.Proofs.YtlibofmpnlfelaaGreatDoor
namespace Go.Proofs.YtlibofmpnlfelaaGreatDoor
def zC (a b:Int):Nat × Bool × Bool:=
 if b < a then (if 9223372036854775808≤a - b then (0,false,false) else ((a - b).toNat,true,true))
 else if 9223372036854775808≤b - a then (0,false,false) else ((b - a).toNat,false,true)
def zbi (a:Int) (u:Nat) (f:Bool):Int × Bool:=
 if 9223372036854775808≤(u:Int) then (0,false)
 else if f=true then (if a < -9223372036854775808+(u:Int) then (0,false) else (a - u,true))
 else if 9223372036854775807 - (u:Int) < a then (0,false) else (a+u,true)
theorem zbO (a b:Int):(zC a b=(0,false,false)∧(9223372036854775808≤a - b∨9223372036854775808≤b - a)) ∨
  (b < a∧a - b < 9223372036854775808∧zC a b=((a - b).toNat,true,true))∨(a≤b∧b - a < 9223372036854775808∧zC a b=((b - a).toNat,false,true)):=by
 unfold zC
 by_cases h:b < a
 ·rw [if_pos h]
  by_cases h2:9223372036854775808≤a - b
  ·rw [if_pos h2];exact .inl ⟨rfl,.inl h2⟩
  ·rw [if_neg h2];exact .inr (.inl ⟨h,by omega,rfl⟩)
 ·rw [if_neg h]
  by_cases h2:9223372036854775808≤b - a
  ·rw [if_pos h2];exact .inl ⟨rfl,.inr h2⟩
  ·rw [if_neg h2];exact .inr (.inr ⟨by omega,by omega,rfl⟩)
theorem zdj (a b:Int):((zC a b).1:Int) < 9223372036854775808:=by
 rcases zbO a b with ⟨h,_⟩ | ⟨h1,h2,h⟩ | ⟨h1,h2,h⟩ <;> rw [h] <;> dsimp only <;> omega
theorem zo7 (a b:Int):(zC a b).1 < 2 ^ 64:=by
 have:=zdj a b
 show (zC a b).1 < 18446744073709551616
 omega
theorem zgU {a:Int} {u:Nat} {f:Bool} (ha:inInt a):inInt (zbi a u f).1:=by
 unfold inInt at ha ⊢
 unfold zbi
 split
 ·exact ⟨by omega,by omega⟩
 ·split
  ·split
   ·exact ⟨by omega,by omega⟩
   ·exact ⟨by dsimp only;omega,by dsimp only;omega⟩
  ·split
   ·exact ⟨by omega,by omega⟩
   ·exact ⟨by dsimp only;omega,by dsimp only;omega⟩
theorem zhC {a b:Int} (hb:inInt b) (h:(zC a b).2.2=true):zbi a (zC a b).1 (zC a b).2.1=(b,true):=by
 unfold inInt at hb
 rcases zbO a b with ⟨h3,_⟩ | ⟨h1,h2,h3⟩ | ⟨h1,h2,h3⟩
 ·rw [h3] at h;cases h
 ·rw [h3]
  dsimp only
  unfold zbi
  have e:(((a - b).toNat:Nat):Int)=a - b:=by omega
  rw [e,if_neg (by omega),if_pos rfl,if_neg (by omega)]
  congr 1
  omega
 ·rw [h3]
  dsimp only
  unfold zbi
  have e:(((b - a).toNat:Nat):Int)=b - a:=by omega
  rw [e,if_neg (by omega),if_neg (by decide),if_neg (by omega)]
  congr 1
  omega
theorem zo8 (a:Int):zC a a=(0,false,true):=by unfold zC;rw [if_neg (by omega),if_neg (by omega)];simp
def gone (f:Bool) (a b:Int):Option Nat:=if (zC a b).2.2=true∧((zC a b).1=0∨(zC a b).2.1=f) then some (zC a b).1 else none
theorem ztv {f:Bool} {a b:Int} (h:(zC a b).2.2=true) (h2:(zC a b).1=0∨(zC a b).2.1=f):gone f a b=some (zC a b).1:=if_pos ⟨h,h2⟩
theorem zn5 {f:Bool} {a b:Int} (h:¬((zC a b).2.2=true∧((zC a b).1=0∨(zC a b).2.1=f))):gone f a b=none:=if_neg h
theorem zra {f:Bool} {a b:Int} {u:Nat} (h:gone f a b=some u):(u:Int) < 9223372036854775808:=by
 unfold gone at h
 split at h
 ·injection h with h;rw [←h];exact zdj a b
 ·cases h
theorem zrb {f:Bool} {a b:Int} {u:Nat} (ha:inInt a) (hb:inInt b) (h:gone f a b=some u):zbi a u f=(b,true):=by
 unfold gone at h
 split at h
 ·rename_i hh
  injection h with h
  subst h
  have hs:=zhC hb hh.1
  rcases hh.2 with h0 | h0
  ·rcases zbO a b with ⟨k,_⟩ | ⟨k1,k2,k⟩ | ⟨k1,k2,k⟩
   ·rw [k] at hh;cases hh.1
   ·rw [k] at h0;dsimp only at h0;omega
   ·rw [k] at h0
    dsimp only at h0
    have e:a=b:=by omega
    subst e
    rw [zo8]
    unfold inInt at ha
    unfold zbi
    rw [if_neg (by decide)]
    dsimp only
    cases f
    ·rw [if_neg (by decide),if_neg (by omega)];simp
    ·rw [if_pos rfl,if_neg (by omega)];simp
  ·rw [h0] at hs;exact hs
 ·cases h
def gat (l:List Int) (f:Bool) (i:Nat):Option Nat:=gone f (l.getD i 0) (l.getD (i+1) 0)
def zbP (l:List Int) (f:Bool) (k:Nat):Option (List Nat):=omap (gat l f) (List.range k)
theorem zfc {l:List Int} {f:Bool} {k n:Nat} (hk:k < n) (h:gat l f k=none):zbP l f n=none:=zb5 (List.mem_range.2 hk) h
theorem zo9 {l:List Int} {f:Bool} {k:Nat} {us:List Nat} (h:zbP l f k=some us):us.length=k:=by rw [zcb h,List.length_range]
theorem zrc {l:List Int} {f:Bool} {k:Nat} {us:List Nat} (h:zbP l f k=some us):∀ u∈us,(u:Int) < 9223372036854775808:=by
 intro u hu
 obtain ⟨i,_,hi⟩:=zfs h hu
 exact zra hi
theorem zfC {l:List Int} {f:Bool} {k:Nat} {us:List Nat} (h:zbP l f k=some us):∀ u∈us,u < 2 ^ 64:=by
 intro u hu
 have:=zrc h u hu
 show u < 18446744073709551616
 omega
def zbG (l:List Int):Bool:=decide (l.getD 1 0 < l.getD 0 0)
def gall (us:List Nat):Bool:=us.all fun u=>u == us.headD 0
def zee (us:List Nat):Nat:=(zh (max 2 (zbW us):Nat)).toNat
def zin (us:List Nat):Nat:=(zbc (zee us:Int)).toNat
theorem zpa:∀ n:Fin 65,2≤n.val→2≤zh (n.val:Int)∧zh (n.val:Int)≤64∧1≤zbc (zh (n.val:Int))∧zbc (zh (n.val:Int))≤31∧wof (zbc (zh (n.val:Int)))=zh (n.val:Int)∧(n.val:Int)≤zh (n.val:Int):=by decide +kernel
theorem zc4 {us:List Nat} (h:∀ u∈us,u < 2 ^ 64):zh ((max 2 (zbW us):Nat):Int)=(zee us:Int)∧zbc (zee us:Int)=(zin us:Int)∧wof (zin us:Int)=(zee us:Int)∧2≤zee us∧zee us≤64∧1≤zin us∧zin us≤31∧zbW us≤zee us:=by
 have hm:=zeA h
 have h1:=zpa ⟨max 2 (zbW us),by omega⟩ (Nat.le_max_left _ _)
 dsimp only at h1
 have e1:zh ((max 2 (zbW us):Nat):Int)=(zee us:Int):=by unfold zee;omega
 rw [e1] at h1
 have e2:zbc (zee us:Int)=(zin us:Int):=by unfold zin;omega
 rw [e2] at h1
 exact ⟨e1,e2,h1.2.2.2.2.1,by omega,by omega,by omega,by omega,by omega⟩
theorem ziS {us:List Nat} (h:∀ u∈us,u < 2 ^ 64):∀ u∈us,u < 2 ^ zee us:=by
 obtain ⟨_,_,_,_,h1,_,_,h2⟩:=zc4 h
 intro u hu
 have h3:=(zfm (zmh h) h1).1 (by rw [zfn h];exact h2)
 exact Nat.lt_of_le_of_lt (zjF hu) h3
def zfD (l:List Int) (us:List Nat):Int:=if zbG l=true then -(us.headD 0:Int) else (us.headD 0:Int)
def zfd (us:List Nat):List UInt8:=if gall us=true then [] else zbx us.tail (zee us.tail)
def gnum (us:List Nat):Nat:=if gall us=true then 0 else zin us.tail
def glay (l:List Int) (s:Bool) (us:List Nat):List UInt8:=zE 3 (gnum us) l.length ++ vput (vint (l.headD 0) s) ++ vput (vint (zfD l us) true) ++ zfd us
def zeo (l:List Int) (s:Bool):List UInt8 × Int:=
 if zy l s=none∨l.length < 2∨512 < l.length then ([],1)
 else match zbP l (zbG l) (l.length - 1) with | none=>([],1) | some us=>(glay l s us,0)
theorem zn6 {l:List Int} {s:Bool} (h:zy l s=none∨l.length < 2∨512 < l.length):zeo l s=([],1):=if_pos h
theorem zeJ {l:List Int} {s:Bool} (h:zbP l (zbG l) (l.length - 1)=none):zeo l s=([],1):=by unfold zeo;split <;> simp [h]
theorem ziT {l:List Int} {s:Bool} {us:List Nat} (h1:zy l s≠none) (h2:2≤l.length) (h3:l.length≤512) (h:zbP l (zbG l) (l.length - 1)=some us):zeo l s=(glay l s us,0):=by
 unfold zeo
 rw [if_neg (by rintro (h | h | h) <;> first | exact h1 h | omega),h]
def zbl (s f:Bool) (x:Int) (u:Nat):Option Int:=if (zbi x u f).2=true∧(s=true∨0≤(zbi x u f).1) then some (zbi x u f).1 else none
def zbp (s f:Bool):Int→List Nat→Option (List Int)
 | _,[]=>some []
 | x,u::us=>match zbl s f x u with | none=>none | some y=>(zbp s f y us).map (y :: ·)
def zd0:Int→List Int→Int
 | x,[]=>x
 | _,y::ys=>zd0 y ys
theorem zf7 (x:Int) (ys:List Int) (y:Int):zd0 x (ys ++ [y])=y:=by
 induction ys generalizing x with
 | nil=>rfl
 | cons z zs ih=>exact ih z
theorem zcW (s f:Bool) (x:Int) (us:List Nat) (u:Nat):zbp s f x (us ++ [u])=match zbp s f x us with | none=>none | some ys=>match zbl s f (zd0 x ys) u with | none=>none | some y=>some (ys ++ [y]):=by
 induction us generalizing x with
 | nil =>
  simp only [List.nil_append,zbp,zd0]
  cases zbl s f x u <;> rfl
 | cons v us ih =>
  simp only [List.cons_append,zbp]
  cases zbl s f x v with
  | none=>rfl
  | some y =>
   dsimp only
   rw [ih]
   cases zbp s f y us with
   | none=>rfl
   | some ys =>
    simp only [Option.map_some,zd0]
    cases zbl s f (zd0 y ys) u <;> rfl
theorem zhD {s f:Bool}:∀ {us:List Nat} {x:Int} {ys:List Int},zbp s f x us=some ys→ys.length=us.length
 | [],x,ys,h=>by simp [zbp] at h;subst h;rfl
 | u::us,x,ys,h=>by
  rw [zbp] at h
  cases hn:zbl s f x u with
  | none=>rw [hn] at h;cases h
  | some y =>
   rw [hn] at h
   dsimp only at h
   cases hw:zbp s f y us with
   | none=>rw [hw] at h;cases h
   | some zs =>
    rw [hw] at h
    simp at h
    subst h
    simp [zhD hw]
theorem zc5 {s f:Bool} {x:Int} {us:List Nat} {k:Nat} (h:zbp s f x (us.take k)=none):zbp s f x us=none:=by
 induction us generalizing x k with
 | nil=>simp [zbp] at h
 | cons u us ih =>
  cases k with
  | zero=>simp [zbp] at h
  | succ k =>
   rw [List.take_succ_cons,zbp] at h
   rw [zbp]
   cases hn:zbl s f x u with
   | none=>rfl
   | some y =>
    rw [hn] at h
    dsimp only at h ⊢
    cases hw:zbp s f y (us.take k) with
    | none=>rw [ih hw];rfl
    | some zs=>rw [hw] at h;cases h
def gbad:List Int × List UInt8 × Int:=([],[],2)
def gend (s f:Bool) (x:Int) (us:List Nat) (q:List UInt8):List Int × List UInt8 × Int:=match zbp s f x us with | none=>gbad | some ys=>(x::ys,q,0)
def zeX (s f:Bool) (x:Int) (u:Nat) (c m:Int) (r:List UInt8):List Int × List UInt8 × Int:=
 if 0 < c then match zg r (m - 2) (wof c) with | (us,q,e)=>if e≠0 then gbad else gend s f x (u::us) q
 else gend s f x (List.replicate (m - 1).toNat u) r
def zio (s:Bool) (c m:Int) (r:List UInt8):List Int × List UInt8 × Int:=
 match zbC r s with
 | none=>gbad
 | some (x,r1)=>match zbC r1 true with
  | none=>gbad
  | some (d,r2)=>if (zC 0 d).2.2=true then zeX s (zC 0 d).2.1 x (zC 0 d).1 c m r2 else gbad
def zU (l:List UInt8) (s:Bool):List Int × List UInt8 × Int:=
 if (zp l).2.2.2.2≠0∨(zp l).1≠3∨(zp l).2.2.1 < 2 then gbad else zio s (zp l).2.1 (zp l).2.2.1 (zp l).2.2.2.1
theorem zkS {x:Int} {s:Bool} (hx:inInt x) (h:s=true∨0≤x) (r:List UInt8):zbC (vput (vint x s) ++ r) s=some (x,r):=by
 unfold inInt at hx
 cases s with
 | true =>
  have hb:=zel hx.1 hx.2
  have e:vint x true=(vzig x).toNat:=rfl
  rw [e,zdx (zek (by omega) r),Int.toNat_of_nonneg hb.1,zku]
 | false =>
  have h0:0≤x:=h.elim (fun h=>nomatch h) id
  have e:vint x false=(x % 18446744073709551616).toNat:=rfl
  have e2:x % 18446744073709551616=x:=by omega
  rw [e,e2,zcZ (zek (by omega) r) (by omega),Int.toNat_of_nonneg h0]
theorem ztw {s f:Bool} {a b:Int} {u:Nat} (ha:inInt a) (hb:inInt b) (hs:s=true∨0≤b) (h:gone f a b=some u):zbl s f a u=some b:=by
 unfold zbl
 rw [zrb ha hb h]
 exact if_pos ⟨rfl,hs⟩
theorem zhE {s f:Bool} {l:List Int} (hl:∀ x∈l,inInt x∧(s=true∨0≤x)):∀ (k:Nat) (us:List Nat),k+1≤l.length→zbP l f k=some us→zbp s f (l.getD 0 0) us=some ((l.drop 1).take k)∧zd0 (l.getD 0 0) ((l.drop 1).take k)=l.getD k 0
 | 0,us,_,h=>by simp [zbP,omap] at h;subst h;simp [zbp,zd0]
 | k+1,us,hk,h=>by
  unfold zbP at h
  rw [List.range_succ,zkD] at h
  cases hg:omap (gat l f) (List.range k) with
  | none=>rw [hg] at h;cases h
  | some vs =>
   rw [hg] at h
   dsimp only at h
   cases hu:gat l f k with
   | none=>rw [hu] at h;cases h
   | some u =>
    rw [hu] at h
    injection h with h
    subst h
    obtain ⟨h1,h2⟩:=zhE hl k vs (by omega) hg
    have hd:(l.drop 1).take (k+1)=(l.drop 1).take k ++ [l.getD (k+1) 0]:=by
     rw [List.take_succ_eq_append_getElem (by rw [List.length_drop];omega),List.getElem_drop]
     congr 2
     rw [List.getD_eq_getElem?_getD,List.getElem?_eq_getElem (show k+1 < l.length by omega)]
     simp [Nat.add_comm]
    have hm:∀ i,i < l.length→inInt (l.getD i 0)∧(s=true∨0≤l.getD i 0):=by
     intro i hi
     rw [List.getD_eq_getElem?_getD,List.getElem?_eq_getElem hi]
     exact hl _ (List.getElem_mem hi)
    refine ⟨?_,by rw [hd,zf7]⟩
    rw [zcW,h1,hd]
    dsimp only
    rw [h2,ztw (hm k (by omega)).1 (hm (k+1) (by omega)).1 (hm (k+1) (by omega)).2 hu]
theorem zrd {us:List Nat} (h:gall us=true):us=List.replicate us.length (us.headD 0):=by
 unfold gall at h
 rw [List.eq_replicate_iff]
 refine ⟨rfl,fun u hu=>?_⟩
 have:=List.all_eq_true.1 h u hu
 simpa using this
theorem zfe {l:List Int} {us:List Nat} (h2:2≤l.length) (h:zbP l (zbG l) (l.length - 1)=some us):zC 0 (zfD l us)=(us.headD 0,zbG l,true)∧inInt (zfD l us):=by
 obtain ⟨k,hk⟩:∃ k,l.length - 1=k+1:=⟨l.length - 2,by omega⟩
 have h0:gat l (zbG l) 0=some (us.headD 0):=by
  unfold zbP at h
  rw [hk,List.range_succ_eq_map,omap] at h
  cases hz:gat l (zbG l) 0 with
  | none=>rw [hz] at h;cases h
  | some u =>
   rw [hz] at h
   dsimp only at h
   cases hr:omap (gat l (zbG l)) ((List.range k).map Nat.succ) with
   | none=>rw [hr] at h;cases h
   | some vs=>rw [hr] at h;injection h with h;subst h;rfl
 have hlt:=zra h0
 have hf:zbG l=true→0 < us.headD 0:=by
  intro hf
  have hba:l.getD 1 0 < l.getD 0 0:=of_decide_eq_true hf
  unfold gat gone at h0
  split at h0
  ·injection h0 with h0
   rename_i hh
   rcases zbO (l.getD 0 0) (l.getD (0+1) 0) with ⟨k,_⟩ | ⟨k1,k2,k⟩ | ⟨k1,k2,k⟩
   ·rw [k] at hh;cases hh.1
   ·rw [k] at h0;dsimp only at h0;omega
   ·rw [Nat.zero_add] at k1;omega
  ·cases h0
 unfold zfD inInt
 generalize us.headD 0=u at *
 cases hg:zbG l with
 | true =>
  have:=hf hg
  rw [if_pos rfl]
  refine ⟨?_,by omega,by omega⟩
  unfold zC
  rw [if_pos (by omega),if_neg (by omega)]
  congr 1
  omega
 | false =>
  rw [if_neg (by decide)]
  refine ⟨?_,by omega,by omega⟩
  unfold zC
  rw [if_neg (by omega),if_neg (by omega)]
  congr 1
theorem zpb {l:List Int} {s:Bool} {us:List Nat} (hl:∀ x∈l,inInt x∧(s=true∨0≤x)) (h2:2≤l.length) (h5:l.length≤512) (h:zbP l (zbG l) (l.length - 1)=some us) (b:List UInt8) :
  zU (glay l s us ++ b) s=(l,b,0):=by
 obtain ⟨hd,hi⟩:=zfe h2 h
 have hul:=zo9 h
 have h64:=zfC h
 have h64t:∀ u∈us.tail,u < 2 ^ 64:=fun u hu=>h64 u (List.mem_of_mem_tail hu)
 obtain ⟨hw,_⟩:=zhE hl (l.length - 1) us (by omega) h
 obtain ⟨x0,l',rfl⟩:∃ x0 l',l=x0::l':=by cases l with | nil=>simp at h2 | cons x0 l'=>exact ⟨x0,l',rfl⟩
 have hw':zbp s (zbG (x0::l')) x0 us=some l':=by
  rw [List.length_cons,Nat.add_sub_cancel] at hw
  simpa using hw
 have hx:=hl x0 List.mem_cons_self
 have hcode:gnum us≤31:=by
  unfold gnum
  split
  ·omega
  ·exact (zc4 h64t).2.2.2.2.2.2.1
 have hlook:zp (glay (x0::l') s us ++ b)=(3,(gnum us:Int),((x0::l').length:Int),vput (vint x0 s) ++ (vput (vint (zfD (x0::l') us) true) ++ (zfd us ++ b)),0):=by
  unfold glay
  simp only [List.append_assoc]
  exact zf3 (k:=3) (by omega) hcode (by omega) h5 _
 unfold zU
 rw [hlook]
 dsimp only
 rw [if_neg (by omega)]
 unfold zio
 rw [zkS hx.1 hx.2]
 dsimp only
 rw [zkS hi (.inl rfl)]
 dsimp only
 rw [hd]
 dsimp only
 rw [if_pos rfl]
 unfold zeX
 by_cases ha:gall us=true
 ·have e1:gnum us=0:=by unfold gnum;rw [if_pos ha]
  have e2:zfd us=[]:=by unfold zfd;rw [if_pos ha]
  have e3:List.replicate (((x0::l').length:Int) - 1).toNat (us.headD 0)=us:=by
   rw [show (((x0::l').length:Int) - 1).toNat=us.length by omega]
   exact (zrd ha).symm
  rw [e1,e2,if_neg (by omega),e3]
  unfold gend
  rw [hw']
  rfl
 ·have e1:gnum us=zin us.tail:=by unfold gnum;rw [if_neg ha]
  have e2:zfd us=zbx us.tail (zee us.tail):=by unfold zfd;rw [if_neg ha]
  obtain ⟨_,_,g3,g4,g5,g6,g7,_⟩:=zc4 h64t
  have hut:(us.tail).length=(x0::l').length - 2:=by rw [List.length_tail];omega
  have e4:((x0::l').length:Int) - 2=((us.tail).length:Int):=by omega
  have e5:us=us.headD 0::us.tail:=by cases us with | nil=>simp at hul h2;omega | cons a t=>rfl
  rw [e1,e2,if_pos (by omega),g3,e4,zbX _ _ _ (by omega) g5,zdh (ziS h64t)]
  dsimp only
  rw [if_neg (by decide),←e5]
  unfold gend
  rw [hw']
end Go.Proofs.YtlibofmpnlfelaaGreatDoor
namespace Go.Proofs.YtlibofmpnlfelaaGreatDoor
open Go.RowKit
theorem zn7 {a b d:Int} (h:d=a - b) (h0:0≤d) (h1:d < 18446744073709551616):IntKind.u64.wrap (IntKind.u64.wrap a - IntKind.u64.wrap b)=d:=by
 rw [IntKind.wrap_u64,IntKind.wrap_u64,IntKind.wrap_u64];omega
def RetD (p:Nat × Bool × Bool) (e:Ending):Prop:=e=.returned (.tuple #[.int .u64 (p.1:Int),.bool p.2.1,.bool p.2.2])
theorem zpc (a b:Int) (w:World) (ha:inInt a) (hb:inInt b):Calls Tryz.prog 99 #[.int .i64 a,.int .i64 b] w fun e w'=>RetD (zC a b) e∧w=w':=by
 unfold inInt at ha hb
 by_cases h:b < a
 ·obtain ⟨d,hd⟩:∃ d,d=a - b:=⟨_,rfl⟩
  have hw:=zn7 hd (by omega) (by omega)
  by_cases h2:9223372036854775808≤d
  ·have hE:Hid (zC a b=(0,false,false)):=Lib.hid (by unfold zC;rw [if_pos h,if_pos (by omega)])
   have d1:decide (b < a)=true:=decide_eq_true h
   have d2:decide ((9223372036854775808:Int)≤d)=true:=decide_eq_true h2
   clear hd ha hb
   go_enter Tryz.func99,Tryz.ntmps99
   go_wp2
   refine bodyPost_ret (results_tmp3 rfl _ _ _) rfl ?_
   rw [hE.out]
   exact ⟨rfl,rfl⟩
  ·have hE:Hid (zC a b=(d.toNat,true,true)):=Lib.hid (by unfold zC;rw [if_pos h,if_neg (by omega),hd])
   have d1:decide (b < a)=true:=decide_eq_true h
   have d2:decide ((9223372036854775808:Int)≤d)=false:=decide_eq_false h2
   have HD:=Lib.hid (show ((d.toNat:Nat):Int)=d by omega)
   clear hd ha hb
   go_enter Tryz.func99,Tryz.ntmps99
   go_wp2
   refine bodyPost_ret (results_tmp3 rfl _ _ _) rfl ?_
   rw [hE.out]
   unfold RetD
   dsimp only
   rw [HD.out]
   exact ⟨rfl,rfl⟩
 ·obtain ⟨d,hd⟩:∃ d,d=b - a:=⟨_,rfl⟩
  have hw:=zn7 hd (by omega) (by omega)
  by_cases h2:9223372036854775808≤d
  ·have hE:Hid (zC a b=(0,false,false)):=Lib.hid (by unfold zC;rw [if_neg h,if_pos (by omega)])
   have d1:decide (b < a)=false:=decide_eq_false h
   have d2:decide ((9223372036854775808:Int)≤d)=true:=decide_eq_true h2
   clear hd ha hb
   go_enter Tryz.func99,Tryz.ntmps99
   go_wp2
   refine bodyPost_ret (results_tmp3 rfl _ _ _) rfl ?_
   rw [hE.out]
   exact ⟨rfl,rfl⟩
  ·have hE:Hid (zC a b=(d.toNat,false,true)):=Lib.hid (by unfold zC;rw [if_neg h,if_neg (by omega),hd])
   have d1:decide (b < a)=false:=decide_eq_false h
   have d2:decide ((9223372036854775808:Int)≤d)=false:=decide_eq_false h2
   have HD:=Lib.hid (show ((d.toNat:Nat):Int)=d by omega)
   clear hd ha hb
   go_enter Tryz.func99,Tryz.ntmps99
   go_wp2
   refine bodyPost_ret (results_tmp3 rfl _ _ _) rfl ?_
   rw [hE.out]
   unfold RetD
   dsimp only
   rw [HD.out]
   exact ⟨rfl,rfl⟩
def RetG (p:Int × Bool) (e:Ending):Prop:=e=.returned (.tuple #[.int .i64 p.1,.bool p.2])
theorem zeK (a U:Int) (f:Bool) (w:World) (ha:inInt a) (h0:0≤U) (h1:U < 18446744073709551616):Calls Tryz.prog 111 #[.int .i64 a,.int .u64 U,.bool f] w fun e w'=>RetG (zbi a U.toNat f) e∧w=w':=by
 unfold inInt at ha
 have hU:((U.toNat:Nat):Int)=U:=by omega
 by_cases h2:9223372036854775808≤U
 ·have hE:Hid (zbi a U.toNat f=(0,false)):=Lib.hid (by unfold zbi;rw [hU,if_pos h2])
  have d2:decide ((9223372036854775808:Int)≤U)=true:=decide_eq_true h2
  clear hU
  go_enter Tryz.func111,Tryz.ntmps111
  go_wp2
  go_ret2
  rw [hE.out]
  exact ⟨rfl,rfl⟩
 ·have d2:decide ((9223372036854775808:Int)≤U)=false:=decide_eq_false h2
  have hw1:IntKind.i64.wrap U=U:=by rw [IntKind.wrap_i64];omega
  cases f with
  | true =>
   have hw2:IntKind.i64.wrap (-9223372036854775808+U) = -9223372036854775808+U:=by rw [IntKind.wrap_i64];omega
   by_cases h3:a < -9223372036854775808+U
   ·have hE:Hid (zbi a U.toNat true=(0,false)):=Lib.hid (by unfold zbi;rw [hU,if_neg h2,if_pos rfl,if_pos h3])
    have d3:decide (a < -9223372036854775808+U)=true:=decide_eq_true h3
    clear hU
    go_enter Tryz.func111,Tryz.ntmps111
    go_wp2
    go_ret2
    rw [hE.out]
    exact ⟨rfl,rfl⟩
   ·have hE:Hid (zbi a U.toNat true=(a - U,true)):=Lib.hid (by unfold zbi;rw [hU,if_neg h2,if_pos rfl,if_neg h3])
    have d3:decide (a < -9223372036854775808+U)=false:=decide_eq_false h3
    have hw3:IntKind.i64.wrap (a - U)=a - U:=by rw [IntKind.wrap_i64];omega
    clear hU
    go_enter Tryz.func111,Tryz.ntmps111
    go_wp2
    go_ret2
    rw [hE.out]
    exact ⟨rfl,rfl⟩
  | false =>
   have hw2:IntKind.i64.wrap (9223372036854775807 - U)=9223372036854775807 - U:=by rw [IntKind.wrap_i64];omega
   by_cases h3:9223372036854775807 - U < a
   ·have hE:Hid (zbi a U.toNat false=(0,false)):=Lib.hid (by unfold zbi;rw [hU,if_neg h2,if_neg (by decide),if_pos h3])
    have d3:decide (9223372036854775807 - U < a)=true:=decide_eq_true h3
    clear hU
    go_enter Tryz.func111,Tryz.ntmps111
    go_wp2
    go_ret2
    rw [hE.out]
    exact ⟨rfl,rfl⟩
   ·have hE:Hid (zbi a U.toNat false=(a+U,true)):=Lib.hid (by unfold zbi;rw [hU,if_neg h2,if_neg (by decide),if_neg h3])
    have d3:decide (9223372036854775807 - U < a)=false:=decide_eq_false h3
    have hw3:IntKind.i64.wrap (a+U)=a+U:=by rw [IntKind.wrap_i64];omega
    clear hU
    go_enter Tryz.func111,Tryz.ntmps111
    go_wp2
    go_ret2
    rw [hE.out]
    exact ⟨rfl,rfl⟩
theorem ztx (a b:Int) (u:Nat) (d o:Bool) (w:World) (ha:inInt a) (hb:inInt b) (h:zC a b=(u,d,o)):Calls Tryz.prog 99 #[.int .i64 a,.int .i64 b] w fun e w'=>e=.returned (.tuple #[.int .u64 (u:Int),.bool d,.bool o])∧w'=w:=by
 refine (zpc a b w ha hb).mono ?_
 rintro e w' ⟨h1,h2⟩
 rw [h] at h1
 exact ⟨h1,h2.symm⟩
def Low63 (u:Nat):Prop:=∃ b:Int,b=9223372036854775808∧(u:Int) < b
theorem Low63.lt {u:Nat} (h:Low63 u):(u:Int) < 9223372036854775808:=by obtain ⟨b,rfl,h⟩:=h;exact h
theorem zjK {x:Int} {s:Bool} (h:inInt x):vint x s < 18446744073709551616:=by
 unfold inInt at h
 unfold vint
 split
 ·have:=zel h.1 h.2;omega
 ·omega
end Go.Proofs.YtlibofmpnlfelaaGreatDoor
