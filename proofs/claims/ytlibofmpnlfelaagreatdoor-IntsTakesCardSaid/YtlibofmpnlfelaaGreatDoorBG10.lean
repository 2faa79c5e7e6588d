import Derived.Test.YtlibofmpnlfelaaGreatDoorBG9
set_option maxHeartbeats 8000000
set_option maxRecDepth 100000
namespace Go.Proofs.YtlibofmpnlfelaaGreatDoor
open Go.RowKit
theorem zpB {l:List Int} (h:1≤l.length):lmin l=zcM l:=by
 cases l with
 | nil=>simp at h
 | cons x l =>
  show l.foldl min x=(x::l).foldl min x
  rw [List.foldl_cons,Int.min_self]
theorem zpC {l:List Int} (h1:1≤l.length) (h:zcM l < 0):zy l false=none:=zb5 (zhP h1) (by unfold zx;rw [if_neg (by decide),if_neg (by omega)])
theorem zm0 {l:List Int} {s:Bool} (h:s=true∨∀ x∈l,0≤x):zy l s≠none:=by
 unfold zy
 induction l with
 | nil=>simp [omap]
 | cons x l ih =>
  have h1:∃ u,zx x s=some u:=by
   unfold zx
   rcases h with h | h
   ·rw [if_pos h];exact ⟨_,rfl⟩
   ·have:=h x List.mem_cons_self
    split
    ·exact ⟨_,rfl⟩
    ·first | exact ⟨_,rfl⟩ | (rw [if_pos this];exact ⟨_,rfl⟩)
  obtain ⟨u,hu⟩:=h1
  have h2:=ih (h.imp id fun h y hy=>h y (List.mem_cons_of_mem _ hy))
  rw [omap,hu]
  dsimp only
  cases hr:omap (zx · s) l with
  | none=>exact absurd hr h2
  | some r=>simp
theorem zpD (n:Nat):zh (n:Int)=zh ((max 1 n:Nat):Int):=by
 by_cases h:n=0
 ·subst h;decide
 ·rw [show max 1 n=n by omega]
def Fact.packed (l:List UInt8):Fact:=⟨fun v w=>∃ b,v=.tuple #[b,.int .i64 0]∧IsB l b w,fun _ _ _ ⟨b,h1,h2⟩ hb=>⟨b,h1,h2.below hb⟩⟩
theorem ztR (l:List Int) (v:Value) (Wi:Int) (s:Bool) (w:World) (ht:WTab w) (hv:IsV iv l v w) (hl:∀ x∈l,inInt x) (hb:l.length≤1000000) :
  Calls Tryz.prog 158 #[v,.int .i64 Wi,.bool s] w (RetEO w (zcN l Wi s)):=by
 obtain ⟨A,n,c,rfl⟩:=hv.shape
 have hn:=hv.parts.1
 have HN:=Lib.hid hn
 have HV:=Lib.hid hv
 have HL:=Lib.hid hl
 have HT:=Lib.hid ht
 by_cases hc:1≤n∧n≤512
 case neg =>
  have hE:=Lib.hid (zjO (l:=l) (W:=Wi) (s:=s) (by omega))
  have HC:=Lib.hid (zrD (n:Int) w (by omega))
  clear hv hn hl hb ht hc
  go_enter Tryz.func158,Tryz.ntmps158
  go_wp2_with (go_at_call 184;refine HC.out.mono ?_;rintro e w' ⟨rfl,rfl⟩)
  go_ret2
  rw [hE.out]
  exact RetEO.nil _ (Below.refl _ _)
 case pos =>
 obtain ⟨hn1,hn5⟩:=hc
 have HC:=Lib.hid (zpt (n:Int) w (by omega) (by omega))
 have HI:=Lib.hid (ztI Wi w ht)
 by_cases hwd:Wi < 64∧0≤zbc Wi
 case neg =>
  have hE:=Lib.hid (zjO (l:=l) (W:=Wi) (s:=s) (by omega))
  rw [show (decide (Wi < 64) && decide (0≤zbc Wi))=false by simpa using hwd] at HI
  clear hv hn hl hb ht hwd
  go_enter Tryz.func158,Tryz.ntmps158
  go_wp2_with (first | (go_at_call 184;refine HC.out.mono ?_;rintro e w' ⟨rfl,rfl⟩) | (go_at_call 185;refine HI.out.mono ?_;rintro e w' ⟨rfl,rfl⟩))
  go_ret2
  rw [hE.out]
  exact RetEO.nil _ (Below.refl _ _)
 case pos =>
 rw [show (decide (Wi < 64) && decide (0≤zbc Wi))=true by simpa using hwd] at HI
 obtain ⟨W,rfl⟩:∃ W:Nat,Wi=(W:Int):=⟨Wi.toNat,by have:=zmT hwd.2;omega⟩
 have HMI:=Lib.hid (zrj l _ w hv (by omega) hb)
 rw [zpB (by omega)] at HMI
 have hbi:inInt (zcM l):=hl _ (zhP (by omega))
 have hW64:W < 64:=by omega
 have HWC:=Lib.hid (zga hwd.2)
 have HW0:=Lib.hid hwd.2
 obtain ⟨base,hba⟩:∃ base,base=zcM l:=⟨_,rfl⟩
 by_cases hne:base = -9223372036854775808
 case pos =>
  have hE:Hid (zcN l (W:Int) s=([],1)):=Lib.hid (by
   unfold zcN
   split
   ·rfl
   ·split
    ·rfl
    ·rw [if_pos (.inl (by rw [←hba];exact hne))])
  rw [←hba,hne] at HMI
  have HD:=Lib.hid (fun X=>zrE X)
  clear hv hn hl hb ht hwd hbi hba hne
  go_enter Tryz.func158,Tryz.ntmps158
  go_wp2_with (first | (go_at_call 184;refine HC.out.mono ?_;rintro e w' ⟨rfl,rfl⟩) | (go_at_call 185;refine HI.out.mono ?_;rintro e w' ⟨rfl,rfl⟩) | (go_at_call 147;refine HMI.out.mono ?_;rintro e w' ⟨rfl,rfl⟩))
  refine (HD.out _).mono ?_
  rintro e w1 ⟨rfl,hb1⟩
  go_wp2
  go_ret2
  rw [hE.out]
  exact RetEO.nil _ hb1
 case neg =>
 have HD:=Lib.hid (fun X=>zpv base X (by rw [hba];exact hbi) hne)
 have HBI:=Lib.hid (show inInt base by rw [hba];exact hbi)
 obtain ⟨hm1,hm8,_⟩:=zry (zeO HBI.out hne).2
 rw [←hba] at HMI
 by_cases hng:base < 0∧s=false
 case pos =>
  obtain ⟨hng,rfl⟩:=hng
  have hE:=Lib.hid (zjO (l:=l) (W:=(W:Int)) (s:=false) (.inl (zpC (by omega) (by rw [←hba];exact hng))))
  have d1:decide (base < 0)=true:=decide_eq_true hng
  clear hv hn hl hb ht hwd hbi hba hne hng
  go_enter Tryz.func158,Tryz.ntmps158
  go_wp2_with (first | (go_at_call 184;refine HC.out.mono ?_;rintro e w' ⟨rfl,rfl⟩) | (go_at_call 185;refine HI.out.mono ?_;rintro e w' ⟨rfl,rfl⟩) | (go_at_call 147;refine HMI.out.mono ?_;rintro e w' ⟨rfl,rfl⟩))
  refine (HD.out _).mono ?_
  rintro e w1 ⟨g1,rfl,hg1,hr1,hb1⟩
  go_wp2
  go_ret2
  rw [hE.out]
  exact RetEO.nil _ hb1
 case neg =>
 have HNE:=Lib.hid hne
 have hcase:decide (base < 0)=false∨(decide (base < 0)=true∧s=true):=by
  by_cases h:base < 0
  ·exact .inr ⟨decide_eq_true h,by cases s with | true=>rfl | false=>exact absurd ⟨h,rfl⟩ hng⟩
  ·exact .inl (decide_eq_false h)
 have HPL:=Lib.hid (show zy l s≠none from zm0 (by
  rcases hcase with h | ⟨_,h⟩
  ·exact .inr fun x hx=>by have h1:=zjL hx;rw [←hba] at h1;have h2:=of_decide_eq_false h;omega
  ·exact .inl h))
 have HSZ:=Lib.hid (fun X (h:IsV iv l (.slice A n c) X)=>zrG base l _ X h HBI.out hl hb)
 rw [show omap (pone base) l=pups l by rw [hba];rfl] at HSZ
 cases hu:pups l with
 | none =>
  have hE:=Lib.hid (zrC (W:=(W:Int)) (s:=s) hu)
  rw [hu] at HSZ
  clear hv hn hl hb ht hwd hbi hba hne hng hu
  rcases hcase with d1 | ⟨d1,rfl⟩
  all_goals
   go_enter Tryz.func158,Tryz.ntmps158
   go_wp2_with (first | (go_at_call 184;refine HC.out.mono ?_;rintro e w' ⟨rfl,rfl⟩) | (go_at_call 185;refine HI.out.mono ?_;rintro e w' ⟨rfl,rfl⟩) | (go_at_call 147;refine HMI.out.mono ?_;rintro e w' ⟨rfl,rfl⟩))
   refine (HD.out _).mono ?_
   rintro e w1 ⟨g1,rfl,hg1,hr1,hb1⟩
   have HB1:=Lib.hid hb1
   clear hr1
   go_wp2_with fail
   refine (HSZ.out _ (HV.out.below hb1)).mono ?_
   rintro e w2 ⟨rfl,hb2⟩
   go_wp2
   go_ret2
   rw [hE.out]
   exact RetEO.nil _ (za HB1.out hb2)
 | some us =>
 have HES:=Lib.hid (zps (s:=s) HPL.out (by omega) (by omega) hwd.2 hW64 hu)
 have HUL:=Lib.hid (show us.length=n by rw [zjM hu];exact hn)
 have H64:Hid (∀ u∈us,u < 2 ^ 64):=Lib.hid fun u h=>by have:=zru hl hu u h;show u < 18446744073709551616;omega
 rw [←hba] at HES
 rw [hu] at HSZ
 obtain ⟨g1',g8',p1',p64',pc,pcc,p31',_,hq⟩:=zk1 (w:=W) H64.out
 have hq2:=(zuu (w:=W) H64.out).2.2
 have hpl:=zmS W us us.length
 have hpl2:=zfL W us us.length
 obtain ⟨ps,hps⟩:∃ ps,ps=zm W us:=⟨_,rfl⟩
 rw [show (pst W us us.length).1=ps from hps.symm] at hpl
 rw [←hps] at g1' g8' p1' p64' pc pcc p31' hq hq2 HES
 have HCUT:=Lib.hid (fun X g (h:Row X g 119 (us.map uv))=>zu1 us W g n X h HUL.out H64.out (by omega) (by omega))
 unfold zrK at HCUT
 rw [←hps] at HCUT
 obtain ⟨t,htl⟩:∃ t,t=ps.length:=⟨_,rfl⟩
 have ht1030:t≤1030:=by have:=HUL.out;omega
 obtain ⟨m,hm⟩:∃ m,m=pn base:=⟨_,rfl⟩
 have HSO:=Lib.hid (fun X vg vp (h:WTab X) (h1:IsV uv (ps.map (·.1)) vg X) (h2:IsV uv (ps.map (·.2)) vp X)=>zmZ (n:Int) (W:Int) (m:Int) vg vp ps X h h1 h2 (fun q h=>Nat.lt_of_le_of_lt (hq2 q h).1 (by decide)) (fun q h=>(hq2 q h).2) (by omega))
 rw [zpD,pc] at HSO
 obtain ⟨G,hG⟩:∃ G,G=pgw ps:=⟨_,rfl⟩
 obtain ⟨P,hP⟩:∃ P,P=ppw ps:=⟨_,rfl⟩
 rw [←hG] at g1' g8' HES HSO hq
 rw [←hP] at p1' p64' pcc p31' HES HSO hq
 rw [←htl] at HES HSO
 have HPC:=Lib.hid pcc
 have HQ:=Lib.hid hq
 have HTL:=Lib.hid htl
 have HPS:=Lib.hid hps
 have HGE:=Lib.hid hG
 have HPE:=Lib.hid hP
 have HME:=Lib.hid hm
 unfold zuX at HD
 rw [←hm] at hm1 hm8 HD
 unfold ze0 at HSO
 clear hv hn hl hb ht hwd hbi hba hne hng hu hpl hpl2 hq hq2 htl hps hG hP hm pc pcc
 rcases hcase with d1 | ⟨d1,rfl⟩
 all_goals
  go_enter Tryz.func158,Tryz.ntmps158
  go_wp2_with (first | (go_at_call 184;refine HC.out.mono ?_;rintro e w' ⟨rfl,rfl⟩) | (go_at_call 185;refine HI.out.mono ?_;rintro e w' ⟨rfl,rfl⟩) | (go_at_call 147;refine HMI.out.mono ?_;rintro e w' ⟨rfl,rfl⟩))
  refine (HD.out _).mono ?_
  rintro e w1 ⟨gd,rfl,hgd,hr1,hb1⟩
  have HB1:=Lib.hid hb1
  have HR1:=Lib.hid hr1
  have HV1:=Lib.hid (HV.out.below hb1)
  clear hr1 hb1
  go_wp2_with fail
  refine (HSZ.out _ HV1.out).mono ?_
  rintro e w2 ⟨g2,rfl,hg2,hr2,hb2⟩
  rw [HUL.out]
  have HB2:=Lib.hid (HB1.out.trans (hb2.mono HB1.out.size))
  have HR2:=Lib.hid hr2
  have HDL:=Lib.hid (show gd < g2 from Nat.lt_of_lt_of_le HR1.out.lt hg2)
  have HD2:=Lib.hid (HR1.out.below hb2 HR1.out.lt)
  have HG2:=Lib.hid (show w.heap.size≤g2 from Nat.le_trans HB1.out.size hg2)
  clear hr2 hb2
  go_wp2_with fail
  refine (HCUT.out _ _ HR2.out).mono ?_
  rintro e w3 ⟨u3,v3,rfl,hu3,hv3,hr3,hb3⟩
  obtain ⟨Ag,t1,cg,rfl⟩:=hu3.shape
  obtain ⟨Ap,t2,cp,rfl⟩:=hv3.shape
  obtain rfl:t=t1:=by have:=hu3.parts.1;rw [List.length_map] at this;have:=HTL.out;omega
  obtain rfl:t=t2:=by have:=hv3.parts.1;rw [List.length_map] at this;have:=HTL.out;omega
  have HB3:=Lib.hid (HB2.out.trans (hb3.mono HG2.out))
  have HD3:=Lib.hid (HD2.out.below hb3 HDL.out)
  have HS3:=Lib.hid hr3
  have HT3:=Lib.hid (HT.out.below HB3.out HT.out.lt)
  have HU3:=Lib.hid hu3
  have HV3:=Lib.hid hv3
  clear hr3 hu3 hv3 hb3
  obtain ⟨pb,hpb⟩:∃ pb,pb=w3.heap.size:=⟨_,rfl⟩
  obtain ⟨w4,hw4⟩:∃ w4,w4=w3.alloc (.cells #[.slice Ag t cg,.slice Ap t cp] 198):=⟨_,rfl⟩
  have hb4:Below w3.heap.size w3 w4:=by rw [hw4];exact (Below.refl _ _).alloc (Nat.le_refl _) _
  have hrp4:Row w4 pb 198 [.slice Ag t cg,.slice Ap t cp]:=by rw [hw4,hpb];exact heap_alloc_new w3 _
  unfold ze0
  have hset4:=hw4.symm
  have HB4:=Lib.hid (HB3.out.trans (hb4.mono HB3.out.size))
  have HD4:=Lib.hid (HD3.out.below hb4 HD3.out.lt)
  have HS4:=Lib.hid (HS3.out.below hb4 HS3.out.lt)
  have HU4:=Lib.hid (HU3.out.below hb4)
  have HV4:=Lib.hid (HV3.out.below hb4)
  have HRP4:=Lib.hid hrp4
  have hp0:w4.cell? ⟨w3.heap.size,0,none⟩=some (.slice Ag t cg):=by rw [←hpb];exact hrp4.cell 0
  have hp1:w4.cell? ⟨w3.heap.size,1,none⟩=some (.slice Ap t cp):=by rw [←hpb];exact hrp4.cell 1
  have HPB:=Lib.hid hpb
  clear hb4 hrp4 hw4 hpb
  go_wp2_with fail
  refine (HSO.out w4 _ _ (HT.out.below HB4.out HT.out.lt) HU4.out HV4.out).mono ?_
  rintro e w5 ⟨rfl,hb5⟩
  rw [←HPB.out]
  clear hp0 hp1 hset4
  have HB5:=Lib.hid (HB4.out.trans (hb5.mono HB4.out.size))
  obtain ⟨sb,hsb⟩:∃ sb,sb=w5.heap.size:=⟨_,rfl⟩
  obtain ⟨w6,hw6⟩:∃ w6,w6=w5.alloc (.cells (shc (n:Int) (W:Int) (m:Int) (P:Int) (G:Int) (t:Int)).toArray 172):=⟨_,rfl⟩
  have hb6:Below w4.heap.size w4 w6:=by rw [hw6];exact hb5.alloc hb5.size _
  have hrs6:Row w6 sb 172 (shc (n:Int) (W:Int) (m:Int) (P:Int) (G:Int) (t:Int)):=by rw [hw6,hsb];exact heap_alloc_new w5 _
  have hset6:=hw6.symm
  unfold shc at hset6
  have HB6:=Lib.hid (HB4.out.trans (hb6.mono HB4.out.size))
  have HD6:=Lib.hid (HD4.out.below hb6 HD4.out.lt)
  have HS6:=Lib.hid (HS4.out.below hb6 HS4.out.lt)
  have HU6:=Lib.hid (HU4.out.below hb6)
  have HV6:=Lib.hid (HV4.out.below hb6)
  have HRP6:=Lib.hid (HRP4.out.below hb6 HRP4.out.lt)
  have HRS6:=Lib.hid hrs6
  have hc0:w6.cell? ⟨sb,0,none⟩=some (.int .i64 (n:Int)):=hrs6.cell 0
  have hc1:w6.cell? ⟨sb,1,none⟩=some (.int .i64 (W:Int)):=hrs6.cell 1
  have hc2:w6.cell? ⟨sb,2,none⟩=some (.int .i64 (m:Int)):=hrs6.cell 2
  have hc3:w6.cell? ⟨sb,3,none⟩=some (.int .i64 (P:Int)):=hrs6.cell 3
  have hc4:w6.cell? ⟨sb,4,none⟩=some (.int .i64 (G:Int)):=hrs6.cell 4
  have hc5:w6.cell? ⟨sb,5,none⟩=some (.int .i64 (t:Int)):=hrs6.cell 5
  rw [hsb] at hc0 hc1 hc2 hc3 hc4 hc5
  have HSB:=Lib.hid hsb
  unfold shv shc
  clear hb5 hb6 hrs6 hw6 hsb
  by_cases h31:31 < t
  case pos =>
   have hE:Hid (zcN l (W:Int) _=([],1)):=Lib.hid (by rw [HES.out,if_pos (.inr (.inl h31))])
   have d5:decide ((31:Int) < (t:Int))=true:=decide_eq_true (by omega)
   go_wp2
   go_ret2
   rw [hE.out]
   exact RetEO.nil _ HB6.out
  case neg =>
  have d5:decide ((31:Int) < (t:Int))=false:=decide_eq_false (by omega)
  have HRM:=Lib.hid (zk5 (n:Int) (W:Int) (m:Int) (P:Int) (G:Int) (t:Int) w6 ⟨by omega,by omega⟩ ⟨by omega,by omega⟩)
  unfold shv shc at HRM
  by_cases hgp:64 < G+P
  case pos =>
   have hE:Hid (zcN l (W:Int) _=([],1)):=Lib.hid (by rw [HES.out,if_pos (.inr (.inr (.inl hgp)))])
   rw [decide_eq_false (by omega:¬((G:Int)+(P:Int)≤64))] at HRM
   go_wp2_with fail
   refine HRM.out.mono ?_
   rintro e w7 ⟨rfl,hb7⟩
   go_wp2
   go_ret2
   rw [hE.out]
   exact RetEO.nil _ (za HB6.out hb7)
  case neg =>
  rw [decide_eq_true (by omega:(G:Int)+(P:Int)≤64)] at HRM
  go_wp2_with fail
  refine HRM.out.mono ?_
  rintro e w7 ⟨rfl,hb7⟩
  rw [←HSB.out]
  have hrs7:=HRS6.out.below hb7 HRS6.out.lt
  clear hc0 hc1 hc2 hc3 hc4 hc5
  have hc1:w7.cell? ⟨sb,1,none⟩=some (.int .i64 (W:Int)):=hrs7.cell 1
  have hc3:w7.cell? ⟨sb,3,none⟩=some (.int .i64 (P:Int)):=hrs7.cell 3
  have HB7:=Lib.hid (HB6.out.trans (hb7.mono HB6.out.size))
  have HD7:=Lib.hid (HD6.out.below hb7 HD6.out.lt)
  have HS7:=Lib.hid (HS6.out.below hb7 HS6.out.lt)
  have HU7:=Lib.hid (HU6.out.below hb7)
  have HV7:=Lib.hid (HV6.out.below hb7)
  have HRP7:=Lib.hid (HRP6.out.below hb7 HRP6.out.lt)
  have HRS7:=Lib.hid hrs7
  clear hb7 hrs7
  have hWPi:IntKind.i64.wrap ((W:Int)+(P:Int))=(W:Int)+(P:Int):=by rw [IntKind.wrap_i64];omega
  by_cases hwp:64 < W+P
  case pos =>
   have hE:Hid (zcN l (W:Int) _=([],1)):=Lib.hid (by rw [HES.out,if_pos (.inr (.inr (.inr hwp)))])
   have d6:decide ((64:Int) < (W:Int)+(P:Int))=true:=decide_eq_true (by omega)
   go_wp2
   go_ret2
   rw [hE.out]
   exact RetEO.nil _ HB7.out
  case neg =>
  have d6:decide ((64:Int) < (W:Int)+(P:Int))=false:=decide_eq_false (by omega)
  have hE:Hid (zcN l (W:Int) _=(play base us W,0)):=Lib.hid (by rw [HES.out,if_neg (by rintro (h | h | h | h) <;> first | exact HNE.out h | omega)])
  obtain ⟨pk,hpk⟩:∃ pk,pk=zbx (plow us W) W:=⟨_,rfl⟩
  have hplen:(plow us W).length=n:=by unfold plow;rw [List.length_map,HUL.out]
  have hplt:∀ x∈plow us W,x < 2 ^ W:=fun x hx=>by
   obtain ⟨u,_,rfl⟩:=List.mem_map.1 hx
   exact Nat.mod_lt _ (Nat.two_pow_pos W)
  have HPK:=Lib.hid (znQ (W:Int) (show IsU (plow us W) (.slice (some ⟨g2,0,none⟩) n n) w7 from zbN HS7.out hplen (by omega)) (by omega) (fun x hx=>Nat.lt_of_lt_of_le (hplt x hx) (Nat.pow_le_pow_right (by omega) (by omega))))
  rw [zcd _ _ (by omega),zdU hplt,←hpk] at HPK
  have HPKE:=Lib.hid hpk
  have HPLN:=Lib.hid hplen
  clear hpk hplen hplt
  go_wp2_with fail
  refine HPK.out.mono ?_
  rintro e w8 ⟨v8,rfl,ho8,hb8⟩
  have HB8:=Lib.hid (HB7.out.trans (hb8.mono HB7.out.size))
  have HK8:=Lib.hid (zbw ho8)
  have HD8:=Lib.hid (HD7.out.below hb8 HD7.out.lt)
  have HGA:=Lib.hid (HU7.out.below hb8)
  have HPA:=Lib.hid (HV7.out.below hb8)
  have HRP:=Lib.hid (HRP7.out.below hb8 HRP7.out.lt)
  have HRS:=Lib.hid (HRS7.out.below hb8 HRS7.out.lt)
  have HT8:=Lib.hid (HT.out.below HB8.out HT.out.lt)
  have HLS:=Lib.hid HRS.out.lt
  have HC3:=Lib.hid (show w8.cell? ⟨sb,3,none⟩=some (.int .i64 (P:Int)) from HRS.out.cell 3)
  clear ho8 hb8 hc1 hc3
  obtain ⟨V,hV⟩:∃ V,V=(zh ((G+P:Nat):Int)).toNat:=⟨_,rfl⟩
  obtain ⟨_,V64,VGP,_,_,VE,_⟩:=zkZ (n:=G+P) (by omega)
  rw [←hV] at V64 VGP VE
  obtain ⟨jn,hjn⟩:∃ jn,jn=zcy ps P:=⟨_,rfl⟩
  obtain ⟨pj,hpj⟩:∃ pj,pj=zbx jn V:=⟨_,rfl⟩
  have hjl:jn.length=t:=by rw [hjn];unfold zcy;rw [List.length_map,HTL.out]
  have hjlt:∀ x∈jn,x < 2 ^ V:=fun x hx=>Nat.lt_of_lt_of_le (zob HQ.out x (by rw [←hjn];exact hx)) (Nat.pow_le_pow_right (by omega) VGP)
  have HJN:=Lib.hid (fun X (h1:IsV uv (ps.map (·.1)) (.slice Ag t cg) X) (h2:IsV uv (ps.map (·.2)) (.slice Ap t cp) X)=>zpA (.slice Ag t cg) (.slice Ap t cp) ps P X h1 h2 (fun q h=>by
   have h3:q.1*2 ^ P < 2 ^ G*2 ^ P:=Nat.mul_lt_mul_of_pos_right (HQ.out q h).1 (Nat.two_pow_pos P)
   rw [←Nat.pow_add] at h3
   exact Nat.lt_of_lt_of_le h3 (Nat.pow_le_pow_right (by omega) (by omega))) (fun q h=>(HQ.out q h).2) (by omega) (by have:=HTL.out;omega))
  rw [←hjn] at HJN
  have HPW:=Lib.hid (fun X (h:WTab X)=>zk6 (n:Int) (W:Int) (m:Int) (P:Int) (G:Int) (t:Int) X h ⟨by omega,by omega⟩ ⟨by omega,by omega⟩)
  rw [show zh ((G:Int)+(P:Int))=(V:Int) by rw [←VE];congr 1] at HPW
  have HPJ:=Lib.hid (fun u X (h:IsV uv jn u X)=>zmo (V:Int) (show IsU jn u X from h) (by omega) (fun x hx=>Nat.lt_of_lt_of_le (hjlt x hx) (Nat.pow_le_pow_right (by omega) V64)))
  rw [zcd _ _ V64,zdU hjlt,←hpj] at HPJ
  have HPJE:=Lib.hid hpj
  have HJNE:=Lib.hid hjn
  have HVE:=Lib.hid hV
  have HJL:=Lib.hid hjl
  clear hV hjn hpj hjl hjlt VE
  go_wp2
  refine wp_region_list [.is (ze0 (.slice Ag t cg) (.slice Ap t cp)),.is (.pointer (some ⟨sb,3,none⟩)),.is (.int .i64 (P:Int)),.vals uv jn,.is (shv (n:Int) (W:Int) (m:Int) (P:Int) (G:Int) (t:Int)),.is (.int .i64 (V:Int)),.packed pj,.packed pj,.bytes (pj),.is (.int .i64 0),.bytes (pj),.is (.int .i64 0)] [some 87,some 88,some 89,some 90,some 91,some 92,some 93,some 86,some 94,some 95,some 16,some 15] (by kernel_rfl) (by kernel_rfl) (by kernel_rfl) rfl ⟨?_,?_,?_,?_,?_,?_,?_,?_,?_,?_,?_,?_,trivial⟩ ?_
  ·intro ρ W1 hb1 H
   exact zL (cs:=[.slice Ag t cg,.slice Ap t cp]) rfl (H.old 12 _ (by kernel_rfl) rfl) Tryz.underlying198 rfl zi5 (HRP.out.below hb1 HRP.out.lt) ⟨rfl,Below.refl _ _⟩
  ·intro ρ W1 hb1 H
   exact zq rfl (H.old 13 _ (by kernel_rfl) rfl) (fun W=>zhR W _) ⟨rfl,Below.refl _ _⟩
  ·intro ρ W1 hb1 H
   exact zf rfl (H.new 88 1 (by kernel_rfl)) Tryz.underlying3 rfl ((hb1.cell HLS.out).trans HC3.out) ⟨rfl,Below.refl _ _⟩
  ·intro ρ W1 hb1 H
   have e0:ρ (.tmp 87)=ze0 (.slice Ag t cg) (.slice Ap t cp):=H.new 87 0 (by kernel_rfl)
   have e1:ρ (.tmp 89)=.int .i64 (P:Int):=H.new 89 2 (by kernel_rfl)
   refine zj rfl (fun _ _=>by kernel_rfl) (H.func _) (args:=#[ze0 (.slice Ag t cg) (.slice Ap t cp),.int .i64 (P:Int)]) (by simp [e0,e1]) ?_
   exact (HJN.out W1 (HGA.out.below hb1) (HPA.out.below hb1)).mono fun e w' ⟨v,h1,h2,h3⟩=>⟨v,h1,h2,h3⟩
  ·intro ρ W1 hb1 H
   exact zL (cs:=shc (n:Int) (W:Int) (m:Int) (P:Int) (G:Int) (t:Int)) rfl (H.old 13 _ (by kernel_rfl) rfl) Tryz.underlying172 rfl zbn (HRS.out.below hb1 HRS.out.lt) ⟨rfl,Below.refl _ _⟩
  ·intro ρ W1 hb1 H
   have e0:ρ (.tmp 91)=shv (n:Int) (W:Int) (m:Int) (P:Int) (G:Int) (t:Int):=H.new 91 4 (by kernel_rfl)
   refine zj rfl (fun _ _=>by kernel_rfl) (H.func _) (args:=#[shv (n:Int) (W:Int) (m:Int) (P:Int) (G:Int) (t:Int)]) (by simp [e0]) ?_
   exact (HPW.out W1 (HT8.out.below hb1 HT8.out.lt)).mono fun e w' ⟨h1,h2⟩=>⟨_,h1,rfl,h2⟩
  ·intro ρ W1 hb1 H
   have e0:IsV uv jn (ρ (.tmp 90)) W1:=H.new 90 3 (by kernel_rfl)
   have e1:ρ (.tmp 92)=.int .i64 (V:Int):=H.new 92 5 (by kernel_rfl)
   refine zj rfl (fun _ _=>by kernel_rfl) (H.func _) (args:=#[ρ (.tmp 90),.int .i64 (V:Int)]) (by simp [e1]) ?_
   exact (HPJ.out _ W1 e0).mono fun e w' ⟨v,h1,h2,h3⟩=>⟨_,h1,⟨v,rfl,h2⟩,h3⟩
  ·intro ρ W1 hb1 H
   exact zd rfl rfl ⟨H.new 93 6 (by kernel_rfl),Below.refl _ _⟩
  ·intro ρ W1 hb1 H
   have h86:∃ b,ρ (.tmp 86)=.tuple #[b,.int .i64 0]∧IsB pj b W1:=H.new 86 7 (by kernel_rfl)
   obtain ⟨b,h1,h2⟩:=h86
   exact zi rfl h1 rfl ⟨h2,Below.refl _ _⟩
  ·intro ρ W1 hb1 H
   have h86:∃ b,ρ (.tmp 86)=.tuple #[b,.int .i64 0]∧IsB pj b W1:=H.new 86 7 (by kernel_rfl)
   obtain ⟨b,h1,h2⟩:=h86
   exact zi rfl h1 rfl ⟨rfl,Below.refl _ _⟩
  ·intro ρ W1 hb1 H
   exact ze rfl rfl ⟨H.new 94 8 (by kernel_rfl),Below.refl _ _⟩
  ·intro ρ W1 hb1 H
   exact ze rfl (H.new 95 9 (by kernel_rfl)) ⟨rfl,Below.refl _ _⟩
  ·intro vs W1 hb1 hfs
   have f10:IsB (pj) (vs 10) W1:=hfs 10 (by decide)
   have f11:vs 11=.int .i64 0:=hfs 11 (by decide)
   clear hfs
   simp only [zr,Nat.zero_add,Nat.reduceAdd]
   generalize vs 0=z0
   generalize vs 1=z1
   generalize vs 2=z2
   generalize vs 3=z3
   generalize vs 4=z4
   generalize vs 5=z5
   generalize vs 6=z6
   generalize vs 7=z7
   generalize vs 8=z8
   generalize vs 9=z9
   generalize vs 10=z10 at f10 ⊢
   simp only [f11,Act.put,List.setIfInBounds_toArray,List.set_cons_succ,List.set_cons_zero]
   clear f11
   have HBJ:=Lib.hid f10
   have hrow9:=HRS.out.below hb1 HRS.out.lt
   have hc0:W1.cell? ⟨sb,0,none⟩=some (.int .i64 (n:Int)):=hrow9.cell 0
   have hc1:W1.cell? ⟨sb,1,none⟩=some (.int .i64 (W:Int)):=hrow9.cell 1
   have hc2:W1.cell? ⟨sb,2,none⟩=some (.int .i64 (m:Int)):=hrow9.cell 2
   have hc3:W1.cell? ⟨sb,3,none⟩=some (.int .i64 (P:Int)):=hrow9.cell 3
   have hc4:W1.cell? ⟨sb,4,none⟩=some (.int .i64 (G:Int)):=hrow9.cell 4
   have hc5:W1.cell? ⟨sb,5,none⟩=some (.int .i64 (t:Int)):=hrow9.cell 5
   have HB9:=Lib.hid (HB8.out.trans (hb1.mono HB8.out.size))
   have HD9:=Lib.hid (HD8.out.below hb1 HD8.out.lt)
   have HK9:=Lib.hid (HK8.out.below hb1)
   have HT9:=Lib.hid (HT8.out.below hb1 HT8.out.lt)
   clear hrow9 f10 hb1
   have HHE:=Lib.hid (ztO n W m P G t W1 HT9.out hn1 hn5 HWC.out.2.2 HWC.out.2.1 hm1 hm8 HPC.out p31' g1' g8' (by omega))
   unfold shv shc at HHE
   go_wp2_with fail
   refine HHE.out.mono ?_
   rintro e w10 ⟨v10,rfl,ho10,hb10⟩
   have HB10:=Lib.hid (HB9.out.trans (hb10.mono HB9.out.size))
   have HH10:=Lib.hid (zbw ho10)
   have HD10:=Lib.hid (HD9.out.below hb10 HD9.out.lt)
   have HK10:=Lib.hid (HK9.out.below hb10)
   have HJ10:=Lib.hid (HBJ.out.below hb10)
   clear ho10 hb10 hc0 hc1 hc2 hc3 hc4 hc5
   obtain ⟨hd,hhd⟩:∃ hd,hd=zE 2 (zb8 W) n ++ [UInt8.ofNat (32*(m - 1)+zb8 P),UInt8.ofNat (32*(G - 1)+t)]:=⟨_,rfl⟩
   rw [←hhd] at HH10
   have HHL:=Lib.hid (show hd.length=4 by rw [hhd,List.length_append,zV];rfl)
   have HHD:=Lib.hid hhd
   clear hhd
   obtain ⟨A10,n10,c10,h10⟩:=(isB_iff.1 HH10.out).shape
   obtain ⟨A8,n8,c8,h8⟩:=(isB_iff.1 HK10.out).shape
   obtain ⟨Az,nz,cz,hz⟩:=(isB_iff.1 HJ10.out).shape
   subst h10 h8 hz
   obtain ⟨xs,hxs⟩:∃ xs:List (Value × List UInt8),xs=[(.slice A10 n10 c10,hd),(.slice (some ⟨gd,0,none⟩) m m,zdE base),(.slice A8 n8 c8,pk),(.slice Az nz cz,pj)]:=⟨_,rfl⟩
   obtain ⟨w11,hw11⟩:∃ w11,w11=w10.alloc (.cells #[.slice A10 n10 c10,.slice (some ⟨gd,0,none⟩) m m,.slice A8 n8 c8,.slice Az nz cz] 25):=⟨_,rfl⟩
   have hb11:Below w10.heap.size w10 w11:=by rw [hw11];exact (Below.refl _ _).alloc (Nat.le_refl _) _
   have hpkl:pk.length≤5000:=by
    rw [HPKE.out,zcK]
    unfold zT
    rw [HPLN.out]
    have:n*W≤512*64:=Nat.mul_le_mul hn5 (by omega)
    omega
   have hpjl:pj.length≤5000:=by
    rw [HPJE.out,zcK]
    unfold zT
    rw [HJL.out]
    have:t*V≤31*64:=Nat.mul_le_mul (by omega) V64
    omega
   have hdl:(zdE base).length=m:=by rw [zdG,HME.out]
   have HCC:=Lib.hid (zpy xs (.slice (some ⟨w10.heap.size,0,none⟩) 4 4) w11 (by rw [hw11,hxs];exact zuN (fun x:Value × List UInt8=>x.1) w10 25 _ 4 rfl (by omega)) (by
    intro x hx
    rw [hxs] at hx
    simp only [List.mem_cons,List.not_mem_nil,or_false] at hx
    rcases hx with h | h | h | h <;> subst h
    ·exact HH10.out.below hb11
    ·exact (zme HD10.out hdl (by omega)).below hb11
    ·exact HK10.out.below hb11
    ·exact HJ10.out.below hb11) (by rw [hxs];simp) (by rw [hxs];simp only [List.flatMap_cons,List.flatMap_nil,List.length_append,List.length_nil];have:=HHL.out;omega))
   have HPLAY:=Lib.hid (show xs.flatMap (·.2)=play base us W by
    rw [hxs]
    simp only [List.flatMap_cons,List.flatMap_nil,List.append_nil]
    unfold play zrw
    rw [←HPS.out,←HPE.out,←HGE.out,←HME.out,←HTL.out,HUL.out,←HVE.out,←HJNE.out,←HPJE.out,←HPKE.out,HHD.out]
    simp only [List.append_assoc])
   rw [HPLAY.out] at HCC
   have HB11:=Lib.hid (HB10.out.trans (hb11.mono HB10.out.size))
   have HW11:=Lib.hid hw11
   clear hxs hpkl hpjl hdl hb11 hw11
   go_wp2_with fail
   rw [←HW11.out]
   refine HCC.out.mono ?_
   rintro e w12 ⟨v12,rfl,ho12,hb12⟩
   have HO12:=Lib.hid ho12
   have HB12:=Lib.hid (za HB11.out hb12)
   clear ho12 hb12
   go_wp2
   go_ret2
   rw [hE.out]
   exact ⟨_,rfl,zbV HB11.out.size HO12.out,HB12.out⟩
def Fact.ownU (w0:World) (us:List Nat):Fact:=⟨fun v w=>w.ownsRow w0.heap.size 119 1 v us.length (us.map uv),fun _ _ _ h hb=>own_below h hb⟩
def Fact.takenO (w0:World) (us:List Nat) (q:List UInt8) (y:Int):Fact:=⟨fun v w=>∃ u r,v=.tuple #[u,r,.int .i64 y]∧w.ownsRow w0.heap.size 119 1 u us.length (us.map uv)∧OwnB w0 q r w,fun _ _ _ ⟨u,r,h1,h2,h3⟩ hb=>⟨u,r,h1,own_below h2 hb,h3.below hb⟩⟩
theorem ztS (l:List Int) (v:Value) (W:Int) (s:Bool) (w:World) (ht:WTab w) (hv:IsV iv l v w) (hl:∀ x∈l,inInt x) (hb:l.length≤1000000) (_hW:inInt W):Calls Tryz.prog 158 #[v,.int .i64 W,.bool s] w (RetE w (zcN l W s)):=
 (ztR l v W s w ht hv hl hb).mono fun _ _ h=>h.e
theorem zrV (l:List UInt8) (v:Value) (s:Bool) (w:World) (ht:WTab w) (hv:IsB l v w) (hb:l.length≤1000000) :
  Calls Tryz.prog 123 #[v,.bool s] w (RetIO w (zD l s)):=by
 by_cases hbad:(zp l).2.2.2.2≠0∨(zp l).1≠2∨(zp l).2.2.2.1.length < 2
 case pos =>
  have HLN:=Lib.hid (zu3 l v w hv hb hbad)
  have hE:Hid (zD l s=([],[],2)):=Lib.hid (by
   by_cases h:(zp l).2.2.2.2≠0∨(zp l).1≠2
   ·exact zc8 h
   ·have h1:(zp l).2.2.2.2=0:=Classical.byContradiction fun k=>h (.inl k)
    have h2:(zp l).1=2:=Classical.byContradiction fun k=>h (.inr k)
    have h3:(zp l).2.2.2.1.length < 2:=hbad.elim (fun k=>absurd h1 k) (fun k=>k.elim (fun k=>absurd h2 k) id)
    obtain ⟨K,C,M,r,x,hd⟩:∃ K C M r x,zp l=(K,C,M,r,x):=⟨_,_,_,_,_,rfl⟩
    rw [hd] at h1 h2 h3
    dsimp only at h1 h2 h3
    subst h1 h2
    rw [zdH hd,zd4 h3])
  obtain ⟨A0,c0,rfl,_⟩:=hv
  unfold shv shc at HLN
  clear hbad
  go_enter Tryz.func123,Tryz.ntmps123
  go_wp2_with fail
  refine HLN.out.mono ?_
  rintro e w1 ⟨rfl,hb1⟩
  go_wp2
  go_ret3
  rw [hE.out]
  exact RetIO.nil _ (hb1.alloc hb1.size _)
 case neg =>
 obtain ⟨hx0,hK2,hr2⟩:(zp l).2.2.2.2=0∧(zp l).1=2∧2≤(zp l).2.2.2.1.length:=
  ⟨Classical.byContradiction fun k=>hbad (.inl k),Classical.byContradiction fun k=>hbad (.inr (.inl k)),Nat.not_lt.1 fun k=>hbad (.inr (.inr k))⟩
 rcases zgS l with ⟨_,hd⟩ | ⟨_,K,C,m,_,hC,hm1,hm5,hd⟩
 ·rw [hd] at hx0;cases hx0
 rw [hd] at hK2 hr2
 dsimp only at hK2 hr2
 obtain ⟨r,hr⟩:∃ r,r=l.drop 2:=⟨_,rfl⟩
 rw [←hr] at hd hr2
 rw [hK2] at hd
 have hrl:r.length≤1000000:=by rw [hr,List.length_drop];omega
 obtain ⟨b0,hb0⟩:∃ b:Nat,b=r[0].toNat:=⟨_,rfl⟩
 obtain ⟨b1,hb1'⟩:∃ b:Nat,b=r[1].toNat:=⟨_,rfl⟩
 have hb08:b0 < 256:=by rw [hb0];exact UInt8.toNat_lt _
 have hb18:b1 < 256:=by rw [hb1'];exact UInt8.toNat_lt _
 obtain ⟨n,hn⟩:∃ n,n=b0 / 32+1:=⟨_,rfl⟩
 obtain ⟨g,hg⟩:∃ g,g=b1 / 32+1:=⟨_,rfl⟩
 obtain ⟨t,htt⟩:∃ t,t=b1 % 32:=⟨_,rfl⟩
 obtain ⟨p,hp⟩:∃ p:Nat,wof ((b0 % 32:Nat):Int)=(p:Int):=⟨(wof ((b0 % 32:Nat):Int)).toNat,by have:=zei ((b0 % 32:Nat):Int);omega⟩
 have hp64:p≤64:=by have:=zei ((b0 % 32:Nat):Int);omega
 obtain ⟨W,hW⟩:∃ W:Nat,wof (C:Int)=(W:Int):=⟨(wof (C:Int)).toNat,by have:=zei (C:Int);omega⟩
 have hW64:W≤64:=by have:=zei (C:Int);omega
 have HLK:=Lib.hid (ztQ l r v w (C:Int) (m:Int) b0 b1 n g t p ht hv hb hd hr2 hrl (by unfold inInt;omega) hb0 hb1' hn hg htt hp hp64)
 rw [hW] at HLK
 unfold zjR at HLK
 obtain ⟨d,hdd⟩:∃ d,d=r.drop 2:=⟨_,rfl⟩
 have HPB:=Lib.hid (zjN (s:=s) (c:=(C:Int)) (m:=(m:Int)) hr2 hb0 hb1' hn hg htt hp hdd)
 have HE0:=Lib.hid (zdH (s:=s) hd)
 rw [←hdd] at HLK
 have hd6:d.length≤1000000:=by rw [hdd,List.length_drop];omega
 have HWC:=Lib.hid hW
 have HT:=Lib.hid ht
 have hn1:1≤n:=by omega
 have hn8:n≤8:=by omega
 have hg8:g≤8:=by omega
 have ht31:t≤31:=by omega
 obtain ⟨A0,c0,rfl,_⟩:=hv
 clear ht hbad hx0 hd hr hb0 hb1' hn hg htt hp hW hdd hrl hr2
 unfold shv shc at HLK
 obtain ⟨rm,hrm⟩:∃ rm,rm=decide ((g:Int)+(p:Int)≤64):=⟨_,rfl⟩
 rw [←hrm] at HLK
 by_cases hgp:64 < g+p
 case pos =>
  have hE:Hid (zD l s=([],[],2)):=Lib.hid (by rw [HE0.out,HPB.out,if_pos (.inl hgp)])
  obtain rfl:rm=false:=by rw [hrm];exact decide_eq_false (by omega)
  clear hrm
  go_enter Tryz.func123,Tryz.ntmps123
  go_wp2_with fail
  refine HLK.out.mono ?_
  rintro e w1 ⟨rv,rfl,hrv,hb1⟩
  obtain ⟨A1,n1,c1,rfl⟩:=(isB_iff.1 hrv).shape
  clear hrv
  go_wp2
  go_ret3
  rw [hE.out]
  exact RetIO.nil _ (hb1.alloc hb1.size _)
 case neg =>
 obtain rfl:rm=true:=by rw [hrm];exact decide_eq_true (by omega)
 clear hrm
 go_enter Tryz.func123,Tryz.ntmps123
 go_wp2_with fail
 refine HLK.out.mono ?_
 rintro e w1 ⟨rv,rfl,hrv,hb1⟩
 obtain ⟨A1,n1,c1,rfl⟩:=(isB_iff.1 hrv).shape
 have hn1d:d.length=n1:=(isB_iff.1 hrv).parts.1
 obtain ⟨sb,hsb⟩:∃ sb,sb=w1.heap.size:=⟨_,rfl⟩
 obtain ⟨w2,hw2⟩:∃ w2,w2=w1.alloc (.cells (shc (m:Int) (W:Int) (n:Int) (p:Int) (g:Int) (t:Int)).toArray 172):=⟨_,rfl⟩
 have hb2:Below w1.heap.size w1 w2:=by rw [hw2];exact (Below.refl _ _).alloc (Nat.le_refl _) _
 have hrs2:Row w2 sb 172 (shc (m:Int) (W:Int) (n:Int) (p:Int) (g:Int) (t:Int)):=by rw [hw2,hsb];exact heap_alloc_new w1 _
 have HB2:=Lib.hid (hb1.trans (hb2.mono hb1.size))
 have HR2:=Lib.hid (hrv.below hb2)
 have HRS2:=Lib.hid hrs2
 have HN1:=Lib.hid hn1d
 have hset2:=hw2.symm
 unfold shc at hset2
 have hc0:w2.cell? ⟨sb,0,none⟩=some (.int .i64 (m:Int)):=hrs2.cell 0
 have hc1:w2.cell? ⟨sb,1,none⟩=some (.int .i64 (W:Int)):=hrs2.cell 1
 have hc2:w2.cell? ⟨sb,2,none⟩=some (.int .i64 (n:Int)):=hrs2.cell 2
 have hc3:w2.cell? ⟨sb,3,none⟩=some (.int .i64 (p:Int)):=hrs2.cell 3
 have hc4:w2.cell? ⟨sb,4,none⟩=some (.int .i64 (g:Int)):=hrs2.cell 4
 have hc5:w2.cell? ⟨sb,5,none⟩=some (.int .i64 (t:Int)):=hrs2.cell 5
 rw [hsb] at hc0 hc1 hc2 hc3 hc4 hc5
 have HSB:=Lib.hid hsb
 clear hrv hb1 hb2 hrs2 hw2 hn1d hsb
 by_cases hdn:n1 < n
 case pos =>
  have hE:Hid (zD l s=([],[],2)):=Lib.hid (by rw [HE0.out,HPB.out,if_pos (.inr (by rw [HN1.out];exact hdn))])
  have d1:decide ((n1:Int) < (n:Int))=true:=decide_eq_true (by omega)
  go_wp2
  go_ret3
  rw [hE.out]
  exact RetIO.nil _ HB2.out
 case neg =>
 have d1:decide ((n1:Int) < (n:Int))=false:=decide_eq_false (by omega)
 have HE1:=Lib.hid (show zD l s=zf9 s (zdF (d.take n)) (C:Int) (m:Int) g p t (d.drop n) by rw [HE0.out,HPB.out,if_neg (by have:=HN1.out;omega)])
 obtain ⟨BA,hBA⟩:∃ BA,BA=zdF (d.take n):=⟨_,rfl⟩
 have HNB:=Lib.hid (zpw (d.take n) (.slice A1 n c1) w2 (isB_iff.2 ((isB_iff.1 HR2.out).take (by omega))) (by rw [List.length_take];have:=HN1.out;omega) (by rw [List.length_take];omega))
 have HBI:=Lib.hid (zi2 (x:=d.take n) (by rw [List.length_take];have:=HN1.out;omega) (by rw [List.length_take];omega) rfl rfl).2.1
 rw [←hBA] at HNB HE1 HBI
 clear hBA
 have hnc1:n≤c1:=by have:=(isB_iff.1 HR2.out).parts.2.2.1;omega
 have hci:(c1:Int)≤9223372036854775807:=by have:=(isB_iff.1 HR2.out).parts.2.2.2.1;unfold maxLen at this;omega
 go_wp2_with fail
 refine HNB.out.mono ?_
 rintro e w3 ⟨rfl,hb3⟩
 rw [←HSB.out]
 have HB3:=Lib.hid (HB2.out.trans (hb3.mono HB2.out.size))
 have HRS:=Lib.hid (HRS2.out.below hb3 HRS2.out.lt)
 have HLS:=Lib.hid HRS.out.lt
 have HR3:=Lib.hid (HR2.out.below hb3)
 clear hb3 hc0 hc1 hc2 hc3 hc4 hc5 hset2
 obtain ⟨hp1,hp2,hp3,hp4,hp5⟩:=(isB_iff.1 HR3.out).parts
 obtain ⟨v3,hv3,hI3⟩:=zbm (P:=Tryz.prog) (w:=w3) elemB (k:=n) (by omega) hp3 hp4 hp1 hp5 hp2
 have HI3:=Lib.hid hI3
 have HV3:=Lib.hid hv3
 clear hp1 hp2 hp3 hp4 hp5 hv3 hI3
 obtain ⟨us,q,e1,hu⟩:∃ us q y,zg (d.drop n) (m:Int) (W:Int)=(us,q,y):=⟨_,_,_,rfl⟩
 have HUN:=Lib.hid (fun X (h:IsB (d.drop n) v3 X)=>zeD (m:Int) (W:Int) h (by rw [List.length_drop];omega))
 rw [hu] at HUN
 have hlt:=(zba (l:=d.drop n) (M:=(m:Int)) (W:=(W:Int))).1
 rw [hu] at hlt
 dsimp only at hlt
 have HLT:=Lib.hid hlt
 have HUE:=Lib.hid hu
 clear hlt hu
 go_wp2
 refine wp_region_list [.is (.slice A1 n1 c1),.is (.pointer (some ⟨sb,2,none⟩)),.is (.int .i64 (n:Int)),.is (v3),.is (.pointer (some ⟨sb,0,none⟩)),.is (.int .i64 (m:Int)),.is (.pointer (some ⟨sb,1,none⟩)),.is (.int .i64 (W:Int)),.takenO w3 us q e1,.takenO w3 us q e1,.ownU w3 us,.ownB w3 q,.is (.int .i64 e1),.ownU w3 us,.ownB w3 q,.is (.int .i64 e1)] [some 36,some 37,some 38,some 39,some 40,some 41,some 42,some 43,some 44,some 35,some 45,some 46,some 47,some 11,some 8,some 12] (by kernel_rfl) (by kernel_rfl) (by kernel_rfl) rfl ⟨?_,?_,?_,?_,?_,?_,?_,?_,?_,?_,?_,?_,?_,?_,?_,?_,trivial⟩ ?_
 ·intro ρ W1 hb1 H
  exact zd rfl (H.old 8 _ (by kernel_rfl) rfl) ⟨rfl,Below.refl _ _⟩
 ·intro ρ W1 hb1 H
  exact zq rfl (H.old 7 _ (by kernel_rfl) rfl) (fun W=>zla W _) ⟨rfl,Below.refl _ _⟩
 ·intro ρ W1 hb1 H
  exact zf rfl (H.new 37 1 (by kernel_rfl)) Tryz.underlying3 rfl ((hb1.cell HLS.out).trans (HRS.out.cell 2)) ⟨rfl,Below.refl _ _⟩
 ·intro ρ W1 hb1 H
  have e1:ρ (.tmp 38)=.int .i64 (n:Int):=H.new 38 2 (by kernel_rfl)
  exact zI rfl (H.new 36 0 (by kernel_rfl)) (by simp only [Option.map_some];rw [e1]) rfl rfl (HV3.out W1) ⟨rfl,Below.refl _ _⟩
 ·intro ρ W1 hb1 H
  exact zq rfl (H.old 7 _ (by kernel_rfl) rfl) (fun W=>zk8 W _) ⟨rfl,Below.refl _ _⟩
 ·intro ρ W1 hb1 H
  exact zf rfl (H.new 40 4 (by kernel_rfl)) Tryz.underlying3 rfl ((hb1.cell HLS.out).trans (HRS.out.cell 0)) ⟨rfl,Below.refl _ _⟩
 ·intro ρ W1 hb1 H
  exact zq rfl (H.old 7 _ (by kernel_rfl) rfl) (fun W=>zk9 W _) ⟨rfl,Below.refl _ _⟩
 ·intro ρ W1 hb1 H
  exact zf rfl (H.new 42 6 (by kernel_rfl)) Tryz.underlying3 rfl ((hb1.cell HLS.out).trans (HRS.out.cell 1)) ⟨rfl,Below.refl _ _⟩
 ·intro ρ W1 hb1 H
  have e0:ρ (.tmp 39)=v3:=H.new 39 3 (by kernel_rfl)
  have e1:ρ (.tmp 41)=.int .i64 (m:Int):=H.new 41 5 (by kernel_rfl)
  have e2:ρ (.tmp 43)=.int .i64 (W:Int):=H.new 43 7 (by kernel_rfl)
  refine zj rfl (fun _ _=>by kernel_rfl) (H.func _) (args:=#[v3,.int .i64 (m:Int),.int .i64 (W:Int)]) (by simp [e0,e1,e2]) ?_
  exact (HUN.out W1 (HI3.out.below hb1)).mono fun e w' ⟨u,r,h1,h2,h3,h4⟩=>⟨_,h1,⟨u,r,rfl,zbV hb1.size h2,OwnB.base hb1.size h3⟩,h4⟩
 ·intro ρ W1 hb1 H
  exact zd rfl rfl ⟨H.new 44 8 (by kernel_rfl),Below.refl _ _⟩
 ·intro ρ W1 hb1 H
  have h:∃ u r,ρ (.tmp 35)=.tuple #[u,r,.int .i64 e1]∧W1.ownsRow w3.heap.size 119 1 u us.length (us.map uv)∧OwnB w3 q r W1:=H.new 35 9 (by kernel_rfl)
  obtain ⟨u,r,h1,h2,h3⟩:=h
  exact zi rfl h1 rfl ⟨h2,Below.refl _ _⟩
 ·intro ρ W1 hb1 H
  have h:∃ u r,ρ (.tmp 35)=.tuple #[u,r,.int .i64 e1]∧W1.ownsRow w3.heap.size 119 1 u us.length (us.map uv)∧OwnB w3 q r W1:=H.new 35 9 (by kernel_rfl)
  obtain ⟨u,r,h1,h2,h3⟩:=h
  exact zi rfl h1 rfl ⟨h3,Below.refl _ _⟩
 ·intro ρ W1 hb1 H
  have h:∃ u r,ρ (.tmp 35)=.tuple #[u,r,.int .i64 e1]∧W1.ownsRow w3.heap.size 119 1 u us.length (us.map uv)∧OwnB w3 q r W1:=H.new 35 9 (by kernel_rfl)
  obtain ⟨u,r,h1,h2,h3⟩:=h
  exact zi rfl h1 rfl ⟨rfl,Below.refl _ _⟩
 ·intro ρ W1 hb1 H
  exact ze rfl rfl ⟨H.new 45 10 (by kernel_rfl),Below.refl _ _⟩
 ·intro ρ W1 hb1 H
  exact ze rfl rfl ⟨H.new 46 11 (by kernel_rfl),Below.refl _ _⟩
 ·intro ρ W1 hb1 H
  exact ze rfl (H.new 47 12 (by kernel_rfl)) ⟨rfl,Below.refl _ _⟩
 ·intro vs W1 hb1 hfs
  have f13:W1.ownsRow w3.heap.size 119 1 (vs 13) us.length (us.map uv):=hfs 13 (by decide)
  have f14:OwnB w3 q (vs 14) W1:=hfs 14 (by decide)
  have f15:vs 15=.int .i64 e1:=hfs 15 (by decide)
  clear hfs
  simp only [zr,Nat.zero_add,Nat.reduceAdd]
  generalize vs 0=z0
  generalize vs 1=z1
  generalize vs 2=z2
  generalize vs 3=z3
  generalize vs 4=z4
  generalize vs 5=z5
  generalize vs 6=z6
  generalize vs 7=z7
  generalize vs 8=z8
  generalize vs 9=z9
  generalize vs 10=z10
  generalize vs 11=z11
  generalize vs 12=z12
  generalize vs 13=z13 at f13 ⊢
  generalize vs 14=z14 at f14 ⊢
  simp only [f15,Act.put,List.setIfInBounds_toArray,List.set_cons_succ,List.set_cons_zero]
  clear f15
  have HB4:=Lib.hid (HB3.out.trans (hb1.mono HB3.out.size))
  have hrs4:=HRS.out.below hb1 HRS.out.lt
  have HZ4:=Lib.hid hb1.size
  clear HRS HLS
  have HRS:=Lib.hid hrs4
  have HLS:=Lib.hid HRS.out.lt
  have HU4:=Lib.hid f13
  have HQ4':=Lib.hid f14
  have HQ4:=Lib.hid f14.isB
  clear f13 f14 hb1 hrs4
  by_cases he1:e1=0
  case neg =>
   have hE:Hid (zD l s=([],[],2)):=Lib.hid (by rw [HE1.out,zfM (by rw [HWC.out];exact HUE.out) he1])
   have d3:(e1 != 0)=true:=by simpa using he1
   obtain ⟨Aq,nq,cq,hq0⟩:=(isB_iff.1 HQ4.out).shape
   obtain ⟨Au,cu,hu0,_⟩:=zz HU4.out
   subst hq0 hu0
   go_wp2
   go_ret3
   rw [hE.out]
   exact RetIO.nil _ HB4.out
  case pos =>
  subst he1
  obtain ⟨hul,hql⟩:=zM HUE.out
  have hq6:q.length≤1000000:=by rw [List.length_drop] at hql;omega
  have HUL:=Lib.hid hul
  have hu4:=HU4.out
  rw [hul] at hu4
  obtain ⟨g0,cu,hz13,hg0,hg4,hmc0,hc0m⟩:=zk4 hu4 hm1
  subst hz13
  have HG4:=Lib.hid hg4
  have HG0:=Lib.hid (show w.heap.size≤g0 by have:=HB3.out.size;omega)
  have HOW4:=Lib.hid hu4
  have HT4:=Lib.hid (HT.out.below HB4.out HT.out.lt)
  obtain ⟨V,hV⟩:∃ V:Nat,zh ((g+p:Nat):Int)=(V:Int):=⟨(zh ((g+p:Nat):Int)).toNat,(zkZ (by omega)).2.2.2.2.2.1⟩
  have HPW:=Lib.hid (fun X (h:WTab X)=>zk6 (m:Int) (W:Int) (n:Int) (p:Int) (g:Int) (t:Int) X h ⟨by omega,by omega⟩ ⟨by omega,by omega⟩)
  rw [show zh ((g:Int)+(p:Int))=(V:Int) by rw [←hV];congr 1] at HPW
  have HVC:=Lib.hid hV
  obtain ⟨bs,q2,e2,hv⟩:∃ us r y,zg q (t:Int) (V:Int)=(us,r,y):=⟨_,_,_,rfl⟩
  have HUN2:=Lib.hid (fun u X (h:IsB q u X)=>zeD (t:Int) (V:Int) h hq6)
  rw [hv] at HUN2
  have hlt:=(zba (l:=q) (M:=(t:Int)) (W:=(V:Int))).1
  rw [hv] at hlt
  dsimp only at hlt
  have HLT2:=Lib.hid hlt
  have HVE:=Lib.hid hv
  generalize W1=w4 at *
  clear hlt hv hV hul hql hu4 hg0 hg4 hc0m HU4
  obtain ⟨Aq,nq,cq,hq0⟩:=(isB_iff.1 HQ4.out).shape
  subst hq0
  go_wp2
  refine wp_region_list [.bytes (q),.is (.pointer (some ⟨sb,5,none⟩)),.is (.int .i64 (t:Int)),.is (shv (m:Int) (W:Int) (n:Int) (p:Int) (g:Int) (t:Int)),.is (.int .i64 (V:Int)),.takenO w4 bs q2 e2,.takenO w4 bs q2 e2,.ownU w4 bs,.ownB w4 q2,.is (.int .i64 e2),.ownU w4 bs,.ownB w4 q2,.is (.int .i64 e2)] [some 51,some 52,some 53,some 54,some 55,some 56,some 50,some 57,some 58,some 59,some 13,some 8,some 12] (by kernel_rfl) (by kernel_rfl) (by kernel_rfl) rfl ⟨?_,?_,?_,?_,?_,?_,?_,?_,?_,?_,?_,?_,?_,trivial⟩ ?_
  ·intro ρ W1 hb1 H
   exact zd rfl (H.old 8 _ (by kernel_rfl) rfl) ⟨HQ4.out.below hb1,Below.refl _ _⟩
  ·intro ρ W1 hb1 H
   exact zq rfl (H.old 7 _ (by kernel_rfl) rfl) (fun W=>zlb W _) ⟨rfl,Below.refl _ _⟩
  ·intro ρ W1 hb1 H
   exact zf rfl (H.new 52 1 (by kernel_rfl)) Tryz.underlying3 rfl ((hb1.cell HLS.out).trans (HRS.out.cell 5)) ⟨rfl,Below.refl _ _⟩
  ·intro ρ W1 hb1 H
   exact zL (cs:=shc (m:Int) (W:Int) (n:Int) (p:Int) (g:Int) (t:Int)) rfl (H.old 7 _ (by kernel_rfl) rfl) Tryz.underlying172 rfl zbn (HRS.out.below hb1 HRS.out.lt) ⟨rfl,Below.refl _ _⟩
  ·intro ρ W1 hb1 H
   have e0:ρ (.tmp 54)=shv (m:Int) (W:Int) (n:Int) (p:Int) (g:Int) (t:Int):=H.new 54 3 (by kernel_rfl)
   refine zj rfl (fun _ _=>by kernel_rfl) (H.func _) (args:=#[shv (m:Int) (W:Int) (n:Int) (p:Int) (g:Int) (t:Int)]) (by simp [e0]) ?_
   exact (HPW.out W1 (HT4.out.below hb1 HT4.out.lt)).mono fun e w' ⟨h1,h2⟩=>⟨_,h1,rfl,h2⟩
  ·intro ρ W1 hb1 H
   have e0:IsB (q) (ρ (.tmp 51)) W1:=H.new 51 0 (by kernel_rfl)
   have e1:ρ (.tmp 53)=.int .i64 (t:Int):=H.new 53 2 (by kernel_rfl)
   have e2:ρ (.tmp 55)=.int .i64 (V:Int):=H.new 55 4 (by kernel_rfl)
   refine zj rfl (fun _ _=>by kernel_rfl) (H.func _) (args:=#[ρ (.tmp 51),.int .i64 (t:Int),.int .i64 (V:Int)]) (by simp [e1,e2]) ?_
   exact (HUN2.out _ W1 e0).mono fun e w' ⟨u,r,h1,h2,h3,h4⟩=>⟨_,h1,⟨u,r,rfl,zbV hb1.size h2,OwnB.base hb1.size h3⟩,h4⟩
  ·intro ρ W1 hb1 H
   exact zd rfl rfl ⟨H.new 56 5 (by kernel_rfl),Below.refl _ _⟩
  ·intro ρ W1 hb1 H
   have h:∃ u r,ρ (.tmp 50)=.tuple #[u,r,.int .i64 e2]∧W1.ownsRow w4.heap.size 119 1 u bs.length (bs.map uv)∧OwnB w4 q2 r W1:=H.new 50 6 (by kernel_rfl)
   obtain ⟨u,r,h1,h2,h3⟩:=h
   exact zi rfl h1 rfl ⟨h2,Below.refl _ _⟩
  ·intro ρ W1 hb1 H
   have h:∃ u r,ρ (.tmp 50)=.tuple #[u,r,.int .i64 e2]∧W1.ownsRow w4.heap.size 119 1 u bs.length (bs.map uv)∧OwnB w4 q2 r W1:=H.new 50 6 (by kernel_rfl)
   obtain ⟨u,r,h1,h2,h3⟩:=h
   exact zi rfl h1 rfl ⟨h3,Below.refl _ _⟩
  ·intro ρ W1 hb1 H
   have h:∃ u r,ρ (.tmp 50)=.tuple #[u,r,.int .i64 e2]∧W1.ownsRow w4.heap.size 119 1 u bs.length (bs.map uv)∧OwnB w4 q2 r W1:=H.new 50 6 (by kernel_rfl)
   obtain ⟨u,r,h1,h2,h3⟩:=h
   exact zi rfl h1 rfl ⟨rfl,Below.refl _ _⟩
  ·intro ρ W1 hb1 H
   exact ze rfl rfl ⟨H.new 57 7 (by kernel_rfl),Below.refl _ _⟩
  ·intro ρ W1 hb1 H
   exact ze rfl rfl ⟨H.new 58 8 (by kernel_rfl),Below.refl _ _⟩
  ·intro ρ W1 hb1 H
   exact ze rfl (H.new 59 9 (by kernel_rfl)) ⟨rfl,Below.refl _ _⟩
  ·intro vs W1 hb1 hfs
   have f10:W1.ownsRow w4.heap.size 119 1 (vs 10) bs.length (bs.map uv):=hfs 10 (by decide)
   have f11:OwnB w4 q2 (vs 11) W1:=hfs 11 (by decide)
   have f12:vs 12=.int .i64 e2:=hfs 12 (by decide)
   clear hfs
   simp only [zr,Nat.zero_add,Nat.reduceAdd]
   generalize vs 0=z0
   generalize vs 1=z1
   generalize vs 2=z2
   generalize vs 3=z3
   generalize vs 4=z4
   generalize vs 5=z5
   generalize vs 6=z6
   generalize vs 7=z7
   generalize vs 8=z8
   generalize vs 9=z9
   generalize vs 10=z10 at f10 ⊢
   generalize vs 11=z11 at f11 ⊢
   simp only [f12,Act.put,List.setIfInBounds_toArray,List.set_cons_succ,List.set_cons_zero]
   clear f12
   have HB5:=Lib.hid (HB4.out.trans (hb1.mono HB4.out.size))
   have hrs5:=HRS.out.below hb1 HRS.out.lt
   have hc0:W1.cell? ⟨sb,0,none⟩=some (.int .i64 (m:Int)):=hrs5.cell 0
   have hc1:W1.cell? ⟨sb,1,none⟩=some (.int .i64 (W:Int)):=hrs5.cell 1
   have hc2:W1.cell? ⟨sb,2,none⟩=some (.int .i64 (n:Int)):=hrs5.cell 2
   have hc3:W1.cell? ⟨sb,3,none⟩=some (.int .i64 (p:Int)):=hrs5.cell 3
   have hc4:W1.cell? ⟨sb,4,none⟩=some (.int .i64 (g:Int)):=hrs5.cell 4
   have hc5:W1.cell? ⟨sb,5,none⟩=some (.int .i64 (t:Int)):=hrs5.cell 5
   have HV5:=Lib.hid f10
   have HQ5:=Lib.hid f11
   have HOW5:=Lib.hid (own_below HOW4.out hb1)
   have HGZ:=Lib.hid (show g0 < W1.heap.size from Nat.lt_of_lt_of_le HG4.out hb1.size)
   have HBG:=Lib.hid hb1
   clear f10 f11 hb1 hrs5
   obtain ⟨A6,n6,c6,hq6'⟩:=(isB_iff.1 HQ5.out.isB).shape
   obtain ⟨Av,cv,hv0,_⟩:=zz HV5.out
   subst hq6' hv0
   by_cases he2:e2=0
   case neg =>
    have hE:Hid (zD l s=([],[],2)):=Lib.hid (by rw [HE1.out,zeQ (by rw [HWC.out];exact HUE.out) (by rw [HVC.out];exact HVE.out) he2])
    have d4:(e2 != 0)=true:=by simpa using he2
    go_wp2
    go_ret3
    rw [hE.out]
    exact RetIO.nil _ HB5.out
   case pos =>
   subst he2
   have HVL:=Lib.hid (zM HVE.out).1
   have HPA:=Lib.hid (zrO g0 m w3.heap.size w4.heap.size W cu p g (m:Int) (n:Int) (t:Int) us bs (.slice Av bs.length cv) W1 HOW5.out HGZ.out HV5.out HG4.out HUL.out HLT.out HLT2.out hm1 hm5 (by have:=HVL.out;omega) hW64 hp64 hg8)
   unfold shv shc at HPA
   have HE2:=Lib.hid (show zD l s=pend s BA W g p m us bs q2 by
    rw [HE1.out,zfN (by rw [HWC.out];exact HUE.out) (by rw [HVC.out];exact HVE.out),HWC.out];rfl)
   cases hpa:pall W g p m (0,us) bs with
   | none =>
    have hE:=Lib.hid (show zD l s=([],[],2) by rw [HE2.out,zdI hpa])
    rw [hpa] at HPA
    clear hpa
    go_wp2_with fail
    refine HPA.out.mono ?_
    rintro e w6 ⟨rfl,hg6⟩
    go_wp2
    go_ret3
    rw [hE.out]
    exact RetIO.nil _ (zbR HB5.out hg6 HG0.out HB5.out.size)
   | some st =>
    obtain ⟨a,low⟩:=st
    rw [hpa] at HPA
    have HE3:=Lib.hid (zeq (s:=s) (base:=BA) (q:=q2) hpa)
    clear hpa
    go_wp2_with fail
    refine HPA.out.mono ?_
    rintro e w6 ⟨rfl,ho6,hl6,hl64,hg6⟩
    have HB6:=Lib.hid (zbR HB5.out hg6 HG0.out HB5.out.size)
    have HQ6:Hid (OwnB w q2 (.slice A6 n6 c6) w6):=Lib.hid (OwnB.base HB4.out.size (HQ5.out.elim fun _ h=>⟨_,h.kept hg6 (zjP h HG4.out)⟩))
    have HNF:=Lib.hid (zk7 BA low _ s w6 (zbk (f:=uv) ho6) HBI.out hl64 (by dsimp only at hl6;omega))
    clear ho6 hl6 hl64 hg6 hc0 hc1 hc2 hc3 hc4 hc5
    cases hom:omap (zbl s false BA) low with
    | none =>
     rw [hom] at HNF
     have hE:=Lib.hid (show zD l s=([],[],2) by rw [HE2.out,HE3.out,hom])
     go_wp2_with fail
     refine HNF.out.mono ?_
     rintro e w7 ⟨rfl,hb7⟩
     go_wp2
     go_ret3
     rw [hE.out]
     exact RetIO.nil _ (za HB6.out hb7)
    | some xs =>
     rw [hom] at HNF
     have hE:=Lib.hid (show zD l s=(xs,q2,0) by rw [HE2.out,HE3.out,hom])
     go_wp2_with fail
     refine HNF.out.mono ?_
     rintro e w7 ⟨v7,rfl,hv7,hb7⟩
     have HV7:=Lib.hid hv7
     have HQ7:=Lib.hid (HQ6.out.below hb7)
     have HB7:=Lib.hid (za HB6.out hb7)
     clear hv7 hb7
     go_wp2
     go_ret3
     rw [hE.out]
     exact ⟨_,_,rfl,HV7.out,HQ7.out,HB7.out⟩
theorem zpE {u:Nat} (h:u < 2 ^ 64):(zY (u ||| 1)+7) / 8=zO u:=by
 rw [znK h (by decide),show zY 1=1 from rfl]
 unfold zO
 omega
theorem zlh (u:Nat) (w:World) (h:u < 2 ^ 64) :
  Calls Tryz.prog 197 #[.int .u64 (u:Int)] w fun e w'=>e=.returned (.int .i64 (zO u:Int))∧w=w':=by
 have hor:=zqz (u:Int) (by omega) (by omega)
 rw [Int.toNat_natCast] at hor
 obtain ⟨y,hy⟩:∃ y,y=u ||| 1:=⟨_,rfl⟩
 have hy64:y < 2 ^ 64:=by rw [hy];exact Nat.or_lt_two_pow h (by decide)
 obtain ⟨b,hb⟩:∃ b,b=zY y:=⟨_,rfl⟩
 have hb64:b≤64:=by rw [hb];exact zcQ hy64
 have HE:Hid ((b+7) / 8=zO u):=Lib.hid (by rw [hb,hy];exact zpE h)
 have HB:=Lib.hid (fun W=>zgO y W hy64)
 rw [←hb] at HB
 rw [←hy] at hor
 clear hy hb h hy64
 go_enter Tryz.func197,Tryz.ntmps197
 go_wp2_with (go_at_call 170;refine (HB.out _).mono ?_;rintro e w' ⟨rfl,rfl⟩)
 go_ret
 exact ⟨zu (by have:=HE.out;omega),rfl⟩
def zrW (u n:Nat) (w:World) (i:Value) (wr:World):Prop:=
 ∃ (k:Nat) (o:List UInt8),k≤n∧i=.int .i64 (k:Int)∧o.length=n∧o.drop (n - k)=be k u∧Row wr w.heap.size 5 (o.map bv)∧Below w.heap.size w wr
theorem zrX {o:List UInt8} {n k j u z:Nat} (ho:o.length=n) (hj:n=j+k+1) (hz:z=u / 256 ^ k % 256) (hd:o.drop (n - k)=be k u):(o.set j (UInt8.ofNat z)).drop (n - (k+1))=be (k+1) u:=by
 rw [show n - (k+1)=j by omega,List.drop_eq_getElem_cons (by rw [List.length_set];omega),List.getElem_set_self,List.drop_set_of_lt (by omega),be,←hz,←hd,show n - k=j+1 by omega]
theorem zhU (u:Nat) (w:World) (h:u < 2 ^ 64) :
  Calls Tryz.prog 166 #[.int .u64 (u:Int)] w fun e w'=>∃ v,e=.returned v∧IsB (be (zO u) u) v w'∧Below w.heap.size w w':=by
 obtain ⟨n,hn⟩:∃ n,n=zO u:=⟨_,rfl⟩
 have hn8:n≤8:=by rw [hn];exact zfr h
 have HS:=Lib.hid (fun W=>zlh u W h)
 rw [←hn] at HS ⊢
 have HU:=Lib.hid h
 clear hn h
 go_enter Tryz.func166,Tryz.ntmps166
 go_wp2_with (first | (go_at_call 197;refine (HS.out _).mono ?_;rintro e w' ⟨rfl,rfl⟩) | (refine zn elemB rfl _ _ rfl _ _ _ _ n w w.heap.size rfl rfl rfl rfl (by omega) (by omega) (Below.refl _ _) (Nat.le_refl _) ?_))
 intro w1 hr1 hb1
 have hst:zrW u n w (.int .i64 0) w1:=⟨0,List.replicate n 0,by omega,rfl,by simp,by simp [be],by simpa using hr1,hb1⟩
 clear hr1 hb1
 go_wp2
 go_loopw [10] (zrW u n w) (fun i _=>n - (intOf i).toNat)
 case atStart=>exact hst
 case round =>
  obtain ⟨k,o,hk,rfl,ho,hok,hr,hbr⟩:=hrel
  have HO:=Lib.hid ho
  have HOK:=Lib.hid hok
  clear ho hok hst
  by_cases hlt:k < n
  ·have hlt2:(k:Int) < (n:Int):=by omega
   obtain ⟨j,hj⟩:∃ j,n=j+k+1:=⟨n - 1 - k,by omega⟩
   have hji:(n:Int) - 1 - (k:Int)=(j:Int):=by omega
   have hjn:(j:Int) < (n:Int):=by omega
   have hjo:j < o.length:=by have:=HO.out;omega
   obtain ⟨d,hd⟩:∃ d,d=8*k:=⟨_,rfl⟩
   have hdi:8*(k:Int)=(d:Int):=by omega
   have hd64:d≤64:=by omega
   obtain ⟨y,hy⟩:∃ y,y=u / 256 ^ k:=⟨_,rfl⟩
   have hyi:(u:Int) / 2 ^ d=(y:Int):=by
    rw [hy,p256,←hd];simp
   obtain ⟨z,hz⟩:∃ z,z=y % 256:=⟨_,rfl⟩
   have hz256:z < 256:=by omega
   have hzw:IntKind.u8.wrap (y:Int)=(z:Int):=by rw [IntKind.wrap_u8];omega
   have hzu:z=u / 256 ^ k % 256:=by rw [hz,hy]
   have HN:=Lib.hid (zrX HO.out hj hzu HOK.out)
   have hgr:=hr.lt
   have hcx:wr.cell? ⟨w.heap.size,j,none⟩=some (bv o[j]):=by rw [hr.cell,List.getElem?_map,List.getElem?_eq_getElem hjo];rfl
   have hfx:=hr.free j
   have hr2:=hr.set_ j (bv (UInt8.ofNat z))
   rw [←List.map_set,←zem hz256] at hr2
   have HR2:=Lib.hid hr2
   have HBW:=Lib.hid hbr
   clear hr2 hr hbr hj hd hy hz hzu
   go_wp2
   go_roundw
   case rel =>
    exact ⟨k+1,o.set j (UInt8.ofNat z),by omega,by go_num,by rw [List.length_set];exact HO.out,HN.out,HR2.out,HBW.out.setCell (Nat.le_refl _) _⟩
   case measure=>simp [intOf];omega
  ·obtain rfl:k=n:=by omega
   have hlt2:¬(k:Int) < (k:Int):=by omega
   have hT:o=be k u:=by
    have h1:=HOK.out
    rw [Nat.sub_self,List.drop_zero] at h1
    exact h1
   have HT:=Lib.hid hT
   have HR:=Lib.hid hr
   have HBR:=Lib.hid hbr
   clear hT hr hbr
   go_wp2
   go_ret
   refine ⟨_,rfl,?_,HBR.out⟩
   rw [←HT.out]
   exact zbN HR.out HO.out (by omega)
theorem zrY (T:Nat) (l:List UInt8) (v:Value) (w:World) (hv:IsB l v w) (h3:3≤T) (h10:T≤10) (h1:1≤l.length) (h8:l.length≤8) :
  Calls Tryz.prog 165 #[.int .i64 (T:Int),v] w (RetOwn w (UInt8.ofNat (8*(l.length - 1)+(T - 3))::l)):=by
 obtain ⟨A,c,rfl,hA,hnc,hcm,hl⟩:=hv
 obtain ⟨n,hn⟩:∃ n,n=l.length:=⟨_,rfl⟩
 rw [←hn] at hA hnc h1 h8 ⊢
 obtain ⟨c0,hc0⟩:∃ c0,c0=8*(n - 1)+(T - 3):=⟨_,rfl⟩
 have hc64:c0 < 64:=by omega
 rw [←hc0]
 have hci:8*((n:Int) - 1)+(T:Int) - 3=(c0:Int):=by omega
 have hci2:8*((n:Int) - 1)+(T:Int)=(c0:Int)+3:=by omega
 have hc256:c0 < 256:=by omega
 have hown:=zhs w 5 (.int .u8 (c0:Int)) (Nat.le_refl _)
 rw [zem hc256] at hown
 have hb1:Below w.heap.size w (w.alloc (.cells #[bv (UInt8.ofNat c0)] 5)):=(Below.refl _ _).alloc (Nat.le_refl _) _
 have hz1:=hb1.size
 have hl1:=hl.below hb1
 have HN:=Lib.hid hn
 clear hn hc0 hl hcm
 go_enter Tryz.func165,Tryz.ntmps165
 go_wp2_with (at_builtin;rw [zem hc256];refine zk elemB rfl _ _ rfl w.heap.size _ _ _ _ _ _ (l.map bv) w rfl rfl hA (by rw [List.length_map];exact HN.out.symm) hl1 (zbv l) hown hb1 hz1 (by omega) (by omega) ?_)
 intro v2 w2 hown2 hb2 _ _
 go_wp2
 go_ret
 refine ⟨v2,rfl,?_,hb2⟩
 rw [List.length_cons,←HN.out,Nat.add_comm n 1]
 exact hown2
theorem zoi (u T:Nat) (v:Value) (w:World) (hu:u < 2 ^ 64) (hv:IsB (be (zO u) u) v w) (h3:3≤T) (h10:T≤10) :
  Calls Tryz.prog 165 #[.int .i64 (T:Int),v] w (RetOwn w (elay u T)):=by
 have h:=zrY T _ v w hv h3 h10 (by rw [zcJ];exact zdy u) (by rw [zcJ];exact zfr hu)
 rw [zcJ] at h
 exact h
theorem RetOwn.e {w w':World} {l:List UInt8} {v:Value} (h:w'.ownsRow w.heap.size 5 1 v l.length (l.map bv)) (hb:Below w.heap.size w w'):RetE w (l,0) (.returned (.tuple #[v,.int .i64 0])) w':=
 ⟨v,rfl,zbw h,hb⟩
theorem ztT (x t:Int) (s:Bool) (w:World) (h0 : -9223372036854775808≤x) (h1:x≤9223372036854775807) :
  Calls Tryz.prog 132 #[.int .i64 x,.int .i64 t,.bool s] w (RetE w (eput x t s)):=by
 by_cases ht:t < 3
 ·have hE:=Lib.hid (zeE (x:=x) (s:=s) (.inl ht))
  have d1:decide (t < 3)=true:=decide_eq_true ht
  go_enter Tryz.func132,Tryz.ntmps132
  go_wp2
  go_ret2
  rw [hE.out]
  exact RetE.nil _ (Below.refl _ _)
 ·have d1:decide (t < 3)=false:=decide_eq_false ht
  by_cases ht2:10 < t
  ·have hE:=Lib.hid (zeE (x:=x) (s:=s) (.inr ht2))
   have d2:decide (10 < t)=true:=decide_eq_true ht2
   go_enter Tryz.func132,Tryz.ntmps132
   go_wp2
   go_ret2
   rw [hE.out]
   exact RetE.nil _ (Below.refl _ _)
  ·have d2:decide (10 < t)=false:=decide_eq_false ht2
   obtain ⟨T,rfl⟩:=Int.eq_ofNat_of_zero_le (show 0≤t by omega)
   have h3:3≤T:=by omega
   have h10:T≤10:=by omega
   cases s with
   | false =>
    by_cases hx:x < 0
    ·have hE:=Lib.hid (zn0 (x:=x) (s:=false) (t:=(T:Int)) (by unfold zx;rw [if_neg (by simp),if_neg (by omega)]))
     have d3:decide (x < 0)=true:=decide_eq_true hx
     go_enter Tryz.func132,Tryz.ntmps132
     go_wp2
     go_ret2
     rw [hE.out]
     exact RetE.nil _ (Below.refl _ _)
    ·have d3:decide (x < 0)=false:=decide_eq_false hx
     obtain ⟨u,rfl⟩:=Int.eq_ofNat_of_zero_le (show 0≤x by omega)
     have hw:IntKind.u64.wrap (u:Int)=(u:Int):=by rw [IntKind.wrap_u64];omega
     have hu64:u < 2 ^ 64:=by omega
     have hE:=Lib.hid (zjE (x:=(u:Int)) (s:=false) h3 h10 (by unfold zx;rw [if_neg (by simp),if_pos (by omega),Int.toNat_natCast]))
     have HD:=Lib.hid (zhU u w hu64)
     have HL:=Lib.hid (fun v W hv=>zoi u T v W hu64 hv h3 h10)
     clear h0 h1 hx hu64
     go_enter Tryz.func132,Tryz.ntmps132
     go_wp2_with fail
     refine HD.out.mono ?_
     rintro e w2 ⟨v2,rfl,hv2,hb2⟩
     have HV2:=Lib.hid hv2
     have HB2:=Lib.hid hb2
     clear hv2 hb2
     go_wp2_with (go_at_call 165;refine (HL.out _ _ HV2.out).mono ?_)
     rintro e w3 ⟨v3,rfl,hv3,hb3⟩
     have HV3:=Lib.hid (zbw hv3)
     have HB3:=Lib.hid (za HB2.out hb3)
     clear hv3 hb3
     go_wp2
     go_ret2
     rw [hE.out]
     exact ⟨_,rfl,HV3.out,HB3.out⟩
   | true =>
    have hz:=zel h0 h1
    obtain ⟨u,hu⟩:∃ u,u=(vzig x).toNat:=⟨_,rfl⟩
    have hui:vzig x=(u:Int):=by omega
    have hu64:u < 2 ^ 64:=by omega
    have hE:=Lib.hid (zjE (x:=x) (s:=true) h3 h10 (by unfold zx;rw [if_pos rfl,←hu]))
    have HZ:=Lib.hid (zmu x w h0 h1)
    rw [hui] at HZ
    have HD:=Lib.hid (zhU u w hu64)
    have HL:=Lib.hid (fun v W hv=>zoi u T v W hu64 hv h3 h10)
    clear h0 h1 hz hu hui hu64
    rcases Bool.eq_false_or_eq_true (decide (x < 0)) with d3 | d3
    all_goals
     go_enter Tryz.func132,Tryz.ntmps132
     go_wp2_with (first | (go_at_call 164;refine HZ.out.mono ?_;rintro e w' ⟨rfl,rfl⟩) | (go_at_call 166;refine HD.out.mono ?_))
     rintro e w2 ⟨v2,rfl,hv2,hb2⟩
     have HV2:=Lib.hid hv2
     have HB2:=Lib.hid hb2
     clear hv2 hb2
     go_wp2_with (go_at_call 165;refine (HL.out _ _ HV2.out).mono ?_)
     rintro e w3 ⟨v3,rfl,hv3,hb3⟩
     have HV3:=Lib.hid (zbw hv3)
     have HB3:=Lib.hid (za HB2.out hb3)
     clear hv3 hb3
     go_wp2
     go_ret2
     rw [hE.out]
     exact ⟨_,rfl,HV3.out,HB3.out⟩
theorem zpF (A:Option Addr) (c:Nat) (w:World):Calls Tryz.prog 167 #[.slice A 0 c] w fun e w'=>e=.returned (.tuple #[.int .i64 0,.int .i64 0,.bool false])∧w=w':=by
 go_enter Tryz.func167,Tryz.ntmps167
 go_wp2
 go_ret3
 exact ⟨rfl,rfl⟩
theorem zrZ (ad:Addr) (n c B K T:Nat) (ok:Bool) (w:World) (hc0:w.cell? ad=some (.int .u8 (B:Int))) (hB:B < 256) (hn0:0 < n) (hn:n≤1000000) (hK:K=B / 8+1) (hT:T=B % 8+3) (hok:ok=decide (K≤8∧K < n)) :
  Calls Tryz.prog 167 #[.slice (some ad) n c] w fun e w'=>e=.returned (.tuple #[.int .i64 (K:Int),.int .i64 (T:Int),.bool ok])∧Below w.heap.size w w':=by
 have hKi:(B:Int) / 8+1=(K:Int):=by omega
 have hTi:(B:Int) % 8+3=(T:Int):=by omega
 have hni:((n:Int) == 0)=false:=by simp;omega
 have hn0i:(0:Int) < (n:Int):=by omega
 have hK32:K≤32:=by omega
 have hT10:T≤10:=by omega
 by_cases h8:K≤8
 ·have d8:decide ((K:Int)≤8)=true:=decide_eq_true (by omega)
  by_cases hl:K < n
  ·have dl:decide ((K:Int) < (n:Int))=true:=decide_eq_true (by omega)
   rw [decide_eq_true (show K≤8∧K < n from ⟨h8,hl⟩)] at hok
   subst hok
   clear hK hT hn
   go_enter Tryz.func167,Tryz.ntmps167
   go_wp2
   go_quiet (fail)
   go_wp2
   go_ret3
   exact ⟨rfl,below_drewN (Below.refl _ _) nq⟩
  ·have dl:decide ((K:Int) < (n:Int))=false:=decide_eq_false (by omega)
   rw [decide_eq_false (show ¬(K≤8∧K < n) by omega)] at hok
   subst hok
   clear hK hT hn
   go_enter Tryz.func167,Tryz.ntmps167
   go_wp2
   go_quiet (fail)
   go_wp2
   go_ret3
   exact ⟨rfl,below_drewN (Below.refl _ _) nq⟩
 ·have d8:decide ((K:Int)≤8)=false:=decide_eq_false (by omega)
  rw [decide_eq_false (show ¬(K≤8∧K < n) by omega)] at hok
  subst hok
  clear hK hT hn
  go_enter Tryz.func167,Tryz.ntmps167
  go_wp2
  go_quiet (fail)
  go_wp2
  go_ret3
  exact ⟨rfl,below_drewN (Below.refl _ _) nq⟩
def enum (l:List UInt8) (s:Bool):Option Int:=if zO (bval l)=l.length then zbf (bval l) s else none
def zu4 (l:List UInt8) (n:Nat) (v i:Value):Prop:=∃ (k:Nat) (U:Int),k≤n∧i=.int .i64 (k:Int)∧v=.int .u64 U∧U=((bval (l.take k):Nat):Int)
theorem zm1 (s:Bool) (l:List UInt8) (v:Value) (w:World) (hv:IsB l v w) (h8:l.length≤8) :
  Calls Tryz.prog 168 #[.bool s,v] w fun e w'=>e=.returned (.tuple #[.int .i64 ((enum l s).getD 0),.bool (enum l s).isSome])∧w=w':=by
 obtain ⟨A,c,rfl,hA,hnc,hcm,hl⟩:=hv
 obtain ⟨n,hn⟩:∃ n,n=l.length:=⟨_,rfl⟩
 rw [←hn] at hA hnc h8 ⊢
 have HN:=Lib.hid hn
 have HLi:=Lib.hid hl
 clear hn hl hA hnc hcm
 go_enter Tryz.func168,Tryz.ntmps168
 go_wp2
 go_loop [6,11] (zu4 l n) (fun _ i=>n - (intOf i).toNat)
 case atStart=>exact ⟨0,0,by omega,rfl,rfl,by simp [bval]⟩
 case round =>
  obtain ⟨k,U,hk,rfl,rfl,hU⟩:=hrel
  have HU:=Lib.hid hU
  by_cases hlt:k < n
  ·have hlt2:(k:Int) < (n:Int):=by omega
   have hkl:k < l.length:=by have:=HN.out;omega
   obtain ⟨ad,rfl,_,hcell⟩:=HLi.out.cell (k:=k) (by rw [List.length_map];exact hkl)
   obtain ⟨y,hy⟩:∃ y:Nat,y=l[k].toNat:=⟨_,rfl⟩
   have hy8:y < 256:=by rw [hy];exact UInt8.toNat_lt _
   have hcy:w.cell? (ad.add k)=some (.int .u8 (y:Int)):=by rw [hcell,List.getElem_map,hy];rfl
   obtain ⟨X,hX⟩:∃ X,X=bval (l.take k):=⟨_,rfl⟩
   rw [←hX] at hU
   subst hU
   have hX7:(X:Int) < 72057594037927936:=by rw [hX];exact ziL _ (by omega)
   obtain ⟨Y,hY⟩:∃ Y,Y=X*2 ^ 8:=⟨_,rfl⟩
   have hsh:IntKind.u64.wrap ((X:Int)*2 ^ 8)=(Y:Int):=by rw [IntKind.wrap_u64];omega
   have hsh2:IntKind.u64.wrap ((X:Int)*256)=(Y:Int):=by rw [IntKind.wrap_u64];omega
   have hyw:IntKind.u64.wrap (y:Int)=(y:Int):=by rw [IntKind.wrap_u64];omega
   have hor:=zmm 8 Y y (by rw [hY];exact Nat.mul_mod_left _ _) (by omega) (by omega)
   obtain ⟨Z,hZ⟩:∃ Z,Z=Y+y:=⟨_,rfl⟩
   rw [←hZ] at hor
   have HZ:Hid (Z=bval (l.take (k+1))):=Lib.hid (by rw [hZ,hY,zq2 _ _ hkl,←hX,←hy];omega)
   clear hcell hy hX hX7 hY hZ HU
   go_wp2
   go_round
   case rel=>exact ⟨k+1,Z,by omega,by go_num,rfl,by rw [HZ.out]⟩
   case measure=>simp [intOf];omega
  ·obtain rfl:k=n:=by omega
   have hlt2:¬(k:Int) < (k:Int):=by omega
   obtain ⟨u,hu⟩:∃ u,u=bval l:=⟨_,rfl⟩
   have hUu:U=(u:Int):=by rw [hU,List.take_of_length_le (by have:=HN.out;omega),hu]
   have hu64:u < 2 ^ 64:=by
    rw [hu,←List.take_length (l:=l)]
    exact ziM _ (by have:=HN.out;omega)
   obtain ⟨m,hm⟩:∃ m,m=zO u:=⟨_,rfl⟩
   have HS:=Lib.hid (fun W=>zlh u W hu64)
   rw [←hm] at HS
   by_cases hs:m=k
   ·have hsi:((k:Int) != (m:Int))=false:=by rw [hs];simp
    have HE:=Lib.hid (show enum l s=zbf u s by unfold enum;rw [←hu,←hm,←HN.out,if_pos hs])
    cases s with
    | true =>
     have HZ:=Lib.hid (fun W=>zmv (u:Int) W (by omega) (by omega))
     have HM:=Lib.hid (ziH u)
     subst hUu
     clear hu hu64 hm hU HU
     go_wp2_with (first | (go_at_call 197;refine (HS.out _).mono ?_;rintro e w' ⟨rfl,rfl⟩) | (go_at_call 176;refine (HZ.out _).mono ?_;rintro e w' ⟨rfl,rfl⟩))
     go_ret2
     rw [HE.out,HM.out]
     exact ⟨rfl,rfl⟩
    | false =>
     by_cases hx:U < 9223372036854775808
     ·have HM:=Lib.hid (zkz (by omega) hx)
      have hmx:decide ((9223372036854775807:Int) < U)=false:=decide_eq_false (by omega)
      have hU0:0≤U:=by omega
      have hUw:IntKind.i64.wrap U=U:=by rw [IntKind.wrap_i64];omega
      rw [←hUu] at HS
      have HT:Hid (U.toNat=u):=Lib.hid (by omega)
      clear hu hu64 hm hU HU hUu
      go_wp2_with (go_at_call 197;refine (HS.out _).mono ?_;rintro e w' ⟨rfl,rfl⟩)
      go_ret2
      rw [HE.out,←HT.out,HM.out]
      exact ⟨rfl,rfl⟩
     ·have HM:=Lib.hid (ziI (U:=U) (by omega))
      have hmx:decide ((9223372036854775807:Int) < U)=true:=decide_eq_true (by omega)
      rw [←hUu] at HS
      have HT:Hid (U.toNat=u):=Lib.hid (by omega)
      clear hu hu64 hm hU HU hUu hx
      go_wp2_with (go_at_call 197;refine (HS.out _).mono ?_;rintro e w' ⟨rfl,rfl⟩)
      go_ret2
      rw [HE.out,←HT.out,HM.out]
      exact ⟨rfl,rfl⟩
   ·have hsi:((k:Int) != (m:Int))=true:=by simp;omega
    have HE:=Lib.hid (show enum l s=none by unfold enum;rw [←hu,←hm,←HN.out,if_neg hs])
    subst hUu
    clear hu hu64 hm hU HU
    go_wp2_with (go_at_call 197;refine (HS.out _).mono ?_;rintro e w' ⟨rfl,rfl⟩)
    go_ret2
    rw [HE.out]
    exact ⟨rfl,rfl⟩
theorem zr0 (l:List UInt8) (v:Value) (s:Bool) (w:World) (hv:IsB l v w) (hb:l.length≤1000000) :
  Calls Tryz.prog 133 #[v,.bool s] w (RetT7O w (zG l s)):=by
 obtain ⟨A,c,rfl,hA,hnc,hcm,hl⟩:=hv
 obtain ⟨n,hn⟩:∃ n,n=l.length:=⟨_,rfl⟩
 rw [←hn] at hA hnc hb ⊢
 have hci:(c:Int)≤9223372036854775807:=by unfold maxLen at hcm;omega
 have HN:=Lib.hid hn
 by_cases h0:n=0
 ·subst h0
  obtain rfl:l=[]:=List.eq_nil_of_length_eq_zero hn.symm
  have hE:=Lib.hid (zkA s)
  clear hn hl hcm hA hnc
  go_enter Tryz.func133,Tryz.ntmps133
  go_wp2_with (go_at_call 167;refine (zpF _ _ _).mono ?_;rintro e w' ⟨rfl,rfl⟩)
  try simp only [Exit.inBlock,Exit.then]
  refine bodyPost_ret (zW rfl _ _ _) rfl ?_
  rw [hE.out]
  exact RetT7O.no (Below.refl _ _)
 ·have h0l:0 < l.length:=by omega
  obtain ⟨ad,rfl,hadlt,hcell⟩:=hl.cell (k:=0) (by rw [List.length_map];exact h0l)
  obtain ⟨B,hB⟩:∃ B:Nat,B=l[0].toNat:=⟨_,rfl⟩
  have hB8:B < 256:=by rw [hB];exact UInt8.toNat_lt _
  have hc0:w.cell? ad=some (.int .u8 (B:Int)):=by
   have h1:ad.add 0=ad:=by unfold Addr.add;split <;> simp_all
   rw [←h1,hcell,List.getElem_map,hB];rfl
  have HB:=Lib.hid hB
  obtain ⟨K,hK⟩:∃ K,K=B / 8+1:=⟨_,rfl⟩
  obtain ⟨T,hT⟩:∃ T,T=B % 8+3:=⟨_,rfl⟩
  obtain ⟨ok,hok⟩:∃ ok,ok=decide (K≤8∧K < n):=⟨_,rfl⟩
  have HLk:=Lib.hid (zrZ ad n c B K T ok w hc0 hB8 (by omega) hb hK hT hok)
  have HK:=Lib.hid (show K=l[0].toNat / 8+1 by rw [←HB.out];exact hK)
  have hT10:T≤10:=by omega
  have hK32:K≤32:=by omega
  cases ok with
  | false =>
   have hE:Hid (zG l s=(0,0,[],2)):=by
    by_cases h64:64≤B
    ·exact Lib.hid (zkB h0l (by rw [←HB.out];exact h64))
    ·exact Lib.hid (zhu h0l HK.out (by have:=of_decide_eq_false hok.symm;omega))
   clear hn hl hcm hA hnc hok hK hT hB hcell hc0
   go_enter Tryz.func133,Tryz.ntmps133
   go_wp2_with (go_at_call 167;refine HLk.out.mono ?_)
   rintro e w2 ⟨rfl,hb2⟩
   have HB2:=Lib.hid hb2
   clear hb2
   go_wp2
   try simp only [Exit.inBlock,Exit.then]
   refine bodyPost_ret (zW rfl _ _ _) rfl ?_
   rw [hE.out]
   exact RetT7O.no HB2.out
  | true =>
   obtain ⟨hK8,hKn⟩:=of_decide_eq_true hok.symm
   have h64:B < 64:=by omega
   obtain ⟨j,hj⟩:∃ j,j=K+1:=⟨_,rfl⟩
   have hji:1+(K:Int)=(j:Int):=by omega
   obtain ⟨d,hd⟩:∃ d,d=(l.drop 1).take K:=⟨_,rfl⟩
   have hdl:d.length=K:=by rw [hd,List.length_take,List.length_drop,←hn];omega
   have HP:=Lib.hid fun (W:World) (h:Below w.heap.size w W)=>zhc (P:=Tryz.prog) elemB (i:=1) (k:=j) (by omega) (by omega) hnc hcm hn.symm (hl.below h) hA
   rw [show j - 1=K by omega,show ((1:Nat):Int)=1 from rfl,←hji,←hd] at HP
   have HF:=Lib.hid fun (W:World) (h:Below w.heap.size w W)=>zbm (P:=Tryz.prog) elemB (k:=j) (by omega) hnc hcm hn.symm (hl.below h) hA
   rw [←hji] at HF
   have HNm:=Lib.hid (fun v W (hv:IsB d v W)=>zm1 s d v W hv (by omega))
   obtain ⟨X,hX⟩:∃ X,X=(enum d s).getD 0:=⟨_,rfl⟩
   obtain ⟨ok2,hok2⟩:∃ ok,ok=(enum d s).isSome:=⟨_,rfl⟩
   rw [←hX,←hok2] at HNm
   have HT:=Lib.hid (show T=l[0].toNat % 8+3 by rw [←HB.out];exact hT)
   have HLen:Hid ((l.drop j).length≤1000000):=Lib.hid (by rw [List.length_drop];omega)
   clear hji
   cases ok2 with
   | false =>
    have hE:Hid (zG l s=(0,0,[],2)):=Lib.hid (zf2 (u:=bval d) h0l HK.out (by rw [hd]) (by
     unfold enum at hok2
     split at hok2
     ·exact .inl (by simpa using hok2.symm)
     ·rename_i h;exact .inr (by rwa [hdl] at h)))
    clear hn hl hcm hA hnc hok hK hT hB hcell hc0 hX hok2 hd hdl
    go_enter Tryz.func133,Tryz.ntmps133
    go_wp2_with (go_at_call 167;refine HLk.out.mono ?_)
    rintro e w2 ⟨rfl,hb2⟩
    have HB2:=Lib.hid hb2
    obtain ⟨v3,hv3,hI3⟩:=HP.out w2 hb2
    have HI3:=Lib.hid hI3
    clear hb2 hI3
    go_wp2_with (first | (go_at_call 168;refine (HNm.out _ _ HI3.out).mono ?_;rintro e w' ⟨rfl,rfl⟩) | (refine zfw rfl _ _ _ _ rfl v3 (hv3 _) ?_))
    try simp only [Exit.inBlock,Exit.then]
    refine bodyPost_ret (zW rfl _ _ _) rfl ?_
    rw [hE.out]
    exact RetT7O.no HB2.out
   | true =>
    have hE:Hid (zG l s=(X,(T:Int),l.drop j,0)):=Lib.hid (by
     have h1:zO (bval d)=K∧zbf (bval d) s=some X:=by
      unfold enum at hok2 hX
      split at hok2
      ·rename_i h
       rw [if_pos h] at hX
       refine ⟨by rw [h,hdl],?_⟩
       cases he:zbf (bval d) s with
       | none=>rw [he] at hok2;simp at hok2
       | some y=>rw [he] at hX;simp at hX;rw [hX]
      ·simp at hok2
     rw [ziK (u:=bval d) h0l HK.out (by rw [←HB.out];exact h64) (by omega) (by rw [hd]) h1.2 h1.1,HT.out,hj])
    clear hn hl hcm hA hnc hok hK hT hB hcell hc0 hX hok2 hd hdl
    go_enter Tryz.func133,Tryz.ntmps133
    go_wp2_with (go_at_call 167;refine HLk.out.mono ?_)
    rintro e w2 ⟨rfl,hb2⟩
    have HB2:=Lib.hid hb2
    obtain ⟨v3,hv3,hI3⟩:=HP.out w2 hb2
    have HI3:=Lib.hid hI3
    obtain ⟨v4,hv4,hI4⟩:=HF.out w2 hb2
    have HI4:=Lib.hid hI4
    obtain ⟨A4,c4,hs4,hA4,_,_,hl4⟩:=hI4
    obtain ⟨n4,hn4⟩:∃ n,n=(l.drop j).length:=⟨_,rfl⟩
    rw [←hn4] at hs4 hA4
    subst hs4
    have hn46:n4≤1000000:=by rw [hn4];exact HLen.out
    have HN4:Hid (((l.drop j).map bv).length=n4):=Lib.hid (by rw [List.length_map,hn4])
    clear hb2 hI3 hn4 hj
    go_wp2_with (first | (go_at_call 168;refine (HNm.out _ _ HI3.out).mono ?_;rintro e w' ⟨rfl,rfl⟩) | (refine zfw rfl _ _ _ _ rfl v3 (hv3 _) ?_) | (refine zbb rfl _ _ _ rfl _ (hv4 _) ?_) | (at_builtin;refine zk elemB rfl _ _ rfl w2.heap.size _ _ _ _ _ _ ((l.drop j).map bv) w2 rfl rfl hA4 HN4.out hl4 (zbv _) (World.ownsRow_nil _ _ _ _) (Below.refl _ _) (Nat.le_refl _) (by omega) (by omega) ?_))
    intro v5 w5 hown5 hb5 _ _
    rw [←List.map_drop] at hown5
    have HV5:Hid (OwnB w (l.drop j) v5 w5):=Lib.hid (OwnB.base HB2.out.size ⟨_,hown5⟩)
    have HB5:=Lib.hid (za HB2.out hb5)
    clear hown5 hb5
    go_wp2
    try simp only [Exit.inBlock,Exit.then]
    refine bodyPost_ret (zW rfl _ _ _) rfl ?_
    rw [hE.out]
    exact ⟨_,rfl,HV5.out,HB5.out⟩
end Go.Proofs.YtlibofmpnlfelaaGreatDoor
namespace Go.Proofs.YtlibofmpnlfelaaGreatDoor
def zb3 (l:List Int):Nat:=match l with | []=>0 | x::r=>1+(r.takeWhile (· == x)).length
theorem zcz (x:Int) (r:List Int):zb3 (x::r)=1+(r.takeWhile (· == x)).length:=rfl
theorem zfO (l:List Int):zb3 l≤l.length:=by
 cases l with
 | nil=>exact Nat.le_refl _
 | cons x r =>
  have:=(List.takeWhile_prefix (l:=r) (· == x)).length_le
  rw [zcz,List.length_cons]
  omega
theorem zr1 {l:List Int} (h:1≤l.length):1≤zb3 l:=by
 cases l with
 | nil=>simp at h
 | cons x r=>rw [zcz];omega
theorem zjS {α:Type} {p:α→Bool} {l:List α} {k:Nat} (h:k≤(l.takeWhile p).length):∀ x∈l.take k,p x=true:=by
 induction l generalizing k with
 | nil=>simp
 | cons y l ih =>
  cases k with
  | zero=>simp
  | succ k =>
   rw [List.takeWhile_cons] at h
   by_cases hy:p y=true
   ·rw [if_pos hy,List.length_cons] at h
    intro x hx
    rw [List.take_succ_cons] at hx
    rcases List.mem_cons.1 hx with rfl | hx
    ·exact hy
    ·exact ih (by omega) x hx
   ·rw [if_neg hy] at h;simp at h
theorem zja {x:Int} {r:List Int} {k:Nat} (h:k≤zb3 (x::r)):(x::r).take k=List.replicate k x:=by
 cases k with
 | zero=>rfl
 | succ k =>
  rw [List.take_succ_cons,List.replicate_succ]
  congr 1
  have h1:k≤(r.takeWhile (· == x)).length:=by rw [zcz] at h;omega
  refine List.eq_replicate_iff.2 ⟨?_,fun y hy=>by simpa using zjS h1 y hy⟩
  have:=(List.takeWhile_prefix (l:=r) (· == x)).length_le
  rw [List.length_take]
  omega
theorem zr2 {l:List Int} {k:Nat} (hk:k < l.length) (h:k≤zb3 l):k < zb3 l↔l[k]=l[0]:=by
 cases l with
 | nil=>simp at hk
 | cons x r =>
  cases k with
  | zero=>simp;exact zr1 (by simp)
  | succ k =>
   have h1:k≤(r.takeWhile (· == x)).length:=by rw [zcz] at h;omega
   rw [List.getElem_cons_succ,List.getElem_cons_zero]
   rw [List.length_cons] at hk
   have key:∀ (r:List Int) (k:Nat) (hk:k < r.length),k≤(r.takeWhile (· == x)).length→(k < (r.takeWhile (· == x)).length↔r[k]=x):=by
    intro r
    induction r with
    | nil=>intro k hk;simp at hk
    | cons y r ih =>
     intro k hk h
     rw [List.takeWhile_cons] at h ⊢
     by_cases hy:(y == x)=true
     ·rw [if_pos hy,List.length_cons] at h ⊢
      cases k with
      | zero=>simp;simpa using hy
      | succ k =>
       rw [List.getElem_cons_succ,←ih k (by rw [List.length_cons] at hk;omega) (by omega)]
       omega
     ·rw [if_neg hy] at h ⊢
      simp at h
      subst h
      simp
      simpa using hy
   rw [←key r k (by omega) h1,zcz]
   omega
def zbd (a:List UInt8) (p:List UInt8 × Int):List UInt8:=if p.2=0∧(a.length=0∨p.1.length < a.length) then p.1 else a
def zhV (l:List Int) (s:Bool):List (List UInt8 × Int):=(if zb3 l=l.length then [eput (l.headD 0) l.length s] else []) ++ [zdY l s,zeo l s]
def zcP (l:List Int) (s:Bool):List (List UInt8 × Int):=zhV l s ++ (List.range 31).map fun c:Nat=>zcN l (wof (c:Int)) s
def zc9 (l:List Int) (s:Bool):List UInt8 × Int:=if zy l s=none∨l.length < 1∨512 < l.length then ([],1) else ((zcP l s).foldl zbd [],0)
def zli (l:List Int) (n:Nat):Bool:=decide (5≤zb3 (l.drop n))
def ucut (l:List Int):Nat:=if 3≤zb3 l then min (zb3 l) 512 else ((List.range' 1 (min l.length 512 - 1)).find? (zli l)).getD (min l.length 512)
theorem zr3 {l:List Int} (h:1≤l.length):1≤ucut l∧ucut l≤l.length∧ucut l≤512:=by
 have h1:=zfO l
 unfold ucut
 split
 ·omega
 ·cases hf:(List.range' 1 (min l.length 512 - 1)).find? (zli l) with
  | none=>rw [Option.getD_none];omega
  | some n =>
   have:=List.mem_range'_1.1 (List.mem_of_find?_eq_some hf)
   rw [Option.getD_some]
   omega
def zbZ (s:Bool):Nat→List Int→List UInt8 × Int
 | 0,_=>([],0)
 | k+1,l =>
  if l.length=0 then ([],0)
  else if (zc9 (l.take (ucut l)) s).2≠0 then ([],(zc9 (l.take (ucut l)) s).2)
  else if (zbZ s k (l.drop (ucut l))).2≠0 then ([],(zbZ s k (l.drop (ucut l))).2)
  else ((zc9 (l.take (ucut l)) s).1 ++ (zbZ s k (l.drop (ucut l))).1,0)
def zcO (l:List Int) (s:Bool):List UInt8 × Int:=if 4096 < l.length then ([],3) else zbZ s l.length l
def uone (b:List UInt8) (s:Bool):List Int × List UInt8 × Int:=
 match b with
 | []=>([],[],2)
 | x::_=>if x.toNat / 64=1 then zbh b s else if x.toNat / 64=2 then zD b s else if x.toNat / 64=3 then zU b s
  else (List.replicate (zG b s).2.1.toNat (zG b s).1,(zG b s).2.2.1,(zG b s).2.2.2)
def zbq (s:Bool) (many:Nat):Nat→List Int→List UInt8→List Int × List UInt8 × Int
 | 0,_,_=>gbad
 | k+1,out,rest =>
  if many≤out.length then (if many < out.length then gbad else (out,rest,0))
  else if (uone rest s).2.2≠0 then gbad
  else zbq s many k (out ++ (uone rest s).1) (uone rest s).2.1
def zB (b:List UInt8) (many:Int) (s:Bool):List Int × List UInt8 × Int:=if many < 0∨4096 < many then ([],[],1) else zbq s many.toNat (many.toNat+1) [] b
theorem zpG {cs:List (List UInt8 × Int)}:∀ {a:List UInt8},cs.foldl zbd a=a∨(cs.foldl zbd a,0)∈cs:=by
 induction cs with
 | nil=>intro a;exact .inl rfl
 | cons c cs ih =>
  intro a
  rw [List.foldl_cons]
  rcases ih (a:=zbd a c) with h | h
  ·rw [h]
   unfold zbd
   split
   ·rename_i hc
    right
    rw [show (c.1,(0:Int))=c from by rw [←hc.1]]
    exact List.mem_cons_self
   ·exact .inl rfl
  ·exact .inr (List.mem_cons_of_mem _ h)
theorem zlj {cs:List (List UInt8 × Int)}:∀ {a:List UInt8},(∀ p∈cs,p.2=0→p.1.length≠0)→((1≤a.length→1≤(cs.foldl zbd a).length∧(cs.foldl zbd a).length≤a.length)∧∀ p∈cs,p.2=0→1≤(cs.foldl zbd a).length∧(cs.foldl zbd a).length≤p.1.length):=by
 induction cs with
 | nil=>intro a _;exact ⟨fun h=>⟨h,Nat.le_refl _⟩,fun _ h=>by cases h⟩
 | cons c cs ih =>
  intro a hne
  rw [List.foldl_cons]
  obtain ⟨h1,h2⟩:=ih (a:=zbd a c) fun p hp=>hne p (List.mem_cons_of_mem _ hp)
  have hc:=hne c List.mem_cons_self
  refine ⟨fun ha=>?_,fun p hp h0=>?_⟩
  ·have h3:1≤(zbd a c).length∧(zbd a c).length≤a.length:=by
    unfold zbd
    split
    ·rename_i h;have:=hc h.1;omega
    ·exact ⟨ha,Nat.le_refl _⟩
   have:=h1 h3.1
   omega
  ·rcases List.mem_cons.1 hp with rfl | hp
   ·have h4:=hc h0
    have h3:1≤(zbd a p).length∧(zbd a p).length≤p.1.length:=by
     unfold zbd
     by_cases h:a.length=0∨p.1.length < a.length
     ·rw [if_pos ⟨h0,h⟩];omega
     ·rw [if_neg fun h5=>h h5.2];omega
    have:=h1 h3.1
    omega
   ·exact h2 p hp h0
theorem zlk {l:List Int} {s:Bool} (h:zy l s≠none):∀ x∈l,s=true∨0≤x:=by
 intro x hx
 cases s with
 | true=>exact .inl rfl
 | false =>
  refine .inr (Int.not_lt.1 fun h0=>h (zb5 (x:=x) hx ?_))
  unfold zx
  rw [if_neg (by simp),if_neg (by omega)]
theorem zgb {l m:List Int} {s:Bool} (h:zy l s≠none) (hm:∀ x∈m,x∈l):zy m s≠none:=by
 have h1:=zlk h
 intro h2
 have h0:∀ m:List Int,(∀ x∈m,s=true∨0≤x)→zy m s≠none:=by
  intro m
  induction m with
  | nil=>intro _ h;cases h
  | cons x m ih =>
   intro hl h
   have h3:=ih fun y hy=>hl y (List.mem_cons_of_mem _ hy)
   obtain ⟨u,hu⟩:∃ u,zx x s=some u:=by
    unfold zx
    rcases hl x List.mem_cons_self with h | h
    ·exact ⟨_,if_pos h⟩
    ·cases s with
     | true=>exact ⟨_,if_pos rfl⟩
     | false=>exact ⟨x.toNat,by rw [if_neg (by simp),if_pos (by assumption)]⟩
   unfold zy at h h3
   rw [omap,hu] at h
   cases ho:omap (zx · s) m with
   | none=>exact h3 ho
   | some us=>rw [ho] at h;cases h
 exact h0 m (fun x hx=>h1 x (hm x hx)) h2
theorem zer {k c m:Nat} (hk:k≤3) (hc:c≤31) (h1:1≤m) (hm:m≤512):∃ x y,zE k c m=[x,y]∧x.toNat / 64=k:=by
 obtain ⟨X,hX⟩:∃ X,X=16384*k+512*c+(m - 1):=⟨_,rfl⟩
 refine ⟨UInt8.ofNat (X / 256 ^ 1 % 256),UInt8.ofNat (X / 256 ^ 0 % 256),by unfold zE;rw [←hX];rfl,?_⟩
 simp only [UInt8.toNat_ofNat',Nat.reducePow]
 omega
theorem zm2 {c m:Nat} {r:List UInt8} {s:Bool} (hc:c≤31) (h1:1≤m) (hm:m≤512):uone (zE 1 c m ++ r) s=zbh (zE 1 c m ++ r) s:=by
 obtain ⟨x,y,h,hx⟩:=zer (k:=1) (by omega) hc h1 hm
 rw [h,List.cons_append]
 unfold uone
 dsimp only
 rw [if_pos hx]
theorem zll {c m:Nat} {r:List UInt8} {s:Bool} (hc:c≤31) (h1:1≤m) (hm:m≤512):uone (zE 2 c m ++ r) s=zD (zE 2 c m ++ r) s:=by
 obtain ⟨x,y,h,hx⟩:=zer (k:=2) (by omega) hc h1 hm
 rw [h,List.cons_append]
 unfold uone
 dsimp only
 rw [if_neg (by omega),if_pos hx]
theorem zpH {c m:Nat} {r:List UInt8} {s:Bool} (hc:c≤31) (h1:1≤m) (hm:m≤512):uone (zE 3 c m ++ r) s=zU (zE 3 c m ++ r) s:=by
 obtain ⟨x,y,h,hx⟩:=zer (k:=3) (by omega) hc h1 hm
 rw [h,List.cons_append]
 unfold uone
 dsimp only
 rw [if_neg (by omega),if_neg (by omega),if_pos hx]
theorem zm3 {u t:Nat} {r:List UInt8} {s:Bool} (hu:u < 2 ^ 64) (h3:3≤t) (h10:t≤10):uone (elay u t ++ r) s=(List.replicate (zG (elay u t ++ r) s).2.1.toNat (zG (elay u t ++ r) s).1,(zG (elay u t ++ r) s).2.2.1,(zG (elay u t ++ r) s).2.2.2):=by
 have h8:=zfr hu
 have h1:=zdy u
 obtain ⟨x,hx⟩:∃ x,x=UInt8.ofNat (8*(zO u - 1)+(t - 3)):=⟨_,rfl⟩
 have hx0:x.toNat / 64=0:=by rw [hx];simp only [UInt8.toNat_ofNat',Nat.reducePow];omega
 have he:elay u t ++ r=x::(be (zO u) u ++ r):=by unfold elay;rw [←hx];rfl
 rw [he]
 unfold uone
 dsimp only
 rw [if_neg (by omega),if_neg (by omega),if_neg (by omega)]
theorem zd5 {x t:Int} {s:Bool} {b:List UInt8} (h:eput x t s=(b,0)):3≤t∧t≤10∧∃ u,zx x s=some u∧b=elay u t.toNat:=by
 unfold eput at h
 split at h
 ·injection h with _ h;cases h
 ·rename_i ht
  split at h
  ·injection h with _ h;cases h
  ·rename_i u hu
   injection h with h _
   exact ⟨by omega,by omega,u,hu,h.symm⟩
theorem zff {l:List Int} {s:Bool} {b:List UInt8} (h:zdY l s=(b,0)):1≤l.length∧l.length≤512∧∃ u,zy l s=some u∧b=dlay u:=by
 unfold zdY at h
 split at h
 ·injection h with _ h;cases h
 ·rename_i u hu
  split at h
  ·injection h with _ h;cases h
  ·injection h with h _
   exact ⟨by omega,by omega,u,hu,h.symm⟩
theorem zfg {l:List Int} {s:Bool} {b:List UInt8} (h:zeo l s=(b,0)):zy l s≠none∧2≤l.length∧l.length≤512∧∃ us,zbP l (zbG l) (l.length - 1)=some us∧b=glay l s us:=by
 unfold zeo at h
 split at h
 ·injection h with _ h;cases h
 ·rename_i hn
  split at h
  ·injection h with _ h;cases h
  ·rename_i us hu
   injection h with h _
   exact ⟨fun h2=>hn (.inl h2),Nat.not_lt.1 fun h2=>hn (.inr (.inl h2)),Nat.not_lt.1 fun h2=>hn (.inr (.inr h2)),us,hu,h.symm⟩
theorem zoj {l:List Int} {W:Int} {s:Bool} {b:List UInt8} (h:zcN l W s=(b,0)):∃ us,pups l=some us∧1≤l.length∧l.length≤512∧0≤zbc W∧W < 64∧zcM l≠-9223372036854775808∧(zm W.toNat us).length≤31∧pgw (zm W.toNat us)+ppw (zm W.toNat us)≤64∧b=play (zcM l) us W.toNat:=by
 unfold zcN at h
 split at h
 ·injection h with _ h;cases h
 ·rename_i h1
  split at h
  ·injection h with _ h;cases h
  ·rename_i us hu
   split at h
   ·injection h with _ h;cases h
   ·rename_i h2
    injection h with h _
    refine ⟨us,hu,?_,?_,?_,?_,?_,?_,?_,h.symm⟩
    ·exact Nat.not_lt.1 fun h=>h1 (.inr (.inl h))
    ·exact Nat.not_lt.1 fun h=>h1 (.inr (.inr (.inl h)))
    ·exact Int.not_lt.1 fun h=>h1 (.inr (.inr (.inr (.inl h))))
    ·exact Int.not_le.1 fun h=>h1 (.inr (.inr (.inr (.inr h))))
    ·exact fun h=>h2 (.inl h)
    ·exact Nat.not_lt.1 fun h=>h2 (.inr (.inl h))
    ·exact Nat.not_lt.1 fun h=>h2 (.inr (.inr (.inl h)))
theorem zjT (c:Nat):∃ W:Nat,wof (c:Int)=(W:Int):=⟨(wof (c:Int)).toNat,by have:=(zei (c:Int)).1;omega⟩
theorem zgc {l:List Int} {s:Bool} {b:List UInt8} (hl:∀ x∈l,inInt x) (hp:zy l s≠none) (h1:1≤l.length) (h:(b,(0:Int))∈zcP l s) (r:List UInt8):uone (b ++ r) s=(l,r,0)∧2≤b.length:=by
 have hok:=zlk hp
 unfold zcP zhV at h
 simp only [List.mem_append,List.mem_cons,List.mem_map,List.mem_range,List.not_mem_nil,or_false] at h
 rcases h with (h | h | h) | ⟨c,hc,h⟩
 ·split at h
  ·rename_i hs
   rw [List.mem_singleton] at h
   obtain ⟨h3,h10,u,hu,hb⟩:=zd5 h.symm
   obtain ⟨x,l',rfl⟩:∃ x l',l=x::l':=by cases l with | nil=>simp at h1 | cons x l'=>exact ⟨x,l',rfl⟩
   rw [List.headD_cons] at hu
   have hx:=hl x List.mem_cons_self
   have hu64:=zhr hx.1 hx.2 hu
   have hrep:=zja (x:=x) (r:=l') (k:=(x::l').length) (by omega)
   rw [List.take_of_length_le (Nat.le_refl _)] at hrep
   rw [Int.toNat_natCast] at hb
   have h3':3≤(x::l').length:=by omega
   have h10':(x::l').length≤10:=by omega
   subst hb
   refine ⟨?_,by rw [zgQ];have:=zdy u;omega⟩
   rw [zm3 hu64 h3' h10',zoW hu64 h3' h10' (zgx hx.1 hx.2 hu)]
   dsimp only
   rw [Int.toNat_natCast,←hrep]
  ·cases h
 ·obtain ⟨_,h5,u,hu,hb⟩:=zff h.symm
  have hu64:=zft hl hu
  have hul:=zdz hu
  subst hb
  refine ⟨?_,by unfold dlay;rw [List.length_append,zV];omega⟩
  have h2:=zoZ hl h1 h5 hu r
  unfold dlay at h2 ⊢
  rw [List.append_assoc] at h2 ⊢
  rw [zm2 (zhw hu64).2.1 (by omega) (by omega)]
  exact h2
 ·obtain ⟨_,h2',h5,us,hu,hb⟩:=zfg h.symm
  have h64t:∀ u∈us.tail,u < 2 ^ 64:=fun u h=>zfC hu u (List.mem_of_mem_tail h)
  have hcode:gnum us≤31:=by
   unfold gnum
   split
   ·omega
   ·exact (zc4 h64t).2.2.2.2.2.2.1
  subst hb
  refine ⟨?_,by unfold glay;simp only [List.length_append,zV];omega⟩
  have h2:=zpb (fun x hx=>⟨hl x hx,hok x hx⟩) h2' h5 hu r
  unfold glay at h2 ⊢
  simp only [List.append_assoc] at h2 ⊢
  rw [zpH hcode h1 h5]
  exact h2
 ·obtain ⟨W,hW⟩:=zjT c
  rw [hW] at h
  obtain ⟨us,hu,_,h5,hc0,h64,hne,h31,hgp,hb⟩:=zoj h
  rw [Int.toNat_natCast] at h31 hgp hb
  have hul:=zjM hu
  subst hb
  refine ⟨?_,by unfold play;simp only [List.length_append,zV];omega⟩
  have h2:=zpq (fun x hx=>⟨hl x hx,hok x hx⟩) h1 h5 hc0 (by omega) hu hne h31 hgp r
  unfold play at h2 ⊢
  simp only [List.append_assoc] at h2 ⊢
  rw [zll (zga hc0).2.1 (by omega) (by omega)]
  exact h2
theorem zhW {n W:Nat} (hW:W≤64):zT n W≤8*n:=by
 have:n*W≤n*64:=Nat.mul_le_mul_left _ hW
 unfold zT
 omega
theorem zjU {l:List Int} {s:Bool} (h:zy l s=none∨l.length < 1∨512 < l.length):zc9 l s=([],1):=by unfold zc9;rw [if_pos h]
theorem zjV {l:List Int} {s:Bool} (h:zy l s≠none) (h1:1≤l.length) (h5:l.length≤512):zc9 l s=((zcP l s).foldl zbd [],0):=by
 unfold zc9
 rw [if_neg]
 rintro (h2 | h2 | h2)
 ·exact h h2
 ·omega
 ·omega
theorem ztU {l:List Int} {s:Bool} (hl:∀ x∈l,inInt x) (h:zy l s≠none) (h1:1≤l.length) (h5:l.length≤512) {p:List UInt8 × Int} (hp:p∈zcP l s) (h0:p.2=0):(zc9 l s).1.length≤p.1.length:=by
 rw [zjV h h1 h5]
 refine ((zlj (cs:=zcP l s) (a:=[]) fun q hq h2=>?_).2 p hp h0).2
 have h3:=zgc (b:=q.1) hl h h1 (by rw [←h2];exact hq) []
 omega
theorem zjW (l:List Int) (s:Bool):zdY l s∈zcP l s:=by unfold zcP zhV;simp
theorem zok {l:List Int} {s:Bool} (h:zy l s≠none) (h1:1≤l.length) (h5:l.length≤512):∃ u,zy l s=some u∧zdY l s=(dlay u,0):=by
 cases hu:zy l s with
 | none=>exact absurd hu h
 | some u=>exact ⟨u,rfl,zn2 hu h1 h5⟩
theorem zes {l:List Int} {s:Bool} (hl:∀ x∈l,inInt x) (h:zy l s≠none) (h1:1≤l.length) (h5:l.length≤512) (r:List UInt8) :
  (zc9 l s).2=0∧uone ((zc9 l s).1 ++ r) s=(l,r,0)∧2≤(zc9 l s).1.length∧(zc9 l s).1.length≤2+8*l.length:=by
 obtain ⟨u,hu,hd⟩:=zok h h1 h5
 have hle:=ztU hl h h1 h5 (zjW l s) (by rw [hd])
 have hu64:=zft hl hu
 rw [hd] at hle
 have hbd:(dlay u).length≤2+8*l.length:=by
  have:=zhW (n:=u.length) (zeF hu64).2.1
  have:=zdz hu
  unfold dlay
  rw [List.length_append,zV,zcK]
  omega
 dsimp only at hle
 have hin:=zjV h h1 h5
 have hmem:((zc9 l s).1,(0:Int))∈zcP l s:=by
  rw [hin]
  rcases zpG (cs:=zcP l s) (a:=[]) with h2 | h2
  ·exfalso
   have h3:=(zlj (cs:=zcP l s) (a:=[]) fun q hq h2=>by
    have h3:=zgc (b:=q.1) hl h h1 (by rw [←h2];exact hq) []
    omega).2 _ (zjW l s) (by rw [hd])
   rw [h2] at h3
   simp at h3
  ·exact h2
 obtain ⟨h2,h3⟩:=zgc hl h h1 hmem r
 exact ⟨by rw [hin],h2,h3,by omega⟩
theorem zjb {s:Bool} {r:List UInt8}:∀ (k:Nat) (l out:List Int) (fuel:Nat),l.length≤k→l.length+1≤fuel→(∀ x∈l,inInt x)→zy l s≠none →
  (zbZ s k l).2=0∧(zbZ s k l).1.length≤10*l.length∧zbq s (out.length+l.length) fuel out ((zbZ s k l).1 ++ r)=(out ++ l,r,0)
 | 0,l,out,fuel,hk,hf,_,_=>by
  obtain rfl:l=[]:=List.eq_nil_of_length_eq_zero (by omega)
  obtain ⟨f,rfl⟩:∃ f,fuel=f+1:=⟨fuel - 1,by omega⟩
  refine ⟨rfl,by simp [zbZ],?_⟩
  rw [zbZ,zbq]
  simp
 | k+1,l,out,fuel,hk,hf,hl,hp=>by
  obtain ⟨f,rfl⟩:∃ f,fuel=f+1:=⟨fuel - 1,by omega⟩
  by_cases h0:l.length=0
  ·obtain rfl:l=[]:=List.eq_nil_of_length_eq_zero h0
   refine ⟨by simp [zbZ],by simp [zbZ],?_⟩
   have e:(zbZ s (k+1) [])=([],0):=by simp [zbZ]
   rw [e,zbq]
   simp
  ·obtain ⟨c1,c2,c3⟩:=zr3 (l:=l) (by omega)
   obtain ⟨n,hn⟩:∃ n,n=ucut l:=⟨_,rfl⟩
   rw [←hn] at c1 c2 c3
   have htl:(l.take n).length=n:=by rw [List.length_take];omega
   have hdl:(l.drop n).length=l.length - n:=List.length_drop
   obtain ⟨r0,_,_,r3⟩:=zes (l:=l.take n) (s:=s) (fun x hx=>hl x (List.mem_of_mem_take hx)) (zgb hp fun x hx=>List.mem_of_mem_take hx) (by omega) (by omega) []
   obtain ⟨i0,i1,i2⟩:=zjb (s:=s) (r:=r) k (l.drop n) (out ++ l.take n) f (by omega) (by omega) (fun x hx=>hl x (List.mem_of_mem_drop hx)) (zgb hp fun x hx=>List.mem_of_mem_drop hx)
   obtain ⟨_,r1,_,_⟩:=zes (l:=l.take n) (s:=s) (fun x hx=>hl x (List.mem_of_mem_take hx)) (zgb hp fun x hx=>List.mem_of_mem_take hx) (by omega) (by omega) ((zbZ s k (l.drop n)).1 ++ r)
   rw [zbZ,←hn,if_neg h0,if_neg (by rw [r0];simp),if_neg (by rw [i0];simp)]
   refine ⟨rfl,by rw [List.length_append];omega,?_⟩
   dsimp only
   rw [List.append_assoc,zbq,if_neg (by omega),r1]
   dsimp only
   rw [if_neg (by simp)]
   rw [List.length_append,htl,hdl,show out.length+n+(l.length - n)=out.length+l.length by omega] at i2
   rw [i2,List.append_assoc,List.take_append_drop]
theorem zol {m:Int} (h:0≤m):∃ n:Nat,m=(n:Int):=⟨m.toNat,by omega⟩
theorem ztV {b:List UInt8} {s:Bool} (h:(zbh b s).2.2=0):1≤(zbh b s).1.length∧(zbh b s).1.length≤512∧(zbh b s).2.1.length≤b.length:=by
 obtain ⟨K,C,M,r,x,hd⟩:∃ K C M r x,zp b=(K,C,M,r,x):=⟨_,_,_,_,_,rfl⟩
 have hbd:=zcS b
 unfold zbh at h ⊢
 rw [hd] at h hbd ⊢
 dsimp only at h hbd ⊢
 split at h
 ·cases h
 ·rename_i hn
  rw [if_neg hn]
  have hx:x=0:=Decidable.not_not.1 fun h2=>hn (.inl h2)
  subst hx
  have hM:=zeP hd
  obtain ⟨m,rfl⟩:=zol (show 0≤M by omega)
  obtain ⟨u,q,e,hu⟩:∃ u q e,zg r (m:Int) (wof C)=(u,q,e):=⟨_,_,_,rfl⟩
  rw [hu] at h ⊢
  dsimp only at h ⊢
  split at h
  ·cases h
  ·rename_i he
   rw [if_neg he]
   have he0:e=0:=Decidable.not_not.1 he
   subst he0
   obtain ⟨h1,h2⟩:=zM hu
   cases hm:zeW u s with
   | none=>rw [hm] at h;cases h
   | some o =>
    have h3:=zq4 hm
    dsimp only
    omega
theorem zpI {w g p m v:Nat} {st st':Nat × List Nat} (h:zgL w g p m st v=some st'):st'.2.length=st.2.length:=by
 unfold zgL at h
 split at h
 ·injection h with h;subst h;simp
 ·cases h
theorem zlm {w g p m:Nat}:∀ {vs:List Nat} {st st':Nat × List Nat},pall w g p m st vs=some st'→st'.2.length=st.2.length
 | [],st,st',h=>by rw [pall] at h;injection h with h;rw [h]
 | v::vs,st,st',h=>by
  rw [pall] at h
  cases hs:zgL w g p m st v with
  | none=>rw [hs] at h;cases h
  | some s2 =>
   rw [hs] at h
   rw [zlm h,zpI hs]
theorem ztW {b:List UInt8} {s:Bool} (h:(zD b s).2.2=0):1≤(zD b s).1.length∧(zD b s).1.length≤512∧(zD b s).2.1.length≤b.length:=by
 obtain ⟨K,C,M,r,x,hd⟩:∃ K C M r x,zp b=(K,C,M,r,x):=⟨_,_,_,_,_,rfl⟩
 have hbd:=zcS b
 rw [hd] at hbd
 dsimp only at hbd
 by_cases hk:x≠0∨K≠2
 ·rw [zc8 (by rw [hd];exact hk)] at h;cases h
 ·obtain rfl:x=0:=Decidable.not_not.1 fun h2=>hk (.inl h2)
  obtain rfl:K=2:=Decidable.not_not.1 fun h2=>hk (.inr h2)
  have hM:=zeP hd
  rw [zdH hd] at h ⊢
  obtain ⟨m,rfl⟩:=zol (show 0≤M by omega)
  by_cases h2:r.length < 2
  ·rw [zd4 h2] at h;cases h
  ·obtain ⟨p,hp⟩:=zjT ((r[0]'(by omega)).toNat % 32)
   have he:=zjN (s:=s) (c:=C) (m:=(m:Int)) (p:=p) (r:=r) (by omega) rfl rfl rfl rfl rfl hp rfl
   rw [he] at h ⊢
   split at h
   ·cases h
   ·rename_i hg
    rw [if_neg hg]
    generalize hdn:(r.drop 2).drop _=q at h ⊢
    have hq:q.length≤r.length:=by rw [←hdn];simp only [List.length_drop];omega
    generalize zdF _=base at h ⊢
    generalize (r[1]'(by omega)).toNat / 32+1=g at h ⊢
    generalize (r[1]'(by omega)).toNat % 32=t at h ⊢
    obtain ⟨us,q1,e1,hu⟩:∃ u r e,zg q (m:Int) (wof C)=(u,r,e):=⟨_,_,_,rfl⟩
    by_cases he1:e1=0
    ·subst he1
     obtain ⟨u1,u2⟩:=zM hu
     obtain ⟨vs,q2,e2,hv⟩:∃ u r e,zg q1 (t:Int) (zh ((g+p:Nat):Int))=(u,r,e):=⟨_,_,_,rfl⟩
     by_cases he2:e2=0
     ·subst he2
      obtain ⟨_,v2⟩:=zM hv
      rw [zfN hu hv] at h ⊢
      cases hpa:pall (wof C).toNat g p (m:Int).toNat (0,us) vs with
      | none=>rw [zdI hpa] at h;cases h
      | some st =>
       obtain ⟨a,lf⟩:=st
       have h3:=zlm hpa
       dsimp only at h3
       rw [zeq hpa] at h ⊢
       cases ho:omap (zbl s false base) lf with
       | none=>rw [ho] at h;cases h
       | some xs =>
        have h4:=zcb ho
        dsimp only
        omega
     ·rw [zeQ hu hv he2] at h;cases h
    ·rw [zfM hu he1] at h;cases h
theorem zr4 {s f:Bool} {x:Int} {us:List Nat} {q:List UInt8} (h:(gend s f x us q).2.2=0):(gend s f x us q).1.length=us.length+1∧(gend s f x us q).2.1=q:=by
 unfold gend at h ⊢
 cases hw:zbp s f x us with
 | none=>rw [hw] at h;cases h
 | some ys=>exact ⟨by dsimp only;rw [List.length_cons,zhD hw],rfl⟩
theorem ztX {b:List UInt8} {s:Bool} (h:(zU b s).2.2=0):1≤(zU b s).1.length∧(zU b s).1.length≤512∧(zU b s).2.1.length≤b.length:=by
 obtain ⟨K,C,M,r,x,hd⟩:∃ K C M r x,zp b=(K,C,M,r,x):=⟨_,_,_,_,_,rfl⟩
 have hbd:=zcS b
 rw [hd] at hbd
 dsimp only at hbd
 by_cases hk:x≠0∨K≠3∨M < 2
 ·rw [zce (by rw [hd];exact hk)] at h;cases h
 ·obtain rfl:x=0:=Decidable.not_not.1 fun h2=>hk (.inl h2)
  obtain rfl:K=3:=Decidable.not_not.1 fun h2=>hk (.inr (.inl h2))
  have hM2:2≤M:=Int.not_lt.1 fun h2=>hk (.inr (.inr h2))
  rw [zdA hd hM2] at h ⊢
  cases h1:zbC r s with
  | none=>rw [zeM h1] at h;cases h
  | some p =>
   obtain ⟨x0,r1⟩:=p
   cases h2:zbC r1 true with
   | none=>rw [zd1 h1 h2] at h;cases h
   | some p2 =>
    obtain ⟨dd,r2⟩:=p2
    obtain ⟨u,f,o,hg⟩:∃ u f o,zC 0 dd=(u,f,o):=⟨_,_,_,rfl⟩
    have b1:=(zdk h1).2
    have b2:=(zdk h2).2
    rw [zcx h1 h2 hg] at h ⊢
    cases o with
    | false=>cases h
    | true =>
     have key:(if true=true then zeX s f x0 u C M r2 else ([],[],2))=zeX s f x0 u C M r2:=if_pos rfl
     try rw [key] at h
     try rw [key]
     by_cases hC:0 < C
     ·obtain ⟨m,hm⟩:=zol (show 0≤M - 2 by omega)
      obtain ⟨us,q,e,hu⟩:∃ u q e,zg r2 (M - 2) (wof C)=(u,q,e):=⟨_,_,_,rfl⟩
      by_cases he:e=0
      ·subst he
       rw [zdC hC hu] at h ⊢
       rw [hm] at hu
       obtain ⟨u1,u2⟩:=zM hu
       obtain ⟨e1,e2⟩:=zr4 h
       rw [e1,e2,List.length_cons]
       omega
      ·rw [zfF hC hu he] at h;cases h
     ·rw [zdB hC] at h ⊢
      obtain ⟨e1,e2⟩:=zr4 h
      rw [e1,e2,List.length_replicate]
      omega
theorem zjX {b:List UInt8} {s:Bool} (h:(zG b s).2.2.2=0):3≤(zG b s).2.1∧(zG b s).2.1≤10∧(zG b s).2.2.1.length≤b.length:=by
 unfold zG at h ⊢
 cases b with
 | nil=>cases h
 | cons c r =>
  dsimp only at h ⊢
  split at h
  ·cases h
  ·rename_i h1
   rw [if_neg h1]
   split at h
   ·cases h
   ·rename_i h2
    rw [if_neg h2]
    split at h
    ·cases h
    ·rename_i h3
     rw [if_neg h3]
     cases hm:zbf (bval (r.take (c.toNat / 8+1))) s with
     | none=>rw [hm] at h;cases h
     | some x =>
      dsimp only
      rw [List.length_drop,List.length_cons]
      omega
theorem zom {b:List UInt8} {s:Bool} (h:(zG b s).2.2.2≠0):zG b s=(0,0,[],2):=by
 unfold zG at h ⊢
 cases b with
 | nil=>rfl
 | cons c r =>
  dsimp only at h ⊢
  split
  ·rfl
  ·rename_i h1
   rw [if_neg h1] at h
   split
   ·rfl
   ·rename_i h2
    rw [if_neg h2] at h
    split
    ·rfl
    ·rename_i h3
     rw [if_neg h3] at h
     cases hm:zbf (bval (r.take (c.toNat / 8+1))) s with
     | none=>rfl
     | some x=>rw [hm] at h;exact absurd rfl h
theorem zm4 {b:List UInt8} {s:Bool} (h:(uone b s).2.2=0):1≤(uone b s).1.length∧(uone b s).1.length≤512∧(uone b s).2.1.length≤b.length:=by
 cases b with
 | nil=>cases h
 | cons c r =>
  unfold uone at h ⊢
  dsimp only at h ⊢
  split at h
  ·rename_i h1;rw [if_pos h1];exact ztV h
  ·rename_i h1
   rw [if_neg h1]
   split at h
   ·rename_i h2;rw [if_pos h2];exact ztW h
   ·rename_i h2
    rw [if_neg h2]
    split at h
    ·rename_i h3;rw [if_pos h3];exact ztX h
    ·rename_i h3
     rw [if_neg h3]
     dsimp only at h ⊢
     have:=zjX h
     rw [List.length_replicate]
     omega
theorem zln {s:Bool} {many:Nat}:∀ (k:Nat) (out:List Int) (rest:List UInt8),(zbq s many k out rest).1.length≤many
 | 0,_,_=>by simp [zbq,gbad]
 | k+1,out,rest=>by
  rw [zbq]
  split
  ·split
   ·simp [gbad]
   ·dsimp only;omega
  ·split
   ·simp [gbad]
   ·exact zln k _ _
theorem zjc (b:List UInt8) (many:Int) (s:Bool):(zB b many s).1.length≤4096:=by
 unfold zB
 split
 ·simp
 ·exact Nat.le_trans (zln _ _ _) (by omega)
end Go.Proofs.YtlibofmpnlfelaaGreatDoor
namespace Go.Proofs.YtlibofmpnlfelaaGreatDoor
open Go.RowKit
theorem zr5 {l:List Int} (h:3≤zb3 l):ucut l=min (zb3 l) 512:=by unfold ucut;rw [if_pos h]
theorem zu5 {l:List Int} {n:Nat} (h:¬3≤zb3 l) (h1:1≤n) (h2:n < l.length) (h5:n < 512) (hb:∀ j,1≤j→j < n→zli l j=false) (hn:zli l n=true):ucut l=n:=by
 unfold ucut
 rw [if_neg h,List.find?_range'_eq_some.2 ⟨hn,List.mem_range'_1.2 (by omega),fun j hj hjn=>by rw [hb j hj hjn];rfl⟩]
 rfl
theorem ztY {l:List Int} (h:¬3≤zb3 l) (hb:∀ j,1≤j→j < min l.length 512→zli l j=false):ucut l=min l.length 512:=by
 unfold ucut
 rw [if_neg h,List.find?_range'_eq_none.2 fun j hj hjn=>by rw [hb j hj (by omega)];rfl]
 rfl
def zir (out:List UInt8) (p:List UInt8 × Int):List UInt8 × Int:=if p.2≠0 then ([],p.2) else (out ++ p.1,0)
theorem zpJ (out:List UInt8) (s:Bool) {k:Nat} {l:List Int} (h:l.length=0):zir out (zbZ s k l)=(out,0):=by
 cases k with
 | zero=>simp [zbZ,zir]
 | succ k=>rw [zbZ,if_pos h];simp [zir]
theorem zr6 (out:List UInt8) (s:Bool) {k:Nat} {l:List Int} (h:l.length≠0) (he:(zc9 (l.take (ucut l)) s).2≠0):zir out (zbZ s (k+1) l)=([],(zc9 (l.take (ucut l)) s).2):=by
 rw [zbZ,if_neg h,if_pos he]
 exact if_pos he
theorem zpK (out:List UInt8) (s:Bool) {k:Nat} {l:List Int} (h:l.length≠0) (he:(zc9 (l.take (ucut l)) s).2=0):zir out (zbZ s (k+1) l)=zir (out ++ (zc9 (l.take (ucut l)) s).1) (zbZ s k (l.drop (ucut l))):=by
 rw [zbZ,if_neg h,if_neg (by rw [he];simp)]
 unfold zir
 by_cases h2:(zbZ s k (l.drop (ucut l))).2≠0
 ·rw [if_pos h2,if_pos h2,if_pos h2]
 ·rw [if_neg h2,if_neg h2,if_neg (by simp)]
  simp
def lenOf (v:Value):Nat:=match v with | .slice _ n _=>n | _=>0
theorem ztZ {l:List Int} {s:Bool} (hl:∀ x∈l,inInt x) (h5:l.length≤512):(zc9 l s).1.length≤5000:=by
 by_cases h2:zy l s=none∨l.length < 1∨512 < l.length
 ·rw [zjU h2];simp
 ·have:=(zes (r:=[]) hl (fun h3=>h2 (.inl h3)) (Nat.not_lt.1 fun h3=>h2 (.inr (.inl h3))) h5).2.2.2
  omega
def zm5 (res:List UInt8 × Int) (s:Bool) (w:World) (lv ov:Value) (wr:World):Prop:=
 ∃ (k:Nat) (rest:List Int) (out:List UInt8),rest.length≤k∧rest.length≤4096∧out.length+10*rest.length≤50000∧(∀ x∈rest,inInt x)∧IsV iv rest lv w∧zir out (zbZ s k rest)=res∧wr.ownsRow w.heap.size 5 1 ov out.length (out.map bv)∧Below w.heap.size w wr
end Go.Proofs.YtlibofmpnlfelaaGreatDoor
