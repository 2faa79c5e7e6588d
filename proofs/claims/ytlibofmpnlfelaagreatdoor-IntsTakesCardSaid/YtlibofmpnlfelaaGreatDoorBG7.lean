import Derived.Laws.OwnMore
import Derived.Test.YtlibofmpnlfelaaGreatDoorBG6
set_option maxHeartbeats 8000000
set_option maxRecDepth 100000
namespace Go.Proofs.YtlibofmpnlfelaaGreatDoor
open Go.RowKit
def zvB (f:Bool) (o:Option (List Nat × List UInt8)) (w:World) (e:Ending) (w':World):Prop:=
 match o with
 | none=>e=.returned (.tuple #[.slice none 0 0,.slice none 0 0,.bool false])∧Below w.heap.size w w'
 | some p=>∃ u r,e=.returned (.tuple #[u,r,.bool true])∧IsR dc (zb1 f p.1) u w'∧OwnB w p.2 r w'∧Below w.heap.size w w'
theorem zmN (m:Nat) (u:Nat) (f:Bool):reps m (u,f)=(zb1 f (List.replicate m u)).flatMap dc:=by unfold reps zb1;rw [List.map_replicate]
theorem zeN (f:Bool) (us:List Nat):(zb1 f us).length=us.length:=by unfold zb1;rw [List.length_map]
theorem zpj (A:Value) (C M d:Int) (w:World) (hd:inInt d) (hg:(zC 0 d).2.2=false) :
  Calls Tryz.prog 155 #[A,.int .i64 C,.int .i64 M,.int .i64 d] w (zvB (zC 0 d).2.1 none w):=by
 have HB:=Lib.hid (zc6 0 d w (by unfold inInt;omega) hd)
 unfold zrf at HB
 rw [hg] at HB
 obtain ⟨x,hx⟩:∃ x,x=zep (zC 0 d):=⟨_,rfl⟩
 rw [←hx] at HB
 obtain ⟨xu,xf⟩:=x
 unfold dv dc at HB
 dsimp only at HB
 clear hx hd hg
 go_enter Tryz.func155,Tryz.ntmps155
 go_wp2_with (go_at_call 177;refine HB.out.mono ?_;rintro e w1 ⟨rfl,hb1⟩)
 go_ret3
 exact ⟨rfl,hb1.alloc hb1.size _⟩
theorem zmO (v:Value) (M:Nat) (d:Int) (u0:Nat) (f:Bool) (w:World) (hM2:2≤M) (hM:M≤512) (hd:inInt d) (hx:zC 0 d=(u0,f,true)) :
  Calls Tryz.prog 155 #[v,.int .i64 0,.int .i64 (M:Int),.int .i64 d] w (fun e w' =>
   ∃ u,e=.returned (.tuple #[u,v,.bool true])∧IsR dc (zb1 f (List.replicate (M - 1) u0)) u w'∧Below w.heap.size w w'):=by
 have HB:=Lib.hid (zc6 0 d w (by unfold inInt;omega) hd)
 unfold zrf at HB
 rw [hx] at HB
 unfold zep dv dc at HB
 dsimp only at HB
 clear hx hd
 obtain ⟨m,hm⟩:∃ m,M=m+1:=⟨M - 1,by omega⟩
 subst hm
 have e1:m+1 - 1=m:=by omega
 rw [e1]
 have hmi1:IntKind.i64.wrap (((m+1:Nat):Int) - 1)=(m:Int):=by rw [IntKind.wrap_i64];omega
 have HRP:=Lib.hid (fun w1:World=>ziU (u0,f) (w1.heap.size+1) 1 m ((w1.alloc (.cells #[.int .u64 (u0:Int),.bool f] 167)).alloc (.cells #[.int .u64 (u0:Int),.bool f] 167)) (by
  have h:=heap_alloc_new (w1.alloc (.cells #[.int .u64 (u0:Int),.bool f] 167)) (.cells #[.int .u64 (u0:Int),.bool f] 167)
  rw [show (w1.alloc (.cells #[.int .u64 (u0:Int),.bool f] 167)).heap.size=w1.heap.size+1 by simp] at h
  exact h) (by omega) (by omega))
 clear e1
 go_enter Tryz.func155,Tryz.ntmps155
 go_wp2_with fail
 refine HB.out.mono ?_
 rintro e w1 ⟨rfl,hb1⟩
 have HB2:=Lib.hid ((hb1.alloc hb1.size (.cells #[.int .u64 (u0:Int),.bool f] 167)).alloc (by simp;have:=hb1.size;omega) (.cells #[.int .u64 (u0:Int),.bool f] 167))
 clear hb1
 go_wp2_with (go_at_call 183;refine (HRP.out w1).mono ?_)
 rintro e w2 ⟨g,rfl,hg,hr,hb2⟩
 rw [zmN] at hr
 have HI:=Lib.hid (zf6 hr (by rw [zeN,List.length_replicate]) (by omega))
 have HB3:=Lib.hid (za HB2.out hb2)
 clear hr hb2 hg
 go_wp2
 go_ret3
 exact ⟨_,rfl,HI.out,HB3.out⟩
def zrq (f:Bool) (u0:Nat) (us:List Nat) (g:Nat) (w w3:World) (i:Value) (wr:World):Prop:=∃ k:Nat,k≤us.length∧i=.int .i64 (k:Int) ∧
 Row wr g 167 ((zb1 f (u0::us.take k)).flatMap dc ++ reps (us.length - k) (u0,f))∧Below w.heap.size w wr∧w3.grownBy wr (some g)
theorem zvC {f:Bool} {u0:Nat} {us:List Nat} {k:Nat} (h:k < us.length):((zb1 f (u0::us.take k)).flatMap dc ++ reps (us.length - k) (u0,f)).set ((k+1)*2) (.int .u64 (us[k]:Int)) =
  (zb1 f (u0::us.take (k+1))).flatMap dc ++ reps (us.length - (k+1)) (u0,f):=by
 have hl:((zb1 f (u0::us.take k)).flatMap dc).length=(k+1)*2:=by rw [zc7,zeN,List.length_cons,List.length_take];congr 1;omega
 have hr:reps (us.length - k) (u0,f)=dc (u0,f) ++ reps (us.length - (k+1)) (u0,f):=by
  rw [show us.length - k=1+(us.length - (k+1)) by omega,zgY];rfl
 have ht:(zb1 f (u0::us.take (k+1))).flatMap dc=(zb1 f (u0::us.take k)).flatMap dc ++ dc (us[k],f):=by
  rw [List.take_succ_eq_append_getElem h]
  unfold zb1
  rw [←List.cons_append,List.map_append,List.flatMap_append]
  rfl
 rw [List.set_append_right _ _ (by omega),hl,Nat.sub_self,hr,ht,List.append_assoc]
 rfl
theorem zmP (r:List UInt8) (v:Value) (C M:Nat) (d:Int) (u0:Nat) (f:Bool) (w:World) (ht:WTab w) (hv:IsB r v w) (hb:r.length≤1000000) (hC1:1≤C) (hC:C≤31) (hM2:2≤M) (hM:M≤512) (hd:inInt d) (hx:zC 0 d=(u0,f,true)) :
  Calls Tryz.prog 155 #[v,.int .i64 (C:Int),.int .i64 (M:Int),.int .i64 d] w
   (zvB f (if (zg r (M - 2:Nat) (wof C)).2.2=0 then some (u0::(zg r (M - 2:Nat) (wof C)).1,(zg r (M - 2:Nat) (wof C)).2.1) else none) w):=by
 have HB:=Lib.hid (zc6 0 d w (by unfold inInt;omega) hd)
 unfold zrf at HB
 rw [hx] at HB
 unfold zep dv dc at HB
 dsimp only at HB
 clear hx hd
 obtain ⟨m,hm⟩:∃ m,m=M - 2:=⟨_,rfl⟩
 obtain ⟨p,hp⟩:∃ p,p=M - 1:=⟨_,rfl⟩
 rw [←hm]
 have HPM:=Lib.hid (show p=m+1 by omega)
 have hmi1:IntKind.i64.wrap ((M:Int) - 1)=(p:Int):=by rw [IntKind.wrap_i64];omega
 have hmi2:IntKind.i64.wrap ((M:Int) - 2)=(m:Int):=by rw [IntKind.wrap_i64];omega
 have hmi3:(M:Int) - 1=(p:Int):=by omega
 have hmi4:(M:Int) - 2=(m:Int):=by omega
 have HRP:=Lib.hid (fun w1:World=>ziU (u0,f) (w1.heap.size+1) 1 p ((w1.alloc (.cells #[.int .u64 (u0:Int),.bool f] 167)).alloc (.cells #[.int .u64 (u0:Int),.bool f] 167)) (by
  have h:=heap_alloc_new (w1.alloc (.cells #[.int .u64 (u0:Int),.bool f] 167)) (.cells #[.int .u64 (u0:Int),.bool f] 167)
  rw [show (w1.alloc (.cells #[.int .u64 (u0:Int),.bool f] 167)).heap.size=w1.heap.size+1 by simp] at h
  exact h) (by omega) (by omega))
 have HT:=Lib.hid ht
 have HV:=Lib.hid hv
 have hc0:((C:Int) == 0)=false:=by simp;omega
 obtain ⟨W,hW⟩:∃ W,W=wof (C:Int):=⟨_,rfl⟩
 have HOF:=Lib.hid (fun W1 (h:WTab W1)=>ziy (C:Int) W1 h (by omega) (by omega))
 rw [←hW] at HOF ⊢
 obtain ⟨us,q,y,hu⟩:∃ us q y,zg r (m:Int) W=(us,q,y):=⟨_,_,_,rfl⟩
 have HUN:=Lib.hid (fun W1 (h:IsB r v W1)=>zeD (m:Int) W h hb)
 rw [hu] at HUN ⊢
 unfold RetUO at HUN
 dsimp only at HUN ⊢
 have HUL:=Lib.hid (show y=0→us.length=m from fun hy=>by subst hy;exact (zM hu).1)
 obtain ⟨o,ho⟩:∃ o,o=(if y=0 then some (u0::us,q) else none):=⟨_,rfl⟩
 have HO:=Lib.hid ho
 rw [←ho]
 clear ho hu hW ht hv hb hC1 hM2 hm hp
 go_enter Tryz.func155,Tryz.ntmps155
 go_wp2_with fail
 refine HB.out.mono ?_
 rintro e w1 ⟨rfl,hb1⟩
 have HB2:=Lib.hid ((hb1.alloc hb1.size (.cells #[.int .u64 (u0:Int),.bool f] 167)).alloc (by simp;have:=hb1.size;omega) (.cells #[.int .u64 (u0:Int),.bool f] 167))
 clear hb1
 go_wp2_with (go_at_call 183;refine (HRP.out w1).mono ?_)
 rintro e w2 ⟨g,rfl,hg,hr,hb2⟩
 have HROW:=Lib.hid hr
 have hgw:=hr.lt
 have HB3:=Lib.hid (za HB2.out hb2)
 have hwg:w.heap.size≤g:=Nat.le_trans HB2.out.size hg
 clear hr hb2 hg
 have HT2:=Lib.hid (HT.out.below HB3.out HT.out.lt)
 go_wp2_with (first | (go_at_call 144;refine (HOF.out _ HT2.out).mono ?_;rintro e w' ⟨rfl,rfl⟩) | (go_at_call 143;refine (HUN.out _ (HV.out.below HB3.out)).mono ?_))
 rintro e w3 ⟨su,sr,rfl,hsu,hsr,hb3⟩
 by_cases hy:y=0
 ·subst hy
  have HO1:Hid (o=some (u0::us,q)):=Lib.hid (by rw [HO.out,if_pos rfl])
  have HUM:=Lib.hid (HUL.out rfl)
  have hn:=zz hsu
  obtain ⟨SB,sc,rfl,hs1,hs2,_,hs4,hs5⟩:=hn
  have HSU:=Lib.hid hsu
  rw [HUM.out] at HSU
  have HSR:=Lib.hid hsr
  have HB4:=Lib.hid (za HB3.out hb3)
  have HROW3:=Lib.hid (HROW.out.below hb3 hgw)
  have hgw3:=HROW3.out.lt
  rw [HUM.out]
  clear hsu hsr hs1 hs2 hs4 hs5
  have HS:=Lib.hid (show zrq f u0 us g w w3 (.int .i64 0) w3 from ⟨0,Nat.zero_le _,rfl,by
   have h:=HROW3.out
   rw [HPM.out,Nat.add_comm m 1,zgY] at h
   rw [List.take_zero,HUM.out,Nat.sub_zero]
   exact h,HB4.out,World.grownBy.refl _ _⟩)
  clear hb3
  go_wp2
  go_loopw [49] (zrq f u0 us g w w3) (fun i _=>m - (intOf i).toNat)
  case atStart=>exact HS.out
  case round =>
   obtain ⟨k,hk,rfl,hrow,hbw,hgr⟩:=hrel
   have HRW:=Lib.hid hrow
   have HBW:=Lib.hid hbw
   have HGR:=Lib.hid hgr
   have hkm:k≤m:=by have:=HUM.out;omega
   have hgwr:=hrow.lt
   clear hrow hbw hgr hk
   by_cases hlt:k < m
   ·have hkl:k < us.length:=by have:=HUM.out;omega
    have hlti:(k:Int) < (m:Int):=by omega
    have hkp:(k:Int)+1 < (p:Int):=by have:=HPM.out;omega
    have hV:IsV uv us (.slice SB m sc) wr:=zbk (zgT HSU.out HGR.out hgw)
    obtain ⟨ad,rfl,had,hcell⟩:=hV.at hkl
    obtain ⟨u,hue⟩:∃ u,u=us[k]:=⟨_,rfl⟩
    rw [←hue] at hcell
    unfold uv at hcell
    have hset:=HRW.out.set_ ((k+1)*2) (.int .u64 (us[k]:Int))
    rw [zvC hkl,←hue] at hset
    have HSET:=Lib.hid hset
    have hfx:=HRW.out.free ((k+1)*2)
    have hcu:∃ u,wr.cell? ⟨g,(k+1)*2,none⟩=some u:=by
     rw [HRW.out.cell]
     exact ⟨_,List.getElem?_eq_getElem (by rw [List.length_append,zc7,zeN,List.length_cons,List.length_take,zcc];omega)⟩
    obtain ⟨c0,hcu⟩:=hcu
    have HBS:=Lib.hid (HBW.out.setCell (p:=⟨g,(k+1)*2,none⟩) hwg (.int .u64 (u:Int)))
    have HGS:=Lib.hid (HGR.out.trans (zco wr g ((k+1)*2) (.int .u64 (u:Int))))
    clear hset hV hue
    go_wp2
    go_roundw
    case rel=>exact ⟨k+1,hkl,by go_num,HSET.out,HBS.out,HGS.out⟩
    case measure=>simp [intOf];omega
   ·obtain rfl:k=m:=by omega
    have hr:=HRW.out
    rw [HUM.out,Nat.sub_self,List.take_of_length_le (by rw [HUM.out];exact Nat.le_refl _),show reps 0 (u0,f)=[] from rfl,List.append_nil] at hr
    have HI:=Lib.hid (zf6 hr (show (zb1 f (u0::us)).length=p by rw [zeN,List.length_cons,HUM.out,HPM.out]) (by have:=HPM.out;omega))
    obtain ⟨nq,hq⟩:=HSR.out
    have HQ:=Lib.hid (show OwnB w q sr wr from ⟨nq,zbV (Nat.le_trans HB3.out.size (Nat.le_refl _)) (zgT hq HGR.out hgw)⟩)
    clear hr hq
    go_wp2
    go_ret3
    rw [HO1.out]
    exact ⟨_,_,rfl,HI.out,HQ.out,HBW.out⟩
 ·have hy2:(y != 0)=true:=by simpa using hy
  have HO1:Hid (o=none):=Lib.hid (by rw [HO.out,if_neg hy])
  have HB4:=Lib.hid (za HB3.out hb3)
  clear hsu hsr hb3 hy
  go_wp2
  go_ret3
  rw [HO1.out]
  exact ⟨rfl,HB4.out⟩
theorem zgZ {a b:Int} (h:(zC a b).2.2=true):(zC a b).2.1=decide (b < a)∧((zC a b).1=0→(zC a b).2.1=false):=by
 rcases zbO a b with ⟨k,_⟩ | ⟨k1,k2,k⟩ | ⟨k1,k2,k⟩
 ·rw [k] at h;cases h
 ·rw [k];exact ⟨(decide_eq_true k1).symm,fun h=>by dsimp only at h;omega⟩
 ·rw [k];exact ⟨(decide_eq_false (by omega)).symm,fun _=>rfl⟩
theorem zpk {l:List Int} {x:Int} (hx:x∈l) (h:x < 0):zy l false=none:=zb5 hx (by unfold zx;rw [if_neg (by decide),if_neg (by omega)])
theorem zhM {l:List Int} {s:Bool} (h:s=true∨∀ x∈l,0≤x):zy l s≠none:=by
 unfold zy
 induction l with
 | nil=>simp [omap]
 | cons x l ih =>
  have h1:∃ u,zx x s=some u:=by
   unfold zx
   rcases h with h | h
   ·rw [if_pos h];exact ⟨_,rfl⟩
   ·have:=h x List.mem_cons_self
    split
    ·exact ⟨_,rfl⟩
    ·first | exact ⟨_,rfl⟩ | (rw [if_pos this];exact ⟨_,rfl⟩)
  obtain ⟨u,hu⟩:=h1
  have h2:=ih (h.imp id fun h y hy=>h y (List.mem_cons_of_mem _ hy))
  rw [omap,hu]
  dsimp only
  cases hr:omap (zx · s) l with
  | none=>exact absurd hr h2
  | some r=>simp
theorem ziV {α β:Type} {f:α→Option β} {g:α→β}:∀ {l:List α},(∀ x∈l,f x=some (g x))→omap f l=some (l.map g)
 | [],_=>rfl
 | x::l,h=>by
  rw [omap,h x List.mem_cons_self,ziV fun y hy=>h y (List.mem_cons_of_mem _ hy)]
  rfl
section
variable {l:List Int} {k:Nat}
theorem zrr {f:Bool} {i:Nat} (h:(zH l i).2.2=false):gat l f i=none:=zn5 (by unfold zH at h;rw [h];simp)
theorem zdD (i:Nat) (h:i < k):(zl l k)[i]? = some (zep (zH l i)):=by
 unfold zl
 rw [List.getElem?_map,List.getElem?_range h]
 rfl
theorem zf8 {d:Nat × Bool} (h:d∈zl l k):∃ i,i < k∧d=zep (zH l i):=by
 obtain ⟨i,hi,rfl⟩:=List.mem_map.1 h
 exact ⟨i,List.mem_range.1 hi,rfl⟩
theorem zd2 (h:0 < k):(zl l k).headD (0,false)=zep (zH l 0):=by
 have h1:=zdD (l:=l) 0 h
 cases hg:zl l k with
 | nil=>rw [hg] at h1;cases h1
 | cons a t=>rw [hg] at h1;injection h1
theorem ziW (hk:0 < k) (hok:∀ i,i < k→(zH l i).2.2=true) (hw:dway (zl l k)=true):zbP l (zbG l) k=some (zA (zl l k)):=by
 unfold zbP zA zl
 rw [List.map_map]
 refine ziV fun i hi=>?_
 have hi:=List.mem_range.1 hi
 have h0:=zgZ (hok 0 hk)
 have hf:zbG l=(zH l 0).2.1:=h0.1.symm
 unfold dway at hw
 rw [zd2 hk] at hw
 have h1:zb7 (zep (zH l 0)).2 (zep (zH l i))=false:=by
  have h2:((zl l k).any (zb7 (zep (zH l 0)).2))=false:=by simpa using hw
  rw [List.any_eq_false] at h2
  have h3:=h2 _ (List.mem_of_getElem? (zdD (l:=l) i hi))
  simpa using h3
 refine ztv (hok i hi) ?_
 rw [hf]
 unfold zb7 zep at h1
 dsimp only at h1
 by_cases hz:(zH l i).1=0
 ·exact .inl hz
 ·right
  have h4:((zH l i).1 != 0)=true:=by simpa using hz
  rw [h4,Bool.true_and] at h1
  show (zH l i).2.1=(zH l 0).2.1
  simpa using h1
theorem zhN (hk:0 < k) (hok:∀ i,i < k→(zH l i).2.2=true) (hw:dway (zl l k)=false):zbP l (zbG l) k=none:=by
 unfold dway at hw
 rw [zd2 hk] at hw
 have h2:((zl l k).any (zb7 (zep (zH l 0)).2))=true:=by simpa using hw
 obtain ⟨d,hd,ht⟩:=List.any_eq_true.1 h2
 obtain ⟨i,hi,rfl⟩:=zf8 hd
 have hf:zbG l=(zH l 0).2.1:=(zgZ (hok 0 hk)).1.symm
 refine zfc hi (zn5 ?_)
 rw [hf]
 unfold zb7 zep at ht
 dsimp only at ht
 rw [Bool.and_eq_true] at ht
 rintro ⟨_,h | h⟩
 ·unfold zH at ht;rw [h] at ht;simp at ht
 ·unfold zH at ht;rw [h] at ht;unfold zH at ht;simp at ht
theorem zkW (hk:0 < k) (hok:∀ i,i < k→(zH l i).2.2=true) (hw:dway (zl l k)=true):zhH (zl l k)=gall (zA (zl l k)):=by
 have hhead:=zd2 (l:=l) hk
 have hs:(zA (zl l k)).headD 0=((zl l k).headD (0,false)).1:=by unfold zA;cases zl l k <;> rfl
 unfold zhH gall
 rw [hs]
 unfold zA
 rw [List.all_map]
 rw [Bool.eq_iff_iff,List.all_eq_true,List.all_eq_true]
 constructor
 ·intro h d hd
  have h1:d=(zl l k).headD (0,false):=by simpa using h d hd
  show ((d.1 == ((zl l k).headD (0,false)).1))=true
  rw [←h1];simp
 ·intro h d hd
  have h1:d.1=((zl l k).headD (0,false)).1:=by have:=h d hd;simpa using this
  have h2:d.2=((zl l k).headD (0,false)).2:=by
   by_cases hz:d.1=0
   ·have ha:∀ e∈zl l k,e.1=0→e.2=false:=by
     intro e he h0
     obtain ⟨i,hi,rfl⟩:=zf8 he
     exact (zgZ (hok i hi)).2 h0
    rw [ha d hd hz]
    have hm:(zl l k).headD (0,false)∈zl l k:=by rw [hhead];exact List.mem_of_getElem? (zdD (l:=l) 0 hk)
    exact (ha _ hm (by rw [←h1];exact hz)).symm
   ·unfold dway at hw
    have h3:((zl l k).any (zb7 ((zl l k).headD (0,false)).2))=false:=by simpa using hw
    rw [List.any_eq_false] at h3
    have h4:=h3 d hd
    unfold zb7 at h4
    have h5:(d.1 != 0)=true:=by simpa using hz
    rw [h5,Bool.true_and] at h4
    simpa using h4
  have h3:d=(zl l k).headD (0,false):=Prod.ext h1 h2
  rw [←h3];simp
theorem ztC:∀ d∈zl l k,d.1 < 2 ^ 63:=by
 intro d hd
 obtain ⟨i,_,rfl⟩:=zf8 hd
 have:=zdj (l.getD i 0) (l.getD (i+1) 0)
 show (zC (l.getD i 0) (l.getD (i+1) 0)).1 < 9223372036854775808
 omega
theorem ziX (hk:0 < k) (hok:∀ i,i < k→(zH l i).2.2=true):zbi 0 (zH l 0).1 (zH l 0).2.1=(zfD l (zA (zl l k)),true):=by
 have hs:(zA (zl l k)).headD 0=(zH l 0).1:=by
  have h:=zd2 (l:=l) hk
  have h2:(zA (zl l k)).headD 0=((zl l k).headD (0,false)).1:=by unfold zA;cases zl l k <;> rfl
  rw [h2,h];rfl
 have hf:zbG l=(zH l 0).2.1:=(zgZ (hok 0 hk)).1.symm
 have hlt:=zdj (l.getD 0 0) (l.getD (0+1) 0)
 unfold zfD
 rw [hs,hf]
 unfold zbi
 rw [if_neg (by unfold zH;omega)]
 cases hb:(zH l 0).2.1 with
 | true =>
  simp only [if_true]
  rw [if_neg (by unfold zH;omega)];congr 1;omega
 | false =>
  simp only [Bool.false_eq_true,if_false]
  rw [if_neg (by unfold zH;omega)];congr 1;omega
theorem zpl:zA (zl l k).tail=(zA (zl l k)).tail:=by unfold zA;rw [List.map_tail]
end
theorem ziY {us:List Nat} (h:gall us=true):zfd us=[]∧gnum us=0:=⟨by unfold zfd;rw [if_pos h],by unfold gnum;rw [if_pos h]⟩
theorem ziZ {us:List Nat} (h:gall us=false):zfd us=zbx us.tail (zee us.tail)∧gnum us=zin us.tail:=by
 have h2:¬gall us=true:=by rw [h];decide
 exact ⟨by unfold zfd;rw [if_neg h2],by unfold gnum;rw [if_neg h2]⟩
theorem zkX (l:List Int) (m:Nat) (v:Value) (w:World) (ht:WTab w) (hd:IsR dc (zl l m) v w) (h1:1≤m) (h5:m≤511) (hs:zhH (zl l m)=gall (zA (zl l m))) :
  Calls Tryz.prog 150 #[v] w (zuV w (gnum (zA (zl l m))) (zfd (zA (zl l m)))):=by
 cases h:gall (zA (zl l m)) with
 | true =>
  rw [(ziY h).1,(ziY h).2]
  exact zro _ v w hd (by rw [zK];omega) (by rw [hs,h])
 | false =>
  rw [(ziZ h).1,(ziZ h).2,←zpl]
  exact zrp _ v w ht hd (by rw [zK];omega) (by rw [zK];omega) (by rw [hs,h]) ztC
theorem zrs {us:List Nat} (h:∀ u∈us,u < 2 ^ 64):gnum us≤31:=by
 unfold gnum
 split
 ·omega
 ·exact (zc4 fun u hu=>h u (List.mem_of_mem_tail hu)).2.2.2.2.2.2.1
theorem zhO {us:List Nat} (hl:us.length≤512) (h:∀ u∈us,u < 2 ^ 64):(zfd us).length≤5000:=by
 unfold zfd
 split
 ·simp
 ·rw [zcK]
  have h1:(us.tail).length≤512:=by rw [List.length_tail];omega
  have h2:=(zc4 fun u hu=>h u (List.mem_of_mem_tail hu)).2.2.2.2.1
  exact Nat.le_trans (zhx h1 h2) (by omega)
theorem ztD (l:List Int) (v:Value) (s:Bool) (w:World) (ht:WTab w) (hv:IsV iv l v w) (hl:∀ x∈l,inInt x) (hb:l.length≤1000000):Calls Tryz.prog 120 #[v,.bool s] w (RetEO w (zeo l s)):=by
 obtain ⟨A,n,c,rfl⟩:=hv.shape
 have hn:=hv.len
 by_cases h2:n < 2∨512 < n
 ·have hE:=Lib.hid (zn6 (s:=s) (.inr (by rw [←hn];exact h2):zy l s=none∨l.length < 2∨512 < l.length))
  have HC:=Lib.hid (zrg (n:Int) w (by omega))
  clear hv hl hb hn h2 ht
  go_enter Tryz.func120,Tryz.ntmps120
  go_wp2_with (go_at_call 146;refine HC.out.mono ?_;rintro e w' ⟨rfl,rfl⟩)
  go_ret2
  rw [hE.out]
  exact RetEO.nil _ (Below.refl _ _)
 ·have HN:=Lib.hid hn
  have HV:=Lib.hid hv
  have HT:=Lib.hid ht
  have HL:=Lib.hid hl
  have HC:=Lib.hid (zpe (n:Int) w (by omega) (by omega))
  have hn2:2≤n:=by omega
  have hn5:n≤512:=by omega
  obtain ⟨m,hm⟩:∃ m,m=n - 1:=⟨_,rfl⟩
  have HM:=Lib.hid (show l.length - 1=m by omega)
  have hm1:1≤m:=by omega
  have hm5:m≤511:=by omega
  have HL0:=Lib.hid (show inInt (l.headD 0) by
   cases l with
   | nil=>unfold inInt;simp
   | cons a t=>exact hl a List.mem_cons_self)
  have hne:l≠[]:=by rintro rfl;simp at hn;omega
  have HMIN:=Lib.hid (zrj l (.slice A n c) w hv (by omega) hb)
  have HNEG:=Lib.hid (zty hne)
  obtain ⟨mn,hmn⟩:∃ mn,mn=lmin l:=⟨_,rfl⟩
  rw [←hmn] at HMIN HNEG
  have HDF:=Lib.hid (zrn l (.slice A n c) w hv hl (by omega) hb)
  clear hv ht hl hb h2 hn hne hmn hm
  cases s with
  | true =>
   have HPL:=Lib.hid (zhM (l:=l) (s:=true) (.inl rfl))
   go_enter Tryz.func120,Tryz.ntmps120
   go_wp2_with (first | (go_at_call 146;refine HC.out.mono ?_;rintro e w' ⟨rfl,rfl⟩) | (go_at_call 147;refine HMIN.out.mono ?_;rintro e w' ⟨rfl,rfl⟩) | (go_at_call 148;refine HDF.out.mono ?_))
   rintro e w1 (⟨hok,dv1,rfl,hd1,hb1⟩ | ⟨⟨i,hi,hbad⟩,rfl,hb1⟩)
   ·have HOK:=Lib.hid (show ∀ i,i < m→(zH l i).2.2=true from fun i hi=>hok i (by have:=HN.out;have:=HM.out;omega))
    rw [HM.out] at hd1
    obtain ⟨DA,dn,dcap,rfl⟩:=hd1.shape
    have hdn:dn=m:=by have:=hd1.parts.1;rw [zK] at this;omega
    subst hdn
    have HD1:=Lib.hid hd1
    have HB1:=Lib.hid hb1
    have HT1:=Lib.hid (HT.out.below hb1 HT.out.lt)
    have HWAY:=Lib.hid (zrm (zl l dn) (.slice DA dn dcap) w1 hd1 (by rw [zK];exact hm1) (by rw [zK];omega))
    clear hok hd1 hb1
    cases hway:dway (zl l dn) with
    | false =>
     have hE:=Lib.hid (zeJ (s:=true) (show zbP l (zbG l) (l.length - 1)=none by rw [HM.out];exact zhN hm1 HOK.out hway))
     rw [hway] at HWAY
     clear hway
     go_wp2_with (go_at_call 149;refine HWAY.out.mono ?_;rintro e w2 ⟨rfl,hb2⟩)
     go_ret2
     rw [hE.out]
     exact RetEO.nil _ (za HB1.out hb2)
    | true =>
     have HSZ:=Lib.hid (ziW hm1 HOK.out hway)
     have HSM:=Lib.hid (zkW hm1 HOK.out hway)
     have hst:=ziX hm1 HOK.out
     have hE:=ziT (s:=true) HPL.out (by have:=HN.out;omega) (by have:=HN.out;omega) (show zbP l (zbG l) (l.length - 1)=some (zA (zl l dn)) by rw [HM.out];exact HSZ.out)
     have hfi:=(zfe (l:=l) (us:=zA (zl l dn)) (by have:=HN.out;omega) (by rw [HM.out];exact HSZ.out)).2
     have h64:=zfC HSZ.out
     have HPK:=Lib.hid (fun (w:World) ht hd=>zkX l dn (.slice DA dn dcap) w ht hd hm1 (by omega) HSM.out)
     have hgn:=zrs h64
     have HTB:=Lib.hid (zhO (us:=zA (zl l dn)) (by rw [show (zA (zl l dn)).length=dn by unfold zA;rw [List.length_map,zK]];omega) h64)
     unfold glay at hE
     obtain ⟨us,hus⟩:∃ us,us=zA (zl l dn):=⟨_,rfl⟩
     rw [←hus] at hE hst hfi HPK hgn HTB
     obtain ⟨G,hG⟩:∃ G,G=gnum us:=⟨_,rfl⟩
     obtain ⟨tl,htl⟩:∃ tl,tl=zfd us:=⟨_,rfl⟩
     obtain ⟨x1,hx1⟩:∃ x1,x1=zfD l us:=⟨_,rfl⟩
     obtain ⟨x0,hx0⟩:∃ x0,x0=l.headD 0:=⟨_,rfl⟩
     rw [←hG,←htl,←hx1,←hx0,←HN.out] at hE
     rw [←hG,←htl] at HPK
     rw [←hG] at hgn
     rw [←htl] at HTB
     rw [←hx1] at hst hfi
     obtain ⟨u0,f0,ok0,hd0⟩:∃ u0 f0 ok0,zH l 0=(u0,f0,ok0):=⟨_,_,_,rfl⟩
     have hu0:(u0:Int) < 18446744073709551616:=by have h:=zdj (l.getD 0 0) (l.getD (0+1) 0);unfold zH at hd0;rw [hd0] at h;dsimp only at h;omega
     rw [hd0] at hst
     have HSP:=Lib.hid (fun (w:World)=>zgX 0 u0 f0 w (by unfold inInt;omega) hu0)
     rw [hst] at HSP
     unfold RetG at HSP
     have HE2:=Lib.hid hE
     have HX1:=Lib.hid hfi
     have HG31:=Lib.hid hgn
     have HX0:=Lib.hid (show inInt x0 by rw [hx0];exact HL0.out)
     have HC0:=Lib.hid (show ∀ W,Below w.heap.size w W→∃ ad,A=some ad∧ad.block < W.heap.size∧W.cell? (ad.add 0)=some (.int .i64 x0) from fun W hW=>by
      obtain ⟨ad,e1,e2,e3⟩:=(HV.out.below hW).at (k:=0) (by have:=HN.out;omega)
      refine ⟨ad,e1,e2,?_⟩
      rw [e3,hx0]
      cases l with
      | nil=>have:=HN.out;simp at this;omega
      | cons a t=>rfl)
     have HDC:=Lib.hid (show ∀ W,IsR dc (zl l dn) (.slice DA dn dcap) W→∃ ad,DA=some ad∧ad.block < W.heap.size∧W.cell? ad=some (.int .u64 (u0:Int))∧W.cell? ⟨ad.block,ad.off+1,none⟩=some (.bool f0) from fun W hW=>by
      obtain ⟨ad,e1,e2,e3⟩:=hW.at (m:=2) zdl (by omega) (k:=0) (by rw [zK];exact hm1)
      have e4:(zl l dn)[0]? = some (u0,f0):=by rw [zdD 0 hm1,hd0];rfl
      rw [List.getElem?_eq_getElem (by rw [zK];exact hm1)] at e4
      injection e4 with e4
      rw [e4] at e3
      have k0:=zhF e3
      rw [Nat.zero_mul] at k0
      have ha0:ad.add 0=ad:=by simp [Addr.add]
      rw [ha0] at k0
      exact ⟨ad,e1,e2,k0.1,k0.2⟩)
     rw [hway] at HWAY
     clear hway hE hst hfi h64 hgn hus hG htl hx1 hx0 hd0 hu0
     go_wp2_with fail
     refine HWAY.out.mono ?_
     rintro e w2 ⟨rfl,hb2⟩
     have HB2:=Lib.hid (za HB1.out hb2)
     have HT2:=Lib.hid (HT1.out.below hb2 HT1.out.lt)
     have HD2:=Lib.hid (HD1.out.below hb2)
     clear hb2
     go_wp2_with fail
     refine (HPK.out w2 HT2.out HD2.out).mono ?_
     rintro e w3 ⟨pv,rfl,hp3,hb3⟩
     have HB3:=Lib.hid (za HB2.out hb3)
     have HT3:=Lib.hid (HT2.out.below hb3 HT2.out.lt)
     have HP3:=Lib.hid hp3
     obtain ⟨da,rfl,hda,hdc1,hdc2⟩:=HDC.out w3 (HD2.out.below hb3)
     clear hb3 hp3
     have ha0:da.add 0=da:=by simp [Addr.add]
     go_wp2_with fail
     refine (HSP.out w3).mono ?_
     rintro e w4 ⟨rfl,hb4⟩
     have HB4:=Lib.hid (za HB3.out hb4)
     have HT4:=Lib.hid (HT3.out.below hb4 HT3.out.lt)
     have HP4:=Lib.hid (IsB.below HP3.out hb4)
     clear hb4 hdc1 hdc2 hda ha0
     go_wp2
     obtain ⟨ad,rfl,had,_⟩:=HC0.out w4 HB4.out
     refine wp_region_list [.is (.int .i64 (G:Int)),.is (.slice (some ad) n c),.is (.int .i64 (n:Int)),.bytes (zE 3 G n),.is (.slice (some ad) n c),.is (.pointer (some (ad.add 0))),.is (.int .i64 x0),.is (.bool true),.bytes (zE 3 G n ++ vput (vint x0 true)),.bytes (zE 3 G n ++ vput (vint x0 true))] [some 55,some 56,some 57,some 58,some 59,some 60,some 61,some 62,some 63,some 13] (by kernel_rfl) (by kernel_rfl) (by kernel_rfl) rfl ⟨?_,?_,?_,?_,?_,?_,?_,?_,?_,?_,trivial⟩ ?_
     ·intro ρ W1 hb1 H
      exact zd rfl (H.old 8 _ (by kernel_rfl) rfl) ⟨rfl,Below.refl _ _⟩
     ·intro ρ W1 hb1 H
      exact zd rfl (H.old 0 _ (by kernel_rfl) rfl) ⟨rfl,Below.refl _ _⟩
     ·intro ρ W1 hb1 H
      exact zbL Tryz.underlying34 rfl (H.new 56 1 (by kernel_rfl)) ⟨rfl,Below.refl _ _⟩
     ·intro ρ W1 hb1 H
      have e0:ρ (.tmp 55)=.int .i64 (G:Int):=H.new 55 0 (by kernel_rfl)
      have e1:ρ (.tmp 57)=.int .i64 (n:Int):=H.new 57 2 (by kernel_rfl)
      refine zj rfl (fun _ _=>by kernel_rfl) (H.func _) (args:=#[.int .i64 3,.int .i64 (G:Int),.int .i64 (n:Int)]) (by simp [e0,e1,H.const]) ?_
      have hG:=HG31.out
      refine (zkL 3 (G:Int) (n:Int) W1 (HT4.out.below hb1 HT4.out.lt) (by unfold inInt;omega) (by unfold inInt;omega) (by unfold inInt;omega)).mono ?_
      rintro e w' ⟨u,h1,h2,h3⟩
      rw [show ((3:Int))=((3:Nat):Int) from rfl,zfu (by omega) hG (by omega) (by omega)] at h2
      exact ⟨_,h1,h2,h3⟩
     ·intro ρ W1 hb1 H
      exact zd rfl (H.old 0 _ (by kernel_rfl) rfl) ⟨rfl,Below.refl _ _⟩
     ·intro ρ W1 hb1 H
      exact zw (k:=0) zck rfl (H.new 59 4 (by kernel_rfl)) (H.const _) (by omega) ⟨rfl,Below.refl _ _⟩
     ·intro ρ W1 hb1 H
      obtain ⟨ad',e1,_,e2⟩:=HC0.out W1 (za HB4.out hb1)
      injection e1 with e1
      subst e1
      exact zf rfl (H.new 60 5 (by kernel_rfl)) Tryz.underlying3 rfl e2 ⟨rfl,Below.refl _ _⟩
     ·intro ρ W1 hb1 H
      exact zd rfl (H.old 1 _ (by kernel_rfl) rfl) ⟨rfl,Below.refl _ _⟩
     ·intro ρ W1 hb1 H
      have e0:IsB (zE 3 G n) (ρ (.tmp 58)) W1:=H.new 58 3 (by kernel_rfl)
      have e1:ρ (.tmp 61)=.int .i64 x0:=H.new 61 6 (by kernel_rfl)
      have e2:ρ (.tmp 62)=.bool true:=H.new 62 7 (by kernel_rfl)
      obtain ⟨hv,hhv⟩:∃ hv,hv=ρ (.tmp 58):=⟨_,rfl⟩
      rw [←hhv] at e0
      refine zj rfl (fun _ _=>by kernel_rfl) (H.func _) (args:=#[hv,.int .i64 x0,.bool true]) (by simp [hhv,e1,e2]) ?_
      exact (ziF x0 true e0 (by rw [zV];omega) HX0.out.1 HX0.out.2).mono fun e w' ⟨u,h1,h2,h3⟩=>⟨_,h1,h2,h3⟩
     ·intro ρ W1 hb1 H
      exact ze rfl rfl ⟨H.new 63 8 (by kernel_rfl),Below.refl _ _⟩
     ·intro vs W1 hb1 hfs
      have f9:IsB (zE 3 G n ++ vput (vint x0 true)) (vs 9) W1:=hfs 9 (by decide)
      clear hfs
      simp only [zr,Nat.zero_add,Nat.reduceAdd]
      generalize vs 0=z0
      generalize vs 1=z1
      generalize vs 2=z2
      generalize vs 3=z3
      generalize vs 4=z4
      generalize vs 5=z5
      generalize vs 6=z6
      generalize vs 7=z7
      generalize vs 8=z8
      generalize vs 9=z9 at f9 ⊢
      simp only [Act.put,List.setIfInBounds_toArray,List.set_cons_succ,List.set_cons_zero]
      have HO:=Lib.hid f9
      have HBa:=Lib.hid (za HB4.out hb1)
      have HP5:=Lib.hid (IsB.below HP4.out hb1)
      have HLN:=Lib.hid (show (zE 3 G n ++ vput (vint x0 true)).length≤1000 by rw [List.length_append,zV];have:=zbE (x:=vint x0 true) (zjK HX0.out);omega)
      clear f9 hb1
      go_wp2_with fail
      refine (ziG x1 true HO.out (by have:=HLN.out;omega) HX1.out.1 HX1.out.2).mono ?_
      rintro e w6 ⟨v6,rfl,hown6,hb6⟩
      have hp6:=IsB.below HP5.out hb6
      obtain ⟨A7,n7,c7,rfl⟩:=IsV.shape (f:=bv) hp6
      obtain ⟨hn7,hA7,-,-,hl7⟩:=IsV.parts (f:=bv) (show IsV bv _ _ _ from hp6)
      have hM7:(tl.map bv).length=n7:=by rw [List.length_map];exact hn7
      have hn7b:n7≤5000:=by rw [←hn7];exact HTB.out
      have HM7:=Lib.hid hM7
      have hzz6:=hb6.size
      obtain ⟨K6,hK6⟩:∃ K,K=(zE 3 G n ++ vput (vint x0 true) ++ vput (vint x1 true)).length:=⟨_,rfl⟩
      have hK6b:K6≤2000:=by rw [hK6,List.length_append];have:=zbE (x:=vint x1 true) (zjK HX1.out);have:=HLN.out;omega
      rw [←hK6] at hown6
      have HK6:=Lib.hid hK6
      obtain ⟨xs6,hx6⟩:∃ xs,xs=(zE 3 G n ++ vput (vint x0 true) ++ vput (vint x1 true)).map bv:=⟨_,rfl⟩
      rw [←hx6] at hown6
      have HX6:=Lib.hid hx6
      clear hp6 hM7 hn7 hK6 hx6
      go_wp2_with (at_builtin;refine zk elemB rfl _ _ rfl W1.heap.size _ _ _ _ _ _ (tl.map bv) W1 rfl rfl hA7 HM7.out hl7 (zbv _) hown6 hb6 hzz6 (by omega) (by omega) ?_)
      intro v8 w8 hown8 hb8 _ _
      have HI9:=Lib.hid (show w8.ownsRow w.heap.size 5 1 v8 (zE 3 G n ++ vput (vint x0 true) ++ vput (vint x1 true) ++ tl).length ((zE 3 G n ++ vput (vint x0 true) ++ vput (vint x1 true) ++ tl).map bv) by
       rw [List.map_append,←HX6.out,List.length_append,←HK6.out,show tl.length=n7 by have:=HM7.out;rwa [List.length_map] at this]
       exact zbV HBa.out.size hown8)
      have HB9:=Lib.hid (za HBa.out hb8)
      clear hown8 hb8 hown6 hzz6
      go_wp2
      go_ret2
      rw [HE2.out]
      exact ⟨_,rfl,HI9.out,HB9.out⟩
   ·have hE:=Lib.hid (zeJ (s:=true) (show zbP l (zbG l) (l.length - 1)=none from zfc (k:=i) (by omega) (zrr hbad)))
    clear hi hbad
    go_wp2
    go_ret2
    rw [hE.out]
    exact RetEO.nil _ hb1
  | false =>
   by_cases h0:mn < 0
   ·have d0:decide (mn < 0)=true:=decide_eq_true h0
    have hE:=Lib.hid (zn6 (l:=l) (s:=false) (.inl (by obtain ⟨x,hx,hx0⟩:=HNEG.out.1 h0;exact zpk hx hx0)))
    clear h0
    go_enter Tryz.func120,Tryz.ntmps120
    go_wp2_with (first | (go_at_call 146;refine HC.out.mono ?_;rintro e w' ⟨rfl,rfl⟩) | (go_at_call 147;refine HMIN.out.mono ?_;rintro e w' ⟨rfl,rfl⟩))
    go_ret2
    rw [hE.out]
    exact RetEO.nil _ (Below.refl _ _)
   have d0:decide (mn < 0)=false:=decide_eq_false h0
   have HPL:=Lib.hid (zhM (l:=l) (s:=false) (.inr fun x hx=>by
    by_cases h:x < 0
    ·exact absurd (HNEG.out.2 ⟨x,hx,h⟩) h0
    ·omega))
   clear h0
   go_enter Tryz.func120,Tryz.ntmps120
   go_wp2_with (first | (go_at_call 146;refine HC.out.mono ?_;rintro e w' ⟨rfl,rfl⟩) | (go_at_call 147;refine HMIN.out.mono ?_;rintro e w' ⟨rfl,rfl⟩) | (go_at_call 148;refine HDF.out.mono ?_))
   rintro e w1 (⟨hok,dv1,rfl,hd1,hb1⟩ | ⟨⟨i,hi,hbad⟩,rfl,hb1⟩)
   ·have HOK:=Lib.hid (show ∀ i,i < m→(zH l i).2.2=true from fun i hi=>hok i (by have:=HN.out;have:=HM.out;omega))
    rw [HM.out] at hd1
    obtain ⟨DA,dn,dcap,rfl⟩:=hd1.shape
    have hdn:dn=m:=by have:=hd1.parts.1;rw [zK] at this;omega
    subst hdn
    have HD1:=Lib.hid hd1
    have HB1:=Lib.hid hb1
    have HT1:=Lib.hid (HT.out.below hb1 HT.out.lt)
    have HWAY:=Lib.hid (zrm (zl l dn) (.slice DA dn dcap) w1 hd1 (by rw [zK];exact hm1) (by rw [zK];omega))
    clear hok hd1 hb1
    cases hway:dway (zl l dn) with
    | false =>
     have hE:=Lib.hid (zeJ (s:=false) (show zbP l (zbG l) (l.length - 1)=none by rw [HM.out];exact zhN hm1 HOK.out hway))
     rw [hway] at HWAY
     clear hway
     go_wp2_with (go_at_call 149;refine HWAY.out.mono ?_;rintro e w2 ⟨rfl,hb2⟩)
     go_ret2
     rw [hE.out]
     exact RetEO.nil _ (za HB1.out hb2)
    | true =>
     have HSZ:=Lib.hid (ziW hm1 HOK.out hway)
     have HSM:=Lib.hid (zkW hm1 HOK.out hway)
     have hst:=ziX hm1 HOK.out
     have hE:=ziT (s:=false) HPL.out (by have:=HN.out;omega) (by have:=HN.out;omega) (show zbP l (zbG l) (l.length - 1)=some (zA (zl l dn)) by rw [HM.out];exact HSZ.out)
     have hfi:=(zfe (l:=l) (us:=zA (zl l dn)) (by have:=HN.out;omega) (by rw [HM.out];exact HSZ.out)).2
     have h64:=zfC HSZ.out
     have HPK:=Lib.hid (fun (w:World) ht hd=>zkX l dn (.slice DA dn dcap) w ht hd hm1 (by omega) HSM.out)
     have hgn:=zrs h64
     have HTB:=Lib.hid (zhO (us:=zA (zl l dn)) (by rw [show (zA (zl l dn)).length=dn by unfold zA;rw [List.length_map,zK]];omega) h64)
     unfold glay at hE
     obtain ⟨us,hus⟩:∃ us,us=zA (zl l dn):=⟨_,rfl⟩
     rw [←hus] at hE hst hfi HPK hgn HTB
     obtain ⟨G,hG⟩:∃ G,G=gnum us:=⟨_,rfl⟩
     obtain ⟨tl,htl⟩:∃ tl,tl=zfd us:=⟨_,rfl⟩
     obtain ⟨x1,hx1⟩:∃ x1,x1=zfD l us:=⟨_,rfl⟩
     obtain ⟨x0,hx0⟩:∃ x0,x0=l.headD 0:=⟨_,rfl⟩
     rw [←hG,←htl,←hx1,←hx0,←HN.out] at hE
     rw [←hG,←htl] at HPK
     rw [←hG] at hgn
     rw [←htl] at HTB
     rw [←hx1] at hst hfi
     obtain ⟨u0,f0,ok0,hd0⟩:∃ u0 f0 ok0,zH l 0=(u0,f0,ok0):=⟨_,_,_,rfl⟩
     have hu0:(u0:Int) < 18446744073709551616:=by have h:=zdj (l.getD 0 0) (l.getD (0+1) 0);unfold zH at hd0;rw [hd0] at h;dsimp only at h;omega
     rw [hd0] at hst
     have HSP:=Lib.hid (fun (w:World)=>zgX 0 u0 f0 w (by unfold inInt;omega) hu0)
     rw [hst] at HSP
     unfold RetG at HSP
     have HE2:=Lib.hid hE
     have HX1:=Lib.hid hfi
     have HG31:=Lib.hid hgn
     have HX0:=Lib.hid (show inInt x0 by rw [hx0];exact HL0.out)
     have HC0:=Lib.hid (show ∀ W,Below w.heap.size w W→∃ ad,A=some ad∧ad.block < W.heap.size∧W.cell? (ad.add 0)=some (.int .i64 x0) from fun W hW=>by
      obtain ⟨ad,e1,e2,e3⟩:=(HV.out.below hW).at (k:=0) (by have:=HN.out;omega)
      refine ⟨ad,e1,e2,?_⟩
      rw [e3,hx0]
      cases l with
      | nil=>have:=HN.out;simp at this;omega
      | cons a t=>rfl)
     have HDC:=Lib.hid (show ∀ W,IsR dc (zl l dn) (.slice DA dn dcap) W→∃ ad,DA=some ad∧ad.block < W.heap.size∧W.cell? ad=some (.int .u64 (u0:Int))∧W.cell? ⟨ad.block,ad.off+1,none⟩=some (.bool f0) from fun W hW=>by
      obtain ⟨ad,e1,e2,e3⟩:=hW.at (m:=2) zdl (by omega) (k:=0) (by rw [zK];exact hm1)
      have e4:(zl l dn)[0]? = some (u0,f0):=by rw [zdD 0 hm1,hd0];rfl
      rw [List.getElem?_eq_getElem (by rw [zK];exact hm1)] at e4
      injection e4 with e4
      rw [e4] at e3
      have k0:=zhF e3
      rw [Nat.zero_mul] at k0
      have ha0:ad.add 0=ad:=by simp [Addr.add]
      rw [ha0] at k0
      exact ⟨ad,e1,e2,k0.1,k0.2⟩)
     rw [hway] at HWAY
     clear hway hE hst hfi h64 hgn hus hG htl hx1 hx0 hd0 hu0
     go_wp2_with fail
     refine HWAY.out.mono ?_
     rintro e w2 ⟨rfl,hb2⟩
     have HB2:=Lib.hid (za HB1.out hb2)
     have HT2:=Lib.hid (HT1.out.below hb2 HT1.out.lt)
     have HD2:=Lib.hid (HD1.out.below hb2)
     clear hb2
     go_wp2_with fail
     refine (HPK.out w2 HT2.out HD2.out).mono ?_
     rintro e w3 ⟨pv,rfl,hp3,hb3⟩
     have HB3:=Lib.hid (za HB2.out hb3)
     have HT3:=Lib.hid (HT2.out.below hb3 HT2.out.lt)
     have HP3:=Lib.hid hp3
     obtain ⟨da,rfl,hda,hdc1,hdc2⟩:=HDC.out w3 (HD2.out.below hb3)
     clear hb3 hp3
     have ha0:da.add 0=da:=by simp [Addr.add]
     go_wp2_with fail
     refine (HSP.out w3).mono ?_
     rintro e w4 ⟨rfl,hb4⟩
     have HB4:=Lib.hid (za HB3.out hb4)
     have HT4:=Lib.hid (HT3.out.below hb4 HT3.out.lt)
     have HP4:=Lib.hid (IsB.below HP3.out hb4)
     clear hb4 hdc1 hdc2 hda ha0
     go_wp2
     obtain ⟨ad,rfl,had,_⟩:=HC0.out w4 HB4.out
     refine wp_region_list [.is (.int .i64 (G:Int)),.is (.slice (some ad) n c),.is (.int .i64 (n:Int)),.bytes (zE 3 G n),.is (.slice (some ad) n c),.is (.pointer (some (ad.add 0))),.is (.int .i64 x0),.is (.bool false),.bytes (zE 3 G n ++ vput (vint x0 false)),.bytes (zE 3 G n ++ vput (vint x0 false))] [some 55,some 56,some 57,some 58,some 59,some 60,some 61,some 62,some 63,some 13] (by kernel_rfl) (by kernel_rfl) (by kernel_rfl) rfl ⟨?_,?_,?_,?_,?_,?_,?_,?_,?_,?_,trivial⟩ ?_
     ·intro ρ W1 hb1 H
      exact zd rfl (H.old 8 _ (by kernel_rfl) rfl) ⟨rfl,Below.refl _ _⟩
     ·intro ρ W1 hb1 H
      exact zd rfl (H.old 0 _ (by kernel_rfl) rfl) ⟨rfl,Below.refl _ _⟩
     ·intro ρ W1 hb1 H
      exact zbL Tryz.underlying34 rfl (H.new 56 1 (by kernel_rfl)) ⟨rfl,Below.refl _ _⟩
     ·intro ρ W1 hb1 H
      have e0:ρ (.tmp 55)=.int .i64 (G:Int):=H.new 55 0 (by kernel_rfl)
      have e1:ρ (.tmp 57)=.int .i64 (n:Int):=H.new 57 2 (by kernel_rfl)
      refine zj rfl (fun _ _=>by kernel_rfl) (H.func _) (args:=#[.int .i64 3,.int .i64 (G:Int),.int .i64 (n:Int)]) (by simp [e0,e1,H.const]) ?_
      have hG:=HG31.out
      refine (zkL 3 (G:Int) (n:Int) W1 (HT4.out.below hb1 HT4.out.lt) (by unfold inInt;omega) (by unfold inInt;omega) (by unfold inInt;omega)).mono ?_
      rintro e w' ⟨u,h1,h2,h3⟩
      rw [show ((3:Int))=((3:Nat):Int) from rfl,zfu (by omega) hG (by omega) (by omega)] at h2
      exact ⟨_,h1,h2,h3⟩
     ·intro ρ W1 hb1 H
      exact zd rfl (H.old 0 _ (by kernel_rfl) rfl) ⟨rfl,Below.refl _ _⟩
     ·intro ρ W1 hb1 H
      exact zw (k:=0) zck rfl (H.new 59 4 (by kernel_rfl)) (H.const _) (by omega) ⟨rfl,Below.refl _ _⟩
     ·intro ρ W1 hb1 H
      obtain ⟨ad',e1,_,e2⟩:=HC0.out W1 (za HB4.out hb1)
      injection e1 with e1
      subst e1
      exact zf rfl (H.new 60 5 (by kernel_rfl)) Tryz.underlying3 rfl e2 ⟨rfl,Below.refl _ _⟩
     ·intro ρ W1 hb1 H
      exact zd rfl (H.old 1 _ (by kernel_rfl) rfl) ⟨rfl,Below.refl _ _⟩
     ·intro ρ W1 hb1 H
      have e0:IsB (zE 3 G n) (ρ (.tmp 58)) W1:=H.new 58 3 (by kernel_rfl)
      have e1:ρ (.tmp 61)=.int .i64 x0:=H.new 61 6 (by kernel_rfl)
      have e2:ρ (.tmp 62)=.bool false:=H.new 62 7 (by kernel_rfl)
      obtain ⟨hv,hhv⟩:∃ hv,hv=ρ (.tmp 58):=⟨_,rfl⟩
      rw [←hhv] at e0
      refine zj rfl (fun _ _=>by kernel_rfl) (H.func _) (args:=#[hv,.int .i64 x0,.bool false]) (by simp [hhv,e1,e2]) ?_
      exact (ziF x0 false e0 (by rw [zV];omega) HX0.out.1 HX0.out.2).mono fun e w' ⟨u,h1,h2,h3⟩=>⟨_,h1,h2,h3⟩
     ·intro ρ W1 hb1 H
      exact ze rfl rfl ⟨H.new 63 8 (by kernel_rfl),Below.refl _ _⟩
     ·intro vs W1 hb1 hfs
      have f9:IsB (zE 3 G n ++ vput (vint x0 false)) (vs 9) W1:=hfs 9 (by decide)
      clear hfs
      simp only [zr,Nat.zero_add,Nat.reduceAdd]
      generalize vs 0=z0
      generalize vs 1=z1
      generalize vs 2=z2
      generalize vs 3=z3
      generalize vs 4=z4
      generalize vs 5=z5
      generalize vs 6=z6
      generalize vs 7=z7
      generalize vs 8=z8
      generalize vs 9=z9 at f9 ⊢
      simp only [Act.put,List.setIfInBounds_toArray,List.set_cons_succ,List.set_cons_zero]
      have HO:=Lib.hid f9
      have HBa:=Lib.hid (za HB4.out hb1)
      have HP5:=Lib.hid (IsB.below HP4.out hb1)
      have HLN:=Lib.hid (show (zE 3 G n ++ vput (vint x0 false)).length≤1000 by rw [List.length_append,zV];have:=zbE (x:=vint x0 false) (zjK HX0.out);omega)
      clear f9 hb1
      go_wp2_with fail
      refine (ziG x1 true HO.out (by have:=HLN.out;omega) HX1.out.1 HX1.out.2).mono ?_
      rintro e w6 ⟨v6,rfl,hown6,hb6⟩
      have hp6:=IsB.below HP5.out hb6
      obtain ⟨A7,n7,c7,rfl⟩:=IsV.shape (f:=bv) hp6
      obtain ⟨hn7,hA7,-,-,hl7⟩:=IsV.parts (f:=bv) (show IsV bv _ _ _ from hp6)
      have hM7:(tl.map bv).length=n7:=by rw [List.length_map];exact hn7
      have hn7b:n7≤5000:=by rw [←hn7];exact HTB.out
      have HM7:=Lib.hid hM7
      have hzz6:=hb6.size
      obtain ⟨K6,hK6⟩:∃ K,K=(zE 3 G n ++ vput (vint x0 false) ++ vput (vint x1 true)).length:=⟨_,rfl⟩
      have hK6b:K6≤2000:=by rw [hK6,List.length_append];have:=zbE (x:=vint x1 true) (zjK HX1.out);have:=HLN.out;omega
      rw [←hK6] at hown6
      have HK6:=Lib.hid hK6
      obtain ⟨xs6,hx6⟩:∃ xs,xs=(zE 3 G n ++ vput (vint x0 false) ++ vput (vint x1 true)).map bv:=⟨_,rfl⟩
      rw [←hx6] at hown6
      have HX6:=Lib.hid hx6
      clear hp6 hM7 hn7 hK6 hx6
      go_wp2_with (at_builtin;refine zk elemB rfl _ _ rfl W1.heap.size _ _ _ _ _ _ (tl.map bv) W1 rfl rfl hA7 HM7.out hl7 (zbv _) hown6 hb6 hzz6 (by omega) (by omega) ?_)
      intro v8 w8 hown8 hb8 _ _
      have HI9:=Lib.hid (show w8.ownsRow w.heap.size 5 1 v8 (zE 3 G n ++ vput (vint x0 false) ++ vput (vint x1 true) ++ tl).length ((zE 3 G n ++ vput (vint x0 false) ++ vput (vint x1 true) ++ tl).map bv) by
       rw [List.map_append,←HX6.out,List.length_append,←HK6.out,show tl.length=n7 by have:=HM7.out;rwa [List.length_map] at this]
       exact zbV HBa.out.size hown8)
      have HB9:=Lib.hid (za HBa.out hb8)
      clear hown8 hb8 hown6 hzz6
      go_wp2
      go_ret2
      rw [HE2.out]
      exact ⟨_,rfl,HI9.out,HB9.out⟩
   ·have hE:=Lib.hid (zeJ (s:=false) (show zbP l (zbG l) (l.length - 1)=none from zfc (k:=i) (by omega) (zrr hbad)))
    clear hi hbad
    go_wp2
    go_ret2
    rw [hE.out]
    exact RetEO.nil _ hb1
theorem ztE (l:List Int) (v:Value) (s:Bool) (w:World) (ht:WTab w) (hv:IsV iv l v w) (hl:∀ x∈l,inInt x) (hb:l.length≤1000000):Calls Tryz.prog 120 #[v,.bool s] w (RetE w (zeo l s)):=(ztD l v s w ht hv hl hb).mono fun _ _ h=>h.e
theorem zgz {l:List UInt8} {v:Value} {w:World} (s:Bool) (h:IsB l v w) (hl:l.length≤1000000) (hn:zbC l s=none):Calls Tryz.prog 154 #[v,.bool s] w fun e w'=>∃ r,e=.returned (.tuple #[.int .i64 0,r,.int .i64 2])∧Below w.heap.size w w':=by
 refine (zhq s h hl).mono fun e w' h=>?_
 obtain ⟨r,h1,_,h3⟩:=h.parts
 rw [hn] at h1
 exact ⟨r,h1,h3⟩
theorem zgA {l r:List UInt8} {v:Value} {w:World} {x:Int} (s:Bool) (h:IsB l v w) (hl:l.length≤1000000) (hn:zbC l s=some (x,r)):Calls Tryz.prog 154 #[v,.bool s] w fun e w'=>∃ u,e=.returned (.tuple #[.int .i64 x,u,.int .i64 0])∧OwnB w r u w'∧Below w.heap.size w w':=by
 refine (zhq s h hl).mono fun e w' h=>?_
 obtain ⟨u,h1,h2,h3⟩:=h.owned
 rw [hn] at h1 h2
 exact ⟨u,h1,h2,h3⟩
def gup (r:List UInt8) (C M u0:Nat):Option (List Nat × List UInt8):=
 if C=0 then some (List.replicate (M - 1) u0,r)
 else if (zg r (M - 2:Nat) (wof C)).2.2=0 then some (u0::(zg r (M - 2:Nat) (wof C)).1,(zg r (M - 2:Nat) (wof C)).2.1) else none
def zvV (s f:Bool) (x:Int):Option (List Nat × List UInt8)→List Int × List UInt8 × Int
 | none=>([],[],2)
 | some p=>gend s f x p.1 p.2
theorem ztF {s f:Bool} {x:Int} {u0 C M:Nat} {r:List UInt8} (hM:2≤M):zeX s f x u0 (C:Int) (M:Int) r=zvV s f x (gup r C M u0):=by
 unfold gup
 by_cases h0:C=0
 ·subst h0
  rw [if_pos rfl,zdB (by omega),show ((M:Int) - 1).toNat=M - 1 by omega]
  rfl
 ·rw [if_neg h0]
  obtain ⟨us,q,e,hu⟩:∃ us q e,zg r (M - 2:Nat) (wof C)=(us,q,e):=⟨_,_,_,rfl⟩
  have hu2:zg r ((M:Int) - 2) (wof C)=(us,q,e):=by rw [←hu];congr 1;omega
  rw [hu]
  dsimp only
  by_cases he:e=0
  ·subst he
   rw [if_pos rfl,zdC (by omega) hu2]
   rfl
  ·rw [if_neg he,zfF (by omega) hu2 he]
   rfl
def zvW (f:Bool) (o:Option (List Nat × List UInt8)) (w0 w:World) (e:Ending) (w':World):Prop:=
 match o with
 | none=>e=.returned (.tuple #[.slice none 0 0,.slice none 0 0,.bool false])∧Below w.heap.size w w'
 | some p=>∃ u r,e=.returned (.tuple #[u,r,.bool true])∧IsR dc (zb1 f p.1) u w'∧OwnB w0 p.2 r w'∧Below w.heap.size w w'
theorem zpm (r:List UInt8) (v:Value) (C M:Nat) (d:Int) (u0:Nat) (f:Bool) (w0 w:World) (ht:WTab w) (hv:OwnB w0 r v w) (h00:w0.heap.size≤w.heap.size) (hb:r.length≤1000000) (hC:C≤31) (hM2:2≤M) (hM:M≤512) (hd:inInt d) (hx:zC 0 d=(u0,f,true)) :
  Calls Tryz.prog 155 #[v,.int .i64 (C:Int),.int .i64 (M:Int),.int .i64 d] w (zvW f (gup r C M u0) w0 w):=by
 unfold gup
 by_cases h0:C=0
 ·subst h0
  rw [if_pos rfl]
  refine (zmO v M d u0 f w hM2 hM hd hx).mono ?_
  rintro e w' ⟨u,h1,h2,h3⟩
  exact ⟨u,v,h1,h2,hv.below h3,h3⟩
 ·rw [if_neg h0]
  refine (zmP r v C M d u0 f w ht hv.isB hb (by omega) hC hM2 hM hd hx).mono ?_
  intro e w' h
  split at h
  ·rename_i he
   rw [if_pos he]
   obtain ⟨u,q,h1,h2,h3,h4⟩:=h
   exact ⟨u,q,h1,h2,OwnB.base h00 h3,h4⟩
  ·rename_i he
   rw [if_neg he]
   exact h
theorem zvD {r q:List UInt8} {C M u0:Nat} {us:List Nat} (h:gup r C M u0=some (us,q)) (hM2:2≤M) (hM:M≤512) (hu:u0 < 2 ^ 64):us.length≤1000∧∀ u∈us,u < 2 ^ 64:=by
 unfold gup at h
 by_cases h0:C=0
 ·rw [if_pos h0] at h
  injection h with h
  injection h with h1 h2
  subst h1
  refine ⟨by rw [List.length_replicate];omega,fun u hm=>?_⟩
  rw [List.eq_of_mem_replicate hm]
  exact hu
 ·rw [if_neg h0] at h
  obtain ⟨vs,q',e,hv⟩:∃ us q e,zg r (M - 2:Nat) (wof C)=(us,q,e):=⟨_,_,_,rfl⟩
  rw [hv] at h
  dsimp only at h
  split at h
  ·rename_i he
   subst he
   injection h with h
   injection h with h1 h2
   subst h1
   have h3:=zM hv
   have h4:∀ u∈vs,u < 2 ^ 64:=by have h:=(zba (l:=r) (M:=(M - 2:Nat)) (W:=wof C)).1;rw [hv] at h;exact h
   refine ⟨by rw [List.length_cons];omega,fun u hm=>?_⟩
   rcases List.mem_cons.1 hm with rfl | hm
   ·exact hu
   ·exact h4 u hm
  ·cases h
theorem zrt (l:List UInt8) (v:Value) (s:Bool) (w:World) (ht:WTab w) (hv:IsB l v w) (hb:l.length≤1000000):Calls Tryz.prog 121 #[v,.bool s] w (RetIO w (zU l s)):=by
 have HLK:=Lib.hid (zhA l v w hv hb)
 unfold RetK at HLK
 have HT:=Lib.hid ht
 rcases zgS l with ⟨_,hd⟩ | ⟨_,K,C,M,hK,hC,hM1,hM,hd⟩
 ·have hE:=Lib.hid (zce (l:=l) (s:=s) (.inl (by rw [hd];decide)))
  rw [hd] at HLK
  dsimp only at HLK
  clear hd ht hv hb
  go_enter Tryz.func121,Tryz.ntmps121
  go_wp2_with fail
  refine HLK.out.mono ?_
  rintro e w1 ⟨v1,rfl,_,hb1⟩
  go_wp2
  go_ret3
  rw [hE.out]
  exact RetIO.nil _ hb1
 ·by_cases hk:K=3∧2≤M
  ·obtain ⟨hk3,hM2⟩:=hk
   subst hk3
   have hE0:=Lib.hid (zdA (s:=s) hd (by omega))
   rw [hd] at HLK
   dsimp only at HLK
   have HRL:=Lib.hid (show (l.drop 2).length≤1000000 by rw [List.length_drop];omega)
   clear hd ht hv hb hK hM1
   generalize l.drop 2=r0 at HLK HRL hE0
   go_enter Tryz.func121,Tryz.ntmps121
   go_wp2_with fail
   refine HLK.out.mono ?_
   rintro e w1 ⟨v1,rfl,hi1,hb1⟩
   have HI1:=Lib.hid hi1
   have HB1:=Lib.hid hb1
   clear hi1 hb1 HLK
   have hMi:¬(M:Int) < 2:=by omega
   go_wp2_with fail
   cases h1:zbC r0 s with
   | none =>
    have hE:=Lib.hid (hE0.out.trans (zeM h1))
    refine (zgz s HI1.out HRL.out h1).mono ?_
    rintro e w2 ⟨v2,rfl,hb2⟩
    clear h1
    go_wp2
    go_ret3
    rw [hE.out]
    exact RetIO.nil _ (za HB1.out hb2)
   | some p =>
   obtain ⟨x,r1⟩:=p
   have HX:=Lib.hid (zdk h1)
   have H1:=Lib.hid h1
   refine (zgA s HI1.out HRL.out h1).mono ?_
   rintro e w2 ⟨v2,rfl,ho2,hb2⟩
   have HO2:=Lib.hid ho2
   have HB2:=Lib.hid (za HB1.out hb2)
   have HRL1:=Lib.hid (show r1.length≤1000000 from Nat.le_trans HX.out.2 HRL.out)
   clear h1 ho2 hb2
   go_wp2_with fail
   cases h2:zbC r1 true with
   | none =>
    have hE:=Lib.hid (hE0.out.trans (zd1 H1.out h2))
    refine (zgz true HO2.out.isB HRL1.out h2).mono ?_
    rintro e w3 ⟨v3,rfl,hb3⟩
    clear h2
    go_wp2
    go_ret3
    rw [hE.out]
    exact RetIO.nil _ (za HB2.out hb3)
   | some p =>
   obtain ⟨d,r2⟩:=p
   have HD:=Lib.hid (zdk h2)
   have H2:=Lib.hid h2
   refine (zgA true HO2.out.isB HRL1.out h2).mono ?_
   rintro e w3 ⟨v3,rfl,ho3,hb3⟩
   have HO3:=Lib.hid (OwnB.base HB2.out.size ho3)
   have HB3:=Lib.hid (za HB2.out hb3)
   have HT3:=Lib.hid (HT.out.below HB3.out HT.out.lt)
   have HRL2:=Lib.hid (show r2.length≤1000000 from Nat.le_trans HD.out.2 HRL1.out)
   clear h2 ho3 hb3
   go_wp2_with fail
   obtain ⟨u0,f,ok,hg⟩:∃ u0 f ok,zC 0 d=(u0,f,ok):=⟨_,_,_,rfl⟩
   cases ok with
   | false =>
    have hE:=Lib.hid (hE0.out.trans ((zcx H1.out H2.out hg).trans (if_neg (by decide))))
    refine (zpj v3 (C:Int) (M:Int) d w3 HD.out.1 (by rw [hg])).mono ?_
    rintro e w4 ⟨rfl,hb4⟩
    clear hg
    go_wp2
    go_ret3
    rw [hE.out]
    exact RetIO.nil _ (za HB3.out hb4)
   | true =>
   have hE1:=Lib.hid (hE0.out.trans ((zcx H1.out H2.out hg).trans ((if_pos rfl).trans (ztF hM2))))
   have hu0:u0 < 2 ^ 64:=by have h:=zo7 0 d;rw [hg] at h;exact h
   have HUP:=Lib.hid (zpm r2 v3 C M d u0 f w w3 HT3.out HO3.out HB3.out.size HRL2.out hC hM2 hM HD.out.1 hg)
   refine HUP.out.mono ?_
   cases hup:gup r2 C M u0 with
   | none =>
    rintro e w4 ⟨rfl,hb4⟩
    have hE:=Lib.hid (show zU l s=([],[],2) by rw [hE1.out,hup];rfl)
    clear hg hup hu0
    go_wp2
    go_ret3
    rw [hE.out]
    exact RetIO.nil _ (za HB3.out hb4)
   | some p =>
   obtain ⟨us,q⟩:=p
   rintro e w4 ⟨v4,v5,rfl,hd4,ho4,hb4⟩
   have hbd:=zvD hup hM2 hM hu0
   have HE2:=Lib.hid (show zU l s=gend s f x us q by rw [hE1.out,hup];rfl)
   have HNM:=Lib.hid (zmM s f x us v4 w4 hd4 HX.out.1 hbd.2 hbd.1)
   have HO4:=Lib.hid ho4
   have HB4:=Lib.hid (za HB3.out hb4)
   clear hg hup hu0 hbd hd4 ho4 hb4
   go_wp2_with fail
   refine HNM.out.mono ?_
   unfold gend at HE2
   cases hw:zbp s f x us with
   | none =>
    rintro e w5 ⟨rfl,hb5⟩
    have hE:=HE2
    rw [hw] at hE
    clear hw
    go_wp2
    go_ret3
    rw [hE.out]
    exact RetIO.nil _ (za HB4.out hb5)
   | some ys =>
    rintro e w5 ⟨v6,rfl,hi5,hb5⟩
    have hE:=HE2
    rw [hw] at hE
    have HI5:=Lib.hid hi5
    have HO5:=Lib.hid (HO4.out.below hb5)
    have HB5:=Lib.hid (za HB4.out hb5)
    clear hw hi5 hb5
    go_wp2
    go_ret3
    rw [hE.out]
    exact ⟨_,_,rfl,HI5.out,HO5.out,HB5.out⟩
  ·have hE:=Lib.hid (zce (l:=l) (s:=s) (.inr (by rw [hd];dsimp only;omega)))
   rw [hd] at HLK
   dsimp only at HLK
   clear hd ht hv hb
   by_cases hk3:K=3
   ·subst hk3
    have hMi:(M:Int) < 2:=by omega
    clear hk
    go_enter Tryz.func121,Tryz.ntmps121
    go_wp2_with fail
    refine HLK.out.mono ?_
    rintro e w1 ⟨v1,rfl,_,hb1⟩
    go_wp2
    go_ret3
    rw [hE.out]
    exact RetIO.nil _ hb1
   ·have d1:((K:Int) != 3)=true:=by simp;omega
    clear hk
    go_enter Tryz.func121,Tryz.ntmps121
    go_wp2_with fail
    refine HLK.out.mono ?_
    rintro e w1 ⟨v1,rfl,_,hb1⟩
    go_wp2
    go_ret3
    rw [hE.out]
    exact RetIO.nil _ hb1
end Go.Proofs.YtlibofmpnlfelaaGreatDoor
namespace Go.Proofs.YtlibofmpnlfelaaGreatDoor
def zcM (l:List Int):Int:=l.foldl min (l.headD 0)
theorem zgB:∀ (l:List Int) (n:Int),l.foldl min n≤n∧∀ x∈l,l.foldl min n≤x
 | [],n=>⟨Int.le_refl _,fun _ h=>by cases h⟩
 | y::l,n=>by
  have h:=zgB l (min n y)
  rw [List.foldl_cons]
  refine ⟨by omega,fun x hx=>?_⟩
  rcases List.mem_cons.1 hx with rfl | hx
  ·omega
  ·exact h.2 x hx
theorem zfI:∀ (l:List Int) (n:Int),l.foldl min n=n∨l.foldl min n∈l
 | [],n=>.inl rfl
 | y::l,n=>by
  rw [List.foldl_cons]
  rcases zfI l (min n y) with h | h
  ·by_cases hn:n≤y
   ·left;omega
   ·right;rw [h,show min n y=y by omega];exact List.mem_cons_self
  ·exact .inr (List.mem_cons_of_mem _ h)
theorem zjL {l:List Int} {x:Int} (h:x∈l):zcM l≤x:=(zgB l _).2 x h
theorem zhP {l:List Int} (h:1≤l.length):zcM l∈l:=by
 unfold zcM
 rcases zfI l (l.headD 0) with h2 | h2
 ·rw [h2]
  cases l with
  | nil=>simp at h
  | cons a t=>exact List.mem_cons_self
 ·exact h2
def pone (base x:Int):Option Nat:=if (zC base x).2.2=true then some (zC base x).1 else none
def pups (l:List Int):Option (List Nat):=omap (pone (zcM l)) l
theorem zkY {base x:Int} {u:Nat} (hx:inInt x) (hle:base≤x) (h:pone base x=some u):zbi base u false=(x,true)∧(u:Int) < 9223372036854775808:=by
 unfold pone at h
 split at h
 ·rename_i hk
  injection h with h
  subst h
  have h1:=zhC (a:=base) hx hk
  have h2:(zC base x).2.1=false:=by
   rcases zbO base x with ⟨k,_⟩ | ⟨k1,_,_⟩ | ⟨_,_,k⟩
   ·rw [k]
   ·omega
   ·rw [k]
  rw [h2] at h1
  exact ⟨h1,zdj base x⟩
 ·cases h
theorem zjM {l:List Int} {us:List Nat} (h:pups l=some us):us.length=l.length:=zcb h
theorem zru {l:List Int} {us:List Nat} (hl:∀ x∈l,inInt x) (h:pups l=some us):∀ u∈us,(u:Int) < 9223372036854775808:=by
 intro u hu
 obtain ⟨x,hx,hu⟩:=zfs h hu
 exact (zkY (hl x hx) (zjL hx) hu).2
def pst (w:Nat) (us:List Nat):Nat→List (Nat × Nat) × Nat
 | 0=>([],0)
 | k+1 =>
  if us.getD k 0 / 2 ^ w=0 then pst w us k
  else ((pst w us k).1 ++ (List.replicate ((k - (pst w us k).2 - 1) / 255) (255,0) ++ [(k - (pst w us k).2 - 255*((k - (pst w us k).2 - 1) / 255),us.getD k 0 / 2 ^ w)]),k)
theorem zfJ {w:Nat} {us:List Nat} {k:Nat} (h:us.getD k 0 / 2 ^ w=0):pst w us (k+1)=pst w us k:=by rw [pst,if_pos h]
theorem zfK {w:Nat} {us:List Nat} {k:Nat} (h:us.getD k 0 / 2 ^ w≠0):pst w us (k+1)=((pst w us k).1 ++ (List.replicate ((k - (pst w us k).2 - 1) / 255) (255,0) ++ [(k - (pst w us k).2 - 255*((k - (pst w us k).2 - 1) / 255),us.getD k 0 / 2 ^ w)]),k):=by rw [pst,if_neg h]
theorem zfL (w:Nat) (us:List Nat):∀ k,(pst w us k).2≤k
 | 0=>Nat.le_refl _
 | k+1=>by
  have:=zfL w us k
  by_cases h:us.getD k 0 / 2 ^ w=0
  ·rw [zfJ h];omega
  ·rw [zfK h];exact Nat.le_succ k
theorem zrv (w:Nat) (us:List Nat):∀ k,∀ q∈(pst w us k).1,q.1≤255∧(q.2=0∨∃ i,i < k∧q.2=us.getD i 0 / 2 ^ w)
 | 0=>fun q hq=>by cases hq
 | k+1=>by
  intro q hq
  have ih:=zrv w us k
  by_cases h:us.getD k 0 / 2 ^ w=0
  ·rw [zfJ h] at hq
   obtain ⟨h1,h2⟩:=ih q hq
   exact ⟨h1,h2.imp id fun ⟨i,hi,h3⟩=>⟨i,by omega,h3⟩⟩
  ·rw [zfK h] at hq
   simp only [List.mem_append,List.mem_replicate,List.mem_singleton] at hq
   rcases hq with hq | ⟨_,hq⟩ | hq
   ·obtain ⟨h1,h2⟩:=ih q hq
    exact ⟨h1,h2.imp id fun ⟨i,hi,h3⟩=>⟨i,by omega,h3⟩⟩
   ·subst hq;exact ⟨Nat.le_refl _,.inl rfl⟩
   ·subst hq;exact ⟨by dsimp only;omega,.inr ⟨k,by omega,rfl⟩⟩
def zm (w:Nat) (us:List Nat):List (Nat × Nat):=(pst w us us.length).1
def pgw (ps:List (Nat × Nat)):Nat:=max 1 (zbW (ps.map (·.1)))
def ppw (ps:List (Nat × Nat)):Nat:=(zh (max 1 (zbW (ps.map (·.2))):Nat)).toNat
def zb8 (w:Nat):Nat:=(zbc (w:Int)).toNat
theorem zpn:∀ n:Fin 65,1≤zh (n.val:Int)∧zh (n.val:Int)≤64∧(n.val:Int)≤zh (n.val:Int)∧0≤zbc (zh (n.val:Int))∧zbc (zh (n.val:Int))≤31∧wof (zbc (zh (n.val:Int)))=zh (n.val:Int):=by decide +kernel
theorem zkZ {n:Nat} (h:n≤64):1≤(zh (n:Int)).toNat∧(zh (n:Int)).toNat≤64∧n≤(zh (n:Int)).toNat∧zb8 (zh (n:Int)).toNat≤31∧wof (zb8 (zh (n:Int)).toNat:Int)=((zh (n:Int)).toNat:Int)∧zh (n:Int)=((zh (n:Int)).toNat:Int)∧zbc ((zh (n:Int)).toNat:Int)=(zb8 (zh (n:Int)).toNat:Int):=by
 have h1:=zpn ⟨n,by omega⟩
 dsimp only at h1
 have e:zh (n:Int)=((zh (n:Int)).toNat:Int):=by omega
 have e2:zbc ((zh (n:Int)).toNat:Int)=(zb8 (zh (n:Int)).toNat:Int):=by unfold zb8;rw [←e];omega
 refine ⟨by omega,by omega,by omega,?_,?_,e,e2⟩
 ·rw [←e] at e2;omega
 ·rw [←e2,←e];exact h1.2.2.2.2.2
theorem zuu {w:Nat} {us:List Nat} (hu:∀ u∈us,u < 2 ^ 64):zbW ((zm w us).map (·.2))≤64∧zbW ((zm w us).map (·.1))≤8∧(∀ q∈zm w us,q.1≤255∧q.2 < 2 ^ 64):=by
 have hq:∀ q∈zm w us,q.1≤255∧q.2 < 2 ^ 64:=by
  intro q hq
  obtain ⟨h1,h2⟩:=zrv w us us.length q hq
  refine ⟨h1,?_⟩
  rcases h2 with h2 | ⟨i,hi,h2⟩
  ·rw [h2];exact Nat.two_pow_pos _
  ·rw [h2,List.getD_eq_getElem?_getD,List.getElem?_eq_getElem hi]
   exact Nat.lt_of_le_of_lt (Nat.div_le_self _ _) (hu _ (List.getElem_mem hi))
 refine ⟨zeA fun x hx=>?_,?_,hq⟩
 ·obtain ⟨q,hm,rfl⟩:=List.mem_map.1 hx
  exact (hq q hm).2
 ·have h64:∀ x∈(zm w us).map (·.1),x < 2 ^ 64:=fun x hx=>by
   obtain ⟨q,hm,rfl⟩:=List.mem_map.1 hx
   exact Nat.lt_of_le_of_lt (hq q hm).1 (by decide)
  rw [←zfn h64]
  refine zdg (by omega) ?_
  have:∀ (l:List Nat) (n:Nat),n≤255→(∀ x∈l,x≤255)→l.foldl (fun n x=>max n x) n≤255:=by
   intro l
   induction l with
   | nil=>intro n hn _;exact hn
   | cons y l ih=>intro n hn h;rw [List.foldl_cons];exact ih _ (by have:=h y List.mem_cons_self;omega) fun x hx=>h x (List.mem_cons_of_mem _ hx)
  have h2:=this ((zm w us).map (·.1)) 0 (by omega) fun x hx=>by
   obtain ⟨q,hm,rfl⟩:=List.mem_map.1 hx
   exact (hq q hm).1
  unfold wtop
  show _ < 256
  omega
def zeY (base:Int):Nat:=(zC 0 base).1
def pn (base:Int):Nat:=zY (zeY base) / 8+1
def zdE (base:Int):List UInt8:=be (pn base) (zeY base+if base < 0 then 2 ^ (8*pn base - 1) else 0)
def plow (us:List Nat) (w:Nat):List Nat:=us.map (· % 2 ^ w)
def zcy (ps:List (Nat × Nat)) (p:Nat):List Nat:=ps.map fun q=>q.1*2 ^ p+q.2
def zrw (base:Int) (ps:List (Nat × Nat)):List UInt8:=[UInt8.ofNat (32*(pn base - 1)+zb8 (ppw ps)),UInt8.ofNat (32*(pgw ps - 1)+ps.length)]
def play (base:Int) (us:List Nat) (w:Nat):List UInt8:=
 zE 2 (zb8 w) us.length ++ zrw base (zm w us) ++ zdE base ++ zbx (plow us w) w ++ zbx (zcy (zm w us) (ppw (zm w us))) (zh ((pgw (zm w us)+ppw (zm w us):Nat):Int)).toNat
def zcN (l:List Int) (W:Int) (s:Bool):List UInt8 × Int:=
 if zy l s=none∨l.length < 1∨512 < l.length∨zbc W < 0∨64≤W then ([],1)
 else match pups l with
  | none=>([],1)
  | some us =>
   if zcM l = -9223372036854775808∨31 < (zm W.toNat us).length∨64 < pgw (zm W.toNat us)+ppw (zm W.toNat us)∨64 < W.toNat+ppw (zm W.toNat us) then ([],1)
   else (play (zcM l) us W.toNat,0)
def zgL (w g p m:Nat) (st:Nat × List Nat) (v:Nat):Option (Nat × List Nat):=
 if v / 2 ^ p < 2 ^ g∧st.1+v / 2 ^ p < m∧(zY (v % 2 ^ p)+w≤63∨v % 2 ^ p=0) then
  some (st.1+v / 2 ^ p,st.2.set (st.1+v / 2 ^ p) (st.2.getD (st.1+v / 2 ^ p) 0 ^^^ (v % 2 ^ p*2 ^ w)))
 else none
def pall (w g p m:Nat):Nat × List Nat→List Nat→Option (Nat × List Nat)
 | st,[]=>some st
 | st,v::vs=>match zgL w g p m st v with | none=>none | some st'=>pall w g p m st' vs
theorem zd3 (w g p m:Nat) (st:Nat × List Nat) (a b:List Nat):pall w g p m st (a ++ b)=match pall w g p m st a with | none=>none | some st'=>pall w g p m st' b:=by
 induction a generalizing st with
 | nil=>rfl
 | cons v vs ih =>
  rw [List.cons_append,pall,pall]
  cases zgL w g p m st v with
  | none=>rfl
  | some st'=>exact ih st'
theorem zrx (w g p m:Nat) (st:Nat × List Nat) (a:List Nat) (v:Nat):pall w g p m st (a ++ [v])=match pall w g p m st a with | none=>none | some st'=>zgL w g p m st' v:=by
 rw [zd3]
 cases pall w g p m st a with
 | none=>rfl
 | some st' =>
  dsimp only
  rw [pall]
  cases zgL w g p m st' v with
  | none=>rfl
  | some _=>rfl
def pend (s:Bool) (base:Int) (w g p m:Nat) (low both:List Nat) (q:List UInt8):List Int × List UInt8 × Int:=
 match pall w g p m (0,low) both with
 | none=>gbad
 | some st=>match omap (zbl s false base) st.2 with | none=>gbad | some xs=>(xs,q,0)
def zf9 (s:Bool) (base:Int) (c m:Int) (g p some_:Nat) (r:List UInt8):List Int × List UInt8 × Int:=
 match zg r m (wof c) with
 | (low,r3,e)=>if e≠0 then gbad else match zg r3 some_ (zh ((g+p:Nat):Int)) with
  | (both,r4,e)=>if e≠0 then gbad else pend s base (wof c).toNat g p m.toNat low both r4
def zdF (x:List UInt8):Int:=if 2 ^ (8*x.length - 1)≤bval x then -((bval x % 2 ^ (8*x.length - 1):Nat):Int) else ((bval x % 2 ^ (8*x.length - 1):Nat):Int)
def ziq (s:Bool) (c m:Int) (r:List UInt8):List Int × List UInt8 × Int:=
 if r.length < 2 then gbad
 else if 64 < (r.getD 1 0).toNat / 32+1+(wof ((r.getD 0 0).toNat % 32:Nat)).toNat∨r.length - 2 < (r.getD 0 0).toNat / 32+1 then gbad
 else zf9 s (zdF ((r.drop 2).take ((r.getD 0 0).toNat / 32+1))) c m ((r.getD 1 0).toNat / 32+1) (wof ((r.getD 0 0).toNat % 32:Nat)).toNat ((r.getD 1 0).toNat % 32) ((r.drop 2).drop ((r.getD 0 0).toNat / 32+1))
def zD (l:List UInt8) (s:Bool):List Int × List UInt8 × Int:=
 if (zp l).2.2.2.2≠0∨(zp l).1≠2 then gbad else ziq s (zp l).2.1 (zp l).2.2.1 (zp l).2.2.2.1
theorem ztG (w a b:Nat) (ha:a < 2 ^ w):a ^^^ (b*2 ^ w)=a+b*2 ^ w:=by
 refine Nat.eq_of_testBit_eq fun i=>?_
 rw [Nat.testBit_xor,Nat.mul_comm b,Nat.add_comm a,Nat.testBit_two_pow_mul_add b ha]
 by_cases h:i < w
 ·rw [if_pos h,Nat.testBit_two_pow_mul,decide_eq_false (by omega:¬w≤i)]
  simp
 ·rw [if_neg h,Nat.testBit_two_pow_mul,decide_eq_true (by omega:w≤i)]
  have h2:a.testBit i=false:=Nat.testBit_lt_two_pow (Nat.lt_of_lt_of_le ha (Nat.pow_le_pow_right (by omega) (by omega)))
  rw [h2]
  simp
theorem zpo (u w:Nat):(u % 2 ^ w) ^^^ (u / 2 ^ w*2 ^ w)=u:=by
 rw [ztG w _ _ (Nat.mod_lt _ (Nat.two_pow_pos w)),Nat.mul_comm]
 have:=Nat.div_add_mod u (2 ^ w)
 omega
theorem zoa {w g p m:Nat} {st:Nat × List Nat} {gap patch:Nat} (hp:patch < 2 ^ p) (hg:gap < 2 ^ g) (hm:st.1+gap < m) (hb:zY patch+w≤63∨patch=0) :
  zgL w g p m st (gap*2 ^ p+patch)=some (st.1+gap,st.2.set (st.1+gap) (st.2.getD (st.1+gap) 0 ^^^ (patch*2 ^ w))):=by
 have e1:(gap*2 ^ p+patch) / 2 ^ p=gap:=by rw [Nat.mul_comm,Nat.mul_add_div (Nat.two_pow_pos p),Nat.div_eq_of_lt hp,Nat.add_zero]
 have e2:(gap*2 ^ p+patch) % 2 ^ p=patch:=by rw [Nat.mul_comm,Nat.mul_add_mod,Nat.mod_eq_of_lt hp]
 unfold zgL
 rw [e1,e2,if_pos ⟨hg,hm,hb⟩]
theorem ztH {low:List Nat} {k:Nat}:low.set k (low.getD k 0)=low:=by
 by_cases h:k < low.length
 ·rw [List.getD_eq_getElem?_getD,List.getElem?_eq_getElem h,Option.getD_some];exact List.set_getElem_self h
 ·exact List.set_eq_of_length_le (by omega)
theorem zk0 {w g p m:Nat} (hg:255 < 2 ^ g):∀ (j at_:Nat) (low:List Nat),at_+255*j < m→pall w g p m (at_,low) (zcy (List.replicate j (255,0)) p)=some (at_+255*j,low)
 | 0,at_,low,_=>by simp [zcy,pall]
 | j+1,at_,low,h=>by
  have hm:(at_,low).1+255 < m:=Nat.lt_of_le_of_lt (Nat.add_le_add_left (by omega:255≤255*(j+1)) at_) h
  have h1:=zoa (w:=w) (p:=p) (patch:=0) (Nat.two_pow_pos p) hg hm (.inr rfl)
  have h2:=zk0 (w:=w) (p:=p) hg j (at_+255) low (by omega:at_+255+255*j < m)
  rw [Nat.zero_mul,Nat.xor_zero,ztH] at h1
  dsimp only at h1
  unfold zcy at h2 ⊢
  rw [List.replicate_succ,List.map_cons,pall,h1]
  dsimp only
  rw [h2]
  congr 2
  omega
theorem zmQ {w g p:Nat} {us:List Nat} (hu:∀ u∈us,(u:Int) < 9223372036854775808) (hw:w≤63):∀ k,k≤us.length→(∀ q∈(pst w us k).1,q.1 < 2 ^ g∧q.2 < 2 ^ p) →
  pall w g p us.length (0,plow us w) (zcy (pst w us k).1 p)=some ((pst w us k).2,us.take k ++ (plow us w).drop k)
 | 0,_,_=>by simp [pst,zcy,pall]
 | k+1,hk,h=>by
  have hll:(plow us w).length=us.length:=by simp [plow]
  have hkl:k < (plow us w).length:=by omega
  have hd:(plow us w).drop k=(us[k] % 2 ^ w)::(plow us w).drop (k+1):=by rw [List.drop_eq_getElem_cons hkl];simp [plow]
  have hgd:us.getD k 0=us[k]:=by rw [List.getD_eq_getElem?_getD,List.getElem?_eq_getElem (by omega)];rfl
  by_cases h0:us.getD k 0 / 2 ^ w=0
  ·rw [zfJ h0] at h ⊢
   rw [zmQ hu hw k (by omega) h,hd,List.take_succ_eq_append_getElem (by omega),List.append_assoc]
   rw [hgd] at h0
   have:us[k] % 2 ^ w=us[k]:=by have:=Nat.div_add_mod us[k] (2 ^ w);rw [h0] at this;omega
   rw [this]
   rfl
  ·rw [zfK h0] at h ⊢
   have hlast:=zfL w us k
   obtain ⟨last,hl⟩:∃ last,last=(pst w us k).2:=⟨_,rfl⟩
   obtain ⟨j,hj⟩:∃ j,j=(k - last - 1) / 255:=⟨_,rfl⟩
   rw [←hl,←hj] at h ⊢
   rw [←hl] at hlast
   have hih:=zmQ hu hw k (by omega) fun q hq=>h q (List.mem_append_left _ hq)
   have hone:=h (k - last - 255*j,us.getD k 0 / 2 ^ w) (List.mem_append_right _ (List.mem_append_right _ (List.mem_singleton.2 rfl)))
   rw [zcy,List.map_append,List.map_append,zd3,←zcy,hih]
   dsimp only
   rw [←hl,zd3,←zcy]
   have hfill:pall w g p us.length (last,us.take k ++ (plow us w).drop k) (zcy (List.replicate j (255,0)) p)=some (last+255*j,us.take k ++ (plow us w).drop k):=by
    by_cases hj0:j=0
    ·subst hj0;rfl
    ·have h255:255 < 2 ^ g:=(h (255,0) (List.mem_append_right _ (List.mem_append_left _ (List.mem_replicate.2 ⟨hj0,rfl⟩)))).1
     exact zk0 h255 j last _ (by omega)
   rw [hfill]
   dsimp only
   rw [List.map_cons,List.map_nil,pall]
   have hb:zY (us.getD k 0 / 2 ^ w)+w≤63:=by
    have h1:us.getD k 0 / 2 ^ w < 2 ^ (63 - w):=by
     rw [Nat.div_lt_iff_lt_mul (Nat.two_pow_pos w),←Nat.pow_add,show 63 - w+w=63 by omega,hgd]
     have:=hu us[k] (List.getElem_mem _)
     show us[k] < 9223372036854775808
     omega
    have:=zdg (by omega) h1
    omega
   rw [zoa hone.2 hone.1 (by dsimp only;omega) (.inl hb)]
   dsimp only
   rw [show last+255*j+(k - last - 255*j)=k by omega,pall]
   congr 2
   have htl:(us.take k).length=k:=by rw [List.length_take];omega
   rw [hd,List.getD_eq_getElem?_getD,List.getElem?_append_right (by omega),htl,Nat.sub_self,List.getElem?_cons_zero,Option.getD_some,hgd,zpo,List.set_append_right _ _ (by omega),htl,Nat.sub_self,List.set_cons_zero,List.take_succ_eq_append_getElem (by omega),List.append_assoc]
   rfl
theorem zi0 {x:Int} (h:0≤zbc x):wof (zbc x)=x∧zbc x≤31:=by
 refine ⟨?_,(zs8 x).2⟩
 unfold zbc at h ⊢
 cases hf:(List.range 32).find? fun i=>wat i == x with
 | none=>rw [hf] at h;dsimp only at h;omega
 | some i =>
  dsimp only
  have h1:=List.find?_some hf
  have h2:=List.mem_range.1 (List.mem_of_find?_eq_some hf)
  rw [znJ h2]
  simpa using h1
theorem zga {w:Nat} (h:0≤zbc (w:Int)):wof (zb8 w:Int)=(w:Int)∧zb8 w≤31∧zbc (w:Int)=(zb8 w:Int):=by
 have h1:=zi0 h
 have e:zbc (w:Int)=(zb8 w:Int):=by unfold zb8;omega
 rw [e] at h1
 exact ⟨h1.1,by omega,e⟩
theorem zeO {base:Int} (h:inInt base) (h2:base≠-9223372036854775808):(zeY base:Int)=(if base < 0 then -base else base)∧(zeY base:Int) < 9223372036854775808:=by
 unfold inInt at h
 unfold zeY
 rcases zbO 0 base with ⟨_,k⟩ | ⟨k1,k2,k⟩ | ⟨k1,k2,k⟩
 ·omega
 ·rw [k,if_pos k1];dsimp only;omega
 ·rw [k,if_neg (by omega)];dsimp only;omega
theorem zry {base:Int} (h:(zeY base:Int) < 9223372036854775808):1≤pn base∧pn base≤8∧zeY base < 2 ^ (8*pn base - 1):=by
 have h1:zeY base < 2 ^ 63:=by show zeY base < 9223372036854775808;omega
 have h2:=zdg (by omega) h1
 have h3:=zdQ (x:=zeY base) (Nat.lt_trans h1 (by decide))
 unfold pn
 refine ⟨by omega,by omega,Nat.lt_of_lt_of_le h3 (Nat.pow_le_pow_right (by omega) (by omega))⟩
theorem zdG (base:Int):(zdE base).length=pn base:=zcJ _ _
theorem zmR {base:Int} (h:(zeY base:Int) < 9223372036854775808):bval (zdE base)=zeY base+if base < 0 then 2 ^ (8*pn base - 1) else 0:=by
 obtain ⟨h1,_,h3⟩:=zry h
 unfold zdE
 rw [zfX,Nat.mod_eq_of_lt]
 rw [p256,show 8*pn base=(8*pn base - 1)+1 by omega,Nat.pow_succ,Nat.add_sub_cancel]
 split <;> omega
theorem zpp {base:Int} (h:inInt base) (h2:base≠-9223372036854775808):zdF (zdE base)=base:=by
 obtain ⟨hs,hlt⟩:=zeO h h2
 obtain ⟨_,_,h3⟩:=zry hlt
 unfold zdF
 rw [zdG,zmR hlt]
 generalize 2 ^ (8*pn base - 1)=P at *
 by_cases hb:base < 0
 ·rw [if_pos hb] at hs ⊢
  rw [if_pos (by omega),Nat.add_mod_right,Nat.mod_eq_of_lt h3]
  omega
 ·rw [if_neg hb] at hs ⊢
  rw [if_neg (by omega),Nat.add_zero,Nat.mod_eq_of_lt h3]
  omega
theorem zi1 {l:List Nat} (h:∀ x∈l,x < 2 ^ 64) {x:Nat} (hx:x∈l):x < 2 ^ zbW l:=by
 have h1:=(zfm (zmh h) (zeA h)).1 (by rw [zfn h];exact Nat.le_refl _)
 exact Nat.lt_of_le_of_lt (zjF hx) h1
theorem zk1 {w:Nat} {us:List Nat} (hu:∀ u∈us,u < 2 ^ 64) :
  1≤pgw (zm w us)∧pgw (zm w us)≤8∧1≤ppw (zm w us)∧ppw (zm w us)≤64∧zh ((max 1 (zbW ((zm w us).map (·.2))):Nat):Int)=(ppw (zm w us):Int)∧zbc (ppw (zm w us):Int)=(zb8 (ppw (zm w us)):Int)∧zb8 (ppw (zm w us))≤31∧wof (zb8 (ppw (zm w us)):Int)=(ppw (zm w us):Int) ∧
  ∀ q∈zm w us,q.1 < 2 ^ pgw (zm w us)∧q.2 < 2 ^ ppw (zm w us):=by
 obtain ⟨h1,h2,h3⟩:=zuu (w:=w) hu
 obtain ⟨c1,c2,c3,c4,c5,c6,c7⟩:=zkZ (n:=max 1 (zbW ((zm w us).map (·.2)))) (by omega)
 have hg:pgw (zm w us)=max 1 (zbW ((zm w us).map (·.1))):=rfl
 refine ⟨by omega,by omega,c1,c2,c6,c7,c4,c5,fun q hq=>⟨?_,?_⟩⟩
 ·have:=zi1 (l:=(zm w us).map (·.1)) (fun x hx=>by
   obtain ⟨q,hm,rfl⟩:=List.mem_map.1 hx
   exact Nat.lt_of_le_of_lt (h3 q hm).1 (by decide)) (List.mem_map_of_mem hq)
  exact Nat.lt_of_lt_of_le this (Nat.pow_le_pow_right (by omega) (by omega))
 ·have:=zi1 (l:=(zm w us).map (·.2)) (fun x hx=>by
   obtain ⟨q,hm,rfl⟩:=List.mem_map.1 hx
   exact (h3 q hm).2) (List.mem_map_of_mem hq)
  refine Nat.lt_of_lt_of_le this (Nat.pow_le_pow_right (by omega) ?_)
  show _≤(zh ((max 1 (zbW ((zm w us).map (·.2))):Nat):Int)).toNat
  omega
theorem zob {ps:List (Nat × Nat)} {g p:Nat} (h:∀ q∈ps,q.1 < 2 ^ g∧q.2 < 2 ^ p):∀ x∈zcy ps p,x < 2 ^ (g+p):=by
 intro x hx
 obtain ⟨q,hq,rfl⟩:=List.mem_map.1 hx
 obtain ⟨h1,h2⟩:=h q hq
 have:(q.1+1)*2 ^ p≤2 ^ g*2 ^ p:=Nat.mul_le_mul_right _ h1
 rw [Nat.pow_add]
 rw [Nat.add_mul] at this
 omega
theorem zg0 {n:Nat} (h:n < 256):(UInt8.ofNat n).toNat=n:=by simp only [UInt8.toNat_ofNat',Nat.reducePow];exact Nat.mod_eq_of_lt h
theorem zpq {l:List Int} {s:Bool} {us:List Nat} {w:Nat} (hl:∀ x∈l,inInt x∧(s=true∨0≤x)) (h1:1≤l.length) (h5:l.length≤512) (hc:0≤zbc (w:Int)) (hw:w < 64) (hu:pups l=some us)
  (hb:zcM l≠-9223372036854775808) (h31:(zm w us).length≤31) (hgp:pgw (zm w us)+ppw (zm w us)≤64) (b:List UInt8):zD (play (zcM l) us w ++ b) s=(l,b,0):=by
 have hbi:inInt (zcM l):=(hl _ (zhP h1)).1
 obtain ⟨hs,hlt⟩:=zeO hbi hb
 obtain ⟨n1,n8,_⟩:=zry hlt
 have hu63:=zru (fun x hx=>(hl x hx).1) hu
 have hu64:∀ u∈us,u < 2 ^ 64:=fun u h=>by have:=hu63 u h;show u < 18446744073709551616;omega
 obtain ⟨g1,g8,p1,p64,_,_,pc,pw,hq⟩:=zk1 (w:=w) hu64
 obtain ⟨cw,c31,_⟩:=zga hc
 have hul:=zjM hu
 obtain ⟨W2,hW2⟩:∃ W2,W2=(zh ((pgw (zm w us)+ppw (zm w us):Nat):Int)).toNat:=⟨_,rfl⟩
 obtain ⟨_,d2,d3,_,_,d6,_⟩:=zkZ hgp
 rw [←hW2] at d2 d3 d6
 have hbl:=zob hq
 have hbl2:∀ x∈zcy (zm w us) (ppw (zm w us)),x < 2 ^ W2:=fun x hx=>Nat.lt_of_lt_of_le (hbl x hx) (Nat.pow_le_pow_right (by omega) d3)
 have hst:=zmQ (w:=w) (g:=pgw (zm w us)) (p:=ppw (zm w us)) hu63 (by omega) us.length (Nat.le_refl _) hq
 have hpe:zcy (pst w us us.length).1 (ppw (zm w us))=zcy (zm w us) (ppw (zm w us)):=rfl
 rw [hpe,List.take_of_length_le (Nat.le_refl _),List.drop_eq_nil_of_le (by simp [plow]),List.append_nil] at hst
 have hback:omap (zbl s false (zcM l)) us=some l:=zkE (fun x hx u h=>by
  have h2:=zkY (hl x hx).1 (zjL hx) h
  unfold zbl
  rw [h2.1]
  exact if_pos ⟨rfl,(hl x hx).2⟩) hu
 have hll:(plow us w).length=us.length:=by simp [plow]
 have hpl:(zcy (zm w us) (ppw (zm w us))).length=(zm w us).length:=by simp [zcy]
 generalize hps:zm w us=ps at *
 generalize hpp:ppw ps=p at *
 generalize hgg:pgw ps=g at *
 have e0:(UInt8.ofNat (32*(pn (zcM l) - 1)+zb8 p)).toNat=32*(pn (zcM l) - 1)+zb8 p:=zg0 (by omega)
 have e1:(UInt8.ofNat (32*(g - 1)+ps.length)).toNat=32*(g - 1)+ps.length:=zg0 (by omega)
 have hlook:zp (play (zcM l) us w ++ b)=(2,(zb8 w:Int),(us.length:Int),UInt8.ofNat (32*(pn (zcM l) - 1)+zb8 p)::UInt8.ofNat (32*(g - 1)+ps.length)::(zdE (zcM l) ++ (zbx (plow us w) w ++ (zbx (zcy ps p) W2 ++ b))),0):=by
  unfold play zrw
  rw [hps,hpp,hgg,←hW2]
  simp only [List.append_assoc,List.cons_append,List.nil_append]
  exact zf3 (k:=2) (by omega) c31 (by omega) (by omega) _
 unfold zD
 rw [hlook]
 dsimp only
 rw [if_neg (by omega)]
 unfold ziq
 simp only [List.getD_cons_zero,List.getD_cons_succ,List.drop_succ_cons,List.drop_zero,List.length_cons,List.length_append,e0,e1,zdG]
 rw [if_neg (by omega),show (32*(pn (zcM l) - 1)+zb8 p) % 32=zb8 p by omega,pw,Int.toNat_natCast,show (32*(pn (zcM l) - 1)+zb8 p) / 32+1=pn (zcM l) by omega,show (32*(g - 1)+ps.length) / 32+1=g by omega,show (32*(g - 1)+ps.length) % 32=ps.length by omega,
  if_neg (by omega),List.take_left' (zdG _),List.drop_left' (zdG _),zpp hbi hb]
 unfold zf9
 rw [cw,zbX _ _ _ (by omega) (by omega),←hll,zdh (fun x hx=>by
  obtain ⟨u,_,rfl⟩:=List.mem_map.1 hx
  exact Nat.mod_lt _ (Nat.two_pow_pos w))]
 dsimp only
 rw [if_neg (by decide),d6,zbX _ _ _ (by omega) d2,←hpl,zdh hbl2]
 dsimp only
 rw [if_neg (by decide),hll]
 unfold pend
 rw [Int.toNat_natCast,Int.toNat_natCast,hst]
 dsimp only
 rw [hback]
end Go.Proofs.YtlibofmpnlfelaaGreatDoor
namespace Go.Proofs.YtlibofmpnlfelaaGreatDoor
open Go.RowKit
theorem zc8 {l:List UInt8} {s:Bool} (h:(zp l).2.2.2.2≠0∨(zp l).1≠2):zD l s=([],[],2):=by unfold zD;rw [if_pos h];rfl
theorem zdH {l r:List UInt8} {s:Bool} {c m:Int} (h:zp l=(2,c,m,r,0)):zD l s=ziq s c m r:=by
 unfold zD
 rw [h]
 exact if_neg (by simp)
theorem zeP {l r:List UInt8} {k c m:Int} (h:zp l=(k,c,m,r,0)):1≤m:=by
 by_cases h2:l.length < 2
 ·rw [ze7 h2] at h;injection h with _ h;injection h with _ h;injection h with _ h;injection h with _ h;cases h
 ·rw [zeH (X:=256*l[0].toNat+l[1].toNat) (by omega) rfl] at h
  injection h with _ h;injection h with _ h;injection h with h _
  omega
theorem zd4 {r:List UInt8} {s:Bool} {c m:Int} (h:r.length < 2):ziq s c m r=([],[],2):=by unfold ziq;rw [if_pos h];rfl
theorem zjN {r d:List UInt8} {s:Bool} {c m:Int} {b0 b1 n g p t:Nat} (h2:2≤r.length) (h0:b0=r[0].toNat) (h1:b1=r[1].toNat) (hn:n=b0 / 32+1) (hg:g=b1 / 32+1) (ht:t=b1 % 32) (hp:wof ((b0 % 32:Nat):Int)=(p:Int)) (hd:d=r.drop 2) :
  ziq s c m r=if 64 < g+p∨d.length < n then ([],[],2) else zf9 s (zdF (d.take n)) c m g p t (d.drop n):=by
 have e0:(r.getD 0 0).toNat=b0:=by rw [h0,List.getD_eq_getElem?_getD,List.getElem?_eq_getElem (by omega)];rfl
 have e1:(r.getD 1 0).toNat=b1:=by rw [h1,List.getD_eq_getElem?_getD,List.getElem?_eq_getElem (by omega)];rfl
 have ep:(wof ((b0 % 32:Nat):Int)).toNat=p:=by rw [hp];rfl
 unfold ziq
 rw [if_neg (by omega),e0,e1,ep,←hn,←hg,←ht,←hd,show r.length - 2=d.length by rw [hd,List.length_drop]]
 rfl
theorem zk2 (b:UInt8) (r:List UInt8):bval (b::r)=b.toNat*256 ^ r.length+bval r:=by simp [bval]
theorem zgC (r:List UInt8) (k:Nat) (h:k < r.length):bval (r.take (k+1))=256*bval (r.take k)+r[k].toNat:=by
 rw [List.take_succ_eq_append_getElem h,ze4]
 simp [bval]
 omega
theorem zpr {x:List UInt8} {x0 S:Nat} (h1:1≤x.length) (h8:x.length≤8) (hx:x0=x[0].toNat) (hS:S=bval x % 2 ^ (8*x.length - 1)) :
  zbi 0 S (decide (128≤x0))=(zdF x,true)∧inInt (zdF x)∧(S:Int) < 9223372036854775808:=by
 cases x with
 | nil=>simp at h1
 | cons b r =>
  simp only [List.getElem_cons_zero] at hx
  rw [List.length_cons] at h8 hS
  obtain ⟨P,hP⟩:∃ P,P=256 ^ r.length:=⟨_,rfl⟩
  have hpow:2 ^ (8*(r.length+1) - 1)=128*P:=by rw [hP,p256,show 8*(r.length+1) - 1=7+8*r.length by omega,Nat.pow_add]
  have hR:bval r < P:=by rw [hP];exact zdq r
  have hPp:0 < P:=by omega
  have hPb:P≤72057594037927936:=by
   rw [hP]
   have:256 ^ r.length≤256 ^ 7:=Nat.pow_le_pow_right (by omega) (by omega)
   omega
  have hS2:S < 128*P:=by rw [hS,hpow];exact Nat.mod_lt _ (by omega)
  have hge:(2 ^ (8*(b::r).length - 1)≤bval (b::r))↔128≤x0:=by
   rw [List.length_cons,hpow,zk2,←hP,←hx]
   constructor
   ·intro h
    refine Nat.not_lt.1 fun h2=>?_
    have h3:(x0+1)*P≤128*P:=Nat.mul_le_mul_right _ h2
    rw [Nat.add_mul] at h3
    omega
   ·intro h
    have h3:128*P≤x0*P:=Nat.mul_le_mul_right _ h
    omega
  have hpm:zdF (b::r)=if 128≤x0 then -(S:Int) else (S:Int):=by
   unfold zdF
   rw [List.length_cons,←hS]
   rw [List.length_cons] at hge
   by_cases h:128≤x0
   ·rw [if_pos h,if_pos (hge.2 h)]
   ·rw [if_neg h,if_neg fun h2=>h (hge.1 h2)]
  have hS3:(S:Int) < 9223372036854775808:=by omega
  refine ⟨?_,?_,hS3⟩
  ·rw [hpm]
   unfold zbi
   rw [if_neg (by omega)]
   by_cases h:128≤x0
   ·rw [if_pos (decide_eq_true h),if_neg (by omega),if_pos h];simp
   ·rw [if_neg (by simpa using h),if_neg (by omega),if_neg h];simp
  ·rw [hpm]
   unfold inInt
   split <;> omega
theorem zrz {B y k:Nat} (hk:1≤k) (hy:y < 256):(256*B+y) % 2 ^ (8*(k+1) - 1)=256*(B % 2 ^ (8*k - 1))+y:=by
 obtain ⟨M,hM⟩:∃ M,M=2 ^ (8*k - 1):=⟨_,rfl⟩
 have hp:0 < M:=by rw [hM];exact Nat.two_pow_pos _
 rw [show 2 ^ (8*(k+1) - 1)=256*M by rw [hM,show 8*(k+1) - 1=8+(8*k - 1) by omega,Nat.pow_add],←hM]
 have h1:=Nat.div_add_mod B M
 have h2:=Nat.mod_lt B hp
 obtain ⟨q,hq⟩:∃ q,q=B / M:=⟨_,rfl⟩
 obtain ⟨t,ht⟩:∃ t,t=B % M:=⟨_,rfl⟩
 rw [←hq,←ht] at h1
 rw [←ht] at h2 ⊢
 rw [show 256*B+y=(256*t+y)+(256*M)*q by rw [←h1,Nat.mul_add,Nat.mul_assoc];omega,Nat.add_mul_mod_self_left]
 exact Nat.mod_eq_of_lt (by omega)
theorem zfM {s:Bool} {base:Int} {c m:Int} {g p t:Nat} {r q:List UInt8} {us:List Nat} {e:Int} (hu:zg r m (wof c)=(us,q,e)) (he:e≠0):zf9 s base c m g p t r=([],[],2):=by
 unfold zf9;rw [hu];dsimp only;rw [if_pos he];rfl
theorem zeQ {s:Bool} {base:Int} {c m:Int} {g p t:Nat} {r q q2:List UInt8} {us vs:List Nat} {e:Int} (hu:zg r m (wof c)=(us,q,0)) (hv:zg q (t:Int) (zh ((g+p:Nat):Int))=(vs,q2,e)) (he:e≠0):zf9 s base c m g p t r=([],[],2):=by
 unfold zf9;rw [hu];dsimp only;rw [if_neg (by simp),hv];dsimp only;rw [if_pos he];rfl
theorem zfN {s:Bool} {base:Int} {c m:Int} {g p t:Nat} {r q q2:List UInt8} {us vs:List Nat} (hu:zg r m (wof c)=(us,q,0)) (hv:zg q (t:Int) (zh ((g+p:Nat):Int))=(vs,q2,0)):zf9 s base c m g p t r=pend s base (wof c).toNat g p m.toNat us vs q2:=by
 unfold zf9;rw [hu];dsimp only;rw [if_neg (by simp),hv];dsimp only;rw [if_neg (by simp)]
theorem zdI {s:Bool} {base:Int} {w g p m:Nat} {low both:List Nat} {q:List UInt8} (h:pall w g p m (0,low) both=none):pend s base w g p m low both q=([],[],2):=by unfold pend;rw [h];rfl
theorem zeq {s:Bool} {base:Int} {w g p m a:Nat} {low both lf:List Nat} {q:List UInt8} (h:pall w g p m (0,low) both=some (a,lf)):pend s base w g p m low both q=match omap (zbl s false base) lf with | none=>([],[],2) | some xs=>(xs,q,0):=by unfold pend;rw [h];rfl
theorem zb9 {w g p m:Nat} {st:Nat × List Nat} {both:List Nat} {k:Nat} (h:pall w g p m st (both.take k)=none):pall w g p m st both=none:=by
 rw [←List.take_append_drop k both,zd3,h]
theorem zk3 {w g p m:Nat} {st st':Nat × List Nat} {both:List Nat} {k v:Nat} (hk:k < both.length) (hv:v=both[k]) (h:pall w g p m st (both.take k)=some st'):pall w g p m st (both.take (k+1))=zgL w g p m st' v:=by
 rw [List.take_succ_eq_append_getElem hk,zrx,h,←hv]
theorem zoc {w g p m at_ v gap patch:Nat} {low:List Nat} (hg:gap=v / 2 ^ p) (hp:patch=v % 2 ^ p):zgL w g p m (at_,low) v=if gap < 2 ^ g∧at_+gap < m∧(zY patch+w≤63∨patch=0) then some (at_+gap,low.set (at_+gap) (low.getD (at_+gap) 0 ^^^ (patch*2 ^ w))) else none:=by
 unfold zgL
 rw [←hg,←hp]
theorem zg1 {w patch:Nat} (hp:patch < 2 ^ 64) (h:zY patch+w≤63∨patch=0):patch*2 ^ w < 2 ^ 63:=by
 rcases h with h | h
 ·have h1:=zdQ hp
  have h2:patch*2 ^ w < 2 ^ zY patch*2 ^ w:=Nat.mul_lt_mul_of_pos_right h1 (Nat.two_pow_pos _)
  rw [←Nat.pow_add] at h2
  exact Nat.lt_of_lt_of_le h2 (Nat.pow_le_pow_right (by omega) h)
 ·rw [h,Nat.zero_mul];exact Nat.two_pow_pos _
theorem zmS (w:Nat) (us:List Nat):∀ k,(pst w us k).1.length≤k+(pst w us k).2 / 255
 | 0=>by simp [pst]
 | k+1=>by
  have ih:=zmS w us k
  have hl:=zfL w us k
  by_cases h:us.getD k 0 / 2 ^ w=0
  ·rw [zfJ h];omega
  ·rw [zfK h]
   simp only [List.length_append,List.length_replicate,List.length_singleton]
   omega
theorem zrA:∀ (m N j:Nat) (h:j < (be m N).length),(be m N)[j]=UInt8.ofNat (N / 256 ^ (m - 1 - j) % 256)
 | m+1,N,0,_=>by simp [be]
 | m+1,N,j+1,h=>by
  have h':j < (be m N).length:=by simpa [be] using h
  have:=zrA m N j h'
  simp only [be,List.getElem_cons_succ]
  rw [this,show m+1 - 1 - (j+1)=m - 1 - j by omega]
theorem zrB {n S b0:Nat} (h1:1≤n) (hS:S < 2 ^ (8*n - 1)) (hb:b0=S / 256 ^ (n - 1) % 256):b0 < 128∧(be n S).set 0 (UInt8.ofNat (b0+128))=be n (S+2 ^ (8*n - 1)):=by
 have hp:2 ^ (8*n - 1)=128*256 ^ (n - 1):=by rw [p256,show 8*n - 1=7+8*(n - 1) by omega,Nat.pow_add]
 have hpos:0 < 256 ^ (n - 1):=Nat.pow_pos (by omega)
 have hlt:S / 256 ^ (n - 1) < 128:=by rw [Nat.div_lt_iff_lt_mul hpos,←hp];exact hS
 have hb1:b0 < 128:=by rw [hb];exact Nat.lt_of_le_of_lt (Nat.mod_le _ _) hlt
 refine ⟨hb1,zoK (by rw [List.length_set,zcJ]) ?_⟩
 have hl:0 < (be n S).length:=by rw [zcJ];omega
 have h2:=zjA (be n S) 0 (UInt8.ofNat (b0+128)) hl
 rw [zrA n S 0 hl,zcJ,Nat.sub_zero,←hb] at h2
 have e1:(UInt8.ofNat b0).toNat=b0:=zg0 (by omega)
 have e2:(UInt8.ofNat (b0+128)).toNat=b0+128:=zg0 (by omega)
 have h3:bval (be n S)=S:=by
  rw [zfX,Nat.mod_eq_of_lt]
  rw [p256,show 8*n=(8*n - 1)+1 by omega,Nat.pow_succ]
  omega
 rw [e1,e2,h3,Nat.add_mul] at h2
 rw [hp]
 omega
theorem zjO {l:List Int} {W:Int} {s:Bool} (h:zy l s=none∨l.length < 1∨512 < l.length∨zbc W < 0∨64≤W):zcN l W s=([],1):=by unfold zcN;rw [if_pos h]
theorem zrC {l:List Int} {W:Int} {s:Bool} (h:pups l=none):zcN l W s=([],1):=by unfold zcN;split <;> simp [h]
theorem zps {l:List Int} {W:Nat} {s:Bool} {us:List Nat} (h0:zy l s≠none) (h1:1≤l.length) (h2:l.length≤512) (h3:0≤zbc (W:Int)) (h4:W < 64) (h:pups l=some us) :
  zcN l W s=if zcM l = -9223372036854775808∨31 < (zm W us).length∨64 < pgw (zm W us)+ppw (zm W us)∨64 < W+ppw (zm W us) then ([],1) else (play (zcM l) us W,0):=by
 unfold zcN
 rw [if_neg (by rintro (h | h | h | h | h) <;> first | exact h0 h | omega),h,Int.toNat_natCast]
theorem zmT {W:Int} (h:0≤zbc W):1≤W∧W≤64:=by
 obtain ⟨h1,h2⟩:=zi0 h
 obtain ⟨c,hc⟩:=Int.eq_ofNat_of_zero_le h
 rw [hc] at h1 h2
 have h3:=zvR ⟨c,by omega⟩
 dsimp only at h3
 have h4:=zei (c:Int)
 rw [h1] at h3 h4
 omega
end Go.Proofs.YtlibofmpnlfelaaGreatDoor
