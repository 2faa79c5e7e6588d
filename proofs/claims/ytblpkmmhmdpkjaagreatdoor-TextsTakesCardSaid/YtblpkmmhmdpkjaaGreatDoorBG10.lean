import Derived.Test.YtblpkmmhmdpkjaaGreatDoorBG9
set_option maxHeartbeats 8000000
set_option maxRecDepth 100000
namespace Go.Proofs.YtblpkmmhmdpkjaaGreatDoor
open Go.RowKit
theorem zn3 {u:Nat} (h:u < 2 ^ 64):(zY (u ||| 1)+7) / 8=zN u:=by
 rw [zmh h (by decide),show zY 1=1 from rfl]
 unfold zN
 omega
theorem zkt (u:Nat) (w:World) (h:u < 2 ^ 64) :
  Calls Tryz.prog 198 #[.int .u64 (u:Int)] w fun e w'=>e=.returned (.int .i64 (zN u:Int))∧w=w':=by
 have hor:=zoB (u:Int) (by omega) (by omega)
 rw [Int.toNat_natCast] at hor
 obtain ⟨y,hy⟩:∃ y,y=u ||| 1:=⟨_,rfl⟩
 have hy64:y < 2 ^ 64:=by rw [hy];exact Nat.or_lt_two_pow h (by decide)
 obtain ⟨b,hb⟩:∃ b,b=zY y:=⟨_,rfl⟩
 have hb64:b≤64:=by rw [hb];exact zcE hy64
 have HE:Hid ((b+7) / 8=zN u):=Lib.hid (by rw [hb,hy];exact zn3 h)
 have HB:=Lib.hid (fun W=>zge y W hy64)
 rw [←hb] at HB
 rw [←hy] at hor
 clear hy hb h hy64
 go_enter Tryz.func198,Tryz.ntmps198
 go_wp2_with (go_at_call 171;refine (HB.out _).mono ?_;rintro e w' ⟨rfl,rfl⟩)
 go_ret
 exact ⟨zQ (by have:=HE.out;omega),rfl⟩
def zpU (u n:Nat) (w:World) (i:Value) (wr:World):Prop:=
 ∃ (k:Nat) (o:List UInt8),k≤n∧i=.int .i64 (k:Int)∧o.length=n∧o.drop (n - k)=be k u∧Row wr w.heap.size 5 (o.map bv)∧Below w.heap.size w wr
theorem zpV {o:List UInt8} {n k j u z:Nat} (ho:o.length=n) (hj:n=j+k+1) (hz:z=u / 256 ^ k % 256) (hd:o.drop (n - k)=be k u):(o.set j (UInt8.ofNat z)).drop (n - (k+1))=be (k+1) u:=by
 rw [show n - (k+1)=j by omega,List.drop_eq_getElem_cons (by rw [List.length_set];omega),List.getElem_set_self,List.drop_set_of_lt (by omega),be,←hz,←hd,show n - k=j+1 by omega]
theorem zhj (u:Nat) (w:World) (h:u < 2 ^ 64) :
  Calls Tryz.prog 167 #[.int .u64 (u:Int)] w fun e w'=>∃ v,e=.returned v∧IsB (be (zN u) u) v w'∧Below w.heap.size w w':=by
 obtain ⟨n,hn⟩:∃ n,n=zN u:=⟨_,rfl⟩
 have hn8:n≤8:=by rw [hn];exact ze0 h
 have HS:=Lib.hid (fun W=>zkt u W h)
 rw [←hn] at HS ⊢
 have HU:=Lib.hid h
 clear hn h
 go_enter Tryz.func167,Tryz.ntmps167
 go_wp2_with (first | (go_at_call 198;refine (HS.out _).mono ?_;rintro e w' ⟨rfl,rfl⟩) | (refine zA elemB rfl _ _ rfl _ _ _ _ n w w.heap.size rfl rfl rfl rfl (by omega) (by omega) (Below.refl _ _) (Nat.le_refl _) ?_))
 intro w1 hr1 hb1
 have hst:zpU u n w (.int .i64 0) w1:=⟨0,List.replicate n 0,by omega,rfl,by simp,by simp [be],by simpa using hr1,hb1⟩
 clear hr1 hb1
 go_wp2
 go_loopw [10] (zpU u n w) (fun i _=>n - (intOf i).toNat)
 case atStart=>exact hst
 case round =>
  obtain ⟨k,o,hk,rfl,ho,hok,hr,hbr⟩:=hrel
  have HO:=Lib.hid ho
  have HOK:=Lib.hid hok
  clear ho hok hst
  by_cases hlt:k < n
  ·have hlt2:(k:Int) < (n:Int):=by omega
   obtain ⟨j,hj⟩:∃ j,n=j+k+1:=⟨n - 1 - k,by omega⟩
   have hji:(n:Int) - 1 - (k:Int)=(j:Int):=by omega
   have hjn:(j:Int) < (n:Int):=by omega
   have hjo:j < o.length:=by have:=HO.out;omega
   obtain ⟨d,hd⟩:∃ d,d=8*k:=⟨_,rfl⟩
   have hdi:8*(k:Int)=(d:Int):=by omega
   have hd64:d≤64:=by omega
   obtain ⟨y,hy⟩:∃ y,y=u / 256 ^ k:=⟨_,rfl⟩
   have hyi:(u:Int) / 2 ^ d=(y:Int):=by
    rw [hy,p256,←hd];simp
   obtain ⟨z,hz⟩:∃ z,z=y % 256:=⟨_,rfl⟩
   have hz256:z < 256:=by omega
   have hzw:IntKind.u8.wrap (y:Int)=(z:Int):=by rw [IntKind.wrap_u8];omega
   have hzu:z=u / 256 ^ k % 256:=by rw [hz,hy]
   have HN:=Lib.hid (zpV HO.out hj hzu HOK.out)
   have hgr:=hr.lt
   have hcx:wr.cell? ⟨w.heap.size,j,none⟩=some (bv o[j]):=by rw [hr.cell,List.getElem?_map,List.getElem?_eq_getElem hjo];rfl
   have hfx:=hr.free j
   have hr2:=hr.set_ j (bv (UInt8.ofNat z))
   rw [←List.map_set,←zd6 hz256] at hr2
   have HR2:=Lib.hid hr2
   have HBW:=Lib.hid hbr
   clear hr2 hr hbr hj hd hy hz hzu
   go_wp2
   go_roundw
   case rel =>
    exact ⟨k+1,o.set j (UInt8.ofNat z),by omega,by go_num,by rw [List.length_set];exact HO.out,HN.out,HR2.out,HBW.out.setCell (Nat.le_refl _) _⟩
   case measure=>simp [intOf];omega
  ·obtain rfl:k=n:=by omega
   have hlt2:¬(k:Int) < (k:Int):=by omega
   have hT:o=be k u:=by
    have h1:=HOK.out
    rw [Nat.sub_self,List.drop_zero] at h1
    exact h1
   have HT:=Lib.hid hT
   have HR:=Lib.hid hr
   have HBR:=Lib.hid hbr
   clear hT hr hbr
   go_wp2
   go_ret
   refine ⟨_,rfl,?_,HBR.out⟩
   rw [←HT.out]
   exact zcB HR.out HO.out (by omega)
theorem zpW (T:Nat) (l:List UInt8) (v:Value) (w:World) (hv:IsB l v w) (h3:3≤T) (h10:T≤10) (h1:1≤l.length) (h8:l.length≤8) :
  Calls Tryz.prog 166 #[.int .i64 (T:Int),v] w (RetOwn w (UInt8.ofNat (8*(l.length - 1)+(T - 3))::l)):=by
 obtain ⟨A,c,rfl,hA,hnc,hcm,hl⟩:=hv
 obtain ⟨n,hn⟩:∃ n,n=l.length:=⟨_,rfl⟩
 rw [←hn] at hA hnc h1 h8 ⊢
 obtain ⟨c0,hc0⟩:∃ c0,c0=8*(n - 1)+(T - 3):=⟨_,rfl⟩
 have hc64:c0 < 64:=by omega
 rw [←hc0]
 have hci:8*((n:Int) - 1)+(T:Int) - 3=(c0:Int):=by omega
 have hci2:8*((n:Int) - 1)+(T:Int)=(c0:Int)+3:=by omega
 have hc256:c0 < 256:=by omega
 have hown:=zgO w 5 (.int .u8 (c0:Int)) (Nat.le_refl _)
 rw [zd6 hc256] at hown
 have hb1:Below w.heap.size w (w.alloc (.cells #[bv (UInt8.ofNat c0)] 5)):=(Below.refl _ _).alloc (Nat.le_refl _) _
 have hz1:=hb1.size
 have hl1:=hl.below hb1
 have HN:=Lib.hid hn
 clear hn hc0 hl hcm
 go_enter Tryz.func166,Tryz.ntmps166
 go_wp2_with (at_builtin;rw [zd6 hc256];refine zo elemB rfl _ _ rfl w.heap.size _ _ _ _ _ _ (l.map bv) w rfl rfl hA (by rw [List.length_map];exact HN.out.symm) hl1 (zcb l) hown hb1 hz1 (by omega) (by omega) ?_)
 intro v2 w2 hown2 hb2 _ _
 go_wp2
 go_ret
 refine ⟨v2,rfl,?_,hb2⟩
 rw [List.length_cons,←HN.out,Nat.add_comm n 1]
 exact hown2
theorem zmQ (u T:Nat) (v:Value) (w:World) (hu:u < 2 ^ 64) (hv:IsB (be (zN u) u) v w) (h3:3≤T) (h10:T≤10) :
  Calls Tryz.prog 166 #[.int .i64 (T:Int),v] w (RetOwn w (elay u T)):=by
 have h:=zpW T _ v w hv h3 h10 (by rw [zcv];exact zdl u) (by rw [zcv];exact ze0 hu)
 rw [zcv] at h
 exact h
theorem RetOwn.e {w w':World} {l:List UInt8} {v:Value} (h:w'.ownsRow w.heap.size 5 1 v l.length (l.map bv)) (hb:Below w.heap.size w w'):RetE w (l,0) (.returned (.tuple #[v,.int .i64 0])) w':=
 ⟨v,rfl,zcz h,hb⟩
theorem zrA (x t:Int) (s:Bool) (w:World) (h0 : -9223372036854775808≤x) (h1:x≤9223372036854775807) :
  Calls Tryz.prog 133 #[.int .i64 x,.int .i64 t,.bool s] w (RetE w (eput x t s)):=by
 by_cases ht:t < 3
 ·have hE:=Lib.hid (zek (x:=x) (s:=s) (.inl ht))
  have d1:decide (t < 3)=true:=decide_eq_true ht
  go_enter Tryz.func133,Tryz.ntmps133
  go_wp2
  go_ret2
  rw [hE.out]
  exact RetE.nil _ (Below.refl _ _)
 ·have d1:decide (t < 3)=false:=decide_eq_false ht
  by_cases ht2:10 < t
  ·have hE:=Lib.hid (zek (x:=x) (s:=s) (.inr ht2))
   have d2:decide (10 < t)=true:=decide_eq_true ht2
   go_enter Tryz.func133,Tryz.ntmps133
   go_wp2
   go_ret2
   rw [hE.out]
   exact RetE.nil _ (Below.refl _ _)
  ·have d2:decide (10 < t)=false:=decide_eq_false ht2
   obtain ⟨T,rfl⟩:=Int.eq_ofNat_of_zero_le (show 0≤t by omega)
   have h3:3≤T:=by omega
   have h10:T≤10:=by omega
   cases s with
   | false =>
    by_cases hx:x < 0
    ·have hE:=Lib.hid (zmy (x:=x) (s:=false) (t:=(T:Int)) (by unfold zD;rw [if_neg (by simp),if_neg (by omega)]))
     have d3:decide (x < 0)=true:=decide_eq_true hx
     go_enter Tryz.func133,Tryz.ntmps133
     go_wp2
     go_ret2
     rw [hE.out]
     exact RetE.nil _ (Below.refl _ _)
    ·have d3:decide (x < 0)=false:=decide_eq_false hx
     obtain ⟨u,rfl⟩:=Int.eq_ofNat_of_zero_le (show 0≤x by omega)
     have hw:IntKind.u64.wrap (u:Int)=(u:Int):=by rw [IntKind.wrap_u64];omega
     have hu64:u < 2 ^ 64:=by omega
     have hE:=Lib.hid (ziM (x:=(u:Int)) (s:=false) h3 h10 (by unfold zD;rw [if_neg (by simp),if_pos (by omega),Int.toNat_natCast]))
     have HD:=Lib.hid (zhj u w hu64)
     have HL:=Lib.hid (fun v W hv=>zmQ u T v W hu64 hv h3 h10)
     clear h0 h1 hx hu64
     go_enter Tryz.func133,Tryz.ntmps133
     go_wp2_with fail
     refine HD.out.mono ?_
     rintro e w2 ⟨v2,rfl,hv2,hb2⟩
     have HV2:=Lib.hid hv2
     have HB2:=Lib.hid hb2
     clear hv2 hb2
     go_wp2_with (go_at_call 166;refine (HL.out _ _ HV2.out).mono ?_)
     rintro e w3 ⟨v3,rfl,hv3,hb3⟩
     have HV3:=Lib.hid (zcz hv3)
     have HB3:=Lib.hid (za HB2.out hb3)
     clear hv3 hb3
     go_wp2
     go_ret2
     rw [hE.out]
     exact ⟨_,rfl,HV3.out,HB3.out⟩
   | true =>
    have hz:=zd5 h0 h1
    obtain ⟨u,hu⟩:∃ u,u=(vzig x).toNat:=⟨_,rfl⟩
    have hui:vzig x=(u:Int):=by omega
    have hu64:u < 2 ^ 64:=by omega
    have hE:=Lib.hid (ziM (x:=x) (s:=true) h3 h10 (by unfold zD;rw [if_pos rfl,←hu]))
    have HZ:=Lib.hid (zlk x w h0 h1)
    rw [hui] at HZ
    have HD:=Lib.hid (zhj u w hu64)
    have HL:=Lib.hid (fun v W hv=>zmQ u T v W hu64 hv h3 h10)
    clear h0 h1 hz hu hui hu64
    rcases Bool.eq_false_or_eq_true (decide (x < 0)) with d3 | d3
    all_goals
     go_enter Tryz.func133,Tryz.ntmps133
     go_wp2_with (first | (go_at_call 165;refine HZ.out.mono ?_;rintro e w' ⟨rfl,rfl⟩) | (go_at_call 167;refine HD.out.mono ?_))
     rintro e w2 ⟨v2,rfl,hv2,hb2⟩
     have HV2:=Lib.hid hv2
     have HB2:=Lib.hid hb2
     clear hv2 hb2
     go_wp2_with (go_at_call 166;refine (HL.out _ _ HV2.out).mono ?_)
     rintro e w3 ⟨v3,rfl,hv3,hb3⟩
     have HV3:=Lib.hid (zcz hv3)
     have HB3:=Lib.hid (za HB2.out hb3)
     clear hv3 hb3
     go_wp2
     go_ret2
     rw [hE.out]
     exact ⟨_,rfl,HV3.out,HB3.out⟩
theorem zn4 (A:Option Addr) (c:Nat) (w:World):Calls Tryz.prog 168 #[.slice A 0 c] w fun e w'=>e=.returned (.tuple #[.int .i64 0,.int .i64 0,.bool false])∧w=w':=by
 go_enter Tryz.func168,Tryz.ntmps168
 go_wp2
 go_ret3
 exact ⟨rfl,rfl⟩
theorem zpX (ad:Addr) (n c B K T:Nat) (ok:Bool) (w:World) (hc0:w.cell? ad=some (.int .u8 (B:Int))) (hB:B < 256) (hn0:0 < n) (hn:n≤1000000) (hK:K=B / 8+1) (hT:T=B % 8+3) (hok:ok=decide (K≤8∧K < n)) :
  Calls Tryz.prog 168 #[.slice (some ad) n c] w fun e w'=>e=.returned (.tuple #[.int .i64 (K:Int),.int .i64 (T:Int),.bool ok])∧Below w.heap.size w w':=by
 have hKi:(B:Int) / 8+1=(K:Int):=by omega
 have hTi:(B:Int) % 8+3=(T:Int):=by omega
 have hni:((n:Int) == 0)=false:=by simp;omega
 have hn0i:(0:Int) < (n:Int):=by omega
 have hK32:K≤32:=by omega
 have hT10:T≤10:=by omega
 by_cases h8:K≤8
 ·have d8:decide ((K:Int)≤8)=true:=decide_eq_true (by omega)
  by_cases hl:K < n
  ·have dl:decide ((K:Int) < (n:Int))=true:=decide_eq_true (by omega)
   rw [decide_eq_true (show K≤8∧K < n from ⟨h8,hl⟩)] at hok
   subst hok
   clear hK hT hn
   go_enter Tryz.func168,Tryz.ntmps168
   go_wp2
   go_quiet (fail)
   go_wp2
   go_ret3
   exact ⟨rfl,below_drewN (Below.refl _ _) nq⟩
  ·have dl:decide ((K:Int) < (n:Int))=false:=decide_eq_false (by omega)
   rw [decide_eq_false (show ¬(K≤8∧K < n) by omega)] at hok
   subst hok
   clear hK hT hn
   go_enter Tryz.func168,Tryz.ntmps168
   go_wp2
   go_quiet (fail)
   go_wp2
   go_ret3
   exact ⟨rfl,below_drewN (Below.refl _ _) nq⟩
 ·have d8:decide ((K:Int)≤8)=false:=decide_eq_false (by omega)
  rw [decide_eq_false (show ¬(K≤8∧K < n) by omega)] at hok
  subst hok
  clear hK hT hn
  go_enter Tryz.func168,Tryz.ntmps168
  go_wp2
  go_quiet (fail)
  go_wp2
  go_ret3
  exact ⟨rfl,below_drewN (Below.refl _ _) nq⟩
def enum (l:List UInt8) (s:Bool):Option Int:=if zN (bval l)=l.length then zbe (bval l) s else none
def zsS (l:List UInt8) (n:Nat) (v i:Value):Prop:=∃ (k:Nat) (U:Int),k≤n∧i=.int .i64 (k:Int)∧v=.int .u64 U∧U=((bval (l.take k):Nat):Int)
theorem zlN (s:Bool) (l:List UInt8) (v:Value) (w:World) (hv:IsB l v w) (h8:l.length≤8) :
  Calls Tryz.prog 169 #[.bool s,v] w fun e w'=>e=.returned (.tuple #[.int .i64 ((enum l s).getD 0),.bool (enum l s).isSome])∧w=w':=by
 obtain ⟨A,c,rfl,hA,hnc,hcm,hl⟩:=hv
 obtain ⟨n,hn⟩:∃ n,n=l.length:=⟨_,rfl⟩
 rw [←hn] at hA hnc h8 ⊢
 have HN:=Lib.hid hn
 have HLi:=Lib.hid hl
 clear hn hl hA hnc hcm
 go_enter Tryz.func169,Tryz.ntmps169
 go_wp2
 go_loop [6,11] (zsS l n) (fun _ i=>n - (intOf i).toNat)
 case atStart=>exact ⟨0,0,by omega,rfl,rfl,by simp [bval]⟩
 case round =>
  obtain ⟨k,U,hk,rfl,rfl,hU⟩:=hrel
  have HU:=Lib.hid hU
  by_cases hlt:k < n
  ·have hlt2:(k:Int) < (n:Int):=by omega
   have hkl:k < l.length:=by have:=HN.out;omega
   obtain ⟨ad,rfl,_,hcell⟩:=HLi.out.cell (k:=k) (by rw [List.length_map];exact hkl)
   obtain ⟨y,hy⟩:∃ y:Nat,y=l[k].toNat:=⟨_,rfl⟩
   have hy8:y < 256:=by rw [hy];exact UInt8.toNat_lt _
   have hcy:w.cell? (ad.add k)=some (.int .u8 (y:Int)):=by rw [hcell,List.getElem_map,hy];rfl
   obtain ⟨X,hX⟩:∃ X,X=bval (l.take k):=⟨_,rfl⟩
   rw [←hX] at hU
   subst hU
   have hX7:(X:Int) < 72057594037927936:=by rw [hX];exact zhZ _ (by omega)
   obtain ⟨Y,hY⟩:∃ Y,Y=X*2 ^ 8:=⟨_,rfl⟩
   have hsh:IntKind.u64.wrap ((X:Int)*2 ^ 8)=(Y:Int):=by rw [IntKind.wrap_u64];omega
   have hsh2:IntKind.u64.wrap ((X:Int)*256)=(Y:Int):=by rw [IntKind.wrap_u64];omega
   have hyw:IntKind.u64.wrap (y:Int)=(y:Int):=by rw [IntKind.wrap_u64];omega
   have hor:=zlc 8 Y y (by rw [hY];exact Nat.mul_mod_left _ _) (by omega) (by omega)
   obtain ⟨Z,hZ⟩:∃ Z,Z=Y+y:=⟨_,rfl⟩
   rw [←hZ] at hor
   have HZ:Hid (Z=bval (l.take (k+1))):=Lib.hid (by rw [hZ,hY,zo1 _ _ hkl,←hX,←hy];omega)
   clear hcell hy hX hX7 hY hZ HU
   go_wp2
   go_round
   case rel=>exact ⟨k+1,Z,by omega,by go_num,rfl,by rw [HZ.out]⟩
   case measure=>simp [intOf];omega
  ·obtain rfl:k=n:=by omega
   have hlt2:¬(k:Int) < (k:Int):=by omega
   obtain ⟨u,hu⟩:∃ u,u=bval l:=⟨_,rfl⟩
   have hUu:U=(u:Int):=by rw [hU,List.take_of_length_le (by have:=HN.out;omega),hu]
   have hu64:u < 2 ^ 64:=by
    rw [hu,←List.take_length (l:=l)]
    exact zh0 _ (by have:=HN.out;omega)
   obtain ⟨m,hm⟩:∃ m,m=zN u:=⟨_,rfl⟩
   have HS:=Lib.hid (fun W=>zkt u W hu64)
   rw [←hm] at HS
   by_cases hs:m=k
   ·have hsi:((k:Int) != (m:Int))=false:=by rw [hs];simp
    have HE:=Lib.hid (show enum l s=zbe u s by unfold enum;rw [←hu,←hm,←HN.out,if_pos hs])
    cases s with
    | true =>
     have HZ:=Lib.hid (fun W=>zll (u:Int) W (by omega) (by omega))
     have HM:=Lib.hid (zhV u)
     subst hUu
     clear hu hu64 hm hU HU
     go_wp2_with (first | (go_at_call 198;refine (HS.out _).mono ?_;rintro e w' ⟨rfl,rfl⟩) | (go_at_call 177;refine (HZ.out _).mono ?_;rintro e w' ⟨rfl,rfl⟩))
     go_ret2
     rw [HE.out,HM.out]
     exact ⟨rfl,rfl⟩
    | false =>
     by_cases hx:U < 9223372036854775808
     ·have HM:=Lib.hid (zjJ (by omega) hx)
      have hmx:decide ((9223372036854775807:Int) < U)=false:=decide_eq_false (by omega)
      have hU0:0≤U:=by omega
      have hUw:IntKind.i64.wrap U=U:=by rw [IntKind.wrap_i64];omega
      rw [←hUu] at HS
      have HT:Hid (U.toNat=u):=Lib.hid (by omega)
      clear hu hu64 hm hU HU hUu
      go_wp2_with (go_at_call 198;refine (HS.out _).mono ?_;rintro e w' ⟨rfl,rfl⟩)
      go_ret2
      rw [HE.out,←HT.out,HM.out]
      exact ⟨rfl,rfl⟩
     ·have HM:=Lib.hid (zhW (U:=U) (by omega))
      have hmx:decide ((9223372036854775807:Int) < U)=true:=decide_eq_true (by omega)
      rw [←hUu] at HS
      have HT:Hid (U.toNat=u):=Lib.hid (by omega)
      clear hu hu64 hm hU HU hUu hx
      go_wp2_with (go_at_call 198;refine (HS.out _).mono ?_;rintro e w' ⟨rfl,rfl⟩)
      go_ret2
      rw [HE.out,←HT.out,HM.out]
      exact ⟨rfl,rfl⟩
   ·have hsi:((k:Int) != (m:Int))=true:=by simp;omega
    have HE:=Lib.hid (show enum l s=none by unfold enum;rw [←hu,←hm,←HN.out,if_neg hs])
    subst hUu
    clear hu hu64 hm hU HU
    go_wp2_with (go_at_call 198;refine (HS.out _).mono ?_;rintro e w' ⟨rfl,rfl⟩)
    go_ret2
    rw [HE.out]
    exact ⟨rfl,rfl⟩
theorem zpY (l:List UInt8) (v:Value) (s:Bool) (w:World) (hv:IsB l v w) (hb:l.length≤1000000) :
  Calls Tryz.prog 134 #[v,.bool s] w (RetT7O w (zC l s)):=by
 obtain ⟨A,c,rfl,hA,hnc,hcm,hl⟩:=hv
 obtain ⟨n,hn⟩:∃ n,n=l.length:=⟨_,rfl⟩
 rw [←hn] at hA hnc hb ⊢
 have hci:(c:Int)≤9223372036854775807:=by unfold maxLen at hcm;omega
 have HN:=Lib.hid hn
 by_cases h0:n=0
 ·subst h0
  obtain rfl:l=[]:=List.eq_nil_of_length_eq_zero hn.symm
  have hE:=Lib.hid (zjK s)
  clear hn hl hcm hA hnc
  go_enter Tryz.func134,Tryz.ntmps134
  go_wp2_with (go_at_call 168;refine (zn4 _ _ _).mono ?_;rintro e w' ⟨rfl,rfl⟩)
  try simp only [Exit.inBlock,Exit.then]
  refine bodyPost_ret (zV rfl _ _ _) rfl ?_
  rw [hE.out]
  exact RetT7O.no (Below.refl _ _)
 ·have h0l:0 < l.length:=by omega
  obtain ⟨ad,rfl,hadlt,hcell⟩:=hl.cell (k:=0) (by rw [List.length_map];exact h0l)
  obtain ⟨B,hB⟩:∃ B:Nat,B=l[0].toNat:=⟨_,rfl⟩
  have hB8:B < 256:=by rw [hB];exact UInt8.toNat_lt _
  have hc0:w.cell? ad=some (.int .u8 (B:Int)):=by
   have h1:ad.add 0=ad:=by unfold Addr.add;split <;> simp_all
   rw [←h1,hcell,List.getElem_map,hB];rfl
  have HB:=Lib.hid hB
  obtain ⟨K,hK⟩:∃ K,K=B / 8+1:=⟨_,rfl⟩
  obtain ⟨T,hT⟩:∃ T,T=B % 8+3:=⟨_,rfl⟩
  obtain ⟨ok,hok⟩:∃ ok,ok=decide (K≤8∧K < n):=⟨_,rfl⟩
  have HLk:=Lib.hid (zpX ad n c B K T ok w hc0 hB8 (by omega) hb hK hT hok)
  have HK:=Lib.hid (show K=l[0].toNat / 8+1 by rw [←HB.out];exact hK)
  have hT10:T≤10:=by omega
  have hK32:K≤32:=by omega
  cases ok with
  | false =>
   have hE:Hid (zC l s=(0,0,[],2)):=by
    by_cases h64:64≤B
    ·exact Lib.hid (zjL h0l (by rw [←HB.out];exact h64))
    ·exact Lib.hid (zgQ h0l HK.out (by have:=of_decide_eq_false hok.symm;omega))
   clear hn hl hcm hA hnc hok hK hT hB hcell hc0
   go_enter Tryz.func134,Tryz.ntmps134
   go_wp2_with (go_at_call 168;refine HLk.out.mono ?_)
   rintro e w2 ⟨rfl,hb2⟩
   have HB2:=Lib.hid hb2
   clear hb2
   go_wp2
   try simp only [Exit.inBlock,Exit.then]
   refine bodyPost_ret (zV rfl _ _ _) rfl ?_
   rw [hE.out]
   exact RetT7O.no HB2.out
  | true =>
   obtain ⟨hK8,hKn⟩:=of_decide_eq_true hok.symm
   have h64:B < 64:=by omega
   obtain ⟨j,hj⟩:∃ j,j=K+1:=⟨_,rfl⟩
   have hji:1+(K:Int)=(j:Int):=by omega
   obtain ⟨d,hd⟩:∃ d,d=(l.drop 1).take K:=⟨_,rfl⟩
   have hdl:d.length=K:=by rw [hd,List.length_take,List.length_drop,←hn];omega
   have HP:=Lib.hid fun (W:World) (h:Below w.heap.size w W)=>zk1 (P:=Tryz.prog) elemB (i:=1) (k:=j) (by omega) (by omega) hnc hcm hn.symm (hl.below h) hA
   rw [show j - 1=K by omega,show ((1:Nat):Int)=1 from rfl,←hji,←hd] at HP
   have HF:=Lib.hid fun (W:World) (h:Below w.heap.size w W)=>zbr (P:=Tryz.prog) elemB (k:=j) (by omega) hnc hcm hn.symm (hl.below h) hA
   rw [←hji] at HF
   have HNm:=Lib.hid (fun v W (hv:IsB d v W)=>zlN s d v W hv (by omega))
   obtain ⟨X,hX⟩:∃ X,X=(enum d s).getD 0:=⟨_,rfl⟩
   obtain ⟨ok2,hok2⟩:∃ ok,ok=(enum d s).isSome:=⟨_,rfl⟩
   rw [←hX,←hok2] at HNm
   have HT:=Lib.hid (show T=l[0].toNat % 8+3 by rw [←HB.out];exact hT)
   have HLen:Hid ((l.drop j).length≤1000000):=Lib.hid (by rw [List.length_drop];omega)
   clear hji
   cases ok2 with
   | false =>
    have hE:Hid (zC l s=(0,0,[],2)):=Lib.hid (zfA (u:=bval d) h0l HK.out (by rw [hd]) (by
     unfold enum at hok2
     split at hok2
     ·exact .inl (by simpa using hok2.symm)
     ·rename_i h;exact .inr (by rwa [hdl] at h)))
    clear hn hl hcm hA hnc hok hK hT hB hcell hc0 hX hok2 hd hdl
    go_enter Tryz.func134,Tryz.ntmps134
    go_wp2_with (go_at_call 168;refine HLk.out.mono ?_)
    rintro e w2 ⟨rfl,hb2⟩
    have HB2:=Lib.hid hb2
    obtain ⟨v3,hv3,hI3⟩:=HP.out w2 hb2
    have HI3:=Lib.hid hI3
    clear hb2 hI3
    go_wp2_with (first | (go_at_call 169;refine (HNm.out _ _ HI3.out).mono ?_;rintro e w' ⟨rfl,rfl⟩) | (refine ze5 rfl _ _ _ _ rfl v3 (hv3 _) ?_))
    try simp only [Exit.inBlock,Exit.then]
    refine bodyPost_ret (zV rfl _ _ _) rfl ?_
    rw [hE.out]
    exact RetT7O.no HB2.out
   | true =>
    have hE:Hid (zC l s=(X,(T:Int),l.drop j,0)):=Lib.hid (by
     have h1:zN (bval d)=K∧zbe (bval d) s=some X:=by
      unfold enum at hok2 hX
      split at hok2
      ·rename_i h
       rw [if_pos h] at hX
       refine ⟨by rw [h,hdl],?_⟩
       cases he:zbe (bval d) s with
       | none=>rw [he] at hok2;simp at hok2
       | some y=>rw [he] at hX;simp at hX;rw [hX]
      ·simp at hok2
     rw [zhY (u:=bval d) h0l HK.out (by rw [←HB.out];exact h64) (by omega) (by rw [hd]) h1.2 h1.1,HT.out,hj])
    clear hn hl hcm hA hnc hok hK hT hB hcell hc0 hX hok2 hd hdl
    go_enter Tryz.func134,Tryz.ntmps134
    go_wp2_with (go_at_call 168;refine HLk.out.mono ?_)
    rintro e w2 ⟨rfl,hb2⟩
    have HB2:=Lib.hid hb2
    obtain ⟨v3,hv3,hI3⟩:=HP.out w2 hb2
    have HI3:=Lib.hid hI3
    obtain ⟨v4,hv4,hI4⟩:=HF.out w2 hb2
    have HI4:=Lib.hid hI4
    obtain ⟨A4,c4,hs4,hA4,_,_,hl4⟩:=hI4
    obtain ⟨n4,hn4⟩:∃ n,n=(l.drop j).length:=⟨_,rfl⟩
    rw [←hn4] at hs4 hA4
    subst hs4
    have hn46:n4≤1000000:=by rw [hn4];exact HLen.out
    have HN4:Hid (((l.drop j).map bv).length=n4):=Lib.hid (by rw [List.length_map,hn4])
    clear hb2 hI3 hn4 hj
    go_wp2_with (first | (go_at_call 169;refine (HNm.out _ _ HI3.out).mono ?_;rintro e w' ⟨rfl,rfl⟩) | (refine ze5 rfl _ _ _ _ rfl v3 (hv3 _) ?_) | (refine zI rfl _ _ _ rfl _ (hv4 _) ?_) | (at_builtin;refine zo elemB rfl _ _ rfl w2.heap.size _ _ _ _ _ _ ((l.drop j).map bv) w2 rfl rfl hA4 HN4.out hl4 (zcb _) (World.ownsRow_nil _ _ _ _) (Below.refl _ _) (Nat.le_refl _) (by omega) (by omega) ?_))
    intro v5 w5 hown5 hb5 _ _
    rw [←List.map_drop] at hown5
    have HV5:Hid (OwnB w (l.drop j) v5 w5):=Lib.hid (OwnB.base HB2.out.size ⟨_,hown5⟩)
    have HB5:=Lib.hid (za HB2.out hb5)
    clear hown5 hb5
    go_wp2
    try simp only [Exit.inBlock,Exit.then]
    refine bodyPost_ret (zV rfl _ _ _) rfl ?_
    rw [hE.out]
    exact ⟨_,rfl,HV5.out,HB5.out⟩
end Go.Proofs.YtblpkmmhmdpkjaaGreatDoor
namespace Go.Proofs.YtblpkmmhmdpkjaaGreatDoor
def zbX (l:List Int):Nat:=match l with | []=>0 | x::r=>1+(r.takeWhile (· == x)).length
theorem zcn (x:Int) (r:List Int):zbX (x::r)=1+(r.takeWhile (· == x)).length:=rfl
theorem zfm (l:List Int):zbX l≤l.length:=by
 cases l with
 | nil=>exact Nat.le_refl _
 | cons x r =>
  have:=(List.takeWhile_prefix (l:=r) (· == x)).length_le
  rw [zcn,List.length_cons]
  omega
theorem zpZ {l:List Int} (h:1≤l.length):1≤zbX l:=by
 cases l with
 | nil=>simp at h
 | cons x r=>rw [zcn];omega
theorem zi2 {α:Type} {p:α→Bool} {l:List α} {k:Nat} (h:k≤(l.takeWhile p).length):∀ x∈l.take k,p x=true:=by
 induction l generalizing k with
 | nil=>simp
 | cons y l ih =>
  cases k with
  | zero=>simp
  | succ k =>
   rw [List.takeWhile_cons] at h
   by_cases hy:p y=true
   ·rw [if_pos hy,List.length_cons] at h
    intro x hx
    rw [List.take_succ_cons] at hx
    rcases List.mem_cons.1 hx with rfl | hx
    ·exact hy
    ·exact ih (by omega) x hx
   ·rw [if_neg hy] at h;simp at h
theorem zio {x:Int} {r:List Int} {k:Nat} (h:k≤zbX (x::r)):(x::r).take k=List.replicate k x:=by
 cases k with
 | zero=>rfl
 | succ k =>
  rw [List.take_succ_cons,List.replicate_succ]
  congr 1
  have h1:k≤(r.takeWhile (· == x)).length:=by rw [zcn] at h;omega
  refine List.eq_replicate_iff.2 ⟨?_,fun y hy=>by simpa using zi2 h1 y hy⟩
  have:=(List.takeWhile_prefix (l:=r) (· == x)).length_le
  rw [List.length_take]
  omega
theorem zp0 {l:List Int} {k:Nat} (hk:k < l.length) (h:k≤zbX l):k < zbX l↔l[k]=l[0]:=by
 cases l with
 | nil=>simp at hk
 | cons x r =>
  cases k with
  | zero=>simp;exact zpZ (by simp)
  | succ k =>
   have h1:k≤(r.takeWhile (· == x)).length:=by rw [zcn] at h;omega
   rw [List.getElem_cons_succ,List.getElem_cons_zero]
   rw [List.length_cons] at hk
   have key:∀ (r:List Int) (k:Nat) (hk:k < r.length),k≤(r.takeWhile (· == x)).length→(k < (r.takeWhile (· == x)).length↔r[k]=x):=by
    intro r
    induction r with
    | nil=>intro k hk;simp at hk
    | cons y r ih =>
     intro k hk h
     rw [List.takeWhile_cons] at h ⊢
     by_cases hy:(y == x)=true
     ·rw [if_pos hy,List.length_cons] at h ⊢
      cases k with
      | zero=>simp;simpa using hy
      | succ k =>
       rw [List.getElem_cons_succ,←ih k (by rw [List.length_cons] at hk;omega) (by omega)]
       omega
     ·rw [if_neg hy] at h ⊢
      simp at h
      subst h
      simp
      simpa using hy
   rw [←key r k (by omega) h1,zcn]
   omega
def zbc (a:List UInt8) (p:List UInt8 × Int):List UInt8:=if p.2=0∧(a.length=0∨p.1.length < a.length) then p.1 else a
def zhk (l:List Int) (s:Bool):List (List UInt8 × Int):=(if zbX l=l.length then [eput (l.headD 0) l.length s] else []) ++ [zdH l s,zd9 l s]
def zcD (l:List Int) (s:Bool):List (List UInt8 × Int):=zhk l s ++ (List.range 31).map fun c:Nat=>zcx l (wof (c:Int)) s
def zcX (l:List Int) (s:Bool):List UInt8 × Int:=if zG l s=none∨l.length < 1∨512 < l.length then ([],1) else ((zcD l s).foldl zbc [],0)
def zku (l:List Int) (n:Nat):Bool:=decide (5≤zbX (l.drop n))
def ucut (l:List Int):Nat:=if 3≤zbX l then min (zbX l) 512 else ((List.range' 1 (min l.length 512 - 1)).find? (zku l)).getD (min l.length 512)
theorem zsU {l:List Int} (h:1≤l.length):1≤ucut l∧ucut l≤l.length∧ucut l≤512:=by
 have h1:=zfm l
 unfold ucut
 split
 ·omega
 ·cases hf:(List.range' 1 (min l.length 512 - 1)).find? (zku l) with
  | none=>rw [Option.getD_none];omega
  | some n =>
   have:=List.mem_range'_1.1 (List.mem_of_find?_eq_some hf)
   rw [Option.getD_some]
   omega
def zdP (s:Bool):Nat→List Int→List UInt8 × Int
 | 0,_=>([],0)
 | k+1,l =>
  if l.length=0 then ([],0)
  else if (zcX (l.take (ucut l)) s).2≠0 then ([],(zcX (l.take (ucut l)) s).2)
  else if (zdP s k (l.drop (ucut l))).2≠0 then ([],(zdP s k (l.drop (ucut l))).2)
  else ((zcX (l.take (ucut l)) s).1 ++ (zdP s k (l.drop (ucut l))).1,0)
def zbY (l:List Int) (s:Bool):List UInt8 × Int:=if 4096 < l.length then ([],3) else zdP s l.length l
def uone (b:List UInt8) (s:Bool):List Int × List UInt8 × Int:=
 match b with
 | []=>([],[],2)
 | x::_=>if x.toNat / 64=1 then zbg b s else if x.toNat / 64=2 then zy b s else if x.toNat / 64=3 then zR b s
  else (List.replicate (zC b s).2.1.toNat (zC b s).1,(zC b s).2.2.1,(zC b s).2.2.2)
def zbW (s:Bool) (many:Nat):Nat→List Int→List UInt8→List Int × List UInt8 × Int
 | 0,_,_=>gbad
 | k+1,out,rest =>
  if many≤out.length then (if many < out.length then gbad else (out,rest,0))
  else if (uone rest s).2.2≠0 then gbad
  else zbW s many k (out ++ (uone rest s).1) (uone rest s).2.1
def zO (b:List UInt8) (many:Int) (s:Bool):List Int × List UInt8 × Int:=if many < 0∨4096 < many then ([],[],1) else zbW s many.toNat (many.toNat+1) [] b
theorem zn5 {cs:List (List UInt8 × Int)}:∀ {a:List UInt8},cs.foldl zbc a=a∨(cs.foldl zbc a,0)∈cs:=by
 induction cs with
 | nil=>intro a;exact .inl rfl
 | cons c cs ih =>
  intro a
  rw [List.foldl_cons]
  rcases ih (a:=zbc a c) with h | h
  ·rw [h]
   unfold zbc
   split
   ·rename_i hc
    right
    rw [show (c.1,(0:Int))=c from by rw [←hc.1]]
    exact List.mem_cons_self
   ·exact .inl rfl
  ·exact .inr (List.mem_cons_of_mem _ h)
theorem zkv {cs:List (List UInt8 × Int)}:∀ {a:List UInt8},(∀ p∈cs,p.2=0→p.1.length≠0)→((1≤a.length→1≤(cs.foldl zbc a).length∧(cs.foldl zbc a).length≤a.length)∧∀ p∈cs,p.2=0→1≤(cs.foldl zbc a).length∧(cs.foldl zbc a).length≤p.1.length):=by
 induction cs with
 | nil=>intro a _;exact ⟨fun h=>⟨h,Nat.le_refl _⟩,fun _ h=>by cases h⟩
 | cons c cs ih =>
  intro a hne
  rw [List.foldl_cons]
  obtain ⟨h1,h2⟩:=ih (a:=zbc a c) fun p hp=>hne p (List.mem_cons_of_mem _ hp)
  have hc:=hne c List.mem_cons_self
  refine ⟨fun ha=>?_,fun p hp h0=>?_⟩
  ·have h3:1≤(zbc a c).length∧(zbc a c).length≤a.length:=by
    unfold zbc
    split
    ·rename_i h;have:=hc h.1;omega
    ·exact ⟨ha,Nat.le_refl _⟩
   have:=h1 h3.1
   omega
  ·rcases List.mem_cons.1 hp with rfl | hp
   ·have h4:=hc h0
    have h3:1≤(zbc a p).length∧(zbc a p).length≤p.1.length:=by
     unfold zbc
     by_cases h:a.length=0∨p.1.length < a.length
     ·rw [if_pos ⟨h0,h⟩];omega
     ·rw [if_neg fun h5=>h h5.2];omega
    have:=h1 h3.1
    omega
   ·exact h2 p hp h0
theorem zp1 {l:List Int} {s:Bool} (h:zG l s≠none):∀ x∈l,s=true∨0≤x:=by
 intro x hx
 cases s with
 | true=>exact .inl rfl
 | false =>
  refine .inr (Int.not_lt.1 fun h0=>h (zb0 (x:=x) hx ?_))
  unfold zD
  rw [if_neg (by simp),if_neg (by omega)]
theorem zec {k c m:Nat} (hk:k≤3) (hc:c≤31) (h1:1≤m) (hm:m≤512):∃ x y,zz k c m=[x,y]∧x.toNat / 64=k:=by
 obtain ⟨X,hX⟩:∃ X,X=16384*k+512*c+(m - 1):=⟨_,rfl⟩
 refine ⟨UInt8.ofNat (X / 256 ^ 1 % 256),UInt8.ofNat (X / 256 ^ 0 % 256),by unfold zz;rw [←hX];rfl,?_⟩
 simp only [UInt8.toNat_ofNat',Nat.reducePow]
 omega
theorem zlO {c m:Nat} {r:List UInt8} {s:Bool} (hc:c≤31) (h1:1≤m) (hm:m≤512):uone (zz 1 c m ++ r) s=zbg (zz 1 c m ++ r) s:=by
 obtain ⟨x,y,h,hx⟩:=zec (k:=1) (by omega) hc h1 hm
 rw [h,List.cons_append]
 unfold uone
 dsimp only
 rw [if_pos hx]
theorem zkw {c m:Nat} {r:List UInt8} {s:Bool} (hc:c≤31) (h1:1≤m) (hm:m≤512):uone (zz 2 c m ++ r) s=zy (zz 2 c m ++ r) s:=by
 obtain ⟨x,y,h,hx⟩:=zec (k:=2) (by omega) hc h1 hm
 rw [h,List.cons_append]
 unfold uone
 dsimp only
 rw [if_neg (by omega),if_pos hx]
theorem zn6 {c m:Nat} {r:List UInt8} {s:Bool} (hc:c≤31) (h1:1≤m) (hm:m≤512):uone (zz 3 c m ++ r) s=zR (zz 3 c m ++ r) s:=by
 obtain ⟨x,y,h,hx⟩:=zec (k:=3) (by omega) hc h1 hm
 rw [h,List.cons_append]
 unfold uone
 dsimp only
 rw [if_neg (by omega),if_neg (by omega),if_pos hx]
theorem zlP {u t:Nat} {r:List UInt8} {s:Bool} (hu:u < 2 ^ 64) (h3:3≤t) (h10:t≤10):uone (elay u t ++ r) s=(List.replicate (zC (elay u t ++ r) s).2.1.toNat (zC (elay u t ++ r) s).1,(zC (elay u t ++ r) s).2.2.1,(zC (elay u t ++ r) s).2.2.2):=by
 have h8:=ze0 hu
 have h1:=zdl u
 obtain ⟨x,hx⟩:∃ x,x=UInt8.ofNat (8*(zN u - 1)+(t - 3)):=⟨_,rfl⟩
 have hx0:x.toNat / 64=0:=by rw [hx];simp only [UInt8.toNat_ofNat',Nat.reducePow];omega
 have he:elay u t ++ r=x::(be (zN u) u ++ r):=by unfold elay;rw [←hx];rfl
 rw [he]
 unfold uone
 dsimp only
 rw [if_neg (by omega),if_neg (by omega),if_neg (by omega)]
theorem zdQ {x t:Int} {s:Bool} {b:List UInt8} (h:eput x t s=(b,0)):3≤t∧t≤10∧∃ u,zD x s=some u∧b=elay u t.toNat:=by
 unfold eput at h
 split at h
 ·injection h with _ h;cases h
 ·rename_i ht
  split at h
  ·injection h with _ h;cases h
  ·rename_i u hu
   injection h with h _
   exact ⟨by omega,by omega,u,hu,h.symm⟩
theorem zeO {l:List Int} {s:Bool} {b:List UInt8} (h:zdH l s=(b,0)):1≤l.length∧l.length≤512∧∃ u,zG l s=some u∧b=dlay u:=by
 unfold zdH at h
 split at h
 ·injection h with _ h;cases h
 ·rename_i u hu
  split at h
  ·injection h with _ h;cases h
  ·injection h with h _
   exact ⟨by omega,by omega,u,hu,h.symm⟩
theorem zeP {l:List Int} {s:Bool} {b:List UInt8} (h:zd9 l s=(b,0)):zG l s≠none∧2≤l.length∧l.length≤512∧∃ us,zbK l (zbA l) (l.length - 1)=some us∧b=glay l s us:=by
 unfold zd9 at h
 split at h
 ·injection h with _ h;cases h
 ·rename_i hn
  split at h
  ·injection h with _ h;cases h
  ·rename_i us hu
   injection h with h _
   exact ⟨fun h2=>hn (.inl h2),Nat.not_lt.1 fun h2=>hn (.inr (.inl h2)),Nat.not_lt.1 fun h2=>hn (.inr (.inr h2)),us,hu,h.symm⟩
theorem zmR {l:List Int} {W:Int} {s:Bool} {b:List UInt8} (h:zcx l W s=(b,0)):∃ us,pups l=some us∧1≤l.length∧l.length≤512∧0≤zbb W∧W < 64∧zcw l≠-9223372036854775808∧(zn W.toNat us).length≤31∧pgw (zn W.toNat us)+ppw (zn W.toNat us)≤64∧b=play (zcw l) us W.toNat:=by
 unfold zcx at h
 split at h
 ·injection h with _ h;cases h
 ·rename_i h1
  split at h
  ·injection h with _ h;cases h
  ·rename_i us hu
   split at h
   ·injection h with _ h;cases h
   ·rename_i h2
    injection h with h _
    refine ⟨us,hu,?_,?_,?_,?_,?_,?_,?_,h.symm⟩
    ·exact Nat.not_lt.1 fun h=>h1 (.inr (.inl h))
    ·exact Nat.not_lt.1 fun h=>h1 (.inr (.inr (.inl h)))
    ·exact Int.not_lt.1 fun h=>h1 (.inr (.inr (.inr (.inl h))))
    ·exact Int.not_le.1 fun h=>h1 (.inr (.inr (.inr (.inr h))))
    ·exact fun h=>h2 (.inl h)
    ·exact Nat.not_lt.1 fun h=>h2 (.inr (.inl h))
    ·exact Nat.not_lt.1 fun h=>h2 (.inr (.inr (.inl h)))
theorem zi3 (c:Nat):∃ W:Nat,wof (c:Int)=(W:Int):=⟨(wof (c:Int)).toNat,by have:=(zd3 (c:Int)).1;omega⟩
theorem zfK {l:List Int} {s:Bool} {b:List UInt8} (hl:∀ x∈l,inInt x) (hp:zG l s≠none) (h1:1≤l.length) (h:(b,(0:Int))∈zcD l s) (r:List UInt8):uone (b ++ r) s=(l,r,0)∧2≤b.length:=by
 have hok:=zp1 hp
 unfold zcD zhk at h
 simp only [List.mem_append,List.mem_cons,List.mem_map,List.mem_range,List.not_mem_nil,or_false] at h
 rcases h with (h | h | h) | ⟨c,hc,h⟩
 ·split at h
  ·rename_i hs
   rw [List.mem_singleton] at h
   obtain ⟨h3,h10,u,hu,hb⟩:=zdQ h.symm
   obtain ⟨x,l',rfl⟩:∃ x l',l=x::l':=by cases l with | nil=>simp at h1 | cons x l'=>exact ⟨x,l',rfl⟩
   rw [List.headD_cons] at hu
   have hx:=hl x List.mem_cons_self
   have hu64:=zgN hx.1 hx.2 hu
   have hrep:=zio (x:=x) (r:=l') (k:=(x::l').length) (by omega)
   rw [List.take_of_length_le (Nat.le_refl _)] at hrep
   rw [Int.toNat_natCast] at hb
   have h3':3≤(x::l').length:=by omega
   have h10':(x::l').length≤10:=by omega
   subst hb
   refine ⟨?_,by rw [zgf];have:=zdl u;omega⟩
   rw [zlP hu64 h3' h10',znk hu64 h3' h10' (zfW hx.1 hx.2 hu)]
   dsimp only
   rw [Int.toNat_natCast,←hrep]
  ·cases h
 ·obtain ⟨_,h5,u,hu,hb⟩:=zeO h.symm
  have hu64:=ze2 hl hu
  have hul:=zdm hu
  subst hb
  refine ⟨?_,by unfold dlay;rw [List.length_append,zT];omega⟩
  have h2:=znn hl h1 h5 hu r
  unfold dlay at h2 ⊢
  rw [List.append_assoc] at h2 ⊢
  rw [zlO (zgS hu64).2.1 (by omega) (by omega)]
  exact h2
 ·obtain ⟨_,h2',h5,us,hu,hb⟩:=zeP h.symm
  have h64t:∀ u∈us.tail,u < 2 ^ 64:=fun u h=>zfa hu u (List.mem_of_mem_tail h)
  have hcode:gnum us≤31:=by
   unfold gnum
   split
   ·omega
   ·exact (zcS h64t).2.2.2.2.2.2.1
  subst hb
  refine ⟨?_,by unfold glay;simp only [List.length_append,zT];omega⟩
  have h2:=znA (fun x hx=>⟨hl x hx,hok x hx⟩) h2' h5 hu r
  unfold glay at h2 ⊢
  simp only [List.append_assoc] at h2 ⊢
  rw [zn6 hcode h1 h5]
  exact h2
 ·obtain ⟨W,hW⟩:=zi3 c
  rw [hW] at h
  obtain ⟨us,hu,_,h5,hc0,h64,hne,h31,hgp,hb⟩:=zmR h
  rw [Int.toNat_natCast] at h31 hgp hb
  have hul:=ziW hu
  subst hb
  refine ⟨?_,by unfold play;simp only [List.length_append,zT];omega⟩
  have h2:=znP (fun x hx=>⟨hl x hx,hok x hx⟩) h1 h5 hc0 (by omega) hu hne h31 hgp r
  unfold play at h2 ⊢
  simp only [List.append_assoc] at h2 ⊢
  rw [zkw (zfI hc0).2.1 (by omega) (by omega)]
  exact h2
theorem zhl {n W:Nat} (hW:W≤64):zW n W≤8*n:=by
 have:n*W≤n*64:=Nat.mul_le_mul_left _ hW
 unfold zW
 omega
theorem zi4 {l:List Int} {s:Bool} (h:zG l s=none∨l.length < 1∨512 < l.length):zcX l s=([],1):=by unfold zcX;rw [if_pos h]
theorem zi5 {l:List Int} {s:Bool} (h:zG l s≠none) (h1:1≤l.length) (h5:l.length≤512):zcX l s=((zcD l s).foldl zbc [],0):=by
 unfold zcX
 rw [if_neg]
 rintro (h2 | h2 | h2)
 ·exact h h2
 ·omega
 ·omega
theorem zrB {l:List Int} {s:Bool} (hl:∀ x∈l,inInt x) (h:zG l s≠none) (h1:1≤l.length) (h5:l.length≤512) {p:List UInt8 × Int} (hp:p∈zcD l s) (h0:p.2=0):(zcX l s).1.length≤p.1.length:=by
 rw [zi5 h h1 h5]
 refine ((zkv (cs:=zcD l s) (a:=[]) fun q hq h2=>?_).2 p hp h0).2
 have h3:=zfK (b:=q.1) hl h h1 (by rw [←h2];exact hq) []
 omega
theorem zi6 (l:List Int) (s:Bool):zdH l s∈zcD l s:=by unfold zcD zhk;simp
theorem zmS {l:List Int} {s:Bool} (h:zG l s≠none) (h1:1≤l.length) (h5:l.length≤512):∃ u,zG l s=some u∧zdH l s=(dlay u,0):=by
 cases hu:zG l s with
 | none=>exact absurd hu h
 | some u=>exact ⟨u,rfl,zmA hu h1 h5⟩
theorem zhm {l:List Int} {s:Bool} (hl:∀ x∈l,inInt x) (h:zG l s≠none) (h1:1≤l.length) (h5:l.length≤512) (r:List UInt8) :
  (zcX l s).2=0∧uone ((zcX l s).1 ++ r) s=(l,r,0)∧2≤(zcX l s).1.length∧(zcX l s).1.length≤2+8*l.length:=by
 obtain ⟨u,hu,hd⟩:=zmS h h1 h5
 have hle:=zrB hl h h1 h5 (zi6 l s) (by rw [hd])
 have hu64:=ze2 hl hu
 rw [hd] at hle
 have hbd:(dlay u).length≤2+8*l.length:=by
  have:=zhl (n:=u.length) (zel hu64).2.1
  have:=zdm hu
  unfold dlay
  rw [List.length_append,zT,zcL]
  omega
 dsimp only at hle
 have hin:=zi5 h h1 h5
 have hmem:((zcX l s).1,(0:Int))∈zcD l s:=by
  rw [hin]
  rcases zn5 (cs:=zcD l s) (a:=[]) with h2 | h2
  ·exfalso
   have h3:=(zkv (cs:=zcD l s) (a:=[]) fun q hq h2=>by
    have h3:=zfK (b:=q.1) hl h h1 (by rw [←h2];exact hq) []
    omega).2 _ (zi6 l s) (by rw [hd])
   rw [h2] at h3
   simp at h3
  ·exact h2
 obtain ⟨h2,h3⟩:=zfK hl h h1 hmem r
 exact ⟨by rw [hin],h2,h3,by omega⟩
theorem zmT {m:Int} (h:0≤m):∃ n:Nat,m=(n:Int):=⟨m.toNat,by omega⟩
theorem zrC {b:List UInt8} {s:Bool} (h:(zbg b s).2.2=0):1≤(zbg b s).1.length∧(zbg b s).1.length≤512∧(zbg b s).2.1.length≤b.length:=by
 obtain ⟨K,C,M,r,x,hd⟩:∃ K C M r x,zp b=(K,C,M,r,x):=⟨_,_,_,_,_,rfl⟩
 have hbd:=zcG b
 unfold zbg at h ⊢
 rw [hd] at h hbd ⊢
 dsimp only at h hbd ⊢
 split at h
 ·cases h
 ·rename_i hn
  rw [if_neg hn]
  have hx:x=0:=Decidable.not_not.1 fun h2=>hn (.inl h2)
  subst hx
  have hM:=zev hd
  obtain ⟨m,rfl⟩:=zmT (show 0≤M by omega)
  obtain ⟨u,q,e,hu⟩:∃ u q e,zh r (m:Int) (wof C)=(u,q,e):=⟨_,_,_,rfl⟩
  rw [hu] at h ⊢
  dsimp only at h ⊢
  split at h
  ·cases h
  ·rename_i he
   rw [if_neg he]
   have he0:e=0:=Decidable.not_not.1 he
   subst he0
   obtain ⟨h1,h2⟩:=zJ hu
   cases hm:zey u s with
   | none=>rw [hm] at h;cases h
   | some o =>
    have h3:=zo3 hm
    dsimp only
    omega
theorem zn7 {w g p m v:Nat} {st st':Nat × List Nat} (h:zgc w g p m st v=some st'):st'.2.length=st.2.length:=by
 unfold zgc at h
 split at h
 ·injection h with h;subst h;simp
 ·cases h
theorem zkx {w g p m:Nat}:∀ {vs:List Nat} {st st':Nat × List Nat},pall w g p m st vs=some st'→st'.2.length=st.2.length
 | [],st,st',h=>by rw [pall] at h;injection h with h;rw [h]
 | v::vs,st,st',h=>by
  rw [pall] at h
  cases hs:zgc w g p m st v with
  | none=>rw [hs] at h;cases h
  | some s2 =>
   rw [hs] at h
   rw [zkx h,zn7 hs]
theorem zrD {b:List UInt8} {s:Bool} (h:(zy b s).2.2=0):1≤(zy b s).1.length∧(zy b s).1.length≤512∧(zy b s).2.1.length≤b.length:=by
 obtain ⟨K,C,M,r,x,hd⟩:∃ K C M r x,zp b=(K,C,M,r,x):=⟨_,_,_,_,_,rfl⟩
 have hbd:=zcG b
 rw [hd] at hbd
 dsimp only at hbd
 by_cases hk:x≠0∨K≠2
 ·rw [zcW (by rw [hd];exact hk)] at h;cases h
 ·obtain rfl:x=0:=Decidable.not_not.1 fun h2=>hk (.inl h2)
  obtain rfl:K=2:=Decidable.not_not.1 fun h2=>hk (.inr h2)
  have hM:=zev hd
  rw [zdu hd] at h ⊢
  obtain ⟨m,rfl⟩:=zmT (show 0≤M by omega)
  by_cases h2:r.length < 2
  ·rw [zdO h2] at h;cases h
  ·obtain ⟨p,hp⟩:=zi3 ((r[0]'(by omega)).toNat % 32)
   have he:=ziX (s:=s) (c:=C) (m:=(m:Int)) (p:=p) (r:=r) (by omega) rfl rfl rfl rfl rfl hp rfl
   rw [he] at h ⊢
   split at h
   ·cases h
   ·rename_i hg
    rw [if_neg hg]
    generalize hdn:(r.drop 2).drop _=q at h ⊢
    have hq:q.length≤r.length:=by rw [←hdn];simp only [List.length_drop];omega
    generalize zds _=base at h ⊢
    generalize (r[1]'(by omega)).toNat / 32+1=g at h ⊢
    generalize (r[1]'(by omega)).toNat % 32=t at h ⊢
    obtain ⟨us,q1,e1,hu⟩:∃ u r e,zh q (m:Int) (wof C)=(u,r,e):=⟨_,_,_,rfl⟩
    by_cases he1:e1=0
    ·subst he1
     obtain ⟨u1,u2⟩:=zJ hu
     obtain ⟨vs,q2,e2,hv⟩:∃ u r e,zh q1 (t:Int) (zi ((g+p:Nat):Int))=(u,r,e):=⟨_,_,_,rfl⟩
     by_cases he2:e2=0
     ·subst he2
      obtain ⟨_,v2⟩:=zJ hv
      rw [zfl hu hv] at h ⊢
      cases hpa:pall (wof C).toNat g p (m:Int).toNat (0,us) vs with
      | none=>rw [zdv hpa] at h;cases h
      | some st =>
       obtain ⟨a,lf⟩:=st
       have h3:=zkx hpa
       dsimp only at h3
       rw [zeb hpa] at h ⊢
       cases ho:omap (zbj s false base) lf with
       | none=>rw [ho] at h;cases h
       | some xs =>
        have h4:=zb4 ho
        dsimp only
        omega
     ·rw [zew hu hv he2] at h;cases h
    ·rw [zfk hu he1] at h;cases h
theorem zp2 {s f:Bool} {x:Int} {us:List Nat} {q:List UInt8} (h:(gend s f x us q).2.2=0):(gend s f x us q).1.length=us.length+1∧(gend s f x us q).2.1=q:=by
 unfold gend at h ⊢
 cases hw:zbm s f x us with
 | none=>rw [hw] at h;cases h
 | some ys=>exact ⟨by dsimp only;rw [List.length_cons,zg2 hw],rfl⟩
theorem zrE {b:List UInt8} {s:Bool} (h:(zR b s).2.2=0):1≤(zR b s).1.length∧(zR b s).1.length≤512∧(zR b s).2.1.length≤b.length:=by
 obtain ⟨K,C,M,r,x,hd⟩:∃ K C M r x,zp b=(K,C,M,r,x):=⟨_,_,_,_,_,rfl⟩
 have hbd:=zcG b
 rw [hd] at hbd
 dsimp only at hbd
 by_cases hk:x≠0∨K≠3∨M < 2
 ·rw [zb7 (by rw [hd];exact hk)] at h;cases h
 ·obtain rfl:x=0:=Decidable.not_not.1 fun h2=>hk (.inl h2)
  obtain rfl:K=3:=Decidable.not_not.1 fun h2=>hk (.inr (.inl h2))
  have hM2:2≤M:=Int.not_lt.1 fun h2=>hk (.inr (.inr h2))
  rw [zdn hd hM2] at h ⊢
  cases h1:zbx r s with
  | none=>rw [zes h1] at h;cases h
  | some p =>
   obtain ⟨x0,r1⟩:=p
   cases h2:zbx r1 true with
   | none=>rw [zdL h1 h2] at h;cases h
   | some p2 =>
    obtain ⟨dd,r2⟩:=p2
    obtain ⟨u,f,o,hg⟩:∃ u f o,zx 0 dd=(u,f,o):=⟨_,_,_,rfl⟩
    have b1:=(zc5 h1).2
    have b2:=(zc5 h2).2
    rw [zcl h1 h2 hg] at h ⊢
    cases o with
    | false=>cases h
    | true =>
     have key:(if true=true then zez s f x0 u C M r2 else ([],[],2))=zez s f x0 u C M r2:=if_pos rfl
     try rw [key] at h
     try rw [key]
     by_cases hC:0 < C
     ·obtain ⟨m,hm⟩:=zmT (show 0≤M - 2 by omega)
      obtain ⟨us,q,e,hu⟩:∃ u q e,zh r2 (M - 2) (wof C)=(u,q,e):=⟨_,_,_,rfl⟩
      by_cases he:e=0
      ·subst he
       rw [zdp hC hu] at h ⊢
       rw [hm] at hu
       obtain ⟨u1,u2⟩:=zJ hu
       obtain ⟨e1,e2⟩:=zp2 h
       rw [e1,e2,List.length_cons]
       omega
      ·rw [zfd hC hu he] at h;cases h
     ·rw [zdo hC] at h ⊢
      obtain ⟨e1,e2⟩:=zp2 h
      rw [e1,e2,List.length_replicate]
      omega
theorem zi7 {b:List UInt8} {s:Bool} (h:(zC b s).2.2.2=0):3≤(zC b s).2.1∧(zC b s).2.1≤10∧(zC b s).2.2.1.length≤b.length:=by
 unfold zC at h ⊢
 cases b with
 | nil=>cases h
 | cons c r =>
  dsimp only at h ⊢
  split at h
  ·cases h
  ·rename_i h1
   rw [if_neg h1]
   split at h
   ·cases h
   ·rename_i h2
    rw [if_neg h2]
    split at h
    ·cases h
    ·rename_i h3
     rw [if_neg h3]
     cases hm:zbe (bval (r.take (c.toNat / 8+1))) s with
     | none=>rw [hm] at h;cases h
     | some x =>
      dsimp only
      rw [List.length_drop,List.length_cons]
      omega
theorem zmU {b:List UInt8} {s:Bool} (h:(zC b s).2.2.2≠0):zC b s=(0,0,[],2):=by
 unfold zC at h ⊢
 cases b with
 | nil=>rfl
 | cons c r =>
  dsimp only at h ⊢
  split
  ·rfl
  ·rename_i h1
   rw [if_neg h1] at h
   split
   ·rfl
   ·rename_i h2
    rw [if_neg h2] at h
    split
    ·rfl
    ·rename_i h3
     rw [if_neg h3] at h
     cases hm:zbe (bval (r.take (c.toNat / 8+1))) s with
     | none=>rfl
     | some x=>rw [hm] at h;exact absurd rfl h
theorem zp3 {b:List UInt8} {s:Bool} (h:(uone b s).2.2=0):1≤(uone b s).1.length∧(uone b s).1.length≤512∧(uone b s).2.1.length≤b.length:=by
 cases b with
 | nil=>cases h
 | cons c r =>
  unfold uone at h ⊢
  dsimp only at h ⊢
  split at h
  ·rename_i h1;rw [if_pos h1];exact zrC h
  ·rename_i h1
   rw [if_neg h1]
   split at h
   ·rename_i h2;rw [if_pos h2];exact zrD h
   ·rename_i h2
    rw [if_neg h2]
    split at h
    ·rename_i h3;rw [if_pos h3];exact zrE h
    ·rename_i h3
     rw [if_neg h3]
     dsimp only at h ⊢
     have:=zi7 h
     rw [List.length_replicate]
     omega
theorem zky {s:Bool} {many:Nat}:∀ (k:Nat) (out:List Int) (rest:List UInt8),(zbW s many k out rest).1.length≤many
 | 0,_,_=>by simp [zbW,gbad]
 | k+1,out,rest=>by
  rw [zbW]
  split
  ·split
   ·simp [gbad]
   ·dsimp only;omega
  ·split
   ·simp [gbad]
   ·exact zky k _ _
theorem ziq (b:List UInt8) (many:Int) (s:Bool):(zO b many s).1.length≤4096:=by
 unfold zO
 split
 ·simp
 ·exact Nat.le_trans (zky _ _ _) (by omega)
end Go.Proofs.YtblpkmmhmdpkjaaGreatDoor
namespace Go.Proofs.YtblpkmmhmdpkjaaGreatDoor
open Go.RowKit
theorem zp4 {l:List Int} (h:3≤zbX l):ucut l=min (zbX l) 512:=by unfold ucut;rw [if_pos h]
theorem zsV {l:List Int} {n:Nat} (h:¬3≤zbX l) (h1:1≤n) (h2:n < l.length) (h5:n < 512) (hb:∀ j,1≤j→j < n→zku l j=false) (hn:zku l n=true):ucut l=n:=by
 unfold ucut
 rw [if_neg h,List.find?_range'_eq_some.2 ⟨hn,List.mem_range'_1.2 (by omega),fun j hj hjn=>by rw [hb j hj hjn];rfl⟩]
 rfl
theorem zrF {l:List Int} (h:¬3≤zbX l) (hb:∀ j,1≤j→j < min l.length 512→zku l j=false):ucut l=min l.length 512:=by
 unfold ucut
 rw [if_neg h,List.find?_range'_eq_none.2 fun j hj hjn=>by rw [hb j hj (by omega)];rfl]
 rfl
def zhI (out:List UInt8) (p:List UInt8 × Int):List UInt8 × Int:=if p.2≠0 then ([],p.2) else (out ++ p.1,0)
theorem zn8 (out:List UInt8) (s:Bool) {k:Nat} {l:List Int} (h:l.length=0):zhI out (zdP s k l)=(out,0):=by
 cases k with
 | zero=>simp [zdP,zhI]
 | succ k=>rw [zdP,if_pos h];simp [zhI]
theorem zp5 (out:List UInt8) (s:Bool) {k:Nat} {l:List Int} (h:l.length≠0) (he:(zcX (l.take (ucut l)) s).2≠0):zhI out (zdP s (k+1) l)=([],(zcX (l.take (ucut l)) s).2):=by
 rw [zdP,if_neg h,if_pos he]
 exact if_pos he
theorem zn9 (out:List UInt8) (s:Bool) {k:Nat} {l:List Int} (h:l.length≠0) (he:(zcX (l.take (ucut l)) s).2=0):zhI out (zdP s (k+1) l)=zhI (out ++ (zcX (l.take (ucut l)) s).1) (zdP s k (l.drop (ucut l))):=by
 rw [zdP,if_neg h,if_neg (by rw [he];simp)]
 unfold zhI
 by_cases h2:(zdP s k (l.drop (ucut l))).2≠0
 ·rw [if_pos h2,if_pos h2,if_pos h2]
 ·rw [if_neg h2,if_neg h2,if_neg (by simp)]
  simp
def lenOf (v:Value):Nat:=match v with | .slice _ n _=>n | _=>0
theorem zrG {l:List Int} {s:Bool} (hl:∀ x∈l,inInt x) (h5:l.length≤512):(zcX l s).1.length≤5000:=by
 by_cases h2:zG l s=none∨l.length < 1∨512 < l.length
 ·rw [zi4 h2];simp
 ·have:=(zhm (r:=[]) hl (fun h3=>h2 (.inl h3)) (Nat.not_lt.1 fun h3=>h2 (.inr (.inl h3))) h5).2.2.2
  omega
def zlQ (res:List UInt8 × Int) (s:Bool) (w:World) (lv ov:Value) (wr:World):Prop:=
 ∃ (k:Nat) (rest:List Int) (out:List UInt8),rest.length≤k∧rest.length≤4096∧out.length+10*rest.length≤50000∧(∀ x∈rest,inInt x)∧IsV iv rest lv w∧zhI out (zdP s k rest)=res∧wr.ownsRow w.heap.size 5 1 ov out.length (out.map bv)∧Below w.heap.size w wr
theorem zkz {l:List UInt8} {s:Bool} {q:Nat} (h:0 < l.length) (hq:q=l[0].toNat / 64) :
  uone l s=if q=1 then zbg l s else if q=2 then zy l s else if q=3 then zR l s else (List.replicate (zC l s).2.1.toNat (zC l s).1,(zC l s).2.2.1,(zC l s).2.2.2):=by
 cases l with
 | nil=>simp at h
 | cons b r =>
  subst hq
  rfl
theorem zlR (l:List UInt8) (s:Bool):∃ T:Nat,(zC l s).2.1=(T:Int)∧T≤10:=by
 by_cases h:(zC l s).2.2.2=0
 ·have:=zi7 h
  exact ⟨(zC l s).2.1.toNat,by omega,by omega⟩
 ·rw [zmU h];exact ⟨0,rfl,by omega⟩
def zlS (x:Int) (T:Nat) (w:World) (v i:Value) (wr:World):Prop:=
 ∃ (k:Nat) (xs:List Int),k≤T∧i=.int .i64 (k:Int)∧xs=List.replicate k x∧wr.ownsRow w.heap.size 3 1 v k (xs.map iv)∧Below w.heap.size w wr
theorem zoa (l:List UInt8) (v:Value) (s:Bool) (w:World) (hv:IsB l v w) (hb:l.length≤1000000) :
  Calls Tryz.prog 46 #[v,.bool s] w (RetIO w (uone l s)):=by
 have HV:=Lib.hid hv
 have HL6:=Lib.hid hb
 obtain ⟨A,c,rfl,hA,hnc,hcm,hl⟩:=hv
 obtain ⟨n,hn⟩:∃ n,n=l.length:=⟨_,rfl⟩
 rw [←hn] at hA hnc HV ⊢
 have HN:=Lib.hid hn
 by_cases h0:n=0
 ·subst h0
  obtain rfl:l=[]:=List.eq_nil_of_length_eq_zero hn.symm
  clear hn hl hcm hA hnc hb
  go_enter Tryz.func46,Tryz.ntmps46
  go_wp2
  go_ret3
  exact RetIO.nil _ (Below.refl _ _)
 ·have h0i:((n:Int) == 0)=false:=by simp;omega
  have hn0:(0:Int) < (n:Int):=by omega
  have h0l:0 < l.length:=by omega
  obtain ⟨ad,rfl,hadlt,hcell⟩:=hl.cell (k:=0) (by rw [List.length_map];exact h0l)
  obtain ⟨B,hB⟩:∃ B:Nat,B=l[0].toNat:=⟨_,rfl⟩
  have hB8:B < 256:=by rw [hB];exact UInt8.toNat_lt _
  have hc0:w.cell? ad=some (.int .u8 (B:Int)):=by
   have h1:ad.add 0=ad:=by unfold Addr.add;split <;> simp_all
   rw [←h1,hcell,List.getElem_map,hB];rfl
  obtain ⟨q,hq⟩:∃ q,q=B / 64:=⟨_,rfl⟩
  have hqi:(B:Int) / 64=(q:Int):=by omega
  have hq4:q < 4:=by omega
  have hk:=zkz (s:=s) (q:=q) h0l (by rw [hq,hB])
  have HK:=Lib.hid hk
  clear hn hl hcm hA hnc hb hcell hB hq hk hadlt
  rcases (by omega:q=0∨q=1∨q=2∨q=3) with rfl | rfl | rfl | rfl
  ·have HE:Hid (uone l s=(List.replicate (zC l s).2.1.toNat (zC l s).1,(zC l s).2.2.1,(zC l s).2.2.2)):=Lib.hid (by rw [HK.out,if_neg (by decide),if_neg (by decide),if_neg (by decide)])
   obtain ⟨T,hT,hT10⟩:=zlR l s
   have HT:=Lib.hid (znl l _ s w HV.out HL6.out)
   obtain ⟨x,t,r,e,he⟩:∃ x t r e,zC l s=(x,t,r,e):=⟨_,_,_,_,rfl⟩
   rw [he] at HT HE hT
   dsimp only at hT
   subst hT
   have HE2:Hid (uone l s=(List.replicate T x,r,e)):=Lib.hid (by rw [HE.out];dsimp only;rw [Int.toNat_natCast])
   clear he HE
   go_enter Tryz.func46,Tryz.ntmps46
   go_wp2_with fail
   refine HT.out.mono ?_
   rintro e1 w1 ⟨rv,rfl,hr,hb1⟩
   have HB:=Lib.hid hb1
   have HR:=Lib.hid hr
   have hst:zlS x T w1 (.slice (some ⟨w1.heap.size,0,none⟩) 0 0) (.int .i64 0) (w1.alloc (.cells #[] 3)):=⟨0,[],by omega,rfl,rfl,zem w1 _,(Below.refl _ _).alloc (Nat.le_refl _) _⟩
   have HST:=Lib.hid hst
   clear hb1 hr hst
   go_wp2
   go_loopw [11,12] (zlS x T w1) (fun _ i _=>T - (intOf i).toNat)
   case atStart=>exact HST.out
   case round =>
    obtain ⟨k,xs,hk,rfl,hxs,hown,hbw⟩:=hrel
    have HXS:=Lib.hid hxs
    clear hxs
    have HSTT:=HST
    clear HST
    have hz:=hbw.size
    by_cases hlt:k < T
    ·have hlti:(k:Int) < (T:Int):=by omega
     go_wp2_with (at_builtin;refine zX zdk rfl _ _ rfl w1.heap.size _ _ _ (iv x) wr w1 rfl rfl rfl rfl hown hbw hz (by omega) (by omega) ?_)
     intro v5 w5 hown5 hb5 _ _
     have HREL:Hid (zlS x T w1 v5 (.int .i64 ((k:Int)+1)) w5):=Lib.hid ⟨k+1,xs ++ [x],by omega,by go_num,by rw [List.replicate_succ',HXS.out],by rw [List.map_append];exact hown5,hb5⟩
     clear hown5 hown hb5 hbw
     go_wp2
     go_roundw
     case rel=>exact HREL.out
     case measure=>simp [intOf];omega
    ·obtain rfl:k=T:=by omega
     have hlti:¬(k:Int) < (k:Int):=by omega
     have HO:=Lib.hid (zbi (f:=iv) hown)
     have HR2:=Lib.hid (HR.out.below hbw)
     have HB2:=Lib.hid (za HB.out hbw)
     clear hown hbw
     go_wp2
     go_ret3
     rw [HE2.out,←HXS.out]
     exact ⟨_,_,rfl,HO.out,HR2.out,HB2.out⟩
  ·have HE:Hid (uone l s=zbg l s):=Lib.hid (by rw [HK.out,if_pos rfl])
   have HT:=Lib.hid (znr l _ s w HV.out HL6.out)
   go_enter Tryz.func46,Tryz.ntmps46
   go_wp2_with fail
   refine HT.out.mono ?_
   rintro e1 w1 ⟨u,rv,rfl,hu,hr,hb1⟩
   have HU:=Lib.hid hu
   have HR:=Lib.hid hr
   have HB:=Lib.hid hb1
   clear hu hr hb1
   go_wp2
   go_ret3
   rw [HE.out]
   exact ⟨_,_,rfl,HU.out,HR.out,HB.out⟩
  ·have HE:Hid (uone l s=zy l s):=Lib.hid (by rw [HK.out,if_neg (by decide),if_pos rfl])
   have HT:=Lib.hid (zlG l _ s w HV.out HL6.out)
   go_enter Tryz.func46,Tryz.ntmps46
   go_wp2_with fail
   refine HT.out.mono ?_
   rintro e1 w1 ⟨u,rv,rfl,hu,hr,hb1⟩
   have HU:=Lib.hid hu
   have HR:=Lib.hid hr
   have HB:=Lib.hid hb1
   clear hu hr hb1
   go_wp2
   go_ret3
   rw [HE.out]
   exact ⟨_,_,rfl,HU.out,HR.out,HB.out⟩
  ·have HE:Hid (uone l s=zR l s):=Lib.hid (by rw [HK.out,if_neg (by decide),if_neg (by decide),if_pos rfl])
   have HT:=Lib.hid (znC l _ s w HV.out HL6.out)
   go_enter Tryz.func46,Tryz.ntmps46
   go_wp2_with fail
   refine HT.out.mono ?_
   rintro e1 w1 ⟨u,rv,rfl,hu,hr,hb1⟩
   have HU:=Lib.hid hu
   have HR:=Lib.hid hr
   have HB:=Lib.hid hb1
   clear hu hr hb1
   go_wp2
   go_ret3
   rw [HE.out]
   exact ⟨_,_,rfl,HU.out,HR.out,HB.out⟩
theorem zfL {s:Bool} {M f:Nat} {out:List Int} {rest:List UInt8} (h:M≤out.length) (hf:M+1≤out.length+f):zbW s M f out rest=if M < out.length then ([],[],2) else (out,rest,0):=by
 cases f with
 | zero=>rw [zbW,if_pos (by omega)];rfl
 | succ f=>rw [zbW,if_pos h];rfl
theorem zir {s:Bool} {M f:Nat} {out:List Int} {rest:List UInt8} (h:out.length < M) (he:(uone rest s).2.2≠0):zbW s M (f+1) out rest=([],[],2):=by rw [zbW,if_neg (by omega),if_pos he];rfl
theorem zhn {s:Bool} {M f:Nat} {out:List Int} {rest:List UInt8} (h:out.length < M) (he:(uone rest s).2.2=0):zbW s M (f+1) out rest=zbW s M f (out ++ (uone rest s).1) (uone rest s).2.1:=by rw [zbW,if_neg (by omega),if_neg (by rw [he];simp)]
def RetIOO (w:World) (p:List Int × List UInt8 × Int) (e:Ending) (w':World):Prop:=∃ u v,e=.returned (.tuple #[u,v,.int .i64 p.2.2])∧OwnV iv 3 w p.1 u w'∧OwnB w p.2.1 v w'∧Below w.heap.size w w'
theorem RetIOO.nil {w w':World} (n:Int) (hb:Below w.heap.size w w'):RetIOO w ([],[],n) (.returned (.tuple #[.slice none 0 0,.slice none 0 0,.int .i64 n])) w':=⟨_,_,rfl,OwnV.nil _ _ _ _,OwnB.nil _ _,hb⟩
theorem RetIOO.io {w w':World} {p:List Int × List UInt8 × Int} {e:Ending} (h:RetIOO w p e w'):RetIO w p e w':=by
 obtain ⟨u,v,h1,h2,h3,h4⟩:=h
 exact ⟨u,v,h1,h2.isV,h3,h4⟩
def zi8 (res:List Int × List UInt8 × Int) (s:Bool) (M:Nat) (w:World) (ov rv:Value) (wr:World):Prop:=
 ∃ (f:Nat) (out:List Int) (rest:List UInt8),M+1≤out.length+f∧out.length≤5000∧rest.length≤1000000∧zbW s M f out rest=res∧wr.ownsRow w.heap.size 3 1 ov out.length (out.map iv)∧OwnB w rest rv wr∧Below w.heap.size w wr
theorem zho (l:List UInt8) (v:Value) (many:Int) (s:Bool) (w:World) (hv:IsB l v w) (hb:l.length≤1000000) :
  Calls Tryz.prog 31 #[v,.int .i64 many,.bool s] w (RetIOO w (zO l many s)):=by
 by_cases hm:many < 0∨4096 < many
 ·have hE:Hid (zO l many s=([],[],1)):=Lib.hid (by unfold zO;rw [if_pos hm])
  obtain ⟨A,n,c,rfl⟩:=IsV.shape (f:=bv) hv
  have hd:decide (many < 0)=true∨(decide (many < 0)=false∧decide (4096 < many)=true):=by
   by_cases h:many < 0
   ·exact .inl (decide_eq_true h)
   ·exact .inr ⟨decide_eq_false h,decide_eq_true (by omega)⟩
  clear hm hv hb
  rcases hd with d1 | ⟨d1,d2⟩
  all_goals
   go_enter Tryz.func31,Tryz.ntmps31
   go_wp2
   go_ret3
   rw [hE.out]
   exact RetIOO.nil _ (Below.refl _ _)
 ·obtain ⟨M,rfl⟩:=Int.eq_ofNat_of_zero_le (show 0≤many by omega)
  have hM4:M≤4096:=by omega
  have d1:decide ((M:Int) < 0)=false:=decide_eq_false (by omega)
  have d2:decide ((4096:Int) < (M:Int))=false:=decide_eq_false (by omega)
  have hE:Hid (zO l (M:Int) s=zbW s M (M+1) [] l):=Lib.hid (by unfold zO;rw [if_neg hm,Int.toNat_natCast])
  obtain ⟨A,n,c,rfl⟩:=IsV.shape (f:=bv) hv
  obtain ⟨hn,hA,-,-,hl⟩:=IsV.parts (f:=bv) (show IsV bv l _ _ from hv)
  have HM:=Lib.hid (show (l.map bv).length=n by rw [List.length_map];exact hn)
  have hn6:n≤1000000:=by omega
  have HL6:=Lib.hid hb
  have hownI:=zem w 3
  have hbI:Below w.heap.size w (w.alloc (.cells #[] 3)):=(Below.refl _ _).alloc (Nat.le_refl _) _
  have hownB:=zbR (by simp:w.heap.size≤(w.alloc (.cells #[] 3)).heap.size) (zem (w.alloc (.cells #[] 3)) 5)
  rw [show (w.alloc (.cells #[] 3)).heap.size=w.heap.size+1 by simp] at hownB
  have hbB:Below w.heap.size w ((w.alloc (.cells #[] 3)).alloc (.cells #[] 5)):=hbI.alloc (by simp) _
  have hownI2:=hownI.alloc (.cells #[] 5)
  have hlB:=hl.below hbB
  have hzB:=hbB.size
  clear hm hv hb hn hl hownI hbI
  go_enter Tryz.func31,Tryz.ntmps31
  go_wp2_with (at_builtin;go_must (refine zo elemB rfl _ _ rfl w.heap.size _ _ _ _ _ _ (l.map bv) w rfl rfl hA HM.out hlB (zcb l) hownB hbB hzB (by omega) (by omega) ?_))
  intro v2 w2 hown2 hb2 hgr2 _
  have hownI3:=zgy hownI2 hownB (by decide) hgr2
  have hst:zi8 (zO l (M:Int) s) s M w (.slice (some ⟨w.heap.size,0,none⟩) 0 0) v2 w2:=⟨M+1,[],l,by simp,by simp,HL6.out,hE.out.symm,hownI3,⟨_,by simpa using hown2⟩,hb2⟩
  have HST:=Lib.hid hst
  clear hst hownI3 hownI2 hownB hown2 hb2 hgr2 hlB hzB hbB hA
  go_wp2
  go_loopw [9,10] (zi8 (zO l (M:Int) s) s M w) (fun o _ _=>M - lenOf o)
  case atStart=>exact HST.out
  case round =>
   obtain ⟨f,out,rest,hf,ho5,hr6,hres,hown,hrest,hbw⟩:=hrel
   have HSTT:=HST
   clear HST
   have HRES:=Lib.hid hres
   have HOWN:=Lib.hid hown
   have HREST:=Lib.hid hrest
   have HBW:=Lib.hid hbw
   have HR6:=Lib.hid hr6
   obtain ⟨B,co,rfl,_,_,_,_,_⟩:=zbd hown
   obtain ⟨ol,hol⟩:∃ ol,ol=out.length:=⟨_,rfl⟩
   have HOL:=Lib.hid hol
   rw [←hol] at hf ho5 ⊢
   clear hres hown hrest hbw hr6 hol
   by_cases hlt:ol < M
   ·have hlti:(ol:Int) < (M:Int):=by omega
    obtain ⟨f',rfl⟩:∃ f',f=f'+1:=⟨f - 1,by omega⟩
    have HON:=Lib.hid (zoa rest _ s wr HREST.out.isB HR6.out)
    obtain ⟨us,q,e,hu⟩:∃ us q e,uone rest s=(us,q,e):=⟨_,_,_,rfl⟩
    have HU:=Lib.hid hu
    rw [hu] at HON
    clear hu
    go_wp2_with fail
    refine HON.out.mono ?_
    rintro e1 w3 ⟨uv3,rv3,rfl,hu3,hr3,hb3⟩
    have HB3:=Lib.hid (za HBW.out hb3)
    by_cases he:e=0
    ·subst he
     have hbd:=zp3 (b:=rest) (s:=s) (by rw [HU.out])
     rw [HU.out] at hbd
     dsimp only at hbd
     obtain ⟨b1,b2,b3⟩:=hbd
     have hstep:=zhn (s:=s) (M:=M) (f:=f') (out:=out) (rest:=rest) (by rw [←HOL.out];exact hlt) (by rw [HU.out])
     rw [HRES.out,HU.out] at hstep
     dsimp only at hstep
     have hown3:=own_below HOWN.out hb3
     rw [←HOL.out] at hown3
     have hrest3:OwnB w q rv3 w3:=OwnB.base HBW.out.size hr3
     obtain ⟨A5,n5,c5,rfl⟩:=hu3.shape
     obtain ⟨hn5,hA5,-,-,hl5⟩:=IsV.parts (f:=iv) (show IsV iv us _ _ from hu3)
     have HM5:=Lib.hid (show (us.map iv).length=n5 by rw [List.length_map];exact hn5)
     have hn5b:n5≤512:=by omega
     have hn51:1≤n5:=by omega
     have hbw3:=HB3.out
     have hz3:=hbw3.size
     have HSTEP:=Lib.hid hstep
     have HN5:=Lib.hid hn5
     have HQ6:Hid (q.length≤1000000):=Lib.hid (by have:=HR6.out;omega)
     have HREST3:=Lib.hid hrest3
     clear hstep hu3 hr3 hb3 hn5 b1 b2 b3 hrest3
     go_wp2_with (at_builtin;refine zo zdk rfl _ _ rfl w.heap.size _ _ _ _ _ _ (us.map iv) w rfl rfl hA5 HM5.out hl5 (zsb (fun _=>rfl) us) hown3 hbw3 hz3 (by omega) (by omega) ?_)
     intro v6 w6 hown6 hb6 hgr6 _
     have HREL:Hid (zi8 (zO l (M:Int) s) s M w v6 rv3 w6):=Lib.hid ⟨f',out ++ us,q,by rw [List.length_append,←HOL.out,HN5.out];omega,by rw [List.length_append,←HOL.out,HN5.out];omega,HQ6.out,HSTEP.out.symm,
      by rw [List.length_append,←HOL.out,HN5.out,List.map_append];exact hown6,HREST3.out.elim fun _ h=>⟨_,zgy h hown3 (by decide) hgr6⟩,hb6⟩
     obtain ⟨B6,c6,rfl,_,_,_,_,_⟩:=zbd hown6
     clear hown6 hb6 hgr6 hown3 hbw3 hz3 hl5 hA5
     go_wp2
     go_roundw
     case rel=>exact HREL.out
     case measure=>simp [lenOf];omega
    ·have hbad:=zir (s:=s) (M:=M) (f:=f') (out:=out) (rest:=rest) (by rw [←HOL.out];exact hlt) (by rw [HU.out];exact he)
     rw [HRES.out] at hbad
     have HBD:=Lib.hid hbad
     have d3:(e != 0)=true:=by simpa using he
     clear hbad hu3 hr3 hb3
     go_wp2
     go_ret3
     rw [HBD.out]
     exact RetIOO.nil _ HB3.out
   ·have hlti:¬(ol:Int) < (M:Int):=by omega
    have hend:=zfL (s:=s) (M:=M) (f:=f) (out:=out) (rest:=rest) (by rw [←HOL.out];omega) (by rw [←HOL.out];exact hf)
    rw [HRES.out,←HOL.out] at hend
    by_cases hgt:M < ol
    ·have hgti:(M:Int) < (ol:Int):=by omega
     rw [if_pos hgt] at hend
     have HEND:=Lib.hid hend
     clear hend
     go_wp2
     go_ret3
     rw [HEND.out]
     exact RetIOO.nil _ HBW.out
    ·have hgti:¬(M:Int) < (ol:Int):=by omega
     rw [if_neg hgt] at hend
     have HEND:=Lib.hid hend
     have HO:=Lib.hid (show OwnV iv 3 w out (.slice B ol co) wr from ⟨_,by have h:=HOWN.out;rw [←HOL.out] at h;exact h⟩)
     clear hend
     go_wp2
     go_ret3
     rw [HEND.out]
     exact ⟨_,_,rfl,HO.out,HREST.out,HBW.out⟩
end Go.Proofs.YtblpkmmhmdpkjaaGreatDoor
namespace Go.Proofs.YtblpkmmhmdpkjaaGreatDoor
def Took {β:Type} (n:Nat) (f:List UInt8→β) (ans:List UInt8→β) (l q:List UInt8):Prop:=∃ a:List UInt8,l=a ++ q∧a.length≤n∧∀ r,f (a ++ r)=ans r
theorem zcr {l q:List UInt8} {M W:Int} {us:List Nat} (h:zh l M W=(us,q,0)):Took (8*M.toNat) (fun l=>zh l M W) (fun r=>(us,r,0)) l q:=by
 unfold zh at h
 split at h
 ·rename_i hc
  unfold zbo at h
  split at h
  ·injection h with _ h;injection h with _ h;cases h
  ·rename_i h1
   split at h
   ·rename_i h2
    injection h with h3 h;injection h with h4 _
    have hW:W.toNat≤64:=by omega
    have hs:=zhl (n:=M.toNat) hW
    have htl:(l.take (zW M.toNat W.toNat)).length=zW M.toNat W.toNat:=by rw [List.length_take];omega
    refine ⟨l.take (zW M.toNat W.toNat),by rw [←h4,List.take_append_drop],by omega,fun r=>?_⟩
    have e1:(l.take (zW M.toNat W.toNat) ++ r).take (zW M.toNat W.toNat)=l.take (zW M.toNat W.toNat):=by rw [List.take_append_of_le_length (by omega),List.take_of_length_le (by omega)]
    have e2:(l.take (zW M.toNat W.toNat) ++ r).drop (zW M.toNat W.toNat)=r:=by
     rw [List.drop_append_of_le_length (by omega),List.drop_of_length_le (by omega),List.nil_append]
    unfold zh
    dsimp only
    rw [if_pos hc]
    unfold zbo
    rw [if_neg (by rw [List.length_append,htl];omega),e1,e2,if_pos h2,h3]
   ·injection h with _ h;injection h with _ h;cases h
 ·injection h with _ h;injection h with _ h;cases h
theorem zhp {l q:List UInt8} {k c m:Int} (h:zp l=(k,c,m,q,0)):Took 2 zp (fun r=>(k,c,m,r,0)) l q:=by
 unfold zp at h
 split at h
 ·injection h with _ h;injection h with _ h;injection h with _ h;injection h with _ h;cases h
 ·rename_i h1
  injection h with hk h;injection h with hc h;injection h with hm h;injection h with hq _
  have htl:(l.take 2).length=2:=by rw [List.length_take];omega
  refine ⟨l.take 2,by rw [←hq,List.take_append_drop],by omega,fun r=>?_⟩
  have e1:(l.take 2 ++ r).take 2=l.take 2:=by rw [List.take_append_of_le_length (by omega),List.take_of_length_le (by omega)]
  have e2:(l.take 2 ++ r).drop 2=r:=by rw [List.drop_append_of_le_length (by omega),List.drop_of_length_le (by omega),List.nil_append]
  unfold zp
  rw [if_neg (by rw [List.length_append,htl];omega),e1,e2,hk,hc,hm]
theorem zkA {l q:List UInt8} {s:Bool} {x:Int} (h:zbx l s=some (x,q)):Took 10 (fun l=>zbx l s) (fun r=>some (x,r)) l q:=by
 cases ht:zbs l with
 | none=>rw [zfz s ht] at h;cases h
 | some p =>
  obtain ⟨u,r0⟩:=p
  obtain ⟨h1,h2⟩:=zcj ht
  have h10:=zbz h2
  cases s with
  | true =>
   rw [zdj ht] at h
   injection h with h;injection h with h3 h4
   subst h4
   refine ⟨vput u,h1,h10,fun r=>?_⟩
   dsimp only
   rw [zdj (zd4 h2 r),h3]
  | false =>
   by_cases hu:(u:Int) < 9223372036854775808
   ·rw [zcO ht hu] at h
    injection h with h;injection h with h3 h4
    subst h4
    refine ⟨vput u,h1,h10,fun r=>?_⟩
    dsimp only
    rw [zcO (zd4 h2 r) hu,h3]
   ·rw [zgK ht (by omega)] at h
    cases h
theorem Took.mono {β:Type} {m n:Nat} {f g:List UInt8→β} {l q:List UInt8} (h:Took m f g l q) (hn:m≤n):Took n f g l q:=by
 obtain ⟨a,h1,h2,h3⟩:=h
 exact ⟨a,h1,by omega,h3⟩
theorem zp6 {b:List UInt8} {s:Bool} (h:(zC b s).2.2.2=0):Took 9 (fun b=>zC b s) (fun r=>((zC b s).1,(zC b s).2.1,r,0)) b (zC b s).2.2.1:=by
 cases b with
 | nil=>cases h
 | cons c r =>
  obtain ⟨n,hn⟩:∃ n,n=c.toNat / 8+1:=⟨_,rfl⟩
  unfold zC at h ⊢
  dsimp only at h ⊢
  rw [←hn] at h ⊢
  split at h
  ·cases h
  ·rename_i h1
   rw [if_neg h1]
   split at h
   ·cases h
   ·rename_i h2
    rw [if_neg h2]
    split at h
    ·cases h
    ·rename_i h3
     rw [if_neg h3]
     cases hm:zbe (bval (r.take n)) s with
     | none=>rw [hm] at h;cases h
     | some x =>
      dsimp only
      have htl:(r.take n).length=n:=by rw [List.length_take];omega
      refine ⟨c::r.take n,by rw [List.cons_append,List.take_append_drop],by rw [List.length_cons];omega,fun t=>?_⟩
      have e1:(r.take n ++ t).take n=r.take n:=by rw [List.take_append_of_le_length (by omega),List.take_of_length_le (by omega)]
      have e2:(r.take n ++ t).drop n=t:=by rw [List.drop_append_of_le_length (by omega),List.drop_of_length_le (by omega),List.nil_append]
      rw [List.cons_append]
      dsimp only
      rw [←hn,if_neg h1,if_neg (by rw [List.length_append,htl];omega),e1,e2,if_neg h3,hm]
theorem zp7 {b:List UInt8} {s:Bool} (h:(zbg b s).2.2=0):Took 4098 (fun b=>zbg b s) (fun r=>((zbg b s).1,r,0)) b (zbg b s).2.1:=by
 obtain ⟨K,C,M,r,x,hd⟩:∃ K C M r x,zp b=(K,C,M,r,x):=⟨_,_,_,_,_,rfl⟩
 have hbd:=zcG b
 rw [hd] at hbd
 dsimp only at hbd
 have e0:=h
 unfold zbg at h
 rw [hd] at h
 dsimp only at h
 split at h
 ·cases h
 ·rename_i hn
  have hx:x=0:=Decidable.not_not.1 fun h2=>hn (.inl h2)
  have hK:K=1:=Decidable.not_not.1 fun h2=>hn (.inr h2)
  subst hx hK
  obtain ⟨u,q,e,hu⟩:∃ u q e,zh r M (wof C)=(u,q,e):=⟨_,_,_,rfl⟩
  rw [hu] at h
  dsimp only at h
  split at h
  ·cases h
  ·rename_i he
   have he0:e=0:=Decidable.not_not.1 he
   subst he0
   cases hm:zey u s with
   | none=>rw [hm] at h;cases h
   | some o =>
    obtain ⟨a1,p1,p2,p3⟩:=zhp hd
    obtain ⟨a2,q1,q2,q3⟩:=zcr hu
    rw [zd7 hd hu hm]
    refine ⟨a1 ++ a2,by rw [List.append_assoc,←q1,←p1],by rw [List.length_append];omega,fun t=>?_⟩
    dsimp only
    rw [List.append_assoc]
    exact zd7 (p3 _) (q3 t) hm
theorem zp8 {b:List UInt8} {s:Bool} (h:(zy b s).2.2=0):Took 4356 (fun b=>zy b s) (fun r=>((zy b s).1,r,0)) b (zy b s).2.1:=by
 obtain ⟨K,C,M,r,x,hd⟩:∃ K C M r x,zp b=(K,C,M,r,x):=⟨_,_,_,_,_,rfl⟩
 have hbd:=zcG b
 rw [hd] at hbd
 dsimp only at hbd
 by_cases hk:x≠0∨K≠2
 ·rw [zcW (by rw [hd];exact hk)] at h;cases h
 ·obtain rfl:x=0:=Decidable.not_not.1 fun h2=>hk (.inl h2)
  obtain rfl:K=2:=Decidable.not_not.1 fun h2=>hk (.inr h2)
  have hM:=zev hd
  rw [zdu hd] at h ⊢
  obtain ⟨m,rfl⟩:=zmT (show 0≤M by omega)
  by_cases h2:r.length < 2
  ·rw [zdO h2] at h;cases h
  ·obtain ⟨c0,r0,rfl⟩:∃ c r',r=c::r':=by cases r with | nil=>simp at h2 | cons c r'=>exact ⟨c,r',rfl⟩
   obtain ⟨c1,r1,rfl⟩:∃ c r',r0=c::r':=by cases r0 with | nil=>simp at h2 | cons c r'=>exact ⟨c,r',rfl⟩
   obtain ⟨p,hp⟩:=zi3 (c0.toNat % 32)
   have hfo:∀ t:List UInt8,zhH s C (m:Int) (c0::c1::t)=if 64 < c1.toNat / 32+1+p∨t.length < c0.toNat / 32+1 then gbad else zfH s (zds (t.take (c0.toNat / 32+1))) C (m:Int) (c1.toNat / 32+1) p (c1.toNat % 32) (t.drop (c0.toNat / 32+1)):=by
    intro t
    unfold zhH
    rw [if_neg (by simp)]
    simp only [List.getD_cons_zero,List.getD_cons_succ,List.length_cons,hp,Int.toNat_natCast,List.drop_succ_cons,List.drop_zero,show t.length+1+1 - 2=t.length from by omega]
   rw [hfo] at h ⊢
   split at h
   ·cases h
   ·rename_i hg
    rw [if_neg hg]
    obtain ⟨n,hn⟩:∃ n,n=c0.toNat / 32+1:=⟨_,rfl⟩
    have hn8:n≤8:=by have:=c0.toNat_lt;omega
    have ht31:c1.toNat % 32≤31:=by omega
    rw [←hn] at h hg ⊢
    have hrl:n≤r1.length:=Nat.not_lt.1 fun h=>hg (.inr h)
    have htl:(r1.take n).length=n:=by rw [List.length_take];omega
    obtain ⟨us,q1,e1,hu⟩:∃ u q e,zh (r1.drop n) (m:Int) (wof C)=(u,q,e):=⟨_,_,_,rfl⟩
    by_cases he1:e1=0
    ·subst he1
     obtain ⟨vs,q2,e2,hv⟩:∃ u r e,zh q1 ((c1.toNat % 32:Nat):Int) (zi ((c1.toNat / 32+1+p:Nat):Int))=(u,r,e):=⟨_,_,_,rfl⟩
     by_cases he2:e2=0
     ·subst he2
      obtain ⟨a1,p1,p2,p3⟩:=zhp hd
      obtain ⟨a2,u1,u2,u3⟩:=zcr hu
      obtain ⟨a3,v1,v2,v3⟩:=zcr hv
      rw [Int.toNat_natCast] at u2 v2
      rw [zfl hu hv] at h ⊢
      cases hpa:pall (wof C).toNat (c1.toNat / 32+1) p (m:Int).toNat (0,us) vs with
      | none=>rw [zdv hpa] at h;cases h
      | some st =>
       obtain ⟨a,lf⟩:=st
       rw [zeb hpa] at h ⊢
       cases ho:omap (zbj s false (zds (r1.take n))) lf with
       | none=>rw [ho] at h;cases h
       | some xs =>
        dsimp only
        have hr1:r1=r1.take n ++ (a2 ++ (a3 ++ q2)):=by rw [←v1,←u1,List.take_append_drop]
        refine ⟨a1 ++ (c0::c1::r1.take n) ++ a2 ++ a3,?_,?_,fun t=>?_⟩
        ·rw [p1]
         simp only [List.append_assoc,List.cons_append]
         rw [←hr1]
        ·simp only [List.length_append,List.length_cons,htl]
         omega
        ·have e1:(a1 ++ (c0::c1::r1.take n) ++ a2 ++ a3) ++ t=a1 ++ (c0::c1::(r1.take n ++ (a2 ++ (a3 ++ t)))):=by simp only [List.append_assoc,List.cons_append]
         have e2:(r1.take n ++ (a2 ++ (a3 ++ t))).take n=r1.take n:=by rw [List.take_append_of_le_length (by omega),List.take_of_length_le (by omega)]
         have e3:(r1.take n ++ (a2 ++ (a3 ++ t))).drop n=a2 ++ (a3 ++ t):=by rw [List.drop_append_of_le_length (by omega),List.drop_of_length_le (by omega),List.nil_append]
         dsimp only
         rw [e1,zdu (p3 _),hfo,←hn,if_neg (by
          rintro (h | h)
          ·exact hg (.inl h)
          ·rw [List.length_append,htl] at h;omega),e2,e3,zfl (u3 _) (v3 t),zeb hpa,ho]
     ·rw [zew hu hv he2] at h;cases h
    ·rw [zfk hu he1] at h;cases h
theorem zmV {s f:Bool} {x:Int} {us:List Nat} {q:List UInt8} (h:(gend s f x us q).2.2=0):(gend s f x us q).2.1=q∧∀ r,gend s f x us r=((gend s f x us q).1,r,0):=by
 unfold gend at h ⊢
 cases hw:zbm s f x us with
 | none=>rw [hw] at h;cases h
 | some ys=>exact ⟨rfl,fun r=>rfl⟩
theorem zp9 {b:List UInt8} {s:Bool} (h:(zR b s).2.2=0):Took 4118 (fun b=>zR b s) (fun r=>((zR b s).1,r,0)) b (zR b s).2.1:=by
 obtain ⟨K,C,M,r,x,hd⟩:∃ K C M r x,zp b=(K,C,M,r,x):=⟨_,_,_,_,_,rfl⟩
 have hbd:=zcG b
 rw [hd] at hbd
 dsimp only at hbd
 by_cases hk:x≠0∨K≠3∨M < 2
 ·rw [zb7 (by rw [hd];exact hk)] at h;cases h
 ·obtain rfl:x=0:=Decidable.not_not.1 fun h2=>hk (.inl h2)
  obtain rfl:K=3:=Decidable.not_not.1 fun h2=>hk (.inr (.inl h2))
  have hM2:2≤M:=Int.not_lt.1 fun h2=>hk (.inr (.inr h2))
  rw [zdn hd hM2] at h ⊢
  cases h1:zbx r s with
  | none=>rw [zes h1] at h;cases h
  | some p =>
   obtain ⟨x0,r1⟩:=p
   cases h2:zbx r1 true with
   | none=>rw [zdL h1 h2] at h;cases h
   | some p2 =>
    obtain ⟨dd,r2⟩:=p2
    obtain ⟨u,f,o,hg⟩:∃ u f o,zx 0 dd=(u,f,o):=⟨_,_,_,rfl⟩
    obtain ⟨a1,p1,p2,p3⟩:=zhp hd
    obtain ⟨a2,s1,s2,s3⟩:=zkA h1
    obtain ⟨a3,t1,t2,t3⟩:=zkA h2
    dsimp only at s3 t3
    rw [zcl h1 h2 hg] at h ⊢
    cases o with
    | false=>cases h
    | true =>
     have key:∀ q,(if true=true then zez s f x0 u C M q else ([],[],2))=zez s f x0 u C M q:=fun _=>if_pos rfl
     try rw [key] at h
     try rw [key]
     by_cases hC:0 < C
     ·obtain ⟨us,q,e,hu⟩:∃ us q e,zh r2 (M - 2) (wof C)=(us,q,e):=⟨_,_,_,rfl⟩
      by_cases he:e=0
      ·subst he
       rw [zdp hC hu] at h ⊢
       obtain ⟨a4,u1,u2,u3⟩:=zcr hu
       obtain ⟨e1,e2⟩:=zmV h
       rw [e1]
       refine ⟨a1 ++ (a2 ++ (a3 ++ a4)),by rw [p1,s1,t1,u1];simp only [List.append_assoc],by simp only [List.length_append];omega,fun t=>?_⟩
       dsimp only
       simp only [List.append_assoc]
       rw [zdn (p3 _) hM2,zcl (s3 _) (t3 _) hg]
       try rw [key]
       rw [zdp hC (u3 t),e2]
      ·rw [zfd hC hu he] at h;cases h
     ·rw [zdo hC] at h ⊢
      obtain ⟨e1,e2⟩:=zmV h
      rw [e1]
      refine ⟨a1 ++ (a2 ++ a3),by rw [p1,s1,t1];simp only [List.append_assoc],by simp only [List.length_append];omega,fun t=>?_⟩
      dsimp only
      simp only [List.append_assoc]
      rw [zdn (p3 _) hM2,zcl (s3 _) (t3 _) hg]
      try rw [key]
      rw [zdo hC,e2]
theorem zrH {β:Type} {n:Nat} {f:List UInt8→β} {ans:List UInt8→β} {l q:List UInt8} (h:Took n f ans l q):f (l.take n)=ans ((l.take n).drop (l.length - q.length))∧(l.take n).length - ((l.take n).drop (l.length - q.length)).length=l.length - q.length∧l.drop (l.length - q.length)=q∧f l=ans q:=by
 obtain ⟨a,rfl,h2,h3⟩:=h
 have h4:(a ++ q).length - q.length=a.length:=by rw [List.length_append];omega
 rw [h4]
 have e1:(a ++ q).take n=a ++ q.take (n - a.length):=by rw [List.take_append,List.take_of_length_le h2]
 have e2:(a ++ q.take (n - a.length)).drop a.length=q.take (n - a.length):=by simp
 rw [e1,e2]
 refine ⟨h3 _,?_,by simp,h3 _⟩
 rw [List.length_append]
 omega
theorem zqa {β:Type} {n:Nat} {f:List UInt8→β} {ans:List UInt8→β} {l:List UInt8} {q:List UInt8} {k:Nat} (h:Took n f ans (l.take k) q):f l=ans (q ++ l.drop k)∧Took n f ans l (q ++ l.drop k):=by
 obtain ⟨a,h1,h2,h3⟩:=h
 have e:l=a ++ (q ++ l.drop k):=by
  rw [←List.append_assoc,←h1,List.take_append_drop]
 refine ⟨?_,a,e,h2,h3⟩
 have:=h3 (q ++ l.drop k)
 rw [←e] at this
 exact this
theorem zrI (s:Bool):uone [] s=([],[],2):=rfl
theorem zdw {c:UInt8} {a r:List UInt8} {s:Bool}:uone (c::a ++ r) s=if c.toNat / 64=1 then zbg (c::a ++ r) s else if c.toNat / 64=2 then zy (c::a ++ r) s else if c.toNat / 64=3 then zR (c::a ++ r) s
  else (List.replicate (zC (c::a ++ r) s).2.1.toNat (zC (c::a ++ r) s).1,(zC (c::a ++ r) s).2.2.1,(zC (c::a ++ r) s).2.2.2):=rfl
theorem zfM {c:UInt8} {b q:List UInt8} {n:Nat} {f:List UInt8→List Int × List UInt8 × Int} {xs:List Int} (h:Took n f (fun r=>(xs,r,0)) (c::b) q) (h0:(f []).2.2≠0):∃ a,b=a ++ q∧a.length+1≤n∧∀ r,f (c::a ++ r)=(xs,r,0):=by
 obtain ⟨a,h1,h2,h3⟩:=h
 cases a with
 | nil =>
  have h4:=h3 []
  rw [List.append_nil] at h4
  rw [h4] at h0
  exact absurd rfl h0
 | cons d a =>
  rw [List.cons_append] at h1
  injection h1 with h4 h5
  subst h4
  exact ⟨a,h5,h2,h3⟩
theorem zmW {b:List UInt8} {s:Bool} (h:(uone b s).2.2=0):Took 4356 (fun b=>uone b s) (fun r=>((uone b s).1,r,0)) b (uone b s).2.1:=by
 cases b with
 | nil=>cases h
 | cons c b =>
  have hb:=zdw (c:=c) (a:=b) (r:=[]) (s:=s)
  rw [List.append_nil] at hb
  by_cases h1:c.toNat / 64=1
  ·rw [if_pos h1] at hb
   rw [hb] at h ⊢
   obtain ⟨a,h4,h5,h6⟩:=zfM (zp7 h) (by unfold zbg zp;simp)
   refine ⟨c::a,by rw [List.cons_append,←h4],by rw [List.length_cons];omega,fun r=>?_⟩
   dsimp only
   rw [zdw,if_pos h1,h6]
  ·rw [if_neg h1] at hb
   by_cases h2:c.toNat / 64=2
   ·rw [if_pos h2] at hb
    rw [hb] at h ⊢
    obtain ⟨a,h4,h5,h6⟩:=zfM (zp8 h) (by unfold zy zp;simp [gbad])
    refine ⟨c::a,by rw [List.cons_append,←h4],by rw [List.length_cons];omega,fun r=>?_⟩
    dsimp only
    rw [zdw,if_neg h1,if_pos h2,h6]
   ·rw [if_neg h2] at hb
    by_cases h3:c.toNat / 64=3
    ·rw [if_pos h3] at hb
     rw [hb] at h ⊢
     obtain ⟨a,h4,h5,h6⟩:=zfM (zp9 h) (by unfold zR zp;simp [gbad])
     refine ⟨c::a,by rw [List.cons_append,←h4],by rw [List.length_cons];omega,fun r=>?_⟩
     dsimp only
     rw [zdw,if_neg h1,if_neg h2,if_pos h3,h6]
    ·rw [if_neg h3] at hb
     rw [hb] at h ⊢
     dsimp only at h ⊢
     obtain ⟨a,h4,h5,h6⟩:=zp6 h
     cases a with
     | nil =>
      have h7:=h6 []
      dsimp only at h7
      rw [List.append_nil] at h7
      have h8:=congrArg (fun p=>p.2.2.2) h7
      simp [zC] at h8
     | cons d a =>
      rw [List.cons_append] at h4
      injection h4 with h7 h8
      subst h7
      refine ⟨c::a,by rw [List.cons_append,←h8],by omega,fun r=>?_⟩
      have h9:=h6 r
      dsimp only at h9 ⊢
      rw [zdw,if_neg h1,if_neg h2,if_neg h3,h9]
theorem zob {b sh:List UInt8} {s:Bool} (hs:sh=b.take 4356):((uone sh s).2.2≠0→(uone b s).2.2≠0)∧((uone sh s).2.2=0→(uone sh s).2.1.length≤sh.length∧uone b s=((uone sh s).1,b.drop (sh.length - (uone sh s).2.1.length),0)):=by
 subst hs
 refine ⟨fun h h2=>?_,fun h=>?_⟩
 ·have h3:=(zrH (zmW h2)).1
  try dsimp only at h3
  rw [h3] at h
  exact h rfl
 ·obtain ⟨q,hq⟩:∃ q,q=(uone (b.take 4356) s).2.1:=⟨_,rfl⟩
  have h1:=zmW h
  rw [←hq] at h1 ⊢
  obtain ⟨a,h3,h4,h5⟩:=h1
  obtain ⟨h6,-⟩:=zqa (n:=4356) (f:=fun b=>uone b s) (ans:=fun r=>((uone (b.take 4356) s).1,r,0)) (k:=4356) (l:=b) ⟨a,h3,h4,h5⟩
  try dsimp only at h6
  have hl:(b.take 4356).length=a.length+q.length:=by rw [h3,List.length_append]
  refine ⟨by omega,?_⟩
  rw [h6,hl,Nat.add_sub_cancel]
  congr 2
  have e:b=a ++ (q ++ b.drop 4356):=by rw [←List.append_assoc,←h3,List.take_append_drop]
  have e2:b.drop a.length=(a ++ (q ++ b.drop 4356)).drop a.length:=by rw [←e]
  rw [e2,List.drop_left]
def zbt:Option (List UInt8)→List UInt8 × Int→Option (List UInt8)
 | none,p=>if p.2=0 then some p.1 else none
 | some a,p=>if p.2=0∧p.1.length < a.length then some p.1 else some a
def uans:Option (List UInt8)→List UInt8 × Int
 | none=>([],1)
 | some a=>(a,0)
theorem zbu {o:Option (List UInt8)} {p:List UInt8 × Int} (h:p.2≠0):zbt o p=o:=by
 cases o with
 | none=>exact if_neg h
 | some a=>exact if_neg fun h2=>h h2.1
theorem zbB {p:List UInt8 × Int} (h:p.2=0):zbt none p=some p.1:=if_pos h
theorem zbv {a:List UInt8} {p:List UInt8 × Int} (h:p.2=0) (h2:p.1.length < a.length):zbt (some a) p=some p.1:=if_pos ⟨h,h2⟩
theorem zbU {a:List UInt8} {p:List UInt8 × Int} (h2:¬p.1.length < a.length):zbt (some a) p=some a:=if_neg fun h=>h2 h.2
theorem zoc (o x:Option (List UInt8)) (c:List UInt8 × Int):zbt o (uans (zbt x c))=zbt (zbt o (uans x)) c:=by
 by_cases hc:c.2=0
 ·cases x with
  | none =>
   rw [zbB hc,zbu (o:=o) (p:=uans none) (by simp [uans])]
   have e:uans (some c.1)=c:=by rw [uans,←hc]
   rw [e]
  | some x =>
   have e:uans (some c.1)=c:=by rw [uans,←hc]
   by_cases h1:c.1.length < x.length
   ·rw [zbv hc h1,e]
    cases o with
    | none=>rw [zbB (p:=uans (some x)) rfl,zbB hc,zbv (a:=(uans (some x)).1) hc h1]
    | some o =>
     by_cases h2:x.length < o.length
     ·rw [zbv (p:=uans (some x)) rfl h2,zbv hc (by omega),zbv (a:=(uans (some x)).1) hc h1]
     ·rw [zbU (p:=uans (some x)) h2]
   ·rw [zbU h1]
    cases o with
    | none=>rw [zbB (p:=uans (some x)) rfl,zbU (a:=(uans (some x)).1) h1]
    | some o =>
     by_cases h2:x.length < o.length
     ·rw [zbv (p:=uans (some x)) rfl h2,zbU (a:=(uans (some x)).1) h1]
     ·rw [zbU (p:=uans (some x)) h2,zbU (by omega)]
 ·rw [zbu (o:=x) hc,zbu hc]
theorem zod (L:List (List UInt8 × Int)):∀ (o x:Option (List UInt8)),zbt o (uans (L.foldl zbt x))=L.foldl zbt (zbt o (uans x)):=by
 induction L with
 | nil=>intro o x;rfl
 | cons c L ih =>
  intro o x
  rw [List.foldl_cons,List.foldl_cons,ih,zoc]
theorem zfn {L:List (List UInt8 × Int)} (h:∀ p∈L,p.2≠0) (o:Option (List UInt8)):L.foldl zbt o=o:=by
 induction L generalizing o with
 | nil=>rfl
 | cons c L ih=>rw [List.foldl_cons,zbu (h c List.mem_cons_self),ih fun p hp=>h p (List.mem_cons_of_mem _ hp)]
theorem zoe {L:List (List UInt8 × Int)}:∀ {o:Option (List UInt8)},((∃ a,o=some a)∨∃ p∈L,p.2=0)→∃ a,L.foldl zbt o=some a:=by
 induction L with
 | nil =>
  rintro o (h | ⟨p,hp,_⟩)
  ·exact h
  ·cases hp
 | cons c L ih =>
  rintro o h
  rw [List.foldl_cons]
  refine ih ?_
  rcases h with ⟨a,rfl⟩ | ⟨p,hp,h0⟩
  ·left;unfold zbt;dsimp only;split <;> exact ⟨_,rfl⟩
  ·rcases List.mem_cons.1 hp with rfl | hp
   ·left
    cases o with
    | none=>exact ⟨_,zbB h0⟩
    | some a=>unfold zbt;dsimp only;split <;> exact ⟨_,rfl⟩
   ·exact .inr ⟨p,hp,h0⟩
theorem zfo {L:List (List UInt8 × Int)}:∀ {o:Option (List UInt8)},(∀ p∈L,p.2=0→p.1.length≠0)→(∀ a,o=some a→a.length≠0)→L.foldl zbc (o.getD [])=(L.foldl zbt o).getD []:=by
 induction L with
 | nil=>intro o _ _;rfl
 | cons c L ih =>
  intro o h1 h2
  rw [List.foldl_cons,List.foldl_cons]
  have hc:=h1 c List.mem_cons_self
  have e:zbc (o.getD []) c=(zbt o c).getD []:=by
   unfold zbc
   cases o with
   | none =>
    by_cases h:c.2=0
    ·rw [zbB h,if_pos ⟨h,.inl rfl⟩];rfl
    ·rw [zbu h,if_neg fun h3=>h h3.1]
   | some a =>
    have ha:=h2 a rfl
    by_cases h:c.2=0∧c.1.length < a.length
    ·rw [zbv h.1 h.2,if_pos ⟨h.1,.inr h.2⟩];rfl
    ·rw [if_neg fun h3=>h ⟨h3.1,h3.2.resolve_left ha⟩]
     by_cases h4:c.2=0
     ·rw [zbU fun h5=>h ⟨h4,h5⟩]
     ·rw [zbu h4]
  rw [e]
  refine ih (fun p hp=>h1 p (List.mem_cons_of_mem _ hp)) fun a ha=>?_
  cases o with
  | none =>
   by_cases h:c.2=0
   ·rw [zbB h] at ha;injection ha with ha;rw [←ha];exact hc h
   ·rw [zbu h] at ha;cases ha
  | some b =>
   by_cases h:c.2=0∧c.1.length < b.length
   ·rw [zbv h.1 h.2] at ha;injection ha with ha;rw [←ha];exact hc h.1
   ·have e2:zbt (some b) c=some b:=if_neg h
    rw [e2] at ha
    exact h2 a ha
theorem zed {p:List UInt8 × Int} (h:p.2=0):p=(p.1,0):=by rw [←h]
def urep (l:List Int) (s:Bool):List UInt8 × Int:=if l.length=0∨zbX l < l.length then ([],1) else eput (l.headD 0) l.length s
def zof (l:List Int) (s:Bool):List (List UInt8 × Int):=(List.range 31).map fun c:Nat=>zcx l (wof (c:Int)) s
def upat (l:List Int) (s:Bool):List UInt8 × Int:=uans ((zof l s).foldl zbt none)
def zdX (l:List Int) (s:Bool):List (List UInt8 × Int):=[urep l s,zdH l s,zd9 l s,upat l s]
theorem zrJ {l:List Int} {s:Bool} (h:(urep l s).2=0):(urep l s).1.length≠0:=by
 unfold urep at h ⊢
 split
 ·rename_i h1;rw [if_pos h1] at h;cases h
 ·rename_i h1
  rw [if_neg h1] at h
  obtain ⟨_,_,u,_,hb⟩:=zdQ (b:=(eput (l.headD 0) l.length s).1) (zed h)
  rw [hb,zgf]
  omega
theorem zqb {x t:Int} {s:Bool} (h:(eput x t s).2=0):(eput x t s).1.length≠0:=by
 obtain ⟨_,_,u,_,hb⟩:=zdQ (b:=(eput x t s).1) (zed h)
 rw [hb,zgf]
 omega
theorem zkB {l:List Int} {s:Bool} (h:(zdH l s).2=0):(zdH l s).1.length≠0:=by
 obtain ⟨_,_,u,_,hb⟩:=zeO (b:=(zdH l s).1) (zed h)
 rw [hb]
 unfold dlay
 rw [List.length_append,zT]
 omega
theorem zkC {l:List Int} {s:Bool} (h:(zd9 l s).2=0):(zd9 l s).1.length≠0:=by
 obtain ⟨_,_,_,u,_,hb⟩:=zeP (b:=(zd9 l s).1) (zed h)
 rw [hb]
 unfold glay
 simp only [List.length_append,zT]
 omega
theorem zhq {l:List Int} {W:Int} {s:Bool} (h:(zcx l W s).2=0):(zcx l W s).1.length≠0:=by
 obtain ⟨us,_,_,_,_,_,_,_,_,hb⟩:=zmR (b:=(zcx l W s).1) (zed h)
 rw [hb]
 unfold play
 simp only [List.length_append,zT]
 omega
theorem zog {l:List Int} {s:Bool}:∀ p∈zcD l s,p.2=0→p.1.length≠0:=by
 intro p hp
 unfold zcD zhk at hp
 simp only [List.mem_append,List.mem_cons,List.mem_map,List.mem_range,List.not_mem_nil,or_false] at hp
 rcases hp with (hp | rfl | rfl) | ⟨c,hc,rfl⟩
 ·split at hp
  ·rw [List.mem_singleton] at hp
   subst hp
   exact zqb
  ·cases hp
 ·exact zkB
 ·exact zkC
 ·exact zhq
theorem zkD {l:List Int} {s:Bool}:∀ p∈zof l s,p.2=0→p.1.length≠0:=by
 intro p hp
 unfold zof at hp
 simp only [List.mem_map,List.mem_range] at hp
 obtain ⟨c,hc,rfl⟩:=hp
 exact zhq
theorem zrK {l:List Int} {s:Bool} (h:(upat l s).2=0):(upat l s).1.length≠0:=by
 have h1:=zfo (o:=none) (zkD (l:=l) (s:=s)) (fun a h=>by cases h)
 unfold upat at h ⊢
 cases ho:(zof l s).foldl zbt none with
 | none=>rw [ho] at h;cases h
 | some a =>
  have key:∀ (L:List (List UInt8 × Int)) (o:Option (List UInt8)),(∀ p∈L,p.2=0→p.1.length≠0)→(∀ a,o=some a→a.length≠0)→∀ a,L.foldl zbt o=some a→a.length≠0:=by
   intro L
   induction L with
   | nil=>intro o _ h a ha;exact h a ha
   | cons c L ih =>
    intro o h1 h2 a ha
    rw [List.foldl_cons] at ha
    refine ih _ (fun p hp=>h1 p (List.mem_cons_of_mem _ hp)) (fun b hb=>?_) a ha
    have hc:=h1 c List.mem_cons_self
    cases o with
    | none =>
     by_cases h:c.2=0
     ·rw [zbB h] at hb;injection hb with hb;rw [←hb];exact hc h
     ·rw [zbu h] at hb;cases hb
    | some d =>
     by_cases h:c.2=0∧c.1.length < d.length
     ·rw [zbv h.1 h.2] at hb;injection hb with hb;rw [←hb];exact hc h.1
     ·rw [show zbt (some d) c=some d from if_neg h] at hb
      exact h2 b hb
  exact key _ _ zkD (fun a h=>by cases h) a ho
theorem zoh {l:List Int} {s:Bool}:∀ p∈zdX l s,p.2=0→p.1.length≠0:=by
 intro p hp
 unfold zdX at hp
 simp only [List.mem_cons,List.not_mem_nil,or_false] at hp
 rcases hp with rfl | rfl | rfl | rfl
 ·exact zrJ
 ·exact zkB
 ·exact zkC
 ·exact zrK
theorem zqc {l:List Int} (h:¬(l.length=0∨zbX l < l.length)):l=List.replicate l.length (l.headD 0):=by
 cases l with
 | nil=>exact absurd (.inl rfl) h
 | cons x r =>
  have h1:=zio (x:=x) (r:=r) (k:=(x::r).length) (Nat.not_lt.1 fun h2=>h (.inr h2))
  rw [List.take_of_length_le (Nat.le_refl _)] at h1
  rw [List.headD_cons]
  exact h1
theorem zi9 {l:List Int} {s:Bool} (h:zG l s=none∨l.length < 1∨512 < l.length):∀ p∈zdX l s,p.2≠0:=by
 intro p hp h0
 unfold zdX at hp
 simp only [List.mem_cons,List.not_mem_nil,or_false] at hp
 rcases hp with rfl | rfl | rfl | rfl
 ·unfold urep at h0
  split at h0
  ·cases h0
  ·rename_i hn
   obtain ⟨t3,t10,u,hu,_⟩:=zdQ (b:=(eput (l.headD 0) l.length s).1) (zed h0)
   rcases h with h | h | h
   ·have hr:=zqc hn
    have:∀ n:Nat,zG (List.replicate n (l.headD 0)) s≠none:=by
     intro n
     induction n with
     | zero=>intro h;cases h
     | succ n ih =>
      unfold zG at ih ⊢
      rw [List.replicate_succ,omap,hu]
      cases ho:omap (zD · s) (List.replicate n (l.headD 0)) with
      | none=>exact absurd ho ih
      | some ys=>intro h;cases h
    exact this l.length (by rw [←hr];exact h)
   ·omega
   ·omega
 ·obtain ⟨h1,h2,u,hu,_⟩:=zeO (b:=(zdH l s).1) (zed h0)
  rcases h with h | h | h
  ·rw [h] at hu;cases hu
  ·omega
  ·omega
 ·obtain ⟨h1,h2,h3,_⟩:=zeP (b:=(zd9 l s).1) (zed h0)
  rcases h with h | h | h
  ·exact h1 h
  ·omega
  ·omega
 ·have:∀ p∈zof l s,p.2≠0:=by
   intro p hp
   unfold zof at hp
   simp only [List.mem_map,List.mem_range] at hp
   obtain ⟨c,hc,rfl⟩:=hp
   unfold zcx
   rw [if_pos (by rcases h with h | h | h;exact .inl h;exact .inr (.inl h);exact .inr (.inr (.inl h)))]
   simp
  unfold upat at h0
  rw [zfn this] at h0
  cases h0
theorem zoi (l:List Int) (s:Bool):zcX l s=uans ((zdX l s).foldl zbt none):=by
 by_cases h:zG l s=none∨l.length < 1∨512 < l.length
 ·rw [zfn (zi9 h)]
  unfold zcX
  rw [if_pos h]
  rfl
 ·have e1:(zdX l s).foldl zbt none=(zcD l s).foldl zbt none:=by
   have e2:zbt none (urep l s)=((if zbX l=l.length then [eput (l.headD 0) l.length s] else []):List (List UInt8 × Int)).foldl zbt none:=by
    have h1:=zfm l
    unfold urep
    by_cases h2:zbX l=l.length
    ·rw [if_pos h2,if_neg (by
      rintro (h3 | h3)
      ·exact h (.inr (.inl (by omega)))
      ·omega)]
     rfl
    ·rw [if_neg h2,if_pos (.inr (by omega))]
     rfl
   unfold zdX zcD zhk
   rw [List.foldl_append,List.foldl_append,←e2]
   simp only [List.foldl_cons,List.foldl_nil]
   unfold upat
   rw [zod,zbu (p:=uans none) (by simp [uans])]
   rfl
  have h1:1≤l.length:=Nat.not_lt.1 fun h2=>h (.inr (.inl h2))
  have h5:l.length≤512:=Nat.not_lt.1 fun h2=>h (.inr (.inr h2))
  have hp:zG l s≠none:=fun h2=>h (.inl h2)
  obtain ⟨u,hu,hd⟩:=zmS hp h1 h5
  obtain ⟨a,ha⟩:=zoe (L:=zcD l s) (o:=none) (.inr ⟨_,zi6 l s,by rw [hd]⟩)
  have h3:=zfo (o:=none) (zog (l:=l) (s:=s)) (fun a h=>by cases h)
  rw [e1,ha,zi5 hp h1 h5]
  rw [ha] at h3
  rw [show ([]:List UInt8)=(none:Option (List UInt8)).getD [] from rfl,h3]
  rfl
end Go.Proofs.YtblpkmmhmdpkjaaGreatDoor
