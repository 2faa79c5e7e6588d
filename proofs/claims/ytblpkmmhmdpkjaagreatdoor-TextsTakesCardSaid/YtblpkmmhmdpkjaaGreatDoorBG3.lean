import Derived.Deep.DeepMust
import Derived.Lib.MinMax
import Derived.Deep.RegionWith
import Derived.Deep.RegionLaw
import Derived.BigGuardPart
import Derived.Deep.Grids
import Derived.Test.YtblpkmmhmdpkjaaGreatDoorBG2
set_option maxHeartbeats 8000000
set_option maxRecDepth 100000
namespace Go.Proofs.YtblpkmmhmdpkjaaGreatDoor
open Go.RowKit
def zsz (l:List UInt8) (X:Nat) (w:World) (t:TypeId) (x v:Value) (wr:World):Prop:=
 ∃ (y:Nat) (m:List UInt8),x=.int .u64 (y:Int)∧(y:Int) < 18446744073709551616∧m ++ vput y=l ++ vput X∧wr.ownsRow w.heap.size t 1 v m.length (m.map bv)∧Below w.heap.size w wr
theorem zmu {y:Nat} (h:y < 256):Value.int .u8 (y:Int)=bv (UInt8.ofNat y):=by unfold bv;congr 1;simp;omega
theorem zq3 (A:Option Addr) (n c:Nat) (x:Int) (l:List UInt8) (w:World) (hA:A=none→n=0) (hn:l.length=n) (hnb:n≤1000000) (hl:Lies w A (l.map bv)) (h0:0≤x) (h1:x < 18446744073709551616) :
  Calls Tryz.prog 110 #[.slice A n c,.int .u64 x] w (RetOwn w (l ++ vput x.toNat)):=by
 obtain ⟨X,rfl⟩:=Int.eq_ofNat_of_zero_le h0
 rw [Int.toNat_natCast]
 have hb0:Below w.heap.size w (w.alloc (.cells #[] 5)):=(Below.refl _ _).alloc (Nat.le_refl _) _
 have hl1:Lies (w.alloc (.cells #[] 5)) A (l.map bv):=hl.below hb0
 have hm:(l.map bv).length=n:=by simpa using hn
 have hown0:(w.alloc (.cells #[] 5)).ownsRow w.heap.size 5 1 (.slice (some ⟨w.heap.size,0,none⟩) 0 0) 0 []:=World.ownsRow_made w #[] 0 (Nat.le_refl _) (by unfold maxLen;omega) (by simp)
 have h10:=zbz (x:=X) (by omega)
 have hzz:w.heap.size≤(w.alloc (.cells #[] 5)).heap.size:=by simp
 go_enter Tryz.func110,Tryz.ntmps110
 go_wp2_with (at_builtin;refine zo elemB rfl _ _ rfl w.heap.size _ _ _ _ _ _ _ w rfl rfl hA hm hl1 (zcb l) hown0 hb0 hzz (by omega) (by omega) ?_)
 intro v1 w1 hown1 hb1 _ _
 rw [←hn] at hown1
 clear hown0 hl1 hb0 hzz
 go_wp2
 go_loopw [1,5] (zsz l X w 5) (fun x _ _=>(intOf x).toNat)
 case atStart=>exact ⟨X,l,rfl,by omega,rfl,by simpa using hown1,hb1⟩
 case round =>
  obtain ⟨y,m,rfl,hy,HM,hown,hb⟩:=hrel
  have HE:=Lib.hid HM
  have hlen:m.length≤1000010:=by
   have:=congrArg List.length HM
   have:=zc3 y
   simp only [List.length_append] at *
   omega
  have hz:=hb.size
  clear HM hown1 hb1
  by_cases hlt:y < 128
  ·have hq:¬(128:Int)≤(y:Int):=by omega
   go_wp2_with (at_builtin;refine zX elemB rfl _ _ rfl w.heap.size _ _ _ (.int .u8 (y:Int)) wr w rfl rfl rfl rfl hown hb hz (by omega) (by omega) ?_)
   intro v2 w2 hown2 hb2 _ _
   go_wp2
   go_ret
   rw [zmu (by omega)] at hown2
   rw [←HE.out,zcN hlt]
   exact ⟨_,rfl,by simpa using hown2,hb2⟩
  ·have hq:(128:Int)≤(y:Int):=by omega
   go_wp2_with (at_builtin;refine zX elemB rfl _ _ rfl w.heap.size _ _ _ (.int .u8 ((y:Int) % 128+128)) wr w rfl rfl rfl rfl hown hb hz (by omega) (by omega) ?_)
   intro v2 w2 hown2 hb2 _ _
   go_wp2
   go_roundw
   case rel =>
    refine ⟨y / 128,m ++ [UInt8.ofNat (y % 128+128)],by go_num,by omega,?_,?_,hb2⟩
    ·rw [←HE.out,zdb (x:=y) (by omega)];simp
    ·rw [show (y:Int) % 128+128=((y % 128+128:Nat):Int) by omega,zmu (by omega)] at hown2
     simpa using hown2
   case measure=>simp [intOf];omega
theorem zmv (A:Option Addr) (n c:Nat) (x:Int) (l:List UInt8) (w:World) (hA:A=none→n=0) (hn:l.length=n) (hnb:n≤1000000) (hl:Lies w A (l.map bv)) (h0:0≤x) (h1:x < 18446744073709551616) :
  Calls Tryz.prog 110 #[.slice A n c,.int .u64 x] w (RetB w (l ++ vput x.toNat)):=(zq3 A n c x l w hA hn hnb hl h0 h1).mono fun _ _ h=>h.retB
def zta (l:List UInt8) (X k:Nat) (w:World) (t:TypeId) (x i:Value) (wr:World):Prop:=
 ∃ j:Nat,i=.int .i64 (j:Int)∧j+1≤k∧x=.int .u64 ((X / 128 ^ j:Nat):Int)∧Row wr w.heap.size t ((l ++ (vput X).take j).map bv ++ List.replicate (k - j) (bv 0))∧Below w.heap.size w wr
theorem zlm (A:Option Addr) (n c:Nat) (x:Int) (l:List UInt8) (w:World) (_hA:A=none→n=0) (hn:l.length=n) (hnb:n≤1000000) (hl:Lies w A (l.map bv)) (h0:0≤x) (h1:x < 18446744073709551616) :
  Calls Tryz.prog 182 #[.slice A n c,.int .u64 x] w (RetOwn w (l ++ vput x.toNat)):=by
 have h10:=zbz (x:=x.toNat) (by omega)
 have hp:=zc3 x.toNat
 obtain ⟨k,hk⟩:∃ k,k=(vput x.toNat).length:=⟨_,rfl⟩
 have HK:=Lib.hid hk
 have hsz:=zoZ x w h0 h1
 rw [←hk] at hsz h10 hp
 have HS:=Lib.hid hsz
 clear hk hsz
 have hm:(l.map bv).length=n:=by simpa using hn
 go_enter Tryz.func182,Tryz.ntmps182
 go_wp2_with (first | (go_at_call 205;refine HS.out.mono ?_;rintro e w' ⟨rfl,rfl⟩) | (refine zA elemB rfl _ _ rfl _ _ _ _ (n+k) w w.heap.size rfl rfl ?_ ?_ (by omega) (by omega) (Below.refl _ _) (Nat.le_refl _) ?_))
 ·omega
 ·omega
 intro w1 hr1 hb1
 have hl1:=hl.below hb1
 have hlr:(List.replicate (n+k) (bv 0)).length=n+k:=by simp
 go_wp2_with (refine zhB elemB rfl (.tmp 16) (.tmp 17) rfl _ _ _ _ _ _ _ _ (l.map bv) w.heap.size w rfl rfl hr1 hm hl1 (zcb l) (by omega) (by omega) hb1 (Nat.le_refl _) ?_)
 intro w2 hr2 hb2
 have hr2':Row w2 w.heap.size 5 (l.map bv ++ List.replicate k (bv 0)):=by simpa [hn] using hr2
 clear hr2 hr1 hb1 hl1 hlr HS
 go_wp2
 obtain ⟨X,rfl⟩:=Int.eq_ofNat_of_zero_le h0
 rw [Int.toNat_natCast] at *
 go_loopw [1,25] (zta l X k w 5) (fun _ i _=>k - (intOf i).toNat)
 case atStart=>exact ⟨0,rfl,by omega,by simp,by simpa using hr2',hb2⟩
 case round =>
  obtain ⟨j,rfl,hj,rfl,hr,hb⟩:=hrel
  clear hr2' hb2
  have hll:((l ++ (vput X).take j).map bv).length=n+j:=by
   have:=HK.out
   simp;omega
  have hc0:wr.cell? ⟨w.heap.size,n+j,none⟩=some (bv 0):=by
   rw [hr.cell,List.getElem?_append_right (by omega),hll,List.getElem?_replicate]
   simp;omega
  have hf0:=hr.free (n+j)
  generalize hY:X / 128 ^ j=Y at *
  have HY:=Lib.hid hY
  clear hY
  have hy:(Y:Int) < 18446744073709551616:=by
   have:=Nat.div_le_self X (128 ^ j)
   rw [HY.out] at this
   omega
  have ho:=u8_or128 ((Y:Int) % 256) (by omega) (by omega)
  by_cases hlt:j+1 < k
  ·have hq:((j:Int) < (k:Int) - 1):=by omega
   go_wp2
   go_roundw
   case rel =>
    refine ⟨j+1,by go_num,by omega,?_,?_,hb.setCell (Nat.le_refl _) _⟩
    ·rw [Nat.pow_succ,←Nat.div_div_eq_div_mul,HY.out];go_num
    ·have h2:=hr.set_ (n+j) (.int .u8 ((Y:Int) % 128+128))
     have h3:Value.int .u8 ((Y:Int) % 128+128)=bv (UInt8.ofNat (Y % 128+128)):=by
      rw [show (Y:Int) % 128+128=((Y % 128+128:Nat):Int) by omega,zmu (by omega)]
     have h4:=(zfU j X (by have:=HK.out;omega)).1
     rw [h3] at h2 ⊢
     have h5:(List.map bv (l ++ List.take j (vput X)) ++ List.replicate (k - j) (bv 0)).set (n+j) (bv (UInt8.ofNat (Y % 128+128))) =
       List.map bv (l ++ List.take (j+1) (vput X)) ++ List.replicate (k - (j+1)) (bv 0):=by
      rw [List.set_append_right _ _ (by omega),hll,Nat.sub_self,show k - j=k - (j+1)+1 by omega,List.replicate_succ,List.set_cons_zero,
       List.take_succ_eq_append_getElem (by have:=HK.out;omega),h4,HY.out]
      simp
     rw [h5] at h2
     exact h2
   case measure=>simp [intOf];omega
  ·obtain rfl:k=j+1:=by omega
   have hq:¬((j:Int) < ((j+1:Nat):Int) - 1):=by omega
   go_wp2
   go_ret
   have h4:=zhC j X HK.out
   have h5:=(zgF j X HK.out).2
   rw [HY.out] at h4 h5
   have h2:=hr.set_ (n+j) (.int .u8 ((Y:Int) % 256))
   have h6:(List.map bv (l ++ List.take j (vput X)) ++ List.replicate (j+1 - j) (bv 0)).set (n+j) (.int .u8 ((Y:Int) % 256))=List.map bv (l ++ vput X):=by
    have h7:Value.int .u8 ((Y:Int) % 256)=bv (UInt8.ofNat Y):=by
     rw [show (Y:Int) % 256=((Y:Nat):Int) by omega,zmu (by omega)]
    rw [List.set_append_right _ _ (by omega),hll,Nat.sub_self,show j+1 - j=0+1 by omega,List.replicate_succ,List.set_cons_zero,h7,List.replicate_zero]
    conv=>rhs;rw [←h4]
    simp
   rw [h6] at h2
   have h9:(l ++ vput X).length=n+(j+1):=by have:=HK.out;rw [List.length_append];omega
   exact ⟨.slice (some ⟨w.heap.size,0,none⟩) (n+(j+1)) (n+(j+1)),rfl,by rw [h9];exact zcI h2 (by rw [List.length_map];exact h9) (Nat.le_refl _) (by omega),hb.setCell (Nat.le_refl _) _⟩
def RetT (k:IntKind) (w:World) (o:Option (Int × List UInt8)) (e:Ending) (w':World):Prop:=
 match o with
 | none=>e=.returned (.tuple #[.int k 0,.slice none 0 0,.int .i64 2])∧Below w.heap.size w w'
 | some p=>∃ A c,e=.returned (.tuple #[.int k p.1,.slice A p.2.length c,.int .i64 0])∧(A=none→p.2.length=0)∧p.2.length≤c∧c≤maxLen∧OwnB w p.2 (.slice A p.2.length c) w'∧Below w.heap.size w w'
def zsA (l:List UInt8) (x i:Value):Prop:=
 ∃ (k:Nat) (y:Int),i=.int .i64 (k:Int)∧k≤10∧k≤l.length∧x=.int .u64 y∧0≤y∧y < 18446744073709551616∧(k≤9→y=(vsum (l.take k):Nat))∧∀ j (h:j < l.length),j < k→128≤l[j].toNat
theorem zln (y:Int) (d k:Nat) (h0:0≤y) (h1:y < 18446744073709551616) :
  0≤bits .or .u64 y (IntKind.u64.wrap ((d:Int)*2 ^ (7*k)))∧bits .or .u64 y (IntKind.u64.wrap ((d:Int)*2 ^ (7*k))) < 18446744073709551616:=by
 rw [u64_or y _ h0 h1 (by rw [IntKind.wrap_u64];omega) (by rw [IntKind.wrap_u64];omega)]
 have:y.toNat ||| (IntKind.u64.wrap ((d:Int)*2 ^ (7*k))).toNat < 2 ^ 64:=Nat.or_lt_two_pow (by omega) (by rw [IntKind.wrap_u64];omega)
 omega
theorem zgI (a d k:Nat) (ha:a < 128 ^ k) (hk:k≤9) (hd:128 ^ k*d < 18446744073709551616) :
  bits .or .u64 (a:Int) (IntKind.u64.wrap ((d:Int)*2 ^ (7*k)))=((a+128 ^ k*d:Nat):Int):=by
 have h1:(128:Nat) ^ k=2 ^ (7*k):=by rw [Nat.pow_mul]
 have h2:(128:Nat) ^ k≤128 ^ 9:=Nat.pow_le_pow_right (by omega) hk
 have h3:(128:Nat) ^ 9=9223372036854775808:=by decide
 rw [h1] at ha hd ⊢
 have h4:((d:Int)*2 ^ (7*k))=((d*2 ^ (7*k):Nat):Int):=by push_cast;rfl
 rw [h4,IntKind.wrap_u64,Int.emod_eq_of_lt (by omega) (by rw [Nat.mul_comm];omega),zqL (7*k) a d ha (by rw [Nat.mul_comm];exact hd) (by omega),Nat.mul_comm d]
theorem zgJ (i c:Nat) (v:Bool) (w:World) (h1:i≤1000) (h2:c < 256) (hv:vend i c=v) :
  Calls Tryz.prog 206 #[.int .i64 (i:Int),.int .u8 (c:Int)] w fun e w'=>e=.returned (.bool v)∧w=w':=by
 have h:=zni (i:Int) (c:Int) w (by omega) (by omega) (by omega) (by omega)
 rw [Int.toNat_natCast,Int.toNat_natCast,hv] at h
 exact h
theorem zmw (A:Option Addr) (n c:Nat) (l:List UInt8) (w:World) (hA:A=none→n=0) (hn:l.length=n) (hnc:n≤c) (hnb:n≤1000000) (hl:Lies w A (l.map bv)) :
  Calls Tryz.prog 183 #[.slice A n c] w (RetT .u64 w ((zbs l).map fun p=>((p.1:Int),p.2))):=by
 go_enter Tryz.func183,Tryz.ntmps183
 go_wp2
 go_loop [5,11] (zsA l) (fun _ i=>10 - (intOf i).toNat)
 case atStart=>exact ⟨0,0,rfl,by omega,by omega,rfl,by omega,by omega,by simp [vsum],by omega⟩
 case round =>
  obtain ⟨k,y,rfl,hk,hkl,rfl,hy0,hy1,hy,hhi⟩:=hrel
  have HY:=Lib.hid hy
  have HH:=Lib.hid hhi
  clear hy hhi
  by_cases hlt:k < min n 10
  ·have hm:(l.map bv).length=n:=by simpa using hn
   obtain ⟨ad,rfl,_,hc⟩:=hl.cell (k:=k) (by omega)
   obtain ⟨b,hb⟩:∃ b:Nat,b=(l[k]'(by omega)).toNat:=⟨_,rfl⟩
   have hcb:w.cell? (ad.add k)=some (.int .u8 (b:Int)):=by rw [hc,List.getElem_map,hb];rfl
   have hb256:b < 256:=by rw [hb];exact UInt8.toNat_lt _
   have HB:=Lib.hid hb
   clear hb hc
   have ha1:=u8_and127 (b:Int) (by omega) (by omega)
   have hlt':(k:Int) < min (n:Int) 10:=by omega
   have hbd:=zln y (b % 128) k hy0 hy1
   have hZ:bits .or .u64 y (IntKind.u64.wrap ((b:Int) % 128*2 ^ (7*k)))=bits .or .u64 y (IntKind.u64.wrap (((b % 128:Nat):Int)*2 ^ (7*k))):=by push_cast;rfl
   obtain ⟨Z,hzz⟩:∃ Z,Z=bits .or .u64 y (IntKind.u64.wrap (((b % 128:Nat):Int)*2 ^ (7*k))):=⟨_,rfl⟩
   rw [←hzz] at hZ hbd
   have HZ:=Lib.hid hzz
   clear hzz
   obtain ⟨hz0,hz1⟩:=hbd
   have hb9:k≤9:=by omega
   by_cases h128:b < 128
   ·have ha2:bits .and .u8 (b:Int) 128=0:=by rw [zjm (b:Int) (by omega) (by omega)];omega
    have hend:zbs l=if vend k b=true then some (vsum (l.take k)+128 ^ k*b,l.drop (k+1)) else none:=by
     have:=zoV hb9 (by omega) HH.out (by rw [←HB.out];exact h128)
     rw [←HB.out] at this
     exact this
    cases hv:vend k b with
    | false =>
     have HE:Hid (zbs l=none):=by show zbs l=none;rw [hend,hv];simp
     have HV:=Lib.hid hv
     clear hend hv
     go_wp2_with (go_at_call 206;refine (zgJ _ _ false _ (by omega) (by omega) HV.out).mono ?_;rintro e w' ⟨rfl,rfl⟩)
     go_ret3
     rw [HE.out]
     exact ⟨rfl,Below.refl _ _⟩
    | true =>
     have HE:Hid (zbs l=some (vsum (l.take k)+128 ^ k*b,l.drop (k+1))):=by show zbs l=_;rw [hend,hv];simp
     have HV:=Lib.hid hv
     clear hend hv
     have hdl:((l.drop (k+1)).map bv).length=n - (k+1):=by rw [List.length_map,List.length_drop,hn]
     have hlk:Lies w (some ⟨ad.block,ad.off+(k+1),none⟩) ((l.drop (k+1)).map bv):=by rw [List.map_drop];exact hl.drop_some k
     have hfin:∀ (v:Value) (w1:World),w1.ownsRow w.heap.size 5 1 v (n - (k+1)) ((l.drop (k+1)).map bv)→Below w.heap.size w w1 →
       RetT .u64 w ((zbs l).map fun p=>((p.1:Int),p.2)) (.returned (.tuple #[.int .u64 Z,v,.int .i64 0])) w1:=by
      intro v w1 hown hb
      obtain ⟨B,c',hB,h2,h3,h4,_,h6⟩:=zgs (w0:=w) hown hb
      injection hB with hB
      subst hB
      have hZv:Z=((vsum (l.take k)+128 ^ k*b:Nat):Int):=by
       have h7:=HY.out hb9
       have h8:b % 128=b:=by omega
       have hvs:=zoT (l.take k)
       rw [List.length_take,Nat.min_eq_left (by omega)] at hvs
       have hto:=(zcj HE.out).2
       rw [HZ.out,h7,h8,zgI _ _ _ hvs hb9 (by omega)]
      rw [HE.out]
      exact ⟨B,c',by rw [hZv],h2,h3,h4,⟨_,hown⟩,h6⟩
     have HF:=Lib.hid hfin
     clear hfin
     by_cases hck:c=k+1
     ·obtain rfl:n=k+1:=by omega
      have hd0:(l.drop (k+1)).map bv=[]:=List.eq_nil_of_length_eq_zero (by omega)
      have HD:=Lib.hid hd0
      clear hd0 hdl
      go_wp2_with (first | (go_at_call 206;refine (zgJ _ _ true _ (by omega) (by omega) HV.out).mono ?_;rintro e w' ⟨rfl,rfl⟩) | (at_builtin;refine zo elemB rfl _ _ rfl w.heap.size _ _ _ _ _ _ [] w rfl rfl (by simp) (by simp) Lies.nil (by simp) (World.ownsRow_nil _ _ _ _) (Below.refl _ _) (Nat.le_refl _) (by omega) (by omega) ?_))
      intro v1 w1 hown1 hb1 _ _
      go_wp2
      go_ret3
      exact HF.out v1 w1 (by rw [HD.out];simpa using hown1) hb1
     ·go_wp2_with (first | (go_at_call 206;refine (zgJ _ _ true _ (by omega) (by omega) HV.out).mono ?_;rintro e w' ⟨rfl,rfl⟩) | (at_builtin;refine zo elemB rfl _ _ rfl w.heap.size _ _ _ _ _ _ ((l.drop (k+1)).map bv) w rfl rfl (by simp) hdl hlk (zcb _) (World.ownsRow_nil _ _ _ _) (Below.refl _ _) (Nat.le_refl _) (by omega) (by omega) ?_))
      intro v1 w1 hown1 hb1 _ _
      go_wp2
      go_ret3
      exact HF.out v1 w1 (by simpa using hown1) hb1
   ·have ha2:bits .and .u8 (b:Int) 128=128:=by rw [zjm (b:Int) (by omega) (by omega)];omega
    go_wp2
    go_round
    case rel =>
     refine ⟨k+1,Z,by go_num,by omega,by omega,rfl,hz0,hz1,?_,?_⟩
     ·intro h9
      have h7:=HY.out hb9
      have hvs:=zoT (l.take k)
      rw [List.length_take,Nat.min_eq_left (by omega)] at hvs
      have h2:(128:Nat) ^ k≤128 ^ 8:=Nat.pow_le_pow_right (by omega) (by omega)
      have h3:(128:Nat) ^ 8=72057594037927936:=by decide
      have h4:128 ^ k*(b % 128)≤72057594037927936*127:=Nat.mul_le_mul (by omega) (by omega)
      rw [HZ.out,h7,zgI _ _ _ hvs hb9 (by omega),List.take_succ_eq_append_getElem (by omega),zgG,List.length_take,Nat.min_eq_left (by omega)]
      simp only [vsum,←HB.out,Nat.mul_zero,Nat.add_zero]
     ·intro j hj hjk
      by_cases hjk':j=k
      ·subst hjk';rw [←HB.out];omega
      ·exact HH.out j hj (by omega)
    case measure=>simp [intOf];omega
  ·have hge:¬(k:Int) < min (n:Int) 10:=by omega
   have hnone:zbs l=none:=by
    by_cases h10:n < 10
    ·exact zoW (by omega) fun j hj=>HH.out j hj (by omega)
    ·exact znh (by omega) fun j hj hj10=>HH.out j hj (by omega)
   have HE:=Lib.hid hnone
   clear hnone
   go_wp2
   go_ret3
   rw [HE.out]
   exact ⟨rfl,Below.refl _ _⟩
theorem ztb (args:Array Value) (w:World):(callFunc 110 args).run Tryz.prog w=.ok (.enter 110 args) w:=by kernel_rfl
def zq4 (l:List UInt8) (i:Value):Prop:=
 ∃ k:Nat,i=.int .i64 (k:Int)∧k≤9∧k≤l.length∧∀ j (h:j < l.length),j < k→128≤l[j].toNat
def zjF (l:List UInt8) (n:Nat) (x i:Value):Prop:=
 ∃ m:Nat,i=.int .i64 ((m:Int) - 1)∧m≤n+1∧x=.int .u64 ((vsum ((l.take (n+1)).drop m) % 18446744073709551616:Nat):Int)
theorem zmx (l:List UInt8) (n m:Nat) (h:m < n+1) (hl:n < l.length) :
  (128*(vsum ((l.take (n+1)).drop (m+1)) % 18446744073709551616) % 18446744073709551616+(l[m]'(by omega)).toNat % 128) % 18446744073709551616=vsum ((l.take (n+1)).drop m) % 18446744073709551616:=by
 have hm:m < (l.take (n+1)).length:=by rw [List.length_take];omega
 rw [List.drop_eq_getElem_cons hm,vsum,List.getElem_take]
 omega
theorem zjG (A:Option Addr) (n c:Nat) (l:List UInt8) (w:World) (hA:A=none→n=0) (hn:l.length=n) (hnc:n≤c) (hnb:n≤1000000) (hl:Lies w A (l.map bv)) :
  Calls Tryz.prog 118 #[.slice A n c] w (RetT .u64 w ((zbs l).map fun p=>((p.1:Int),p.2))):=by
 go_enter Tryz.func118,Tryz.ntmps118
 go_wp2
 go_loop [5] (zq4 l) (fun i=>10 - (intOf i).toNat)
 case atStart=>exact ⟨0,rfl,by omega,by omega,by omega⟩
 case round =>
  obtain ⟨k,rfl,hk,hkl,hhi⟩:=hrel
  have HH:=Lib.hid hhi
  clear hhi
  by_cases hgo:∃ h:k < l.length,k < 9∧128≤l[k].toNat
  ·obtain ⟨hk1,hk2,hk3⟩:=hgo
   obtain ⟨ad,rfl,_,hc⟩:=hl.cell (k:=k) (by rw [List.length_map];omega)
   obtain ⟨b,hb⟩:∃ b:Nat,b=(l[k]'(by omega)).toNat:=⟨_,rfl⟩
   have hcb:w.cell? (ad.add k)=some (.int .u8 (b:Int)):=by rw [hc,List.getElem_map,hb];rfl
   rw [←hb] at hk3
   have HB:=Lib.hid hb
   clear hb hc
   rw [hn] at hk1
   have g1:(k:Int) < (n:Int):=by omega
   have g2:(k:Int) < 9:=by omega
   have g3:(128:Int)≤(b:Int):=by omega
   go_wp2
   go_round
   case rel =>
    refine ⟨k+1,by go_num,by omega,by omega,?_⟩
    intro j hj hjk
    by_cases hjk':j=k
    ·subst hjk';rw [←HB.out];omega
    ·exact HH.out j hj (by omega)
   case measure=>simp [intOf];omega
  ·have hst:zmp l k:=by
    refine ⟨hk,hkl,HH.out,?_⟩
    by_cases h9:k=9
    ·exact .inl h9
    ·refine .inr fun h=>?_
     by_cases h128:128≤l[k].toNat
     ·exact absurd ⟨h,by omega,h128⟩ hgo
     ·omega
   have HS:=Lib.hid hst
   clear hst hgo
   by_cases hkn:k < n
   ·obtain ⟨ad,rfl,_,hc⟩:=hl.cell (k:=k) (by rw [List.length_map];omega)
    obtain ⟨b,hb⟩:∃ b:Nat,b=(l[k]'(by omega)).toNat:=⟨_,rfl⟩
    have hcb:w.cell? (ad.add k)=some (.int .u8 (b:Int)):=by rw [hc,List.getElem_map,hb];rfl
    have hb256:b < 256:=by rw [hb];exact UInt8.toNat_lt _
    have HB:=Lib.hid hb
    clear hc hb
    have g1:(k:Int) < (n:Int):=by omega
    by_cases h9:k=9
    ·have g2:¬(k:Int) < 9:=by omega
     have H9:=Lib.hid h9
     clear h9
     go_wp2
     go_loop [6,7] (zjF l k) (fun _ i=>(intOf i+1).toNat)
     case atStart=>exact ⟨k+1,by go_num,by omega,by simp [vsum]⟩
     case round =>
      obtain ⟨m,rfl,hm,rfl⟩:=hrel
      obtain ⟨X,hX⟩:∃ X:Nat,X=vsum (List.drop m (List.take (k+1) l)) % 18446744073709551616:=⟨_,rfl⟩
      rw [←hX]
      have hXb:(X:Int) < 18446744073709551616:=by omega
      by_cases hm0:m=0
      ·subst hm0
       have HX:=Lib.hid hX
       clear hX
       have hlt:Lies w (some ad) ((l.take (k+1)).map bv):=by rw [List.map_take];exact hl.take _
       have htl:(l.take (k+1)).length=k+1:=by rw [List.length_take];omega
       go_wp2
       refine wp_region_list [.is (.int .u64 (X:Int)),.bytes (vput X),.is (.string ⟨(vput X).toArray⟩),.is (.slice (some ad) n c),.is (.int .i64 (k:Int)),.is (.int .i64 ((k:Int)+1)),.is (.slice (some ad) (k+1) c),
        .is (.string ⟨(l.take (k+1)).toArray⟩),.is (.bool !(vput X == l.take (k+1)))] [some 43,some 44,some 45,some 46,some 47,some 48,some 49,some 50,some 51] (by kernel_rfl) (by kernel_rfl) (by kernel_rfl) rfl ⟨?_,?_,?_,?_,?_,?_,?_,?_,?_,trivial⟩ ?_
       ·intro ρ w1 hb1 H
        exact zd rfl (H.old 6 _ (by kernel_rfl) rfl) ⟨rfl,Below.refl _ _⟩
       ·intro ρ w1 hb1 H
        have e0:ρ (.tmp 43)=.int .u64 (X:Int):=H.new 43 0 (by kernel_rfl)
        refine zk rfl ztb (H.func _) (args:=#[.slice none 0 0,.int .u64 (X:Int)]) (by simp [H.const,e0]) ?_
        refine (zmv none 0 0 (X:Int) [] _ (by simp) rfl (by omega) Lies.nil (by omega) hXb).mono fun e w2 h=>?_
        exact h.isB
       ·intro ρ w1 hb1 H
        obtain ⟨A1,c1,e1,h1,h2,h3,h4⟩:IsB (vput X) (ρ (.tmp 44)) w1:=H.new 44 1 (by kernel_rfl)
        exact zK rfl e1 (run_text w1 _ _ _ Tryz.underlying38 Tryz.underlying5 Tryz.underlying9 A1 _ c1 _ rfl h4) ⟨rfl,Below.refl _ _⟩
       ·intro ρ w1 hb1 H
        exact zd rfl (H.old 0 _ (by kernel_rfl) rfl) ⟨rfl,Below.refl _ _⟩
       ·intro ρ w1 hb1 H
        exact zd rfl (H.old 5 _ (by kernel_rfl) rfl) ⟨rfl,Below.refl _ _⟩
       ·intro ρ w1 hb1 H
        exact zcd rfl (H.new 47 4 (by kernel_rfl)) (H.const _) (by omega) (by omega) ⟨rfl,Below.refl _ _⟩
       ·intro ρ w1 hb1 H
        exact zcH elemB rfl (H.new 46 3 (by kernel_rfl)) (h:=k+1) (H.new 48 5 (by kernel_rfl)) (by omega) ⟨rfl,Below.refl _ _⟩
       ·intro ρ w1 hb1 H
        exact zK rfl (H.new 49 6 (by kernel_rfl)) (run_text w1 _ _ _ Tryz.underlying38 Tryz.underlying5 Tryz.underlying9 _ _ _ _ htl (hlt.below hb1)) ⟨rfl,Below.refl _ _⟩
       ·intro ρ w1 hb1 H
        exact zcu rfl (H.new 45 2 (by kernel_rfl)) (H.new 50 7 (by kernel_rfl)) ⟨rfl,Below.refl _ _⟩
       ·intro vs w1 hb1 hfs
        have f8:vs 8=.bool !(vput X == l.take (k+1)):=hfs 8 (by decide)
        clear hfs
        generalize vs 0=v0 at *;generalize vs 1=v1 at *;generalize vs 2=v2 at *;generalize vs 3=v3 at *;generalize vs 4=v4 at *;generalize vs 5=v5 at *;generalize vs 6=v6 at *;generalize vs 7=v7 at *
        by_cases he:vput X=l.take (k+1)
        ·have hb8:(vput X == l.take (k+1))=true:=by simpa using he
         rw [hb8] at f8
         have HE:Hid (zbs l=some (X,l.drop (k+1))):=by
          show zbs l=_
          have h2:=HX.out
          rw [List.drop_zero] at h2
          have h1:=zhR (l:=l) (n:=k) (by rw [←h2];exact he)
          rw [h1,←h2]
         simp only [zr,f8,Bool.not_true,Act.put,List.setIfInBounds_toArray,List.set_cons_succ,List.set_cons_zero]
         clear he hb8 f8
         have hz1:=hb1.size
         have hbb:Below w.heap.size w (w1.alloc (.cells #[] 5)):=hb1.alloc hb1.size _
         have hown0:(w1.alloc (.cells #[] 5)).ownsRow w.heap.size 5 1 (.slice (some ⟨w1.heap.size,0,none⟩) 0 0) 0 []:=World.ownsRow_made w1 #[] 0 hb1.size (by unfold maxLen;omega) (by simp)
         have hdl:((l.drop (k+1)).map bv).length=n - (k+1):=by rw [List.length_map,List.length_drop,hn]
         have hlk:Lies (w1.alloc (.cells #[] 5)) (some ⟨ad.block,ad.off+(k+1),none⟩) ((l.drop (k+1)).map bv):=by rw [List.map_drop];exact (hl.drop_some k).below hbb
         have hzz:w.heap.size≤(w1.alloc (.cells #[] 5)).heap.size:=by simp;omega
         have HF:Hid (∀ (v:Value) (w2:World),w2.ownsRow w.heap.size 5 1 v (n - (k+1)) ((l.drop (k+1)).map bv)→Below w.heap.size w w2 →
           RetT .u64 w ((zbs l).map fun p=>((p.1:Int),p.2)) (.returned (.tuple #[.int .u64 (X:Int),v,.int .i64 0])) w2):=by
          show ∀ (v:Value) (w2:World),_
          intro v w2 hown hb
          obtain ⟨B,c',hB,h2,h3,h4,_,h6⟩:=zgs (w0:=w) hown hb
          injection hB with hB
          subst hB
          rw [HE.out]
          exact ⟨B,c',rfl,h2,h3,h4,⟨_,hown⟩,h6⟩
         by_cases hck:c=k+1
         ·obtain rfl:n=k+1:=by omega
          have hd0:(l.drop (k+1)).map bv=[]:=List.eq_nil_of_length_eq_zero (by omega)
          have HD:=Lib.hid hd0
          clear hd0 hdl
          go_wp2_with (at_builtin;refine zo elemB rfl _ _ rfl w.heap.size _ _ _ _ _ _ [] w rfl rfl (by simp) (by simp) Lies.nil (by simp) hown0 hbb hzz (by omega) (by omega) ?_)
          intro vv w2 hown2 hb2 _ _
          go_wp2
          go_ret3
          exact HF.out vv w2 (by rw [HD.out];simpa using hown2) hb2
         ·go_wp2_with (at_builtin;refine zo elemB rfl _ _ rfl w.heap.size _ _ _ _ _ _ ((l.drop (k+1)).map bv) w rfl rfl (by simp) hdl hlk (zcb _) hown0 hbb hzz (by omega) (by omega) ?_)
          intro vv w2 hown2 hb2 _ _
          go_wp2
          go_ret3
          exact HF.out vv w2 (by simpa using hown2) hb2
        ·have hb8:(vput X == l.take (k+1))=false:=by simpa using he
         rw [hb8] at f8
         have HE:Hid (zbs l=none):=by
          show zbs l=none
          refine zgH HS.out ?_
          have h2:=HX.out
          rw [List.drop_zero] at h2
          rw [←h2]
          exact he
         simp only [zr,f8,Bool.not_false,Act.put,List.setIfInBounds_toArray,List.set_cons_succ,List.set_cons_zero]
         clear he hb8 f8
         go_wp2
         go_ret3
         rw [HE.out]
         exact ⟨rfl,hb1⟩
      ·obtain ⟨m,rfl⟩:∃ j,m=j+1:=⟨m - 1,by omega⟩
       have hcut:=zmx l k m (by omega) (by omega)
       rw [←hX] at hcut
       obtain ⟨ad',had,_,hc'⟩:=hl.cell (k:=m) (by rw [List.length_map];omega)
       injection had with had
       subst had
       obtain ⟨b',hb'⟩:∃ b':Nat,b'=(l[m]'(by omega)).toNat:=⟨_,rfl⟩
       have hcb':w.cell? (ad.add m)=some (.int .u8 (b':Int)):=by rw [hc',List.getElem_map,hb'];rfl
       have hb256':b' < 256:=by rw [hb'];exact UInt8.toNat_lt _
       rw [←hb'] at hcut
       have HC:=Lib.hid hcut
       clear hcut hX hc' hb' hcb
       have hmn:(m:Int) < (n:Int):=by omega
       have hmi:((m+1:Nat):Int) - 1=(m:Int):=by omega
       rw [hmi]
       go_wp2
       go_round
       case rel =>
        refine ⟨m,rfl,by omega,?_⟩
        have h3:=HC.out
        rw [←h3]
        congr 1
       case measure=>simp [intOf]
    ·have g3:(b:Int) < 128:=by
      rcases HS.out.2.2.2 with h | h
      ·omega
      ·have:=h (by omega);rw [←HB.out] at this;omega
     have g2:(k:Int) < 9:=by omega
     go_wp2
     go_loop [6,7] (zjF l k) (fun _ i=>(intOf i+1).toNat)
     case atStart=>exact ⟨k+1,by go_num,by omega,by simp [vsum]⟩
     case round =>
      obtain ⟨m,rfl,hm,rfl⟩:=hrel
      obtain ⟨X,hX⟩:∃ X:Nat,X=vsum (List.drop m (List.take (k+1) l)) % 18446744073709551616:=⟨_,rfl⟩
      rw [←hX]
      have hXb:(X:Int) < 18446744073709551616:=by omega
      by_cases hm0:m=0
      ·subst hm0
       have HX:=Lib.hid hX
       clear hX
       have hlt:Lies w (some ad) ((l.take (k+1)).map bv):=by rw [List.map_take];exact hl.take _
       have htl:(l.take (k+1)).length=k+1:=by rw [List.length_take];omega
       go_wp2
       refine wp_region_list [.is (.int .u64 (X:Int)),.bytes (vput X),.is (.string ⟨(vput X).toArray⟩),.is (.slice (some ad) n c),.is (.int .i64 (k:Int)),.is (.int .i64 ((k:Int)+1)),.is (.slice (some ad) (k+1) c),
        .is (.string ⟨(l.take (k+1)).toArray⟩),.is (.bool !(vput X == l.take (k+1)))] [some 43,some 44,some 45,some 46,some 47,some 48,some 49,some 50,some 51] (by kernel_rfl) (by kernel_rfl) (by kernel_rfl) rfl ⟨?_,?_,?_,?_,?_,?_,?_,?_,?_,trivial⟩ ?_
       ·intro ρ w1 hb1 H
        exact zd rfl (H.old 6 _ (by kernel_rfl) rfl) ⟨rfl,Below.refl _ _⟩
       ·intro ρ w1 hb1 H
        have e0:ρ (.tmp 43)=.int .u64 (X:Int):=H.new 43 0 (by kernel_rfl)
        refine zk rfl ztb (H.func _) (args:=#[.slice none 0 0,.int .u64 (X:Int)]) (by simp [H.const,e0]) ?_
        refine (zmv none 0 0 (X:Int) [] _ (by simp) rfl (by omega) Lies.nil (by omega) hXb).mono fun e w2 h=>?_
        exact h.isB
       ·intro ρ w1 hb1 H
        obtain ⟨A1,c1,e1,h1,h2,h3,h4⟩:IsB (vput X) (ρ (.tmp 44)) w1:=H.new 44 1 (by kernel_rfl)
        exact zK rfl e1 (run_text w1 _ _ _ Tryz.underlying38 Tryz.underlying5 Tryz.underlying9 A1 _ c1 _ rfl h4) ⟨rfl,Below.refl _ _⟩
       ·intro ρ w1 hb1 H
        exact zd rfl (H.old 0 _ (by kernel_rfl) rfl) ⟨rfl,Below.refl _ _⟩
       ·intro ρ w1 hb1 H
        exact zd rfl (H.old 5 _ (by kernel_rfl) rfl) ⟨rfl,Below.refl _ _⟩
       ·intro ρ w1 hb1 H
        exact zcd rfl (H.new 47 4 (by kernel_rfl)) (H.const _) (by omega) (by omega) ⟨rfl,Below.refl _ _⟩
       ·intro ρ w1 hb1 H
        exact zcH elemB rfl (H.new 46 3 (by kernel_rfl)) (h:=k+1) (H.new 48 5 (by kernel_rfl)) (by omega) ⟨rfl,Below.refl _ _⟩
       ·intro ρ w1 hb1 H
        exact zK rfl (H.new 49 6 (by kernel_rfl)) (run_text w1 _ _ _ Tryz.underlying38 Tryz.underlying5 Tryz.underlying9 _ _ _ _ htl (hlt.below hb1)) ⟨rfl,Below.refl _ _⟩
       ·intro ρ w1 hb1 H
        exact zcu rfl (H.new 45 2 (by kernel_rfl)) (H.new 50 7 (by kernel_rfl)) ⟨rfl,Below.refl _ _⟩
       ·intro vs w1 hb1 hfs
        have f8:vs 8=.bool !(vput X == l.take (k+1)):=hfs 8 (by decide)
        clear hfs
        generalize vs 0=v0 at *;generalize vs 1=v1 at *;generalize vs 2=v2 at *;generalize vs 3=v3 at *;generalize vs 4=v4 at *;generalize vs 5=v5 at *;generalize vs 6=v6 at *;generalize vs 7=v7 at *
        by_cases he:vput X=l.take (k+1)
        ·have hb8:(vput X == l.take (k+1))=true:=by simpa using he
         rw [hb8] at f8
         have HE:Hid (zbs l=some (X,l.drop (k+1))):=by
          show zbs l=_
          have h2:=HX.out
          rw [List.drop_zero] at h2
          have h1:=zhR (l:=l) (n:=k) (by rw [←h2];exact he)
          rw [h1,←h2]
         simp only [zr,f8,Bool.not_true,Act.put,List.setIfInBounds_toArray,List.set_cons_succ,List.set_cons_zero]
         clear he hb8 f8
         have hz1:=hb1.size
         have hbb:Below w.heap.size w (w1.alloc (.cells #[] 5)):=hb1.alloc hb1.size _
         have hown0:(w1.alloc (.cells #[] 5)).ownsRow w.heap.size 5 1 (.slice (some ⟨w1.heap.size,0,none⟩) 0 0) 0 []:=World.ownsRow_made w1 #[] 0 hb1.size (by unfold maxLen;omega) (by simp)
         have hdl:((l.drop (k+1)).map bv).length=n - (k+1):=by rw [List.length_map,List.length_drop,hn]
         have hlk:Lies (w1.alloc (.cells #[] 5)) (some ⟨ad.block,ad.off+(k+1),none⟩) ((l.drop (k+1)).map bv):=by rw [List.map_drop];exact (hl.drop_some k).below hbb
         have hzz:w.heap.size≤(w1.alloc (.cells #[] 5)).heap.size:=by simp;omega
         have HF:Hid (∀ (v:Value) (w2:World),w2.ownsRow w.heap.size 5 1 v (n - (k+1)) ((l.drop (k+1)).map bv)→Below w.heap.size w w2 →
           RetT .u64 w ((zbs l).map fun p=>((p.1:Int),p.2)) (.returned (.tuple #[.int .u64 (X:Int),v,.int .i64 0])) w2):=by
          show ∀ (v:Value) (w2:World),_
          intro v w2 hown hb
          obtain ⟨B,c',hB,h2,h3,h4,_,h6⟩:=zgs (w0:=w) hown hb
          injection hB with hB
          subst hB
          rw [HE.out]
          exact ⟨B,c',rfl,h2,h3,h4,⟨_,hown⟩,h6⟩
         by_cases hck:c=k+1
         ·obtain rfl:n=k+1:=by omega
          have hd0:(l.drop (k+1)).map bv=[]:=List.eq_nil_of_length_eq_zero (by omega)
          have HD:=Lib.hid hd0
          clear hd0 hdl
          go_wp2_with (at_builtin;refine zo elemB rfl _ _ rfl w.heap.size _ _ _ _ _ _ [] w rfl rfl (by simp) (by simp) Lies.nil (by simp) hown0 hbb hzz (by omega) (by omega) ?_)
          intro vv w2 hown2 hb2 _ _
          go_wp2
          go_ret3
          exact HF.out vv w2 (by rw [HD.out];simpa using hown2) hb2
         ·go_wp2_with (at_builtin;refine zo elemB rfl _ _ rfl w.heap.size _ _ _ _ _ _ ((l.drop (k+1)).map bv) w rfl rfl (by simp) hdl hlk (zcb _) hown0 hbb hzz (by omega) (by omega) ?_)
          intro vv w2 hown2 hb2 _ _
          go_wp2
          go_ret3
          exact HF.out vv w2 (by simpa using hown2) hb2
        ·have hb8:(vput X == l.take (k+1))=false:=by simpa using he
         rw [hb8] at f8
         have HE:Hid (zbs l=none):=by
          show zbs l=none
          refine zgH HS.out ?_
          have h2:=HX.out
          rw [List.drop_zero] at h2
          rw [←h2]
          exact he
         simp only [zr,f8,Bool.not_false,Act.put,List.setIfInBounds_toArray,List.set_cons_succ,List.set_cons_zero]
         clear he hb8 f8
         go_wp2
         go_ret3
         rw [HE.out]
         exact ⟨rfl,hb1⟩
      ·obtain ⟨m,rfl⟩:∃ j,m=j+1:=⟨m - 1,by omega⟩
       have hcut:=zmx l k m (by omega) (by omega)
       rw [←hX] at hcut
       obtain ⟨ad',had,_,hc'⟩:=hl.cell (k:=m) (by rw [List.length_map];omega)
       injection had with had
       subst had
       obtain ⟨b',hb'⟩:∃ b':Nat,b'=(l[m]'(by omega)).toNat:=⟨_,rfl⟩
       have hcb':w.cell? (ad.add m)=some (.int .u8 (b':Int)):=by rw [hc',List.getElem_map,hb'];rfl
       have hb256':b' < 256:=by rw [hb'];exact UInt8.toNat_lt _
       rw [←hb'] at hcut
       have HC:=Lib.hid hcut
       clear hcut hX hc' hb' hcb
       have hmn:(m:Int) < (n:Int):=by omega
       have hmi:((m+1:Nat):Int) - 1=(m:Int):=by omega
       rw [hmi]
       go_wp2
       go_round
       case rel =>
        refine ⟨m,rfl,by omega,?_⟩
        have h3:=HC.out
        rw [←h3]
        congr 1
       case measure=>simp [intOf]
   ·have g1:¬(k:Int) < (n:Int):=by omega
    have HE:=Lib.hid (zlj HS.out (by omega))
    go_wp2
    go_ret3
    rw [HE.out]
    exact ⟨rfl,Below.refl _ _⟩
def vint (x:Int) (s:Bool):Nat:=if s=true then (vzig x).toNat else (x % 18446744073709551616).toNat
def zbx (l:List UInt8) (s:Bool):Option (Int × List UInt8):=
 match zbs l,s with
 | none,_=>none
 | some p,true=>some (vzag (p.1:Int),p.2)
 | some p,false=>if 9223372036854775808≤(p.1:Int) then none else some ((p.1:Int),p.2)
theorem zfz {l:List UInt8} (s:Bool) (h:zbs l=none):zbx l s=none:=by unfold zbx;rw [h]
theorem zdj {l r:List UInt8} {u:Nat} (h:zbs l=some (u,r)):zbx l true=some (vzag (u:Int),r):=by unfold zbx;rw [h]
theorem zcO {l r:List UInt8} {u:Nat} (h:zbs l=some (u,r)) (hu:(u:Int) < 9223372036854775808):zbx l false=some ((u:Int),r):=by
 unfold zbx;rw [h];exact if_neg (by show ¬(9223372036854775808:Int)≤(u:Int);omega)
theorem zgK {l r:List UInt8} {u:Nat} (h:zbs l=some (u,r)) (hu:9223372036854775808≤(u:Int)):zbx l false=none:=by
 unfold zbx;rw [h];exact if_pos hu
theorem zhS (A:Option Addr) (n c:Nat) (x:Int) (s:Bool) (l:List UInt8) (w:World) (hA:A=none→n=0) (hn:l.length=n) (hnb:n≤1000000) (hl:Lies w A (l.map bv)) (h0 : -9223372036854775808≤x) (h1:x≤9223372036854775807) :
  Calls Tryz.prog 153 #[.slice A n c,.int .i64 x,.bool s] w (RetOwn w (l ++ vput (vint x s))):=by
 cases s with
 | true =>
  obtain ⟨hz0,hz1⟩:=zd5 h0 h1
  go_enter Tryz.func153,Tryz.ntmps153
  go_wp2_with (first | (go_at_call 165;refine (zlk _ _ h0 h1).mono ?_;rintro e w' ⟨rfl,rfl⟩) | (go_at_call 182;refine (zlm _ _ _ _ l _ hA hn hnb hl hz0 hz1).mono ?_;intro e w' h;obtain ⟨v,rfl,hv,hb⟩:=h;have HV:=Lib.hid hv;clear hv))
  go_ret
  exact ⟨_,rfl,HV.out,hb⟩
 | false =>
  have hw:IntKind.u64.wrap x=x % 18446744073709551616:=IntKind.wrap_u64 x
  have hu0:0≤x % 18446744073709551616:=by omega
  have hu1:x % 18446744073709551616 < 18446744073709551616:=by omega
  by_cases hx:0≤x
  ·have he:x % 18446744073709551616=x:=by omega
   have HE:=Lib.hid he
   clear he hu0 hu1 hw
   go_enter Tryz.func153,Tryz.ntmps153
   go_wp2_with (go_at_call 182;refine (zlm _ _ _ _ l _ hA hn hnb hl hx (by omega)).mono ?_;intro e w' h;obtain ⟨v,rfl,hv,hb⟩:=h;have HV:=Lib.hid hv;clear hv)
   go_ret
   unfold vint
   rw [if_neg (by decide),HE.out]
   exact ⟨_,rfl,HV.out,hb⟩
  ·have hx':x < 0:=by omega
   go_enter Tryz.func153,Tryz.ntmps153
   go_wp2_with (go_at_call 182;refine (zlm _ _ _ _ l _ hA hn hnb hl hu0 hu1).mono ?_;intro e w' h;obtain ⟨v,rfl,hv,hb⟩:=h;have HV:=Lib.hid hv;clear hv)
   go_ret
   exact ⟨_,rfl,HV.out,hb⟩
theorem znj (A:Option Addr) (n c:Nat) (x:Int) (s:Bool) (l:List UInt8) (w:World) (hA:A=none→n=0) (hn:l.length=n) (hnb:n≤1000000) (hl:Lies w A (l.map bv)) (h0 : -9223372036854775808≤x) (h1:x≤9223372036854775807) :
  Calls Tryz.prog 153 #[.slice A n c,.int .i64 x,.bool s] w (RetB w (l ++ vput (vint x s))):=(zhS A n c x s l w hA hn hnb hl h0 h1).mono fun _ _ h=>h.retB
theorem zlo (A:Option Addr) (n c:Nat) (s:Bool) (l:List UInt8) (w:World) (hA:A=none→n=0) (hn:l.length=n) (hnc:n≤c) (hnb:n≤1000000) (hl:Lies w A (l.map bv)) :
  Calls Tryz.prog 155 #[.slice A n c,.bool s] w (RetT .i64 w (zbx l s)):=by
 cases ht:zbs l with
 | none =>
  have hc:=zmw A n c l w hA hn hnc hnb hl
  rw [ht] at hc
  have HC:=Lib.hid hc
  have HT:=Lib.hid ht
  clear hc ht
  go_enter Tryz.func155,Tryz.ntmps155
  go_wp2_with (go_at_call 183;refine HC.out.mono ?_;rintro e w' ⟨rfl,hb⟩)
  go_ret3
  rw [zfz _ HT.out]
  exact ⟨rfl,hb⟩
 | some p =>
  obtain ⟨u,r⟩:=p
  have hu:=(zcj ht).2
  have hu0:(0:Int)≤(u:Int):=by omega
  have hu1:(u:Int) < 18446744073709551616:=by omega
  have hc:=zmw A n c l w hA hn hnc hnb hl
  rw [ht] at hc
  have ht':Option.map (fun p:Nat × List UInt8=>((p.1:Int),p.2)) (some (u,r))=some ((u:Int),r):=rfl
  rw [ht'] at hc
  obtain ⟨U,hU⟩:∃ U:Int,U=(u:Int):=⟨_,rfl⟩
  rw [←hU] at hc hu0 hu1
  have HU:=Lib.hid hU
  have HC:=Lib.hid hc
  have HT:=Lib.hid ht
  clear hc ht hu ht' hU
  cases s with
  | true =>
   go_enter Tryz.func155,Tryz.ntmps155
   go_wp2_with (first | (go_at_call 183;refine HC.out.mono ?_;rintro e w' ⟨A1,c1,rfl,h2⟩;have H2:=Lib.hid h2;clear h2) | (go_at_call 177;refine (zll _ _ hu0 hu1).mono ?_;rintro e w2 ⟨rfl,rfl⟩))
   go_ret3
   rw [zdj HT.out,←HU.out]
   exact ⟨A1,c1,rfl,H2.out⟩
  | false =>
   by_cases hbig:U < 9223372036854775808
   ·have hb2:¬(9223372036854775807:Int) < U:=by omega
    have hb3:¬(9223372036854775808:Int)≤U:=by omega
    go_enter Tryz.func155,Tryz.ntmps155
    go_wp2_with (go_at_call 183;refine HC.out.mono ?_;rintro e w' ⟨A1,c1,rfl,h2⟩;have H2:=Lib.hid h2;clear h2)
    go_ret3
    rw [zcO HT.out (by have:=HU.out;omega),←HU.out]
    exact ⟨A1,c1,rfl,H2.out⟩
   ·have hb2:(9223372036854775807:Int) < U:=by omega
    have hb3:(9223372036854775808:Int)≤U:=by omega
    go_enter Tryz.func155,Tryz.ntmps155
    go_wp2_with (go_at_call 183;refine HC.out.mono ?_;rintro e w' ⟨A1,c1,rfl,h2⟩;have H2:=Lib.hid h2;clear h2)
    go_ret3
    rw [zgK HT.out (by have:=HU.out;omega)]
    exact ⟨rfl,H2.out.2.2.2.2⟩
theorem zjH (A:Option Addr) (n c:Nat) (s:Bool) (l:List UInt8) (w:World) (hA:A=none→n=0) (hn:l.length=n) (hnc:n≤c) (hnb:n≤1000000) (hl:Lies w A (l.map bv)) :
  Calls Tryz.prog 100 #[.slice A n c,.bool s] w (RetT .i64 w (zbx l s)):=by
 cases ht:zbs l with
 | none =>
  have hc:=zjG A n c l w hA hn hnc hnb hl
  rw [ht] at hc
  have HC:=Lib.hid hc
  have HT:=Lib.hid ht
  clear hc ht
  go_enter Tryz.func100,Tryz.ntmps100
  go_wp2_with (go_at_call 118;refine HC.out.mono ?_;rintro e w' ⟨rfl,hb⟩)
  go_ret3
  rw [zfz _ HT.out]
  exact ⟨rfl,hb⟩
 | some p =>
  obtain ⟨u,r⟩:=p
  have hu:=(zcj ht).2
  have hu0:(0:Int)≤(u:Int):=by omega
  have hu1:(u:Int) < 18446744073709551616:=by omega
  have hc:=zjG A n c l w hA hn hnc hnb hl
  rw [ht] at hc
  have ht':Option.map (fun p:Nat × List UInt8=>((p.1:Int),p.2)) (some (u,r))=some ((u:Int),r):=rfl
  rw [ht'] at hc
  obtain ⟨U,hU⟩:∃ U:Int,U=(u:Int):=⟨_,rfl⟩
  rw [←hU] at hc hu0 hu1
  have HU:=Lib.hid hU
  have HC:=Lib.hid hc
  have HT:=Lib.hid ht
  clear hc ht hu ht' hU
  cases s with
  | true =>
   go_enter Tryz.func100,Tryz.ntmps100
   go_wp2_with (first | (go_at_call 118;refine HC.out.mono ?_;rintro e w' ⟨A1,c1,rfl,h2⟩;have H2:=Lib.hid h2;clear h2) | (go_at_call 119;refine (zmt _ _ hu0 hu1).mono ?_;rintro e w2 ⟨rfl,rfl⟩))
   go_ret3
   rw [zdj HT.out,←HU.out]
   exact ⟨A1,c1,rfl,H2.out⟩
  | false =>
   by_cases hbig:U < 9223372036854775808
   ·have hb2:¬(9223372036854775807:Int) < U:=by omega
    have hb3:¬(9223372036854775808:Int)≤U:=by omega
    go_enter Tryz.func100,Tryz.ntmps100
    go_wp2_with (go_at_call 118;refine HC.out.mono ?_;rintro e w' ⟨A1,c1,rfl,h2⟩;have H2:=Lib.hid h2;clear h2)
    go_ret3
    rw [zcO HT.out (by have:=HU.out;omega),←HU.out]
    exact ⟨A1,c1,rfl,H2.out⟩
   ·have hb2:(9223372036854775807:Int) < U:=by omega
    have hb3:(9223372036854775808:Int)≤U:=by omega
    go_enter Tryz.func100,Tryz.ntmps100
    go_wp2_with (go_at_call 118;refine HC.out.mono ?_;rintro e w' ⟨A1,c1,rfl,h2⟩;have H2:=Lib.hid h2;clear h2)
    go_ret3
    rw [zgK HT.out (by have:=HU.out;omega)]
    exact ⟨rfl,H2.out.2.2.2.2⟩
def zr8 (o:Option (Int × List UInt8)):Int:=match o with | none=>0 | some p=>p.1
def zr9 (o:Option (Int × List UInt8)):List UInt8:=match o with | none=>[] | some p=>p.2
def zsa (o:Option (Int × List UInt8)):Int:=match o with | none=>2 | some _=>0
theorem RetT.parts {k:IntKind} {w w':World} {o:Option (Int × List UInt8)} {e:Ending} (h:RetT k w o e w') :
  ∃ r,e=.returned (.tuple #[.int k (zr8 o),r,.int .i64 (zsa o)])∧IsB (zr9 o) r w'∧Below w.heap.size w w':=by
 cases o with
 | none=>exact ⟨_,h.1,zdz _,h.2⟩
 | some p =>
  obtain ⟨A,c,h1,h2,h3,h4,h5,h6⟩:=h
  exact ⟨_,h1,h5.isB,h6⟩
theorem RetT.owned {k:IntKind} {w w':World} {o:Option (Int × List UInt8)} {e:Ending} (h:RetT k w o e w') :
  ∃ r,e=.returned (.tuple #[.int k (zr8 o),r,.int .i64 (zsa o)])∧OwnB w (zr9 o) r w'∧Below w.heap.size w w':=by
 cases o with
 | none=>exact ⟨_,h.1,OwnB.nil _ _,h.2⟩
 | some p =>
  obtain ⟨A,c,h1,h2,h3,h4,h5,h6⟩:=h
  exact ⟨_,h1,h5,h6⟩
theorem zgL {l:List UInt8} {v:Value} {w:World} (s:Bool) (h:IsB l v w) (hl:l.length≤1000000):Calls Tryz.prog 155 #[v,.bool s] w (RetT .i64 w (zbx l s)):=by
 obtain ⟨A,c,rfl,h2,h3,h4,h5⟩:=h
 exact zlo A _ c s l w h2 rfl h3 hl h5
theorem zfV {l:List UInt8} {v:Value} {w:World} (s:Bool) (h:IsB l v w) (hl:l.length≤1000000):Calls Tryz.prog 100 #[v,.bool s] w (RetT .i64 w (zbx l s)):=by
 obtain ⟨A,c,rfl,h2,h3,h4,h5⟩:=h
 exact zjH A _ c s l w h2 rfl h3 hl h5
theorem zhT {l:List UInt8} {v:Value} {w:World} (x:Int) (s:Bool) (h:IsB l v w) (hl:l.length≤1000000) (h0 : -9223372036854775808≤x) (h1:x≤9223372036854775807) :
  Calls Tryz.prog 153 #[v,.int .i64 x,.bool s] w fun e w'=>∃ v,e=.returned v∧IsB (l ++ vput (vint x s)) v w'∧Below w.heap.size w w':=by
 obtain ⟨A,c,rfl,h2,h3,h4,h5⟩:=h
 exact (znj A _ c x s l w h2 rfl hl h5 h0 h1).mono fun _ _ h=>h.isB
theorem zhU {l:List UInt8} {v:Value} {w:World} (x:Int) (s:Bool) (h:IsB l v w) (hl:l.length≤1000000) (h0 : -9223372036854775808≤x) (h1:x≤9223372036854775807) :
  Calls Tryz.prog 153 #[v,.int .i64 x,.bool s] w (RetOwn w (l ++ vput (vint x s))):=by
 obtain ⟨A,c,rfl,h2,h3,h4,h5⟩:=h
 exact zhS A _ c x s l w h2 rfl hl h5 h0 h1
end Go.Proofs.YtblpkmmhmdpkjaaGreatDoor
namespace Go.Proofs.YtblpkmmhmdpkjaaGreatDoor
open Go.RowKit Go.ChangeShapes Go.WideShapes Go.ChangeAt
def IsV {α:Type} (f:α→Value) (l:List α) (v:Value) (w:World):Prop:=∃ A c,v=.slice A l.length c∧(A=none→l.length=0)∧l.length≤c∧c≤maxLen∧Lies w A (l.map f)
section
variable {α:Type} {f:α→Value} {l:List α} {v:Value} {w w':World}
theorem IsV.below (h:IsV f l v w) (hb:Below w.heap.size w w'):IsV f l v w':=by
 obtain ⟨A,c,h1,h2,h3,h4,h5⟩:=h
 exact ⟨A,c,h1,h2,h3,h4,h5.below hb⟩
theorem zgM (f:α→Value) (w:World):IsV f [] (.slice none 0 0) w:=⟨none,0,rfl,by simp,by simp,by unfold maxLen;omega,Lies.nil⟩
theorem zcB {g:Nat} {t:TypeId} {m:Nat} (h:Row w g t (l.map f)) (hl:l.length=m) (hm:m≤1000000):IsV f l (.slice (some ⟨g,0,none⟩) m m) w:=by
 subst hl
 exact ⟨_,_,rfl,by simp,Nat.le_refl _,by unfold maxLen;omega,by simpa using h.lies 0⟩
theorem zeF (f:α→Value) (w:World) (t:TypeId) (l:List α) (m:Nat) (hl:l.length=m) (hm:m≤1000000):IsV f l (.slice (some ⟨w.heap.size,0,none⟩) m m) (w.alloc (.cells (l.map f).toArray t)):=by
 have h:Row (w.alloc (.cells (l.map f).toArray t)) w.heap.size t (l.map f):=heap_alloc_new w _
 exact zcB h hl hm
theorem zbi {base:Nat} {e:TypeId} {n:Nat} (h:w.ownsRow base e 1 v n (l.map f)):IsV f l v w:=by
 obtain ⟨B,c,rfl,hnc,hcm,_,hl,hlen⟩:=zbd h
 rw [List.length_map] at hlen
 subst hlen
 refine ⟨B,c,rfl,?_,hnc,hcm,hl⟩
 intro hB
 subst hB
 rcases hl with hl | ⟨ad,h,_⟩
 ·simpa using hl
 ·cases h
theorem zsb {f:α→Value} (h:∀ x,(f x).oneCell'=true) (l:List α):∀ u∈l.map f,u.oneCell'=true:=by
 intro u hu
 obtain ⟨b,_,rfl⟩:=List.mem_map.1 hu
 exact h b
theorem IsV.cell (h:IsV f l v w) {k:Nat} (hk:k < l.length):∃ ad c,v=.slice (some ad) l.length c∧ad.block < w.heap.size∧w.cell? (ad.add k)=some (f l[k]):=by
 obtain ⟨A,c,h1,_,_,_,h5⟩:=h
 obtain ⟨ad,rfl,h2,h3⟩:=h5.cell (k:=k) (by rw [List.length_map];exact hk)
 exact ⟨ad,c,h1,h2,by rw [h3,List.getElem_map]⟩
theorem IsV.at {A:Option Addr} {n c:Nat} (h:IsV f l (.slice A n c) w) {k:Nat} (hk:k < l.length):∃ ad,A=some ad∧ad.block < w.heap.size∧w.cell? (ad.add k)=some (f l[k]):=by
 obtain ⟨ad,c',h1,h2,h3⟩:=h.cell hk
 injection h1 with h1 _ _
 exact ⟨ad,h1,h2,h3⟩
theorem IsV.len {A:Option Addr} {n c:Nat} (h:IsV f l (.slice A n c) w):n=l.length:=by
 obtain ⟨A',c',h1,_⟩:=h
 injection h1
theorem IsV.take {A:Option Addr} {n c:Nat} (h:IsV f l (.slice A n c) w) {k:Nat} (hk:k≤n):IsV f (l.take k) (.slice A k c) w:=by
 obtain ⟨A',c',h1,h2,h3,h4,h5⟩:=h
 injection h1 with e1 e2 e3
 subst e1 e2 e3
 have hl:(l.take k).length=k:=by rw [List.length_take];omega
 exact ⟨A,c,by rw [hl],fun h=>by have:=h2 h;omega,by rw [hl];omega,h4,by rw [List.map_take];exact h5.take k⟩
end
theorem IsV.parts {α:Type} {f:α→Value} {l:List α} {w:World} {A:Option Addr} {n c:Nat} (h:IsV f l (.slice A n c) w):l.length=n∧(A=none→n=0)∧n≤c∧c≤maxLen∧Lies w A (l.map f):=by
 obtain ⟨A',c',h1,h2,h3,h4,h5⟩:=h
 injection h1 with e1 e2 e3
 subst e1 e2 e3
 exact ⟨rfl,h2,h3,h4,h5⟩
theorem IsV.shape {α:Type} {f:α→Value} {l:List α} {v:Value} {w:World} (h:IsV f l v w):∃ A n c,v=.slice A n c:=by
 obtain ⟨A',c',h1,_⟩:=h
 exact ⟨_,_,_,h1⟩
theorem isB_iff {l:List UInt8} {v:Value} {w:World}:IsB l v w↔IsV bv l v w:=Iff.rfl
theorem zbp {P:Program} {α:Type} {f:α→Value} {w:World} {t e:TypeId} {bytes:Nat} {z:Value} (E:Elem P t e bytes z) {A:Option Addr} {n c k:Nat} {l:List α} (hk:k≤n) (hI:IsV f l (.slice A n c) w) :
  ∃ v,(∀ W,(Instr.sliceAt t (.slice A n c) (some (.int .i64 (k:Int))) none none).run P W=.ok v W)∧IsV f (l.drop k) v w:=by
 obtain ⟨hxs,hA,hnc,hcm,hl⟩:=hI.parts
 have ht:=E.under
 have he:P.elem t=e:=by simp [Program.elem,ht]
 refine ⟨.slice (if c=k then A else A.map (·.add k)) (n - k) (c - k),fun W=>?_,if c=k then A else A.map (·.add k),c - k,?_,?_,?_,by omega,?_⟩
 ·rw [run_sliceAt_slice W t _ _ _ _ (by rw [he];exact ht),run_slice_l W t A n c (by rw [he];exact ht) .i64 (k:Int) (by omega) (by omega),he,E.size_]
  simp [sliced]
 ·rw [List.length_drop,hxs]
 ·intro hB
  have:A=none:=by
   split at hB
   ·exact hB
   ·cases A with
    | none=>rfl
    | some ad=>simp at hB
  have:=hA this
  rw [List.length_drop,hxs]
  omega
 ·rw [List.length_drop,hxs];omega
 ·rw [List.map_drop];exact hl.drop (by rw [List.length_map];omega)
def iv (x:Int):Value:=.int .i64 x
def inInt (x:Int):Prop:=-9223372036854775808≤x∧x≤9223372036854775807
theorem Tryz.infoI:(Tryz.prog.info? 3).map (fun i=>(i.zero,i.size,i.bytes))=some (some (.int .i64 0),1,8):=by kernel_rfl
theorem zdk:Elem Tryz.prog 47 3 8 (.int .i64 0):=by
 obtain ⟨i0,hi,hz0,hz1,hz2⟩:=info_parts Tryz.infoI
 exact ⟨Tryz.underlying47,rfl,i0,hi,hz0,hz1,hz2⟩
end Go.Proofs.YtblpkmmhmdpkjaaGreatDoor
namespace Go.Proofs.YtblpkmmhmdpkjaaGreatDoor
def zN (u:Nat):Nat:=max 1 ((zY u+7) / 8)
theorem zdl (u:Nat):1≤zN u:=Nat.le_max_left _ _
theorem ze0 {u:Nat} (h:u < 2 ^ 64):zN u≤8:=by have:=zcE h;unfold zN;omega
theorem zlp {u:Nat} (h:u < 2 ^ 64):u < 256 ^ zN u:=by
 rw [p256]
 exact Nat.lt_of_lt_of_le (zdA h) (Nat.pow_le_pow_right (by omega) (by unfold zN;omega))
def zD (x:Int) (s:Bool):Option Nat:=if s then some (vzig x).toNat else if 0≤x then some x.toNat else none
def zbe (u:Nat) (s:Bool):Option Int:=if s then some (vzag (u:Int)) else if u < 9223372036854775808 then some (u:Int) else none
theorem zgN {x:Int} {s:Bool} {u:Nat} (h0 : -9223372036854775808≤x) (h1:x≤9223372036854775807) (h:zD x s=some u):u < 2 ^ 64:=by
 have:=zd5 h0 h1
 unfold zD at h
 cases s <;> simp at h
 ·omega
 ·omega
theorem zfW {x:Int} {s:Bool} {u:Nat} (h0 : -9223372036854775808≤x) (h1:x≤9223372036854775807) (h:zD x s=some u):zbe u s=some x:=by
 have hb:=zd5 h0 h1
 unfold zD at h
 unfold zbe
 cases s with
 | true =>
  simp at h
  rw [if_pos rfl,←h,show (((vzig x).toNat:Nat):Int)=vzig x by omega,zjE]
 | false =>
  simp at h
  rw [if_neg (by simp),if_pos (by omega)]
  congr 1
  omega
theorem zjI {x:Int} {s:Bool} {u:Nat} (h:zbe u s=some x):zD x s=some u:=by
 unfold zbe at h
 unfold zD
 cases s with
 | true =>
  simp at h
  rw [if_pos rfl,←h,zoY (by omega)]
  simp
 | false =>
  simp at h
  rw [if_neg (by simp),if_pos (by omega)]
  congr 1
  omega
theorem zq5 {x:Int} {s:Bool} {u:Nat} (hu:u < 2 ^ 64) (h:zbe u s=some x) : -9223372036854775808≤x∧x≤9223372036854775807:=by
 unfold zbe at h
 cases s with
 | true=>simp at h;have:=zoX (u:=(u:Int)) (by omega) (by omega);omega
 | false=>simp at h;omega
def elay (u t:Nat):List UInt8:=UInt8.ofNat (8*(zN u - 1)+(t - 3))::be (zN u) u
theorem zgf (u t:Nat):(elay u t).length=zN u+1:=by simp [elay,zcv]
def eput (x t:Int) (s:Bool):List UInt8 × Int:=
 if t < 3∨10 < t then ([],1) else match zD x s with | none=>([],1) | some u=>(elay u t.toNat,0)
def zC (l:List UInt8) (s:Bool):Int × Int × List UInt8 × Int:=
 match l with
 | []=>(0,0,[],2)
 | b::r =>
  if 64≤b.toNat then (0,0,[],2)
  else if r.length < b.toNat / 8+1 then (0,0,[],2)
  else if zN (bval (r.take (b.toNat / 8+1)))≠b.toNat / 8+1 then (0,0,[],2)
  else match zbe (bval (r.take (b.toNat / 8+1))) s with
   | none=>(0,0,[],2)
   | some x=>(x,((b.toNat % 8+3:Nat):Int),r.drop (b.toNat / 8+1),0)
theorem znk {u t:Nat} {x:Int} {s:Bool} (hu:u < 2 ^ 64) (h3:3≤t) (h10:t≤10) (hx:zbe u s=some x) (b:List UInt8):zC (elay u t ++ b) s=(x,(t:Int),b,0):=by
 have h1:=zdl u
 have h8:=ze0 hu
 have hr:=zlp hu
 have hc:(UInt8.ofNat (8*(zN u - 1)+(t - 3))).toNat=8*(zN u - 1)+(t - 3):=by rw [UInt8.toNat_ofNat'];omega
 have hd:(8*(zN u - 1)+(t - 3)) / 8+1=zN u:=by omega
 have hm:(8*(zN u - 1)+(t - 3)) % 8+3=t:=by omega
 have hl:=zcv (zN u) u
 have ht:(be (zN u) u ++ b).take (zN u)=be (zN u) u:=by
  conv=>lhs;rw [show zN u=(be (zN u) u).length from hl.symm]
  rw [hl]
  conv=>lhs;arg 1;rw [←hl]
  simp
 have hv:bval (be (zN u) u)=u:=by rw [zfu,Nat.mod_eq_of_lt hr]
 have hdr:(be (zN u) u ++ b).drop (zN u)=b:=by
  have:=List.drop_left (l₁:=be (zN u) u) (l₂:=b)
  rwa [hl] at this
 unfold elay zC
 rw [List.cons_append]
 simp only [hc,hd,hm]
 rw [if_neg (by omega),if_neg (by rw [List.length_append,hl];omega),ht,hv,if_neg (by simp),hx]
 simp only [hdr]
end Go.Proofs.YtblpkmmhmdpkjaaGreatDoor
namespace Go.Proofs.YtblpkmmhmdpkjaaGreatDoor
open Go.RowKit
theorem zlq (x:Int) (s:Bool) (w:World) (h0 : -9223372036854775808≤x) (h1:x≤9223372036854775807) :
  Calls Tryz.prog 72 #[.int .i64 x,.bool s] w fun e w'=>e=.returned (.tuple #[.int .u64 (((zD x s).getD 0:Nat):Int),.bool (zD x s).isSome])∧w=w':=by
 cases s with
 | true =>
  have hE:=Lib.hid (show zD x true=some (vzig x).toNat by unfold zD;rw [if_pos rfl])
  have hb:=Lib.hid (zd5 h0 h1)
  go_enter Tryz.func72,Tryz.ntmps72
  go_wp2_with (go_at_call 108;refine (zq2 x _ h0 h1).mono ?_;rintro e w' ⟨rfl,rfl⟩)
  go_ret2
  rw [hE.out]
  exact ⟨by rw [Option.getD_some,Option.isSome_some,Int.toNat_of_nonneg hb.out.1];rfl,rfl⟩
 | false =>
  by_cases hx:0≤x
  ·have hE:=Lib.hid (show zD x false=some x.toNat by unfold zD;rw [if_neg (by simp),if_pos hx])
   have d:decide (0≤x)=true:=decide_eq_true hx
   have hm:∀ (ts:Array TypeId) (t:TypeId) (W:World),(Builtin.max_ ts t #[.int .i64 x,.int .i64 0]).run Tryz.prog W=.ok (.int .i64 x) W:=fun ts t W=>by
    rw [run_max_int2]
    congr 2
    split <;> omega
   go_enter Tryz.func72,Tryz.ntmps72
   go_wp2
   go_ret2
   rw [hE.out]
   exact ⟨by rw [Option.getD_some,Option.isSome_some,Int.toNat_of_nonneg hx];rfl,rfl⟩
  ·have hE:=Lib.hid (show zD x false=none by unfold zD;rw [if_neg (by simp),if_neg hx])
   have d:decide (0≤x)=false:=decide_eq_false hx
   have hm:∀ (ts:Array TypeId) (t:TypeId) (W:World),(Builtin.max_ ts t #[.int .i64 x,.int .i64 0]).run Tryz.prog W=.ok (.int .i64 0) W:=fun ts t W=>by
    rw [run_max_int2]
    congr 2
    split <;> omega
   go_enter Tryz.func72,Tryz.ntmps72
   go_wp2
   go_ret2
   rw [hE.out]
   exact ⟨rfl,rfl⟩
theorem zhV (u:Nat):zbe u true=some (vzag (u:Int)):=by unfold zbe;rw [if_pos rfl]
theorem zjJ {U:Int} (h0:0≤U) (h:U < 9223372036854775808):zbe U.toNat false=some U:=by unfold zbe;rw [if_neg (by simp),if_pos (by omega),Int.toNat_of_nonneg h0]
theorem zhW {U:Int} (h:9223372036854775808≤U):zbe U.toNat false=none:=by unfold zbe;rw [if_neg (by simp),if_neg (by omega)]
theorem zhX (U:Int) (s:Bool) (w:World) (h0:0≤U) (h1:U < 18446744073709551616) :
  Calls Tryz.prog 101 #[.int .u64 U,.bool s] w fun e w'=>e=.returned (.tuple #[.int .i64 ((zbe U.toNat s).getD 0),.bool (zbe U.toNat s).isSome])∧w=w':=by
 cases s with
 | true =>
  have hE:=Lib.hid (zhV U.toNat)
  go_enter Tryz.func101,Tryz.ntmps101
  go_wp2_with (go_at_call 119;refine (zmt U _ h0 h1).mono ?_;rintro e w' ⟨rfl,rfl⟩)
  go_ret2
  rw [hE.out,Int.toNat_of_nonneg h0]
  exact ⟨rfl,rfl⟩
 | false =>
  by_cases hx:U < 9223372036854775808
  ·have hE:=Lib.hid (zjJ h0 hx)
   have hd:¬(9223372036854775808:Int)≤U:=by omega
   go_enter Tryz.func101,Tryz.ntmps101
   go_wp2
   go_ret2
   rw [hE.out]
   exact ⟨rfl,rfl⟩
  ·have hE:=Lib.hid (zhW (U:=U) (by omega))
   have hd:(9223372036854775808:Int)≤U:=by omega
   go_enter Tryz.func101,Tryz.ntmps101
   go_wp2
   go_ret2
   rw [hE.out]
   exact ⟨rfl,rfl⟩
theorem zd6 {y:Nat} (h:y < 256):Value.int .u8 (y:Int)=bv (UInt8.ofNat y):=by unfold bv;congr 1;simp;omega
theorem zgO (w:World) (e:TypeId) (u:Value) {base:Nat} (hb:base≤w.heap.size):(w.alloc (.cells #[u] e)).ownsRow base e 1 (.slice (some ⟨w.heap.size,0,none⟩) 1 1) 1 [u]:=
 ⟨by simp,.inr ⟨w.heap.size,1,#[u],rfl,hb,heap_alloc_new w _,Nat.le_refl _,by unfold maxLen;omega,by simp,by simp⟩⟩
theorem zek {x t:Int} {s:Bool} (h:t < 3∨10 < t):eput x t s=([],1):=by unfold eput;rw [if_pos h]
theorem zmy {x t:Int} {s:Bool} (h:zD x s=none):eput x t s=([],1):=by unfold eput;split <;> simp [h]
theorem ziM {x:Int} {t u:Nat} {s:Bool} (h3:3≤t) (h10:t≤10) (h:zD x s=some u):eput x t s=(elay u t,0):=by
 unfold eput
 rw [if_neg (by omega),h,Int.toNat_natCast]
def zq6 (l:List UInt8) (n u:Nat) (w:World) (v i:Value) (wr:World):Prop:=
 ∃ (k:Nat) (m:List UInt8),k≤n∧i=.int .i64 ((k:Int) - 1)∧m ++ be k u=l∧wr.ownsRow w.heap.size 5 1 v m.length (m.map bv)∧Below w.heap.size w wr
theorem zo0 (x t:Int) (s:Bool) (w:World) (h0 : -9223372036854775808≤x) (h1:x≤9223372036854775807) :
  Calls Tryz.prog 51 #[.int .i64 x,.int .i64 t,.bool s] w (RetE w (eput x t s)):=by
 have HP:=Lib.hid (fun W=>zlq x s W h0 h1)
 have hu64:(zD x s).getD 0 < 2 ^ 64:=by
  cases he:zD x s with
  | none=>simp
  | some u=>exact zgN h0 h1 he
 obtain ⟨u,hu⟩:∃ u,u=(zD x s).getD 0:=⟨_,rfl⟩
 obtain ⟨ok,hok⟩:∃ ok,ok=(zD x s).isSome:=⟨_,rfl⟩
 rw [←hu,←hok] at HP
 rw [←hu] at hu64
 by_cases ht:t < 3
 ·have hE:=Lib.hid (zek (x:=x) (s:=s) (.inl ht))
  have d1:decide (t < 3)=true:=decide_eq_true ht
  clear hu hok hu64
  go_enter Tryz.func51,Tryz.ntmps51
  go_wp2_with (go_at_call 72;refine (HP.out _).mono ?_;rintro e w' ⟨rfl,rfl⟩)
  go_ret2
  rw [hE.out]
  exact RetE.nil _ (Below.refl _ _)
 ·have d1:decide (t < 3)=false:=decide_eq_false ht
  by_cases ht2:10 < t
  ·have hE:=Lib.hid (zek (x:=x) (s:=s) (.inr ht2))
   have d2:decide (10 < t)=true:=decide_eq_true ht2
   clear hu hok hu64
   go_enter Tryz.func51,Tryz.ntmps51
   go_wp2_with (go_at_call 72;refine (HP.out _).mono ?_;rintro e w' ⟨rfl,rfl⟩)
   go_ret2
   rw [hE.out]
   exact RetE.nil _ (Below.refl _ _)
  ·have d2:decide (10 < t)=false:=decide_eq_false ht2
   cases ok with
   | false =>
    have hE:=Lib.hid (zmy (x:=x) (s:=s) (t:=t) (by simpa using hok.symm))
    clear hu hok hu64
    go_enter Tryz.func51,Tryz.ntmps51
    go_wp2_with (go_at_call 72;refine (HP.out _).mono ?_;rintro e w' ⟨rfl,rfl⟩)
    go_ret2
    rw [hE.out]
    exact RetE.nil _ (Below.refl _ _)
   | true =>
    obtain ⟨T,rfl⟩:=Int.eq_ofNat_of_zero_le (show 0≤t by omega)
    have hsome:zD x s=some u:=by
     cases he:zD x s with
     | none=>rw [he] at hok;simp at hok
     | some u'=>rw [he] at hu;simp at hu;rw [hu]
    have hE:=Lib.hid (ziM (t:=T) (by omega) (by omega) hsome)
    obtain ⟨b,hb⟩:∃ b,b=zY u:=⟨_,rfl⟩
    have hb64:b≤64:=by rw [hb];exact zcE hu64
    obtain ⟨n,hn⟩:∃ n,n=zN u:=⟨_,rfl⟩
    have hn1:1≤n:=by rw [hn];exact zdl u
    have hn8:n≤8:=by rw [hn];exact ze0 hu64
    have hnb:n=max 1 ((b+7) / 8):=by rw [hn,hb];rfl
    obtain ⟨c0,hc0⟩:∃ c0,c0=8*(n - 1)+(T - 3):=⟨_,rfl⟩
    have hc64:c0 < 64:=by omega
    obtain ⟨q,hq⟩:∃ q:Nat,q=(b+7) / 8:=⟨_,rfl⟩
    have hqi:((b:Int)+7) / 8=(q:Int):=by omega
    have hm:∀ (ts:Array TypeId) (t:TypeId) (W:World),(Builtin.max_ ts t #[.int .i64 1,.int .i64 (q:Int)]).run Tryz.prog W=.ok (.int .i64 (n:Int)) W:=fun ts t W=>by
     rw [run_max_int2]
     congr 2
     split <;> omega
    have hci:8*((n:Int) - 1)+(T:Int) - 3=(c0:Int):=by omega
    have HB:=Lib.hid (fun W=>zju u W hu64)
    rw [←hb] at HB
    have HL:=Lib.hid (show elay u T=UInt8.ofNat c0::be n u by unfold elay;rw [←hn,←hc0])
    have HU:=Lib.hid hu64
    clear hu hok hu64 hb hn hnb hc0 hq
    go_enter Tryz.func51,Tryz.ntmps51
    go_wp2_with (first | (go_at_call 72;refine (HP.out _).mono ?_;rintro e w' ⟨rfl,rfl⟩) | (go_at_call 73;refine (HB.out _).mono ?_;rintro e w' ⟨rfl,rfl⟩))
    go_loopw [11,12] (zq6 (elay u T) n u w) (fun _ i _=>(intOf i+1).toNat)
    case atStart =>
     refine ⟨n,[UInt8.ofNat c0],Nat.le_refl _,rfl,by rw [HL.out];rfl,?_,(Below.refl _ _).alloc (Nat.le_refl _) _⟩
     have h1:=zgO w 5 (.int .u8 (c0:Int)) (Nat.le_refl _)
     rw [zd6 (by omega)] at h1 ⊢
     exact h1
    case round =>
     obtain ⟨k,m,hk,rfl,hm',hown,hbw⟩:=hrel
     have HM:=Lib.hid hm'
     have hz:=hbw.size
     have hlen:m.length≤9:=by
      have:=congrArg List.length hm'
      rw [HL.out,List.length_append,List.length_cons,zcv,zcv] at this
      omega
     clear hm' hqi hm hci
     cases k with
     | zero =>
      go_wp2
      go_ret2
      have h2:=HM.out
      rw [be,List.append_nil] at h2
      rw [hE.out,←h2]
      exact ⟨_,rfl,zcz hown,hbw⟩
     | succ j =>
      obtain ⟨y,hy⟩:∃ y,y=u / 256 ^ j:=⟨_,rfl⟩
      obtain ⟨d,hd⟩:∃ d,d=8*j:=⟨_,rfl⟩
      have hdi:8*(j:Int)=(d:Int):=by omega
      have hd64:d≤64:=by omega
      have hyi:(u:Int) / 2 ^ d=(y:Int):=by
       rw [hy,p256,←hd];simp
      obtain ⟨z,hz'⟩:∃ z,z=y % 256:=⟨_,rfl⟩
      have hz256:z < 256:=by omega
      have hzi:(y:Int) % 256=(z:Int):=by omega
      have hzw:IntKind.u8.wrap (y:Int)=(z:Int):=by rw [IntKind.wrap_u8];omega
      have hji:((j+1:Nat):Int) - 1=(j:Int):=by omega
      have hbe:=Lib.hid (show be (j+1) u=UInt8.ofNat z::be j u by rw [be,hz',hy])
      clear hy hd hz'
      rw [hji]
      go_wp2_with (at_builtin;refine zX elemB rfl _ _ rfl w.heap.size _ _ _ (.int .u8 (z:Int)) wr w rfl rfl rfl rfl hown hbw hz (by omega) (by omega) ?_)
      intro v5 w5 hown5 hb5 _ _
      rw [zd6 (by omega)] at hown5
      go_wp2
      go_roundw
      case rel =>
       refine ⟨j,m ++ [UInt8.ofNat z],by omega,rfl,?_,by simpa using hown5,hb5⟩
       have h2:=HM.out
       rw [hbe.out] at h2
       rw [←h2]
       simp
      case measure=>simp [intOf]
theorem zV {fn:Func} {t u v x:Tmp} (h:fn.results = #[.tmp t,.tmp u,.tmp v,.tmp x]) (tmps:Array Value) (P:Program) (w:World) :
  (results fn tmps).run P w=.ok (.tuple #[tmps.getD t undef,tmps.getD u undef,tmps.getD v undef,tmps.getD x undef]) w:=by
 simp [results,h]
theorem zgP {P:Program} {o:Oper} {ρ:Operand→Value} {w:World} {R:Value→World→Prop} {t:TypeId} {x:Operand} {b:Bool} (ho:o.op=.unOp .not t x) (hx:ρ x=.bool b) (hR:R (.bool !b) w):zba P o ρ w R:=by
 refine zq (v:=.bool !b) (w':=w) ?_ hR
 simp [execOp,ho,hx,go_sem]
def RetT7 (w:World) (p:Int × Int × List UInt8 × Int) (e:Ending) (w':World):Prop:=
 ∃ v,e=.returned (.tuple #[.int .i64 p.1,.int .i64 p.2.1,v,.int .i64 p.2.2.2])∧IsB p.2.2.1 v w'∧Below w.heap.size w w'
theorem RetT7.no {w w':World} (hb:Below w.heap.size w w'):RetT7 w (0,0,[],2) (.returned (.tuple #[.int .i64 0,.int .i64 0,.slice none 0 0,.int .i64 2])) w':=⟨_,rfl,zdz _,hb⟩
def RetT7O (w:World) (p:Int × Int × List UInt8 × Int) (e:Ending) (w':World):Prop:=
 ∃ v,e=.returned (.tuple #[.int .i64 p.1,.int .i64 p.2.1,v,.int .i64 p.2.2.2])∧OwnB w p.2.2.1 v w'∧Below w.heap.size w w'
theorem RetT7O.no {w w':World} (hb:Below w.heap.size w w'):RetT7O w (0,0,[],2) (.returned (.tuple #[.int .i64 0,.int .i64 0,.slice none 0 0,.int .i64 2])) w':=⟨_,rfl,OwnB.nil _ _,hb⟩
theorem zjK (s:Bool):zC [] s=(0,0,[],2):=rfl
theorem zjL {l:List UInt8} {s:Bool} (h0:0 < l.length) (h:64≤l[0].toNat):zC l s=(0,0,[],2):=by
 cases l with
 | nil=>simp at h0
 | cons b r=>simp at h;unfold zC;simp only [];rw [if_pos h]
theorem zgQ {l:List UInt8} {s:Bool} {K:Nat} (h0:0 < l.length) (hK:K=l[0].toNat / 8+1) (h:l.length < K+1):zC l s=(0,0,[],2):=by
 cases l with
 | nil=>simp at h0
 | cons b r =>
  simp at hK h
  unfold zC;simp only []
  rw [←hK]
  split
  ·rfl
  ·first | rfl | rw [if_pos (by omega)]
theorem zfA {l:List UInt8} {s:Bool} {K u:Nat} (h0:0 < l.length) (hK:K=l[0].toNat / 8+1) (hu:u=bval ((l.drop 1).take K)) (h:zbe u s=none∨zN u≠K):zC l s=(0,0,[],2):=by
 cases l with
 | nil=>simp at h0
 | cons b r =>
  simp at hK hu
  unfold zC;simp only []
  rw [←hK,←hu]
  split
  ·rfl
  split
  ·rfl
  split
  ·rfl
  ·rename_i h3
   rcases h with h | h
   ·rw [h]
   ·exact absurd h h3
theorem zhY {l:List UInt8} {s:Bool} {K u:Nat} {x:Int} (h0:0 < l.length) (hK:K=l[0].toNat / 8+1) (h64:l[0].toNat < 64) (hl:K+1≤l.length) (hu:u=bval ((l.drop 1).take K)) (h:zbe u s=some x) (hb:zN u=K) :
  zC l s=(x,((l[0].toNat % 8+3:Nat):Int),l.drop (K+1),0):=by
 cases l with
 | nil=>simp at h0
 | cons b r =>
  simp at hK hu hl h64
  unfold zC;simp only []
  rw [←hK,←hu,if_neg (by omega),if_neg (by omega),if_neg (by omega),h]
  simp
theorem zjM {l:List UInt8} {K u T:Nat} (h0:0 < l.length) (hK:K=l[0].toNat / 8+1) (hT:T=l[0].toNat % 8+3) (hl:K+1≤l.length) (hu:u=bval ((l.drop 1).take K)):elay u T=l.take (K+1)↔zN u=K:=by
 cases l with
 | nil=>simp at h0
 | cons b r =>
  simp at hK hu hl hT
  rw [List.take_succ_cons]
  constructor
  ·intro h
   have h1:=congrArg List.length h
   rw [zgf,List.length_cons,List.length_take] at h1
   omega
  ·intro h
   unfold elay
   rw [h,show 8*(K - 1)+(T - 3)=b.toNat by omega,UInt8.ofNat_toNat]
   congr 1
   exact (zoH (by rw [List.length_take];omega) hu.symm).symm
theorem zo1 (r:List UInt8) (k:Nat) (h:k < r.length):bval (r.take (k+1))=256*bval (r.take k)+r[k].toNat:=by
 rw [List.take_succ_eq_append_getElem h,zgD]
 simp [bval]
 omega
theorem zhZ (r:List UInt8) {k:Nat} (h:k≤7):((bval (r.take k):Nat):Int) < 72057594037927936:=by
 have h1:=zda (r.take k)
 have h2:256 ^ (r.take k).length≤256 ^ 7:=Nat.pow_le_pow_right (by omega) (by rw [List.length_take];omega)
 omega
theorem zh0 (r:List UInt8) {k:Nat} (h:k≤8):bval (r.take k) < 2 ^ 64:=by
 have h1:=zda (r.take k)
 have h2:256 ^ (r.take k).length≤256 ^ 8:=Nat.pow_le_pow_right (by omega) (by rw [List.length_take];omega)
 omega
def zo2 (r:List UInt8) (K:Nat) (v i:Value):Prop:=∃ (k:Nat) (U:Int),k≤K∧i=.int .i64 (k:Int)∧v=.int .u64 U∧U=((bval (r.take k):Nat):Int)
theorem znl (l:List UInt8) (v:Value) (s:Bool) (w:World) (hv:IsB l v w) (hb:l.length≤1000000) :
  Calls Tryz.prog 66 #[v,.bool s] w (RetT7O w (zC l s)):=by
 have HV:=Lib.hid hv
 obtain ⟨A,c,rfl,hA,hnc,hcm,hl⟩:=hv
 obtain ⟨n,hn⟩:∃ n,n=l.length:=⟨_,rfl⟩
 rw [←hn] at hA hnc hb HV ⊢
 have hci:(c:Int)≤9223372036854775807:=by unfold maxLen at hcm;omega
 have HN:=Lib.hid hn
 by_cases h0:n=0
 ·subst h0
  obtain rfl:l=[]:=List.eq_nil_of_length_eq_zero hn.symm
  have hE:=Lib.hid (zjK s)
  clear hn hl hcm hA hnc
  go_enter Tryz.func66,Tryz.ntmps66
  go_wp2
  try simp only [Exit.inBlock,Exit.then]
  refine bodyPost_ret (zV rfl _ _ _) rfl ?_
  rw [hE.out]
  exact RetT7O.no (Below.refl _ _)
 ·have h0i:((n:Int) == 0)=false:=by simp;omega
  have h0l:0 < l.length:=by omega
  obtain ⟨ad,rfl,hadlt,hcell⟩:=hl.cell (k:=0) (by rw [List.length_map];exact h0l)
  obtain ⟨B,hB⟩:∃ B:Nat,B=l[0].toNat:=⟨_,rfl⟩
  have hB8:B < 256:=by rw [hB];exact UInt8.toNat_lt _
  have hc0:w.cell? ad=some (.int .u8 (B:Int)):=by
   have h1:ad.add 0=ad:=by unfold Addr.add;split <;> simp_all
   rw [←h1,hcell,List.getElem_map,hB];rfl
  have HB:=Lib.hid hB
  have hn0:(0:Int) < (n:Int):=by omega
  clear hcell hB
  by_cases h64:64≤B
  ·have h64i:(64:Int)≤(B:Int):=by omega
   have hE:=Lib.hid (zjL (s:=s) h0l (by rw [←HB.out];exact h64))
   clear hn hl hcm hA
   go_enter Tryz.func66,Tryz.ntmps66
   go_wp2
   try simp only [Exit.inBlock,Exit.then]
   refine bodyPost_ret (zV rfl _ _ _) rfl ?_
   rw [hE.out]
   exact RetT7O.no (Below.refl _ _)
  ·have h64i:¬(64:Int)≤(B:Int):=by omega
   obtain ⟨K,hK⟩:∃ K,K=B / 8+1:=⟨_,rfl⟩
   obtain ⟨T,hT⟩:∃ T,T=B % 8+3:=⟨_,rfl⟩
   have hKi:(B:Int) / 8+1=(K:Int):=by omega
   have hTi:(B:Int) % 8+3=(T:Int):=by omega
   have hK8:K≤8:=by omega
   have hK1:1≤K:=by omega
   have hT10:T≤10:=by omega
   have hT3:3≤T:=by omega
   have HK:=Lib.hid (show K=l[0].toNat / 8+1 by rw [←HB.out];exact hK)
   have HT:=Lib.hid (show T=l[0].toNat % 8+3 by rw [←HB.out];exact hT)
   by_cases hs:n < K+1
   ·have hsi:(n:Int) < (K:Int)+1:=by omega
    have hE:=Lib.hid (zgQ (s:=s) h0l HK.out (by rw [←HN.out];exact hs))
    clear hn hl hcm hA hK hT
    go_enter Tryz.func66,Tryz.ntmps66
    go_wp2
    try simp only [Exit.inBlock,Exit.then]
    refine bodyPost_ret (zV rfl _ _ _) rfl ?_
    rw [hE.out]
    exact RetT7O.no (Below.refl _ _)
   ·have hsi:¬(n:Int) < (K:Int)+1:=by omega
    have HLi:=Lib.hid hl
    have HF:=Lib.hid fun (W:World) (h:Below w.heap.size w W)=>zbr (P:=Tryz.prog) elemB (k:=K+1) (by omega) hnc hcm hn.symm (hl.below h) hA
    have HI:Hid (IsB (l.take (K+1)) (.slice (some ad) (K+1) c) w):=Lib.hid ⟨some ad,c,by rw [List.length_take,←hn];congr 1;omega,fun h=>by simp at h,by rw [List.length_take];omega,hcm,by rw [List.map_take];exact hl.take _⟩
    clear hn hl hcm hA hK hT
    go_enter Tryz.func66,Tryz.ntmps66
    go_wp2
    go_loop [10,11] (zo2 (l.drop 1) K) (fun _ i=>K - (intOf i).toNat)
    case atStart=>exact ⟨0,0,by omega,rfl,rfl,by simp [bval]⟩
    case round =>
     obtain ⟨k,U,hk,rfl,rfl,hU⟩:=hrel
     have HU:=Lib.hid hU
     clear hKi hTi
     by_cases hlt:k < K
     ·have hU0:0≤U:=by omega
      have hU7:U < 72057594037927936:=by rw [hU];exact zhZ _ (by omega)
      have hkl:k+1 < l.length:=by have:=HN.out;omega
      obtain ⟨_,hAd,_,hcell⟩:=HLi.out.cell (k:=k+1) (by rw [List.length_map];exact hkl)
      injection hAd with hAd
      subst hAd
      obtain ⟨y,hy⟩:∃ y:Nat,y=l[k+1].toNat:=⟨_,rfl⟩
      have hy8:y < 256:=by rw [hy];exact UInt8.toNat_lt _
      have hcy:w.cell? (ad.add (k+1))=some (.int .u8 (y:Int)):=by rw [hcell,List.getElem_map,hy];rfl
      have hkn:(k:Int)+1 < (n:Int):=by omega
      have hcy2:w.cell? ⟨ad.block,ad.off+(k+1),none⟩=some (.int .u8 (y:Int)):=by simpa [Addr.add] using hcy
      have HY:=Lib.hid hy
      clear hcell hy hU
      go_wp2
      go_round
      case rel =>
       refine ⟨k+1,256*U+y,by omega,by go_num,rfl,?_⟩
       rw [zo1 _ _ (by rw [List.length_drop];omega),List.getElem_drop,HU.out,HY.out]
       simp [Nat.add_comm]
      case measure=>simp [intOf];omega
     ·obtain rfl:K=k:=by omega
      obtain ⟨u,hu⟩:∃ u,u=bval ((l.drop 1).take K):=⟨_,rfl⟩
      have hu64:u < 2 ^ 64:=by rw [hu];exact zh0 _ hK8
      rw [←hu] at hU
      have HMd:=Lib.hid fun W=>zhX U s W (by omega) (by omega)
      rw [show U.toNat=u by omega] at HMd
      obtain ⟨X,hX⟩:∃ X,X=(zbe u s).getD 0:=⟨_,rfl⟩
      obtain ⟨ok,hok⟩:∃ ok,ok=(zbe u s).isSome:=⟨_,rfl⟩
      rw [←hX,←hok] at HMd
      have hXb : -9223372036854775808≤X∧X≤9223372036854775807:=by
       cases he:zbe u s with
       | none=>rw [hX,he];simp
       | some x=>rw [hX,he];exact zq5 hu64 he
      have HPt:=Lib.hid fun W=>zo0 X T s W hXb.1 hXb.2
      have hKl:K+1≤l.length:=by have:=HN.out;omega
      cases ok with
      | false =>
       have hE:=Lib.hid (zfA (s:=s) h0l HK.out hu (.inl (by simpa using hok.symm)))
       obtain ⟨p,hp⟩:∃ p,p=eput X T s:=⟨_,rfl⟩
       rw [←hp] at HPt
       obtain ⟨p1,p2⟩:=p
       clear hp hok hX hu hU HU hu64 hXb hKl
       go_wp2_with (go_at_call 101;refine (HMd.out _).mono ?_;rintro e w' ⟨rfl,rfl⟩)
       refine (HPt.out _).mono ?_
       rintro e w1 ⟨vc,rfl,hvc,hbw⟩
       have HVC:=Lib.hid hvc
       clear hvc
       go_wp2
       refine wp_region_list [.is (.bool false),.is (.bool true),.is (.bool true),.any,.any,.is (.bool true),.is (.bool true),.any,.any,.any,.any,.any,.any,.any,.any,.is (.bool true)] [some 69,some 70,some 71,some 72,some 73,some 74,some 75,some 76,some 77,some 78,some 79,some 80,some 81,some 82,some 83,some 84] (by kernel_rfl) (by kernel_rfl) (by kernel_rfl) rfl ⟨?_,?_,?_,?_,?_,?_,?_,?_,?_,?_,?_,?_,?_,?_,?_,?_,trivial⟩ ?_
       ·intro ρ W1 hb1 H
        exact zd rfl (H.old 13 _ (by kernel_rfl) rfl) ⟨rfl,Below.refl _ _⟩
       ·intro ρ W1 hb1 H
        exact zgP rfl (H.new 69 0 (by kernel_rfl)) ⟨rfl,Below.refl _ _⟩
       ·intro ρ W1 hb1 H
        exact zd rfl (H.new 70 1 (by kernel_rfl)) ⟨rfl,Below.refl _ _⟩
       ·intro ρ W1 hb1 H d hd
        have hd':(some 71:Option Tmp)=some d:=hd
        injection hd' with hd'
        subst hd'
        exact ⟨(fun hh=>by cases hh.symm.trans (H.new 71 2 (by kernel_rfl))),fun _=>trivial⟩
       ·intro ρ W1 hb1 H d hd
        have hd':(some 71:Option Tmp)=some d:=hd
        injection hd' with hd'
        subst hd'
        exact ⟨(fun hh=>by cases hh.symm.trans (H.new 71 2 (by kernel_rfl))),fun _=>trivial⟩
       ·intro ρ W1 hb1 H
        exact zfT rfl (H.new 71 2 (by kernel_rfl)) (H.const _) ⟨rfl,Below.refl _ _⟩
       ·intro ρ W1 hb1 H
        exact zd rfl (H.new 74 5 (by kernel_rfl)) ⟨rfl,Below.refl _ _⟩
       ·intro ρ W1 hb1 H d hd
        have hd':(some 75:Option Tmp)=some d:=hd
        injection hd' with hd'
        subst hd'
        exact ⟨(fun hh=>by cases hh.symm.trans (H.new 75 6 (by kernel_rfl))),fun _=>trivial⟩
       ·intro ρ W1 hb1 H d hd
        have hd':(some 75:Option Tmp)=some d:=hd
        injection hd' with hd'
        subst hd'
        exact ⟨(fun hh=>by cases hh.symm.trans (H.new 75 6 (by kernel_rfl))),fun _=>trivial⟩
       ·intro ρ W1 hb1 H d hd
        have hd':(some 75:Option Tmp)=some d:=hd
        injection hd' with hd'
        subst hd'
        exact ⟨(fun hh=>by cases hh.symm.trans (H.new 75 6 (by kernel_rfl))),fun _=>trivial⟩
       ·intro ρ W1 hb1 H d hd
        have hd':(some 75:Option Tmp)=some d:=hd
        injection hd' with hd'
        subst hd'
        exact ⟨(fun hh=>by cases hh.symm.trans (H.new 75 6 (by kernel_rfl))),fun _=>trivial⟩
       ·intro ρ W1 hb1 H d hd
        have hd':(some 75:Option Tmp)=some d:=hd
        injection hd' with hd'
        subst hd'
        exact ⟨(fun hh=>by cases hh.symm.trans (H.new 75 6 (by kernel_rfl))),fun _=>trivial⟩
       ·intro ρ W1 hb1 H d hd
        have hd':(some 75:Option Tmp)=some d:=hd
        injection hd' with hd'
        subst hd'
        exact ⟨(fun hh=>by cases hh.symm.trans (H.new 75 6 (by kernel_rfl))),fun _=>trivial⟩
       ·intro ρ W1 hb1 H d hd
        have hd':(some 75:Option Tmp)=some d:=hd
        injection hd' with hd'
        subst hd'
        exact ⟨(fun hh=>by cases hh.symm.trans (H.new 75 6 (by kernel_rfl))),fun _=>trivial⟩
       ·intro ρ W1 hb1 H d hd
        have hd':(some 75:Option Tmp)=some d:=hd
        injection hd' with hd'
        subst hd'
        exact ⟨(fun hh=>by cases hh.symm.trans (H.new 75 6 (by kernel_rfl))),fun _=>trivial⟩
       ·intro ρ W1 hb1 H
        exact zfT rfl (H.new 75 6 (by kernel_rfl)) (H.const _) ⟨rfl,Below.refl _ _⟩
       ·intro vs W1 hb1 hfs
        have f15:vs 15=.bool true:=hfs 15 (by decide)
        clear hfs
        simp only [zr,Nat.zero_add,Nat.reduceAdd]
        generalize vs 0=z0
        generalize vs 1=z1
        generalize vs 2=z2
        generalize vs 3=z3
        generalize vs 4=z4
        generalize vs 5=z5
        generalize vs 6=z6
        generalize vs 7=z7
        generalize vs 8=z8
        generalize vs 9=z9
        generalize vs 10=z10
        generalize vs 11=z11
        generalize vs 12=z12
        generalize vs 13=z13
        generalize vs 14=z14
        simp only [f15,Act.put,List.setIfInBounds_toArray,List.set_cons_succ,List.set_cons_zero]
        clear f15
        go_wp2
        try simp only [Exit.inBlock,Exit.then]
        refine bodyPost_ret (zV rfl _ _ _) rfl ?_
        rw [hE.out]
        exact RetT7O.no (za hbw hb1)
      | true =>
       have hsome:zbe u s=some X:=by
        cases he:zbe u s with
        | none=>rw [he] at hok;simp at hok
        | some x=>rw [he] at hX;simp at hX;rw [hX]
       rw [ziM hT3 hT10 (zjI hsome)] at HPt
       by_cases hq:zN u=K
       ·have HQ:Hid ((elay u T == l.take (K+1))=true):=Lib.hid (by rw [beq_iff_eq];exact (zjM h0l HK.out HT.out hKl hu).2 hq)
        have hE:=Lib.hid (zhY (s:=s) h0l HK.out (by rw [←HB.out];omega) hKl hu hsome hq)
        rw [←HT.out] at hE
        clear hok hX hu hU HU hu64 hXb hKl hsome hq
        go_wp2_with (go_at_call 101;refine (HMd.out _).mono ?_;rintro e w' ⟨rfl,rfl⟩)
        refine (HPt.out _).mono ?_
        rintro e w1 ⟨vc,rfl,hvc,hbw⟩
        have HVC:=Lib.hid hvc
        clear hvc
        go_wp2
        refine wp_region_list [.is (.bool true),.is (.bool false),.is (.bool false),.is (.int .i64 0),.is (.bool false),.is (.bool false),.is (.bool false),.bytes (elay u T),.is (.string ⟨(elay u T).toArray⟩),.is (.slice (some ad) n c),.is (.int .i64 (K:Int)),.is (.int .i64 ((K+1:Nat):Int)),.is (.slice (some ad) (K+1) c),.is (.string ⟨(l.take (K+1)).toArray⟩),.is (.bool false),.is (.bool false)] [some 69,some 70,some 71,some 72,some 73,some 74,some 75,some 76,some 77,some 78,some 79,some 80,some 81,some 82,some 83,some 84] (by kernel_rfl) (by kernel_rfl) (by kernel_rfl) rfl ⟨?_,?_,?_,?_,?_,?_,?_,?_,?_,?_,?_,?_,?_,?_,?_,?_,trivial⟩ ?_
        ·intro ρ W1 hb1 H
         exact zd rfl (H.old 13 _ (by kernel_rfl) rfl) ⟨rfl,Below.refl _ _⟩
        ·intro ρ W1 hb1 H
         exact zgP rfl (H.new 69 0 (by kernel_rfl)) ⟨rfl,Below.refl _ _⟩
        ·intro ρ W1 hb1 H
         exact zd rfl (H.new 70 1 (by kernel_rfl)) ⟨rfl,Below.refl _ _⟩
        ·intro ρ W1 hb1 H d hd
         have hd':(some 71:Option Tmp)=some d:=hd
         injection hd' with hd'
         subst hd'
         refine ⟨fun _=>?_,fun hne=>absurd (H.new 71 2 (by kernel_rfl)) hne⟩
         exact zd rfl (H.old 15 _ (by kernel_rfl) rfl) ⟨rfl,Below.refl _ _⟩
        ·intro ρ W1 hb1 H d hd
         have hd':(some 71:Option Tmp)=some d:=hd
         injection hd' with hd'
         subst hd'
         refine ⟨fun _=>?_,fun hne=>absurd (H.new 71 2 (by kernel_rfl)) hne⟩
         exact zgw rfl (H.new 72 3 (by kernel_rfl)) (H.const _) ⟨rfl,Below.refl _ _⟩
        ·intro ρ W1 hb1 H
         exact zcZ rfl (H.new 71 2 (by kernel_rfl)) (H.new 73 4 (by kernel_rfl)) ⟨rfl,Below.refl _ _⟩
        ·intro ρ W1 hb1 H
         exact zd rfl (H.new 74 5 (by kernel_rfl)) ⟨rfl,Below.refl _ _⟩
        ·intro ρ W1 hb1 H d hd
         have hd':(some 75:Option Tmp)=some d:=hd
         injection hd' with hd'
         subst hd'
         refine ⟨fun _=>?_,fun hne=>absurd (H.new 75 6 (by kernel_rfl)) hne⟩
         exact zd rfl (H.old 14 _ (by kernel_rfl) rfl) ⟨HVC.out.below hb1,Below.refl _ _⟩
        ·intro ρ W1 hb1 H d hd
         have hd':(some 75:Option Tmp)=some d:=hd
         injection hd' with hd'
         subst hd'
         refine ⟨fun _=>?_,fun hne=>absurd (H.new 75 6 (by kernel_rfl)) hne⟩
         have hB:IsB (elay u T) (ρ (.tmp 76)) W1:=H.new 76 7 (by kernel_rfl)
         exact zK rfl rfl (hB.text _ _ _ Tryz.underlying38 Tryz.underlying5 Tryz.underlying9) ⟨rfl,Below.refl _ _⟩
        ·intro ρ W1 hb1 H d hd
         have hd':(some 75:Option Tmp)=some d:=hd
         injection hd' with hd'
         subst hd'
         refine ⟨fun _=>?_,fun hne=>absurd (H.new 75 6 (by kernel_rfl)) hne⟩
         exact zd rfl (H.old 0 _ (by kernel_rfl) rfl) ⟨rfl,Below.refl _ _⟩
        ·intro ρ W1 hb1 H d hd
         have hd':(some 75:Option Tmp)=some d:=hd
         injection hd' with hd'
         subst hd'
         refine ⟨fun _=>?_,fun hne=>absurd (H.new 75 6 (by kernel_rfl)) hne⟩
         exact zd rfl (H.old 8 _ (by kernel_rfl) rfl) ⟨rfl,Below.refl _ _⟩
        ·intro ρ W1 hb1 H d hd
         have hd':(some 75:Option Tmp)=some d:=hd
         injection hd' with hd'
         subst hd'
         refine ⟨fun _=>?_,fun hne=>absurd (H.new 75 6 (by kernel_rfl)) hne⟩
         exact zcd rfl (H.new 79 10 (by kernel_rfl)) (H.const _) (by omega) (by omega) ⟨rfl,Below.refl _ _⟩
        ·intro ρ W1 hb1 H d hd
         have hd':(some 75:Option Tmp)=some d:=hd
         injection hd' with hd'
         subst hd'
         refine ⟨fun _=>?_,fun hne=>absurd (H.new 75 6 (by kernel_rfl)) hne⟩
         exact zcH elemB rfl (H.new 78 9 (by kernel_rfl)) (H.new 80 11 (by kernel_rfl)) (by omega) ⟨rfl,Below.refl _ _⟩
        ·intro ρ W1 hb1 H d hd
         have hd':(some 75:Option Tmp)=some d:=hd
         injection hd' with hd'
         subst hd'
         refine ⟨fun _=>?_,fun hne=>absurd (H.new 75 6 (by kernel_rfl)) hne⟩
         exact zK rfl (H.new 81 12 (by kernel_rfl)) (ziG (HI.out.below (za hbw hb1))) ⟨rfl,Below.refl _ _⟩
        ·intro ρ W1 hb1 H d hd
         have hd':(some 75:Option Tmp)=some d:=hd
         injection hd' with hd'
         subst hd'
         refine ⟨fun _=>?_,fun hne=>absurd (H.new 75 6 (by kernel_rfl)) hne⟩
         exact zcu (a:=elay u T) (b:=l.take (K+1)) rfl (H.new 77 8 (by kernel_rfl)) (H.new 82 13 (by kernel_rfl)) ⟨by rw [HQ.out];rfl,Below.refl _ _⟩
        ·intro ρ W1 hb1 H
         exact zcZ rfl (H.new 75 6 (by kernel_rfl)) (H.new 83 14 (by kernel_rfl)) ⟨rfl,Below.refl _ _⟩
        ·intro vs W1 hb1 hfs
         have f15:vs 15=.bool false:=hfs 15 (by decide)
         clear hfs
         simp only [zr,Nat.zero_add,Nat.reduceAdd]
         generalize vs 0=z0
         generalize vs 1=z1
         generalize vs 2=z2
         generalize vs 3=z3
         generalize vs 4=z4
         generalize vs 5=z5
         generalize vs 6=z6
         generalize vs 7=z7
         generalize vs 8=z8
         generalize vs 9=z9
         generalize vs 10=z10
         generalize vs 11=z11
         generalize vs 12=z12
         generalize vs 13=z13
         generalize vs 14=z14
         simp only [f15,Act.put,List.setIfInBounds_toArray,List.set_cons_succ,List.set_cons_zero]
         clear f15
         have hbW:=za hbw hb1
         have hown0:(W1.alloc (.cells #[] 5)).ownsRow w.heap.size 5 1 (.slice (some ⟨W1.heap.size,0,none⟩) 0 0) 0 []:=World.ownsRow_made W1 #[] 0 hbW.size (by unfold maxLen;omega) (by simp)
         have hbA:Below w.heap.size w (W1.alloc (.cells #[] 5)):=hbW.alloc hbW.size _
         have hz:=hbA.size
         obtain ⟨q,hqq⟩:∃ q,q=K+1:=⟨_,rfl⟩
         have HF2:=HF.out (W1.alloc (.cells #[] 5)) hbA
         rw [←hqq] at HF2 hE
         obtain ⟨vf,hvf,A6,c6,hv6,hA6,hc6,hm6,hl6⟩:=HF2
         have hk1:(K:Int)+1=(q:Int):=by omega
         have hqn:q≤n:=by omega
         have hpl:(l.drop (q)).length=n - (q):=by rw [List.length_drop,HN.out]
         have hpm:((l.drop (q)).map bv).length=n - (q):=by rw [List.length_map];exact hpl
         have HPM:=Lib.hid hpm
         rw [hpl] at hv6 hA6
         subst hv6
         clear hpl hpm hqq
         go_wp2_with (at_builtin;refine zo elemB rfl _ _ rfl w.heap.size _ _ _ _ _ _ ((l.drop (q)).map bv) w rfl rfl hA6 HPM.out hl6 (zcb _) hown0 hbA hz (by omega) (by omega) ?_)
         intro v7 w7 hown7 hb7 _ _
         have hI7:OwnB w (l.drop (q)) v7 w7:=⟨n - (q),by simpa using hown7⟩
         have HI7:=Lib.hid hI7
         clear hown7 hown0 hbA hz hl6 hI7 hk1
         go_wp2
         try simp only [Exit.inBlock,Exit.then]
         refine bodyPost_ret (zV rfl _ _ _) rfl ?_
         rw [hE.out]
         exact ⟨_,rfl,HI7.out,hb7⟩
       ·have HQ:Hid ((elay u T == l.take (K+1))=false):=Lib.hid (by rw [beq_eq_false_iff_ne];exact fun h=>hq ((zjM h0l HK.out HT.out hKl hu).1 h))
        have hE:=Lib.hid (zfA (s:=s) h0l HK.out hu (.inr hq))
        clear hok hX hu hU HU hu64 hXb hKl hsome hq
        go_wp2_with (go_at_call 101;refine (HMd.out _).mono ?_;rintro e w' ⟨rfl,rfl⟩)
        refine (HPt.out _).mono ?_
        rintro e w1 ⟨vc,rfl,hvc,hbw⟩
        have HVC:=Lib.hid hvc
        clear hvc
        go_wp2
        refine wp_region_list [.is (.bool true),.is (.bool false),.is (.bool false),.is (.int .i64 0),.is (.bool false),.is (.bool false),.is (.bool false),.bytes (elay u T),.is (.string ⟨(elay u T).toArray⟩),.is (.slice (some ad) n c),.is (.int .i64 (K:Int)),.is (.int .i64 ((K+1:Nat):Int)),.is (.slice (some ad) (K+1) c),.is (.string ⟨(l.take (K+1)).toArray⟩),.is (.bool true),.is (.bool true)] [some 69,some 70,some 71,some 72,some 73,some 74,some 75,some 76,some 77,some 78,some 79,some 80,some 81,some 82,some 83,some 84] (by kernel_rfl) (by kernel_rfl) (by kernel_rfl) rfl ⟨?_,?_,?_,?_,?_,?_,?_,?_,?_,?_,?_,?_,?_,?_,?_,?_,trivial⟩ ?_
        ·intro ρ W1 hb1 H
         exact zd rfl (H.old 13 _ (by kernel_rfl) rfl) ⟨rfl,Below.refl _ _⟩
        ·intro ρ W1 hb1 H
         exact zgP rfl (H.new 69 0 (by kernel_rfl)) ⟨rfl,Below.refl _ _⟩
        ·intro ρ W1 hb1 H
         exact zd rfl (H.new 70 1 (by kernel_rfl)) ⟨rfl,Below.refl _ _⟩
        ·intro ρ W1 hb1 H d hd
         have hd':(some 71:Option Tmp)=some d:=hd
         injection hd' with hd'
         subst hd'
         refine ⟨fun _=>?_,fun hne=>absurd (H.new 71 2 (by kernel_rfl)) hne⟩
         exact zd rfl (H.old 15 _ (by kernel_rfl) rfl) ⟨rfl,Below.refl _ _⟩
        ·intro ρ W1 hb1 H d hd
         have hd':(some 71:Option Tmp)=some d:=hd
         injection hd' with hd'
         subst hd'
         refine ⟨fun _=>?_,fun hne=>absurd (H.new 71 2 (by kernel_rfl)) hne⟩
         exact zgw rfl (H.new 72 3 (by kernel_rfl)) (H.const _) ⟨rfl,Below.refl _ _⟩
        ·intro ρ W1 hb1 H
         exact zcZ rfl (H.new 71 2 (by kernel_rfl)) (H.new 73 4 (by kernel_rfl)) ⟨rfl,Below.refl _ _⟩
        ·intro ρ W1 hb1 H
         exact zd rfl (H.new 74 5 (by kernel_rfl)) ⟨rfl,Below.refl _ _⟩
        ·intro ρ W1 hb1 H d hd
         have hd':(some 75:Option Tmp)=some d:=hd
         injection hd' with hd'
         subst hd'
         refine ⟨fun _=>?_,fun hne=>absurd (H.new 75 6 (by kernel_rfl)) hne⟩
         exact zd rfl (H.old 14 _ (by kernel_rfl) rfl) ⟨HVC.out.below hb1,Below.refl _ _⟩
        ·intro ρ W1 hb1 H d hd
         have hd':(some 75:Option Tmp)=some d:=hd
         injection hd' with hd'
         subst hd'
         refine ⟨fun _=>?_,fun hne=>absurd (H.new 75 6 (by kernel_rfl)) hne⟩
         have hB:IsB (elay u T) (ρ (.tmp 76)) W1:=H.new 76 7 (by kernel_rfl)
         exact zK rfl rfl (hB.text _ _ _ Tryz.underlying38 Tryz.underlying5 Tryz.underlying9) ⟨rfl,Below.refl _ _⟩
        ·intro ρ W1 hb1 H d hd
         have hd':(some 75:Option Tmp)=some d:=hd
         injection hd' with hd'
         subst hd'
         refine ⟨fun _=>?_,fun hne=>absurd (H.new 75 6 (by kernel_rfl)) hne⟩
         exact zd rfl (H.old 0 _ (by kernel_rfl) rfl) ⟨rfl,Below.refl _ _⟩
        ·intro ρ W1 hb1 H d hd
         have hd':(some 75:Option Tmp)=some d:=hd
         injection hd' with hd'
         subst hd'
         refine ⟨fun _=>?_,fun hne=>absurd (H.new 75 6 (by kernel_rfl)) hne⟩
         exact zd rfl (H.old 8 _ (by kernel_rfl) rfl) ⟨rfl,Below.refl _ _⟩
        ·intro ρ W1 hb1 H d hd
         have hd':(some 75:Option Tmp)=some d:=hd
         injection hd' with hd'
         subst hd'
         refine ⟨fun _=>?_,fun hne=>absurd (H.new 75 6 (by kernel_rfl)) hne⟩
         exact zcd rfl (H.new 79 10 (by kernel_rfl)) (H.const _) (by omega) (by omega) ⟨rfl,Below.refl _ _⟩
        ·intro ρ W1 hb1 H d hd
         have hd':(some 75:Option Tmp)=some d:=hd
         injection hd' with hd'
         subst hd'
         refine ⟨fun _=>?_,fun hne=>absurd (H.new 75 6 (by kernel_rfl)) hne⟩
         exact zcH elemB rfl (H.new 78 9 (by kernel_rfl)) (H.new 80 11 (by kernel_rfl)) (by omega) ⟨rfl,Below.refl _ _⟩
        ·intro ρ W1 hb1 H d hd
         have hd':(some 75:Option Tmp)=some d:=hd
         injection hd' with hd'
         subst hd'
         refine ⟨fun _=>?_,fun hne=>absurd (H.new 75 6 (by kernel_rfl)) hne⟩
         exact zK rfl (H.new 81 12 (by kernel_rfl)) (ziG (HI.out.below (za hbw hb1))) ⟨rfl,Below.refl _ _⟩
        ·intro ρ W1 hb1 H d hd
         have hd':(some 75:Option Tmp)=some d:=hd
         injection hd' with hd'
         subst hd'
         refine ⟨fun _=>?_,fun hne=>absurd (H.new 75 6 (by kernel_rfl)) hne⟩
         exact zcu (a:=elay u T) (b:=l.take (K+1)) rfl (H.new 77 8 (by kernel_rfl)) (H.new 82 13 (by kernel_rfl)) ⟨by rw [HQ.out];rfl,Below.refl _ _⟩
        ·intro ρ W1 hb1 H
         exact zcZ rfl (H.new 75 6 (by kernel_rfl)) (H.new 83 14 (by kernel_rfl)) ⟨rfl,Below.refl _ _⟩
        ·intro vs W1 hb1 hfs
         have f15:vs 15=.bool true:=hfs 15 (by decide)
         clear hfs
         simp only [zr,Nat.zero_add,Nat.reduceAdd]
         generalize vs 0=z0
         generalize vs 1=z1
         generalize vs 2=z2
         generalize vs 3=z3
         generalize vs 4=z4
         generalize vs 5=z5
         generalize vs 6=z6
         generalize vs 7=z7
         generalize vs 8=z8
         generalize vs 9=z9
         generalize vs 10=z10
         generalize vs 11=z11
         generalize vs 12=z12
         generalize vs 13=z13
         generalize vs 14=z14
         simp only [f15,Act.put,List.setIfInBounds_toArray,List.set_cons_succ,List.set_cons_zero]
         clear f15
         go_wp2
         try simp only [Exit.inBlock,Exit.then]
         refine bodyPost_ret (zV rfl _ _ _) rfl ?_
         rw [hE.out]
         exact RetT7O.no (za hbw hb1)
def OwnV {α:Type} (f:α→Value) (e:TypeId) (w:World) (l:List α) (v:Value) (w':World):Prop:=∃ n,w'.ownsRow w.heap.size e 1 v n (l.map f)
section
variable {α:Type} {f:α→Value} {e:TypeId} {w w0 w1 w2:World} {l:List α} {v:Value}
theorem OwnV.isV (h:OwnV f e w l v w1):IsV f l v w1:=h.elim fun _ h=>zbi h
theorem OwnV.nil (f:α→Value) (e:TypeId) (w w':World):OwnV f e w [] (.slice none 0 0) w':=⟨0,World.ownsRow_nil _ _ _ _⟩
theorem OwnV.below (h:OwnV f e w l v w1) (hb:Below w1.heap.size w1 w2):OwnV f e w l v w2:=h.elim fun _ h=>⟨_,own_below h hb⟩
theorem OwnV.base (hb:w0.heap.size≤w.heap.size) (h:OwnV f e w l v w1):OwnV f e w0 l v w1:=h.elim fun _ h=>⟨_,zbR hb h⟩
end
end Go.Proofs.YtblpkmmhmdpkjaaGreatDoor
namespace Go.Proofs.YtblpkmmhmdpkjaaGreatDoor
def omap {α β:Type} (f:α→Option β):List α→Option (List β)
 | []=>some []
 | x::l=>match f x with | none=>none | some y=>match omap f l with | none=>none | some ys=>some (y::ys)
section
variable {α β:Type} {f:α→Option β}
theorem zjN (l:List α) (x:α):omap f (l ++ [x])=match omap f l with | none=>none | some ys=>match f x with | none=>none | some y=>some (ys ++ [y]):=by
 induction l with
 | nil=>simp only [List.nil_append,omap]
 | cons z l ih =>
  rw [List.cons_append,omap,omap,ih]
  cases f z with
  | none=>rfl
  | some y=>cases omap f l with
   | none=>rfl
   | some ys=>cases f x <;> rfl
theorem zb0 {l:List α} {x:α} (hx:x∈l) (h:f x=none):omap f l=none:=by
 induction l with
 | nil=>cases hx
 | cons z l ih =>
  rw [omap]
  rcases List.mem_cons.1 hx with rfl | hx
  ·rw [h]
  ·rw [ih hx];cases f z <;> rfl
theorem zb4 {l:List α} {ys:List β} (h:omap f l=some ys):ys.length=l.length:=by
 induction l generalizing ys with
 | nil=>simp [omap] at h;subst h;rfl
 | cons z l ih =>
  rw [omap] at h
  cases hz:f z with
  | none=>rw [hz] at h;cases h
  | some y =>
   rw [hz] at h
   cases hl:omap f l with
   | none=>rw [hl] at h;cases h
   | some zs =>
    rw [hl] at h
    injection h with h
    subst h
    rw [List.length_cons,List.length_cons,ih hl]
theorem ze1 {l:List α} {ys:List β} (h:omap f l=some ys) {y:β} (hy:y∈ys):∃ x∈l,f x=some y:=by
 induction l generalizing ys with
 | nil=>simp [omap] at h;subst h;cases hy
 | cons z l ih =>
  rw [omap] at h
  cases hz:f z with
  | none=>rw [hz] at h;cases h
  | some u =>
   rw [hz] at h
   cases hl:omap f l with
   | none=>rw [hl] at h;cases h
   | some zs =>
    rw [hl] at h
    injection h with h
    subst h
    rcases List.mem_cons.1 hy with rfl | hy
    ·exact ⟨z,List.mem_cons_self,hz⟩
    ·obtain ⟨x,hx,hf⟩:=ih hl hy
     exact ⟨x,List.mem_cons_of_mem _ hx,hf⟩
theorem zjO {g:β→Option α} {l:List α} {ys:List β} (hg:∀ x∈l,∀ y,f x=some y→g y=some x) (h:omap f l=some ys):omap g ys=some l:=by
 induction l generalizing ys with
 | nil=>simp [omap] at h;subst h;rfl
 | cons z l ih =>
  rw [omap] at h
  cases hz:f z with
  | none=>rw [hz] at h;cases h
  | some u =>
   rw [hz] at h
   cases hl:omap f l with
   | none=>rw [hl] at h;cases h
   | some zs =>
    rw [hl] at h
    injection h with h
    subst h
    rw [omap,hg z List.mem_cons_self u hz,ih (fun x hx=>hg x (List.mem_cons_of_mem _ hx)) hl]
end
def zG (l:List Int) (s:Bool):Option (List Nat):=omap (zD · s) l
def zey (u:List Nat) (s:Bool):Option (List Int):=omap (zbe · s) u
def zdG (l:List Int) (s:Bool):List Nat × Int:=match zG l s with | none=>([],1) | some u=>(u,0)
def zci (u:List Nat) (s:Bool):List Int × Int:=match zey u s with | none=>([],2) | some l=>(l,0)
theorem ze2 {l:List Int} {s:Bool} {u:List Nat} (hl:∀ x∈l,inInt x) (h:zG l s=some u):∀ y∈u,y < 2 ^ 64:=by
 intro y hy
 obtain ⟨x,hx,hf⟩:=ze1 h hy
 exact zgN (hl x hx).1 (hl x hx).2 hf
theorem zdm {l:List Int} {s:Bool} {u:List Nat} (h:zG l s=some u):u.length=l.length:=zb4 h
theorem zo3 {u:List Nat} {s:Bool} {l:List Int} (h:zey u s=some l):l.length=u.length:=zb4 h
theorem zjP {l:List Int} {s:Bool} {u:List Nat} (hl:∀ x∈l,inInt x) (h:zG l s=some u):zey u s=some l:=
 zjO (fun x hx _ hy=>zfW (hl x hx).1 (hl x hx).2 hy) h
def zz (k c m:Nat):List UInt8:=be 2 (16384*k+512*c+(m - 1))
def znm (k c m:Int):List UInt8:=if 0≤k∧k≤3∧0≤c∧c≤31∧1≤m∧m≤512 then zz k.toNat c.toNat m.toNat else []
theorem ze3 {k c m:Nat} (hk:k≤3) (hc:c≤31) (h1:1≤m) (hm:m≤512):znm (k:Int) (c:Int) (m:Int)=zz k c m:=by
 unfold znm
 rw [if_pos (by omega)]
 simp
theorem zT (k c m:Nat):(zz k c m).length=2:=zcv _ _
def zp (l:List UInt8):Int × Int × Int × List UInt8 × Int:=
 if l.length < 2 then (0,0,0,[],2)
 else (((bval (l.take 2) / 16384:Nat):Int),((bval (l.take 2) / 512 % 32:Nat):Int),((bval (l.take 2) % 512+1:Nat):Int),l.drop 2,0)
theorem zlr {k c m:Nat} (hk:k≤3) (hc:c≤31) (h1:1≤m) (hm:m≤512):bval (zz k c m)=16384*k+512*c+(m - 1):=by
 unfold zz
 rw [zfu,Nat.mod_eq_of_lt (by omega)]
theorem zfB {k c m:Nat} (hk:k≤3) (hc:c≤31) (h1:1≤m) (hm:m≤512) (b:List UInt8):zp (zz k c m ++ b)=((k:Int),(c:Int),(m:Int),b,0):=by
 have hl:=zT k c m
 have ht:(zz k c m ++ b).take 2=zz k c m:=by rw [←hl];simp
 have hd:(zz k c m ++ b).drop 2=b:=by rw [←hl];simp
 unfold zp
 rw [if_neg (by rw [List.length_append,hl];omega),ht,hd,zlr hk hc h1 hm]
 have e1:(16384*k+512*c+(m - 1)) / 16384=k:=by omega
 have e2:(16384*k+512*c+(m - 1)) / 512 % 32=c:=by omega
 have e3:(16384*k+512*c+(m - 1)) % 512+1=m:=by omega
 rw [e1,e2,e3]
theorem zmz {l:List UInt8} (h:2≤l.length):bval (l.take 2)=256*l[0].toNat+l[1].toNat∧bval (l.take 2) < 65536:=by
 match l,h with
 | a::b::r,_ =>
  have h1:=a.toNat_lt
  have h2:=b.toNat_lt
  have e:bval ((a::b::r).take 2)=256*a.toNat+b.toNat:=by
   show bval [a,b]=_
   simp [bval]
   omega
  rw [e]
  exact ⟨rfl,by omega⟩
def zeG (u:List Nat):Nat:=(zi (zbS u:Int)).toNat
theorem zgR {u:List Nat}:zi (zbS u:Int)=(zeG u:Int):=by unfold zeG;have:=(zgB (zbS u:Int)).1;omega
theorem zjQ:∀ (u:List Nat) (n:Nat),n≤u.foldl (fun n x=>max n x) n∧∀ x∈u,x≤u.foldl (fun n x=>max n x) n
 | [],n=>⟨Nat.le_refl _,fun _ h=>by cases h⟩
 | y::u,n=>by
  have h:=zjQ u (max n y)
  refine ⟨Nat.le_trans (Nat.le_max_left _ _) h.1,fun x hx=>?_⟩
  rcases List.mem_cons.1 hx with rfl | hx
  ·exact Nat.le_trans (Nat.le_max_right _ _) h.1
  ·exact h.2 x hx
theorem ziN {u:List Nat} {x:Nat} (h:x∈u):x≤wtop u:=(zjQ u 0).2 x h
theorem zel {u:List Nat} (h:∀ x∈u,x < 2 ^ 64):1≤zeG u∧zeG u≤64∧(∀ x∈u,x < 2 ^ zeG u):=by
 have h1:=ztx ⟨zbS u,by have:=zei h;omega⟩
 have h2:=zgB (zbS u:Int)
 have h3:=zgR (u:=u)
 dsimp only at h1
 rw [h3] at h1 h2
 refine ⟨by omega,by omega,fun x hx=>?_⟩
 have h4:x≤wtop u:=by
  clear h1 h2 h3 h
  exact ziN hx
 have h5:=(zeW (zk4 h) (show zeG u≤64 by omega)).1 (by rw [zeX h];omega)
 omega
def zjR (u:List Nat):Nat:=(zbb (zeG u:Int)).toNat
theorem zls:∀ n:Fin 65,0≤zbb (zi (n.val:Int))∧zbb (zi (n.val:Int))≤31∧wof (zbb (zi (n.val:Int)))=zi (n.val:Int):=by decide +kernel
theorem zgS {u:List Nat} (h:∀ x∈u,x < 2 ^ 64):zbb (zeG u:Int)=(zjR u:Int)∧zjR u≤31∧wof (zjR u:Int)=(zeG u:Int):=by
 have h1:=zls ⟨zbS u,by have:=zei h;omega⟩
 dsimp only at h1
 rw [zgR] at h1
 have h2:zbb (zeG u:Int)=(zjR u:Int):=by unfold zjR;omega
 rw [h2] at h1
 exact ⟨h2,by omega,h1.2.2⟩
def dlay (u:List Nat):List UInt8:=zz 1 (zjR u) u.length ++ zby u (zeG u)
def zdH (l:List Int) (s:Bool):List UInt8 × Int:=match zG l s with | none=>([],1) | some u=>if l.length < 1∨512 < l.length then ([],1) else (dlay u,0)
def zbg (l:List UInt8) (s:Bool):List Int × List UInt8 × Int:=
 if (zp l).2.2.2.2≠0∨(zp l).1≠1 then ([],[],2)
 else match zh (zp l).2.2.2.1 (zp l).2.2.1 (wof (zp l).2.1) with
  | (u,r,e)=>if e≠0 then ([],[],2) else match zey u s with | none=>([],[],2) | some m=>(m,r,0)
theorem zd7 {l:List UInt8} {c m:Int} {r:List UInt8} {s:Bool} (h:zp l=(1,c,m,r,0)) {u:List Nat} {q:List UInt8} (hu:zh r m (wof c)=(u,q,0)) {o:List Int} (hm:zey u s=some o):zbg l s=(o,q,0):=by
 unfold zbg
 rw [h]
 dsimp only
 rw [if_neg (by decide),hu]
 dsimp only
 rw [if_neg (by decide),hm]
theorem zo4 {u:List Nat} {l:List Int} {s:Bool} (hu:∀ x∈u,x < 2 ^ 64) (h1:1≤u.length) (h2:u.length≤512) (hm:zey u s=some l) (b:List UInt8):zbg (dlay u ++ b) s=(l,b,0):=by
 obtain ⟨hw1,hw2,hw3⟩:=zel hu
 obtain ⟨_,hc2,hc3⟩:=zgS hu
 have hd:zp (dlay u ++ b)=(1,(zjR u:Int),(u.length:Int),zby u (zeG u) ++ b,0):=by
  unfold dlay
  rw [List.append_assoc]
  exact zfB (k:=1) (by omega) hc2 h1 h2 _
 refine zd7 hd ?_ hm
 rw [hc3,zbT _ _ _ (by omega) hw2]
 exact zc2 hw3 b
theorem znn {l:List Int} {s:Bool} {u:List Nat} (hl:∀ x∈l,inInt x) (h1:1≤l.length) (h2:l.length≤512) (h:zG l s=some u) (b:List UInt8):zbg (dlay u ++ b) s=(l,b,0):=
 zo4 (ze2 hl h) (by rw [zdm h];exact h1) (by rw [zdm h];exact h2) (zjP hl h) b
end Go.Proofs.YtblpkmmhmdpkjaaGreatDoor
