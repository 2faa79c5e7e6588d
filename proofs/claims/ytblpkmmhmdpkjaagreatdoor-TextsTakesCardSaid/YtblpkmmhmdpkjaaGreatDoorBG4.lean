import Derived.Test.YtblpkmmhmdpkjaaGreatDoorTie
import Derived.Test.YtblpkmmhmdpkjaaGreatDoorCards
import Derived.SevenTiedAt
import Derived.Stop.Joined
import Derived.Deep.WholeRow
import Derived.Test.YtblpkmmhmdpkjaaGreatDoorBG3
set_option maxHeartbeats 8000000
set_option maxRecDepth 100000
namespace Go.Proofs.YtblpkmmhmdpkjaaGreatDoor
open Go.RowKit
theorem isU_iff {l:List Nat} {v:Value} {w:World}:IsU l v w↔IsV uv l v w:=Iff.rfl
theorem zem (w:World) (e:TypeId):(w.alloc (.cells #[] e)).ownsRow w.heap.size e 1 (.slice (some ⟨w.heap.size,0,none⟩) 0 0) 0 []:=World.ownsRow_made w #[] 0 (Nat.le_refl _) (by unfold maxLen;omega) (by simp)
def RetK (w:World) (p:Int × Int × Int × List UInt8 × Int) (e:Ending) (w':World):Prop:=
 ∃ v,e=.returned (.tuple #[.int .i64 p.1,.int .i64 p.2.1,.int .i64 p.2.2.1,v,.int .i64 p.2.2.2.2])∧IsB p.2.2.2.1 v w'∧Below w.heap.size w w'
theorem zeH {l:List UInt8} (h:l.length < 2):zp l=(0,0,0,[],2):=by unfold zp;rw [if_pos h]
theorem zen {l:List UInt8} {X:Nat} (h:2≤l.length) (hX:X=256*l[0].toNat+l[1].toNat):zp l=(((X / 16384:Nat):Int),((X / 512 % 32:Nat):Int),((X % 512+1:Nat):Int),l.drop 2,0):=by
 unfold zp
 rw [if_neg (by omega),(zmz h).1,←hX]
theorem zfC (l:List UInt8) (v:Value) (w:World) (hv:IsB l v w) (hb:l.length≤1000000) :
  Calls Tryz.prog 96 #[v] w (RetK w (zp l)):=by
 obtain ⟨A,c,rfl,hA,hnc,hcm,hl⟩:=hv
 obtain ⟨n,hn⟩:∃ n,n=l.length:=⟨_,rfl⟩
 rw [←hn] at hA hnc hb ⊢
 have hci:(c:Int)≤9223372036854775807:=by unfold maxLen at hcm;omega
 by_cases h2:n < 2
 ·have hE:=Lib.hid (zeH (l:=l) (by omega))
  have d1:decide ((n:Int) < 2)=true:=decide_eq_true (by omega)
  clear hn hl hcm hA hnc
  go_enter Tryz.func96,Tryz.ntmps96
  go_wp2
  refine bodyPost_ret (zc0 rfl _ _ _) rfl ?_
  rw [hE.out]
  exact ⟨_,rfl,zdz _,Below.refl _ _⟩
 ·have hl2:2≤l.length:=by omega
  have d1:decide ((n:Int) < 2)=false:=decide_eq_false (by omega)
  obtain ⟨ad,rfl,_,hcell0⟩:=hl.cell (k:=0) (by rw [List.length_map];omega)
  obtain ⟨_,hAd,_,hcell1⟩:=hl.cell (k:=1) (by rw [List.length_map];omega)
  injection hAd with hAd
  subst hAd
  obtain ⟨x,hx⟩:∃ x:Nat,x=l[0].toNat:=⟨_,rfl⟩
  obtain ⟨y,hy⟩:∃ y:Nat,y=l[1].toNat:=⟨_,rfl⟩
  have hx8:x < 256:=by rw [hx];exact UInt8.toNat_lt _
  have hy8:y < 256:=by rw [hy];exact UInt8.toNat_lt _
  have hc0:w.cell? ad=some (.int .u8 (x:Int)):=by
   have e:ad.add 0=ad:=by simp [Addr.add]
   rw [e] at hcell0
   rw [hcell0,List.getElem_map,hx];rfl
  have hc1:w.cell? ⟨ad.block,ad.off+1,none⟩=some (.int .u8 (y:Int)):=by
   have e:ad.add 1=⟨ad.block,ad.off+1,none⟩:=by simp [Addr.add]
   rw [e] at hcell1
   rw [hcell1,List.getElem_map,hy];rfl
  obtain ⟨X,hX⟩:∃ X,X=256*x+y:=⟨_,rfl⟩
  have hXb:X < 65536:=by omega
  have hE:=Lib.hid (zen (l:=l) (X:=X) hl2 (by rw [hX,hx,hy]))
  have hn0:(0:Int) < (n:Int):=by omega
  have hn1:(1:Int) < (n:Int):=by omega
  have HX:=Lib.hid (show (256*(x:Int)+(y:Int)) / 16384=((X / 16384:Nat):Int)∧(256*(x:Int)+(y:Int)) / 512 % 32=((X / 512 % 32:Nat):Int)∧(256*(x:Int)+(y:Int)) % 512+1=((X % 512+1:Nat):Int) from ⟨by omega,by omega,by omega⟩)
  have HN:=Lib.hid hn
  obtain ⟨v6,hv6,A6,c6,e6,hA6,hc6,hm6,hl6⟩:=zbr (P:=Tryz.prog) (w:=w) elemB (k:=2) (by omega) hnc hcm hn.symm hl hA
  have hpl:(l.drop 2).length=n - 2:=by rw [List.length_drop];omega
  have hpm:((l.drop 2).map bv).length=n - 2:=by rw [List.length_map];exact hpl
  have HPM:=Lib.hid hpm
  rw [hpl] at e6 hA6
  obtain ⟨N,hN⟩:∃ N,N=n - 2:=⟨_,rfl⟩
  rw [←hN] at e6 hA6 HPM
  have hNb:N≤1000000:=by omega
  subst e6
  clear hN
  have hsl:∀ W,(Instr.sliceAt 38 (.slice (some ad) n c) (some (.int .i64 2)) none none).run Tryz.prog W=.ok (.slice A6 N c6) W:=hv6
  clear hn hx hy hX hcell0 hcell1 hl hv6 hpl hpm hc6 hm6
  go_enter Tryz.func96,Tryz.ntmps96
  go_wp2
  go_quiet (fail)
  have hown0:((w.drewN nq).alloc (.cells #[] 5)).ownsRow w.heap.size 5 1 (.slice (some ⟨w.heap.size,0,none⟩) 0 0) 0 []:=zem (w.drewN nq) 5
  have hb0:Below w.heap.size w ((w.drewN nq).alloc (.cells #[] 5)):=(below_drewN (Below.refl _ _) nq).alloc (Nat.le_refl _) _
  have hz0:=hb0.size
  have hl0:=hl6.below hb0
  go_wp2_with (at_builtin;refine zo elemB rfl _ _ rfl w.heap.size _ _ _ _ _ _ ((l.drop 2).map bv) w rfl rfl hA6 HPM.out hl0 (zcb _) hown0 hb0 hz0 (by omega) (by omega) ?_)
  intro v7 w7 hown7 hb7 _ _
  have HI7:=Lib.hid (show IsB (l.drop 2) v7 w7 from zcz (n:=N) (by simpa using hown7))
  have HB7:=Lib.hid hb7
  clear hown7 hb7 hown0 hb0 hz0 hl0
  go_wp2
  refine bodyPost_ret (zc0 rfl _ _ _) rfl ?_
  rw [hE.out]
  refine ⟨_,?_,HI7.out,HB7.out⟩
  rw [←HX.out.1,←HX.out.2.1,←HX.out.2.2]
  rfl
def RetV {α:Type} (f:α→Value) (w:World) (p:List α × Int) (e:Ending) (w':World):Prop:=∃ u,e=.returned (.tuple #[u,.int .i64 p.2])∧IsV f p.1 u w'∧Below w.heap.size w w'
theorem RetV.nil {α:Type} {f:α→Value} {w w':World} (n:Int) (hb:Below w.heap.size w w'):RetV f w ([],n) (.returned (.tuple #[.slice none 0 0,.int .i64 n])) w':=⟨_,rfl,zgM _ _,hb⟩
theorem zcP {α β:Type} {f:α→Option β} {l:List α} {k:Nat} {acc:List β} {y:β} (hk:k < l.length) (h:omap f (l.take k)=some acc) (hy:f l[k]=some y):omap f (l.take (k+1))=some (acc ++ [y]):=by
 rw [List.take_succ_eq_append_getElem hk,zjN,h,hy]
def ziO {α β:Type} (f:α→Option β) (enc:β→Value) (t:TypeId) (l:List α) (w:World) (v i:Value) (wr:World):Prop:=
 ∃ (k:Nat) (acc:List β),k≤l.length∧i=.int .i64 (k:Int)∧omap f (l.take k)=some acc∧wr.ownsRow w.heap.size t 1 v acc.length (acc.map enc)∧Below w.heap.size w wr
theorem zno (l:List Nat) (v:Value) (s:Bool) (w:World) (hv:IsV uv l v w) (hl:∀ x∈l,x < 2 ^ 64) (hb:l.length≤1000000) :
  Calls Tryz.prog 98 #[v,.bool s] w (RetV iv w (zci l s)):=by
 obtain ⟨A,c,rfl,hA,hnc,hcm,hlw⟩:=hv
 obtain ⟨n,hn⟩:∃ n,n=l.length:=⟨_,rfl⟩
 rw [←hn] at hA hnc hb ⊢
 have hst:ziO (zbe · s) iv 3 l w (.slice (some ⟨w.heap.size,0,none⟩) 0 0) (.int .i64 0) (w.alloc (.cells #[] 3)):=⟨0,[],by omega,rfl,rfl,zem w _,(Below.refl _ _).alloc (Nat.le_refl _) _⟩
 have HN:=Lib.hid hn
 have HL:=Lib.hid hlw
 have HI:=Lib.hid hl
 clear hn hlw hl hcm hA
 go_enter Tryz.func98,Tryz.ntmps98
 go_wp2
 go_loopw [6,7] (ziO (zbe · s) iv 3 l w) (fun _ i _=>n - (intOf i).toNat)
 case atStart=>exact hst
 case round =>
  obtain ⟨k,acc,hk,rfl,hacc,hown,hbw⟩:=hrel
  have hz:=hbw.size
  have hal:acc.length=k:=by rw [zb4 hacc,List.length_take];omega
  have HACC:=Lib.hid hacc
  have HAL:=Lib.hid hal
  have hk':k≤n:=by have:=HN.out;omega
  clear hst hacc
  rw [hal] at hown
  clear hal
  by_cases hlt:k < n
  ·have hkl:k < l.length:=by have:=HN.out;omega
   have hlti:(k:Int) < (n:Int):=by omega
   obtain ⟨ad,rfl,_,hcell⟩:=(HL.out.below hbw).cell (k:=k) (by rw [List.length_map];exact hkl)
   obtain ⟨x,hx⟩:∃ x,x=l[k]:=⟨_,rfl⟩
   have hcx:wr.cell? (ad.add k)=some (.int .u64 (x:Int)):=by rw [hcell,List.getElem_map,hx];rfl
   have hxb:x < 2 ^ 64:=by rw [hx];exact HI.out _ (List.getElem_mem hkl)
   have HP:=Lib.hid (zhX (x:Int) s wr (by omega) (by omega))
   rw [Int.toNat_natCast] at HP
   obtain ⟨u,hu⟩:∃ u,u=(zbe x s).getD 0:=⟨_,rfl⟩
   obtain ⟨ok,hok⟩:∃ ok,ok=(zbe x s).isSome:=⟨_,rfl⟩
   rw [←hu,←hok] at HP
   have HX:=Lib.hid hx
   have HU:=Lib.hid hu
   have HOK:=Lib.hid hok
   clear hx hu hok hcell hxb
   cases ok with
   | false =>
    have hE:Hid (zci l s=([],2)):=Lib.hid (by
     have h0:zbe x s=none:=by simpa using HOK.out.symm
     have h1:zey l s=none:=zb0 (x:=x) (by rw [HX.out];exact List.getElem_mem hkl) h0
     unfold zci;rw [h1])
    go_wp2_with (go_at_call 101;refine HP.out.mono ?_;rintro e w' ⟨rfl,rfl⟩)
    go_ret2
    rw [hE.out]
    exact RetV.nil _ hbw
   | true =>
    have hnext:Hid (omap (zbe · s) (l.take (k+1))=some (acc ++ [u])):=Lib.hid (zcP hkl HACC.out (by
     rw [←HX.out]
     have h0:=HOK.out
     have h1:=HU.out
     cases he:zbe x s with
     | none=>rw [he] at h0;simp at h0
     | some z=>rw [he] at h1;simp at h1;rw [h1]))
    go_wp2_with (first | (go_at_call 101;refine HP.out.mono ?_;rintro e w' ⟨rfl,rfl⟩) | (at_builtin;refine zX zdk rfl _ _ rfl w.heap.size _ _ _ (iv u) wr w rfl rfl rfl rfl hown hbw hz (by omega) (by omega) ?_))
    intro v5 w5 hown5 hb5 _ _
    have hown6:w5.ownsRow w.heap.size 3 1 v5 (acc ++ [u]).length ((acc ++ [u]).map iv):=by
     rw [List.length_append,List.length_singleton,List.map_append,List.map_singleton,HAL.out]
     exact hown5
    clear hown5 hown
    go_wp2
    go_roundw
    case rel=>exact ⟨k+1,_,by have:=HN.out;omega,by go_num,hnext.out,hown6,hb5⟩
    case measure=>simp [intOf];omega
  ·obtain rfl:k=n:=by omega
   have hlti:¬(k:Int) < (k:Int):=by omega
   have hE:Hid (zci l s=(acc,0)):=Lib.hid (by
    have h1:=HACC.out
    rw [List.take_of_length_le (by have:=HN.out;omega)] at h1
    unfold zci zey;rw [h1])
   go_wp2
   go_ret2
   rw [hE.out]
   exact ⟨_,rfl,zbi hown,hbw⟩
theorem zgg {k c m:Int} (h:¬(0≤k∧k≤3∧0≤c∧c≤31∧1≤m∧m≤512)):znm k c m=[]:=by unfold znm;rw [if_neg h]
theorem znp {k c m X h y:Nat} (hX:X=16384*k+512*c+(m - 1)) (hh:h=X / 256) (hy:y=X % 256) (hb:X < 65536):(zz k c m).map bv=[.int .u8 (h:Int),.int .u8 (y:Int)]:=by
 have e:zz k c m=[UInt8.ofNat h,UInt8.ofNat y]:=by
  unfold zz
  rw [←hX]
  symm
  refine zoH rfl ?_
  have h1:(UInt8.ofNat h).toNat=h:=by rw [UInt8.toNat_ofNat'];omega
  have h2:(UInt8.ofNat y).toNat=y:=by rw [UInt8.toNat_ofNat'];omega
  simp only [bval,List.length_cons,List.length_nil,h1,h2]
  omega
 rw [e]
 have h1:(UInt8.ofNat h).toNat=h:=by rw [UInt8.toNat_ofNat'];omega
 have h2:(UInt8.ofNat y).toNat=y:=by rw [UInt8.toNat_ofNat'];omega
 simp only [List.map_cons,List.map_nil,bv,h1,h2]
def RetH (w:World) (l:List UInt8) (e:Ending) (w':World):Prop:=∃ v,e=.returned v∧w'.ownsRow w.heap.size 5 1 v l.length (l.map bv)∧Below w.heap.size w w'
theorem zsB (w:World) (e:TypeId) (xs:List Value) (n:Nat) (hn:xs.length=n) (hb:n≤1000000):(w.alloc (.cells xs.toArray e)).ownsRow w.heap.size e 1 (.slice (some ⟨w.heap.size,0,none⟩) n n) n xs:=
 ⟨by simpa using hn,.inr ⟨w.heap.size,n,xs.toArray,rfl,Nat.le_refl _,heap_alloc_new w _,Nat.le_refl _,by unfold maxLen;omega,by simp [hn],by subst hn;simp⟩⟩
theorem zq7 {l:List Int} {s:Bool} (h:zG l s=none):zdH l s=([],1):=by unfold zdH;rw [h]
theorem zo5 {l:List Int} {s:Bool} (h:l.length < 1∨512 < l.length):zdH l s=([],1):=by
 unfold zdH
 cases zG l s with
 | none=>rfl
 | some u=>dsimp only;rw [if_pos h]
theorem zmA {l:List Int} {s:Bool} {u:List Nat} (h:zG l s=some u) (h1:1≤l.length) (h2:l.length≤512):zdH l s=(dlay u,0):=by
 unfold zdH
 rw [h]
 dsimp only
 rw [if_neg (by omega)]
theorem ztc {u:List Nat} (h:∀ x∈u,x < 2 ^ 64):zcF u (zeG u:Int)=(zby u (zeG u),0):=by
 obtain ⟨_,h2,h3⟩:=zel h
 rw [zb6 _ _ h2,zdE h3]
theorem zgT {n W:Nat} (hn:n≤512) (hW:W≤64):zW n W≤4096:=by
 unfold zW
 have:n*W≤512*64:=Nat.mul_le_mul hn hW
 omega
theorem ze4 {l:List UInt8} {s:Bool} (h:(zp l).2.2.2.2≠0∨(zp l).1≠1):zbg l s=([],[],2):=by unfold zbg;rw [if_pos h]
theorem zh1 {l:List UInt8} {c m:Int} {r:List UInt8} {s:Bool} (h:zp l=(1,c,m,r,0)) {u:List Nat} {q:List UInt8} {x:Int} (hu:zh r m (wof c)=(u,q,x)) (hx:x≠0):zbg l s=([],[],2):=by
 unfold zbg
 rw [h]
 dsimp only
 rw [if_neg (by decide),hu]
 dsimp only
 rw [if_pos hx]
theorem zh2 {l:List UInt8} {c m:Int} {r:List UInt8} {s:Bool} (h:zp l=(1,c,m,r,0)) {u:List Nat} {q:List UInt8} (hu:zh r m (wof c)=(u,q,0)) (hm:zey u s=none):zbg l s=([],[],2):=by
 unfold zbg
 rw [h]
 dsimp only
 rw [if_neg (by decide),hu]
 dsimp only
 rw [if_neg (by decide),hm]
def RetIB (w:World) (p:List Int × List UInt8 × Int) (e:Ending) (w':World):Prop:=∃ u v,e=.returned (.tuple #[u,v,.int .i64 p.2.2])∧IsV iv p.1 u w'∧IsB p.2.1 v w'∧Below w.heap.size w w'
theorem RetIB.nil {w w':World} (n:Int) (hb:Below w.heap.size w w'):RetIB w ([],[],n) (.returned (.tuple #[.slice none 0 0,.slice none 0 0,.int .i64 n])) w':=⟨_,_,rfl,zgM _ _,zdz _,hb⟩
def RetIO (w:World) (p:List Int × List UInt8 × Int) (e:Ending) (w':World):Prop:=∃ u v,e=.returned (.tuple #[u,v,.int .i64 p.2.2])∧IsV iv p.1 u w'∧OwnB w p.2.1 v w'∧Below w.heap.size w w'
theorem RetIO.nil {w w':World} (n:Int) (hb:Below w.heap.size w w'):RetIO w ([],[],n) (.returned (.tuple #[.slice none 0 0,.slice none 0 0,.int .i64 n])) w':=⟨_,_,rfl,zgM _ _,OwnB.nil _ _,hb⟩
theorem RetIO.ib {w w':World} {p:List Int × List UInt8 × Int} {e:Ending} (h:RetIO w p e w'):RetIB w p e w':=by
 obtain ⟨u,v,h1,h2,h3,h4⟩:=h
 exact ⟨u,v,h1,h2,h3.isB,h4⟩
theorem zcG (l:List UInt8):0≤(zp l).1∧(zp l).1≤65536∧0≤(zp l).2.1∧(zp l).2.1≤31∧0≤(zp l).2.2.1∧(zp l).2.2.1≤512∧(zp l).2.2.2.1.length≤l.length:=by
 unfold zp
 split
 ·simp
 ·rename_i h
  have h1:=(zmz (l:=l) (by omega)).2
  dsimp only
  rw [List.length_drop]
  omega
theorem znq {l:List UInt8} {M W:Nat} (hW:W≤64):∀ x∈(zbo l M W).1,x < 2 ^ 64:=by
 intro x hx
 unfold zbo at hx
 split at hx
 ·simp at hx
 ·split at hx
  ·exact Nat.lt_of_lt_of_le (ziL x hx) (Nat.pow_le_pow_right (by omega) hW)
  ·simp at hx
theorem zjS {l:List UInt8} {M W:Nat}:(zbo l M W).1.length≤M:=by
 unfold zbo
 split
 ·simp
 ·split
  ·rw [zbH];exact Nat.le_refl _
  ·simp
theorem zZ {l:List UInt8} {M W:Int}:(∀ x∈(zh l M W).1,x < 2 ^ 64)∧(zh l M W).1.length≤4096:=by
 unfold zh
 split
 ·exact ⟨znq (by omega),Nat.le_trans zjS (by omega)⟩
 ·simp
theorem znr (l:List UInt8) (v:Value) (s:Bool) (w:World) (hv:IsB l v w) (hb:l.length≤1000000) :
  Calls Tryz.prog 63 #[v,.bool s] w (RetIO w (zbg l s)):=by
 have HLK:=Lib.hid (zfC l v w hv hb)
 obtain ⟨A,c,rfl,_⟩:=hv
 have hbd:=zcG l
 obtain ⟨K,C,M,r,x,hd⟩:∃ K C M r x,zp l=(K,C,M,r,x):=⟨_,_,_,_,_,rfl⟩
 rw [hd] at HLK hbd
 dsimp only at hbd
 obtain ⟨hK0,hK1,hC0,hC1,hM0,hM1,hr⟩:=hbd
 by_cases hx:x=0
 ·subst hx
  by_cases hK:K=1
  ·subst hK
   have HD:=Lib.hid hd
   obtain ⟨us,q,y,hu⟩:∃ us q y,zh r M (wof C)=(us,q,y):=⟨_,_,_,rfl⟩
   have hlt:=(zZ (l:=r) (M:=M) (W:=wof C)).1
   have hmany:=(zZ (l:=r) (M:=M) (W:=wof C)).2
   rw [hu] at hlt hmany
   dsimp only at hlt hmany
   have HU:=Lib.hid hu
   have HLT:=Lib.hid hlt
   have HOF:=Lib.hid (fun X=>zgC C X (by omega) (by omega))
   obtain ⟨W,hW⟩:∃ W,W=wof C:=⟨_,rfl⟩
   rw [←hW] at HOF HU
   have HUN:=Lib.hid (fun (u:Value) (X:World) (h:IsB r u X)=>zdF M W h (by omega))
   rw [HU.out] at HUN
   have HWW:=Lib.hid hW
   clear hd hu hlt hW
   by_cases hy:y=0
   ·subst hy
    have HMD:=Lib.hid (fun (u:Value) (X:World) (h:IsV uv us u X)=>zno us u s X h HLT.out (by omega))
    cases hm:zey us s with
    | none =>
     have hpe:zci us s=([],2):=by unfold zci;rw [hm]
     rw [hpe] at HMD
     have hE:=Lib.hid (zh2 (s:=s) HD.out (by rw [←HWW.out];exact HU.out) hm)
     clear hm hpe
     go_enter Tryz.func63,Tryz.ntmps63
     go_wp2_with fail
     refine HLK.out.mono ?_
     rintro e w1 ⟨rv,rfl,hrv,hb1⟩
     have HB1:=Lib.hid hb1
     have HRV:=Lib.hid hrv
     clear hb1 hrv
     go_wp2_with fail
     refine (HOF.out _).mono ?_
     rintro e w' ⟨rfl,rfl⟩
     go_wp2_with fail
     refine (HUN.out _ _ HRV.out).mono ?_
     rintro e w2 ⟨u2,q2,rfl,hu2,hq2,hb2⟩
     have HB2:=Lib.hid (za HB1.out hb2)
     have HI:=Lib.hid (zbi (f:=uv) hu2)
     have HQ:=Lib.hid (OwnB.base HB1.out.size hq2)
     clear hb2 hu2 hq2
     go_wp2_with fail
     refine (HMD.out _ _ HI.out).mono ?_
     rintro e w3 ⟨m,rfl,hm3,hb3⟩
     obtain ⟨A3,c3,rfl,_⟩:=hm3
     go_wp2
     go_ret3
     rw [hE.out]
     exact RetIO.nil _ (za HB2.out hb3)
    | some m =>
     have hpe:zci us s=(m,0):=by unfold zci;rw [hm]
     rw [hpe] at HMD
     have hE:=Lib.hid (zd7 (s:=s) HD.out (by rw [←HWW.out];exact HU.out) hm)
     clear hm hpe
     go_enter Tryz.func63,Tryz.ntmps63
     go_wp2_with fail
     refine HLK.out.mono ?_
     rintro e w1 ⟨rv,rfl,hrv,hb1⟩
     have HB1:=Lib.hid hb1
     have HRV:=Lib.hid hrv
     clear hb1 hrv
     go_wp2_with fail
     refine (HOF.out _).mono ?_
     rintro e w' ⟨rfl,rfl⟩
     go_wp2_with fail
     refine (HUN.out _ _ HRV.out).mono ?_
     rintro e w2 ⟨u2,q2,rfl,hu2,hq2,hb2⟩
     have HB2:=Lib.hid (za HB1.out hb2)
     have HI:=Lib.hid (zbi (f:=uv) hu2)
     have HQ:=Lib.hid (OwnB.base HB1.out.size hq2)
     clear hb2 hu2 hq2
     go_wp2_with fail
     refine (HMD.out _ _ HI.out).mono ?_
     rintro e w3 ⟨m3,rfl,hm3,hb3⟩
     have HQ3:=Lib.hid (HQ.out.below hb3)
     have HM3:=Lib.hid hm3
     have HB3:=Lib.hid (za HB2.out hb3)
     clear hm3 hb3
     go_wp2
     go_ret3
     rw [hE.out]
     exact ⟨_,_,rfl,HM3.out,HQ3.out,HB3.out⟩
   ·have hE:=Lib.hid (zh1 (s:=s) HD.out (by rw [←HWW.out];exact HU.out) hy)
    have d2:(y != 0)=true:=by simpa using hy
    go_enter Tryz.func63,Tryz.ntmps63
    go_wp2_with fail
    refine HLK.out.mono ?_
    rintro e w1 ⟨rv,rfl,hrv,hb1⟩
    have HB1:=Lib.hid hb1
    have HRV:=Lib.hid hrv
    clear hb1 hrv
    go_wp2_with fail
    refine (HOF.out _).mono ?_
    rintro e w' ⟨rfl,rfl⟩
    go_wp2_with fail
    refine (HUN.out _ _ HRV.out).mono ?_
    rintro e w2 ⟨u2,q2,rfl,hu2,hq2,hb2⟩
    have HB2:=Lib.hid (za HB1.out hb2)
    have HI:=Lib.hid (zbi (f:=uv) hu2)
    have HQ:=Lib.hid (OwnB.base HB1.out.size hq2)
    clear hb2 hu2 hq2
    go_wp2
    go_ret3
    rw [hE.out]
    exact RetIO.nil _ HB2.out
  ·have hE:=Lib.hid (ze4 (l:=l) (s:=s) (.inr (by rw [hd];exact hK)))
   have d1:(K != 1)=true:=by simpa using hK
   clear hd
   go_enter Tryz.func63,Tryz.ntmps63
   go_wp2_with fail
   refine HLK.out.mono ?_
   rintro e w1 ⟨rv,rfl,hrv,hb1⟩
   go_wp2
   go_ret3
   rw [hE.out]
   exact RetIO.nil _ hb1
 ·have hE:=Lib.hid (ze4 (l:=l) (s:=s) (.inl (by rw [hd];exact hx)))
  have d1:(x != 0)=true:=by simpa using hx
  clear hd
  go_enter Tryz.func63,Tryz.ntmps63
  go_wp2_with fail
  refine HLK.out.mono ?_
  rintro e w1 ⟨rv,rfl,hrv,hb1⟩
  go_wp2
  go_ret3
  rw [hE.out]
  exact RetIO.nil _ hb1
end Go.Proofs.YtblpkmmhmdpkjaaGreatDoor
namespace Go.Proofs.YtblpkmmhmdpkjaaGreatDoor
open Go.RowKit Go.ChangeShapes Go.WideShapes Go.ChangeAt
theorem gTab:Tryz.prog.globalNamed "pilaster/widths.table" = some 1:=by kernel_rfl
theorem tTab:(Tryz.prog.globals[1]?).map (·.type)=some 195:=by kernel_rfl
theorem zq8 (os:Os) (args:Array Value):laidMetH Tryz.prog [("pilaster/widths.table",Rows.laid_pilaster_widths_table)] ((World.doorLaid Tryz.prog 400 os).forCall (fun _ _=>0) ⟨#[],args,[]⟩).memory:=
 laidMetH_of_parts3 (fuel:=8) (laidMet_of_run' 8 (by kernel_rfl) (by kernel_rfl)) (by kernel_rfl) (by kernel_rfl)
theorem ztd {W:World} (h:laidMetH Tryz.prog [("pilaster/widths.table",Rows.laid_pilaster_widths_table)] W):WTab W:=by
 rw [MakeChecks.laidMetH_plain _ _ _ (by kernel_rfl)] at h
 exact zk2 (zs:=wtab) gTab tTab Tryz.underlying195 Tryz.underlying3 (by kernel_rfl) (by kernel_rfl) (by omega) h
end Go.Proofs.YtblpkmmhmdpkjaaGreatDoor
namespace Go.Proofs.YtblpkmmhmdpkjaaGreatDoor
theorem zq9 (n:Int) (w:Nat) (hw:w≤62):bits .and .i64 n (((2 ^ w - 1:Nat):Nat):Int)=n % ((2 ^ w:Nat):Int):=by
 have hW:2 ^ w≤2 ^ 62:=Nat.pow_le_pow_right (by omega) hw
 have hp:0 < 2 ^ w:=Nat.two_pow_pos w
 have h31:(BitVec.ofInt 64 ((2 ^ w - 1:Nat):Int)).toNat=2 ^ w - 1:=by
  rw [BitVec.ofInt_natCast,BitVec.toNat_ofNat]
  exact Nat.mod_eq_of_lt (by omega)
 have key:(BitVec.ofInt 64 n &&& BitVec.ofInt 64 ((2 ^ w - 1:Nat):Int)).toNat=(n % ((2 ^ 64:Nat):Int)).toNat % 2 ^ w:=by
  rw [BitVec.toNat_and,BitVec.toNat_ofInt,h31,Nat.and_two_pow_sub_one_eq_mod]
 have hdvd:((2 ^ w:Nat):Int) ∣ ((2 ^ 64:Nat):Int):=Int.natCast_dvd_natCast.2 (Nat.pow_dvd_pow 2 (by omega))
 have e1:(((n % ((2 ^ 64:Nat):Int)).toNat % 2 ^ w:Nat):Int)=n % ((2 ^ w:Nat):Int):=by
  rw [Int.natCast_emod,Int.toNat_of_nonneg (Int.emod_nonneg _ (by decide)),Int.emod_emod_of_dvd _ hdvd]
 show IntKind.i64.wrap ((BitVec.ofInt 64 n &&& BitVec.ofInt 64 ((2 ^ w - 1:Nat):Int)).toNat:Nat)=_
 rw [key,e1,IntKind.wrap_i64]
 have h1:=Int.emod_nonneg n (show ((2 ^ w:Nat):Int)≠0 by omega)
 have h2:=Int.emod_lt_of_pos n (show (0:Int) < ((2 ^ w:Nat):Int) by omega)
 omega
end Go.Proofs.YtblpkmmhmdpkjaaGreatDoor
namespace Go.Proofs.YtblpkmmhmdpkjaaGreatDoor
open Go.RowKit
def Fact.vals {α:Type} (f:α→Value) (l:List α):Fact:=⟨IsV f l,fun _ _ _ h hb=>h.below hb⟩
section
variable {P:Program} {o:Oper} {ρ:Operand→Value} {w:World} {R:Value→World→Prop}
theorem zeI {t t':TypeId} {x y:Operand} {a r:Int} {k:Nat} (ho:o.op=.binOp .shl t x y t') (hx:ρ x=.int .u64 a) (hy:ρ y=.int .i64 (k:Int)) (hk:k≤64) (h:IntKind.u64.wrap (a*2 ^ k)=r) (hR:R (.int .u64 r) w):zba P o ρ w R:=by
 refine zq (v:=.int .u64 r) (w':=w) ?_ hR
 simp [execOp,ho,hx,hy,go_sem,h]
theorem zlt {t t':TypeId} {x y:Operand} {a b r:Int} (ho:o.op=.binOp .and t x y t') (hx:ρ x=.int .u64 a) (hy:ρ y=.int .u64 b) (h:bits .and .u64 a b=r) (hR:R (.int .u64 r) w):zba P o ρ w R:=by
 refine zq (v:=.int .u64 r) (w':=w) ?_ hR
 simp [execOp,ho,hx,hy,go_sem,h]
theorem zck {s d:TypeId} {k k':IntKind} {x:Operand} {n r:Int} (ho:o.op=.convert s d x) (hx:ρ x=.int k n) (hs:(P.underlying s).isSome=true) (hd:P.underlying d=some (.int k')) (h:k'.wrap n=r) (hR:R (.int k' r) w):zba P o ρ w R:=by
 refine zK ho hx (v:=.int k' r) (w':=w) ?_ hR
 obtain ⟨e,he⟩:=Option.isSome_iff_exists.mp hs
 simp [convert,run_underlying he,run_underlying hd,Conv.intToInt,h]
end
theorem zgU {P:Program} {o:Oper} {ρ:Operand→Value} {w:World} {R:Value→World→Prop} {t t':TypeId} {x y:Operand} {a b r:Int} (ho:o.op=.binOp .xor t x y t') (hx:ρ x=.int .u64 a) (hy:ρ y=.int .u64 b) (h:bits .xor .u64 a b=r) (hR:R (.int .u64 r) w):zba P o ρ w R:=by
 refine zq (v:=.int .u64 r) (w':=w) ?_ hR
 simp [execOp,ho,hx,hy,go_sem,h]
theorem ze5 {P:Program} {w:World} {ops:Array Oper} {rest:List Oper} {o:Oper} {a:Act} {Q:Exit→Act→World→Prop} (hgd:o.guard=none) (t:TypeId) (x y z:Operand) (ho:o.op=.slice t x (some y) (some z) none)
  (v:Value) (hrun:(Instr.sliceAt t (a.eval x) (some (a.eval y)) (some (a.eval z)) none).run P w=.ok v w) (h:wpList P ops Q rest (a.put o.dst v) w):wpList P ops Q (o::rest) a w:=by
 refine wpList_plain hgd fun K hK=>?_
 unfold Oper.wp execOp
 simp only [ho,Option.map_some,Option.map_none,hrun,Sem.run_bind,Sem.run_pure,Result.andThen_ok]
 exact hK _ _ h
theorem zI {P:Program} {w:World} {ops:Array Oper} {rest:List Oper} {o:Oper} {a:Act} {Q:Exit→Act→World→Prop} (hgd:o.guard=none) (t:TypeId) (x y:Operand) (ho:o.op=.slice t x (some y) none none)
  (v:Value) (hrun:(Instr.sliceAt t (a.eval x) (some (a.eval y)) none none).run P w=.ok v w) (h:wpList P ops Q rest (a.put o.dst v) w):wpList P ops Q (o::rest) a w:=by
 refine wpList_plain hgd fun K hK=>?_
 unfold Oper.wp execOp
 simp only [ho,Option.map_some,Option.map_none,hrun,Sem.run_bind,Sem.run_pure,Result.andThen_ok]
 exact hK _ _ h
theorem zg {P:Program} {o:Oper} {ρ:Operand→Value} {w:World} {R:Value→World→Prop} {x:Operand} {i:Nat} {vs:Array Value} {v:Value} (ho:o.op=.extract x i) (hx:ρ x=.tuple vs) (hv:vs[i]? = some v) (hR:R v w):zba P o ρ w R:=by
 refine zq (v:=v) (w':=w) ?_ hR
 simp [execOp,ho,hx,hv,go_sem]
theorem zns (a b:Nat) (ha:a < 2 ^ 63) (hb:b < 2 ^ 63):bits .or .i64 (a:Int) (b:Int)=((a ||| b:Nat):Int):=by
 have h:=Nat.or_lt_two_pow ha hb
 show IntKind.i64.wrap ((BitVec.ofInt 64 (a:Int) ||| BitVec.ofInt 64 (b:Int)).toNat:Int)=_
 rw [BitVec.toNat_or,BitVec.ofInt_natCast,BitVec.ofInt_natCast,BitVec.toNat_ofNat,BitVec.toNat_ofNat,Nat.mod_eq_of_lt (by omega),Nat.mod_eq_of_lt (by omega),IntKind.wrap_i64]
 omega
theorem zjT (n Y P:Nat) (h0:Y % 2 ^ n=0) (h1:P < 2 ^ n) (h2:Y+P < 2 ^ 63):bits .or .i64 (Y:Int) (P:Int)=((Y+P:Nat):Int):=by
 rw [zns _ _ (by omega) (by omega),nat_join n Y P h0 h1]
theorem zh3 (n:Int) (w:World) (h0:1≤n) (h1:n≤512):Calls Tryz.prog 136 #[.int .i64 n] w fun e w'=>e=.returned (.bool true)∧w=w':=by
 go_enter Tryz.func136,Tryz.ntmps136
 go_wp2
 go_ret
 exact ⟨rfl,rfl⟩
theorem zjU (n:Int) (w:World) (h:n < 1∨512 < n):Calls Tryz.prog 136 #[.int .i64 n] w fun e w'=>e=.returned (.bool false)∧w=w':=by
 rcases h with h | h
 ·have h2:decide (1≤n)=false:=by simp;omega
  go_enter Tryz.func136,Tryz.ntmps136
  go_wp2
  go_ret
  exact ⟨rfl,rfl⟩
 ·have h2:decide (n≤512)=false:=by simp;omega
  have h3:decide (1≤n)=true:=by simp;omega
  go_enter Tryz.func136,Tryz.ntmps136
  go_wp2
  go_ret
  exact ⟨rfl,rfl⟩
theorem zsC:∀ c:Fin 32,0 < wof (c.val:Int):=by decide +kernel
theorem zra {c:Int}:wof c=0↔¬(0≤c∧c≤31):=by
 constructor
 ·rintro h ⟨h0,h1⟩
  obtain ⟨k,rfl⟩:=Int.eq_ofNat_of_zero_le h0
  have h2:=zsC ⟨k,by omega⟩
  dsimp only at h2
  rw [h] at h2
  exact absurd h2 (by decide)
 ·intro h
  exact zgz (by omega)
theorem zgV (k c m:Int) (w:World) (ht:WTab w) (hk:inInt k) (hc:inInt c) (hm:inInt m):Calls Tryz.prog 141 #[.int .i64 k,.int .i64 c,.int .i64 m] w (RetH w (znm k c m)):=by
 have HOF:=Lib.hid (zhL c w ht hc.1 hc.2)
 by_cases h0:k < 0
 ·have d0:decide (k < 0)=true:=decide_eq_true h0
  have hE:=Lib.hid (zgg (k:=k) (c:=c) (m:=m) (by omega))
  clear ht
  go_enter Tryz.func141,Tryz.ntmps141
  go_wp2
  go_ret
  rw [hE.out]
  exact ⟨_,rfl,World.ownsRow_nil _ _ _ _,Below.refl _ _⟩
 ·have d0:decide (k < 0)=false:=decide_eq_false h0
  by_cases h1:4≤k
  ·have d1:decide (4≤k)=true:=decide_eq_true h1
   have hE:=Lib.hid (zgg (k:=k) (c:=c) (m:=m) (by omega))
   clear ht
   go_enter Tryz.func141,Tryz.ntmps141
   go_wp2
   go_ret
   rw [hE.out]
   exact ⟨_,rfl,World.ownsRow_nil _ _ _ _,Below.refl _ _⟩
  ·have d1:decide (4≤k)=false:=decide_eq_false h1
   obtain ⟨W,hW⟩:∃ W,W=wof c:=⟨_,rfl⟩
   have hz:W=0↔¬(0≤c∧c≤31):=by rw [hW];exact zra
   rw [←hW] at HOF
   clear hW ht
   by_cases h2:W=0
   ·have hE:=Lib.hid (zgg (k:=k) (c:=c) (m:=m) (fun h=>(hz.1 h2) ⟨h.2.2.1,h.2.2.2.1⟩))
    have d2:(W == 0)=true:=by simpa using h2
    clear h2 hz
    go_enter Tryz.func141,Tryz.ntmps141
    go_wp2_with (go_at_call 145;refine HOF.out.mono ?_;rintro e w' ⟨rfl,rfl⟩)
    go_ret
    rw [hE.out]
    exact ⟨_,rfl,World.ownsRow_nil _ _ _ _,Below.refl _ _⟩
   ·have d2:(W == 0)=false:=by simpa using h2
    have hc2:0≤c∧c≤31:=Classical.not_not.1 (fun h=>h2 (hz.2 h))
    clear h2 hz
    by_cases h3:m < 1∨512 < m
    ·have hE:=Lib.hid (zgg (k:=k) (c:=c) (m:=m) (by omega))
     have HC:=Lib.hid (zjU m w h3)
     clear h3
     go_enter Tryz.func141,Tryz.ntmps141
     go_wp2_with (first | (go_at_call 145;refine HOF.out.mono ?_;rintro e w' ⟨rfl,rfl⟩) | (go_at_call 136;refine HC.out.mono ?_;rintro e w' ⟨rfl,rfl⟩))
     go_ret
     rw [hE.out]
     exact ⟨_,rfl,World.ownsRow_nil _ _ _ _,Below.refl _ _⟩
    ·have HC:=Lib.hid (zh3 m w (by omega) (by omega))
     obtain ⟨K,rfl⟩:=Int.eq_ofNat_of_zero_le (show 0≤k by omega)
     obtain ⟨C,rfl⟩:=Int.eq_ofNat_of_zero_le (show 0≤c by omega)
     obtain ⟨M,rfl⟩:=Int.eq_ofNat_of_zero_le (show 0≤m by omega)
     have hK:K≤3:=by omega
     have hC:C≤31:=by omega
     have hM1:1≤M:=by omega
     have hM:M≤512:=by omega
     obtain ⟨P,hP⟩:∃ P,M=P+1:=⟨M - 1,by omega⟩
     have hE:=Lib.hid (ze3 hK hC hM1 hM)
     obtain ⟨a1,ha1⟩:∃ a,a=16384*K:=⟨_,rfl⟩
     obtain ⟨a2,ha2⟩:∃ a,a=512*C:=⟨_,rfl⟩
     obtain ⟨Y,hY⟩:∃ Y,Y=a1+a2:=⟨_,rfl⟩
     obtain ⟨X,hX⟩:∃ X,X=Y+P:=⟨_,rfl⟩
     obtain ⟨H,hH⟩:∃ H,H=X / 256:=⟨_,rfl⟩
     obtain ⟨Z,hZ⟩:∃ Z,Z=X % 256:=⟨_,rfl⟩
     have s1:IntKind.i64.wrap ((K:Int)*2 ^ 14)=(a1:Int):=by rw [IntKind.wrap_i64];omega
     have s1':(K:Int)*16384=(a1:Int):=by omega
     have s2:IntKind.i64.wrap ((C:Int)*2 ^ 9)=(a2:Int):=by rw [IntKind.wrap_i64];omega
     have s2':(C:Int)*512=(a2:Int):=by omega
     have o1:bits .or .i64 (a1:Int) (a2:Int)=(Y:Int):=by rw [hY];exact zjT 14 a1 a2 (by omega) (by omega) (by omega)
     have o2:bits .or .i64 (Y:Int) (P:Int)=(X:Int):=by rw [hX];exact zjT 9 Y P (by omega) (by omega) (by omega)
     have hp:((P+1:Nat):Int) - 1=(P:Int):=by omega
     have q1:(X:Int) / 2 ^ 8=(H:Int):=by omega
     have q1':(X:Int) / 256=(H:Int):=by omega
     have w1:IntKind.u8.wrap (H:Int)=(H:Int):=by rw [IntKind.wrap_u8];omega
     have w2:IntKind.u8.wrap (X:Int)=(Z:Int):=by rw [IntKind.wrap_u8];omega
     have HT:=Lib.hid (znp (k:=K) (c:=C) (m:=M) (X:=X) (h:=H) (y:=Z) (by omega) hH hZ (by omega))
     subst hP
     have hown:=zsB w 5 [.int .u8 (H:Int),.int .u8 (Z:Int)] 2 rfl (by omega)
     rw [←HT.out] at hown
     have HOWN:=Lib.hid hown
     clear hown ha1 ha2 hY hX hH hZ hc2
     go_enter Tryz.func141,Tryz.ntmps141
     go_wp2_with (first | (go_at_call 145;refine HOF.out.mono ?_;rintro e w' ⟨rfl,rfl⟩) | (go_at_call 136;refine HC.out.mono ?_;rintro e w' ⟨rfl,rfl⟩))
     go_ret
     rw [hE.out]
     refine ⟨_,rfl,?_,(Below.refl _ _).alloc (Nat.le_refl _) _⟩
     have h:=HOWN.out
     rw [HT.out] at h
     rw [zT,HT.out]
     exact h
def RetS (w:World) (l:List UInt8) (e:Ending) (w':World):Prop:=∃ v,e=.returned v∧IsB l v w'∧Below w.heap.size w w'
theorem zjV (k c m:Int) (w:World) (ht:WTab w) (hk:inInt k) (hc:inInt c) (hm:inInt m):Calls Tryz.prog 141 #[.int .i64 k,.int .i64 c,.int .i64 m] w (RetS w (znm k c m)):=
 (zgV k c m w ht hk hc hm).mono fun _ _ ⟨v,h1,h2,h3⟩=>⟨v,h1,zcz h2,h3⟩
theorem zmB (A:Option Addr) (n c:Nat) (w:World) (h:n < 2):Calls Tryz.prog 143 #[.slice A n c] w fun e w'=>e=.returned (.tuple #[.int .i64 0,.int .i64 0,.int .i64 0,.bool false])∧Below w.heap.size w w':=by
 have d1:decide ((n:Int) < 2)=true:=decide_eq_true (by omega)
 go_enter Tryz.func143,Tryz.ntmps143
 go_wp2
 refine bodyPost_ret (zV rfl _ _ _) rfl ?_
 exact ⟨rfl,Below.refl _ _⟩
theorem zjW (A:Option Addr) (n c K C M:Nat) (l:List UInt8) (w:World) (hl:Lies w A (l.map bv)) (hn:l.length=n) (h2:2≤n) (hb:n≤1000000)
  (hK:zp l=((K:Int),(C:Int),(M:Int),l.drop 2,0)):Calls Tryz.prog 143 #[.slice A n c] w fun e w'=>e=.returned (.tuple #[.int .i64 (K:Int),.int .i64 (C:Int),.int .i64 (M:Int),.bool true])∧Below w.heap.size w w':=by
 have d1:decide ((n:Int) < 2)=false:=decide_eq_false (by omega)
 have hl2:2≤l.length:=by omega
 obtain ⟨ad,rfl,_,hcell0⟩:=hl.cell (k:=0) (by rw [List.length_map];omega)
 obtain ⟨_,hAd,_,hcell1⟩:=hl.cell (k:=1) (by rw [List.length_map];omega)
 injection hAd with hAd
 subst hAd
 obtain ⟨x,hx⟩:∃ x:Nat,x=l[0].toNat:=⟨_,rfl⟩
 obtain ⟨y,hy⟩:∃ y:Nat,y=l[1].toNat:=⟨_,rfl⟩
 have hx8:x < 256:=by rw [hx];exact UInt8.toNat_lt _
 have hy8:y < 256:=by rw [hy];exact UInt8.toNat_lt _
 have hc0:w.cell? ad=some (.int .u8 (x:Int)):=by
  have e:ad.add 0=ad:=by simp [Addr.add]
  rw [e] at hcell0
  rw [hcell0,List.getElem_map,hx];rfl
 have hc1:w.cell? ⟨ad.block,ad.off+1,none⟩=some (.int .u8 (y:Int)):=by
  have e:ad.add 1=⟨ad.block,ad.off+1,none⟩:=by simp [Addr.add]
  rw [e] at hcell1
  rw [hcell1,List.getElem_map,hy];rfl
 obtain ⟨X,hX⟩:∃ X,X=256*x+y:=⟨_,rfl⟩
 rw [zen hl2 (show X=256*l[0].toNat+l[1].toNat by rw [hX,hx,hy])] at hK
 injection hK with hK1 hK
 injection hK with hK2 hK
 injection hK with hK3 _
 have k1:X / 16384=K:=by omega
 have k2:X / 512 % 32=C:=by omega
 have k3:X % 512+1=M:=by omega
 obtain ⟨Y,hY⟩:∃ Y,Y=256*x:=⟨_,rfl⟩
 obtain ⟨Q,hQ⟩:∃ Q,Q=X / 512:=⟨_,rfl⟩
 obtain ⟨P,hP⟩:∃ P,P=X % 512:=⟨_,rfl⟩
 have v1:IntKind.i64.wrap (x:Int)=(x:Int):=by rw [IntKind.wrap_i64];omega
 have v2:IntKind.i64.wrap (y:Int)=(y:Int):=by rw [IntKind.wrap_i64];omega
 have s1:IntKind.i64.wrap ((x:Int)*2 ^ 8)=(Y:Int):=by rw [IntKind.wrap_i64];omega
 have s1':(x:Int)*256=(Y:Int):=by omega
 have o1:bits .or .i64 (Y:Int) (y:Int)=(X:Int):=by rw [hX,←hY];exact zjT 8 Y y (by omega) (by omega) (by omega)
 have q1:(X:Int) / 2 ^ 14=(K:Int):=by omega
 have q1':(X:Int) / 16384=(K:Int):=by omega
 have q2:(X:Int) / 2 ^ 9=(Q:Int):=by omega
 have q2':(X:Int) / 512=(Q:Int):=by omega
 have a1:bits .and .i64 (Q:Int) 31=(C:Int):=by rw [ziD];omega
 have a2:bits .and .i64 (X:Int) 511=(P:Int):=by
  have h:=zq9 (X:Int) 9 (by omega)
  rw [show ((2 ^ 9 - 1:Nat):Int)=511 from rfl,show ((2 ^ 9:Nat):Int)=512 from rfl] at h
  rw [h];omega
 have p1:(P:Int)+1=(M:Int):=by omega
 have hn0:(0:Int) < (n:Int):=by omega
 have hn1:(1:Int) < (n:Int):=by omega
 have hM:M≤512:=by omega
 clear hX hx hy hY hQ hP k1 k2 k3 hK1 hK2 hK3 hl hn hl2 hcell0 hcell1
 go_enter Tryz.func143,Tryz.ntmps143
 go_wp2
 go_quiet (fail)
 go_wp2
 refine bodyPost_ret (zV rfl _ _ _) rfl ?_
 exact ⟨rfl,below_drewN (Below.refl _ _) nq⟩
theorem zgh (l:List UInt8):(l.length < 2∧zp l=(0,0,0,[],2))∨(2≤l.length∧∃ K C M:Nat,K≤3∧C≤31∧1≤M∧M≤512∧zp l=((K:Int),(C:Int),(M:Int),l.drop 2,0)):=by
 by_cases h:l.length < 2
 ·exact .inl ⟨h,zeH h⟩
 ·have h2:2≤l.length:=by omega
  have hx:l[0].toNat < 256:=UInt8.toNat_lt _
  have hy:l[1].toNat < 256:=UInt8.toNat_lt _
  exact .inr ⟨h2,_,_,_,by omega,by omega,by omega,by omega,zen h2 rfl⟩
theorem zgW (l:List UInt8) (v:Value) (w:World) (hv:IsB l v w) (hb:l.length≤1000000):Calls Tryz.prog 154 #[v] w (RetK w (zp l)):=by
 obtain ⟨A,c,rfl,hA,hnc,hcm,hl⟩:=hv
 obtain ⟨n,hn⟩:∃ n,n=l.length:=⟨_,rfl⟩
 rw [←hn] at hA hnc hb ⊢
 have hci:(c:Int)≤9223372036854775807:=by unfold maxLen at hcm;omega
 rcases zgh l with ⟨h2,hd⟩ | ⟨h2,K,C,M,hK,hC,hM1,hM,hd⟩
 ·have HR:=Lib.hid (zmB A n c w (by omega))
  have hE:=Lib.hid hd
  clear hd hl hn hA
  go_enter Tryz.func154,Tryz.ntmps154
  go_wp2_with fail
  refine HR.out.mono ?_
  rintro e w1 ⟨rfl,hb1⟩
  go_wp2
  refine bodyPost_ret (zc0 rfl _ _ _) rfl ?_
  rw [hE.out]
  exact ⟨_,rfl,zdz _,hb1⟩
 ·rw [←hn] at h2
  have HR:=Lib.hid (zjW A n c K C M l w hl hn.symm h2 hb hd)
  have hE:=Lib.hid hd
  obtain ⟨N,hN⟩:∃ N,N=n - 2:=⟨_,rfl⟩
  have HF:=Lib.hid fun (W:World) (h:Below w.heap.size w W)=>zbr (P:=Tryz.prog) elemB (k:=2) (by omega) hnc hcm hn.symm (hl.below h) hA
  rw [show ((2:Nat):Int)=2 from rfl] at HF
  have HPM:=Lib.hid (show ((l.drop 2).map bv).length=N by rw [List.length_map,List.length_drop];omega)
  have HL:=Lib.hid (show (l.drop 2).length=N by rw [List.length_drop];omega)
  have hN6:N≤1000000:=by omega
  clear hd hl hn hA hN
  go_enter Tryz.func154,Tryz.ntmps154
  go_wp2_with fail
  refine HR.out.mono ?_
  rintro e w1 ⟨rfl,hb1⟩
  obtain ⟨v3,hv3,A3,c3,e3,hA3,_,_,hl3⟩:=HF.out w1 hb1
  rw [HL.out] at e3 hA3
  subst e3
  have HB1:=Lib.hid hb1
  clear hb1
  go_wp2_with (first | (refine zI rfl _ _ _ rfl _ (hv3 _) ?_) | (at_builtin;refine zo elemB rfl _ _ rfl w1.heap.size _ _ _ _ _ _ ((l.drop 2).map bv) w1 rfl rfl hA3 HPM.out hl3 (zcb _) (World.ownsRow_nil _ _ _ _) (Below.refl _ _) (Nat.le_refl _) (by omega) (by omega) ?_))
  intro v5 w5 hown5 hb5 _ _
  rw [←List.map_drop] at hown5
  have HI5:=Lib.hid (show IsB (l.drop 2) v5 w5 from zcz hown5)
  have HB5:=Lib.hid (za HB1.out hb5)
  clear hown5 hb5
  go_wp2
  refine bodyPost_ret (zc0 rfl _ _ _) rfl ?_
  rw [hE.out]
  exact ⟨_,rfl,HI5.out,HB5.out⟩
def zdc {α β:Type} (f:α→Option β) (enc:β→Value) (z:Value) (t:TypeId) (l:List α) (w:World) (i:Value) (wr:World):Prop:=
 ∃ (k:Nat) (acc:List β),k≤l.length∧i=.int .i64 (k:Int)∧omap f (l.take k)=some acc∧Row wr w.heap.size t (acc.map enc ++ List.replicate (l.length - k) z)∧Below w.heap.size w wr
theorem zcQ {β:Type} {enc:β→Value} {z:Value} {acc:List β} {y:β} {n k:Nat} (hk:k < n) (ha:acc.length=k):(acc.map enc ++ List.replicate (n - k) z).set k (enc y)=(acc ++ [y]).map enc ++ List.replicate (n - (k+1)) z:=by
 have hl:(acc.map enc).length=k:=by rw [List.length_map,ha]
 rw [List.set_append_right _ _ (by omega),hl,Nat.sub_self,show n - k=n - (k+1)+1 by omega,List.replicate_succ,List.set_cons_zero,List.map_append,List.append_assoc]
 rfl
theorem znt (l:List Int) (v:Value) (s:Bool) (w:World) (hv:IsV iv l v w) (hl:∀ x∈l,inInt x) (hb:l.length≤1000000):Calls Tryz.prog 137 #[v,.bool s] w (RetV uv w (zdG l s)):=by
 obtain ⟨A,c,rfl,hA,hnc,hcm,hlw⟩:=hv
 obtain ⟨n,hn⟩:∃ n,n=l.length:=⟨_,rfl⟩
 rw [←hn] at hA hnc hb ⊢
 have HN:=Lib.hid hn
 have HL:=Lib.hid hlw
 have HI:=Lib.hid hl
 clear hn hlw hl hcm hA
 go_enter Tryz.func137,Tryz.ntmps137
 go_wp2_with (refine zA elemU rfl _ _ rfl _ _ _ _ n w w.heap.size rfl rfl rfl rfl (by omega) (by omega) (Below.refl _ _) (Nat.le_refl _) ?_)
 intro w1 hr1 hb1
 have hst:zdc (zD · s) uv (uv 0) 101 l w (.int .i64 0) w1:=⟨0,[],by omega,rfl,rfl,by rw [Nat.sub_zero,←HN.out];simpa [iv,uv] using hr1,hb1⟩
 clear hr1 hb1
 go_wp2
 go_loopw [14] (zdc (zD · s) uv (uv 0) 101 l w) (fun i _=>n - (intOf i).toNat)
 case atStart=>exact hst
 case round =>
  obtain ⟨k,acc,hk,rfl,hacc,hr,hbw⟩:=hrel
  have hz:=hbw.size
  have hal:acc.length=k:=by rw [zb4 hacc,List.length_take];omega
  rw [←HN.out] at hr
  have HACC:=Lib.hid hacc
  have HAL:=Lib.hid hal
  have hk':k≤n:=by have:=HN.out;omega
  clear hst hacc hal
  by_cases hlt:k < n
  ·have hkl:k < l.length:=by have:=HN.out;omega
   have hlti:(k:Int) < (n:Int):=by omega
   obtain ⟨ad,rfl,_,hcell⟩:=(HL.out.below hbw).cell (k:=k) (by rw [List.length_map];exact hkl)
   obtain ⟨x,hx⟩:∃ x,x=l[k]:=⟨_,rfl⟩
   have hcx:wr.cell? (ad.add k)=some (.int .i64 (x)):=by rw [hcell,List.getElem_map,hx];rfl
   have hxb:inInt x:=by rw [hx];exact HI.out _ (List.getElem_mem hkl)
   have HX:=Lib.hid hx
   clear hx hcell
   have hfx:=hr.free k
   have hgr:=hr.lt
   have hcu:∃ u,wr.cell? ⟨w.heap.size,k,none⟩=some u:=by
    rw [hr.cell]
    exact ⟨_,List.getElem?_eq_getElem (by rw [List.length_append,List.length_map,List.length_replicate];have:=HAL.out;omega)⟩
   obtain ⟨u0,hcu⟩:=hcu
   cases he:zD x s with
   | none =>
    have hE:Hid (zdG l s=([],1)):=Lib.hid (by
     have h1:zG l s=none:=zb0 (x:=x) (by rw [HX.out];exact List.getElem_mem hkl) he
     unfold zdG;rw [h1])
    cases s with
    | true=>unfold zD at he;rw [if_pos rfl] at he;cases he
    | false =>
     have hx0:x < 0:=by
      unfold zD at he
      rw [if_neg (by simp)] at he
      by_cases h:0≤x
      ·rw [if_pos h] at he;cases he
      ·omega
     have d3:decide (x < 0)=true:=decide_eq_true hx0
     clear he
     go_wp2
     go_ret2
     rw [hE.out]
     exact RetV.nil _ hbw
   | some u =>
    have hnext:Hid (omap (zD · s) (l.take (k+1))=some (acc ++ [u])):=Lib.hid (zcP hkl HACC.out (by rw [←HX.out];exact he))
    have hset:=hr.set_ k (uv u)
    rw [zcQ hlt HAL.out] at hset
    have HSET:=Lib.hid hset
    have HB3:=Lib.hid (hbw.setCell (p:=⟨w.heap.size,k,none⟩) (Nat.le_refl _) (uv u))
    clear hset hr hbw hz
    cases s with
    | true =>
     have hu:vzig x=(u:Int):=by
      unfold zD at he
      rw [if_pos rfl] at he
      injection he with he
      have:=zd5 hxb.1 hxb.2
      omega
     have HZ:=Lib.hid (zlk x wr hxb.1 hxb.2)
     rw [hu] at HZ
     clear he hu
     go_wp2_with (go_at_call 165;refine HZ.out.mono ?_;rintro e w' ⟨rfl,rfl⟩)
     go_roundw
     case rel=>exact ⟨k+1,_,by have:=HN.out;omega,by go_num,hnext.out,by rw [←HN.out];exact HSET.out,HB3.out⟩
     case measure=>simp [intOf];omega
    | false =>
     have hx0:0≤x∧x=(u:Int):=by
      unfold zD at he
      rw [if_neg (by simp)] at he
      by_cases h:0≤x
      ·rw [if_pos h] at he;injection he with he;omega
      ·rw [if_neg h] at he;cases he
     obtain ⟨h0,hxu⟩:=hx0
     have hxu63:x≤9223372036854775807:=hxb.2
     have HX2:=HX.out
     subst hxu
     have d3:decide ((u:Int) < 0)=false:=decide_eq_false (by omega)
     have hw:IntKind.u64.wrap (u:Int)=(u:Int):=by rw [IntKind.wrap_u64];omega
     clear he HX2 hxb hxu63
     go_wp2
     go_roundw
     case rel=>exact ⟨k+1,_,by have:=HN.out;omega,by go_num,hnext.out,by rw [←HN.out];exact HSET.out,HB3.out⟩
     case measure=>simp [intOf];omega
  ·obtain rfl:k=n:=by omega
   have hlti:¬(k:Int) < (k:Int):=by omega
   have hE:Hid (zdG l s=(acc,0)):=Lib.hid (by
    have h1:=HACC.out
    rw [List.take_of_length_le (by have:=HN.out;omega)] at h1
    unfold zdG zG;rw [h1])
   rw [Nat.sub_self,List.replicate_zero,List.append_nil] at hr
   have HR:=Lib.hid (zcB hr HAL.out (by omega))
   go_wp2
   go_ret2
   rw [hE.out]
   exact ⟨_,rfl,HR.out,hbw⟩
theorem zo6 (l:List Nat) (v:Value) (s:Bool) (w:World) (hv:IsV uv l v w) (hl:∀ x∈l,x < 2 ^ 64) (hb:l.length≤1000000):Calls Tryz.prog 146 #[v,.bool s] w (RetV iv w (zci l s)):=by
 obtain ⟨A,c,rfl,hA,hnc,hcm,hlw⟩:=hv
 obtain ⟨n,hn⟩:∃ n,n=l.length:=⟨_,rfl⟩
 rw [←hn] at hA hnc hb ⊢
 have HN:=Lib.hid hn
 have HL:=Lib.hid hlw
 have HI:=Lib.hid hl
 clear hn hlw hl hcm hA
 go_enter Tryz.func146,Tryz.ntmps146
 go_wp2_with (refine zA zdk rfl _ _ rfl _ _ _ _ n w w.heap.size rfl rfl rfl rfl (by omega) (by omega) (Below.refl _ _) (Nat.le_refl _) ?_)
 intro w1 hr1 hb1
 have hst:zdc (zbe · s) iv (iv 0) 3 l w (.int .i64 0) w1:=⟨0,[],by omega,rfl,rfl,by rw [Nat.sub_zero,←HN.out];simpa [iv,uv] using hr1,hb1⟩
 clear hr1 hb1
 go_wp2
 go_loopw [14] (zdc (zbe · s) iv (iv 0) 3 l w) (fun i _=>n - (intOf i).toNat)
 case atStart=>exact hst
 case round =>
  obtain ⟨k,acc,hk,rfl,hacc,hr,hbw⟩:=hrel
  have hz:=hbw.size
  have hal:acc.length=k:=by rw [zb4 hacc,List.length_take];omega
  rw [←HN.out] at hr
  have HACC:=Lib.hid hacc
  have HAL:=Lib.hid hal
  have hk':k≤n:=by have:=HN.out;omega
  clear hst hacc hal
  by_cases hlt:k < n
  ·have hkl:k < l.length:=by have:=HN.out;omega
   have hlti:(k:Int) < (n:Int):=by omega
   obtain ⟨ad,rfl,_,hcell⟩:=(HL.out.below hbw).cell (k:=k) (by rw [List.length_map];exact hkl)
   obtain ⟨x,hx⟩:∃ x,x=l[k]:=⟨_,rfl⟩
   have hcx:wr.cell? (ad.add k)=some (.int .u64 (x:Int)):=by rw [hcell,List.getElem_map,hx];rfl
   have hxb:x < 2 ^ 64:=by rw [hx];exact HI.out _ (List.getElem_mem hkl)
   have HX:=Lib.hid hx
   clear hx hcell
   have hfx:=hr.free k
   have hgr:=hr.lt
   have hcu:∃ u,wr.cell? ⟨w.heap.size,k,none⟩=some u:=by
    rw [hr.cell]
    exact ⟨_,List.getElem?_eq_getElem (by rw [List.length_append,List.length_map,List.length_replicate];have:=HAL.out;omega)⟩
   obtain ⟨u0,hcu⟩:=hcu
   cases he:zbe x s with
   | none =>
    have hE:Hid (zci l s=([],2)):=Lib.hid (by
     have h1:zey l s=none:=zb0 (x:=x) (by rw [HX.out];exact List.getElem_mem hkl) he
     unfold zci;rw [h1])
    cases s with
    | true=>unfold zbe at he;rw [if_pos rfl] at he;cases he
    | false =>
     have hx0:9223372036854775808≤(x:Int):=by
      unfold zbe at he
      rw [if_neg (by simp)] at he
      by_cases h:x < 9223372036854775808
      ·rw [if_pos h] at he;cases he
      ·omega
     have d3:decide ((9223372036854775807:Int) < (x:Int))=true:=decide_eq_true (by omega)
     clear he hx0 hxb
     go_wp2
     go_ret2
     rw [hE.out]
     exact RetV.nil _ hbw
   | some u =>
    have hnext:Hid (omap (zbe · s) (l.take (k+1))=some (acc ++ [u])):=Lib.hid (zcP hkl HACC.out (by rw [←HX.out];exact he))
    have hset:=hr.set_ k (iv u)
    rw [zcQ hlt HAL.out] at hset
    have HSET:=Lib.hid hset
    have HB3:=Lib.hid (hbw.setCell (p:=⟨w.heap.size,k,none⟩) (Nat.le_refl _) (iv u))
    clear hset hr hbw hz
    cases s with
    | true =>
     have hu:vzag (x:Int)=u:=by
      unfold zbe at he
      rw [if_pos rfl] at he
      injection he with he
     have HZ:=Lib.hid (zll (x:Int) wr (by omega) (by omega))
     rw [hu] at HZ
     clear he hu hxb
     go_wp2_with (go_at_call 177;refine HZ.out.mono ?_;rintro e w' ⟨rfl,rfl⟩)
     go_roundw
     case rel=>exact ⟨k+1,_,by have:=HN.out;omega,by go_num,hnext.out,by rw [←HN.out];exact HSET.out,HB3.out⟩
     case measure=>simp [intOf];omega
    | false =>
     have hx0:(x:Int)≤9223372036854775807∧u=(x:Int):=by
      unfold zbe at he
      rw [if_neg (by simp)] at he
      by_cases h:x < 9223372036854775808
      ·rw [if_pos h] at he;injection he with he;omega
      ·rw [if_neg h] at he;cases he
     obtain ⟨h0,rfl⟩:=hx0
     have d3:decide ((9223372036854775807:Int) < (x:Int))=false:=decide_eq_false (by omega)
     have hw:IntKind.i64.wrap (x:Int)=(x:Int):=by rw [IntKind.wrap_i64];omega
     clear he hxb h0
     go_wp2
     go_roundw
     case rel=>exact ⟨k+1,_,by have:=HN.out;omega,by go_num,hnext.out,by rw [←HN.out];exact HSET.out,HB3.out⟩
     case measure=>simp [intOf];omega
  ·obtain rfl:k=n:=by omega
   have hlti:¬(k:Int) < (k:Int):=by omega
   have hE:Hid (zci l s=(acc,0)):=Lib.hid (by
    have h1:=HACC.out
    rw [List.take_of_length_le (by have:=HN.out;omega)] at h1
    unfold zci zey;rw [h1])
   rw [Nat.sub_self,List.replicate_zero,List.append_nil] at hr
   have HR:=Lib.hid (zcB hr HAL.out (by omega))
   go_wp2
   go_ret2
   rw [hE.out]
   exact ⟨_,rfl,HR.out,hbw⟩
theorem zlu {l:List Nat} {v:Value} {w:World} (h:IsV uv l v w) (hb:l.length≤1000000) (h64:∀ x∈l,x < 2 ^ 64):Calls Tryz.prog 139 #[v] w fun e w'=>e=.returned (.int .i64 (zbS l:Int))∧w=w':=by
 obtain ⟨A,c,rfl,h2,h3,h4,h5⟩:=h
 exact zmi A _ c l w h2 rfl h3 hb h5 h64
theorem zrb (l:List Int) (v:Value) (s:Bool) (w:World) (ht:WTab w) (hv:IsV iv l v w) (hl:∀ x∈l,inInt x) (hb:l.length≤1000000) :
  Calls Tryz.prog 124 #[v,.bool s] w (RetE w (zdH l s)):=by
 have HP:=Lib.hid (znt l v s w hv hl hb)
 obtain ⟨A,c,rfl,hA,hnc,hcm,hlw⟩:=hv
 obtain ⟨n,hn⟩:∃ n,n=l.length:=⟨_,rfl⟩
 rw [←hn] at hA hnc hb HP ⊢
 by_cases hlen:n < 1∨512 < n
 ·have hE:=Lib.hid (zo5 (l:=l) (s:=s) (by omega))
  have HC:=Lib.hid (zjU (n:Int) w (by omega))
  clear hn hlw hcm hA hlen ht
  go_enter Tryz.func124,Tryz.ntmps124
  go_wp2_with (go_at_call 136;refine HC.out.mono ?_;rintro e w' ⟨rfl,rfl⟩)
  go_ret2
  rw [hE.out]
  exact RetE.nil _ (Below.refl _ _)
 ·have HC:=Lib.hid (zh3 (n:Int) w (by omega) (by omega))
  cases hd:zG l s with
  | none =>
   have hE:=Lib.hid (zq7 hd)
   have hpe:zdG l s=([],1):=by unfold zdG;rw [hd]
   rw [hpe] at HP
   clear hn hlw hcm hA hd hpe ht
   go_enter Tryz.func124,Tryz.ntmps124
   go_wp2_with (first | (go_at_call 136;refine HC.out.mono ?_;rintro e w' ⟨rfl,rfl⟩) | (go_at_call 137;refine HP.out.mono ?_))
   rintro e w1 ⟨u,rfl,hu,hb1⟩
   obtain ⟨A1,c1,rfl,_⟩:=hu
   go_wp2
   go_ret2
   rw [hE.out]
   exact RetE.nil _ hb1
  | some us =>
   have hpe:zdG l s=(us,0):=by unfold zdG;rw [hd]
   rw [hpe] at HP
   have H64:=Lib.hid (ze2 hl hd)
   have hul:=zdm hd
   rw [←hn] at hul
   have hE:=Lib.hid (zmA hd (by omega) (by omega))
   have hus:us.length≤512:=by omega
   have HUL:=Lib.hid hul
   obtain ⟨W,hW⟩:∃ W,W=zeG us:=⟨_,rfl⟩
   obtain ⟨C,hC⟩:∃ C,C=zjR us:=⟨_,rfl⟩
   have HW:=Lib.hid hW
   have HC2:=Lib.hid hC
   have HCL:=Lib.hid (fun X (h:WTab X)=>zdB (zbS us:Int) X h)
   rw [zgR,←hW] at HCL
   have HPK:=Lib.hid (fun (u:Value) (X:World) (h:IsV uv us u X)=>zle (W:Int) (isU_iff.2 h) (by omega) H64.out)
   rw [hW,ztc H64.out,←hW] at HPK
   obtain ⟨hci,hc31,_⟩:=zgS H64.out
   have HCD:=Lib.hid (fun X (h:WTab X)=>zeY (W:Int) X h)
   rw [hW,hci,←hC,←hW] at HCD
   have HHD:=Lib.hid (fun X (h:WTab X)=>zgV 1 (C:Int) (n:Int) X h (by unfold inInt;omega) (by unfold inInt;omega) (by unfold inInt;omega))
   rw [show (1:Int)=((1:Nat):Int) from rfl,ze3 (by omega) (by rw [hC];exact hc31) (by omega) (by omega),show ((1:Nat):Int)=(1:Int) from rfl] at HHD
   have hsz:(zby us W).length≤4096:=by rw [zcL];exact zgT hus (by rw [hW];exact (zel H64.out).2.1)
   have HT:=Lib.hid ht
   clear hn hlw hcm hA hd hpe hul hW hC hci hc31 hlen ht
   go_enter Tryz.func124,Tryz.ntmps124
   go_wp2_with (first | (go_at_call 136;refine HC.out.mono ?_;rintro e w' ⟨rfl,rfl⟩) | (go_at_call 137;refine HP.out.mono ?_))
   rintro e w1 ⟨u,rfl,hu,hb1⟩
   obtain ⟨A1,c1,rfl,hr⟩:=hu
   have hu:IsV uv us (.slice A1 us.length c1) w1:=⟨A1,c1,rfl,hr⟩
   have HB1:=Lib.hid hb1
   have HM:=Lib.hid (zlu hu (by omega) H64.out)
   have HPK1:=Lib.hid (HPK.out _ w1 hu)
   have HCL1:=Lib.hid (HCL.out w1 (HT.out.below hb1 HT.out.lt))
   clear hb1 hr hu
   go_wp2_with (first | (go_at_call 139;refine HM.out.mono ?_;rintro e w' ⟨rfl,rfl⟩) | (go_at_call 138;refine HCL1.out.mono ?_;rintro e w' ⟨rfl,rfl⟩) | (go_at_call 140;refine HPK1.out.mono ?_))
   rintro e w2 ⟨pk,rfl,hpk,hb2⟩
   obtain ⟨A2,c2,rfl,hA2,hn2,hm2,hl2⟩:=hpk
   have hb02:=za HB1.out hb2
   have HB2:=Lib.hid hb02
   have HCD2:=Lib.hid (HCD.out w2 (HT.out.below hb02 HT.out.lt))
   have HHD2:=Lib.hid (HHD.out w2 (HT.out.below hb02 HT.out.lt))
   clear hb2 hb02
   go_wp2_with (first | (go_at_call 142;refine HCD2.out.mono ?_;rintro e w' ⟨rfl,rfl⟩) | (go_at_call 141;refine HHD2.out.mono ?_))
   rintro e w3 ⟨hv3,rfl,hh,hb3⟩
   rw [zT] at hh
   have hz3:=hb3.size
   have hl3:=hl2.below hb3
   have HB3:=Lib.hid (za HB2.out hb3)
   obtain ⟨pl,hpl⟩:∃ pl,pl=(zby us W).length:=⟨_,rfl⟩
   have hpm:((zby us W).map bv).length=pl:=by rw [List.length_map,hpl]
   have HPM:=Lib.hid hpm
   rw [←hpl] at hsz hA2 hn2 ⊢
   have HPL:=Lib.hid hpl
   obtain ⟨xs,hxs⟩:∃ xs,xs=(zz 1 C n).map bv:=⟨_,rfl⟩
   rw [←hxs] at hh
   have HXS:=Lib.hid hxs
   clear hpm hpl hxs
   go_wp2_with (at_builtin;refine zo elemB rfl _ _ rfl w2.heap.size _ _ _ _ _ _ ((zby us W).map bv) w2 rfl rfl hA2 HPM.out hl3 (zcb _) hh hb3 hz3 (by omega) (by omega) ?_)
   intro v4 w4 hown4 hb4 _ _
   have HO:=Lib.hid (show IsB (dlay us) v4 w4 by
    have e1:dlay us=zz 1 C n ++ zby us W:=by unfold dlay;rw [HUL.out,←HC2.out,←HW.out]
    rw [e1]
    refine zcz (n:=2+pl) (base:=w2.heap.size) (e:=5) ?_
    rw [List.map_append,←HXS.out]
    exact hown4)
   have HB4:=Lib.hid (za HB2.out hb4)
   clear hown4 hb4 hh hb3 hz3 hl3
   go_wp2
   go_ret2
   rw [hE.out]
   exact ⟨_,rfl,HO.out,HB4.out⟩
def Fact.taken (w0:World) (us:List Nat) (q:List UInt8) (y:Int):Fact:=⟨fun v w=>∃ u r,v=.tuple #[u,r,.int .i64 y]∧IsV uv us u w∧OwnB w0 q r w,fun _ _ _ ⟨u,r,h1,h2,h3⟩ hb=>⟨u,r,h1,h2.below hb,h3.below hb⟩⟩
def Fact.ownB (w0:World) (q:List UInt8):Fact:=⟨OwnB w0 q,fun _ _ _ h hb=>h.below hb⟩
theorem zo7 (l:List UInt8) (v:Value) (s:Bool) (w:World) (ht:WTab w) (hv:IsB l v w) (hb:l.length≤1000000) :
  Calls Tryz.prog 125 #[v,.bool s] w (RetIO w (zbg l s)):=by
 obtain ⟨A,c,rfl,hA,hnc,hcm,hl⟩:=hv
 obtain ⟨n,hn⟩:∃ n,n=l.length:=⟨_,rfl⟩
 rw [←hn] at hA hnc hb ⊢
 have hci:(c:Int)≤9223372036854775807:=by unfold maxLen at hcm;omega
 have HT:=Lib.hid ht
 clear ht
 rcases zgh l with ⟨h2,hd⟩ | ⟨h2,K,C,M,hK,hC,hM1,hM,hd⟩
 ·have HR:=Lib.hid (zmB A n c w (by omega))
  have hE:=Lib.hid (ze4 (l:=l) (s:=s) (.inl (by rw [hd];decide)))
  clear hd hl hn hA
  go_enter Tryz.func125,Tryz.ntmps125
  go_wp2_with (go_at_call 143;refine HR.out.mono ?_)
  rintro e w1 ⟨rfl,hb1⟩
  go_wp2
  go_ret3
  rw [hE.out]
  exact RetIO.nil _ hb1
 ·rw [←hn] at h2
  have HR:=Lib.hid (zjW A n c K C M l w hl hn.symm h2 hb hd)
  by_cases hk1:K=1
  ·subst hk1
   have HD:=Lib.hid hd
   have HF:=Lib.hid fun (W:World) (h:Below w.heap.size w W)=>zbr (P:=Tryz.prog) elemB (k:=2) (by omega) hnc hcm hn.symm (hl.below h) hA
   rw [show ((2:Nat):Int)=2 from rfl] at HF
   obtain ⟨W,hW⟩:∃ W,W=wof (C:Int):=⟨_,rfl⟩
   have HOF:=Lib.hid (fun X (h:WTab X)=>zhL (C:Int) X h (by omega) (by omega))
   rw [←hW] at HOF
   obtain ⟨us,q,y,hu⟩:∃ us q y,zh (l.drop 2) (M:Int) W=(us,q,y):=⟨_,_,_,rfl⟩
   have hlt:=(zZ (l:=l.drop 2) (M:=(M:Int)) (W:=W)).1
   have hmany:=(zZ (l:=l.drop 2) (M:=(M:Int)) (W:=W)).2
   rw [hu] at hlt hmany
   dsimp only at hlt hmany
   have HU:=Lib.hid hu
   have HLT:=Lib.hid hlt
   have HUN:=Lib.hid (fun (u:Value) (X:World) (h:IsB (l.drop 2) u X)=>zej (M:Int) W h (by rw [List.length_drop];omega))
   rw [HU.out] at HUN
   have HWW:=Lib.hid hW
   have hn2:(2:Int)≤(n:Int):=by omega
   have d1:(((1:Nat):Int) != 1)=false:=by simp
   clear hd hu hlt hW hl hn
   by_cases hy:y=0
   ·subst hy
    have HMD:=Lib.hid (fun (u:Value) (X:World) (h:IsV uv us u X)=>zo6 us u s X h HLT.out (by omega))
    cases hm:zey us s with
    | none =>
     have hpe:zci us s=([],2):=by unfold zci;rw [hm]
     rw [hpe] at HMD
     have hE:=Lib.hid (zh2 (s:=s) HD.out (by rw [←HWW.out];exact HU.out) hm)
     clear hm hpe
     go_enter Tryz.func125,Tryz.ntmps125
     go_wp2_with (go_at_call 143;refine HR.out.mono ?_)
     rintro e w1 ⟨rfl,hb1⟩
     have HB1:=Lib.hid hb1
     have HOF1:=HOF
     have HT1:=Lib.hid (HT.out.below hb1 HT.out.lt)
     obtain ⟨v3,hv3,hI3⟩:=HF.out w1 hb1
     have HI3:=Lib.hid hI3
     clear hb1 hI3
     go_wp2_with fail
     refine wp_region_list [.is (.slice A n c),.is (v3),.is (.int .i64 (M:Int)),.is (.int .i64 (C:Int)),.is (.int .i64 W),.taken w1 us q 0,.taken w1 us q 0,.vals uv us,.ownB w1 q,.is (.int .i64 0),.vals uv us,.ownB w1 q,.is (.int .i64 0)] [some 29,some 30,some 31,some 32,some 33,some 34,some 28,some 35,some 36,some 37,some 11,some 12,some 13] (by kernel_rfl) (by kernel_rfl) (by kernel_rfl) rfl ⟨?_,?_,?_,?_,?_,?_,?_,?_,?_,?_,?_,?_,?_,trivial⟩ ?_
     ·intro ρ W1 hb1 H
      exact zd rfl (H.old 0 _ (by kernel_rfl) rfl) ⟨rfl,Below.refl _ _⟩
     ·intro ρ W1 hb1 H
      exact zL rfl (H.new 29 0 (by kernel_rfl)) rfl rfl rfl (by simpa [H.const] using hv3 W1) ⟨rfl,Below.refl _ _⟩
     ·intro ρ W1 hb1 H
      exact zd rfl (H.old 9 _ (by kernel_rfl) rfl) ⟨rfl,Below.refl _ _⟩
     ·intro ρ W1 hb1 H
      exact zd rfl (H.old 8 _ (by kernel_rfl) rfl) ⟨rfl,Below.refl _ _⟩
     ·intro ρ W1 hb1 H
      have e0:ρ (.tmp 32)=.int .i64 (C:Int):=H.new 32 3 (by kernel_rfl)
      refine zk rfl (fun _ _=>by kernel_rfl) (H.func _) (args:=#[.int .i64 (C:Int)]) (by simp [e0]) ?_
      exact (HOF1.out W1 (HT1.out.below hb1 HT1.out.lt)).mono fun e w' ⟨h1,h2⟩=>⟨_,h1,rfl,h2 ▸ Below.refl _ _⟩
     ·intro ρ W1 hb1 H
      have e0:ρ (.tmp 30)=v3:=H.new 30 1 (by kernel_rfl)
      have e1:ρ (.tmp 31)=.int .i64 (M:Int):=H.new 31 2 (by kernel_rfl)
      have e2:ρ (.tmp 33)=.int .i64 W:=H.new 33 4 (by kernel_rfl)
      refine zk rfl (fun _ _=>by kernel_rfl) (H.func _) (args:=#[v3,.int .i64 (M:Int),.int .i64 W]) (by simp [e0,e1,e2]) ?_
      exact (HUN.out v3 W1 (HI3.out.below hb1)).mono fun e w' ⟨u,r,h1,h2,h3,h4⟩=>⟨_,h1,⟨u,r,rfl,zbi h2,OwnB.base hb1.size h3⟩,h4⟩
     ·intro ρ W1 hb1 H
      exact zd rfl rfl ⟨H.new 34 5 (by kernel_rfl),Below.refl _ _⟩
     ·intro ρ W1 hb1 H
      have h28:∃ u r,ρ (.tmp 28)=.tuple #[u,r,.int .i64 0]∧IsV uv us u W1∧OwnB w1 q r W1:=H.new 28 6 (by kernel_rfl)
      obtain ⟨u,r,h1,h2,h3⟩:=h28
      exact zg rfl h1 rfl ⟨h2,Below.refl _ _⟩
     ·intro ρ W1 hb1 H
      have h28:∃ u r,ρ (.tmp 28)=.tuple #[u,r,.int .i64 0]∧IsV uv us u W1∧OwnB w1 q r W1:=H.new 28 6 (by kernel_rfl)
      obtain ⟨u,r,h1,h2,h3⟩:=h28
      exact zg rfl h1 rfl ⟨h3,Below.refl _ _⟩
     ·intro ρ W1 hb1 H
      have h28:∃ u r,ρ (.tmp 28)=.tuple #[u,r,.int .i64 0]∧IsV uv us u W1∧OwnB w1 q r W1:=H.new 28 6 (by kernel_rfl)
      obtain ⟨u,r,h1,h2,h3⟩:=h28
      exact zg rfl h1 rfl ⟨rfl,Below.refl _ _⟩
     ·intro ρ W1 hb1 H
      exact zf rfl rfl ⟨H.new 35 7 (by kernel_rfl),Below.refl _ _⟩
     ·intro ρ W1 hb1 H
      exact zf rfl rfl ⟨H.new 36 8 (by kernel_rfl),Below.refl _ _⟩
     ·intro ρ W1 hb1 H
      exact zf rfl (H.new 37 9 (by kernel_rfl)) ⟨rfl,Below.refl _ _⟩
     ·intro vs W1 hb1 hfs
      have f10:IsV uv us (vs 10) W1:=hfs 10 (by decide)
      have f11:OwnB w1 q (vs 11) W1:=hfs 11 (by decide)
      have f12:vs 12=.int .i64 0:=hfs 12 (by decide)
      clear hfs
      simp only [zr,Nat.zero_add,Nat.reduceAdd]
      generalize vs 0=z0
      generalize vs 1=z1
      generalize vs 2=z2
      generalize vs 3=z3
      generalize vs 4=z4
      generalize vs 5=z5
      generalize vs 6=z6
      generalize vs 7=z7
      generalize vs 8=z8
      generalize vs 9=z9
      generalize vs 10=z10 at f10 ⊢
      generalize vs 11=z11 at f11 ⊢
      simp only [f12,Act.put,List.setIfInBounds_toArray,List.set_cons_succ,List.set_cons_zero]
      clear f12
      have HB2:=Lib.hid (za HB1.out hb1)
      have HI:=Lib.hid f10
      have HQ:=Lib.hid (OwnB.base HB1.out.size f11)
      clear hb1 f10 f11
      go_wp2_with (go_at_call 146;refine (HMD.out _ _ HI.out).mono ?_)
      rintro e w3 ⟨m3,rfl,hm3,hb3⟩
      obtain ⟨A3,c3,rfl,_⟩:=hm3
      go_wp2
      go_ret3
      rw [hE.out]
      exact RetIO.nil _ (za HB2.out hb3)
    | some m =>
     have hpe:zci us s=(m,0):=by unfold zci;rw [hm]
     rw [hpe] at HMD
     have hE:=Lib.hid (zd7 (s:=s) HD.out (by rw [←HWW.out];exact HU.out) hm)
     clear hm hpe
     go_enter Tryz.func125,Tryz.ntmps125
     go_wp2_with (go_at_call 143;refine HR.out.mono ?_)
     rintro e w1 ⟨rfl,hb1⟩
     have HB1:=Lib.hid hb1
     have HOF1:=HOF
     have HT1:=Lib.hid (HT.out.below hb1 HT.out.lt)
     obtain ⟨v3,hv3,hI3⟩:=HF.out w1 hb1
     have HI3:=Lib.hid hI3
     clear hb1 hI3
     go_wp2_with fail
     refine wp_region_list [.is (.slice A n c),.is (v3),.is (.int .i64 (M:Int)),.is (.int .i64 (C:Int)),.is (.int .i64 W),.taken w1 us q 0,.taken w1 us q 0,.vals uv us,.ownB w1 q,.is (.int .i64 0),.vals uv us,.ownB w1 q,.is (.int .i64 0)] [some 29,some 30,some 31,some 32,some 33,some 34,some 28,some 35,some 36,some 37,some 11,some 12,some 13] (by kernel_rfl) (by kernel_rfl) (by kernel_rfl) rfl ⟨?_,?_,?_,?_,?_,?_,?_,?_,?_,?_,?_,?_,?_,trivial⟩ ?_
     ·intro ρ W1 hb1 H
      exact zd rfl (H.old 0 _ (by kernel_rfl) rfl) ⟨rfl,Below.refl _ _⟩
     ·intro ρ W1 hb1 H
      exact zL rfl (H.new 29 0 (by kernel_rfl)) rfl rfl rfl (by simpa [H.const] using hv3 W1) ⟨rfl,Below.refl _ _⟩
     ·intro ρ W1 hb1 H
      exact zd rfl (H.old 9 _ (by kernel_rfl) rfl) ⟨rfl,Below.refl _ _⟩
     ·intro ρ W1 hb1 H
      exact zd rfl (H.old 8 _ (by kernel_rfl) rfl) ⟨rfl,Below.refl _ _⟩
     ·intro ρ W1 hb1 H
      have e0:ρ (.tmp 32)=.int .i64 (C:Int):=H.new 32 3 (by kernel_rfl)
      refine zk rfl (fun _ _=>by kernel_rfl) (H.func _) (args:=#[.int .i64 (C:Int)]) (by simp [e0]) ?_
      exact (HOF1.out W1 (HT1.out.below hb1 HT1.out.lt)).mono fun e w' ⟨h1,h2⟩=>⟨_,h1,rfl,h2 ▸ Below.refl _ _⟩
     ·intro ρ W1 hb1 H
      have e0:ρ (.tmp 30)=v3:=H.new 30 1 (by kernel_rfl)
      have e1:ρ (.tmp 31)=.int .i64 (M:Int):=H.new 31 2 (by kernel_rfl)
      have e2:ρ (.tmp 33)=.int .i64 W:=H.new 33 4 (by kernel_rfl)
      refine zk rfl (fun _ _=>by kernel_rfl) (H.func _) (args:=#[v3,.int .i64 (M:Int),.int .i64 W]) (by simp [e0,e1,e2]) ?_
      exact (HUN.out v3 W1 (HI3.out.below hb1)).mono fun e w' ⟨u,r,h1,h2,h3,h4⟩=>⟨_,h1,⟨u,r,rfl,zbi h2,OwnB.base hb1.size h3⟩,h4⟩
     ·intro ρ W1 hb1 H
      exact zd rfl rfl ⟨H.new 34 5 (by kernel_rfl),Below.refl _ _⟩
     ·intro ρ W1 hb1 H
      have h28:∃ u r,ρ (.tmp 28)=.tuple #[u,r,.int .i64 0]∧IsV uv us u W1∧OwnB w1 q r W1:=H.new 28 6 (by kernel_rfl)
      obtain ⟨u,r,h1,h2,h3⟩:=h28
      exact zg rfl h1 rfl ⟨h2,Below.refl _ _⟩
     ·intro ρ W1 hb1 H
      have h28:∃ u r,ρ (.tmp 28)=.tuple #[u,r,.int .i64 0]∧IsV uv us u W1∧OwnB w1 q r W1:=H.new 28 6 (by kernel_rfl)
      obtain ⟨u,r,h1,h2,h3⟩:=h28
      exact zg rfl h1 rfl ⟨h3,Below.refl _ _⟩
     ·intro ρ W1 hb1 H
      have h28:∃ u r,ρ (.tmp 28)=.tuple #[u,r,.int .i64 0]∧IsV uv us u W1∧OwnB w1 q r W1:=H.new 28 6 (by kernel_rfl)
      obtain ⟨u,r,h1,h2,h3⟩:=h28
      exact zg rfl h1 rfl ⟨rfl,Below.refl _ _⟩
     ·intro ρ W1 hb1 H
      exact zf rfl rfl ⟨H.new 35 7 (by kernel_rfl),Below.refl _ _⟩
     ·intro ρ W1 hb1 H
      exact zf rfl rfl ⟨H.new 36 8 (by kernel_rfl),Below.refl _ _⟩
     ·intro ρ W1 hb1 H
      exact zf rfl (H.new 37 9 (by kernel_rfl)) ⟨rfl,Below.refl _ _⟩
     ·intro vs W1 hb1 hfs
      have f10:IsV uv us (vs 10) W1:=hfs 10 (by decide)
      have f11:OwnB w1 q (vs 11) W1:=hfs 11 (by decide)
      have f12:vs 12=.int .i64 0:=hfs 12 (by decide)
      clear hfs
      simp only [zr,Nat.zero_add,Nat.reduceAdd]
      generalize vs 0=z0
      generalize vs 1=z1
      generalize vs 2=z2
      generalize vs 3=z3
      generalize vs 4=z4
      generalize vs 5=z5
      generalize vs 6=z6
      generalize vs 7=z7
      generalize vs 8=z8
      generalize vs 9=z9
      generalize vs 10=z10 at f10 ⊢
      generalize vs 11=z11 at f11 ⊢
      simp only [f12,Act.put,List.setIfInBounds_toArray,List.set_cons_succ,List.set_cons_zero]
      clear f12
      have HB2:=Lib.hid (za HB1.out hb1)
      have HI:=Lib.hid f10
      have HQ:=Lib.hid (OwnB.base HB1.out.size f11)
      clear hb1 f10 f11
      go_wp2_with (go_at_call 146;refine (HMD.out _ _ HI.out).mono ?_)
      rintro e w3 ⟨m3,rfl,hm3,hb3⟩
      have HQ3:=Lib.hid (HQ.out.below hb3)
      have HM3:=Lib.hid hm3
      have HB3:=Lib.hid (za HB2.out hb3)
      clear hm3 hb3
      go_wp2
      go_ret3
      rw [hE.out]
      exact ⟨_,_,rfl,HM3.out,HQ3.out,HB3.out⟩
   ·have hE:=Lib.hid (zh1 (s:=s) HD.out (by rw [←HWW.out];exact HU.out) hy)
    have d2:(y != 0)=true:=by simpa using hy
    go_enter Tryz.func125,Tryz.ntmps125
    go_wp2_with (go_at_call 143;refine HR.out.mono ?_)
    rintro e w1 ⟨rfl,hb1⟩
    have HB1:=Lib.hid hb1
    have HOF1:=HOF
    have HT1:=Lib.hid (HT.out.below hb1 HT.out.lt)
    obtain ⟨v3,hv3,hI3⟩:=HF.out w1 hb1
    have HI3:=Lib.hid hI3
    clear hb1 hI3
    go_wp2_with fail
    refine wp_region_list [.is (.slice A n c),.is (v3),.is (.int .i64 (M:Int)),.is (.int .i64 (C:Int)),.is (.int .i64 W),.taken w1 us q y,.taken w1 us q y,.vals uv us,.ownB w1 q,.is (.int .i64 y),.vals uv us,.ownB w1 q,.is (.int .i64 y)] [some 29,some 30,some 31,some 32,some 33,some 34,some 28,some 35,some 36,some 37,some 11,some 12,some 13] (by kernel_rfl) (by kernel_rfl) (by kernel_rfl) rfl ⟨?_,?_,?_,?_,?_,?_,?_,?_,?_,?_,?_,?_,?_,trivial⟩ ?_
    ·intro ρ W1 hb1 H
     exact zd rfl (H.old 0 _ (by kernel_rfl) rfl) ⟨rfl,Below.refl _ _⟩
    ·intro ρ W1 hb1 H
     exact zL rfl (H.new 29 0 (by kernel_rfl)) rfl rfl rfl (by simpa [H.const] using hv3 W1) ⟨rfl,Below.refl _ _⟩
    ·intro ρ W1 hb1 H
     exact zd rfl (H.old 9 _ (by kernel_rfl) rfl) ⟨rfl,Below.refl _ _⟩
    ·intro ρ W1 hb1 H
     exact zd rfl (H.old 8 _ (by kernel_rfl) rfl) ⟨rfl,Below.refl _ _⟩
    ·intro ρ W1 hb1 H
     have e0:ρ (.tmp 32)=.int .i64 (C:Int):=H.new 32 3 (by kernel_rfl)
     refine zk rfl (fun _ _=>by kernel_rfl) (H.func _) (args:=#[.int .i64 (C:Int)]) (by simp [e0]) ?_
     exact (HOF1.out W1 (HT1.out.below hb1 HT1.out.lt)).mono fun e w' ⟨h1,h2⟩=>⟨_,h1,rfl,h2 ▸ Below.refl _ _⟩
    ·intro ρ W1 hb1 H
     have e0:ρ (.tmp 30)=v3:=H.new 30 1 (by kernel_rfl)
     have e1:ρ (.tmp 31)=.int .i64 (M:Int):=H.new 31 2 (by kernel_rfl)
     have e2:ρ (.tmp 33)=.int .i64 W:=H.new 33 4 (by kernel_rfl)
     refine zk rfl (fun _ _=>by kernel_rfl) (H.func _) (args:=#[v3,.int .i64 (M:Int),.int .i64 W]) (by simp [e0,e1,e2]) ?_
     exact (HUN.out v3 W1 (HI3.out.below hb1)).mono fun e w' ⟨u,r,h1,h2,h3,h4⟩=>⟨_,h1,⟨u,r,rfl,zbi h2,OwnB.base hb1.size h3⟩,h4⟩
    ·intro ρ W1 hb1 H
     exact zd rfl rfl ⟨H.new 34 5 (by kernel_rfl),Below.refl _ _⟩
    ·intro ρ W1 hb1 H
     have h28:∃ u r,ρ (.tmp 28)=.tuple #[u,r,.int .i64 y]∧IsV uv us u W1∧OwnB w1 q r W1:=H.new 28 6 (by kernel_rfl)
     obtain ⟨u,r,h1,h2,h3⟩:=h28
     exact zg rfl h1 rfl ⟨h2,Below.refl _ _⟩
    ·intro ρ W1 hb1 H
     have h28:∃ u r,ρ (.tmp 28)=.tuple #[u,r,.int .i64 y]∧IsV uv us u W1∧OwnB w1 q r W1:=H.new 28 6 (by kernel_rfl)
     obtain ⟨u,r,h1,h2,h3⟩:=h28
     exact zg rfl h1 rfl ⟨h3,Below.refl _ _⟩
    ·intro ρ W1 hb1 H
     have h28:∃ u r,ρ (.tmp 28)=.tuple #[u,r,.int .i64 y]∧IsV uv us u W1∧OwnB w1 q r W1:=H.new 28 6 (by kernel_rfl)
     obtain ⟨u,r,h1,h2,h3⟩:=h28
     exact zg rfl h1 rfl ⟨rfl,Below.refl _ _⟩
    ·intro ρ W1 hb1 H
     exact zf rfl rfl ⟨H.new 35 7 (by kernel_rfl),Below.refl _ _⟩
    ·intro ρ W1 hb1 H
     exact zf rfl rfl ⟨H.new 36 8 (by kernel_rfl),Below.refl _ _⟩
    ·intro ρ W1 hb1 H
     exact zf rfl (H.new 37 9 (by kernel_rfl)) ⟨rfl,Below.refl _ _⟩
    ·intro vs W1 hb1 hfs
     have f10:IsV uv us (vs 10) W1:=hfs 10 (by decide)
     have f11:OwnB w1 q (vs 11) W1:=hfs 11 (by decide)
     have f12:vs 12=.int .i64 y:=hfs 12 (by decide)
     clear hfs
     simp only [zr,Nat.zero_add,Nat.reduceAdd]
     generalize vs 0=z0
     generalize vs 1=z1
     generalize vs 2=z2
     generalize vs 3=z3
     generalize vs 4=z4
     generalize vs 5=z5
     generalize vs 6=z6
     generalize vs 7=z7
     generalize vs 8=z8
     generalize vs 9=z9
     generalize vs 10=z10 at f10 ⊢
     generalize vs 11=z11 at f11 ⊢
     simp only [f12,Act.put,List.setIfInBounds_toArray,List.set_cons_succ,List.set_cons_zero]
     clear f12
     have HB2:=Lib.hid (za HB1.out hb1)
     have HI:=Lib.hid f10
     have HQ:=Lib.hid (OwnB.base HB1.out.size f11)
     clear hb1 f10 f11
     go_wp2
     go_ret3
     rw [hE.out]
     exact RetIO.nil _ HB2.out
  ·have hE:=Lib.hid (ze4 (l:=l) (s:=s) (.inr (by rw [hd];dsimp only;omega)))
   have d1:((K:Int) != 1)=true:=by simp;omega
   clear hd hl hn hA
   go_enter Tryz.func125,Tryz.ntmps125
   go_wp2_with (go_at_call 143;refine HR.out.mono ?_)
   rintro e w1 ⟨rfl,hb1⟩
   go_wp2
   go_ret3
   rw [hE.out]
   exact RetIO.nil _ hb1
theorem ziP {α:Type} {f:α→List Value} {m:Nat} (hf:∀ x,(f x).length=m):∀ (l:List α) (k:Nat) (hk:k < l.length) (i:Nat),i < m→(l.flatMap f)[k*m+i]? = (f l[k])[i]?
 | [],_,hk,_,_=>absurd hk (Nat.not_lt_zero _)
 | x::l,0,_,i,hi=>by
  rw [List.flatMap_cons,Nat.zero_mul,Nat.zero_add,List.getElem?_append_left (by rw [hf];exact hi)]
  rfl
 | x::l,k+1,hk,i,hi=>by
  rw [List.flatMap_cons,Nat.succ_mul,List.getElem?_append_right (by rw [hf];omega),hf,show k*m+m+i - m=k*m+i by omega]
  exact ziP hf l k (by simpa using hk) i hi
theorem zjX {α:Type} {f:α→List Value} {m:Nat} (hf:∀ x,(f x).length=m):∀ (l:List α) (k:Nat),(l.take k).flatMap f=(l.flatMap f).take (k*m)
 | [],k=>by simp
 | x::l,0=>by simp
 | x::l,k+1=>by
  rw [List.take_succ_cons,List.flatMap_cons,List.flatMap_cons,zjX hf l k,Nat.succ_mul,List.take_append,hf,show k*m+m - m=k*m by omega,List.take_of_length_le (l:=f x) (by rw [hf];omega)]
theorem zeo {α:Type} {f:α→List Value} {m:Nat} (hf:∀ x,(f x).length=m):∀ l:List α,(l.flatMap f).length=l.length*m
 | []=>by simp
 | x::l=>by rw [List.flatMap_cons,List.length_append,hf,zeo hf l,List.length_cons,Nat.succ_mul,Nat.add_comm]
def IsR {α:Type} (f:α→List Value) (l:List α) (v:Value) (w:World):Prop:=∃ A c,v=.slice A l.length c∧(A=none→l.length=0)∧l.length≤c∧c≤maxLen∧Lies w A (l.flatMap f)
section
variable {α:Type} {f:α→List Value} {l:List α} {v:Value} {w w':World} {A:Option Addr} {n c m:Nat}
theorem IsR.below (h:IsR f l v w) (hb:Below w.heap.size w w'):IsR f l v w':=by
 obtain ⟨A,c,h1,h2,h3,h4,h5⟩:=h
 exact ⟨A,c,h1,h2,h3,h4,h5.below hb⟩
theorem IsR.parts (h:IsR f l (.slice A n c) w):l.length=n∧(A=none→n=0)∧n≤c∧c≤maxLen∧Lies w A (l.flatMap f):=by
 obtain ⟨A',c',h1,h2,h3,h4,h5⟩:=h
 injection h1 with e1 e2 e3
 subst e1 e2 e3
 exact ⟨rfl,h2,h3,h4,h5⟩
theorem IsR.shape (h:IsR f l v w):∃ A n c,v=.slice A n c:=by
 obtain ⟨A',c',h1,_⟩:=h
 exact ⟨_,_,_,h1⟩
theorem IsR.at (h:IsR f l (.slice A n c) w) (hf:∀ x,(f x).length=m) (hm:0 < m) {k:Nat} (hk:k < l.length):∃ ad,A=some ad∧ad.block < w.heap.size∧∀ i,i < m→w.cell? (ad.add (k*m+i))=(f l[k])[i]?:=by
 obtain ⟨_,_,_,_,h5⟩:=h.parts
 have hne:l.flatMap f≠[]:=by
  intro h0
  have h1:=ziP hf l k hk 0 hm
  rw [h0,List.getElem?_eq_getElem (l:=f l[k]) (by rw [hf];exact hm)] at h1
  cases h1
 rcases h5 with h5 | ⟨ad,hA,hlt,hc⟩
 ·exact absurd h5 hne
 ·refine ⟨ad,hA,hlt,fun i hi=>?_⟩
  have h1:=ziP hf l k hk i hi
  rw [List.getElem?_eq_getElem (l:=f l[k]) (by rw [hf];exact hi)] at h1 ⊢
  exact hc _ _ h1
theorem IsR.take (h:IsR f l (.slice A n c) w) (hf:∀ x,(f x).length=m) {k:Nat} (hk:k≤n):IsR f (l.take k) (.slice A k c) w:=by
 obtain ⟨h1,h2,h3,h4,h5⟩:=h.parts
 have hl:(l.take k).length=k:=by rw [List.length_take];omega
 exact ⟨A,c,by rw [hl],fun h=>by have:=h2 h;omega,by rw [hl];omega,h4,by rw [zjX hf];exact h5.take _⟩
end
section
variable {P:Program} {o:Oper} {ρ:Operand→Value} {w:World} {R:Value→World→Prop}
theorem zu {t e:TypeId} {m:Nat} (ht:P.underlying t=some (.slice e)) (hs:∀ W,(sizeOf e).run P W=.ok m W) {x y:Operand} {ad:Addr} {n c k:Nat} (ho:o.op=.indexAddr t x y) (hx:ρ x=.slice (some ad) n c) (hy:ρ y=.int .i64 (k:Int)) (hk:k < n)
  (hR:R (.pointer (some (ad.add (k*m)))) w):zba P o ρ w R:=by
 refine zq (v:=.pointer (some (ad.add (k*m)))) (w':=w) ?_ hR
 have h0:(0:Int)≤(k:Int):=by omega
 have h1:(k:Int) < (n:Int):=by omega
 simp [execOp,ho,hx,hy,go_sem,ht,hs,h0,h1]
theorem zgX {t:TypeId} {x:Operand} {ad:Addr} {cs:List Value} {d:TypeDesc} (ho:o.op=.load t x) (hx:ρ x=.pointer (some ad)) (hu:P.underlying t=some d) (hd:(match (generalizing:=false) d with | .struct _ | .array _ _=>true | _=>false)=true)
  (hs:∀ W,(sizeOf t).run P W=.ok cs.length W) (hc:∀ j v,cs[j]? = some v→w.cell? (ad.add j)=some v) (hR:R (.agg cs.toArray) w):zba P o ρ w R:=by
 refine zq (v:=.agg cs.toArray) (w':=w) ?_ hR
 have ha:(isAgg t).run P w=.ok true w:=by
  unfold isAgg
  rw [Sem.run_bind,run_underlying hu]
  cases d <;> first | rfl | cases hd
 have hl:(loadVar t ad).run P w=.ok (.agg cs.toArray) w:=by
  simp [loadVar,ha,hs,run_loadCells_list w ad cs hc]
 simp [execOp,ho,hx,Instr.loadAt,Instr.sureAddr,hl]
theorem zj {t:TypeId} {x:Operand} {ad ad':Addr} {f:Nat} (ho:o.op=.fieldAddr t x f) (hx:ρ x=.pointer (some ad)) (hrun:∀ W,(Instr.fieldAt t (.pointer (some ad)) f).run P W=.ok (.pointer (some ad')) W)
  (hR:R (.pointer (some ad')) w):zba P o ρ w R:=by
 refine zq (v:=.pointer (some ad')) (w':=w) ?_ hR
 simp [execOp,ho,hx,hrun]
end
structure ElemW (P:Program) (t e:TypeId) (bytes m:Nat) (z:Value):Prop where
 under:P.underlying t=some (.slice e)
 cells:z.cells.size=m
 pos:0 < m
 info:∃ (i:TypeInfo),P.info? e=some i∧i.zero=some z∧i.size=m∧i.bytes=bytes
section
variable {P:Program} (w:World)
theorem zgb (base:Nat) (t ty e:TypeId) (i:TypeInfo) (z:Value) (size bytes:Nat) (ht:P.underlying t=some (.slice e)) (hi:P.info? e=some i) (hz:i.zero=some z)
  (hsize:i.size=size) (hby:i.bytes=bytes) (hzs:z.cells.size=size) (hsz:0 < size)
  (v:Value) (n:Nat) (xs:List Value) (hown:w.ownsRow base e size v n xs) (A:Option Addr) (m c:Nat) (hA:A=none→m=0) (news:List Value) (hm:news.length=m*size) (hr:Lies w A news) (h1:∀ u∈news,u.oneCell'=true)
  (h63:n+m≤maxLen) (hbytes:(n+m)*bytes≤140737488355328) (hbase:base≤w.heap.size) :
  ∃ v' w',(Builtin.append_ #[t,t] ty #[v,.slice A m c]).run P w=.ok v' w'∧w'.ownsRow base e size v' (n+m) (xs ++ news)∧w.grownBy w' v.ownBlock ∧
   (v'.ownBlock=v.ownBlock∨v'.ownBlock=some w.heap.size):=by
 rcases A with _ | ad
 ·have hm0:=hA rfl
  subst hm0
  have hn:news=[]:=List.eq_nil_of_length_eq_zero (by rw [hm,Nat.zero_mul])
  subst hn
  refine ⟨v,w,?_,by simpa using hown,World.grownBy.refl w _,.inl rfl⟩
  rcases hown.2 with ⟨rfl,rfl⟩ | ⟨g,cap,cur,rfl,_,_,hnc,_⟩
  ·simp [Builtin.append_,run_underlying ht,sizeOf,typeInfo,hi,Builtin.lenOf,Builtin.firstCells]
  ·simp [Builtin.append_,run_underlying ht,sizeOf,typeInfo,hi,Builtin.lenOf,Builtin.firstCells,hnc,storeCells]
 ·have hcells:∀ j u,news[j]? = some u→w.cell? (ad.add j)=some u:=by
   intro j u hu
   rcases hr with hr | ⟨ad',hA,_,hc⟩
   ·rw [hr] at hu;simp at hu
   ·injection hA with hA;subst hA;exact hc j u hu
  obtain ⟨v',w',hrun,h2,h3,_,h5⟩:=run_append_own_at (P:=P) w base t ty e i z size bytes ht hi hz hsize hby hzs hsz v n xs hown ad m c news hm hcells h1 h63 hbytes hbase
  exact ⟨v',w',hrun,h2,h3,h5⟩
theorem zhD {ops:Array Oper} {rest:List Oper} {o:Oper} {a:Act} {Q:Exit→Act→World→Prop} (hgd:o.guard=none) (s x:Operand) (t:TypeId)
  (ho:o.op=.call { callee:=.builtin .append,args:=#[s,x],argTypes:=#[t,t] })
  (base:Nat) (e:TypeId) (i:TypeInfo) (z:Value) (size bytes:Nat) (ht:P.underlying t=some (.slice e)) (hi:P.info? e=some i) (hz:i.zero=some z)
  (hsize:i.size=size) (hby:i.bytes=bytes) (hzs:z.cells.size=size) (hsz:0 < size)
  (v:Value) (n:Nat) (xs:List Value) (hs:a.eval s=v) (hown:w.ownsRow base e size v n xs) (A:Option Addr) (m c:Nat) (hx:a.eval x=.slice A m c) (hA:A=none→m=0)
  (news:List Value) (hm:news.length=m*size) (hr:Lies w A news) (h1:∀ u∈news,u.oneCell'=true)
  (h63:n+m≤maxLen) (hbytes:(n+m)*bytes≤140737488355328) (hbase:base≤w.heap.size)
  (h:∀ v' w',w'.ownsRow base e size v' (n+m) (xs ++ news)→w.grownBy w' v.ownBlock→(v'.ownBlock=v.ownBlock∨v'.ownBlock=some w.heap.size)→wpList P ops Q rest (a.put o.dst v') w'):wpList P ops Q (o::rest) a w:=by
 refine wpList_plain hgd fun K hK=>?_
 obtain ⟨v',w',hrun,h2,h3,h4⟩:=zgb (P:=P) w base t o.type e i z size bytes ht hi hz hsize hby hzs hsz v n xs hown A m c hA news hm hr h1 h63 hbytes hbase
 unfold Oper.wp execOp
 simp only [ho,resolve,invoke,builtin,Sem.run_bind,Sem.run_pure,Result.andThen_ok,List.map_toArray,List.map_cons,List.map_nil,hs,hx,hrun]
 exact hK _ _ (h v' w' h2 h3 h4)
end
theorem zsD {w:World} {base size n:Nat} {e:TypeId} {v:Value} {xs:List Value} (h:w.ownsRow base e size v n xs) {g:Nat} (hg:v.ownBlock=some g):base≤g∧g < w.heap.size:=by
 rcases h.2 with ⟨rfl,_⟩ | ⟨g',cap,cur,rfl,hb,hc,_⟩
 ·simp [Value.ownBlock] at hg
 ·simp [Value.ownBlock] at hg
  subst hg
  exact ⟨hb,(Array.getElem?_eq_some_iff.1 hc).1⟩
theorem ziQ {w0 w w':World} {base size:Nat} {e:TypeId} {v:Value} {n:Nat} {xs:List Value} (hb:Below base w0 w) (hown:w.ownsRow base e size v n xs) (hz:base≤w.heap.size) (hg:w.grownBy w' v.ownBlock):Below base w0 w':=
 hb.grown hg hz fun _ hk=>(zsD hown hk).1
theorem zh4 {w:World} {base size n:Nat} {e:TypeId} {v:Value} {xs:List Value} (h:w.ownsRow base e size v n xs) (o:Obj):(w.alloc o).ownsRow base e size v n xs:=
 own_below h ((Below.refl _ _).alloc (Nat.le_refl _) o)
theorem zjY {w:World} {base base' size n:Nat} {e:TypeId} {v:Value} {xs:List Value} (hb:base'≤base) (h:w.ownsRow base e size v n xs):w.ownsRow base' e size v n xs:=
 ⟨h.1,h.2.imp id fun ⟨g,cap,cur,h1,h2,h3⟩=>⟨g,cap,cur,h1,Nat.le_trans hb h2,h3⟩⟩
theorem zgY (w:World) (cs:List Value) (t:TypeId):Lies (w.alloc (.cells cs.toArray t)) (some ⟨w.heap.size,0,none⟩) cs:=by
 have h:Row (w.alloc (.cells cs.toArray t)) w.heap.size t cs:=heap_alloc_new w _
 simpa using h.lies 0
theorem zjZ {P:Program} {W:World} {ops:Array Oper} {rest:List Oper} {o:Oper} {a:Act} {Q:Exit→Act→World→Prop} {t e:TypeId} {bytes m:Nat} {z:Value} (E:ElemW P t e bytes m z)
  (hgd:o.guard=none) (s x:Operand) (ho:o.op=.call { callee:=.builtin .append,args:=#[s,x],argTypes:=#[t,t] })
  (base:Nat) (v:Value) (n:Nat) (xs cs:List Value) (w w0:World) (hs:a.eval s=v) (hx:a.eval x=.slice (some ⟨w.heap.size,0,none⟩) 1 1) (hW:W=w.alloc (.cells cs.toArray e)) (hm:cs.length=m)
  (hu:∀ u∈cs,u.oneCell'=true) (hown:w.ownsRow base e m v n xs) (hb:Below base w0 w) (hbase:base≤w.heap.size) (hn:n≤1000000000) (hby:bytes≤100)
  (h:∀ v' w',w'.ownsRow base e m v' (n+1) (xs ++ cs)→Below base w0 w'→w.grownBy w' v.ownBlock→(v'.ownBlock=v.ownBlock∨v'.ownBlock=some (w.heap.size+1))→wpList P ops Q rest (a.put o.dst v') w'):wpList P ops Q (o::rest) a W:=by
 obtain ⟨i,h1,h2,h3,h4⟩:=E.info
 subst hW
 have hle:(n+1)*bytes≤(n+1)*100:=Nat.mul_le_mul_left _ hby
 refine zhD _ hgd s x t ho base e i z m bytes E.under h1 h2 h3 h4 E.cells E.pos v n xs hs (zh4 hown _) _ _ _ hx (by simp) cs (by rw [hm,Nat.one_mul]) (zgY w cs e) hu (by unfold maxLen;omega) (by omega) (by simp;omega) ?_
 intro v' w' hown' hg hq
 refine h v' w' hown' (ziQ (hb.alloc hbase _) (zh4 hown _) (by simp;omega) hg) ⟨hg.os,hg.tape,hg.output,Nat.le_trans (by simp) hg.size,fun k hk hne=>(hg.block k (by simp;omega) hne).trans (Below.heap_alloc w _ k hk)⟩ (by simpa using hq)
theorem zfX {P:Program} {W:World} {ops:Array Oper} {rest:List Oper} {o:Oper} {a:Act} {Q:Exit→Act→World→Prop} {t e:TypeId} {bytes m:Nat} {z:Value} (E:ElemW P t e bytes m z)
  (hgd:o.guard=none) (s x:Operand) (ho:o.op=.call { callee:=.builtin .append,args:=#[s,x],argTypes:=#[t,t] })
  (base:Nat) (v:Value) (n:Nat) (xs cs:List Value) (w w0:World) (g:Nat) (hgs:g=w.heap.size) (hs:a.eval s=v) (hx:a.eval x=.slice (some ⟨g,0,none⟩) 1 1) (hW:W=w.alloc (.cells cs.toArray e)) (hm:cs.length=m)
  (hu:∀ u∈cs,u.oneCell'=true) (hown:w.ownsRow base e m v n xs) (hb:Below base w0 w) (hbase:base≤w.heap.size) (hn:n≤1000000000) (hby:bytes≤100)
  (h:∀ v' w',w'.ownsRow base e m v' (n+1) (xs ++ cs)→Below base w0 w'→w.grownBy w' v.ownBlock→(v'.ownBlock=v.ownBlock∨v'.ownBlock=some (w.heap.size+1))→wpList P ops Q rest (a.put o.dst v') w'):wpList P ops Q (o::rest) a W:=by
 subst hgs
 exact zjZ E hgd s x ho base v n xs cs w w0 hs hx hW hm hu hown hb hbase hn hby h
section
variable {α:Type} {f:α→List Value} {l:List α} {v:Value} {w w':World} {m n:Nat}
theorem zfD {base:Nat} {e:TypeId} (hf:∀ x,(f x).length=m) (hm:0 < m) (h:w.ownsRow base e m v n (l.flatMap f)):IsR f l v w:=by
 have hl:l.length=n:=by
  have h1:=h.1
  rw [zeo hf] at h1
  exact Nat.eq_of_mul_eq_mul_right hm h1
 rcases h.2 with ⟨rfl,rfl⟩ | ⟨g,cap,cur,rfl,hb,hg,hnc,hcm,hcs,ht⟩
 ·obtain rfl:=List.eq_nil_of_length_eq_zero hl
  exact ⟨none,0,rfl,by simp,by simp,by unfold maxLen;omega,Lies.nil⟩
 ·exact ⟨_,cap,by rw [hl],by simp,by omega,hcm,.inr ⟨_,rfl,(Array.getElem?_eq_some_iff.1 hg).1,h.cells (g:=g) rfl⟩⟩
theorem zsE (f:α→List Value) (w:World):IsR f [] (.slice none 0 0) w:=⟨none,0,rfl,by simp,by simp,by unfold maxLen;omega,Lies.nil⟩
theorem zgZ (w:World) (e:TypeId) (m:Nat):(w.alloc (.cells #[] e)).ownsRow w.heap.size e m (.slice (some ⟨w.heap.size,0,none⟩) 0 0) 0 []:=
 ⟨by simp,.inr ⟨w.heap.size,0,#[],rfl,Nat.le_refl _,heap_alloc_new w _,Nat.le_refl _,by unfold maxLen;omega,by simp,by simp⟩⟩
theorem znu {base base' s1 s2 k:Nat} {e1 e2:TypeId} {v1 v2:Value} {xs ys:List Value} (h1:w.ownsRow base e1 s1 v1 n xs) (h2:w.ownsRow base' e2 s2 v2 k ys) (hne:e1≠e2) (hg:w.grownBy w' v2.ownBlock):w'.ownsRow base e1 s1 v1 n xs:=by
 refine ⟨h1.1,h1.2.imp id fun ⟨g,cap,cur,hv,hb,hc,r⟩=>⟨g,cap,cur,hv,hb,?_,r⟩⟩
 have hlt:=(Array.getElem?_eq_some_iff.1 hc).1
 refine (hg.block g hlt ?_).trans hc
 rcases h2.2 with ⟨rfl,_⟩ | ⟨g2,cap2,cur2,rfl,_,hc2,_⟩
 ·simp [Value.ownBlock]
 ·intro he
  simp [Value.ownBlock] at he
  subst he
  rw [hc] at hc2
  injection hc2 with hc2
  injection hc2 with _ h3
  exact hne h3
theorem zj0 (l:List α) (x:α):(l ++ [x]).flatMap f=l.flatMap f ++ f x:=by simp
end
theorem OwnV.other {α:Type} {f:α→Value} {e e2:TypeId} {w w1 w2:World} {l:List α} {v y:Value} {B k s:Nat} {ys:List Value} (h:OwnV f e w l v w1) (hy:w1.ownsRow B e2 s y k ys) (hne:e≠e2) (hg:w1.grownBy w2 y.ownBlock):OwnV f e w l v w2:=h.elim fun _ h=>⟨_,znu h hy hne hg⟩
def zsF (n:Nat) (z:Value):List Value:=List.replicate n z
structure ArrT (P:Program) (t e:TypeId) (n:Nat) (z:Value):Prop where
 under:P.underlying t=some (.array n e)
 info:(P.info? t).map (fun i=>(i.zero,i.size))=some (some (.agg (zsF n z).toArray),n)
theorem ArrT.size_ {P:Program} {t e:TypeId} {n:Nat} {z:Value} (E:ArrT P t e n z):(P.info? t).map (·.size)=some n:=(zero_of_info E.info).2
section
variable {P:Program} {w:World} {ops:Array Oper} {rest:List Oper} {o:Oper} {a:Act} {Q:Exit→Act→World→Prop} {t e:TypeId} {n:Nat} {z:Value}
end
end Go.Proofs.YtblpkmmhmdpkjaaGreatDoor
