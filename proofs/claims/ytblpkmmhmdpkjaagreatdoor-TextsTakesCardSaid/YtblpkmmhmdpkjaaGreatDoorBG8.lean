import Derived.Lib.AppendZeros
import Derived.Test.YtblpkmmhmdpkjaaGreatDoorBG7
set_option maxHeartbeats 8000000
set_option maxRecDepth 100000
namespace Go.Proofs.YtblpkmmhmdpkjaaGreatDoor
open Go.RowKit
theorem zmM (n L:Nat) (w:World) (h:n≤64) (hL:L=2 ^ n - 1):Calls Tryz.prog 197 #[.int .i64 (n:Int)] w fun e w'=>e=.returned (.int .u64 (L:Int))∧w=w':=by
 have h1:2 ^ n≤2 ^ 64:=Nat.pow_le_pow_right (by omega) h
 have h2:1≤2 ^ n:=Nat.one_le_two_pow
 have h3:((2 ^ n:Nat):Int)=2 ^ n:=by simp
 have HE:Hid (IntKind.u64.wrap (IntKind.u64.wrap (2 ^ n) - 1)=(L:Int)):=Lib.hid (by
  rw [←h3,IntKind.wrap_u64,IntKind.wrap_u64,hL]
  generalize 2 ^ n=p at *
  omega)
 clear h1 h2 h3 hL
 go_enter Tryz.func197,Tryz.ntmps197
 go_wp2
 go_ret
 exact ⟨zQ HE.out,rfl⟩
theorem znS (n:Int) (w:World) (h0:1≤n) (h1:n≤512):Calls Tryz.prog 185 #[.int .i64 n] w fun e w'=>e=.returned (.bool true)∧w=w':=by
 go_enter Tryz.func185,Tryz.ntmps185
 go_wp2
 go_ret
 exact ⟨rfl,rfl⟩
theorem zpB (n:Int) (w:World) (h:n < 1∨512 < n):Calls Tryz.prog 185 #[.int .i64 n] w fun e w'=>e=.returned (.bool false)∧w=w':=by
 rcases h with h | h
 ·have h2:decide (1≤n)=false:=by simp;omega
  go_enter Tryz.func185,Tryz.ntmps185
  go_wp2
  go_ret
  exact ⟨rfl,rfl⟩
 ·have h2:decide (n≤512)=false:=by simp;omega
  have h3:decide (1≤n)=true:=by simp;omega
  go_enter Tryz.func185,Tryz.ntmps185
  go_wp2
  go_ret
  exact ⟨rfl,rfl⟩
theorem zrp (W:Int) (w:World) (ht:WTab w):Calls Tryz.prog 186 #[.int .i64 W] w fun e w'=>e=.returned (.bool (decide (W < 64) && decide (0≤zbb W)))∧w=w':=by
 have HC:=Lib.hid (zeY W w ht)
 obtain ⟨c,hc⟩:∃ c,c=zbb W:=⟨_,rfl⟩
 rw [←hc] at HC ⊢
 clear ht hc
 by_cases h:W < 64
 ·have h1:decide (W < 64)=true:=decide_eq_true h
  rw [h1,Bool.true_and]
  obtain ⟨d,hd⟩:∃ d,d=decide (0≤c):=⟨_,rfl⟩
  have hd':=hd.symm
  rw [hd']
  clear hd h
  go_enter Tryz.func186,Tryz.ntmps186
  go_wp2_with (go_at_call 142;refine HC.out.mono ?_;rintro e w' ⟨rfl,rfl⟩)
  go_ret
  exact ⟨rfl,rfl⟩
 ·have h1:decide (W < 64)=false:=decide_eq_false h
  rw [h1,Bool.false_and]
  clear h
  go_enter Tryz.func186,Tryz.ntmps186
  go_wp2
  go_ret
  exact ⟨rfl,rfl⟩
def shc (m W n p g t:Int):List Value:=[.int .i64 m,.int .i64 W,.int .i64 n,.int .i64 p,.int .i64 g,.int .i64 t]
def shv (m W n p g t:Int):Value:=.agg (shc m W n p g t).toArray
theorem zhf (m W n p g t:Int):∀ u∈shc m W n p g t,u.oneCell'=true:=by
 intro u hu
 simp only [shc,List.mem_cons,List.not_mem_nil,or_false] at hu
 rcases hu with h | h | h | h | h | h <;> (subst h;rfl)
theorem zkh (m W n p g t:Int) (w:World) (hp:0≤p∧p≤1000) (hg:0≤g∧g≤1000):Calls Tryz.prog 191 #[shv m W n p g t] w fun e w'=>e=.returned (.bool (decide (g+p≤64)))∧Below w.heap.size w w':=by
 have hw:IntKind.i64.wrap (g+p)=g+p:=by rw [IntKind.wrap_i64];omega
 obtain ⟨x,hx⟩:∃ x,x=g+p:=⟨_,rfl⟩
 rw [←hx] at hw ⊢
 have hx':=hx.symm
 obtain ⟨d,hd⟩:∃ d,d=decide (x≤64):=⟨_,rfl⟩
 have hd':=hd.symm
 rw [hd']
 clear hx hd hp hg
 unfold shv shc
 go_enter Tryz.func191,Tryz.ntmps191
 go_wp2
 go_ret
 exact ⟨rfl,(Below.refl _ _).alloc (Nat.le_refl _) _⟩
theorem zki (m W n p g t:Int) (w:World) (ht:WTab w) (hp:0≤p∧p≤1000) (hg:0≤g∧g≤1000):Calls Tryz.prog 162 #[shv m W n p g t] w fun e w'=>e=.returned (.int .i64 (zi (g+p)))∧Below w.heap.size w w':=by
 have hw:IntKind.i64.wrap (g+p)=g+p:=by rw [IntKind.wrap_i64];omega
 obtain ⟨x,hx⟩:∃ x,x=g+p:=⟨_,rfl⟩
 rw [←hx] at hw ⊢
 have hx':=hx.symm
 have HC:=Lib.hid (fun W (h:WTab W)=>zdB x W h)
 have HT:=Lib.hid (ht.below ((Below.refl w.heap.size w).alloc (Nat.le_refl _) (.cells (shc m W n p g t).toArray 181)) ht.lt)
 unfold shc at HT
 clear hx hp hg ht
 unfold shv shc
 go_enter Tryz.func162,Tryz.ntmps162
 go_wp2_with (go_at_call 138;refine (HC.out _ HT.out).mono ?_;rintro e w' ⟨rfl,rfl⟩)
 go_ret
 exact ⟨rfl,(Below.refl _ _).alloc (Nat.le_refl _) _⟩
theorem znT {base:Int} (hb:inInt base) (hne:base≠-9223372036854775808):zx 0 base=(zeA base,decide (base < 0),true):=by
 unfold inInt at hb
 unfold zeA
 rcases zbJ 0 base with ⟨_,k⟩ | ⟨k1,_,k⟩ | ⟨k1,_,k⟩
 ·omega
 ·rw [k,decide_eq_true k1]
 ·rw [k,decide_eq_false (by omega)]
theorem zlH:zx 0 (-9223372036854775808)=(0,false,false):=by decide
theorem zpC (w:World):Calls Tryz.prog 187 #[.int .i64 (-9223372036854775808)] w fun e w'=>e=.returned (.tuple #[.slice none 0 0,.bool false])∧Below w.heap.size w w':=by
 have HD:=Lib.hid (zg5 0 (-9223372036854775808) w (by unfold inInt;omega) (by unfold inInt;omega))
 rw [zlH] at HD
 go_enter Tryz.func187,Tryz.ntmps187
 go_wp2_with fail
 refine HD.out.mono ?_
 rintro e w1 ⟨rfl,hb1⟩
 go_wp2
 go_ret2
 exact ⟨rfl,hb1⟩
def zti (S n g:Nat) (w:World) (i:Value) (wr:World):Prop:=∃ k:Nat,k≤n∧i=.int .i64 (k:Int)∧Row wr g 5 ((List.replicate (n - k) (0:UInt8) ++ be k S).map bv)∧Below w.heap.size w wr
theorem zsK {S n k:Nat} (hk:k < n):(List.replicate (n - k) (0:UInt8) ++ be k S).set (n - 1 - k) (UInt8.ofNat (S / 256 ^ k % 256))=List.replicate (n - (k+1)) 0 ++ be (k+1) S:=by
 obtain ⟨m,hm⟩:∃ m,n - k=m+1:=⟨n - k - 1,by omega⟩
 rw [hm,show n - 1 - k=m by omega,show n - (k+1)=m by omega,List.replicate_succ',List.append_assoc,List.set_append_right _ _ (by simp),List.length_replicate,Nat.sub_self]
 rfl
def zsL (base:Int) (w:World) (e:Ending) (w':World):Prop:=
 ∃ g,e=.returned (.tuple #[.slice (some ⟨g,0,none⟩) (pn base) (pn base),.bool true])∧w.heap.size≤g∧Row w' g 5 ((zdr base).map bv)∧Below w.heap.size w w'
theorem znU (base:Int) (w:World) (hb:inInt base) (hne:base≠-9223372036854775808):Calls Tryz.prog 187 #[.int .i64 base] w (zsL base w):=by
 obtain ⟨_,hlt⟩:=zeu hb hne
 obtain ⟨n1,n8,hS8⟩:=zpw hlt
 have hg:=znT hb hne
 unfold zsL
 obtain ⟨S,hS⟩:∃ S,S=zeA base:=⟨_,rfl⟩
 obtain ⟨n,hn⟩:∃ n,n=pn base:=⟨_,rfl⟩
 obtain ⟨f,hf⟩:∃ f,f=decide (base < 0):=⟨_,rfl⟩
 rw [←hS,←hf] at hg
 have HD:=Lib.hid (zg5 0 base w (by unfold inInt;omega) hb)
 rw [hg] at HD
 have hpb:zdr base=be n (S+if f=true then 2 ^ (8*n - 1) else 0):=by
  unfold zdr
  rw [←hS,←hn]
  congr 2
  rw [hf]
  by_cases h:base < 0
  ·rw [if_pos h,if_pos (by simpa using h)]
  ·rw [if_neg h,if_neg (by simpa using h)]
 obtain ⟨B,hB⟩:∃ B,B=zY S:=⟨_,rfl⟩
 have HBI:=Lib.hid (fun W=>zge S W (by rw [hS];show zeA base < 18446744073709551616;omega))
 rw [←hB] at HBI
 obtain ⟨Q,hQ⟩:∃ Q,Q=B / 8:=⟨_,rfl⟩
 have hnq:n=Q+1:=by rw [hn,hQ,hB,hS];rfl
 have hBq:(B:Int) / 8=(Q:Int):=by omega
 rw [←hn] at n1 n8 hS8 ⊢
 rw [←hS] at hS8
 have HPB:=Lib.hid hpb
 have HS8:=Lib.hid hS8
 have hQn:(Q:Int)+1=(n:Int):=by omega
 have hnw:IntKind.i64.wrap (n:Int)=(n:Int):=by rw [IntKind.wrap_i64];omega
 clear hlt hS hn hf hg hpb hB hQ hnq hS8 hb hne
 go_enter Tryz.func187,Tryz.ntmps187
 go_wp2_with fail
 refine HD.out.mono ?_
 rintro e w1 ⟨rfl,hb1⟩
 have HB1:=Lib.hid hb1
 have hz1:=hb1.size
 clear hb1
 go_wp2_with (first | (go_at_call 171;refine (HBI.out _).mono ?_;rintro e w' ⟨rfl,rfl⟩) | (refine zA elemB rfl _ _ rfl _ _ _ _ n w w.heap.size rfl rfl (by first | exact hQn | rfl) (by first | exact hQn | rfl) (by omega) (by omega) HB1.out hz1 ?_))
 intro w2 hr2 hb2
 have HS:=Lib.hid (show zti S n w1.heap.size w (.int .i64 0) w2 from ⟨0,Nat.zero_le _,rfl,by rw [Nat.sub_zero];simpa [be] using hr2,hb2⟩)
 clear hr2 hb2
 go_wp2
 go_loopw [24] (zti S n w1.heap.size w) (fun i _=>n - (intOf i).toNat)
 case atStart=>exact HS.out
 case round =>
  obtain ⟨k,hk,rfl,hr,hbw⟩:=hrel
  have HBW:=Lib.hid hbw
  have hgr:=hr.lt
  by_cases hlt:k < n
  ·have hlti:(k:Int) < (n:Int):=by omega
   obtain ⟨I,hI⟩:∃ I,I=n - 1 - k:=⟨_,rfl⟩
   have hIi:(n:Int) - 1 - (k:Int)=(I:Int):=by omega
   have hn1:IntKind.i64.wrap ((n:Int) - 1)=(n:Int) - 1:=by rw [IntKind.wrap_i64];omega
   have hIw:IntKind.i64.wrap (I:Int)=(I:Int):=by rw [IntKind.wrap_i64];omega
   obtain ⟨T,hT⟩:∃ T,T=S / 2 ^ (8*k):=⟨_,rfl⟩
   obtain ⟨M,hM⟩:∃ M,M=8*k:=⟨_,rfl⟩
   have hMi:8*(k:Int)=(M:Int):=by omega
   have hMw:IntKind.i64.wrap (M:Int)=(M:Int):=by rw [IntKind.wrap_i64];omega
   have hsh:(S:Int) / 2 ^ M=(T:Int):=by rw [hT,hM];simp
   obtain ⟨C,hC⟩:∃ C,C=T % 256:=⟨_,rfl⟩
   have hC256:C < 256:=by omega
   have hCw:IntKind.u8.wrap (T:Int)=(C:Int):=by rw [IntKind.wrap_u8];omega
   have hTm:(T:Int) % 256=(C:Int):=by omega
   have hset:=zlb hr I C hC256
   rw [hC,hT,←p256,hI,zsK hlt,←hI,p256,←hT,←hC] at hset
   have HSET:=Lib.hid hset
   have HB3:=Lib.hid (hbw.setCell (p:=⟨w1.heap.size,I,none⟩) hz1 (.int .u8 (C:Int)))
   have hcu:∃ u,wr.cell? ⟨w1.heap.size,I,none⟩=some u:=by
    rw [hr.cell]
    exact ⟨_,List.getElem?_eq_getElem (by simp [zcv];omega)⟩
   obtain ⟨u0,hcu⟩:=hcu
   have hfr:=hr.free I
   have hIn:(I:Int) < (n:Int):=by omega
   have hM64:M < 64:=by omega
   clear hset hr hT hC hI hM hbw
   go_wp2
   go_roundw
   case rel=>exact ⟨k+1,hlt,by go_num,HSET.out,HB3.out⟩
   case measure=>simp [intOf];omega
  ·obtain rfl:k=n:=by omega
   rw [Nat.sub_self,List.replicate_zero,List.nil_append] at hr
   clear hbw
   cases f with
   | false =>
    have HE:Hid (zdr base=be k S):=Lib.hid (by rw [HPB.out];rfl)
    have HO:=Lib.hid hr
    clear hr
    go_wp2
    go_ret2
    rw [HE.out]
    exact ⟨_,rfl,hz1,HO.out,HBW.out⟩
   | true =>
    have HE:Hid (zdr base=be k (S+2 ^ (8*k - 1))):=Lib.hid (by rw [HPB.out];rfl)
    obtain ⟨b0,hb0⟩:∃ b0,b0=S / 256 ^ (k - 1) % 256:=⟨_,rfl⟩
    obtain ⟨hb1,hbe⟩:=zpz n1 HS8.out hb0
    have hc0:wr.cell? ⟨w1.heap.size,0,none⟩=some (.int .u8 (b0:Int)):=by
     rw [hr.cell,List.getElem?_map,List.getElem?_eq_getElem (by rw [zcv];omega),zpy,Nat.sub_zero,←hb0]
     show some (bv (UInt8.ofNat b0))=_
     rw [←zd6 (by omega)]
    have hf0:=hr.free 0
    obtain ⟨C,hC⟩:∃ C,C=b0+128:=⟨_,rfl⟩
    have hor:bits .or .u8 (b0:Int) 128=(C:Int):=by rw [u8_or128 _ (by omega) (by omega)];omega
    have hst:=zlb hr 0 C (by omega)
    rw [hC,hbe,←hC] at hst
    have HO:=Lib.hid hst
    have HB:=Lib.hid (HBW.out.setCell (p:=⟨w1.heap.size,0,none⟩) hz1 (.int .u8 (C:Int)))
    have hn0:(0:Int) < (k:Int):=by omega
    clear hst hr hb0 hbe hC
    go_wp2
    go_ret2
    rw [HE.out]
    exact ⟨_,rfl,hz1,HO.out,HB.out⟩
theorem zpD {X M:Nat} (hM:M≤63) (h:X < 2 ^ (M+1)):X &&& (18446744073709551615 - 2 ^ M)=X % 2 ^ M:=by
 have hp:2 ^ M < 2 ^ 64:=Nat.pow_lt_pow_right (by omega) (by omega)
 rw [show 18446744073709551615 - 2 ^ M=2 ^ 64 - (2 ^ M+1) by omega]
 refine Nat.eq_of_testBit_eq fun i=>?_
 rw [Nat.testBit_and,Nat.testBit_two_pow_sub_succ hp,Nat.testBit_mod_two_pow,Nat.testBit_two_pow]
 by_cases h1:i < M
 ·rw [decide_eq_true (by omega:i < 64),decide_eq_true h1,decide_eq_false (by omega:¬M=i)];simp
 ·rw [decide_eq_false h1,Bool.false_and]
  by_cases h2:M=i
  ·subst h2;simp
  ·have:X.testBit i=false:=Nat.testBit_lt_two_pow (Nat.lt_of_lt_of_le h (Nat.pow_le_pow_right (by omega) (by omega)))
   rw [this,Bool.false_and]
theorem zsM {X M:Nat} (h:X < 2 ^ (M+1)):(X &&& 2 ^ M)=if 2 ^ M≤X then 2 ^ M else 0:=by
 refine Nat.eq_of_testBit_eq fun i=>?_
 rw [Nat.testBit_and,Nat.testBit_two_pow]
 by_cases h2:M=i
 ·subst h2
  rw [decide_eq_true rfl,Bool.and_true]
  by_cases h3:2 ^ M≤X
  ·rw [if_pos h3,Nat.testBit_two_pow_self,Nat.testBit_eq_decide_div_mod_eq]
   have:X / 2 ^ M=1:=by
    rw [Nat.pow_succ] at h
    have h4:X / 2 ^ M < 2:=Nat.div_lt_of_lt_mul (by omega)
    have h5:1≤X / 2 ^ M:=(Nat.le_div_iff_mul_le (Nat.two_pow_pos M)).2 (by omega)
    omega
   rw [this];decide
  ·rw [if_neg h3,Nat.zero_testBit]
   exact Nat.testBit_lt_two_pow (by omega)
 ·rw [decide_eq_false h2,Bool.and_false]
  by_cases h3:2 ^ M≤X
  ·rw [if_pos h3,Nat.testBit_two_pow,decide_eq_false h2]
  ·rw [if_neg h3,Nat.zero_testBit]
def ztj (x:List UInt8) (w:World) (u i:Value) (wr:World):Prop:=∃ k U:Nat,k≤x.length∧i=.int .i64 (k:Int)∧u=.int .u64 (U:Int)∧U=bval (x.take k)∧wr=w
theorem zig {x:List UInt8} {X M:Nat} (h1:1≤x.length) (h8:x.length≤8) (hM:M=8*x.length - 1) (hX:X=bval x):zbh 0 (X % 2 ^ M) (decide (2 ^ M≤X))=(zds x,true)∧inInt (zds x)∧X < 2 ^ (M+1):=by
 have hlt:X < 2 ^ (M+1):=by rw [hX,show M+1=8*x.length by omega,←p256];exact zda x
 have h63:2 ^ M≤2 ^ 63:=Nat.pow_le_pow_right (by omega) (by omega)
 have hR:X % 2 ^ M < 2 ^ M:=Nat.mod_lt _ (Nat.two_pow_pos M)
 have e:zds x=if 2 ^ M≤X then -((X % 2 ^ M:Nat):Int) else ((X % 2 ^ M:Nat):Int):=by unfold zds;rw [←hM,←hX]
 rw [e]
 generalize X % 2 ^ M=S at *
 generalize 2 ^ M=P at *
 refine ⟨?_,?_,hlt⟩
 ·unfold zbh
  rw [if_neg (by omega)]
  by_cases h:P≤X
  ·rw [if_pos (decide_eq_true h),if_neg (by omega),if_pos h];try simp
  ·rw [if_neg (by simpa using h),if_neg (by omega),if_neg h];try simp
 ·unfold inInt
  split <;> omega
theorem znV (x:List UInt8) (v:Value) (w:World) (hv:IsB x v w) (h1:1≤x.length) (h8:x.length≤8):Calls Tryz.prog 161 #[v] w fun e w'=>e=.returned (.int .i64 (zds x))∧Below w.heap.size w w':=by
 rw [isB_iff] at hv
 obtain ⟨A,n,c,rfl⟩:=hv.shape
 have HN:=Lib.hid hv.parts.1
 have HV:=Lib.hid hv
 have hn1:1≤n:=by have:=HN.out;omega
 have hn8:n≤8:=by have:=HN.out;omega
 obtain ⟨M,hM⟩:∃ M,M=8*n - 1:=⟨_,rfl⟩
 obtain ⟨hst,hin,hX⟩:=zig (M:=M) (X:=bval x) h1 h8 (by rw [HN.out];exact hM) rfl
 have HST:=Lib.hid hst
 have HX:=Lib.hid hX
 have hMn:8*(n:Int) - 1=(M:Int):=by omega
 have hw8:IntKind.i64.wrap (8*(n:Int))=8*(n:Int):=by rw [IntKind.wrap_i64];omega
 have hMw:IntKind.i64.wrap (M:Int)=(M:Int):=by rw [IntKind.wrap_i64];omega
 have hM64:M≤63:=by omega
 have HS:=Lib.hid (show ztj x w (.int .u64 0) (.int .i64 0) w from ⟨0,0,Nat.zero_le _,rfl,rfl,by simp [bval],rfl⟩)
 clear hv h1 h8 hst hin hX hM
 go_enter Tryz.func161,Tryz.ntmps161
 go_wp2
 go_loopw [3,11] (ztj x w) (fun _ i _=>n - (intOf i).toNat)
 case atStart=>exact HS.out
 case round =>
  obtain ⟨k,U,hk,rfl,rfl,hU,rfl⟩:=hrel
  have HU:=Lib.hid hU
  have hkn:k≤n:=by have:=HN.out;omega
  clear hU hk
  by_cases hlt:k < n
  ·have hkl:k < x.length:=by have:=HN.out;omega
   have hlti:(k:Int) < (n:Int):=by omega
   obtain ⟨ad,rfl,had,hcell⟩:=HV.out.at hkl
   obtain ⟨d,hd⟩:∃ d,d=x[k].toNat:=⟨_,rfl⟩
   have hcx:wr.cell? (ad.add k)=some (.int .u8 (d:Int)):=by rw [hcell,hd];rfl
   have hd8:d < 256:=by rw [hd];exact UInt8.toNat_lt _
   have hU7:U < 72057594037927936:=by
    rw [HU.out]
    refine Nat.lt_of_lt_of_le (zda _) ?_
    have:256 ^ (x.take k).length≤256 ^ 7:=Nat.pow_le_pow_right (by omega) (by rw [List.length_take];omega)
    omega
   obtain ⟨V,hV⟩:∃ V,V=U*256:=⟨_,rfl⟩
   have hor:bits .or .u64 (V:Int) (d:Int)=((V+d:Nat):Int):=zlc 8 V d (by omega) hd8 (by omega)
   have hshl:IntKind.u64.wrap ((U:Int)*256)=(V:Int):=by rw [IntKind.wrap_u64];omega
   obtain ⟨Y,hY⟩:∃ Y,Y=V+d:=⟨_,rfl⟩
   rw [←hY] at hor
   have hdw:IntKind.u64.wrap (d:Int)=(d:Int):=by rw [IntKind.wrap_u64];omega
   have HN1:=Lib.hid (show Y=bval (x.take (k+1)) by rw [zf2 x k hkl,←HU.out,←hd];omega)
   clear hcell hd hY hU7 hV
   go_wp2
   go_roundw
   case rel=>exact ⟨k+1,Y,hkl,by go_num,rfl,HN1.out,rfl⟩
   case measure=>simp [intOf];omega
  ·obtain rfl:k=n:=by omega
   have hXU:U=bval x:=by have:=HU.out;rwa [List.take_of_length_le (by have:=HN.out;omega)] at this
   rw [←hXU] at HST HX
   obtain ⟨P,hP⟩:∃ P,P=2 ^ M:=⟨_,rfl⟩
   obtain ⟨R,hR⟩:∃ R,R=U % 2 ^ M:=⟨_,rfl⟩
   have hPb:P≤9223372036854775808:=by
    rw [hP]
    exact Nat.pow_le_pow_right (n:=2) (i:=M) (j:=63) (by omega) hM64
   have hU64:U < 18446744073709551616:=by
    have h:=HX.out
    rw [Nat.pow_succ,←hP] at h
    omega
   have hRP:R < P:=by rw [hR,hP];exact Nat.mod_lt _ (Nat.two_pow_pos M)
   have hpi:(2:Int) ^ M=(P:Int):=by rw [hP];simp
   have hpw:IntKind.u64.wrap (P:Int)=(P:Int):=by rw [IntKind.wrap_u64];omega
   have hand:bits .andNot .u64 (U:Int) (P:Int)=(R:Int):=by
    rw [u64_andNot_nat _ _ hU64 (by omega),hP,zpD hM64 HX.out,hR]
   obtain ⟨Z,hZ⟩:∃ Z,Z=(U &&& P):=⟨_,rfl⟩
   have hand2:bits .and .u64 (U:Int) (P:Int)=(Z:Int):=by
    rw [u64_and_nat _ _ hU64 (by omega),hZ]
   have hZt:((Z:Int) != 0)=decide (2 ^ M≤U):=by
    rw [hZ,hP,zsM HX.out,←hP]
    by_cases h:P≤U
    ·rw [if_pos h,decide_eq_true h]
     have:0 < P:=by omega
     simp;omega
    ·rw [if_neg h,decide_eq_false h];rfl
   obtain ⟨f,hf⟩:∃ f,f=decide (2 ^ M≤U):=⟨_,rfl⟩
   rw [←hf] at hZt HST
   rw [←hR] at HST
   have HSP:=Lib.hid (zj5 0 (R:Int) f wr (by unfold inInt;omega) (by omega) (by omega))
   rw [Int.toNat_natCast,HST.out] at HSP
   clear hXU hP hR hPb hU64 hRP hZ hf
   go_wp2_with (go_at_call 195;refine HSP.out.mono ?_;rintro e w1 ⟨rfl,hb1⟩)
   go_ret
   exact ⟨rfl,hb1⟩
def ztC (o:Option (List Nat)) (w:World) (e:Ending) (w':World):Prop:=
 match o with
 | none=>e=.returned (.tuple #[.slice none 0 0,.bool false])∧Below w.heap.size w w'
 | some us=>∃ g,e=.returned (.tuple #[.slice (some ⟨g,0,none⟩) us.length us.length,.bool true])∧w.heap.size≤g∧Row w' g 101 (us.map uv)∧Below w.heap.size w w'
def ztD (o:Option (List Int)) (w:World) (e:Ending) (w':World):Prop:=
 match o with
 | none=>e=.returned (.tuple #[.slice none 0 0,.bool false])∧Below w.heap.size w w'
 | some xs=>∃ v,e=.returned (.tuple #[v,.bool true])∧IsV iv xs v w'∧Below w.heap.size w w'
theorem zpE (base:Int) (l:List Int) (v:Value) (w:World) (hv:IsV iv l v w) (hbi:inInt base) (hl:∀ x∈l,inInt x) (hb:l.length≤1000000) :
  Calls Tryz.prog 188 #[.int .i64 base,v] w (ztC (omap (pone base) l) w):=by
 obtain ⟨A,n,c,rfl⟩:=hv.shape
 have HN:=Lib.hid hv.parts.1
 have HV:=Lib.hid hv
 have HL:=Lib.hid hl
 have hn6:n≤1000000:=by have:=HN.out;omega
 clear hv hl hb
 go_enter Tryz.func188,Tryz.ntmps188
 go_wp2_with (refine zA elemU rfl _ _ rfl _ _ _ _ n w w.heap.size rfl rfl rfl rfl (by omega) (by omega) (Below.refl _ _) (Nat.le_refl _) ?_)
 intro w1 hr1 hb1
 have HS:=Lib.hid (show zdc (pone base) uv (uv 0) 101 l w (.int .i64 0) w1 from ⟨0,[],Nat.zero_le _,rfl,rfl,by rw [Nat.sub_zero,HN.out];simpa [uv] using hr1,hb1⟩)
 clear hr1 hb1
 go_wp2
 go_loopw [17] (zdc (pone base) uv (uv 0) 101 l w) (fun i _=>n - (intOf i).toNat)
 case atStart=>exact HS.out
 case round =>
  obtain ⟨k,acc,hk,rfl,hacc,hr,hbw⟩:=hrel
  have hal:acc.length=k:=by rw [zb4 hacc,List.length_take];omega
  rw [HN.out] at hr
  have HACC:=Lib.hid hacc
  have HAL:=Lib.hid hal
  have HB:=Lib.hid hbw
  have HR:=Lib.hid hr
  have hk':k≤n:=by have:=HN.out;omega
  clear hacc hal hk hr
  by_cases hlt:k < n
  ·have hkl:k < l.length:=by have:=HN.out;omega
   have hlti:(k:Int) < (n:Int):=by omega
   obtain ⟨ad,rfl,_,hcell⟩:=(HV.out.below hbw).at hkl
   obtain ⟨x,hx⟩:∃ x,x=l[k]:=⟨_,rfl⟩
   have hcx:wr.cell? (ad.add k)=some (.int .i64 x):=by rw [hcell,hx];rfl
   have hxb:inInt x:=by rw [hx];exact HL.out _ (List.getElem_mem hkl)
   have HX:=Lib.hid hx
   have HD:=Lib.hid (zg5 base x wr hbi hxb)
   obtain ⟨u,d,o,hg⟩:∃ u d o,zx base x=(u,d,o):=⟨_,_,_,rfl⟩
   rw [hg] at HD
   have HP:=Lib.hid (show pone base x=if o=true then some u else none by unfold pone;rw [hg])
   clear hcell hx hxb hg hbw
   go_wp2_with fail
   refine HD.out.mono ?_
   rintro e w2 ⟨rfl,hb2⟩
   have HB2:=Lib.hid (za HB.out hb2)
   cases o with
   | false =>
    have hE:=Lib.hid (show omap (pone base) l=none from zb0 (x:=x) (by rw [HX.out];exact List.getElem_mem hkl) (by rw [HP.out];rfl))
    clear hb2
    go_wp2
    go_ret2
    rw [hE.out]
    exact ⟨rfl,HB2.out⟩
   | true =>
    have hnext:=Lib.hid (show omap (pone base) (l.take (k+1))=some (acc ++ [u]) from zcP hkl HACC.out (by rw [←HX.out,HP.out];rfl))
    have hr2:=HR.out.below hb2 HR.out.lt
    have hfx:=hr2.free k
    have hcu:∃ y,w2.cell? ⟨w.heap.size,k,none⟩=some y:=by
     rw [hr2.cell]
     exact ⟨_,List.getElem?_eq_getElem (by rw [List.length_append,List.length_map,List.length_replicate];have:=HAL.out;omega)⟩
    obtain ⟨u0,hcu⟩:=hcu
    have hset:=hr2.set_ k (uv u)
    rw [zcQ hlt HAL.out] at hset
    have HSET:=Lib.hid hset
    have HB3:=Lib.hid (HB2.out.setCell (p:=⟨w.heap.size,k,none⟩) (Nat.le_refl _) (uv u))
    clear hset hr2 hb2
    go_wp2
    go_roundw
    case rel=>exact ⟨k+1,_,hkl,by go_num,hnext.out,by rw [HN.out];exact HSET.out,HB3.out⟩
    case measure=>simp [intOf];omega
  ·obtain rfl:k=n:=by omega
   have hlti:¬(k:Int) < (k:Int):=by omega
   have hE:Hid (omap (pone base) l=some acc):=Lib.hid (by
    have h1:=HACC.out
    rwa [List.take_of_length_le (by have:=HN.out;omega)] at h1)
   have hr:=HR.out
   rw [Nat.sub_self,List.replicate_zero,List.append_nil] at hr
   have HRR:=Lib.hid hr
   clear hr hbw
   go_wp2
   go_ret2
   rw [hE.out]
   exact ⟨w.heap.size,by rw [HAL.out];rfl,Nat.le_refl _,HRR.out,HB.out⟩
theorem zrq {s f:Bool} {x:Int} {u:Nat} {z:Int} {ok:Bool} (h:zbh x u f=(z,ok)):zbj s f x u=if ok=true∧(s=true∨0≤z) then some z else none:=by
 unfold zbj
 rw [h]
theorem zkj (base:Int) (us:List Nat) (v:Value) (s:Bool) (w:World) (hv:IsV uv us v w) (hbi:inInt base) (hu:∀ u∈us,u < 2 ^ 64) (hb:us.length≤1000000) :
  Calls Tryz.prog 164 #[.int .i64 base,v,.bool s] w (ztD (omap (zbj s false base) us) w):=by
 obtain ⟨A,n,c,rfl⟩:=hv.shape
 have HN:=Lib.hid hv.parts.1
 have HV:=Lib.hid hv
 have HL:=Lib.hid hu
 have hn6:n≤1000000:=by have:=HN.out;omega
 clear hv hu hb
 go_enter Tryz.func164,Tryz.ntmps164
 go_wp2_with (refine zA zdk rfl _ _ rfl _ _ _ _ n w w.heap.size rfl rfl rfl rfl (by omega) (by omega) (Below.refl _ _) (Nat.le_refl _) ?_)
 intro w1 hr1 hb1
 have HS:=Lib.hid (show zdc (zbj s false base) iv (iv 0) 3 us w (.int .i64 0) w1 from ⟨0,[],Nat.zero_le _,rfl,rfl,by rw [Nat.sub_zero,HN.out];simpa [iv] using hr1,hb1⟩)
 clear hr1 hb1
 go_wp2
 go_loopw [18] (zdc (zbj s false base) iv (iv 0) 3 us w) (fun i _=>n - (intOf i).toNat)
 case atStart=>exact HS.out
 case round =>
  obtain ⟨k,acc,hk,rfl,hacc,hr,hbw⟩:=hrel
  have hal:acc.length=k:=by rw [zb4 hacc,List.length_take];omega
  rw [HN.out] at hr
  have HACC:=Lib.hid hacc
  have HAL:=Lib.hid hal
  have HB:=Lib.hid hbw
  have HR:=Lib.hid hr
  have hk':k≤n:=by have:=HN.out;omega
  clear hacc hal hk hr
  by_cases hlt:k < n
  ·have hkl:k < us.length:=by have:=HN.out;omega
   have hlti:(k:Int) < (n:Int):=by omega
   obtain ⟨ad,rfl,_,hcell⟩:=(HV.out.below hbw).at hkl
   obtain ⟨x,hx⟩:∃ x,x=us[k]:=⟨_,rfl⟩
   have hcx:wr.cell? (ad.add k)=some (.int .u64 (x:Int)):=by rw [hcell,hx];rfl
   have hxb:x < 18446744073709551616:=by rw [hx];exact HL.out _ (List.getElem_mem hkl)
   have HX:=Lib.hid hx
   have HD:=Lib.hid (zj5 base (x:Int) false wr hbi (by omega) (by omega))
   rw [Int.toNat_natCast] at HD
   obtain ⟨z,o,hg⟩:∃ z o,zbh base x false=(z,o):=⟨_,_,rfl⟩
   rw [hg] at HD
   have HP:=Lib.hid (zrq (s:=s) hg)
   clear hcell hx hxb hg hbw
   go_wp2_with fail
   refine HD.out.mono ?_
   rintro e w2 ⟨rfl,hb2⟩
   have HB2:=Lib.hid (za HB.out hb2)
   by_cases hok:o=true∧(s=true∨0≤z)
   ·have hnext:=Lib.hid (show omap (zbj s false base) (us.take (k+1))=some (acc ++ [z]) from zcP hkl HACC.out (by rw [←HX.out,HP.out,if_pos hok]))
    have hr2:=HR.out.below hb2 HR.out.lt
    have hfx:=hr2.free k
    have hcu:∃ y,w2.cell? ⟨w.heap.size,k,none⟩=some y:=by
     rw [hr2.cell]
     exact ⟨_,List.getElem?_eq_getElem (by rw [List.length_append,List.length_map,List.length_replicate];have:=HAL.out;omega)⟩
    obtain ⟨u0,hcu⟩:=hcu
    have hset:=hr2.set_ k (iv z)
    rw [zcQ hlt HAL.out] at hset
    have HSET:=Lib.hid hset
    have HB3:=Lib.hid (HB2.out.setCell (p:=⟨w.heap.size,k,none⟩) (Nat.le_refl _) (iv z))
    obtain ⟨rfl,hsz⟩:=hok
    clear hset hr2 hb2
    cases s with
    | true =>
     obtain ⟨d,hd⟩:∃ d,decide (z < 0)=d:=⟨_,rfl⟩
     cases d
     all_goals
      go_wp2
      go_roundw
      case rel=>exact ⟨k+1,_,hkl,by go_num,hnext.out,by rw [HN.out];exact HSET.out,HB3.out⟩
      case measure=>simp [intOf];omega
    | false =>
     have d3:decide (z < 0)=false:=decide_eq_false (by rcases hsz with h | h <;> first | cases h | omega)
     clear hsz
     go_wp2
     go_roundw
     case rel=>exact ⟨k+1,_,hkl,by go_num,hnext.out,by rw [HN.out];exact HSET.out,HB3.out⟩
     case measure=>simp [intOf];omega
   ·have hE:=Lib.hid (show omap (zbj s false base) us=none from zb0 (x:=x) (by rw [HX.out];exact List.getElem_mem hkl) (by rw [HP.out,if_neg hok]))
    clear hb2
    cases o with
    | false =>
     clear hok
     go_wp2
     go_ret2
     rw [hE.out]
     exact ⟨rfl,HB2.out⟩
    | true =>
     obtain ⟨rfl,d3⟩:s=false∧decide (z < 0)=true:=by
      cases s
      ·exact ⟨rfl,decide_eq_true (by refine Int.not_le.1 fun h=>hok ⟨rfl,.inr h⟩)⟩
      ·exact absurd ⟨rfl,.inl rfl⟩ hok
     clear hok
     go_wp2
     go_ret2
     rw [hE.out]
     exact ⟨rfl,HB2.out⟩
  ·obtain rfl:k=n:=by omega
   have hlti:¬(k:Int) < (k:Int):=by omega
   have hE:Hid (omap (zbj s false base) us=some acc):=Lib.hid (by
    have h1:=HACC.out
    rwa [List.take_of_length_le (by have:=HN.out;omega)] at h1)
   have hr:=HR.out
   rw [Nat.sub_self,List.replicate_zero,List.append_nil] at hr
   have HRR:=Lib.hid (zcB hr HAL.out (by omega))
   clear hr hbw
   go_wp2
   go_ret2
   rw [hE.out]
   exact ⟨_,rfl,HRR.out,HB.out⟩
structure Two (w:World) (B:Nat) (u v:Value) (n m:Nat) (xs ys:List Value):Prop where
 h1:w.ownsRow B 101 1 u n xs
 h2:w.ownsRow B 101 1 v m ys
 d:∀ a,u.ownBlock=some a→v.ownBlock=some a→False
theorem Two.turn {w:World} {B n m:Nat} {u v:Value} {xs ys:List Value} (h:Two w B u v n m xs ys):Two w B v u m n ys xs:=⟨h.h2,h.h1,fun a p q=>h.d a q p⟩
theorem Two.below {w w':World} {B n m:Nat} {u v:Value} {xs ys:List Value} (h:Two w B u v n m xs ys) (hb:Below w.heap.size w w'):Two w' B u v n m xs ys:=⟨own_below h.h1 hb,own_below h.h2 hb,h.d⟩
theorem Two.past {w w':World} {B n m g:Nat} {u v:Value} {xs ys:List Value} (h:Two w B u v n m xs ys) (hg:w.grownBy w' (some g)) (hlt:g < B):Two w' B u v n m xs ys:=⟨zgi h.h1 hg hlt,zgi h.h2 hg hlt,h.d⟩
theorem ztk {w:World} {B n a:Nat} {e:TypeId} {v:Value} {xs:List Value} (h:w.ownsRow B e 1 v n xs) (ha:v.ownBlock=some a):a < w.heap.size:=by
 rcases h.2 with ⟨h1,_⟩ | ⟨g,c,cur,h1,_,h3,_⟩
 ·rw [h1] at ha;cases ha
 ·rw [h1] at ha;injection ha with ha;subst ha;exact (Array.getElem?_eq_some_iff.1 h3).1
theorem Two.push {w w':World} {B n n' m k:Nat} {u v u':Value} {xs xs' ys:List Value} (h:Two w B u v n m xs ys) (ho:w'.ownsRow B 101 1 u' n' xs') (hg:w.grownBy w' u.ownBlock) (hq:u'.ownBlock=u.ownBlock∨u'.ownBlock=some k) (hk:w.heap.size≤k):Two w' B u' v n' m xs' ys:=by
 refine ⟨ho,h.h2.kept hg ?_,?_⟩
 ·cases hv:v.ownBlock with
  | none=>exact .inl rfl
  | some a=>exact .inr fun he=>h.d a he.symm hv
 ·intro a h1 h2
  rcases hq with hq | hq
  ·exact h.d a (hq ▸ h1) h2
  ·rw [hq] at h1
   injection h1 with h1
   have:=ztk h.h2 h2
   omega
theorem Two.nil (w:World) (B:Nat):Two w B (.slice none 0 0) (.slice none 0 0) 0 0 [] []:=⟨World.ownsRow_nil _ _ _ _,World.ownsRow_nil _ _ _ _,fun a h=>by cases h⟩
def zsN (m B b a:Nat) (n A gap patch:Nat) (xs ys:List Nat) (w:World) (e:Ending) (w':World):Prop:=
 ∃ u v,e=.returned (.tuple #[])∧Row w' b 209 [u,v]∧Row w' a 3 [.int .i64 ((A+gap:Nat):Int)]∧Two w' B u v (n+1) (n+1) ((xs ++ [gap]).map uv) ((ys ++ [patch]).map uv)∧Below m w w'
theorem zsO (m B b a n A gap patch:Nat) (u v:Value) (xs ys:List Nat) (w:World) (hrb:Row w b 209 [u,v]) (hra:Row w a 3 [.int .i64 (A:Int)]) (hmb:m≤b) (hma:m≤a) (hbB:b < B) (haB:a < B) (hab:a≠b) (hB:B≤w.heap.size)
  (h2:Two w B u v n n (xs.map uv) (ys.map uv)) (hn:n≤1000000) (hA:A≤1000000) (hgap:gap≤1000000) :
  Calls Tryz.prog 208 #[.int .i64 (gap:Int),.int .u64 (patch:Int),.pointer (some ⟨b,0,none⟩),.pointer (some ⟨a,0,none⟩)] w (zsN m B b a n A gap patch xs ys w):=by
 have hgw:IntKind.u64.wrap (gap:Int)=(gap:Int):=by rw [IntKind.wrap_u64];omega
 have hc0:w.cell? ⟨b,0,none⟩=some u:=hrb.cell 0
 have H2:=Lib.hid h2
 have HRB:=Lib.hid hrb
 have HRA:=Lib.hid hra
 clear hrb hra h2
 go_enter Tryz.func208,Tryz.ntmps208
 go_wp2_with (at_builtin;refine zX elemU rfl _ _ rfl B u n (xs.map uv) (uv gap) w w rfl rfl rfl rfl H2.out.h1 (Below.refl _ _) hB (by omega) (by omega) ?_)
 intro u1 w1 ho1 hb1 hg1 hq1
 obtain ⟨A1,c1,hu1,_⟩:=zbd ho1
 subst hu1
 have hz1:=hb1.size
 have HT1:=Lib.hid (H2.out.push ho1 hg1 hq1 (Nat.le_succ _))
 have hrb1:=HRB.out.below hb1 hbB
 have hra1:=HRA.out.below hb1 haB
 have hcb:w1.cell? ⟨b,0,none⟩=some u:=hrb1.cell 0
 have hfb:=hrb1.free 0
 have hset:=hrb1.set_ 0 (.slice A1 (n+1) c1)
 rw [show [u,v].set 0 (.slice A1 (n+1) c1)=[.slice A1 (n+1) c1,v] from rfl] at hset
 have HRB2:=Lib.hid hset
 have HRA2:=Lib.hid (hra1.far (p:=⟨b,0,none⟩) hab (.slice A1 (n+1) c1))
 have HS2:=Lib.hid (HT1.out.past (zcf w1 b 0 (.slice A1 (n+1) c1)) hbB).turn
 have hc1:(w1.setCell ⟨b,0,none⟩ (.slice A1 (n+1) c1)).cell? ⟨b,1,none⟩=some v:=hset.cell 1
 have HZS:=Lib.hid (show Value.slice (some ⟨w1.heap.size,0,none⟩) 1 1=.slice (some ⟨(w1.setCell ⟨b,0,none⟩ (.slice A1 (n+1) c1)).heap.size,0,none⟩) 1 1 by simp)
 have HBM:=Lib.hid ((hb1.mono (Nat.le_of_lt (Nat.lt_of_le_of_lt hmb hbB))).setCell (p:=⟨b,0,none⟩) hmb (.slice A1 (n+1) c1))
 clear ho1 hg1 hq1 hrb1 hra1 hset hb1 hc0
 go_wp2_with (at_builtin;go_must (refine zX elemU rfl _ _ rfl B v n (ys.map uv) (uv patch) (w1.setCell ⟨b,0,none⟩ (.slice A1 (n+1) c1)) (w1.setCell ⟨b,0,none⟩ (.slice A1 (n+1) c1)) rfl HZS.out rfl rfl HS2.out.h1 (Below.refl _ _) (Nat.le_trans hB (by simpa using hz1)) (by omega) (by omega) ?_))
 intro v2 w2 ho2 hb2 hg2 hq2
 obtain ⟨A2,c2,hv2,_⟩:=zbd ho2
 subst hv2
 have HT2:=Lib.hid (HS2.out.push ho2 hg2 hq2 (by simp)).turn
 have hrb2:=HRB2.out.below hb2 hbB
 have hra2:=HRA2.out.below hb2 haB
 have hcb2:w2.cell? ⟨b,1,none⟩=some v:=hrb2.cell 1
 have hfb2:=hrb2.free 1
 have hset2:=hrb2.set_ 1 (.slice A2 (n+1) c2)
 rw [show [Value.slice A1 (n+1) c1,v].set 1 (.slice A2 (n+1) c2)=[Value.slice A1 (n+1) c1,.slice A2 (n+1) c2] from rfl] at hset2
 have hra3:=hra2.far (p:=⟨b,1,none⟩) hab (.slice A2 (n+1) c2)
 have hca:(w2.setCell ⟨b,1,none⟩ (.slice A2 (n+1) c2)).cell? ⟨a,0,none⟩=some (.int .i64 (A:Int)):=hra3.cell 0
 have hfa:=hra3.free 0
 obtain ⟨C,hC⟩:∃ C,C=A+gap:=⟨_,rfl⟩
 have hCi:(A:Int)+(gap:Int)=(C:Int):=by omega
 have hCw:IntKind.i64.wrap (C:Int)=(C:Int):=by rw [IntKind.wrap_i64];omega
 have hset3:=hra3.set_ 0 (.int .i64 (C:Int))
 rw [show [Value.int .i64 (A:Int)].set 0 (.int .i64 (C:Int))=[.int .i64 (C:Int)] from rfl] at hset3
 have HRA3:=Lib.hid hset3
 have HRB3:=Lib.hid (hset2.far (p:=⟨a,0,none⟩) (Ne.symm hab) (.int .i64 (C:Int)))
 have HT3:=Lib.hid ((HT2.out.past (zcf w2 b 1 (.slice A2 (n+1) c2)) hbB).past (zcf (w2.setCell ⟨b,1,none⟩ (.slice A2 (n+1) c2)) a 0 (.int .i64 (C:Int))) haB)
 have HBF:=Lib.hid ((((HBM.out.trans (hb2.mono (Nat.le_of_lt (Nat.lt_of_le_of_lt hmb hbB)))).setCell (p:=⟨b,1,none⟩) hmb (.slice A2 (n+1) c2))).setCell (p:=⟨a,0,none⟩) hma (.int .i64 (C:Int)))
 have HC:=Lib.hid hC
 clear ho2 hg2 hq2 hrb2 hra2 hset2 hra3 hset3 hb2 hC hcb hfb hc1
 go_wp2
 go_end0
 refine ⟨(.slice A1 (n+1) c1),(.slice A2 (n+1) c2),rfl,HRB3.out,by rw [←HC.out];exact HRA3.out,?_,HBF.out⟩
 rw [List.map_append,List.map_append]
 exact HT3.out
theorem zih {P:Program} {f:Func} {p:Tmp} {t t':TypeId} {K:Ending→World→Prop} {a:Act} {w:World} {g:Nat} {cs:List Value} {d:TypeDesc} (hf:f.results = #[.cell p t]) (hp:a.tmps.getD p undef=.pointer (some ⟨g,0,none⟩)) (hr:Row w g t' cs)
  (hu:P.underlying t=some d) (hdd:(match d with | .struct _ | .array _ _=>true | _=>false)=true) (hi:(P.info? t).map (·.size)=some cs.length) (hd:a.defers=[]) (hK:K (.returned (.agg cs.toArray)) w):bodyPost P f K .ret a w:=
 bodyPost_ret (v:=.agg cs.toArray) (results_cell_row hf a.tmps w g t' cs.toArray (0,0) _ hp hr hu hdd (by rw [hi];simp)) hd hK
def prow (us:List Nat) (w k:Nat):List Nat:=plow (us.take k) w ++ us.drop k
theorem zrr (us:List Nat) (w k:Nat):(prow us w k).length=us.length:=by
 unfold prow plow
 rw [List.length_append,List.length_map,←List.length_append,List.take_append_drop]
theorem zlI {us:List Nat} {w k:Nat} (hk:k < us.length):(prow us w k)[k]? = some us[k]:=by
 unfold prow plow
 rw [List.getElem?_append_right (by rw [List.length_map,List.length_take];omega),List.length_map,List.length_take,show k - min k us.length=0 by omega,List.getElem?_drop,Nat.add_zero,List.getElem?_eq_getElem hk]
theorem zmN {us:List Nat} {w k:Nat} (hk:k < us.length):(prow us w k).set k (us[k] % 2 ^ w)=prow us w (k+1):=by
 unfold prow plow
 have hl:((us.take k).map (· % 2 ^ w)).length=k:=by rw [List.length_map,List.length_take];omega
 rw [List.set_append_right _ _ (by omega),hl,Nat.sub_self,List.drop_eq_getElem_cons hk,List.set_cons_zero,List.take_succ_eq_append_getElem hk,List.map_append,List.append_assoc]
 rfl
theorem zpF {us:List Nat} {w k:Nat} (hk:k < us.length) (h:us[k] / 2 ^ w=0):prow us w (k+1)=prow us w k:=by
 rw [←zmN hk]
 have h1:us[k] % 2 ^ w=us[k]:=by have:=Nat.div_add_mod us[k] (2 ^ w);rw [h] at this;omega
 rw [h1]
 refine List.ext_getElem? fun i=>?_
 rw [List.getElem?_set]
 split
 ·rename_i e
  subst e
  rw [zlI hk,if_pos (by rw [zrr];exact hk)]
 ·rfl
theorem zpG (us:List Nat) (w:Nat):prow us w 0=us:=by simp [prow,plow]
theorem zrs (us:List Nat) (w:Nat):prow us w us.length=plow us w:=by simp [prow]
def zpH (a:Nat) (W:World):Nat:=match W.cell? ⟨a,0,none⟩ with | some v=>(intOf v).toNat | none=>0
theorem zii {a A:Nat} {W:World} {t:TypeId} (h:Row W a t [.int .i64 (A:Int)]):zpH a W=A:=by
 unfold zpH
 have h1:W.cell? ⟨a,0,none⟩=some (.int .i64 (A:Int)):=h.cell 0
 rw [h1]
 simp [intOf]
structure Cutting (row:List Nat) (ps:List (Nat × Nat)) (last g r:Nat) (w wr:World):Prop where
 ex:∃ u v,Row wr (r+1) 209 [u,v]∧Two wr (r+3) u v ps.length ps.length ((ps.map (·.1)).map uv) ((ps.map (·.2)).map uv)
 box:Row wr (r+2) 3 [.int .i64 (last:Int)]
 res:Row wr r 209 [.slice none 0 0,.slice none 0 0]
 row:Row wr g 101 (row.map uv)
 size:r+3≤wr.heap.size
 below:Below g w wr
theorem Cutting.add {row:List Nat} {ps:List (Nat × Nat)} {last g r:Nat} {w wr:World} (h:Cutting row ps last g r w wr) (hgr:g < r) (gap patch:Nat) (hn:ps.length≤1000000) (hA:last≤1000000) (hgap:gap≤1000000) :
  Calls Tryz.prog 208 #[.int .i64 (gap:Int),.int .u64 (patch:Int),.pointer (some ⟨r+1,0,none⟩),.pointer (some ⟨r+2,0,none⟩)] wr fun e w'=>e=.returned (.tuple #[])∧Cutting row (ps ++ [(gap,patch)]) (last+gap) g r w w':=by
 obtain ⟨u,v,hrb,h2⟩:=h.ex
 refine (zsO (r+1) (r+3) (r+1) (r+2) ps.length last gap patch u v _ _ wr hrb h.box (Nat.le_refl _) (by omega) (by omega) (by omega) (by omega) h.size h2 hn hA hgap).mono ?_
 rintro e w' ⟨u',v',rfl,h3,h4,h5,h6⟩
 refine ⟨rfl,⟨u',v',h3,?_⟩,h4,h.res.below h6 (by omega),h.row.below h6 (by omega),Nat.le_trans h.size h6.size,h.below.trans (h6.mono (by omega))⟩
 rw [List.length_append,List.length_singleton]
 have h7:=h5
 rw [show ps.map (·.1) ++ [gap]=(ps ++ [(gap,patch)]).map (·.1) by simp,show ps.map (·.2) ++ [patch]=(ps ++ [(gap,patch)]).map (·.2) by simp] at h7
 exact h7
theorem Cutting.set {row:List Nat} {ps:List (Nat × Nat)} {last g r:Nat} {w wr:World} (h:Cutting row ps last g r w wr) (hgr:g < r) (k T:Nat):Cutting (row.set k T) ps last g r w (wr.setCell ⟨g,k,none⟩ (.int .u64 (T:Int))):=by
 obtain ⟨u,v,hrb,h2⟩:=h.ex
 refine ⟨⟨u,v,hrb.far (p:=⟨g,k,none⟩) (by dsimp only;omega) _,h2.past (zcf _ _ _ _) (by omega)⟩,h.box.far (p:=⟨g,k,none⟩) (by dsimp only;omega) _,h.res.far (p:=⟨g,k,none⟩) (by dsimp only;omega) _,?_,by simpa using h.size,h.below.setCell (p:=⟨g,k,none⟩) (Nat.le_refl _) _⟩
 have h3:=h.row.set_ k (uv T)
 rw [←List.map_set] at h3
 exact h3
def zlJ (us:List Nat) (W0 g r:Nat) (w:World) (i:Value) (wr:World):Prop:=
 ∃ k:Nat,k≤us.length∧i=.int .i64 (k:Int)∧Cutting (prow us W0 k) (pst W0 us k).1 (pst W0 us k).2 g r w wr
def ztl (row:List Nat) (ps:List (Nat × Nat)) (l0 J g r:Nat) (w:World) (_i:Value) (wr:World):Prop:=
 ∃ i:Nat,i≤J∧Cutting row (ps ++ List.replicate i (255,0)) (l0+255*i) g r w wr
def zeC (u v:Value):Value:=.agg #[u,v]
def zpI (us:List Nat) (W0 g:Nat) (w:World) (e:Ending) (w':World):Prop:=
 ∃ u v,e=.returned (zeC u v)∧IsV uv ((zn W0 us).map (·.1)) u w'∧IsV uv ((zn W0 us).map (·.2)) v w'∧Row w' g 101 ((plow us W0).map uv)∧Below g w w'
theorem zij:(Tryz.prog.info? 209).map (·.size)=some 2:=by kernel_rfl
theorem zsP (us:List Nat) (W0 g n:Nat) (w:World) (hr:Row w g 101 (us.map uv)) (hn:us.length=n) (h64:∀ u∈us,u < 2 ^ 64) (hb:n≤10000) (hw:W0≤64) :
  Calls Tryz.prog 189 #[.slice (some ⟨g,0,none⟩) n n,.int .i64 (W0:Int)] w (zpI us W0 g w):=by
 have hgr:=hr.lt
 obtain ⟨r,hrz⟩:∃ r,r=w.heap.size:=⟨_,rfl⟩
 rw [←hrz] at hgr
 have HN:=Lib.hid hn
 have H64:=Lib.hid h64
 obtain ⟨w1,hw1⟩:∃ w1,w1=w.alloc (.cells #[.slice none 0 0,.slice none 0 0] 209):=⟨_,rfl⟩
 have z1:w1.heap.size=r+1:=by rw [hw1,hrz];simp
 obtain ⟨w2,hw2⟩:∃ w2,w2=w1.alloc (.cells #[.slice none 0 0,.slice none 0 0] 209):=⟨_,rfl⟩
 have z2:w2.heap.size=r+2:=by rw [hw2];simp [z1]
 obtain ⟨w3,hw3⟩:∃ w3,w3=w2.alloc (.cells #[.int .i64 0] 3):=⟨_,rfl⟩
 have z3:w3.heap.size=r+3:=by rw [hw3];simp [z2]
 have b1:Below g w w1:=by rw [hw1];exact (Below.refl _ _).alloc (by omega) _
 have b2:Below g w w2:=by rw [hw2];exact b1.alloc (by omega) _
 have b3:Below g w w3:=by rw [hw3];exact b2.alloc (by omega) _
 have q1:Row w1 r 209 [.slice none 0 0,.slice none 0 0]:=by rw [hw1,hrz];exact heap_alloc_new w _
 have q2:Row w2 (r+1) 209 [.slice none 0 0,.slice none 0 0]:=by rw [hw2,←z1];exact heap_alloc_new w1 _
 have q3:Row w3 (r+2) 3 [.int .i64 0]:=by rw [hw3,←z2];exact heap_alloc_new w2 _
 have HC:=Lib.hid (show Cutting us [] 0 g r w w3 from by
  refine ⟨⟨.slice none 0 0,.slice none 0 0,?_,Two.nil _ _⟩,q3,?_,?_,by omega,b3⟩
  ·rw [hw3];exact q2.alloc _
  ·rw [hw3,hw2];exact (q1.alloc _).alloc _
  ·rw [hw3,hw2,hw1];exact ((hr.alloc _).alloc _).alloc _)
 have HS:=Lib.hid (show zlJ us W0 g r w (.int .i64 0) w3 from ⟨0,Nat.zero_le _,rfl,by rw [zpG];exact HC.out⟩)
 clear HC q1 q2 q3 b1 b2 b3 hr hn h64
 go_enter Tryz.func189,Tryz.ntmps189
 go_wp2
 rw [←hrz,←hw1,←hw2,←hw3,show r+1+1=r+2 from rfl]
 have HZ:=Lib.hid hrz
 clear hw1 hw2 hw3 z1 z2 z3 hrz
 go_loopw [14] (zlJ us W0 g r w) (fun i _=>n - (intOf i).toNat)
 case atStart=>exact HS.out
 case round =>
  obtain ⟨k,hk,rfl,hC⟩:=hrel
  have HC:=Lib.hid hC
  have hkn:k≤n:=by have:=HN.out;omega
  by_cases hlt:k < n
  ·have hkl:k < us.length:=by have:=HN.out;omega
   have hlti:(k:Int) < (n:Int):=by omega
   obtain ⟨u,hu⟩:∃ u,u=us[k]:=⟨_,rfl⟩
   have hcu:wr.cell? ⟨g,k,none⟩=some (.int .u64 (u:Int)):=by rw [hC.row.cell,List.getElem?_map,zlI hkl,←hu];rfl
   have hgd:us.getD k 0=u:=by rw [List.getD_eq_getElem?_getD,List.getElem?_eq_getElem hkl,hu];rfl
   have hu64:u < 18446744073709551616:=by rw [hu];exact H64.out _ (List.getElem_mem hkl)
   obtain ⟨q,hq⟩:∃ q,q=u / 2 ^ W0:=⟨_,rfl⟩
   have hsh:(u:Int) / 2 ^ W0=(q:Int):=by rw [hq];simp
   have hlast:=zfj W0 us k
   have hpl:=zlE W0 us k
   have HNX:=Lib.hid (zmN (w:=W0) hkl)
   rw [←hu] at HNX
   obtain ⟨last,hla⟩:∃ last,last=(pst W0 us k).2:=⟨_,rfl⟩
   obtain ⟨ps,hps⟩:∃ ps,ps=(pst W0 us k).1:=⟨_,rfl⟩
   rw [←hla] at hlast hpl HC
   rw [←hps] at HC hpl
   have hplb:ps.length≤20000:=by omega
   have hca:wr.cell? ⟨r+2,0,none⟩=some (.int .i64 (last:Int)):=HC.out.box.cell 0
   have HLA:=Lib.hid hla
   have HPS:=Lib.hid hps
   have HGD:=Lib.hid hgd
   have HQ:=Lib.hid hq
   have HU:=Lib.hid hu
   clear hu hgd hq hla hps hpl hC HS
   by_cases hq0:q=0
   ·have HSK:Hid (pst W0 us (k+1)=pst W0 us k):=Lib.hid (zfh (by rw [HGD.out,←HQ.out,hq0]))
    have HSR:Hid (prow us W0 (k+1)=prow us W0 k):=Lib.hid (zpF hkl (by rw [←HU.out,←HQ.out,hq0]))
    have hsz:(u:Int) / 2 ^ W0=0:=by rw [hsh,hq0];rfl
    clear hsh hq0
    go_wp2
    go_roundw
    case rel=>exact ⟨k+1,hkl,by go_num,by rw [HSK.out,HSR.out,←HLA.out,←HPS.out];exact HC.out⟩
    case measure=>simp [intOf];omega
   ·obtain ⟨j,hj⟩:∃ j,j=(k - last - 1) / 255:=⟨_,rfl⟩
    have HMO:Hid (pst W0 us (k+1)=(ps ++ (List.replicate j (255,0) ++ [(k - last - 255*j,q)]),k)):=Lib.hid (by rw [zfi (by rw [HGD.out,←HQ.out];exact hq0),←HLA.out,←HPS.out,←hj,HGD.out,←HQ.out])
    have hq1:((q:Int) == 0)=false:=by rw [beq_eq_false_iff_ne];omega
    obtain ⟨row,hrow⟩:∃ row,row=prow us W0 k:=⟨_,rfl⟩
    have HRK:=Lib.hid (show row[k]? = some u by rw [hrow,zlI hkl,HU.out])
    rw [←hrow] at HC HNX
    have HST:=Lib.hid (show ztl row ps last j g r w undef wr from ⟨0,Nat.zero_le _,by simpa using HC.out⟩)
    have HJ:=Lib.hid hj
    have hjb:j≤10000:=by omega
    clear hj hq0 hrow
    go_wp2
    clear hcu hca
    go_loopw [24] (ztl row ps last j g r w) (fun _ W=>k - zpH (r+2) W)
    case atStart=>exact HST.out
    case round =>
     obtain ⟨i,hi,hC⟩:=hrel
     have HC2:=Lib.hid hC
     obtain ⟨L,hL⟩:∃ L,L=last+255*i:=⟨_,rfl⟩
     rw [←hL] at HC2
     have hca:wr.cell? ⟨r+2,0,none⟩=some (.int .i64 (L:Int)):=HC2.out.box.cell 0
     have HBX:=Lib.hid (zii HC2.out.box)
     obtain ⟨d,hd⟩:∃ d,d=k - L:=⟨_,rfl⟩
     have hLk:L≤k:=by have:=HJ.out;omega
     have hdi:(k:Int) - (L:Int)=(d:Int):=by omega
     have hdw:IntKind.i64.wrap (d:Int)=(d:Int):=by rw [IntKind.wrap_i64];omega
     have hlen:(ps ++ List.replicate i (255,0)).length≤1000000:=by rw [List.length_append,List.length_replicate];omega
     have HL:=Lib.hid hL
     have HD:=Lib.hid hd
     clear hL hd hC HST
     by_cases hij:i < j
     ·have hd5:(255:Int) < (d:Int):=by have:=HJ.out;have:=HL.out;have:=HD.out;omega
      have HA:=Lib.hid (HC2.out.add hgr 255 0 hlen (by omega) (by omega))
      clear hlen
      go_wp2_with (go_at_call 208;refine HA.out.mono ?_;rintro e w4 ⟨rfl,hC4⟩)
      have HC4:=Lib.hid hC4
      clear hC4
      go_roundw
      case rel=>exact ⟨i+1,hij,by rw [List.replicate_succ',←List.append_assoc,show last+255*(i+1)=L+255 by have:=HL.out;omega];exact HC4.out⟩
      case measure=>rw [zii HC4.out.box,HBX.out];omega
     ·obtain rfl:i=j:=by omega
      have hd5:¬(255:Int) < (d:Int):=by have:=HJ.out;have:=HL.out;have:=HD.out;omega
      have HA:=Lib.hid (HC2.out.add hgr d q hlen (by omega) (by omega))
      have HLD:Hid (L+d=k∧d=k - last - 255*i):=Lib.hid (by have:=HL.out;have:=HD.out;omega)
      clear hlen
      go_wp2_with (go_at_call 208;refine HA.out.mono ?_;rintro e w4 ⟨rfl,hC4⟩)
      have HC4:=Lib.hid hC4
      rw [List.append_assoc,HLD.out.1,HLD.out.2] at HC4
      clear hC4
      obtain ⟨T,hT⟩:∃ T,T=u % 2 ^ W0:=⟨_,rfl⟩
      rw [←hT] at HNX
      obtain ⟨M,hM⟩:∃ M,M=2 ^ W0 - 1:=⟨_,rfl⟩
      have hMb:M < 18446744073709551616:=by
       have h1:2 ^ W0≤2 ^ 64:=Nat.pow_le_pow_right (by omega) hw
       have h2:=Nat.two_pow_pos W0
       omega
      have hand:bits .and .u64 (u:Int) (M:Int)=(T:Int):=by rw [u64_and_nat _ _ hu64 hMb,hM,Nat.and_two_pow_sub_one_eq_mod,hT]
      have HLW:=Lib.hid (fun W=>zmM W0 M W hw hM)
      have hcu:w4.cell? ⟨g,k,none⟩=some (.int .u64 (u:Int)):=by rw [HC4.out.row.cell,List.getElem?_map,HRK.out];rfl
      have hfu:=HC4.out.row.free k
      have HC5:=Lib.hid (HC4.out.set hgr k T)
      rw [HNX.out] at HC5
      have HREL:=Lib.hid (show zlJ us W0 g r w (.int .i64 ((k:Int)+1)) (w4.setCell ⟨g,k,none⟩ (.int .u64 (T:Int))) from ⟨k+1,hkl,by go_num,by rw [HMO.out];exact HC5.out⟩)
      clear hT hM hMb
      go_wp2_with (go_at_call 197;refine (HLW.out _).mono ?_;rintro e w5 ⟨rfl,rfl⟩)
      go_roundw
      case rel=>exact HREL.out
      case measure=>simp [intOf];omega
  ·obtain rfl:k=n:=by omega
   have hlti:¬(k:Int) < (k:Int):=by omega
   have HE:Hid ((pst W0 us k).1=zn W0 us∧prow us W0 k=plow us W0):=Lib.hid ⟨by unfold zn;rw [HN.out],by rw [←HN.out];exact zrs _ _⟩
   rw [HE.out.1,HE.out.2] at HC
   obtain ⟨u,v,hrb,h2⟩:=HC.out.ex
   have hc0:wr.cell? ⟨r+1,0,none⟩=some u:=hrb.cell 0
   have hc1:wr.cell? ⟨r+1,1,none⟩=some v:=hrb.cell 1
   have H2:=Lib.hid h2
   obtain ⟨A1,c1,hu,_⟩:=zbd h2.h1
   obtain ⟨A2,c2,hv,_⟩:=zbd h2.h2
   generalize hm:(zn W0 us).length=m at hu hv H2
   subst hu hv
   clear hC hrb h2 hm
   have hr0:wr.cell? ⟨r,0,none⟩=some (.slice none 0 0):=HC.out.res.cell 0
   have hf0:=HC.out.res.free 0
   have hs1:=HC.out.res.set_ 0 (.slice A1 m c1)
   have hr1:(wr.setCell ⟨r,0,none⟩ (.slice A1 m c1)).cell? ⟨r,1,none⟩=some (.slice none 0 0):=hs1.cell 1
   have hf1:=hs1.free 1
   have hs2:=hs1.set_ 1 (.slice A2 m c2)
   rw [show (([Value.slice none 0 0,.slice none 0 0].set 0 (.slice A1 m c1)).set 1 (.slice A2 m c2))=[.slice A1 m c1,.slice A2 m c2] from rfl] at hs2
   obtain ⟨W,hW⟩:∃ W,W=(wr.setCell ⟨r,0,none⟩ (.slice A1 m c1)).setCell ⟨r,1,none⟩ (.slice A2 m c2):=⟨_,rfl⟩
   rw [←hW] at hs2
   have HS2:=Lib.hid hs2
   have h3:Two W (r+3) (.slice A1 m c1) (.slice A2 m c2) m m (((zn W0 us).map (·.1)).map uv) (((zn W0 us).map (·.2)).map uv):=by rw [hW];exact (H2.out.past (zcf _ r 0 _) (by omega)).past (zcf _ r 1 _) (by omega)
   have HU:=Lib.hid (zbi h3.h1)
   have HV:=Lib.hid (zbi h3.h2)
   have HG:=Lib.hid (show Row W g 101 ((plow us W0).map uv) by rw [hW];exact (HC.out.row.far (p:=⟨r,0,none⟩) (by dsimp only;omega) _).far (p:=⟨r,1,none⟩) (by dsimp only;omega) _)
   have HBW:=Lib.hid (show Below g w W by rw [hW];exact (HC.out.below.setCell (p:=⟨r,0,none⟩) (Nat.le_of_lt hgr) _).setCell (p:=⟨r,1,none⟩) (Nat.le_of_lt hgr) _)
   have HW:=Lib.hid hW
   clear hs1 hs2 h3 hW
   go_wp2
   rw [←HW.out]
   refine zih rfl rfl HS2.out Tryz.underlying209 rfl zij rfl ?_
   exact ⟨_,_,rfl,HU.out,HV.out,HG.out,HBW.out⟩
theorem zpJ {w00 w:World} {g p:Nat} {i:Nat} {v:Value} (h:w00.grownBy w (some g)) (hp:w00.heap.size≤p):w00.grownBy (w.setCell ⟨p,i,none⟩ v) (some g):=by
 have h2:=zcf w p i v
 exact ⟨h2.os.trans h.os,h2.tape.trans h.tape,h2.output.trans h.output,Nat.le_trans h.size h2.size,fun k hk hg=>(h2.block k (Nat.lt_of_lt_of_le hk h.size) (by intro e;injection e with e;omega)).trans (h.block k hk hg)⟩
structure Laying (w00:World) (g m base W:Nat) (lv:Value) (pb sb wb xb:Nat) (cs:List Value) (A:Nat) (low:List Nat) (w:World):Prop where
 shp:Row w xb 181 cs
 pos:Row w pb 3 [.int .i64 (A:Int)]
 siz:Row w sb 75 [lv]
 wid:Row w wb 3 [.int .i64 (W:Int)]
 own:w.ownsRow base 101 1 lv m (low.map uv)
 grown:w00.grownBy w (some g)
def zpK (w00:World) (g m base W:Nat) (lv:Value) (pb sb wb xb:Nat) (cs:List Value) (A gap pat:Nat) (low:List Nat) (e:Ending) (w':World):Prop:=
 ((A+gap < m∧(zY pat+W≤63∨pat=0))∧e=.returned (.bool true)∧Laying w00 g m base W lv pb sb wb xb cs (A+gap) (low.set (A+gap) (low.getD (A+gap) 0 ^^^ (pat*2 ^ W))) w') ∨
 (¬(A+gap < m∧(zY pat+W≤63∨pat=0))∧e=.returned (.bool false)∧w00.grownBy w' (some g))
theorem znW {pat W Q:Nat} (hp:pat < 2 ^ 64) (hW:W≤64) (hQ:Q=9223372036854775807 / 2 ^ W):pat≤Q↔(zY pat+W≤63∨pat=0):=by
 have hpos:=Nat.two_pow_pos W
 rw [hQ,Nat.le_div_iff_mul_le hpos]
 constructor
 ·intro h
  by_cases h0:pat=0
  ·exact .inr h0
  ·left
   have hW63:W≤63:=by
    refine Nat.not_lt.1 fun h2=>?_
    obtain rfl:W=64:=by omega
    omega
   have h3:pat < 2 ^ (63 - W):=by
    refine Nat.lt_of_mul_lt_mul_right (a:=2 ^ W) ?_
    rw [←Nat.pow_add,show 63 - W+W=63 by omega]
    omega
   have:=zc1 (by omega) h3
   omega
 ·intro h
  have:=zgq hp h
  omega
theorem zsQ (w00:World) (g m base W c pb sb wb xb:Nat) (cs:List Value) (A gap pat:Nat) (low:List Nat) (w:World) (h:Laying w00 g m base W (.slice (some ⟨g,0,none⟩) m c) pb sb wb xb cs A low w) (hg:g < w00.heap.size) (hpb:w00.heap.size≤pb) (hsb:w00.heap.size≤sb) (hwb:w00.heap.size≤wb) (hxb:w00.heap.size≤xb) (hps:pb≠sb) (hpw:pb≠wb) (hpx:pb≠xb)
  (hll:low.length=m) (hl64:∀ z∈low,z < 2 ^ 64) (hA:A≤1000000) (hgap:gap≤1000000) (hpat:pat < 2 ^ 64) (hW64:W≤64) :
  Calls Tryz.prog 210 #[.int .i64 (gap:Int),.int .u64 (pat:Int),.pointer (some ⟨pb,0,none⟩),.pointer (some ⟨sb,0,none⟩),.pointer (some ⟨wb,0,none⟩)] w (zpK w00 g m base W (.slice (some ⟨g,0,none⟩) m c) pb sb wb xb cs A gap pat low):=by
 obtain ⟨hrx,hrp,hrs,hrw,how,hgr⟩:=h
 unfold zpK
 obtain ⟨C,hC⟩:∃ C,C=A+gap:=⟨_,rfl⟩
 rw [←hC]
 have hCi:(A:Int)+(gap:Int)=(C:Int):=by omega
 have hCw:IntKind.i64.wrap (C:Int)=(C:Int):=by rw [IntKind.wrap_i64];omega
 have hcp:w.cell? ⟨pb,0,none⟩=some (.int .i64 (A:Int)):=hrp.cell 0
 have hfp:=hrp.free 0
 obtain ⟨w1,hw1⟩:∃ w1,w1=w.setCell ⟨pb,0,none⟩ (.int .i64 (C:Int)):=⟨_,rfl⟩
 have hrp1:Row w1 pb 3 [.int .i64 (C:Int)]:=by rw [hw1];exact hrp.set_ 0 (.int .i64 (C:Int))
 have hrs1:Row w1 sb 75 [.slice (some ⟨g,0,none⟩) m c]:=by rw [hw1];exact hrs.far (p:=⟨pb,0,none⟩) (Ne.symm hps) _
 have hrw1:Row w1 wb 3 [.int .i64 (W:Int)]:=by rw [hw1];exact hrw.far (p:=⟨pb,0,none⟩) (Ne.symm hpw) _
 have hrx1:Row w1 xb 181 cs:=by rw [hw1];exact hrx.far (p:=⟨pb,0,none⟩) (Ne.symm hpx) _
 have how1:w1.ownsRow base 101 1 (.slice (some ⟨g,0,none⟩) m c) m (low.map uv):=by rw [hw1];exact how.kept (zcf _ pb 0 _) (.inr (by intro e;injection e with e;dsimp only at e;omega))
 have hgr1:w00.grownBy w1 (some g):=by rw [hw1];exact zpJ hgr hpb
 have hcp1:w1.cell? ⟨pb,0,none⟩=some (.int .i64 (C:Int)):=hrp1.cell 0
 have hcs1:w1.cell? ⟨sb,0,none⟩=some (.slice (some ⟨g,0,none⟩) m c):=hrs1.cell 0
 have hcw1:w1.cell? ⟨wb,0,none⟩=some (.int .i64 (W:Int)):=hrw1.cell 0
 have HRX:=Lib.hid hrx1
 have HRP:=Lib.hid hrp1
 have HRS:=Lib.hid hrs1
 have HRW:=Lib.hid hrw1
 have HOW:=Lib.hid how1
 have HGR:=Lib.hid hgr1
 have HLP:=Lib.hid hrp1.lt
 have HLS:=Lib.hid hrs1.lt
 have HLW:=Lib.hid hrw1.lt
 have HCP:=Lib.hid hcp1
 have HCS:=Lib.hid hcs1
 have HCW:=Lib.hid hcw1
 rw [hw1] at hcp1 hcs1 hcw1
 have HW1:=Lib.hid hw1
 obtain ⟨Q,hQ⟩:∃ Q,Q=9223372036854775807 / 2 ^ W:=⟨_,rfl⟩
 have HFIT:=Lib.hid (znW hpat hW64 hQ)
 have HPAT:=Lib.hid hpat
 have hQi:(9223372036854775807:Int) / 2 ^ W=(Q:Int):=by rw [hQ];simp
 have HLN:=Lib.hid (show (low.set C (low.getD C 0 ^^^ (pat*2 ^ W))).map uv=(low.map uv).set C (uv (low.getD C 0 ^^^ (pat*2 ^ W))) from List.map_set)
 have hpg:pb≠g:=by omega
 have hsg:sb≠g:=by omega
 have hwg:wb≠g:=by omega
 have hxg:xb≠g:=by omega
 clear hrx hrx1 hrp hrs hrw how hgr hrp1 hrs1 hrw1 how1 hgr1 hw1 hQ hpat
 by_cases hm:m≤C
 ·have d1:decide ((m:Int)≤(C:Int))=true:=decide_eq_true (by omega)
  clear hC
  go_enter Tryz.func210,Tryz.ntmps210
  go_wp2
  go_ret
  exact .inr ⟨by omega,rfl,by rw [←HW1.out];exact HGR.out⟩
 have d1:decide ((m:Int)≤(C:Int))=false:=decide_eq_false (by omega)
 by_cases hq:Q < pat
 ·have d2:decide ((Q:Int) < (pat:Int))=true:=decide_eq_true (by omega)
  have HNO:=Lib.hid (show ¬(zY pat+W≤63∨pat=0) from fun h=>absurd (HFIT.out.2 h) (by omega))
  clear hC
  go_enter Tryz.func210,Tryz.ntmps210
  go_wp2
  go_ret
  exact .inr ⟨fun h=>HNO.out h.2,rfl,by rw [←HW1.out];exact HGR.out⟩
 ·have d2:decide ((Q:Int) < (pat:Int))=false:=decide_eq_false (by omega)
  have HOK:=Lib.hid (show C < m∧(zY pat+W≤63∨pat=0) from ⟨by omega,HFIT.out.1 (by omega)⟩)
  have hCm:C < m:=by omega
  obtain ⟨y,hy⟩:∃ y,y=low.getD C 0:=⟨_,rfl⟩
  have hyl:low[C]? = some y:=by rw [hy,List.getD_eq_getElem?_getD,List.getElem?_eq_getElem (by omega)];rfl
  have hy64:y < 18446744073709551616:=hl64 y (List.mem_of_getElem? hyl)
  obtain ⟨Z,hZ⟩:∃ Z,Z=pat*2 ^ W:=⟨_,rfl⟩
  have hZ63:Z < 9223372036854775808:=by rw [hZ];exact zgq HPAT.out HOK.out.2
  obtain ⟨z,hz⟩:∃ z,z=y ^^^ Z:=⟨_,rfl⟩
  rw [←hy,←hZ,←hz] at HLN
  rw [←hy,←hZ,←hz]
  have HZW:Hid (IntKind.u64.wrap ((pat:Int)*2 ^ W)=(Z:Int)):=Lib.hid (by rw [show (pat:Int)*2 ^ W=(Z:Int) by rw [hZ];simp,IntKind.wrap_u64];omega)
  have HXO:Hid (bits .xor .u64 (y:Int) (Z:Int)=(z:Int)):=Lib.hid (by rw [u64_xor_nat y Z (by omega) (by omega),hz])
  have HADD:Hid ((⟨g,0,none⟩:Addr).add C=⟨g,C,none⟩):=Lib.hid (by unfold Addr.add;split <;> simp_all)
  have HCY:Hid (w1.cell? ⟨g,C,none⟩=some (.int .u64 (y:Int))):=Lib.hid (by rw [HOW.out.cellAt C (by omega),List.getElem?_map,hyl];rfl)
  have HLG:Hid (g < w1.heap.size):=Lib.hid (by have:=HGR.out.size;omega)
  clear hC hy hyl hy64 hZ hZ63 hz hl64
  go_enter Tryz.func210,Tryz.ntmps210
  go_wp2
  rw [←HW1.out]
  refine zB 9 [.is (.slice (some ⟨g,0,none⟩) m c),.is (.int .i64 (C:Int)),.is (.pointer (some ⟨g,C,none⟩)),.is (.int .u64 (y:Int)),.is (.int .u64 (pat:Int)),.is (.int .i64 (W:Int)),.is (.int .u64 (Z:Int)),.is (.int .u64 (z:Int)),.is (.pointer (some ⟨g,C,none⟩))] [some 21,some 22,some 23,some 24,some 25,some 26,some 27,some 28,some 29] (by kernel_rfl) (by kernel_rfl) (by kernel_rfl) (by kernel_rfl) rfl ⟨?_,?_,?_,?_,?_,?_,?_,?_,?_,trivial⟩ ?_
  ·intro ρ W1 hb1 H
   exact ze rfl (H.old 3 _ (by kernel_rfl) rfl) Tryz.underlying75 rfl ((hb1.cell HLS.out).trans HCS.out) ⟨rfl,Below.refl _ _⟩
  ·intro ρ W1 hb1 H
   exact ze rfl (H.old 2 _ (by kernel_rfl) rfl) Tryz.underlying3 rfl ((hb1.cell HLP.out).trans HCP.out) ⟨rfl,Below.refl _ _⟩
  ·intro ρ W1 hb1 H
   exact zF (k:=C) elemU rfl (H.new 21 0 (by kernel_rfl)) (H.new 22 1 (by kernel_rfl)) (hCm) ⟨congrArg (fun q=>Value.pointer (some q)) (HADD.out),Below.refl _ _⟩
  ·intro ρ W1 hb1 H
   exact ze rfl (H.new 23 2 (by kernel_rfl)) Tryz.underlying101 rfl ((hb1.cell HLG.out).trans HCY.out) ⟨rfl,Below.refl _ _⟩
  ·intro ρ W1 hb1 H
   exact zd rfl (H.old 1 _ (by kernel_rfl) rfl) ⟨rfl,Below.refl _ _⟩
  ·intro ρ W1 hb1 H
   exact ze rfl (H.old 4 _ (by kernel_rfl) rfl) Tryz.underlying3 rfl ((hb1.cell HLW.out).trans HCW.out) ⟨rfl,Below.refl _ _⟩
  ·intro ρ W1 hb1 H
   exact zeI (k:=W) rfl (H.new 25 4 (by kernel_rfl)) (H.new 26 5 (by kernel_rfl)) hW64 HZW.out ⟨rfl,Below.refl _ _⟩
  ·intro ρ W1 hb1 H
   exact zgU rfl (H.new 24 3 (by kernel_rfl)) (H.new 27 6 (by kernel_rfl)) HXO.out ⟨rfl,Below.refl _ _⟩
  ·intro ρ W1 hb1 H
   exact zF (k:=C) elemU rfl (H.new 21 0 (by kernel_rfl)) (H.new 22 1 (by kernel_rfl)) (hCm) ⟨congrArg (fun q=>Value.pointer (some q)) (HADD.out),Below.refl _ _⟩
  ·intro vs W1 hb1 hfs
   have f0:vs 0=.slice (some ⟨g,0,none⟩) m c:=hfs 0 (by decide)
   have f1:vs 1=.int .i64 (C:Int):=hfs 1 (by decide)
   have f2:vs 2=.pointer (some ⟨g,C,none⟩):=hfs 2 (by decide)
   have f3:vs 3=.int .u64 (y:Int):=hfs 3 (by decide)
   have f4:vs 4=.int .u64 (pat:Int):=hfs 4 (by decide)
   have f5:vs 5=.int .i64 (W:Int):=hfs 5 (by decide)
   have f6:vs 6=.int .u64 (Z:Int):=hfs 6 (by decide)
   have f7:vs 7=.int .u64 (z:Int):=hfs 7 (by decide)
   have f8:vs 8=.pointer (some ⟨g,C,none⟩):=hfs 8 (by decide)
   clear hfs
   simp only [zr,Nat.zero_add,Nat.reduceAdd,List.drop_succ_cons,List.drop_zero]
   simp only [f0,f1,f2,f3,f4,f5,f6,f7,f8,Act.put,List.setIfInBounds_toArray,List.set_cons_succ,List.set_cons_zero]
   clear f0 f1 f2 f3 f4 f5 f6 f7 f8
   have hown2:=own_below HOW.out hb1
   have hcW:W1.cell? ⟨g,C,none⟩=some (.int .u64 (y:Int)):=(hb1.cell HLG.out).trans HCY.out
   have hfW:=hown2.frozenAt C
   have HS1:=Lib.hid (hown2.stored C (uv z)).1
   have HG1:=Lib.hid (zbL (zbL HGR.out (zb8 hb1)) (hown2.stored C (uv z)).2)
   have HP1:=Lib.hid ((HRP.out.below hb1 HLP.out).far (p:=⟨g,C,none⟩) hpg (uv z))
   have HQ1:=Lib.hid ((HRS.out.below hb1 HLS.out).far (p:=⟨g,C,none⟩) hsg (uv z))
   have HW1:=Lib.hid ((HRW.out.below hb1 HLW.out).far (p:=⟨g,C,none⟩) hwg (uv z))
   have HX1:=Lib.hid ((HRX.out.below hb1 HRX.out.lt).far (p:=⟨g,C,none⟩) hxg (uv z))
   clear hown2 hb1
   go_wp2
   go_ret
   refine .inl ⟨HOK.out,rfl,HX1.out,HP1.out,HQ1.out,HW1.out,?_,HG1.out⟩
   rw [HLN.out]
   exact HS1.out
theorem zmO {P:Program} {o:Oper} {ρ:Operand→Value} {w:World} {R:Value→World→Prop} {t t':TypeId} {k:IntKind} {x y:Operand} {a b:Int} (ho:o.op=.binOp .gtr t x y t') (hx:ρ x=.int k a) (hy:ρ y=.int k b) (hR:R (.bool (decide (b < a))) w):zba P o ρ w R:=by
 refine zq (v:=.bool (decide (b < a))) (w':=w) ?_ hR
 simp [execOp,ho,hx,hy,go_sem,eqGuard]
theorem zkk (W:World) (g:Nat):(Instr.fieldAt 181 (.pointer (some ⟨g,0,none⟩)) 0).run Tryz.prog W=.ok (.pointer (some ⟨g,0,none⟩)) W:=by
 simp [Instr.fieldAt,run_underlying Tryz.underlying181,Instr.sureAddr,fieldPlace,Addr.add]
theorem zkl (W:World) (g:Nat):(Instr.fieldAt 181 (.pointer (some ⟨g,0,none⟩)) 1).run Tryz.prog W=.ok (.pointer (some ⟨g,1,none⟩)) W:=by
 simp [Instr.fieldAt,run_underlying Tryz.underlying181,Instr.sureAddr,fieldPlace,Addr.add]
theorem zkm (W:World) (g:Nat):(Instr.fieldAt 181 (.pointer (some ⟨g,0,none⟩)) 2).run Tryz.prog W=.ok (.pointer (some ⟨g,2,none⟩)) W:=by
 simp [Instr.fieldAt,run_underlying Tryz.underlying181,Instr.sureAddr,fieldPlace,Addr.add]
theorem zhg (W:World) (g:Nat):(Instr.fieldAt 181 (.pointer (some ⟨g,0,none⟩)) 3).run Tryz.prog W=.ok (.pointer (some ⟨g,3,none⟩)) W:=by
 simp [Instr.fieldAt,run_underlying Tryz.underlying181,Instr.sureAddr,fieldPlace,Addr.add]
theorem zhh (W:World) (g:Nat):(Instr.fieldAt 181 (.pointer (some ⟨g,0,none⟩)) 4).run Tryz.prog W=.ok (.pointer (some ⟨g,4,none⟩)) W:=by
 simp [Instr.fieldAt,run_underlying Tryz.underlying181,Instr.sureAddr,fieldPlace,Addr.add]
theorem zkn (W:World) (g:Nat):(Instr.fieldAt 181 (.pointer (some ⟨g,0,none⟩)) 5).run Tryz.prog W=.ok (.pointer (some ⟨g,5,none⟩)) W:=by
 simp [Instr.fieldAt,run_underlying Tryz.underlying181,Instr.sureAddr,fieldPlace,Addr.add]
theorem Laying.below {w00 w w':World} {g m base W:Nat} {lv:Value} {pb sb wb xb:Nat} {cs:List Value} {A:Nat} {low:List Nat} (h:Laying w00 g m base W lv pb sb wb xb cs A low w) (hb:Below w.heap.size w w'):Laying w00 g m base W lv pb sb wb xb cs A low w':=
 ⟨h.shp.below hb h.shp.lt,h.pos.below hb h.pos.lt,h.siz.below hb h.siz.lt,h.wid.below hb h.wid.lt,own_below h.own hb,zbL h.grown (zb8 hb)⟩
theorem ztm {low:List Nat} {a pat W:Nat} (hl:∀ z∈low,z < 2 ^ 64) (hp:pat < 2 ^ 64) (h:zY pat+W≤63∨pat=0):∀ z∈low.set a (low.getD a 0 ^^^ (pat*2 ^ W)),z < 2 ^ 64:=by
 intro z hz
 rcases List.mem_or_eq_of_mem_set hz with h1 | h1
 ·exact hl z h1
 ·rw [h1]
  refine Nat.xor_lt_two_pow ?_ (Nat.lt_of_lt_of_le (zgq hp h) (by decide))
  rw [List.getD_eq_getElem?_getD]
  cases h2:low[a]? with
  | none=>exact Nat.two_pow_pos 64
  | some y=>exact hl y (List.mem_of_getElem? h2)
theorem zlK (g m c W:Nat) (w:World):Calls Tryz.prog 196 #[.slice (some ⟨g,0,none⟩) m c,.int .i64 (W:Int)] w fun e w' =>
  e=.returned (.func (.func 210) #[] #[.pointer (some ⟨w.heap.size+2,0,none⟩),.pointer (some ⟨w.heap.size,0,none⟩),.pointer (some ⟨w.heap.size+1,0,none⟩)]) ∧
   w'=((w.alloc (.cells #[.slice (some ⟨g,0,none⟩) m c] 75)).alloc (.cells #[.int .i64 (W:Int)] 3)).alloc (.cells #[.int .i64 0] 3):=by
 go_enter Tryz.func196,Tryz.ntmps196
 go_wp2
 go_ret
 exact ⟨rfl,rfl⟩
def zmP (both low0:List Nat) (w00:World) (g m base W gw p:Nat) (lv:Value) (pb sb wb xb:Nat) (cs:List Value) (i:Value) (wr:World):Prop:=
 ∃ (k a:Nat) (low:List Nat),k≤both.length∧i=.int .i64 (k:Int)∧pall W gw p m (0,low0) (both.take k)=some (a,low)∧low.length=m∧a < m∧(∀ z∈low,z < 2 ^ 64)∧Laying w00 g m base W lv pb sb wb xb cs a low wr
def zpL (o:Option (Nat × List Nat)) (g m base:Nat) (lv:Value) (w:World) (e:Ending) (w':World):Prop:=
 match o with
 | none=>e=.returned (.bool false)∧w.grownBy w' (some g)
 | some st=>e=.returned (.bool true)∧w'.ownsRow base 101 1 lv m (st.2.map uv)∧st.2.length=m∧(∀ z∈st.2,z < 2 ^ 64)∧w.grownBy w' (some g)
theorem zpM (g m base B2 W c p gw:Nat) (m' n' t':Int) (low both:List Nat) (bl:Value) (w:World) (how:w.ownsRow base 101 1 (.slice (some ⟨g,0,none⟩) m c) m (low.map uv)) (hg:g < w.heap.size) (hbo:w.ownsRow B2 101 1 bl both.length (both.map uv)) (hgB:g < B2)
  (hll:low.length=m) (hl64:∀ z∈low,z < 2 ^ 64) (hb64:∀ z∈both,z < 2 ^ 64) (hm1:1≤m) (hm5:m≤512) (hbl:both.length≤1000) (hW64:W≤64) (hp64:p≤64) (hgw:gw≤8) :
  Calls Tryz.prog 163 #[.slice (some ⟨g,0,none⟩) m c,bl,shv m' (W:Int) n' (p:Int) (gw:Int) t'] w (zpL (pall W gw p m (0,low) both) g m base (.slice (some ⟨g,0,none⟩) m c) w):=by
 obtain ⟨xb,hxz⟩:∃ xb,xb=w.heap.size:=⟨_,rfl⟩
 obtain ⟨cs,hcs⟩:∃ cs,cs=shc m' (W:Int) n' (p:Int) (gw:Int) t':=⟨_,rfl⟩
 obtain ⟨w1,hw1⟩:∃ w1,w1=w.alloc (.cells cs.toArray 181):=⟨_,rfl⟩
 have z1:w1.heap.size=xb+1:=by rw [hw1,hxz];simp
 obtain ⟨w2,hw2⟩:∃ w2,w2=w1.alloc (.cells #[.slice (some ⟨g,0,none⟩) m c] 75):=⟨_,rfl⟩
 have z2:w2.heap.size=xb+2:=by rw [hw2];simp [z1]
 obtain ⟨w3,hw3⟩:∃ w3,w3=w2.alloc (.cells #[.int .i64 (W:Int)] 3):=⟨_,rfl⟩
 have z3:w3.heap.size=xb+3:=by rw [hw3];simp [z2]
 obtain ⟨w4,hw4⟩:∃ w4,w4=w3.alloc (.cells #[.int .i64 0] 3):=⟨_,rfl⟩
 have b1:Below w.heap.size w w1:=by rw [hw1];exact (Below.refl _ _).alloc (Nat.le_refl _) _
 have b2:Below w.heap.size w w2:=by rw [hw2];exact b1.alloc (by omega) _
 have b3:Below w.heap.size w w3:=by rw [hw3];exact b2.alloc (by omega) _
 have b4:Below w.heap.size w w4:=by rw [hw4];exact b3.alloc (by omega) _
 have q1:Row w1 xb 181 cs:=by rw [hw1,hxz];exact heap_alloc_new w _
 have q2:Row w2 (xb+1) 75 [.slice (some ⟨g,0,none⟩) m c]:=by rw [hw2,←z1];exact heap_alloc_new w1 _
 have q3:Row w3 (xb+2) 3 [.int .i64 (W:Int)]:=by rw [hw3,←z2];exact heap_alloc_new w2 _
 have q4:Row w4 (xb+3) 3 [.int .i64 0]:=by rw [hw4,←z3];exact heap_alloc_new w3 _
 have hL:Laying w g m base W (.slice (some ⟨g,0,none⟩) m c) (xb+3) (xb+1) (xb+2) xb cs 0 low w4:=by
  refine ⟨?_,q4,?_,?_,own_below how b4,zb8 b4⟩
  ·rw [hw4,hw3,hw2];exact ((q1.alloc _).alloc _).alloc _
  ·rw [hw4,hw3];exact (q2.alloc _).alloc _
  ·rw [hw4];exact q3.alloc _
 have HS:=Lib.hid (show zmP both low w g m base W gw p (.slice (some ⟨g,0,none⟩) m c) (xb+3) (xb+1) (xb+2) xb cs (.int .i64 0) w4 from ⟨0,0,low,Nat.zero_le _,rfl,by rw [List.take_zero,pall],hll,by omega,hl64,hL⟩)
 obtain ⟨A3,c3,hbl3,hnc3,hcm3,_,_,_⟩:=zbd hbo
 obtain ⟨t,ht⟩:∃ t,t=both.length:=⟨_,rfl⟩
 rw [←ht] at hbl3 hnc3 hbl hbo
 subst hbl3
 have HT:=Lib.hid ht
 have HBO:=Lib.hid hbo
 have HB64:=Lib.hid hb64
 have HCS:=Lib.hid hcs
 have hpb:w.heap.size≤xb+3:=by omega
 have hsb:w.heap.size≤xb+1:=by omega
 have hwb:w.heap.size≤xb+2:=by omega
 have hxb:w.heap.size≤xb:=by omega
 have hps:xb+3≠xb+1:=by omega
 have hpw:xb+3≠xb+2:=by omega
 have hpx:xb+3≠xb:=by omega
 have hc1:w1.cell? ⟨xb,1,none⟩=some (.int .i64 (W:Int)):=by rw [q1.cell,hcs];rfl
 unfold shv
 rw [←hcs]
 rw [hcs] at hw1
 unfold shc at hw1 hcs
 rw [hcs]
 have HW:=Lib.hid hw1
 have HW2:=Lib.hid (hw2.trans rfl)
 clear q1 q2 q3 q4 b1 b2 b3 b4 hL how hbo hb64 hl64 hll ht hcs hcm3
 go_enter Tryz.func163,Tryz.ntmps163
 go_wp2_with (go_at_call 196;refine (zlK g m c W _).mono ?_;rintro e w' ⟨rfl,rfl⟩)
 rw [←hw1,←hw2,←hw3,←hw4,←hxz,show xb+1+1=xb+2 from rfl,show xb+1+2=xb+3 from rfl]
 have HXZ:=Lib.hid hxz
 clear hw1 hw2 hw3 hw4 z1 z2 z3 hxz hc1 HW HW2
 go_loopw [17] (zmP both low w g m base W gw p (.slice (some ⟨g,0,none⟩) m c) (xb+3) (xb+1) (xb+2) xb cs) (fun i _=>t - (intOf i).toNat)
 case atStart=>exact HS.out
 case round =>
  obtain ⟨k,a,low',hk,rfl,hpl,hll,ham,hlo,hL⟩:=hrel
  rw [←HT.out] at hk
  have HL:=Lib.hid hL
  have HLL:=Lib.hid hll
  have HLO64:=Lib.hid hlo
  generalize xb+3=pb at *
  generalize xb+1=sb at *
  generalize xb+2=wb at *
  have HRX:=Lib.hid hL.shp
  by_cases hlt:k < t
  ·have hlti:(k:Int) < (t:Int):=by omega
   have hkv:k < both.length:=by have:=HT.out;omega
   have hbk:=zbi (f:=uv) (HBO.out.kept hL.grown (ziZ HBO.out hgB))
   obtain ⟨ad3,rfl,_,hcell⟩:=hbk.at hkv
   obtain ⟨x,hx⟩:∃ x,x=both[k]:=⟨_,rfl⟩
   have hcx:wr.cell? (ad3.add k)=some (.int .u64 (x:Int)):=by rw [hcell,hx];rfl
   have hx64:x < 18446744073709551616:=by rw [hx];exact HB64.out _ (List.getElem_mem hkv)
   have HNX0:=Lib.hid (zkf hkv hx hpl)
   obtain ⟨gap,hgap⟩:∃ gap,gap=x / 2 ^ p:=⟨_,rfl⟩
   obtain ⟨pat,hpat⟩:∃ pat,pat=x % 2 ^ p:=⟨_,rfl⟩
   have HPS:=Lib.hid (zmK (w:=W) (g:=gw) (m:=m) (at_:=a) (low:=low') hgap hpat)
   have hshr:(x:Int) / 2 ^ p=(gap:Int):=by rw [hgap];simp
   have hgx:gap < 18446744073709551616:=by rw [hgap];exact Nat.lt_of_le_of_lt (Nat.div_le_self _ _) hx64
   obtain ⟨nb,hnb⟩:∃ nb,nb=zY gap:=⟨_,rfl⟩
   have HBT:=Lib.hid (fun X=>zge gap X hgx)
   rw [←hnb] at HBT
   have HNG:=Lib.hid (show nb≤gw↔gap < 2 ^ gw by rw [hnb];exact zeW hgx (by omega))
   have hcp3:wr.cell? ⟨xb,3,none⟩=some (.int .i64 (p:Int)):=by rw [HRX.out.cell,HCS.out];rfl
   have hcp4:wr.cell? ⟨xb,4,none⟩=some (.int .i64 (gw:Int)):=by rw [HRX.out.cell,HCS.out];rfl
   have HC3:=Lib.hid hcp3
   have HC4:=Lib.hid hcp4
   have HLX:=Lib.hid HRX.out.lt
   obtain ⟨K1,hK1⟩:∃ K1,K1=2 ^ p - 1:=⟨_,rfl⟩
   have hK1b:K1 < 18446744073709551616:=by
    have h1:2 ^ p≤2 ^ 64:=Nat.pow_le_pow_right (by omega) hp64
    have h2:=Nat.two_pow_pos p
    omega
   have HAND:Hid (bits .and .u64 (x:Int) (K1:Int)=(pat:Int)):=Lib.hid (by rw [u64_and_nat _ _ hx64 hK1b,hK1,Nat.and_two_pow_sub_one_eq_mod,hpat])
   have HLO:=Lib.hid (fun X=>zmM p K1 X hp64 hK1)
   have HPT:Hid (pat < 2 ^ 64):=Lib.hid (by rw [hpat];exact Nat.lt_of_le_of_lt (Nat.mod_le _ _) hx64)
   clear hcell hx hx64 hgap hpat hpl hll hlo hbk hnb hgx hK1 hK1b hcp4 hL
   by_cases hwd:nb≤gw
   ·have HGG:=Lib.hid (HNG.out.1 hwd)
    have hgap256:gap < 256:=by
     have h1:=HGG.out
     have h2:2 ^ gw≤2 ^ 8:=Nat.pow_le_pow_right (by omega) hgw
     omega
    have HGW:Hid (IntKind.i64.wrap (gap:Int)=(gap:Int)):=Lib.hid (by rw [IntKind.wrap_i64];omega)
    have HD1:Hid (decide ((gw:Int) < (nb:Int))=false):=Lib.hid (decide_eq_false (by omega))
    go_wp2
    refine zB 14 [.is (.int .u64 (gap:Int)),.is (.int .i64 (nb:Int)),.is (.pointer (some ⟨xb,4,none⟩)),.is (.int .i64 (gw:Int)),.is (.bool false),.is (.bool false),.is (.func (.func 210) #[] #[.pointer (some ⟨pb,0,none⟩),.pointer (some ⟨sb,0,none⟩),.pointer (some ⟨wb,0,none⟩)]),.is (.int .u64 (gap:Int)),.is (.int .i64 (gap:Int)),.is (.int .u64 (x:Int)),.is (.pointer (some ⟨xb,3,none⟩)),.is (.int .i64 (p:Int)),.is (.int .u64 (K1:Int)),.is (.int .u64 (pat:Int))] [some 25,some 26,some 27,some 28,some 29,some 30,some 31,some 32,some 33,some 34,some 35,some 36,some 37,some 38] (by kernel_rfl) (by kernel_rfl) (by kernel_rfl) (by kernel_rfl) rfl ⟨?_,?_,?_,?_,?_,?_,?_,?_,?_,?_,?_,?_,?_,?_,trivial⟩ ?_
    ·intro ρ W1 hb1 H
     exact zd rfl (H.old 10 _ (by kernel_rfl) rfl) ⟨rfl,Below.refl _ _⟩
    ·intro ρ W1 hb1 H
     have e0:ρ (.tmp 25)=.int .u64 (gap:Int):=H.new 25 0 (by kernel_rfl)
     refine zk rfl (fun _ _=>by kernel_rfl) (H.func _) (args:=#[.int .u64 (gap:Int)]) (by simp [e0]) ?_
     exact (HBT.out W1).mono fun e w' ⟨h1,h2⟩=>⟨_,h1,rfl,h2 ▸ Below.refl _ _⟩
    ·intro ρ W1 hb1 H
     exact zj rfl (H.old 5 _ (by kernel_rfl) rfl) (fun W=>zhh W _) ⟨rfl,Below.refl _ _⟩
    ·intro ρ W1 hb1 H
     exact ze rfl (H.new 27 2 (by kernel_rfl)) Tryz.underlying3 rfl ((hb1.cell HLX.out).trans HC4.out) ⟨rfl,Below.refl _ _⟩
    ·intro ρ W1 hb1 H
     exact zmO rfl (H.new 26 1 (by kernel_rfl)) (H.new 28 3 (by kernel_rfl)) ⟨congrArg Value.bool HD1.out,Below.refl _ _⟩
    ·intro ρ W1 hb1 H
     exact zd rfl (H.new 29 4 (by kernel_rfl)) ⟨rfl,Below.refl _ _⟩
    ·intro ρ W1 hb1 H d hd
     have hd':(some 30:Option Tmp)=some d:=hd
     injection hd' with hd'
     subst hd'
     refine ⟨fun _=>?_,fun hne=>absurd (H.new 30 5 (by kernel_rfl)) hne⟩
     exact zd rfl (H.old 7 _ (by kernel_rfl) rfl) ⟨rfl,Below.refl _ _⟩
    ·intro ρ W1 hb1 H d hd
     have hd':(some 30:Option Tmp)=some d:=hd
     injection hd' with hd'
     subst hd'
     refine ⟨fun _=>?_,fun hne=>absurd (H.new 30 5 (by kernel_rfl)) hne⟩
     exact zd rfl (H.old 10 _ (by kernel_rfl) rfl) ⟨rfl,Below.refl _ _⟩
    ·intro ρ W1 hb1 H d hd
     have hd':(some 30:Option Tmp)=some d:=hd
     injection hd' with hd'
     subst hd'
     refine ⟨fun _=>?_,fun hne=>absurd (H.new 30 5 (by kernel_rfl)) hne⟩
     exact zck rfl (H.new 32 7 (by kernel_rfl)) (by kernel_rfl) Tryz.underlying3 HGW.out ⟨rfl,Below.refl _ _⟩
    ·intro ρ W1 hb1 H d hd
     have hd':(some 30:Option Tmp)=some d:=hd
     injection hd' with hd'
     subst hd'
     refine ⟨fun _=>?_,fun hne=>absurd (H.new 30 5 (by kernel_rfl)) hne⟩
     exact zd rfl (H.old 9 _ (by kernel_rfl) rfl) ⟨rfl,Below.refl _ _⟩
    ·intro ρ W1 hb1 H d hd
     have hd':(some 30:Option Tmp)=some d:=hd
     injection hd' with hd'
     subst hd'
     refine ⟨fun _=>?_,fun hne=>absurd (H.new 30 5 (by kernel_rfl)) hne⟩
     exact zj rfl (H.old 5 _ (by kernel_rfl) rfl) (fun W=>zhg W _) ⟨rfl,Below.refl _ _⟩
    ·intro ρ W1 hb1 H d hd
     have hd':(some 30:Option Tmp)=some d:=hd
     injection hd' with hd'
     subst hd'
     refine ⟨fun _=>?_,fun hne=>absurd (H.new 30 5 (by kernel_rfl)) hne⟩
     exact ze rfl (H.new 35 10 (by kernel_rfl)) Tryz.underlying3 rfl ((hb1.cell HLX.out).trans HC3.out) ⟨rfl,Below.refl _ _⟩
    ·intro ρ W1 hb1 H d hd
     have hd':(some 30:Option Tmp)=some d:=hd
     injection hd' with hd'
     subst hd'
     refine ⟨fun _=>?_,fun hne=>absurd (H.new 30 5 (by kernel_rfl)) hne⟩
     have e0:ρ (.tmp 36)=.int .i64 (p:Int):=H.new 36 11 (by kernel_rfl)
     refine zk rfl (fun _ _=>by kernel_rfl) (H.func _) (args:=#[.int .i64 (p:Int)]) (by simp [e0]) ?_
     exact (HLO.out W1).mono fun e w' ⟨h1,h2⟩=>⟨_,h1,rfl,h2 ▸ Below.refl _ _⟩
    ·intro ρ W1 hb1 H d hd
     have hd':(some 30:Option Tmp)=some d:=hd
     injection hd' with hd'
     subst hd'
     refine ⟨fun _=>?_,fun hne=>absurd (H.new 30 5 (by kernel_rfl)) hne⟩
     exact zlt rfl (H.new 34 9 (by kernel_rfl)) (H.new 37 12 (by kernel_rfl)) HAND.out ⟨rfl,Below.refl _ _⟩
    ·intro vs W1 hb1 hfs
     have f0:vs 0=.int .u64 (gap:Int):=hfs 0 (by decide)
     have f1:vs 1=.int .i64 (nb:Int):=hfs 1 (by decide)
     have f2:vs 2=.pointer (some ⟨xb,4,none⟩):=hfs 2 (by decide)
     have f3:vs 3=.int .i64 (gw:Int):=hfs 3 (by decide)
     have f4:vs 4=.bool false:=hfs 4 (by decide)
     have f5:vs 5=.bool false:=hfs 5 (by decide)
     have f6:vs 6=.func (.func 210) #[] #[.pointer (some ⟨pb,0,none⟩),.pointer (some ⟨sb,0,none⟩),.pointer (some ⟨wb,0,none⟩)]:=hfs 6 (by decide)
     have f7:vs 7=.int .u64 (gap:Int):=hfs 7 (by decide)
     have f8:vs 8=.int .i64 (gap:Int):=hfs 8 (by decide)
     have f9:vs 9=.int .u64 (x:Int):=hfs 9 (by decide)
     have f10:vs 10=.pointer (some ⟨xb,3,none⟩):=hfs 10 (by decide)
     have f11:vs 11=.int .i64 (p:Int):=hfs 11 (by decide)
     have f12:vs 12=.int .u64 (K1:Int):=hfs 12 (by decide)
     have f13:vs 13=.int .u64 (pat:Int):=hfs 13 (by decide)
     clear hfs
     simp only [zr,Nat.zero_add,Nat.reduceAdd,List.drop_succ_cons,List.drop_zero]
     simp only [f0,f1,f2,f3,f4,f5,f6,f7,f8,f9,f10,f11,f12,f13,Act.put,List.setIfInBounds_toArray,List.set_cons_succ,List.set_cons_zero]
     clear f0 f1 f2 f3 f4 f5 f6 f7 f8 f9 f10 f11 f12 f13
     have HL1:=Lib.hid (HL.out.below hb1)
     clear hb1
     have HLAY:=Lib.hid (zsQ w g m base W c pb sb wb xb cs a gap pat low' W1 HL1.out hg hpb hsb hwb hxb hps hpw hpx HLL.out HLO64.out (by omega) (by omega) HPT.out hW64)
     go_wp2_with (go_at_call 210;refine HLAY.out.mono ?_;rintro e w4 (⟨hok,rfl,hL4⟩ | ⟨hok,rfl,hg4⟩))
     ·have HNX:=Lib.hid (show pall W gw p m (0,low) (both.take (k+1))=some (a+gap,low'.set (a+gap) (low'.getD (a+gap) 0 ^^^ (pat*2 ^ W))) by rw [HNX0.out,HPS.out,if_pos ⟨HGG.out,hok.1,hok.2⟩])
      have HL4:=Lib.hid hL4
      have HA1:=Lib.hid hok.1
      have HL64:=Lib.hid (ztm (a:=a+gap) HLO64.out HPT.out hok.2)
      clear hok hL4
      go_wp2
      go_roundw
      case rel=>exact ⟨k+1,_,_,hkv,by go_num,HNX.out,by rw [List.length_set];exact HLL.out,HA1.out,HL64.out,HL4.out⟩
      case measure=>simp [intOf];omega
     ·have HE:=Lib.hid (show pall W gw p m (0,low) both=none from zb3 (k:=k+1) (by rw [HNX0.out,HPS.out,if_neg (fun h=>hok ⟨h.2.1,h.2.2⟩)]))
      have HG4:=Lib.hid hg4
      clear hok hg4
      go_wp2
      go_ret
      rw [HE.out]
      exact ⟨rfl,HG4.out⟩
   ·have HD1:Hid (decide ((gw:Int) < (nb:Int))=true):=Lib.hid (decide_eq_true (by omega))
    have HE:=Lib.hid (show pall W gw p m (0,low) both=none from zb3 (k:=k+1) (by rw [HNX0.out,HPS.out,if_neg (fun h=>absurd (HNG.out.2 h.1) hwd)]))
    go_wp2
    refine zB 14 [.is (.int .u64 (gap:Int)),.is (.int .i64 (nb:Int)),.is (.pointer (some ⟨xb,4,none⟩)),.is (.int .i64 (gw:Int)),.is (.bool true),.is (.bool true),.any,.any,.any,.any,.any,.any,.any,.any] [some 25,some 26,some 27,some 28,some 29,some 30,some 31,some 32,some 33,some 34,some 35,some 36,some 37,some 38] (by kernel_rfl) (by kernel_rfl) (by kernel_rfl) (by kernel_rfl) rfl ⟨?_,?_,?_,?_,?_,?_,?_,?_,?_,?_,?_,?_,?_,?_,trivial⟩ ?_
    ·intro ρ W1 hb1 H
     exact zd rfl (H.old 10 _ (by kernel_rfl) rfl) ⟨rfl,Below.refl _ _⟩
    ·intro ρ W1 hb1 H
     have e0:ρ (.tmp 25)=.int .u64 (gap:Int):=H.new 25 0 (by kernel_rfl)
     refine zk rfl (fun _ _=>by kernel_rfl) (H.func _) (args:=#[.int .u64 (gap:Int)]) (by simp [e0]) ?_
     exact (HBT.out W1).mono fun e w' ⟨h1,h2⟩=>⟨_,h1,rfl,h2 ▸ Below.refl _ _⟩
    ·intro ρ W1 hb1 H
     exact zj rfl (H.old 5 _ (by kernel_rfl) rfl) (fun W=>zhh W _) ⟨rfl,Below.refl _ _⟩
    ·intro ρ W1 hb1 H
     exact ze rfl (H.new 27 2 (by kernel_rfl)) Tryz.underlying3 rfl ((hb1.cell HLX.out).trans HC4.out) ⟨rfl,Below.refl _ _⟩
    ·intro ρ W1 hb1 H
     exact zmO rfl (H.new 26 1 (by kernel_rfl)) (H.new 28 3 (by kernel_rfl)) ⟨congrArg Value.bool HD1.out,Below.refl _ _⟩
    ·intro ρ W1 hb1 H
     exact zd rfl (H.new 29 4 (by kernel_rfl)) ⟨rfl,Below.refl _ _⟩
    ·intro ρ W1 hb1 H d hd
     have hd':(some 30:Option Tmp)=some d:=hd
     injection hd' with hd'
     subst hd'
     exact ⟨(fun hh=>by cases hh.symm.trans (H.new 30 5 (by kernel_rfl))),fun _=>trivial⟩
    ·intro ρ W1 hb1 H d hd
     have hd':(some 30:Option Tmp)=some d:=hd
     injection hd' with hd'
     subst hd'
     exact ⟨(fun hh=>by cases hh.symm.trans (H.new 30 5 (by kernel_rfl))),fun _=>trivial⟩
    ·intro ρ W1 hb1 H d hd
     have hd':(some 30:Option Tmp)=some d:=hd
     injection hd' with hd'
     subst hd'
     exact ⟨(fun hh=>by cases hh.symm.trans (H.new 30 5 (by kernel_rfl))),fun _=>trivial⟩
    ·intro ρ W1 hb1 H d hd
     have hd':(some 30:Option Tmp)=some d:=hd
     injection hd' with hd'
     subst hd'
     exact ⟨(fun hh=>by cases hh.symm.trans (H.new 30 5 (by kernel_rfl))),fun _=>trivial⟩
    ·intro ρ W1 hb1 H d hd
     have hd':(some 30:Option Tmp)=some d:=hd
     injection hd' with hd'
     subst hd'
     exact ⟨(fun hh=>by cases hh.symm.trans (H.new 30 5 (by kernel_rfl))),fun _=>trivial⟩
    ·intro ρ W1 hb1 H d hd
     have hd':(some 30:Option Tmp)=some d:=hd
     injection hd' with hd'
     subst hd'
     exact ⟨(fun hh=>by cases hh.symm.trans (H.new 30 5 (by kernel_rfl))),fun _=>trivial⟩
    ·intro ρ W1 hb1 H d hd
     have hd':(some 30:Option Tmp)=some d:=hd
     injection hd' with hd'
     subst hd'
     exact ⟨(fun hh=>by cases hh.symm.trans (H.new 30 5 (by kernel_rfl))),fun _=>trivial⟩
    ·intro ρ W1 hb1 H d hd
     have hd':(some 30:Option Tmp)=some d:=hd
     injection hd' with hd'
     subst hd'
     exact ⟨(fun hh=>by cases hh.symm.trans (H.new 30 5 (by kernel_rfl))),fun _=>trivial⟩
    ·intro vs W1 hb1 hfs
     have f0:vs 0=.int .u64 (gap:Int):=hfs 0 (by decide)
     have f1:vs 1=.int .i64 (nb:Int):=hfs 1 (by decide)
     have f2:vs 2=.pointer (some ⟨xb,4,none⟩):=hfs 2 (by decide)
     have f3:vs 3=.int .i64 (gw:Int):=hfs 3 (by decide)
     have f4:vs 4=.bool true:=hfs 4 (by decide)
     have f5:vs 5=.bool true:=hfs 5 (by decide)
     clear hfs
     simp only [zr,Nat.zero_add,Nat.reduceAdd,List.drop_succ_cons,List.drop_zero]
     generalize vs 6=z6
     generalize vs 7=z7
     generalize vs 8=z8
     generalize vs 9=z9
     generalize vs 10=z10
     generalize vs 11=z11
     generalize vs 12=z12
     generalize vs 13=z13
     simp only [f0,f1,f2,f3,f4,f5,Act.put,List.setIfInBounds_toArray,List.set_cons_succ,List.set_cons_zero]
     clear f0 f1 f2 f3 f4 f5
     have HG1:=Lib.hid (zbL HL.out.grown (zb8 hb1))
     clear hb1
     go_wp2
     go_ret
     rw [HE.out]
     exact ⟨rfl,HG1.out⟩
  ·obtain rfl:k=t:=by omega
   have hlti:¬(k:Int) < (k:Int):=by omega
   have HE:Hid (pall W gw p m (0,low) both=some (a,low')):=Lib.hid (by
    have h1:=hpl
    rwa [List.take_of_length_le (by have:=HT.out;omega)] at h1)
   clear hpl hll hlo hL
   go_wp2
   go_ret
   rw [HE.out]
   exact ⟨rfl,HL.out.own,HLL.out,HLO64.out,HL.out.grown⟩
theorem zrt {w:World} {base g G:Nat} {e:TypeId} {cur:Array Value} (hg:w.heap[g]? = some (.cells cur e (0,0))) (hb:base≤g) (hG:G≤maxLen) (hs:cur.size=G):w.ownsRow base e 1 (.slice (some ⟨g,0,none⟩) 0 G) 0 []:=
 ⟨rfl,.inr ⟨g,G,cur,rfl,hb,hg,Nat.zero_le _,hG,by rw [hs,Nat.mul_one],by simp⟩⟩
theorem zeD (z:Value) (n:Nat):(Builtin.zeroCells #[z] n).size=n:=by simp [Builtin.zeroCells]
theorem zru (n:Nat) (w:World) (hn:n≤1000000):Calls Tryz.prog 209 #[.slice none 0 0,.int .i64 (n:Int)] w fun e w'=>∃ v,e=.returned v∧w'.ownsRow w.heap.size 5 1 v 0 []∧Below w.heap.size w w':=by
 have hnw:IntKind.i64.wrap (n:Int)=(n:Int):=by rw [IntKind.wrap_i64];omega
 by_cases h0:n=0
 ·subst h0
  go_enter Tryz.func209,Tryz.ntmps209
  go_wp2
  go_ret
  exact ⟨_,rfl,World.ownsRow_nil _ _ _ _,Below.refl _ _⟩
 ·obtain ⟨i,hi,hz,hs,hby⟩:=elemB.info
  have hrz:∀ ty,(Builtin.append_ #[38,3] ty #[.slice none 0 0,.int .i64 (n:Int)]).run Tryz.prog w=.ok (.slice (some ⟨w.heap.size,0,none⟩) n (grownCap w n 0 5)) (w.drew.alloc (.cells (Builtin.zeroCells (bv 0).cells n ++ Builtin.zeroCells (bv 0).cells (grownCap w n 0 5 - n)) 5)):=fun ty =>
   Lib.run_append_nil_zeros w 38 3 ty 5 i (bv 0) .i64 .i64 Tryz.underlying38 Tryz.underlying3 hi hz n (by omega) (by omega) (by omega) (by rw [hby];omega)
  have hGn:n≤grownCap w n 0 5:=grownCap_ge w _ _ _
  have hGm:=grownCap_le_maxLen w n 0 5 (by unfold maxLen;omega)
  obtain ⟨G,hG⟩:∃ G,G=grownCap w n 0 5:=⟨_,rfl⟩
  rw [←hG] at hrz hGn hGm
  have hG63:G≤9223372036854775807:=by unfold maxLen at hGm;omega
  obtain ⟨cur,hcur⟩:∃ cur,cur=Builtin.zeroCells (bv 0).cells n ++ Builtin.zeroCells (bv 0).cells (G - n):=⟨_,rfl⟩
  rw [←hcur] at hrz
  have HCS:=Lib.hid (show cur.size=G by
   rw [hcur,Array.size_append]
   have h1:=zeD (.int .u8 0) n
   have h2:=zeD (.int .u8 0) (G - n)
   show (Builtin.zeroCells #[.int .u8 0] n).size+(Builtin.zeroCells #[.int .u8 0] (G - n)).size=G
   omega)
  have HGM:=Lib.hid hGm
  have hn1:0 < (n:Int):=by omega
  clear hcur hGm hi hz hs hby hG h0
  go_enter Tryz.func209,Tryz.ntmps209
  go_wp2_with (at_builtin;refine Lib.wpList_append_run _ rfl _ _ _ _ rfl _ _ rfl rfl _ _ (hrz _) ?_)
  all_goals
   go_ret
   have h1:w.drew.heap.size=w.heap.size:=rfl
   refine ⟨_,rfl,zrt (by rw [←h1];exact heap_alloc_new w.drew _) (Nat.le_refl _) HGM.out HCS.out,((Below.refl _ _).alloc (Nat.le_refl _) _).trans ⟨rfl,rfl,rfl,Nat.le_refl _,fun _ _=>rfl⟩⟩
def zpN (xs:List (Value × List UInt8)) (w:World) (s i:Value) (wr:World):Prop:=∃ k S:Nat,k≤xs.length∧i=.int .i64 (k:Int)∧s=.int .i64 (S:Int)∧S=((xs.take k).flatMap (·.2)).length∧w=wr
def zpO (xs:List (Value × List UInt8)) (w:World) (v i:Value) (wr:World):Prop:=∃ (k:Nat) (l:List UInt8),k≤xs.length∧i=.int .i64 (k:Int)∧l=(xs.take k).flatMap (·.2)∧wr.ownsRow w.heap.size 5 1 v l.length (l.map bv)∧Below w.heap.size w wr
theorem zi0 {xs:List (Value × List UInt8)} (k:Nat):((xs.take k).flatMap (·.2)).length≤(xs.flatMap (·.2)).length:=by
 have h:xs.flatMap (·.2)=(xs.take k).flatMap (·.2) ++ (xs.drop k).flatMap (·.2):=by rw [←List.flatMap_append,List.take_append_drop]
 rw [h,List.length_append]
 omega
theorem znX (xs:List (Value × List UInt8)) (v:Value) (w:World) (hv:IsV (·.1) xs v w) (hx:∀ x∈xs,IsB x.2 x.1 w) (hm:xs.length≤1000) (hb:(xs.flatMap (·.2)).length≤1000000) :
  Calls Tryz.prog 193 #[v] w (RetOwn w (xs.flatMap (·.2))):=by
 obtain ⟨A,n,c,rfl⟩:=hv.shape
 have HN:=Lib.hid hv.parts.1
 have HV:=Lib.hid hv
 have HX:=Lib.hid hx
 have HB:=Lib.hid hb
 have hn6:n≤1000:=by have:=HN.out;omega
 have HS:=Lib.hid (show zpN xs w (.int .i64 0) (.int .i64 0) w from ⟨0,0,Nat.zero_le _,rfl,rfl,rfl,rfl⟩)
 clear hv hx hm hb
 go_enter Tryz.func193,Tryz.ntmps193
 go_wp2
 go_loopw [3,11] (zpN xs w) (fun _ i _=>n - (intOf i).toNat)
 case atStart=>exact HS.out
 case round =>
  obtain ⟨k,S,hk,rfl,rfl,hS,rfl⟩:=hrel
  have hkn:k≤n:=by have:=HN.out;omega
  have HSE:=Lib.hid hS
  have hS6:S≤1000000:=by rw [hS];exact Nat.le_trans (zi0 k) HB.out
  clear hS hk
  by_cases hlt:k < n
  ·have hkl:k < xs.length:=by have:=HN.out;omega
   have hlti:(k:Int) < (n:Int):=by omega
   obtain ⟨ad,rfl,had,hcell⟩:=HV.out.at hkl
   obtain ⟨x,hxe⟩:∃ x,x=xs[k]:=⟨_,rfl⟩
   rw [←hxe] at hcell
   have hxb:=HX.out x (by rw [hxe];exact List.getElem_mem hkl)
   have HNX:=Lib.hid (show S+x.2.length=((xs.take (k+1)).flatMap (·.2)).length by rw [List.take_succ_eq_append_getElem hkl,List.flatMap_append,List.length_append,←HSE.out,←hxe];simp)
   have hS2:S+x.2.length≤1000000:=by rw [HNX.out];exact Nat.le_trans (zi0 (k+1)) HB.out
   obtain ⟨A1,c1,hx1,_⟩:=hxb
   rw [hx1] at hcell
   obtain ⟨q,hq⟩:∃ q,q=x.2.length:=⟨_,rfl⟩
   rw [←hq] at hcell HNX hS2
   have hsw:IntKind.i64.wrap ((S:Int)+(q:Int))=(S:Int)+(q:Int):=by rw [IntKind.wrap_i64];omega
   have hneg:¬((S:Int)+(q:Int) < 0):=by omega
   clear hxe hx1 hq
   go_wp2
   go_roundw
   case rel=>exact ⟨k+1,S+q,hkl,by go_num,by go_num,HNX.out,rfl⟩
   case measure=>simp [intOf];omega
  ·obtain rfl:k=n:=by omega
   have HGR:=Lib.hid (zru S w hS6)
   clear HSE
   go_wp2_with (go_at_call 209;refine HGR.out.mono ?_;rintro e w1 ⟨v1,rfl,ho1,hb1⟩)
   have HS2:=Lib.hid (show zpO xs w v1 (.int .i64 0) w1 from ⟨0,[],Nat.zero_le _,rfl,rfl,ho1,hb1⟩)
   clear ho1 hb1
   go_loopw [6,27] (zpO xs w) (fun _ i _=>k - (intOf i).toNat)
   case atStart=>exact HS2.out
   case round =>
    obtain ⟨j,l,hj,rfl,hl,hown,hbw⟩:=hrel
    have hjn:j≤k:=by have:=HN.out;omega
    have HL:=Lib.hid hl
    have hl6:l.length≤1000000:=by rw [hl];exact Nat.le_trans (zi0 j) HB.out
    have hz:=hbw.size
    clear hl hj
    by_cases hlt2:j < k
    ·have hkl:j < xs.length:=by have:=HN.out;omega
     have hlti:(j:Int) < (k:Int):=by omega
     obtain ⟨ad,rfl,had,hcell⟩:=(HV.out.below hbw).at hkl
     obtain ⟨x,hxe⟩:∃ x,x=xs[j]:=⟨_,rfl⟩
     rw [←hxe] at hcell
     have hxb:=HX.out x (by rw [hxe];exact List.getElem_mem hkl)
     have HNX:=Lib.hid (show l ++ x.2=(xs.take (j+1)).flatMap (·.2) by rw [List.take_succ_eq_append_getElem hkl,List.flatMap_append,←HL.out,←hxe];simp)
     have hS2:(l ++ x.2).length≤1000000:=by rw [HNX.out];exact Nat.le_trans (zi0 (j+1)) HB.out
     rw [List.length_append] at hS2
     obtain ⟨A1,c1,hx1,hA1,hnc1,hcm1,hl1⟩:=hxb
     rw [hx1] at hcell
     obtain ⟨q,hq⟩:∃ q,q=x.2.length:=⟨_,rfl⟩
     rw [←hq] at hcell hA1 hnc1 hS2
     have HL1:=Lib.hid (hl1.below hbw)
     have HQ:=Lib.hid hq
     obtain ⟨m,hm⟩:∃ m,m=l.length:=⟨_,rfl⟩
     rw [←hm] at hown hS2 hl6
     have HM:=Lib.hid hm
     clear hxe hx1 hq hm hl1
     go_wp2_with (at_builtin;refine zo elemB rfl _ _ rfl w.heap.size _ m (l.map bv) A1 q c1 (x.2.map bv) w rfl rfl hA1 (by rw [List.length_map,HQ.out]) HL1.out (zcb _) hown hbw hz (by omega) (by omega) ?_)
     intro v5 w5 ho5 hb5 _ _
     have HO5:=Lib.hid (show w5.ownsRow w.heap.size 5 1 v5 (l ++ x.2).length ((l ++ x.2).map bv) by rw [List.length_append,←HM.out,←HQ.out,List.map_append];exact ho5)
     have HB5:=Lib.hid hb5
     clear ho5 hb5 hown hbw
     go_wp2
     go_roundw
     case rel=>exact ⟨j+1,_,hkl,by go_num,HNX.out,HO5.out,HB5.out⟩
     case measure=>simp [intOf];omega
    ·obtain rfl:j=k:=by omega
     have HE:=Lib.hid (show l=xs.flatMap (·.2) by rw [HL.out,List.take_of_length_le (by have:=HN.out;omega)])
     have HO:=Lib.hid hown
     clear hown
     go_wp2
     go_ret
     rw [←HE.out]
     exact ⟨_,rfl,HO.out,hbw⟩
section
variable {P:Program} {o:Oper} {ρ:Operand→Value} {w:World} {R:Value→World→Prop}
theorem zpP {ts:Array TypeId} {x y:Operand} {a b r:Int} (ho:o.op=.call { callee:=.builtin .max,args:=#[x,y],argTypes:=ts }) (hx:ρ x=.int .i64 a) (hy:ρ y=.int .i64 b) (h:max a b=r) (hR:R (.int .i64 r) w):zba P o ρ w R:=by
 refine zq (v:=.int .i64 r) (w':=w) ?_ hR
 have hm:∀ (ts:Array TypeId) (t:TypeId) (W:World),(Builtin.max_ ts t #[.int .i64 a,.int .i64 b]).run P W=.ok (.int .i64 r) W:=fun ts t W=>by
  rw [run_max_int2]
  congr 2
  rw [←h]
  split <;> omega
 unfold execOp
 simp only [ho,resolve,invoke,builtin,Sem.run_bind,Sem.run_pure,Result.andThen_ok,List.map_toArray,List.map_cons,List.map_nil,hx,hy,hm]
theorem zik {t t':TypeId} {x y:Operand} {a r:Int} (ho:o.op=.binOp .shl t x y t') (hx:ρ x=.int .i64 a) (hy:ρ y=.int .u64 5) (h:IntKind.i64.wrap (a*32)=r) (hR:R (.int .i64 r) w):zba P o ρ w R:=by
 refine zq (v:=.int .i64 r) (w':=w) ?_ hR
 simp [execOp,ho,hx,hy,go_sem,h]
theorem zil {t t':TypeId} {x y:Operand} {a r:Int} (ho:o.op=.binOp .shr t x y t') (hx:ρ x=.int .u8 a) (hy:ρ y=.int .u64 5) (h:a / 32=r) (hR:R (.int .u8 r) w):zba P o ρ w R:=by
 refine zq (v:=.int .u8 r) (w':=w) ?_ hR
 simp [execOp,ho,hx,hy,go_sem,h]
theorem zim {t t':TypeId} {x y:Operand} {a b r:Int} (ho:o.op=.binOp .and t x y t') (hx:ρ x=.int .u8 a) (hy:ρ y=.int .u8 b) (h:bits .and .u8 a b=r) (hR:R (.int .u8 r) w):zba P o ρ w R:=by
 refine zq (v:=.int .u8 r) (w':=w) ?_ hR
 simp [execOp,ho,hx,hy,go_sem,h]
theorem zko {t t':TypeId} {x y:Operand} {a b r:Int} (ho:o.op=.binOp .or t x y t') (hx:ρ x=.int .i64 a) (hy:ρ y=.int .i64 b) (h:bits .or .i64 a b=r) (hR:R (.int .i64 r) w):zba P o ρ w R:=by
 refine zq (v:=.int .i64 r) (w':=w) ?_ hR
 simp [execOp,ho,hx,hy,go_sem,h]
theorem znY {t t':TypeId} {x y:Operand} {a b r:Int} (ho:o.op=.binOp .or t x y t') (hx:ρ x=.int .u64 a) (hy:ρ y=.int .u64 b) (h:bits .or .u64 a b=r) (hR:R (.int .u64 r) w):zba P o ρ w R:=by
 refine zq (v:=.int .u64 r) (w':=w) ?_ hR
 simp [execOp,ho,hx,hy,go_sem,h]
theorem zpQ {t e:TypeId} {bytes:Nat} {z u u':Value} (E:Elem P t e bytes z) {x y:Operand} (ho:o.op=.buildSlice t 2 #[(0,x),(1,y)]) (hx:ρ x=u) (hy:ρ y=u') (hu:u.cells = #[u]) (hu':u'.cells = #[u']) (hR:R (.slice (some ⟨w.heap.size,0,none⟩) 2 2) (w.alloc (.cells #[u,u'] e))):zba P o ρ w R:=by
 obtain ⟨i,h1,h2,h3,h4⟩:=E.info
 refine zq (v:=.slice (some ⟨w.heap.size,0,none⟩) 2 2) (w':=w.alloc (.cells #[u,u'] e)) ?_ hR
 have h5:z.cells = #[z]:=E.one
 have hf:Instr.fill (fun k=>some (k*i.size,i.size)) ((Array.range (2*i.size)).map (z.cells[· % z.cells.size]!)) [(0,u),(1,u')]=some #[u,u']:=by
  rw [h3,h5]
  have hr1:Array.range 2 = #[0,1]:=by rw [Array.range_succ,Array.range_succ];rfl
  rw [Nat.mul_one,hr1]
  simp [Instr.fill,hu,hu']
 have:=run_buildSlice w t e 2 #[(0,u),(1,u')] #[u,u'] i z E.under h1 h2 (by rw [h3];decide) (by rw [h3];decide) hf
 simp [execOp,ho,hx,hy,this]
end
theorem zhi {o:Oper} {ρ:Operand→Value} {w:World} {R:Value→World→Prop} {x0 x1 x2 x3 x4 x5:Operand} {m W n p g t:Int} (ho:o.op=.build 181 #[(0,x0),(1,x1),(2,x2),(3,x3),(4,x4),(5,x5)])
  (h0:ρ x0=.int .i64 m) (h1:ρ x1=.int .i64 W) (h2:ρ x2=.int .i64 n) (h3:ρ x3=.int .i64 p) (h4:ρ x4=.int .i64 g) (h5:ρ x5=.int .i64 t) (hR:R (shv m W n p g t) w):zba Tryz.prog o ρ w R:=by
 refine zq (v:=shv m W n p g t) (w':=w) ?_ hR
 simp [execOp,ho,h0,h1,h2,h3,h4,h5,go_sem]
 rfl
theorem zdW {P:Program} {fn:Func} {p u v:Tmp} {ty:TypeId} (h:fn.results = #[.cell p ty,.tmp u,.tmp v]) (tmps:Array Value) (w:World) (g:Nat) (t:TypeId) (cs:Array Value) (fr:Nat × Nat) (d:TypeDesc)
  (hp:tmps.getD p undef=.pointer (some ⟨g,0,none⟩)) (hg:w.heap[g]? = some (.cells cs t fr))
  (hu:P.underlying ty=some d) (hd:(match d with | .struct _ | .array _ _=>true | _=>false)=true) (hi:(P.info? ty).map (·.size)=some cs.size) :
  (results fn tmps).run P w=.ok (.tuple #[.agg cs,tmps.getD u undef,tmps.getD v undef]) w:=by
 have hp':tmps[p]?.getD undef=Value.pointer (some ⟨g,0,none⟩):=by simpa using hp
 simp only [results,h]
 simp [Result.andThen,hp',asAddr,run_loadVar_row w g t ty cs fr d hg hu hd hi]
theorem zkp (W:World) (g:Nat):(Instr.fieldAt 209 (.pointer (some ⟨g,0,none⟩)) 0).run Tryz.prog W=.ok (.pointer (some ⟨g,0,none⟩)) W:=by
 simp [Instr.fieldAt,run_underlying Tryz.underlying209,Instr.sureAddr,fieldPlace,Addr.add]
theorem zkq (W:World) (g:Nat):(Instr.fieldAt 209 (.pointer (some ⟨g,0,none⟩)) 1).run Tryz.prog W=.ok (.pointer (some ⟨g,1,none⟩)) W:=by
 simp [Instr.fieldAt,run_underlying Tryz.underlying209,Instr.sureAddr,fieldPlace,Addr.add]
theorem zbk:(Tryz.prog.info? 181).map (·.size)=some 6:=by kernel_rfl
end Go.Proofs.YtblpkmmhmdpkjaaGreatDoor
