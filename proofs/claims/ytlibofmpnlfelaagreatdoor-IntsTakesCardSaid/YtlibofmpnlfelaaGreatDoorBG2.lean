import Derived.WalkKit
import Derived.WalkLawsBesides
import Derived.Outline
import Derived.Lib.Hide
import Derived.Handy
import Derived.Deep.QuietTactic
import Derived.BigQuiet
import Derived.StillTailTactics
import Derived.Deep.DeepMust
import Derived.Test.YtlibofmpnlfelaaGreatDoorBG1
set_option maxHeartbeats 8000000
set_option maxRecDepth 100000
namespace Go.Proofs.YtlibofmpnlfelaaGreatDoor
open Go.RowKit
def WTab (w:World):Prop:=∃ t,Row w 2 t (wtab.map (Value.int .i64))
theorem WTab.below {B:Nat} {w w':World} (h:WTab w) (hb:Below B w w') (hB:2 < B):WTab w':=h.elim fun t h=>⟨t,h.below hb hB⟩
theorem WTab.lt {w:World} (h:WTab w):2 < w.heap.size:=h.elim fun _ h=>h.lt
theorem WTab.cell {w:World} (h:WTab w) {i:Nat} (hi:i < 32):w.cell? ⟨2,i,none⟩=some (.int .i64 (wat i)):=by
 obtain ⟨t,h⟩:=h
 rw [h.cell,List.getElem?_map,zmg hi];rfl
theorem ziy (c:Int) (w:World) (ht:WTab w) (h0 : -9223372036854775808≤c) (h1:c≤9223372036854775807) :
  Calls Tryz.prog 144 #[.int .i64 c] w fun e w'=>e=.returned (.int .i64 (wof c))∧w=w':=by
 rcases (by omega:c < 0∨32≤c∨(0≤c∧c < 32)) with h | h | h
 ·have e:=Lib.hid (zhe (c:=c) (by omega))
  go_enter Tryz.func144,Tryz.ntmps144
  go_wp2
  go_ret
  exact ⟨zu e.out.symm,rfl⟩
 ·have e:=Lib.hid (zhe (c:=c) (by omega))
  have h2:decide (c < 0)=false:=by simp;omega
  go_enter Tryz.func144,Tryz.ntmps144
  go_wp2
  go_ret
  exact ⟨zu e.out.symm,rfl⟩
 ·obtain ⟨n,rfl⟩:∃ n:Nat,c=n:=⟨c.toNat,by omega⟩
  have hn:n < 32:=by omega
  have e:=Lib.hid (znJ hn)
  have hc:=ht.cell hn
  clear h
  go_enter Tryz.func144,Tryz.ntmps144
  go_wp2
  go_ret
  exact ⟨zu e.out.symm,rfl⟩
theorem zhh (c:Int) (w:World) (h0 : -9223372036854775808≤c) (h1:c≤9223372036854775807) :
  Calls Tryz.prog 74 #[.int .i64 c] w fun e w'=>e=.returned (.int .i64 (wof c))∧w=w':=by
 rcases (by omega:c < 0∨31 < c∨(0≤c∧c≤31)) with h | h | h
 ·have e:=Lib.hid (zhe (c:=c) (by omega))
  go_enter Tryz.func74,Tryz.ntmps74
  go_wp2
  go_ret
  exact ⟨zu e.out.symm,rfl⟩
 ·have e:=Lib.hid (zhe (c:=c) (by omega))
  have h2:decide (c < 0)=false:=by simp;omega
  go_enter Tryz.func74,Tryz.ntmps74
  go_wp2
  go_ret
  exact ⟨zu e.out.symm,rfl⟩
 ·obtain ⟨n,rfl⟩:∃ n:Nat,c=n:=⟨c.toNat,by omega⟩
  have hn:n < 32:=by omega
  have e:=Lib.hid ((znJ hn).trans (zvs ⟨n,hn⟩))
  rcases (by omega:n < 24∨(24≤n∧n < 28)∨28≤n) with h3 | ⟨h3,h4⟩ | h3
  ·go_enter Tryz.func74,Tryz.ntmps74
   go_wp2
   go_ret
   exact ⟨zu (by rw [e.out,if_pos h3]),rfl⟩
  ·have h5:¬n < 24:=by omega
   go_enter Tryz.func74,Tryz.ntmps74
   go_wp2
   go_ret
   exact ⟨zu (by rw [e.out,if_neg h5,if_pos h4]),rfl⟩
  ·have h5:¬n < 24:=by omega
   have h6:¬n < 28:=by omega
   go_enter Tryz.func74,Tryz.ntmps74
   go_wp2
   go_ret
   exact ⟨zu (by rw [e.out,if_neg h5,if_neg h6]),rfl⟩
def zuC (x:Int) (i:Value):Prop:=∃ k:Nat,i=.int .i64 k∧k≤32∧∀ j,j < k→wat j≠x
theorem zfo (x:Int) (w:World) (ht:WTab w) :
  Calls Tryz.prog 141 #[.int .i64 x] w fun e w'=>e=.returned (.int .i64 (zbc x))∧w=w':=by
 have hi:=fun (k:Nat) (hk:k < 32)=>zeh (P:=Tryz.prog) w 184 3 32 (wtab.map (Value.int .i64)) .i64 k Tryz.underlying184 hk (fun _=>by kernel_rfl) (fun _=>by kernel_rfl) (.int .i64 (wat k)) (by rw [List.getElem?_map,zmg hk];rfl)
 have HI:=Lib.hid hi
 clear hi
 obtain ⟨t,hrow⟩:=ht
 have hblk:w.heap[2]? = some (.cells (wtab.map (Value.int .i64)).toArray t (0,0)):=hrow
 clear hrow
 generalize hcs:(wtab.map (Value.int .i64)).toArray=cs at HI hblk
 have hsz:cs.size=32:=by rw [←hcs];rfl
 have HR:=Lib.hid hblk
 have HZ:=Lib.hid hsz
 clear hcs hsz hblk
 go_enter Tryz.func141,Tryz.ntmps141
 go_wp2_with (refine wpList_load_row rfl 184 (.global 2) rfl 2 rfl t cs (0,0) _ HR.out Tryz.underlying184 rfl (by rw [HZ.out];kernel_rfl) ?_)
 go_loop [6] (zuC x) (fun i=>32 - (intOf i).toNat)
 case atStart=>exact ⟨0,rfl,by omega,fun j hj=>by omega⟩
 case round =>
  obtain ⟨k,rfl,hk,hb⟩:=hrel
  have HB:=Lib.hid hb
  clear hb
  by_cases hlt:k < 32
  ·have hx:=HI.out k hlt
   have hw:=zkh k
   by_cases hq:wat k=x
   ·have HQ:=Lib.hid hq
    have hq':(wat k == x)=true:=by simpa using hq
    clear hq
    go_wp2
    go_ret
    exact ⟨zu (zs7 hlt HQ.out HB.out).symm,rfl⟩
   ·have HQ:Hid (wat k≠x):=Lib.hid (by omega)
    have hq':(wat k == x)=false:=by simpa using hq
    clear hq
    go_wp2
    go_round
    case rel=>exact ⟨k+1,by go_num,by omega,fun j hj=>by rcases (by omega:j < k∨j=k) with h | rfl;exact HB.out j h;exact HQ.out⟩
    case measure=>simp [intOf];omega
  ·obtain rfl:k=32:=by omega
   go_wp2
   go_ret
   exact ⟨zu (zoH HB.out).symm,rfl⟩
def ziz (x:Int) (i:Value):Prop:=∃ k:Nat,i=.int .i64 k∧k≤32∧∀ j,j < k→wat j < x
theorem zdR (x:Int) (w:World) (ht:WTab w) :
  Calls Tryz.prog 137 #[.int .i64 x] w fun e w'=>e=.returned (.int .i64 (zh x))∧w=w':=by
 have hi:=fun (k:Nat) (hk:k < 32)=>zeh (P:=Tryz.prog) w 184 3 32 (wtab.map (Value.int .i64)) .i64 k Tryz.underlying184 hk (fun _=>by kernel_rfl) (fun _=>by kernel_rfl) (.int .i64 (wat k)) (by rw [List.getElem?_map,zmg hk];rfl)
 have HI:=Lib.hid hi
 clear hi
 obtain ⟨t,hrow⟩:=ht
 have hblk:w.heap[2]? = some (.cells (wtab.map (Value.int .i64)).toArray t (0,0)):=hrow
 clear hrow
 generalize hcs:(wtab.map (Value.int .i64)).toArray=cs at HI hblk
 have hsz:cs.size=32:=by rw [←hcs];rfl
 have HR:=Lib.hid hblk
 have HZ:=Lib.hid hsz
 clear hcs hsz hblk
 go_enter Tryz.func137,Tryz.ntmps137
 go_wp2_with (refine wpList_load_row rfl 184 (.global 2) rfl 2 rfl t cs (0,0) _ HR.out Tryz.underlying184 rfl (by rw [HZ.out];kernel_rfl) ?_)
 go_loop [6] (ziz x) (fun i=>32 - (intOf i).toNat)
 case atStart=>exact ⟨0,rfl,by omega,fun j hj=>by omega⟩
 case round =>
  obtain ⟨k,rfl,hk,hb⟩:=hrel
  have HB:=Lib.hid hb
  clear hb
  by_cases hlt:k < 32
  ·have hx:=HI.out k hlt
   have hw:=zkh k
   by_cases hq:x≤wat k
   ·have HQ:=Lib.hid hq
    have hq':decide (x≤wat k)=true:=by simpa using hq
    clear hq
    go_wp2
    go_ret
    exact ⟨zu (zhf hlt HQ.out HB.out).symm,rfl⟩
   ·have HQ:Hid (wat k < x):=Lib.hid (by omega)
    have hq':decide (x≤wat k)=false:=by simpa using hq
    clear hq
    go_wp2
    go_round
    case rel=>exact ⟨k+1,by go_num,by omega,fun j hj=>by rcases (by omega:j < k∨j=k) with h | rfl;exact HB.out j h;exact HQ.out⟩
    case measure=>simp [intOf];omega
  ·obtain rfl:k=32:=by omega
   go_wp2
   go_ret
   exact ⟨zu (zfl HB.out).symm,rfl⟩
theorem zkk (x:Int) (w:World) :
  Calls Tryz.prog 94 #[.int .i64 x] w fun e w'=>e=.returned (.int .i64 (zh x))∧w=w':=by
 go_enter Tryz.func94,Tryz.ntmps94
 go_wp2
 go_loop [3] (ziz x) (fun i=>32 - (intOf i).toNat)
 case atStart=>exact ⟨0,rfl,by omega,fun j hj=>by omega⟩
 case round =>
  obtain ⟨k,rfl,hk,hb⟩:=hrel
  have HB:=Lib.hid hb
  clear hb
  by_cases hlt:k < 32
  ·have hw:=zkh k
   have hof:=zhh (k:Int)
   rw [znJ hlt] at hof
   have HO:=Lib.hid hof
   clear hof
   by_cases hq:x≤wat k
   ·have HQ:=Lib.hid hq
    have hq':decide (x≤wat k)=true:=by simpa using hq
    clear hq
    go_wp2_with (go_at_call 74;refine (HO.out _ (by omega) (by omega)).mono ?_;rintro e w' ⟨rfl,rfl⟩)
    go_ret
    exact ⟨zu (zhf hlt HQ.out HB.out).symm,rfl⟩
   ·have HQ:Hid (wat k < x):=Lib.hid (by omega)
    have hq':decide (x≤wat k)=false:=by simpa using hq
    clear hq
    go_wp2_with (go_at_call 74;refine (HO.out _ (by omega) (by omega)).mono ?_;rintro e w' ⟨rfl,rfl⟩)
    go_round
    case rel=>exact ⟨k+1,by go_num,by omega,fun j hj=>by rcases (by omega:j < k∨j=k) with h | rfl;exact HB.out j h;exact HQ.out⟩
    case measure=>simp [intOf];omega
  ·obtain rfl:k=32:=by omega
   go_wp2
   go_ret
   exact ⟨zu (zfl HB.out).symm,rfl⟩
theorem zgO (x:Nat) (w:World) (h:x < 2 ^ 64) :
  Calls Tryz.prog 170 #[.int .u64 (x:Int)] w fun e w'=>e=.returned (.int .i64 (zY x:Int))∧w=w':=by
 have hc:=Tryz.bits_Len64 (x:Int)
 rw [Int.toNat_natCast] at hc
 have HC:=Lib.hid hc
 clear hc
 have H:=Lib.hid h
 clear h
 go_enter Tryz.func170,Tryz.ntmps170
 go_wp2_with (go_at_call 200;refine (HC.out _ (by omega) (by have:=H.out;omega)).mono ?_;rintro e w' ⟨rfl,rfl⟩)
 go_ret
 exact ⟨rfl,rfl⟩
def zs9 (x:Nat) (v n:Value):Prop:=∃ y m:Nat,v=.int .u64 y∧n=.int .i64 m∧y≤x∧m+zY y=zY x
theorem zkl (x:Nat) (w:World) (h:x < 2 ^ 64) :
  Calls Tryz.prog 93 #[.int .u64 (x:Int)] w fun e w'=>e=.returned (.int .i64 (zY x:Int))∧w=w':=by
 have H64:=Lib.hid (zcQ h)
 have H:=Lib.hid h
 clear h
 go_enter Tryz.func93,Tryz.ntmps93
 go_wp2
 go_loop [0,3] (zs9 x) (fun v _=>(intOf v).toNat)
 case atStart=>exact ⟨x,0,rfl,rfl,Nat.le_refl _,by simp⟩
 case round =>
  obtain ⟨y,m,rfl,rfl,hy,he⟩:=hrel
  have HE:=Lib.hid he
  clear he
  have hm:m≤64:=by have:=HE.out;have:=H64.out;omega
  by_cases h0:0 < y
  ·have HW:Hid (IntKind.u64.wrap ((y:Int) / 2)=((y / 2:Nat):Int)):=Lib.hid (by have:=H.out;rw [IntKind.wrap_u64];omega)
   go_wp2
   go_round
   case rel =>
    refine ⟨y / 2,m+1,by rw [HW.out],by go_num,by omega,?_⟩
    have:=zoJ (x:=y) (by omega) (by have:=H.out;omega)
    have:=HE.out
    omega
   case measure=>simp only [intOf,HW.out,Int.toNat_natCast];omega
  ·obtain rfl:y=0:=by omega
   go_wp2
   go_ret
   exact ⟨zu (by have:=HE.out;rw [zoI] at this;omega),rfl⟩
def zuD (l:List Nat) (a i:Value):Prop:=∃ k:Nat,k≤l.length∧i=.int .i64 k∧a=.int .u64 (wall (l.take k):Nat)
theorem znL (A:Option Addr) (n c:Nat) (l:List Nat) (w:World) (hA:A=none→n=0) (hn:l.length=n) (hc:n≤c) (hm:n≤1000000) (hl:Lies w A (l.map uv)) (h:∀ x∈l,x < 2 ^ 64) :
  Calls Tryz.prog 138 #[.slice A n c] w fun e w'=>e=.returned (.int .i64 (zbW l:Int))∧w=w':=by
 have H:=Lib.hid h
 have HN:=Lib.hid hn
 clear h hn
 go_enter Tryz.func138,Tryz.ntmps138
 go_wp2
 go_loop [3,8] (zuD l) (fun _ i=>n - (intOf i).toNat)
 case atStart=>exact ⟨0,by omega,rfl,rfl⟩
 case round =>
  obtain ⟨k,hk,rfl,rfl⟩:=hrel
  have hk':k≤n:=by have:=HN.out;omega
  have ht:=zqH (l:=l.take k) fun x hx=>H.out x (List.mem_of_mem_take hx)
  by_cases hlt:k < n
  ·have hkl:k < l.length:=by have:=HN.out;omega
   obtain ⟨ad,rfl,_,hcell⟩:=hl.cell (k:=k) (by simpa using hkl)
   obtain ⟨x,hx⟩:∃ x:Nat,x=l[k]:=⟨_,rfl⟩
   have hcx:w.cell? (ad.add k)=some (.int .u64 (x:Int)):=by rw [hcell,List.getElem_map,hx];rfl
   have hx64:x < 2 ^ 64:=by rw [hx];exact H.out _ (List.getElem_mem hkl)
   have hs:wall (l.take (k+1))=wall (l.take k) ||| x:=by rw [List.take_succ_eq_append_getElem hkl,zqG,hx]
   have ho:=u64_or (wall (l.take k):Int) (x:Int) (by omega) (by omega) (by omega) (by omega)
   rw [Int.toNat_natCast,Int.toNat_natCast] at ho
   have HS:=Lib.hid hs
   have HX:=Lib.hid hx
   clear hs hx hcell
   generalize wall (l.take k)=y at *
   have HT:=Lib.hid ht
   have HX64:=Lib.hid hx64
   clear ht hx64
   go_wp2
   go_round
   case rel=>exact ⟨k+1,by omega,by go_num,by rw [HS.out]⟩
   case measure=>simp [intOf];omega
  ·obtain rfl:k=n:=by omega
   have hb:=zgO (wall (l.take k)) w ht
   rw [zkj (fun x hx=>H.out x (List.mem_of_mem_take hx)),List.take_of_length_le (by have:=HN.out;omega)] at hb
   have HB:=Lib.hid hb
   clear hb ht
   rw [List.take_of_length_le (by have:=HN.out;omega)] at *
   go_wp2_with (go_at_call 170;refine HB.out.mono ?_;rintro e w' ⟨rfl,rfl⟩)
   go_ret
   exact ⟨rfl,rfl⟩
end Go.Proofs.YtlibofmpnlfelaaGreatDoor
namespace Go.Proofs.YtlibofmpnlfelaaGreatDoor
def bval:List UInt8→Nat
 | []=>0
 | b::r=>b.toNat*256 ^ r.length+bval r
def pval (w:Nat):List Nat→Nat
 | []=>0
 | x::r=>x*2 ^ (w*r.length)+pval w r
def zT (n w:Nat):Nat:=(n*w+7) / 8
def be:Nat→Nat→List UInt8
 | 0,_=>[]
 | m+1,N=>UInt8.ofNat (N / 256 ^ m % 256)::be m N
theorem p256 (k:Nat):256 ^ k=2 ^ (8*k):=by rw [Nat.pow_mul]
theorem zcJ (m N:Nat):(be m N).length=m:=by
 induction m with
 | zero=>rfl
 | succ m ih=>simp [be,ih]
theorem zfX (m N:Nat):bval (be m N)=N % 256 ^ m:=by
 induction m with
 | zero=>simp [be,bval];omega
 | succ m ih =>
  rw [be,bval,zcJ,ih]
  simp only [UInt8.toNat_ofNat',Nat.reducePow,Nat.mod_mod]
  rw [Nat.pow_succ,Nat.mod_mul,Nat.mul_comm]
  omega
theorem zdq (l:List UInt8):bval l < 256 ^ l.length:=by
 induction l with
 | nil=>simp [bval]
 | cons b r ih =>
  have hb:=b.toNat_lt
  have h1:(b.toNat+1)*256 ^ r.length≤256*256 ^ r.length:=Nat.mul_le_mul_right _ (by omega)
  rw [bval,List.length_cons,Nat.pow_succ]
  rw [Nat.add_mul] at h1
  omega
theorem zjy:∀ (l m:List UInt8),l.length=m.length→bval l=bval m→l=m
 | [],[],_,_=>rfl
 | [],_::_,h,_=>by simp at h
 | _::_,[],h,_=>by simp at h
 | b::r,c::s,h,e=>by
  have hl:r.length=s.length:=by simpa using h
  have h1:=zdq r
  have h2:=zdq s
  rw [bval,bval,hl] at e
  rw [hl] at h1
  have hp:0 < 256 ^ s.length:=Nat.pow_pos (by omega)
  have hd:(b.toNat*256 ^ s.length+bval r) / 256 ^ s.length=b.toNat:=by
   rw [Nat.mul_comm,Nat.mul_add_div hp,Nat.div_eq_of_lt h1];omega
  have hd2:(c.toNat*256 ^ s.length+bval s) / 256 ^ s.length=c.toNat:=by
   rw [Nat.mul_comm,Nat.mul_add_div hp,Nat.div_eq_of_lt h2];omega
  have hbc:b.toNat=c.toNat:=by rw [←hd,←hd2,e]
  have hbe:b=c:=UInt8.toNat_inj.1 hbc
  subst hbe
  rw [zjy r s hl (by omega)]
theorem zoK {l:List UInt8} {m N:Nat} (hl:l.length=m) (h:bval l=N):l=be m N:=by
 refine zjy _ _ (by rw [zcJ,hl]) ?_
 rw [zfX,←h,Nat.mod_eq_of_lt]
 rw [←hl]
 exact zdq l
theorem ze4 (a b:List UInt8):bval (a ++ b)=bval a*256 ^ b.length+bval b:=by
 induction a with
 | nil=>simp [bval]
 | cons x r ih=>rw [List.cons_append,bval,bval,ih,List.length_append,Nat.pow_add,Nat.add_mul,Nat.mul_assoc];omega
theorem ziA (m:Nat):bval (List.replicate m 0)=0:=by
 induction m with
 | zero=>rfl
 | succ m ih=>rw [List.replicate_succ,bval,ih];simp
theorem zjz:∀ (l:List UInt8) (k:Nat) (h:k < l.length),l[k].toNat=bval l / 256 ^ (l.length - 1 - k) % 256
 | b::r,0,_=>by
  have hp:0 < 256 ^ r.length:=Nat.pow_pos (by omega)
  simp only [List.getElem_cons_zero,bval,List.length_cons,Nat.add_sub_cancel,Nat.sub_zero]
  rw [Nat.mul_comm,Nat.mul_add_div hp,Nat.div_eq_of_lt (zdq r),Nat.add_zero,Nat.mod_eq_of_lt b.toNat_lt]
 | b::r,k+1,h=>by
  have hk:k < r.length:=by simpa using h
  have ih:=zjz r k hk
  simp only [List.getElem_cons_succ,bval,List.length_cons,Nat.add_sub_cancel]
  rw [ih]
  have he:r.length - (k+1)=r.length - 1 - k:=by omega
  rw [he]
  have hs:256 ^ r.length=256 ^ (r.length - 1 - k)*(256 ^ k*256):=by
   rw [←Nat.pow_succ,←Nat.pow_add];congr 1;omega
  have hp:0 < 256 ^ (r.length - 1 - k):=Nat.pow_pos (by omega)
  rw [hs,show b.toNat*(256 ^ (r.length - 1 - k)*(256 ^ k*256))=256 ^ (r.length - 1 - k)*(b.toNat*256 ^ k*256) by
   rw [Nat.mul_left_comm,Nat.mul_assoc],Nat.mul_add_div hp]
  omega
theorem zjA:∀ (l:List UInt8) (k:Nat) (c:UInt8) (h:k < l.length),bval (l.set k c)+l[k].toNat*256 ^ (l.length - 1 - k)=bval l+c.toNat*256 ^ (l.length - 1 - k)
 | b::r,0,c,_=>by
  simp only [List.getElem_cons_zero,List.set_cons_zero,bval,List.length_cons,Nat.add_sub_cancel,Nat.sub_zero]
  omega
 | b::r,k+1,c,h=>by
  have hk:k < r.length:=by simpa using h
  have ih:=zjA r k c hk
  simp only [List.getElem_cons_succ,List.set_cons_succ,bval,List.length_cons,Nat.add_sub_cancel,List.length_set]
  have he:r.length - (k+1)=r.length - 1 - k:=by omega
  rw [he]
  omega
theorem zqI {out:List UInt8} {m at_ n V piece:Nat} (hm:out.length=m) (hn0:0 < n) (hn:n≤8 - at_ % 8) (hat:at_+n≤8*m) (hp:piece < 2 ^ n) (hv:bval out=V*2 ^ (8*m - at_)) :
  ∃ h:at_ / 8 < out.length,out[at_ / 8].toNat % 2 ^ (8 - at_ % 8)=0∧out[at_ / 8].toNat+piece*2 ^ (8 - at_ % 8 - n) < 256 ∧
   piece*2 ^ (8 - at_ % 8 - n) < 2 ^ (8 - at_ % 8) ∧
   bval (out.set (at_ / 8) (UInt8.ofNat (out[at_ / 8].toNat+piece*2 ^ (8 - at_ % 8 - n))))=(V*2 ^ n+piece)*2 ^ (8*m - (at_+n)):=by
 have hk:at_ / 8 < out.length:=by omega
 refine ⟨hk,?_⟩
 have hg:=zjz out (at_ / 8) hk
 have hs:=zjA out (at_ / 8) (UInt8.ofNat (out[at_ / 8].toNat+piece*2 ^ (8 - at_ % 8 - n))) hk
 rw [hm] at hg hs
 obtain ⟨r,hr⟩:∃ r,r=8 - at_ % 8:=⟨_,rfl⟩
 rw [←hr] at hn hs ⊢
 have hr8:r≤8:=by omega
 have h1:8*m - at_=8*(m - 1 - at_ / 8)+r:=by omega
 have h2:8*m - (at_+n)=8*(m - 1 - at_ / 8)+(r - n):=by omega
 have hpp:0 < 256 ^ (m - 1 - at_ / 8):=Nat.pow_pos (by omega)
 rw [hv,h1,Nat.pow_add,←p256,show V*(256 ^ (m - 1 - at_ / 8)*2 ^ r)=256 ^ (m - 1 - at_ / 8)*(V*2 ^ r) by rw [Nat.mul_left_comm],Nat.mul_div_cancel_left _ hpp] at hg
 have h256:256=2 ^ (8 - r)*2 ^ r:=by rw [←Nat.pow_add,show 8 - r+r=8 by omega]
 have hb:out[at_ / 8].toNat=V % 2 ^ (8 - r)*2 ^ r:=by rw [hg];conv=>lhs;rw [h256,Nat.mul_mod_mul_right]
 have hpc:piece*2 ^ (r - n) < 2 ^ r:=by
  have h3:2 ^ r=2 ^ n*2 ^ (r - n):=by rw [←Nat.pow_add];congr 1;omega
  rw [h3]
  exact Nat.mul_lt_mul_of_pos_right hp (Nat.pow_pos (by omega))
 have hlt:out[at_ / 8].toNat+piece*2 ^ (r - n) < 256:=by
  have h4:V % 2 ^ (8 - r) < 2 ^ (8 - r):=Nat.mod_lt _ (Nat.pow_pos (by omega))
  have h5:(V % 2 ^ (8 - r)+1)*2 ^ r≤2 ^ (8 - r)*2 ^ r:=Nat.mul_le_mul_right _ h4
  rw [←h256,Nat.add_mul] at h5
  rw [hb]
  omega
 refine ⟨by rw [hb];exact Nat.mul_mod_left _ _,hlt,hpc,?_⟩
 have hc:(UInt8.ofNat (out[at_ / 8].toNat+piece*2 ^ (r - n))).toNat=out[at_ / 8].toNat+piece*2 ^ (r - n):=by
  simp only [UInt8.toNat_ofNat',Nat.reducePow]
  exact Nat.mod_eq_of_lt hlt
 rw [hc,Nat.add_mul,hv] at hs
 rw [h1] at hs
 rw [h2]
 have h6:V*2 ^ (8*(m - 1 - at_ / 8)+r)=V*2 ^ n*2 ^ (8*(m - 1 - at_ / 8)+(r - n)):=by
  rw [Nat.mul_assoc,←Nat.pow_add];congr 2;omega
 have h7:piece*2 ^ (r - n)*256 ^ (m - 1 - at_ / 8)=piece*2 ^ (8*(m - 1 - at_ / 8)+(r - n)):=by
  rw [p256,Nat.mul_assoc,←Nat.pow_add];congr 2;omega
 rw [Nat.add_mul,←h6,←h7]
 omega
theorem zqJ {out:List UInt8} {m at_ n V piece q r d:Nat} (hq:q=at_ / 8) (hr:r=8 - at_ % 8) (hd:d=r - n) (hm:out.length=m) (hn0:0 < n) (hn:n≤r) (hat:at_+n≤8*m) (hp:piece < 2 ^ n) (hv:bval out=V*2 ^ (8*m - at_)) :
  ∃ h:q < out.length,out[q].toNat % 2 ^ r=0∧out[q].toNat+piece*2 ^ d < 256∧piece*2 ^ d < 2 ^ r∧bval (out.set q (UInt8.ofNat (out[q].toNat+piece*2 ^ d)))=(V*2 ^ n+piece)*2 ^ (8*m - (at_+n)):=by
 subst hq hr hd
 exact zqI hm hn0 hn hat hp hv
theorem zfY (V0 x W k n:Nat) (hk:k≤W) (hn:n≤k):(V0*2 ^ (W - k)+x / 2 ^ k)*2 ^ n+x / 2 ^ (k - n) % 2 ^ n=V0*2 ^ (W - (k - n))+x / 2 ^ (k - n):=by
 have h1:x / 2 ^ k=x / 2 ^ (k - n) / 2 ^ n:=by rw [Nat.div_div_eq_div_mul,←Nat.pow_add];congr 2;omega
 have h2:=Nat.div_add_mod (x / 2 ^ (k - n)) (2 ^ n)
 have h3:2 ^ (W - (k - n))=2 ^ (W - k)*2 ^ n:=by rw [←Nat.pow_add];congr 1;omega
 rw [h1,h3,Nat.add_mul,Nat.mul_assoc,Nat.mul_comm (x / 2 ^ (k - n) / 2 ^ n)]
 omega
theorem zej (w:Nat) (l:List Nat) (x:Nat):pval w (l ++ [x])=pval w l*2 ^ w+x:=by
 induction l with
 | nil=>simp [pval]
 | cons y r ih =>
  rw [List.cons_append,pval,pval,ih,List.length_append,List.length_singleton,Nat.mul_add,Nat.mul_one,Nat.pow_add,Nat.add_mul,Nat.mul_assoc]
  omega
theorem zjB {w:Nat}:∀ {l:List Nat},(∀ x∈l,x < 2 ^ w)→pval w l < 2 ^ (w*l.length)
 | [],_=>by simp [pval]
 | x::r,h=>by
  have ih:=zjB (l:=r) fun y hy=>h y (by simp [hy])
  have hx:(x+1)*2 ^ (w*r.length)≤2 ^ w*2 ^ (w*r.length):=Nat.mul_le_mul_right _ (h x (by simp))
  rw [pval,List.length_cons,Nat.mul_add,Nat.mul_one,Nat.pow_add,Nat.mul_comm (2 ^ (w*r.length))]
  rw [Nat.add_mul] at hx
  omega
theorem znM {w:Nat}:∀ {l:List Nat} (k:Nat) (hk:k < l.length),(∀ x∈l,x < 2 ^ w)→pval w l / 2 ^ (w*(l.length - 1 - k)) % 2 ^ w=l[k]
 | x::r,0,_,h=>by
  have ih:=zjB (l:=r) fun y hy=>h y (by simp [hy])
  have hp:0 < 2 ^ (w*r.length):=Nat.pow_pos (by omega)
  simp only [List.getElem_cons_zero,pval,List.length_cons,Nat.add_sub_cancel,Nat.sub_zero]
  rw [Nat.mul_comm x,Nat.mul_add_div hp,Nat.div_eq_of_lt ih,Nat.add_zero,Nat.mod_eq_of_lt (h x (by simp))]
 | x::r,k+1,hk,h=>by
  have hk':k < r.length:=by simpa using hk
  have ih:=znM (l:=r) k hk' fun y hy=>h y (by simp [hy])
  simp only [List.getElem_cons_succ,pval,List.length_cons,Nat.add_sub_cancel]
  have he:r.length - (k+1)=r.length - 1 - k:=by omega
  rw [he]
  have hs:2 ^ (w*r.length)=2 ^ (w*(r.length - 1 - k))*(2 ^ (w*k)*2 ^ w):=by
   rw [←Nat.pow_add,←Nat.pow_add];congr 1
   rw [←Nat.mul_succ,←Nat.mul_add];congr 1;omega
  have hp:0 < 2 ^ (w*(r.length - 1 - k)):=Nat.pow_pos (by omega)
  rw [hs,show x*(2 ^ (w*(r.length - 1 - k))*(2 ^ (w*k)*2 ^ w))=2 ^ (w*(r.length - 1 - k))*(2 ^ w*(x*2 ^ (w*k))) by
   rw [Nat.mul_left_comm,←Nat.mul_assoc x,Nat.mul_comm (2 ^ w)],Nat.mul_add_div hp,Nat.mul_add_mod]
  exact ih
def zbx (l:List Nat) (w:Nat):List UInt8:=be (zT l.length w) (pval w l*2 ^ (8*zT l.length w - w*l.length))
theorem zdS (n w:Nat):w*n≤8*zT n w:=by unfold zT;rw [Nat.mul_comm];omega
theorem zmi (n w:Nat):8*zT n w - w*n≤7:=by unfold zT;rw [Nat.mul_comm w];omega
theorem zcK (l:List Nat) (w:Nat):(zbx l w).length=zT l.length w:=zcJ _ _
theorem zfZ {l:List Nat} {w:Nat} (h:∀ x∈l,x < 2 ^ w):bval (zbx l w)=pval w l*2 ^ (8*zT l.length w - w*l.length):=by
 rw [zbx,zfX,Nat.mod_eq_of_lt]
 have h1:=zjB h
 have h2:=zdS l.length w
 rw [p256,show 2 ^ (8*zT l.length w)=2 ^ (w*l.length)*2 ^ (8*zT l.length w - w*l.length) by rw [←Nat.pow_add];congr 1;omega]
 exact Nat.mul_lt_mul_of_pos_right h1 (Nat.pow_pos (by omega))
def zbs (B M at_ w:Nat):Nat:=B / 2 ^ (M - (at_+w)) % 2 ^ w
theorem zfp (B M at_ w:Nat):zbs B M at_ w < 2 ^ w:=Nat.mod_lt _ (Nat.pow_pos (by omega))
theorem zeB (B M at_:Nat):zbs B M at_ 0=0:=by simp [zbs,Nat.mod_one]
theorem zhi {B M at_ a n:Nat} (h:at_+a+n≤M):zbs B M at_ a*2 ^ n+zbs B M (at_+a) n=zbs B M at_ (a+n):=by
 unfold zbs
 have h1:B / 2 ^ (M - (at_+a))=B / 2 ^ (M - (at_+a+n)) / 2 ^ n:=by rw [Nat.div_div_eq_div_mul,←Nat.pow_add];congr 2;omega
 rw [h1,show at_+(a+n)=at_+a+n by omega]
 generalize B / 2 ^ (M - (at_+a+n))=Y
 rw [show 2 ^ (a+n)=2 ^ n*2 ^ a by rw [←Nat.pow_add,Nat.add_comm],Nat.mod_mul,Nat.mul_comm]
 omega
theorem zoL {l:List UInt8} {m at_ n:Nat} (hm:l.length=m) (hn:n≤8 - at_ % 8) (hn0:0 < n) (hat:at_+n≤8*m) :
  ∃ h:at_ / 8 < l.length,l[at_ / 8].toNat / 2 ^ (8 - at_ % 8 - n) % 2 ^ n=zbs (bval l) (8*m) at_ n:=by
 have hk:at_ / 8 < l.length:=by omega
 refine ⟨hk,?_⟩
 rw [zjz l (at_ / 8) hk,hm]
 unfold zbs
 obtain ⟨r,hr⟩:∃ r,r=8 - at_ % 8:=⟨_,rfl⟩
 rw [←hr] at hn ⊢
 have h2:8*m - (at_+n)=8*(m - 1 - at_ / 8)+(r - n):=by omega
 rw [h2,Nat.pow_add,←p256,←Nat.div_div_eq_div_mul]
 generalize bval l / 256 ^ (m - 1 - at_ / 8)=Y
 have h256:256=2 ^ (r - n)*(2 ^ n*2 ^ (8 - r)):=by rw [←Nat.pow_add,←Nat.pow_add,show r - n+(n+(8 - r))=8 by omega]
 conv=>lhs;rw [h256,Nat.mod_mul_right_div_self,Nat.mod_mul_right_mod]
def zcj (B M w n:Nat):List Nat:=(List.range n).map fun i=>zbs B M (w*i) w
theorem zbF (B M w n:Nat):(zcj B M w n).length=n:=by simp [zcj]
theorem zeC (B M w n:Nat):zcj B M w (n+1)=zcj B M w n ++ [zbs B M (w*n) w]:=by simp [zcj,List.range_succ]
theorem zjC {B M w n:Nat}:∀ x∈zcj B M w n,x < 2 ^ w:=by
 intro x hx
 obtain ⟨i,_,rfl⟩:=List.mem_map.1 hx
 exact zfp _ _ _ _
theorem ziB {B M w:Nat} (hB:B < 2 ^ M):∀ n,w*n≤M→pval w (zcj B M w n)=B / 2 ^ (M - w*n)
 | 0,_=>by simp [zcj,pval];rw [Nat.div_eq_of_lt hB]
 | n+1,h=>by
  rw [Nat.mul_add,Nat.mul_one] at h
  rw [zeC,zej,ziB hB n (by omega)]
  unfold zbs
  rw [Nat.mul_add,Nat.mul_one]
  have h1:B / 2 ^ (M - w*n)=B / 2 ^ (M - (w*n+w)) / 2 ^ w:=by rw [Nat.div_div_eq_div_mul,←Nat.pow_add];congr 2;omega
  rw [h1,Nat.mul_comm]
  exact Nat.div_add_mod _ _
theorem zmj {l:List UInt8} {w n:Nat} (hl:l.length=zT n w):zbx (zcj (bval l) (8*zT n w) w n) w=l↔bval l % 2 ^ (8*zT n w - w*n)=0:=by
 have hB:bval l < 2 ^ (8*zT n w):=by rw [←p256,←hl];exact zdq l
 have hv:=zfZ (l:=zcj (bval l) (8*zT n w) w n) (w:=w) zjC
 rw [zbF,ziB hB n (zdS n w)] at hv
 have hd:=Nat.div_add_mod (bval l) (2 ^ (8*zT n w - w*n))
 rw [Nat.mul_comm] at hd
 constructor
 ·intro h
  rw [h] at hv
  omega
 ·intro h
  refine zjy _ _ (by rw [zcK,zbF,hl]) ?_
  omega
theorem zmk {l:List Nat} {w:Nat} (h:∀ x∈l,x < 2 ^ w):zcj (bval (zbx l w)) (8*zT l.length w) w l.length=l:=by
 refine List.ext_getElem (zbF _ _ _ _) fun i h1 h2=>?_
 simp only [zcj,List.getElem_map,List.getElem_range]
 rw [zfZ h]
 unfold zbs
 have hg:=znM i h2 h
 have hs:=zdS l.length w
 have hi:w*i+w≤w*l.length:=by rw [←Nat.mul_succ];exact Nat.mul_le_mul_left _ h2
 have he:8*zT l.length w - (w*i+w)=(8*zT l.length w - w*l.length)+w*(l.length - 1 - i):=by
  have:w*(l.length - 1 - i)+(w*i+w)=w*l.length:=by rw [←Nat.mul_succ,←Nat.mul_add];congr 1;omega
  omega
 rw [he,Nat.pow_add,←Nat.div_div_eq_div_mul,Nat.mul_div_cancel _ (Nat.pow_pos (by omega)),hg]
theorem zml {l:List Nat} {w:Nat} (h:∀ x∈l,x < 2 ^ w):bval (zbx l w) % 2 ^ (8*zT l.length w - w*l.length)=0:=by
 rw [zfZ h];exact Nat.mul_mod_left _ _
theorem zhj {B M n:Nat} (h:n≤M):zbs B M n (M - n)=B % 2 ^ (M - n):=by
 unfold zbs
 rw [show M - (n+(M - n))=0 by omega]
 simp
end Go.Proofs.YtlibofmpnlfelaaGreatDoor
namespace Go.Proofs.YtlibofmpnlfelaaGreatDoor
open Go.RowKit
theorem zqK (e:Nat) (h:e < 8):(128:Int) / 2 ^ e=((2 ^ (7 - e):Nat):Int):=by
 have:∀ e:Fin 8,(128:Int) / 2 ^ e.val=((2 ^ (7 - e.val):Nat):Int):=by decide
 exact this ⟨e,h⟩
theorem zjD {w:World} {g:Nat} {t:TypeId} {out:List UInt8} (h:Row w g t (out.map bv)) (q C:Nat) (hC:C < 256):Row (w.setCell ⟨g,q,none⟩ (.int .u8 (C:Int))) g t ((out.set q (UInt8.ofNat C)).map bv):=by
 have h1:=h.set_ q (.int .u8 (C:Int))
 have h2:Value.int .u8 (C:Int)=bv (UInt8.ofNat C):=by
  unfold bv
  congr 1
  simp only [UInt8.toNat_ofNat',Nat.reducePow]
  omega
 rw [List.map_set,←h2]
 exact h1
theorem zqL (V m T:Nat) (h:T+1≤8*m):V*2 ^ (8*m - T)=(V*2 ^ 1+0)*2 ^ (8*m - (T+1)):=by
 rw [Nat.add_zero,Nat.mul_assoc,←Nat.pow_add]
 congr 2
 omega
theorem zgP {l:List UInt8} {m at_ n q r d:Nat} (hq:q=at_ / 8) (hr:r=8 - at_ % 8) (hd:d=r - n) (hm:l.length=m) (hn:n≤r) (hn0:0 < n) (hat:at_+n≤8*m) :
  ∃ h:q < l.length,l[q].toNat / 2 ^ d % 2 ^ n=zbs (bval l) (8*m) at_ n:=by
 subst hq hr hd
 exact zoL hm hn hn0 hat
theorem zmm (n Y P:Nat) (h0:Y % 2 ^ n=0) (h1:P < 2 ^ n) (h2:Y+P < 2 ^ 64):bits .or .u64 (Y:Int) (P:Int)=((Y+P:Nat):Int):=by
 rw [u64_or _ _ (by omega) (by omega) (by omega) (by omega),Int.toNat_natCast,Int.toNat_natCast,nat_join n Y P h0 h1]
theorem zmn (x j n L:Nat) (hx:x < 2 ^ 64) (hn:n≤8) (hL:L=2 ^ n - 1):bits .and .u64 ((x:Int) / 2 ^ j) (L:Int)=((x / 2 ^ j % 2 ^ n:Nat):Int):=by
 have h1:(x:Int) / 2 ^ j=((x / 2 ^ j:Nat):Int):=by simp
 have h2:2 ^ n≤2 ^ 8:=Nat.pow_le_pow_right (by omega) hn
 have h3:=Nat.div_le_self x (2 ^ j)
 rw [h1]
 generalize x / 2 ^ j=y at *
 rw [u64_and _ _ (by omega) (by omega) (by omega) (by omega),Int.toNat_natCast,Int.toNat_natCast,hL,Nat.and_two_pow_sub_one_eq_mod]
theorem Tryz.infoU:(Tryz.prog.info? 119).map (fun i=>(i.zero,i.size,i.bytes))=some (some (uv 0),1,8):=by kernel_rfl
theorem elemU:Elem Tryz.prog 93 119 8 (uv 0):=by
 obtain ⟨i0,hi,hz0,hz1,hz2⟩:=info_parts Tryz.infoU
 exact ⟨Tryz.underlying93,rfl,i0,hi,hz0,hz1,hz2⟩
theorem zdT (n:Int) (w:World) (h0:0≤n) (h1:n≤64):Calls Tryz.prog 171 #[.int .i64 n] w fun e w'=>e=.returned (.bool true)∧w=w':=by
 go_enter Tryz.func171,Tryz.ntmps171
 go_wp2
 go_ret
 exact ⟨rfl,rfl⟩
theorem ziC (n:Int) (w:World) (h:n < 0∨64 < n):Calls Tryz.prog 171 #[.int .i64 n] w fun e w'=>e=.returned (.bool false)∧w=w':=by
 rcases h with h | h
 ·have h2:decide (0≤n)=false:=by simp;omega
  go_enter Tryz.func171,Tryz.ntmps171
  go_wp2
  go_ret
  exact ⟨rfl,rfl⟩
 ·have h2:decide (n≤64)=false:=by simp;omega
  have h3:decide (0≤n)=true:=by simp;omega
  go_enter Tryz.func171,Tryz.ntmps171
  go_wp2
  go_ret
  exact ⟨rfl,rfl⟩
theorem zcX (n:Int) (w:World) (h0:0≤n) (h1:n≤4096):Calls Tryz.prog 172 #[.int .i64 n] w fun e w'=>e=.returned (.bool true)∧w=w':=by
 go_enter Tryz.func172,Tryz.ntmps172
 go_wp2
 go_ret
 exact ⟨rfl,rfl⟩
theorem zoM (n:Int) (w:World) (h:n < 0∨4096 < n):Calls Tryz.prog 172 #[.int .i64 n] w fun e w'=>e=.returned (.bool false)∧w=w':=by
 rcases h with h | h
 ·have h2:decide (0≤n)=false:=by simp;omega
  go_enter Tryz.func172,Tryz.ntmps172
  go_wp2
  go_ret
  exact ⟨rfl,rfl⟩
 ·have h2:decide (n≤4096)=false:=by simp;omega
  have h3:decide (0≤n)=true:=by simp;omega
  go_enter Tryz.func172,Tryz.ntmps172
  go_wp2
  go_ret
  exact ⟨rfl,rfl⟩
theorem zoN (n:Nat) (w:World) (h:n≤8):Calls Tryz.prog 202 #[.int .i64 (n:Int)] w fun e w'=>e=.returned (.int .u64 ((2 ^ n - 1:Nat):Int))∧w=w':=by
 have h1:2 ^ n≤2 ^ 8:=Nat.pow_le_pow_right (by omega) h
 have h2:1≤2 ^ n:=Nat.one_le_two_pow
 have h3:((2 ^ n:Nat):Int)=2 ^ n:=by simp
 obtain ⟨p,hp⟩:∃ p,p=2 ^ n:=⟨_,rfl⟩
 have HP:=Lib.hid hp
 have H1:=Lib.hid h1
 have H2:=Lib.hid h2
 have H3:=Lib.hid h3
 clear hp h1 h2 h3
 go_enter Tryz.func202,Tryz.ntmps202
 go_wp2
 go_ret
 refine ⟨zu ?_,rfl⟩
 have h1:=H1.out
 have h2:=H2.out
 rw [←H3.out,←HP.out,IntKind.wrap_u64,IntKind.wrap_u64]
 rw [←HP.out] at h1 h2
 omega
theorem ze5 {m w:Nat} (hm:m≤4096) (hw:w≤64):m*w≤262144:=Nat.mul_le_mul hm hw
theorem zqM (m w:Nat) (W:World) (hm:m≤4096) (hw:w≤64):Calls Tryz.prog 173 #[.int .i64 (m:Int),.int .i64 (w:Int)] W fun e w'=>e=.returned (.int .i64 (zT m w:Int))∧W=w':=by
 obtain ⟨p,hp⟩:∃ p:Int,p=(m:Int)*(w:Int):=⟨_,rfl⟩
 have hp0:0≤(m:Int)*(w:Int):=by rw [←Int.natCast_mul];omega
 have hp1:(m:Int)*(w:Int)≤262144:=by rw [←Int.natCast_mul];have:=ze5 hm hw;omega
 have HB:Hid ((zT m w:Int)=((m:Int)*(w:Int)+7) / 8):=Lib.hid (by unfold zT;simp)
 clear hp p
 go_enter Tryz.func173,Tryz.ntmps173
 go_wp2_with (first | (go_at_call 172;refine (zcX _ _ (by omega) (by omega)).mono ?_;rintro e w' ⟨rfl,rfl⟩) | (go_at_call 171;refine (zdT _ _ (by omega) (by omega)).mono ?_;rintro e w' ⟨rfl,rfl⟩))
 go_ret
 refine ⟨zu ?_,rfl⟩
 rw [HB.out]
 first | rfl | (congr 1;omega)
theorem znN (m w:Nat) (W:World) (hm:m≤4096) (hw:w≤64):Calls Tryz.prog 125 #[.int .i64 (m:Int),.int .i64 (w:Int)] W fun e w'=>e=.returned (.int .i64 (zT m w:Int))∧W=w':=by
 have hp0:0≤(m:Int)*(w:Int):=by rw [←Int.natCast_mul];omega
 have hp1:(m:Int)*(w:Int)≤262144:=by rw [←Int.natCast_mul];have:=ze5 hm hw;omega
 have HB:Hid ((zT m w:Int)=((m:Int)*(w:Int)+7) / 8):=Lib.hid (by unfold zT;simp)
 have d1:decide ((4096:Int) < (m:Int))=false:=by simp;omega
 have d2:decide ((64:Int) < (w:Int))=false:=by simp;omega
 go_enter Tryz.func125,Tryz.ntmps125
 go_wp2
 go_ret
 exact ⟨zu HB.out.symm,rfl⟩
def IsU (l:List Nat) (v:Value) (w:World):Prop:=∃ A c,v=.slice A l.length c∧(A=none→l.length=0)∧l.length≤c∧c≤maxLen∧Lies w A (l.map uv)
theorem IsU.below {l:List Nat} {v:Value} {w w':World} (h:IsU l v w) (hb:Below w.heap.size w w'):IsU l v w':=by
 obtain ⟨A,c,h1,h2,h3,h4,h5⟩:=h
 exact ⟨A,c,h1,h2,h3,h4,h5.below hb⟩
theorem zvt (l:List Nat):∀ u∈l.map uv,u.oneCell'=true:=by
 intro u hu
 obtain ⟨b,_,rfl⟩:=List.mem_map.1 hu
 rfl
structure Putter (g b a m t:Nat) (out:List UInt8) (w:World):Prop where
 gb:g < b
 ba:b < a
 len:out.length=m
 row:Row w g 5 (out.map bv)
 box:Row w b 25 [.slice (some ⟨g,0,none⟩) m m]
 pos:Row w a 3 [.int .i64 (t:Int)]
theorem Putter.drewN {g b a m t:Nat} {out:List UInt8} {w:World} (h:Putter g b a m t out w) (n:Nat):Putter g b a m t out (w.drewN n):=⟨h.gb,h.ba,h.len,h.row,h.box,h.pos⟩
def zuE (g b a m t W V x:Nat) (w:World) (v:Value) (wr:World):Prop:=
 ∃ (k:Nat) (out:List UInt8),v=.int .i64 (k:Int)∧k≤W∧Putter g b a m (t+W - k) out wr∧bval out=(V*2 ^ (W - k)+x / 2 ^ k)*2 ^ (8*m - (t+W - k))∧Below g w wr
def zuF (g b a m t V:Nat) (w:World) (e:Ending) (w':World):Prop:=
 ∃ out,e=.returned (.tuple #[])∧Putter g b a m t out w'∧bval out=V*2 ^ (8*m - t)∧Below g w w'
theorem Putter.step {g b a m t:Nat} {out:List UInt8} {w:World} (h:Putter g b a m t out w) (q t' C:Nat) (hC:C < 256) :
  Putter g b a m t' (out.set q (UInt8.ofNat C)) ((w.setCell ⟨g,q,none⟩ (.int .u8 (C:Int))).setCell ⟨a,0,none⟩ (.int .i64 (t':Int))):=by
 have hga:g≠a:=by have:=h.gb;have:=h.ba;omega
 have hba:b≠a:=by have:=h.ba;omega
 have hbg:b≠g:=by have:=h.gb;omega
 refine ⟨h.gb,h.ba,by rw [List.length_set];exact h.len,?_,?_,?_⟩
 ·refine Row.far ?_ hga _
  have h1:=h.row.set_ q (.int .u8 (C:Int))
  have h2:Value.int .u8 (C:Int)=bv (UInt8.ofNat C):=by
   unfold bv
   congr 1
   simp only [UInt8.toNat_ofNat',Nat.reducePow]
   omega
  rw [List.map_set,←h2]
  exact h1
 ·exact Row.far (Row.far h.box hbg _) hba _
 ·exact (Row.far h.pos (Ne.symm hga) _).set_ 0 (.int .i64 (t':Int))
theorem znO (n L:Nat) (w:World) (h:n≤8) (hL:L=2 ^ n - 1):Calls Tryz.prog 202 #[.int .i64 (n:Int)] w fun e w'=>e=.returned (.int .u64 (L:Int))∧w'=w:=by
 subst hL
 exact (zoN n w h).mono fun _ _ ⟨h1,h2⟩=>⟨h1,h2.symm⟩
theorem zta (g b a m t W V x:Nat) (out:List UInt8) (w:World) (hp:Putter g b a m t out w) (hv:bval out=V*2 ^ (8*m - t)) (hW:W≤64) (ht:t+W≤8*m) (hm:m≤100000) (hx:x < 2 ^ W) :
  Calls Tryz.prog 201 #[.int .u64 (x:Int),.int .i64 (W:Int),.pointer (some ⟨a,0,none⟩),.pointer (some ⟨b,0,none⟩)] w (zuF g b a m (t+W) (V*2 ^ W+x) w):=by
 have HX:=Lib.hid hx
 have HV:=Lib.hid hv
 clear hx hv
 go_enter Tryz.func201,Tryz.ntmps201
 go_wp2
 go_loopw [1] (zuE g b a m t W V x w) (fun v _=>(intOf v).toNat)
 case atStart =>
  refine ⟨W,out,rfl,Nat.le_refl _,by rw [Nat.add_sub_cancel];exact hp,?_,Below.refl _ _⟩
  rw [Nat.add_sub_cancel,Nat.sub_self,Nat.pow_zero,Nat.mul_one,Nat.div_eq_of_lt HX.out,Nat.add_zero]
  exact HV.out
 case round =>
  obtain ⟨k,o,rfl,hk,hP,hval,hb⟩:=hrel
  have HVal:=Lib.hid hval
  clear hval
  obtain ⟨T,hT⟩:∃ T,T=t+W - k:=⟨_,rfl⟩
  rw [←hT] at hP
  have HT:=Lib.hid hT
  clear hT
  have hc1:=hP.pos.cell 0
  have hc2:=hP.box.cell 0
  have hf1:=hP.pos.free 0
  by_cases hk0:0 < k
  ·have hT8:T+k≤8*m:=by have:=HT.out;omega
   obtain ⟨r,hr⟩:∃ r,r=8 - T % 8:=⟨_,rfl⟩
   obtain ⟨n,hn⟩:∃ n,n=min r k:=⟨_,rfl⟩
   obtain ⟨j,hj⟩:∃ j,j=k - n:=⟨_,rfl⟩
   obtain ⟨d,hd⟩:∃ d,d=r - n:=⟨_,rfl⟩
   obtain ⟨q,hq⟩:∃ q,q=T / 8:=⟨_,rfl⟩
   have hri:IntKind.i64.wrap (8 - (T:Int) % 8)=(r:Int):=by rw [IntKind.wrap_i64];omega
   have hmin:∀ (ts:Array TypeId) (t:TypeId) (W:World),(Builtin.min_ ts t #[.int .i64 (r:Int),.int .i64 (k:Int)]).run Tryz.prog W=.ok (.int .i64 (n:Int)) W:=fun ts t W=>by
    rw [run_min_int2]
    congr 2
    split <;> omega
   have hki:IntKind.i64.wrap ((k:Int) - (n:Int))=(j:Int):=by rw [IntKind.wrap_i64];omega
   have hdi:IntKind.i64.wrap ((r:Int) - (n:Int))=(d:Int):=by rw [IntKind.wrap_i64];omega
   have hwq:IntKind.i64.wrap (q:Int)=(q:Int):=by rw [IntKind.wrap_i64];omega
   have hqi:(T:Int) / 8=(q:Int):=by omega
   have hqm:(q:Int) < (m:Int):=by omega
   have hr8:r≤8:=by omega
   have hn8:n≤8:=by omega
   have hd8:d≤8:=by omega
   have hj64:j≤64:=by omega
   have hn0:0 < n:=by omega
   have hnk:n≤k:=by omega
   have HR:=Lib.hid hr
   have HN:=Lib.hid hn
   have HJ:=Lib.hid hj
   have HD:=Lib.hid hd
   have HQ:=Lib.hid hq
   clear hr hn hj hd hq
   obtain ⟨L,hL⟩:∃ L,L=2 ^ n - 1:=⟨_,rfl⟩
   have HL:=Lib.hid hL
   obtain ⟨P,hP0⟩:∃ P,P=x / 2 ^ j % 2 ^ n:=⟨_,rfl⟩
   have hand:=zmn x j n L (by have:=HX.out;have:2 ^ W≤2 ^ 64:=Nat.pow_le_pow_right (by omega) hW;omega) hn8 hL
   rw [←hP0] at hand
   have HP0:=Lib.hid hP0
   clear hL hP0
   go_wp2
   go_quiet ((go_at_call 202;exact Calls.quiet_of_same (znO _ L _ (by omega) HL.out)))
   go_wp2
   refine zeZ 13 (by kernel_rfl) (by kernel_rfl) ?_
   have hP2:=hP.drewN (nq+1)
   have hb2:=below_drewN hb (nq+1)
   rw [World.drew_drewN]
   clear hc1 hc2 hf1 hP hb hand
   generalize wr.drewN (nq+1)=w2 at *
   have hc1:=hP2.pos.cell 0
   have hc2:=hP2.box.cell 0
   have hf1:=hP2.pos.free 0
   have hqo:q < o.length:=by have:=hP2.len;omega
   obtain ⟨B,hB⟩:∃ B,B=o[q].toNat:=⟨_,rfl⟩
   have hcB:w2.cell? ⟨g,q,none⟩=some (.int .u8 (B:Int)):=by
    rw [hP2.row.cell,List.getElem?_map,List.getElem?_eq_getElem hqo,hB];rfl
   have hfB:=hP2.row.free q
   obtain ⟨hk2,hl1,hl2,hl3,hl4⟩:=zqJ (piece:=P) HQ.out HR.out HD.out hP2.len hn0 (by have:=HN.out;omega) (by omega) (by rw [HP0.out];exact Nat.mod_lt _ (Nat.pow_pos (by omega))) (by rw [HT.out];exact HVal.out)
   rw [←hB] at hl1 hl2 hl4
   obtain ⟨S,hS⟩:∃ S,S=P*2 ^ d:=⟨_,rfl⟩
   rw [←hS] at hl2 hl3 hl4
   have hsh:IntKind.u64.wrap ((P:Int)*2 ^ d)=(S:Int):=by
    rw [IntKind.wrap_u64,show (P:Int)*2 ^ d=(S:Int) by rw [hS];simp];omega
   have hs8:IntKind.u8.wrap (S:Int)=(S:Int):=by rw [IntKind.wrap_u8];omega
   have hs9:(S:Int) % 256=(S:Int):=by omega
   obtain ⟨C,hC⟩:∃ C,C=B+S:=⟨_,rfl⟩
   have hor:=zqC r B S hl1 hl3 hl2
   rw [←hC] at hor hl2 hl4
   have hga:g≠a:=by have:=hP2.gb;have:=hP2.ba;omega
   have hc3:(w2.setCell ⟨g,q,none⟩ (.int .u8 (C:Int))).cell? ⟨a,0,none⟩=some (.int .i64 (T:Int)):=(Row.far hP2.pos (Ne.symm hga) _).cell 0
   have hf3:(w2.setCell ⟨g,q,none⟩ (.int .u8 (C:Int))).frozen? ⟨a,0,none⟩=false:=(Row.far hP2.pos (Ne.symm hga) _).free 0
   have HL4:=Lib.hid hl4
   have HL2:=Lib.hid hl2
   clear hS hC hl1 hl2 hl3 hl4 hB
   simp only [List.take_succ_cons,List.take_zero,List.drop_succ_cons,List.drop_zero]
   repeat still_step
   refine wpStill_nil ?_
   go_wp2
   go_roundw
   case rel =>
    have hT2:T+n=t+W - j:=by have:=HT.out;have:=HJ.out;omega
    have hjk:j=k - n:=HJ.out
    refine ⟨j,o.set q (UInt8.ofNat C),rfl,by omega,?_,?_,(hb2.setCell (Nat.le_refl _) _).setCell (by have:=hP2.gb;have:=hP2.ba;show g≤a;omega) _⟩
    ·have h5:=hP2.step q (T+n) C HL2.out
     rw [Int.natCast_add] at h5
     rw [←hT2]
     exact h5
    ·rw [HL4.out,←hT2,HP0.out,hjk,zfY V x W k n hk hnk]
   case measure=>simp [intOf];have:=HJ.out;omega
  ·obtain rfl:k=0:=by omega
   go_wp2
   go_end0
   refine ⟨o,rfl,?_,?_,hb⟩
   ·have:=HT.out
    rw [show t+W=T by omega]
    exact hP
   ·have:=HVal.out
    rw [Nat.sub_zero,Nat.sub_zero,Nat.pow_zero,Nat.div_one] at this
    exact this
def zoO (g m:Nat) (out:List UInt8) (w:World) (e:Ending) (w':World):Prop:=
 e=.returned (.func (.func 201) #[] #[.pointer (some ⟨w.heap.size+1,0,none⟩),.pointer (some ⟨w.heap.size,0,none⟩)])∧Putter g w.heap.size (w.heap.size+1) m 0 out w'∧Below w.heap.size w w'
theorem zoP (g m:Nat) (out:List UInt8) (w:World) (hr:Row w g 5 (out.map bv)) (hl:out.length=m) :
  Calls Tryz.prog 174 #[.slice (some ⟨g,0,none⟩) m m] w (zoO g m out w):=by
 have HL:=Lib.hid hl
 clear hl
 go_enter Tryz.func174,Tryz.ntmps174
 go_wp2
 go_ret
 have hg:=hr.lt
 have h1:Row (w.alloc (.cells #[.slice (some ⟨g,0,none⟩) m m] 25)) w.heap.size 25 [.slice (some ⟨g,0,none⟩) m m]:=heap_alloc_new w _
 refine ⟨rfl,⟨hg,by omega,HL.out,(hr.alloc _).alloc _,h1.alloc _,?_⟩,((Below.refl _ _).alloc (Nat.le_refl _) _).alloc (by simp) _⟩
 have h2:=heap_alloc_new (w.alloc (.cells #[.slice (some ⟨g,0,none⟩) m m] 25)) (.cells #[.int .i64 0] 3)
 have h3:(w.alloc (.cells #[.slice (some ⟨g,0,none⟩) m m] 25)).heap.size=w.heap.size+1:=by simp
 rw [h3] at h2
 exact h2
def zkm (l:List Nat) (W:Nat):List UInt8 × Int:=if l.all (fun x=>decide (x < 2 ^ W)) then (zbx l W,0) else ([],1)
theorem zdU {l:List Nat} {W:Nat} (h:∀ x∈l,x < 2 ^ W):zkm l W=(zbx l W,0):=by
 unfold zkm;rw [if_pos (by simpa using h)]
theorem znP {l:List Nat} {W x:Nat} (hx:x∈l) (h:¬x < 2 ^ W):zkm l W=([],1):=by
 unfold zkm;rw [if_neg (by simp;exact ⟨x,hx,by omega⟩)]
def zuG (l:List Nat) (g b a m W:Nat) (w:World) (i:Value) (wr:World):Prop:=
 ∃ (k:Nat) (out:List UInt8),i=.int .i64 (k:Int)∧k≤l.length∧Putter g b a m (W*k) out wr∧bval out=pval W (l.take k)*2 ^ (8*m - W*k)∧(∀ x∈l.take k,x < 2 ^ W)∧Below w.heap.size w wr
theorem ztb (A:Option Addr) (n c:Nat) (l:List Nat) (W:Nat) (w:World) (hn:l.length=n) (hn4:n≤4096) (hW:W≤64) (hl:Lies w A (l.map uv)) (h64:∀ x∈l,x < 2 ^ 64) :
  Calls Tryz.prog 139 #[.slice A n c,.int .i64 (W:Int)] w (RetEO w (zkm l W)):=by
 have HN:=Lib.hid hn
 have H64:=Lib.hid h64
 clear hn h64
 obtain ⟨m,hm⟩:∃ m,m=zT n W:=⟨_,rfl⟩
 have hmW:W*n≤8*m:=by rw [hm];exact zdS n W
 have hm4:m≤32768:=by have:=ze5 hn4 hW;unfold zT at hm;omega
 have hsz:=fun w=>zqM n W w hn4 hW
 rw [←hm] at hsz
 have HS:=Lib.hid hsz
 have HM:=Lib.hid hm
 have HMW:=Lib.hid hmW
 clear hsz hm hmW
 go_enter Tryz.func139,Tryz.ntmps139
 go_wp2_with (first | (go_at_call 172;refine (zcX _ _ (by omega) (by omega)).mono ?_;rintro e w' ⟨rfl,rfl⟩) | (go_at_call 171;refine (zdT _ _ (by omega) (by omega)).mono ?_;rintro e w' ⟨rfl,rfl⟩) | (go_at_call 173;refine (HS.out _).mono ?_;rintro e w' ⟨rfl,rfl⟩) | (refine zn elemB rfl _ _ rfl _ _ _ _ m w w.heap.size rfl rfl ?_ ?_ (by omega) (by omega) (Below.refl _ _) (Nat.le_refl _) ?_))
 ·rfl
 ·rfl
 intro w1 hr1 hb1
 have hr2:Row w1 w.heap.size 5 ((List.replicate m (0:UInt8)).map bv):=by simpa using hr1
 go_wp2_with fail
 refine (zoP w.heap.size m (List.replicate m 0) w1 hr2 (by simp)).mono ?_
 rintro e w2 ⟨rfl,hP,hb2⟩
 obtain ⟨b,hbz⟩:∃ b,b=w1.heap.size:=⟨_,rfl⟩
 rw [←hbz] at hP ⊢
 have hbb:Below w.heap.size w w2:=hb1.trans (hb2.mono hb1.size)
 clear hr1 hr2 hb1 hb2 hbz
 go_wp2
 go_loopw [26] (zuG l w.heap.size b (b+1) m W w) (fun i _=>n - (intOf i).toNat)
 case atStart=>exact ⟨0,List.replicate m 0,rfl,by omega,by rw [Nat.mul_zero];exact hP,by rw [ziA];simp [pval],by simp,hbb⟩
 case round =>
  obtain ⟨k,out,rfl,hk,hP,hval,hall,hb⟩:=hrel
  have HV:=Lib.hid hval
  have HA:=Lib.hid hall
  clear hval hall
  have hk':k≤n:=by have:=HN.out;omega
  by_cases hlt:k < n
  ·have hkl:k < l.length:=by have:=HN.out;omega
   obtain ⟨ad,rfl,_,hcell⟩:=(hl.below hb).cell (k:=k) (by simpa using hkl)
   obtain ⟨x,hx⟩:∃ x:Nat,x=l[k]:=⟨_,rfl⟩
   have hcx:wr.cell? (ad.add k)=some (.int .u64 (x:Int)):=by rw [hcell,List.getElem_map,hx];rfl
   have hxm:x∈l:=by rw [hx];exact List.getElem_mem hkl
   have HX:=Lib.hid hx
   clear hx hcell
   by_cases hx2:x < 2 ^ W
   ·have hz:(x:Int) / 2 ^ W=0:=by
     have:((x / 2 ^ W:Nat):Int)=0:=by rw [Nat.div_eq_of_lt hx2];rfl
     simpa using this
    have hstep:W*k+W≤8*m:=by
     have h1:W*(k+1)≤W*n:=Nat.mul_le_mul_left _ hlt
     have:=HMW.out
     rw [Nat.mul_add,Nat.mul_one] at h1
     omega
    have HX2:=Lib.hid hx2
    clear hx2
    go_wp2_with (go_at_call 201;refine (zta _ _ _ m _ W _ x out _ hP HV.out hW hstep (by omega) HX2.out).mono ?_;rintro e w3 ⟨out',rfl,hP',hv',hb'⟩)
    go_roundw
    case rel =>
     refine ⟨k+1,out',by go_num,by omega,by rw [Nat.mul_add,Nat.mul_one];exact hP',?_,?_,hb.trans hb'⟩
     ·rw [hv',List.take_succ_eq_append_getElem hkl,zej,←HX.out,Nat.mul_add,Nat.mul_one]
     ·intro y hy
      rw [List.take_succ_eq_append_getElem hkl,List.mem_append] at hy
      rcases hy with hy | hy
      ·exact HA.out y hy
      ·rw [List.mem_singleton.1 hy,←HX.out];exact HX2.out
    case measure=>simp [intOf];omega
   ·obtain ⟨y,hy⟩:∃ y,y=x / 2 ^ W:=⟨_,rfl⟩
    have hz:(x:Int) / 2 ^ W=(y:Int):=by rw [hy];simp
    have hy0:y≠0:=by
     rw [hy]
     intro h
     rcases Nat.div_eq_zero_iff.1 h with h | h
     ·have:=Nat.two_pow_pos W;omega
     ·exact hx2 h
    have d1:((y:Int) != 0)=true:=by simpa using hy0
    have HNo:=Lib.hid (znP hxm hx2)
    clear hx2 hy hy0
    go_wp2
    go_ret2
    rw [HNo.out]
    exact RetEO.nil _ hb
  ·obtain rfl:k=n:=by omega
   have hall:∀ x∈l,x < 2 ^ W:=by
    have:=HA.out
    rw [List.take_of_length_le (by have:=HN.out;omega)] at this
    exact this
   have HAll:=Lib.hid hall
   clear hall
   go_wp2
   go_ret2
   rw [zdU HAll.out]
   have hv:=HV.out
   rw [List.take_of_length_le (by have:=HN.out;omega)] at hv
   have hob:out=zbx l W:=by
    unfold zbx
    rw [HN.out,←HM.out]
    exact zoK hP.len hv
   exact ⟨_,rfl,by rw [←hob,hP.len];exact zey hP.row (by rw [List.length_map];exact hP.len) (Nat.le_refl _) (by omega),hb⟩
theorem ztc (A:Option Addr) (n c:Nat) (W:Int) (w:World) (hW:W < 0∨64 < W) :
  Calls Tryz.prog 139 #[.slice A n c,.int .i64 W] w (RetEO w ([],1)):=by
 go_enter Tryz.func139,Tryz.ntmps139
 go_wp2_with (go_at_call 171;refine (ziC _ _ (by omega)).mono ?_;rintro e w' ⟨rfl,rfl⟩)
 go_ret2
 exact RetEO.nil _ (Below.refl _ _)
def zcR (l:List Nat) (W:Int):List UInt8 × Int:=if W < 0∨64 < W then ([],1) else zkm l W.toNat
theorem zcd (l:List Nat) (W:Nat) (h:W≤64):zcR l W=zkm l W:=by unfold zcR;rw [if_neg (by omega),Int.toNat_natCast]
theorem znQ {l:List Nat} {v:Value} {w:World} (W:Int) (hl:IsU l v w) (h4:l.length≤4096) (h64:∀ x∈l,x < 2 ^ 64) :
  Calls Tryz.prog 139 #[v,.int .i64 W] w (RetEO w (zcR l W)):=by
 obtain ⟨A,c,rfl,_,_,_,h3⟩:=hl
 by_cases h:W < 0∨64 < W
 ·unfold zcR
  rw [if_pos h]
  exact ztc _ _ _ _ _ h
 ·obtain ⟨K,rfl⟩:=Int.eq_ofNat_of_zero_le (show 0≤W by omega)
  rw [zcd _ _ (by omega)]
  exact ztb A _ c l K w rfl h4 (by omega) h3 h64
theorem zmo {l:List Nat} {v:Value} {w:World} (W:Int) (hl:IsU l v w) (h4:l.length≤4096) (h64:∀ x∈l,x < 2 ^ 64) :
  Calls Tryz.prog 139 #[v,.int .i64 W] w (RetE w (zcR l W)):=(znQ W hl h4 h64).mono fun _ _ h=>h.e
structure Taker (z b a m c t:Nat) (A:Option Addr) (l:List UInt8) (w:World):Prop where
 zb:z≤b
 ba:b < a
 len:l.length=m
 old:∃ w0,Lies w0 A (l.map bv)∧w0.heap.size≤z∧Below w0.heap.size w0 w
 box:Row w b 25 [.slice A m c]
 pos:Row w a 3 [.int .i64 (t:Int)]
theorem Taker.drewN {z b a m c t:Nat} {A:Option Addr} {l:List UInt8} {w:World} (h:Taker z b a m c t A l w) (n:Nat):Taker z b a m c t A l (w.drewN n):=
 ⟨h.zb,h.ba,h.len,h.old.elim fun w0 ⟨h1,h2,h3⟩=>⟨w0,h1,h2,below_drewN h3 n⟩,h.box,h.pos⟩
theorem Taker.lies {z b a m c t:Nat} {A:Option Addr} {l:List UInt8} {w:World} (h:Taker z b a m c t A l w):Lies w A (l.map bv):=
 h.old.elim fun _ ⟨h1,_,h3⟩=>h1.below h3
theorem Taker.step {z b a m c t:Nat} {A:Option Addr} {l:List UInt8} {w:World} (h:Taker z b a m c t A l w) (t':Nat):Taker z b a m c t' A l (w.setCell ⟨a,0,none⟩ (.int .i64 (t':Int))):=by
 refine ⟨h.zb,h.ba,h.len,?_,?_,h.pos.set_ 0 _⟩
 ·obtain ⟨w0,h1,h2,h3⟩:=h.old
  have:=h.ba
  have:=h.zb
  exact ⟨w0,h1,h2,h3.setCell (show w0.heap.size≤a by omega) _⟩
 ·exact Row.far h.box (show b≠a by have:=h.ba;omega) _
theorem Taker.far {z b a m c t:Nat} {A:Option Addr} {l:List UInt8} {w:World} (h:Taker z b a m c t A l w) {g:Nat} (hg:z≤g) (hgb:g < b) (k:Nat) (u:Value):Taker z b a m c t A l (w.setCell ⟨g,k,none⟩ u):=by
 have:=h.ba
 refine ⟨h.zb,h.ba,h.len,?_,Row.far h.box (show b≠g by omega) _,Row.far h.pos (show a≠g by omega) _⟩
 obtain ⟨w0,h1,h2,h3⟩:=h.old
 exact ⟨w0,h1,h2,h3.setCell (show w0.heap.size≤g by omega) _⟩
def ztd (z b a m c t W:Nat) (A:Option Addr) (l:List UInt8) (w:World) (v x:Value) (wr:World):Prop:=
 ∃ k:Nat,v=.int .i64 (k:Int)∧k≤W∧x=.int .u64 ((zbs (bval l) (8*m) t (W - k):Nat):Int)∧Taker z b a m c (t+W - k) A l wr∧Below a w wr
def zte (z b a m c t W:Nat) (A:Option Addr) (l:List UInt8) (w:World) (e:Ending) (w':World):Prop:=
 e=.returned (.int .u64 ((zbs (bval l) (8*m) t W:Nat):Int))∧Taker z b a m c (t+W) A l w'∧Below a w w'
theorem zkn (z b a m c t W:Nat) (A:Option Addr) (l:List UInt8) (w:World) (hp:Taker z b a m c t A l w) (hW:W≤64) (ht:t+W≤8*m) (hm:m≤100000) :
  Calls Tryz.prog 203 #[.int .i64 (W:Int),.pointer (some ⟨a,0,none⟩),.pointer (some ⟨b,0,none⟩)] w (zte z b a m c t W A l w):=by
 go_enter Tryz.func203,Tryz.ntmps203
 go_wp2
 go_loopw [0,5] (ztd z b a m c t W A l w) (fun v _ _=>(intOf v).toNat)
 case atStart=>exact ⟨W,rfl,Nat.le_refl _,by rw [Nat.sub_self,zeB];rfl,by rw [Nat.add_sub_cancel];exact hp,Below.refl _ _⟩
 case round =>
  obtain ⟨k,rfl,hk,rfl,hP,hb⟩:=hrel
  obtain ⟨T,hT⟩:∃ T,T=t+W - k:=⟨_,rfl⟩
  rw [←hT] at hP
  obtain ⟨X,hX⟩:∃ X,X=zbs (bval l) (8*m) t (W - k):=⟨_,rfl⟩
  rw [←hX]
  have HT:=Lib.hid hT
  have HX:=Lib.hid hX
  clear hT hX
  have hc1:=hP.pos.cell 0
  have hc2:=hP.box.cell 0
  have hf1:=hP.pos.free 0
  by_cases hk0:0 < k
  ·have hT8:T+k≤8*m:=by have:=HT.out;omega
   obtain ⟨r,hr⟩:∃ r,r=8 - T % 8:=⟨_,rfl⟩
   obtain ⟨n,hn⟩:∃ n,n=min r k:=⟨_,rfl⟩
   obtain ⟨j,hj⟩:∃ j,j=k - n:=⟨_,rfl⟩
   obtain ⟨d,hd⟩:∃ d,d=r - n:=⟨_,rfl⟩
   obtain ⟨q,hq⟩:∃ q,q=T / 8:=⟨_,rfl⟩
   have hri:IntKind.i64.wrap (8 - (T:Int) % 8)=(r:Int):=by rw [IntKind.wrap_i64];omega
   have hmin:∀ (ts:Array TypeId) (t:TypeId) (W:World),(Builtin.min_ ts t #[.int .i64 (r:Int),.int .i64 (k:Int)]).run Tryz.prog W=.ok (.int .i64 (n:Int)) W:=fun ts t W=>by
    rw [run_min_int2]
    congr 2
    split <;> omega
   have hki:IntKind.i64.wrap ((k:Int) - (n:Int))=(j:Int):=by rw [IntKind.wrap_i64];omega
   have hdi:IntKind.i64.wrap ((r:Int) - (n:Int))=(d:Int):=by rw [IntKind.wrap_i64];omega
   have hwq:IntKind.i64.wrap (q:Int)=(q:Int):=by rw [IntKind.wrap_i64];omega
   have hqi:(T:Int) / 8=(q:Int):=by omega
   have hqm:(q:Int) < (m:Int):=by omega
   have hr8:r≤8:=by omega
   have hn8:n≤8:=by omega
   have hd8:d≤8:=by omega
   have hn0:0 < n:=by omega
   have hnk:n≤k:=by omega
   have hnr:n≤r:=by omega
   obtain ⟨hql,htb⟩:=zgP hq hr hd hP.len hnr hn0 (show T+n≤8*m by omega)
   have HR:=Lib.hid hr
   have HJ:=Lib.hid hj
   have HD:=Lib.hid hd
   have HQ:=Lib.hid hq
   clear hr hn hj hd hq
   obtain ⟨L,hL⟩:∃ L,L=2 ^ n - 1:=⟨_,rfl⟩
   have HL:=Lib.hid hL
   obtain ⟨ad,rfl,_,hcell⟩:=hP.lies.cell (k:=q) (by simpa using hql)
   obtain ⟨B,hB⟩:∃ B,B=l[q].toNat:=⟨_,rfl⟩
   have hB8:(B:Int) < 256:=by have:=l[q].toNat_lt;omega
   have hcB:wr.cell? (ad.add q)=some (.int .u8 (B:Int)):=by rw [hcell,List.getElem_map,hB];rfl
   obtain ⟨P,hP0⟩:∃ P,P=B / 2 ^ d % 2 ^ n:=⟨_,rfl⟩
   have hand:=zmn B d n L (by omega) hn8 hL
   rw [←hP0] at hand
   rw [←hB,←hP0] at htb
   have hPn:P < 2 ^ n:=by rw [hP0];exact Nat.mod_lt _ (Nat.pow_pos (by omega))
   obtain ⟨Y,hY⟩:∃ Y,Y=X*2 ^ n:=⟨_,rfl⟩
   have hsum:Y+P=zbs (bval l) (8*m) t (W - j):=by
    have h1:=zhi (B:=bval l) (M:=8*m) (at_:=t) (a:=W - k) (n:=n) (by have:=HT.out;omega)
    rw [hY,HX.out,htb,HT.out,show t+W - k=t+(W - k) by omega,h1]
    congr 1
    have:=HJ.out
    omega
   have hlt64:Y+P < 2 ^ 64:=by
    rw [hsum]
    have h1:=zfp (bval l) (8*m) t (W - j)
    have h2:2 ^ (W - j)≤2 ^ 64:=Nat.pow_le_pow_right (by omega) (by omega)
    omega
   have hsh:IntKind.u64.wrap ((X:Int)*2 ^ n)=(Y:Int):=by
    rw [IntKind.wrap_u64,show (X:Int)*2 ^ n=(Y:Int) by rw [hY];simp];omega
   have hor:=zmm n Y P (by rw [hY];exact Nat.mul_mod_left _ _) hPn hlt64
   rw [hsum] at hor
   obtain ⟨Z,hZ⟩:∃ Z,Z=zbs (bval l) (8*m) t (W - j):=⟨_,rfl⟩
   rw [←hZ] at hor
   have HZ:=Lib.hid hZ
   have HB8:=Lib.hid hB8
   clear hL hP0 hB hY hZ hsum hlt64 htb hcell hPn
   go_wp2
   go_quiet ((go_at_call 202;exact Calls.quiet_of_same (znO _ L _ (by omega) HL.out)))
   have hP2:=hP.drewN nq
   have hb2:=below_drewN hb nq
   clear hc1 hc2 hf1 hP hb hand hcB
   generalize wr.drewN nq=w2 at *
   have hc1:=hP2.pos.cell 0
   have hf1:=hP2.pos.free 0
   go_wp2
   go_roundw
   case rel =>
    have hT2:T+n=t+W - j:=by have:=HT.out;have:=HJ.out;omega
    refine ⟨j,rfl,by have:=HJ.out;omega,by rw [HZ.out],?_,hb2.setCell (Nat.le_refl _) _⟩
    have h5:=hP2.step (T+n)
    rw [Int.natCast_add] at h5
    rw [←hT2]
    exact h5
   case measure=>simp [intOf];have:=HJ.out;omega
  ·obtain rfl:k=0:=by omega
   go_wp2
   go_ret
   refine ⟨by rw [←Nat.sub_zero W,←HX.out];rfl,?_,hb⟩
   have:=HT.out
   rw [show t+W=T by omega]
   exact hP
def zqN (z m c:Nat) (A:Option Addr) (l:List UInt8) (w:World) (e:Ending) (w':World):Prop:=
 e=.returned (.func (.func 203) #[] #[.pointer (some ⟨w.heap.size+1,0,none⟩),.pointer (some ⟨w.heap.size,0,none⟩)])∧Taker z w.heap.size (w.heap.size+1) m c 0 A l w'∧Below w.heap.size w w'
theorem zqO (m c:Nat) (A:Option Addr) (l:List UInt8) (w w0:World) (hr:Lies w0 A (l.map bv)) (hb0:Below w0.heap.size w0 w) (hl:l.length=m) :
  Calls Tryz.prog 175 #[.slice A m c] w (zqN w0.heap.size m c A l w):=by
 have HL:=Lib.hid hl
 clear hl
 go_enter Tryz.func175,Tryz.ntmps175
 go_wp2
 go_ret
 have h1:Row (w.alloc (.cells #[.slice A m c] 25)) w.heap.size 25 [.slice A m c]:=heap_alloc_new w _
 have hb:Below w.heap.size w ((w.alloc (.cells #[.slice A m c] 25)).alloc (.cells #[.int .i64 0] 3)):=((Below.refl _ _).alloc (Nat.le_refl _) _).alloc (by simp) _
 refine ⟨rfl,⟨hb0.size,by omega,HL.out,⟨w0,hr,Nat.le_refl _,hb0.trans (hb.mono hb0.size)⟩,h1.alloc _,?_⟩,hb⟩
 have h2:=heap_alloc_new (w.alloc (.cells #[.slice A m c] 25)) (.cells #[.int .i64 0] 3)
 have h3:(w.alloc (.cells #[.slice A m c] 25)).heap.size=w.heap.size+1:=by simp
 rw [h3] at h2
 exact h2
def zbt (l:List UInt8) (M W:Nat):List Nat × List UInt8 × Int:=
 if l.length < zT M W then ([],[],2) else if bval (l.take (zT M W)) % 2 ^ (8*zT M W - W*M)=0 then (zcj (bval (l.take (zT M W))) (8*zT M W) W M,l.drop (zT M W),0) else ([],[],2)
def RetUE (w:World) (p:List Nat × List UInt8 × Int) (e:Ending) (w':World):Prop:=
 ∃ u v,e=.returned (.tuple #[u,v,.int .i64 p.2.2])∧IsU p.1 u w'∧IsB p.2.1 v w'∧Below w.heap.size w w'
theorem zuH (w:World):IsU [] (.slice none 0 0) w:=⟨none,0,rfl,by simp,by simp,by unfold maxLen;omega,Lies.nil⟩
theorem RetUE.nil {w w':World} (n:Int) (hb:Below w.heap.size w w'):RetUE w ([],[],n) (.returned (.tuple #[.slice none 0 0,.slice none 0 0,.int .i64 n])) w':=⟨_,_,rfl,zuH _,zcu _,hb⟩
theorem zuI {w:World} {base:Nat} {e:TypeId} {v:Value} {n:Nat} {l:List Nat} (h:w.ownsRow base e 1 v n (l.map uv)):IsU l v w:=by
 obtain ⟨B,c,rfl,hnc,hcm,_,hl,hlen⟩:=zz h
 rw [List.length_map] at hlen
 subst hlen
 refine ⟨B,c,rfl,?_,hnc,hcm,hl⟩
 intro hB
 subst hB
 rcases hl with hl | ⟨ad,h,_⟩
 ·simpa using hl
 ·cases h
def RetUO (w:World) (p:List Nat × List UInt8 × Int) (e:Ending) (w':World):Prop:=
 ∃ u v,e=.returned (.tuple #[u,v,.int .i64 p.2.2])∧w'.ownsRow w.heap.size 119 1 u p.1.length (p.1.map uv)∧OwnB w p.2.1 v w'∧Below w.heap.size w w'
theorem RetUO.nil {w w':World} (n:Int) (hb:Below w.heap.size w w'):RetUO w ([],[],n) (.returned (.tuple #[.slice none 0 0,.slice none 0 0,.int .i64 n])) w':=⟨_,_,rfl,World.ownsRow_nil _ _ _ _,⟨0,World.ownsRow_nil _ _ _ _⟩,hb⟩
def zvu (l:List UInt8) (g b a m c M W:Nat) (A:Option Addr) (w:World) (i:Value) (wr:World):Prop:=
 ∃ k:Nat,i=.int .i64 (k:Int)∧k≤M∧Row wr g 119 ((zcj (bval l) (8*m) W k).map uv ++ List.replicate (M - k) (uv 0))∧Taker g b a m c (W*k) A l wr∧Below w.heap.size w wr
theorem zqP (B m W M k:Nat) (hk:k < M):((zcj B (8*m) W k).map uv ++ List.replicate (M - k) (uv 0)).set k (uv (zbs B (8*m) (W*k) W))=(zcj B (8*m) W (k+1)).map uv ++ List.replicate (M - (k+1)) (uv 0):=by
 have hl:((zcj B (8*m) W k).map uv).length=k:=by rw [List.length_map,zbF]
 rw [List.set_append_right _ _ (by omega),hl,Nat.sub_self,show M - k=M - (k+1)+1 by omega,List.replicate_succ,List.set_cons_zero,zeC,List.map_append,List.append_assoc]
 rfl
theorem zoQ (A:Option Addr) (n c:Nat) (l:List UInt8) (M W:Nat) (w:World) (hA:A=none→n=0) (hn:l.length=n) (hnc:n≤c) (hnb:n≤1000000) (hM:M≤4096) (hW:W≤64) (hl:Lies w A (l.map bv)) :
  Calls Tryz.prog 143 #[.slice A n c,.int .i64 (M:Int),.int .i64 (W:Int)] w (RetUO w (zbt l M W)):=by
 have HN:=Lib.hid hn
 clear hn
 obtain ⟨m,hm⟩:∃ m,m=zT M W:=⟨_,rfl⟩
 have hmW:W*M≤8*m:=by rw [hm];exact zdS M W
 have hm4:m≤32768:=by have:=ze5 hM hW;unfold zT at hm;omega
 obtain ⟨p,hp⟩:∃ p,p=W*M:=⟨_,rfl⟩
 have hp4:p≤262144:=by rw [hp,Nat.mul_comm];exact ze5 hM hW
 obtain ⟨s,hs⟩:∃ s,s=8*m - p:=⟨_,rfl⟩
 have hs7:s≤7:=by rw [hs,hp,hm];exact zmi M W
 have hpm:p+s=8*m:=by omega
 have hmul:(M:Int)*(W:Int)=(p:Int):=by rw [hp,Nat.mul_comm];simp
 have hsz:=fun w=>zqM M W w hM hW
 rw [←hm] at hsz
 have HS:=Lib.hid hsz
 have HM:=Lib.hid hm
 have HMW:=Lib.hid hmW
 have HP:=Lib.hid hp
 have HPM:=Lib.hid hpm
 clear hsz hm hmW hp hs hpm
 by_cases hsh:n < m
 ·have hun:zbt l M W=([],[],2):=by unfold zbt;rw [if_pos (by rw [HN.out,←HM.out];exact hsh)]
  have HU:=Lib.hid hun
  clear hun
  go_enter Tryz.func143,Tryz.ntmps143
  go_wp2_with (first | (go_at_call 172;refine (zcX _ _ (by omega) (by omega)).mono ?_;rintro e w' ⟨rfl,rfl⟩) | (go_at_call 171;refine (zdT _ _ (by omega) (by omega)).mono ?_;rintro e w' ⟨rfl,rfl⟩) | (go_at_call 173;refine (HS.out _).mono ?_;rintro e w' ⟨rfl,rfl⟩))
  go_ret3
  rw [HU.out]
  exact RetUO.nil _ (Below.refl _ _)
 ·have hmn:m≤n:=by omega
  obtain ⟨l',hl'⟩:∃ l',l'=l.take m:=⟨_,rfl⟩
  have hl'm:l'.length=m:=by rw [hl',List.length_take];have:=HN.out;omega
  have hlies':Lies w A (l'.map bv):=by rw [hl',List.map_take];exact hl.take m
  have HL':=Lib.hid hl'
  have HLM:=Lib.hid hl'm
  clear hl' hl'm
  go_enter Tryz.func143,Tryz.ntmps143
  go_wp2_with (first | (go_at_call 172;refine (zcX _ _ (by omega) (by omega)).mono ?_;rintro e w' ⟨rfl,rfl⟩) | (go_at_call 171;refine (zdT _ _ (by omega) (by omega)).mono ?_;rintro e w' ⟨rfl,rfl⟩) | (go_at_call 173;refine (HS.out _).mono ?_;rintro e w' ⟨rfl,rfl⟩) | (refine zn elemU rfl _ _ rfl _ _ _ _ M w w.heap.size rfl rfl ?_ ?_ (by omega) (by omega) (Below.refl _ _) (Nat.le_refl _) ?_))
  ·rfl
  ·rfl
  intro w1 hr1 hb1
  go_wp2_with fail
  refine (zqO m c A l' w1 w hlies' hb1 HLM.out).mono ?_
  rintro e w2 ⟨rfl,hP,hb2⟩
  obtain ⟨b,hbz⟩:∃ b,b=w1.heap.size:=⟨_,rfl⟩
  have hr2:=hr1.below hb2 hr1.lt
  have hgb:w.heap.size < b:=by rw [hbz];exact hr1.lt
  rw [←hbz] at hP ⊢
  have hbb:Below w.heap.size w w2:=hb1.trans (hb2.mono hb1.size)
  clear hr1 hb1 hb2 hbz
  go_wp2
  go_loopw [37] (zvu l' w.heap.size b (b+1) m c M W A w) (fun i _=>M - (intOf i).toNat)
  case atStart=>exact ⟨0,rfl,by omega,by simpa [zcj] using hr2,by rw [Nat.mul_zero];exact hP,hbb⟩
  case round =>
   obtain ⟨k,rfl,hk,hr,hP,hb⟩:=hrel
   clear hr2 hbb
   by_cases hlt:k < M
   ·have hstep:W*k+W≤8*m:=by
     have h1:W*(k+1)≤W*M:=Nat.mul_le_mul_left _ hlt
     have:=HMW.out
     rw [Nat.mul_add,Nat.mul_one] at h1
     omega
    go_wp2_with fail
    refine (zkn _ _ _ m c _ W A l' _ hP hW hstep (by omega)).mono ?_
    rintro e w3 ⟨rfl,hP',hb'⟩
    obtain ⟨Z,hZ⟩:∃ Z,Z=zbs (bval l') (8*m) (W*k) W:=⟨_,rfl⟩
    have hr3:=hr.below hb' (by omega)
    have hb3:=hb.trans (hb'.mono (by omega))
    have hf3:=hr3.free k
    have hset:=hr3.set_ k (uv Z)
    rw [hZ,zqP _ _ _ _ _ hlt] at hset
    rw [←hZ]
    have hc3:∃ u,w3.cell? ⟨w.heap.size,k,none⟩=some u:=by
     rw [hr3.cell]
     exact ⟨_,List.getElem?_eq_getElem (by simp [zbF];omega)⟩
    obtain ⟨u,hc3⟩:=hc3
    have hP3:=hP'.far (Nat.le_refl w.heap.size) hgb k (uv Z)
    have hb4:=hb3.setCell (p:=⟨w.heap.size,k,none⟩) (Nat.le_refl _) (uv Z)
    have HSet:=Lib.hid hset
    rw [←hZ] at HSet
    clear hset hZ hP hr hb hb' hr3 hb3
    go_wp2
    go_roundw
    case rel=>exact ⟨k+1,by go_num,by omega,HSet.out,by rw [Nat.mul_add,Nat.mul_one];exact hP3,hb4⟩
    case measure=>simp [intOf];omega
   ·obtain rfl:k=M:=by omega
    have hsub:(m:Int)*8 - (p:Int)=(s:Int):=by have:=HPM.out;omega
    have hsub2:IntKind.i64.wrap ((m:Int)*8 - (p:Int))=(s:Int):=by rw [hsub,IntKind.wrap_i64];omega
    have hwp:IntKind.i64.wrap (p:Int)=(p:Int):=by rw [IntKind.wrap_i64];omega
    rw [←HP.out] at hP
    go_wp2_with fail
    refine (zkn _ _ _ m c _ s A l' _ hP (by omega) (by have:=HPM.out;omega) (by omega)).mono ?_
    rintro e w3 ⟨rfl,hP',hb'⟩
    have hr3:=hr.below hb' (by omega)
    have hb3:=hb.trans (hb'.mono (by omega))
    rw [Nat.sub_self,List.replicate_zero,List.append_nil] at hr3
    obtain ⟨Z,hZ⟩:∃ Z,Z=zbs (bval l') (8*m) p s:=⟨_,rfl⟩
    have hZ2:Z=bval l' % 2 ^ s:=by
     have h1:=HPM.out
     rw [hZ,show s=8*m - p by omega]
     exact zhj (by omega)
    have hun:zbt l k W=if Z=0 then (zcj (bval l') (8*m) W k,l.drop m,0) else ([],[],2):=by
     have h1:=HPM.out
     have h2:=HP.out
     unfold zbt
     rw [←HM.out,if_neg (by rw [HN.out];omega),←HL'.out,←h2,show 8*m - p=s by omega,←hZ2]
    rw [←hZ]
    clear hZ hZ2 hsub hsub2 hwp hmul hP' hb' hP hr hb
    by_cases hZ0:Z=0
    ·subst hZ0
     rw [if_pos rfl] at hun
     have HU:=Lib.hid hun
     clear hun
     have hl3:=hl.below hb3
     have hml:(l.map bv).length=n:=by rw [List.length_map];exact HN.out
     have HML:=Lib.hid hml
     clear hml
     go_wp2_with (refine zhb elemB rfl _ _ rfl A n c m (l.map bv) rfl rfl hmn hnc HML.out hl3 hA ?_)
     intro B hlB hB
     have hdl:((l.map bv).drop m).length=n - m:=by rw [List.length_drop,HML.out]
     have HDL:=Lib.hid hdl
     clear hdl
     go_wp2_with (at_builtin;refine zk elemB rfl _ _ rfl w3.heap.size _ _ _ _ _ _ ((l.map bv).drop m) w3 rfl rfl hB HDL.out hlB (by rw [←List.map_drop];exact zbv _) (World.ownsRow_nil _ _ _ _) (Below.refl _ _) (Nat.le_refl _) (by omega) (by omega) ?_)
     intro v4 w4 hown4 hb4 _ _
     go_wp2
     go_ret3
     rw [HU.out]
     refine ⟨_,_,rfl,by rw [zbF];exact zey (hr3.below hb4 hr3.lt) (by rw [List.length_map];exact zbF _ _ _ _) (by omega) (by omega),?_,za hb3 hb4⟩
     rw [←List.map_drop] at hown4
     exact ⟨_,zbV hb3.size hown4⟩
    ·rw [if_neg hZ0] at hun
     have HU:=Lib.hid hun
     have d1:((Z:Int) != 0)=true:=by simpa using hZ0
     clear hun hZ0
     go_wp2
     go_ret3
     rw [HU.out]
     exact RetUO.nil _ hb3
theorem zoR (A:Option Addr) (n c:Nat) (M W:Int) (w:World) (h:¬(0≤M∧M≤4096∧0≤W∧W≤64)) :
  Calls Tryz.prog 143 #[.slice A n c,.int .i64 M,.int .i64 W] w (RetUO w ([],[],1)):=by
 rcases (by omega:(M < 0∨4096 < M)∨((0≤M∧M≤4096)∧(W < 0∨64 < W))) with h | ⟨h1,h⟩
 ·go_enter Tryz.func143,Tryz.ntmps143
  go_wp2_with (go_at_call 172;refine (zoM _ _ (by omega)).mono ?_;rintro e w' ⟨rfl,rfl⟩)
  go_ret3
  exact RetUO.nil _ (Below.refl _ _)
 ·go_enter Tryz.func143,Tryz.ntmps143
  go_wp2_with (first | (go_at_call 172;refine (zcX _ _ (by omega) (by omega)).mono ?_;rintro e w' ⟨rfl,rfl⟩) | (go_at_call 171;refine (ziC _ _ (by omega)).mono ?_;rintro e w' ⟨rfl,rfl⟩))
  go_ret3
  exact RetUO.nil _ (Below.refl _ _)
def zg (l:List UInt8) (M W:Int):List Nat × List UInt8 × Int:=if 0≤M∧M≤4096∧0≤W∧W≤64 then zbt l M.toNat W.toNat else ([],[],1)
theorem zbX (l:List UInt8) (M W:Nat) (hM:M≤4096) (hW:W≤64):zg l M W=zbt l M W:=by
 unfold zg
 rw [if_pos (by omega),Int.toNat_natCast,Int.toNat_natCast]
theorem zdh {l:List Nat} {W:Nat} (h:∀ x∈l,x < 2 ^ W) (b:List UInt8):zbt (zbx l W ++ b) l.length W=(l,b,0):=by
 have hlen:=zcK l W
 have ht:(zbx l W ++ b).take (zT l.length W)=zbx l W:=by rw [←hlen];simp
 have hd:(zbx l W ++ b).drop (zT l.length W)=b:=by rw [←hlen];simp
 unfold zbt
 rw [if_neg (by rw [List.length_append,hlen];omega),ht,hd,if_pos (zml h),zmk h]
theorem zeD {l:List UInt8} {v:Value} {w:World} (M W:Int) (hl:IsB l v w) (h4:l.length≤1000000) :
  Calls Tryz.prog 143 #[v,.int .i64 M,.int .i64 W] w (RetUO w (zg l M W)):=by
 obtain ⟨A,c,rfl,h1,h2,_,h3⟩:=hl
 by_cases h:0≤M∧M≤4096∧0≤W∧W≤64
 ·obtain ⟨K,rfl⟩:=Int.eq_ofNat_of_zero_le (show 0≤M by omega)
  obtain ⟨J,rfl⟩:=Int.eq_ofNat_of_zero_le (show 0≤W by omega)
  rw [zbX _ _ _ (by omega) (by omega)]
  exact zoQ A _ c l K J w h1 rfl h2 h4 (by omega) (by omega) h3
 ·unfold zg
  rw [if_neg h]
  exact zoR _ _ _ _ _ _ h
def zko (g m t W V x:Nat) (w:World) (at_ k:Value) (wr:World):Prop:=
 ∃ (j:Nat) (out:List UInt8),at_=.int .i64 ((t+W - j:Nat):Int)∧k=.int .i64 ((j:Int) - 1)∧j≤W∧out.length=m∧Row wr g 5 (out.map bv)∧bval out=(V*2 ^ (W - j)+x / 2 ^ j)*2 ^ (8*m - (t+W - j))∧Below w.heap.size w wr
def ztf (l:List Nat) (g m W:Nat) (w:World) (at_ i:Value) (wr:World):Prop:=
 ∃ (k:Nat) (out:List UInt8),at_=.int .i64 ((W*k:Nat):Int)∧i=.int .i64 (k:Int)∧k≤l.length∧out.length=m∧Row wr g 5 (out.map bv)∧bval out=pval W (l.take k)*2 ^ (8*m - W*k)∧(∀ x∈l.take k,x < 2 ^ W)∧Below w.heap.size w wr
theorem zvv (x K:Nat) (hx:x < 2 ^ 64):bits .and .u64 ((x:Int) / 2 ^ K) 1=((x / 2 ^ K % 2:Nat):Int):=by
 have h:=zmn x K 1 1 hx (by omega) rfl
 simpa using h
theorem zqQ (A:Option Addr) (n c:Nat) (l:List Nat) (W:Nat) (w:World) (hn:l.length=n) (hn4:n≤4096) (hW:W≤64) (hl:Lies w A (l.map uv)) (h64:∀ x∈l,x < 2 ^ 64) :
  Calls Tryz.prog 96 #[.slice A n c,.int .i64 (W:Int)] w (RetEO w (zkm l W)):=by
 have HN:=Lib.hid hn
 have H64:=Lib.hid h64
 clear hn h64
 obtain ⟨m,hm⟩:∃ m,m=zT n W:=⟨_,rfl⟩
 have hmW:W*n≤8*m:=by rw [hm];exact zdS n W
 have hm4:m≤32768:=by have:=ze5 hn4 hW;unfold zT at hm;omega
 have hsz:=fun w=>znN n W w hn4 hW
 rw [←hm] at hsz
 have HS:=Lib.hid hsz
 have HM:=Lib.hid hm
 have HMW:=Lib.hid hmW
 clear hsz hm hmW
 have d1:decide ((W:Int) < 0)=false:=decide_eq_false (by omega)
 have d2:decide ((64:Int) < (W:Int))=false:=decide_eq_false (by omega)
 have d3:decide ((4096:Int) < (n:Int))=false:=decide_eq_false (by omega)
 go_enter Tryz.func96,Tryz.ntmps96
 go_wp2_with (first | (go_at_call 125;refine (HS.out _).mono ?_;rintro e w' ⟨rfl,rfl⟩) | (refine zn elemB rfl _ _ rfl _ _ _ _ m w w.heap.size rfl rfl ?_ ?_ (by omega) (by omega) (Below.refl _ _) (Nat.le_refl _) ?_))
 ·rfl
 ·rfl
 intro w1 hr1 hb1
 have hr2:Row w1 w.heap.size 5 ((List.replicate m (0:UInt8)).map bv):=by simpa using hr1
 clear hr1
 go_wp2
 go_loopw [7,8] (ztf l w.heap.size m W w) (fun _ i _=>n - (intOf i).toNat)
 case atStart=>exact ⟨0,List.replicate m 0,rfl,rfl,by omega,by simp,hr2,by rw [ziA];simp [pval],by simp,hb1⟩
 case round =>
  obtain ⟨k,out,rfl,rfl,hk,hlen,hr,hval,hall,hb⟩:=hrel
  have HV:=Lib.hid hval
  have HA:=Lib.hid hall
  have HLen:=Lib.hid hlen
  clear hval hall hr2 hb1 hlen
  have hk':k≤n:=by have:=HN.out;omega
  by_cases hlt:k < n
  ·have hkl:k < l.length:=by have:=HN.out;omega
   obtain ⟨ad,rfl,hadlt,hcell⟩:=hl.cell (k:=k) (by simpa using hkl)
   obtain ⟨x,hx⟩:∃ x:Nat,x=l[k]:=⟨_,rfl⟩
   have hcx0:w.cell? (ad.add k)=some (.int .u64 (x:Int)):=by rw [hcell,List.getElem_map,hx];rfl
   have hcx:wr.cell? (ad.add k)=some (.int .u64 (x:Int)):=(hb.cell (by rw [add_block];exact hadlt)).trans hcx0
   have hxm:x∈l:=by rw [hx];exact List.getElem_mem hkl
   have HX:=Lib.hid hx
   clear hx hcell
   by_cases hx2:x < 2 ^ W
   ·have hz:(x:Int) / 2 ^ W=0:=by
     have:((x / 2 ^ W:Nat):Int)=0:=by rw [Nat.div_eq_of_lt hx2];rfl
     simpa using this
    have hstep:W*k+W≤8*m:=by
     have h1:W*(k+1)≤W*n:=Nat.mul_le_mul_left _ hlt
     have:=HMW.out
     rw [Nat.mul_add,Nat.mul_one] at h1
     omega
    have HX2:=Lib.hid hx2
    clear hx2
    obtain ⟨V,hV⟩:∃ V,V=pval W (l.take k):=⟨_,rfl⟩
    obtain ⟨t,ht⟩:∃ t,t=W*k:=⟨_,rfl⟩
    rw [←ht] at hstep ⊢
    have HVV:=Lib.hid hV
    have HTT:=Lib.hid ht
    clear hV ht
    have hst:zko w.heap.size m t W V x w (.int .i64 (t:Int)) (.int .i64 ((W:Int) - 1)) wr:=by
     refine ⟨W,out,by rw [Nat.add_sub_cancel],rfl,Nat.le_refl _,HLen.out,hr,?_,hb⟩
     rw [Nat.add_sub_cancel,Nat.sub_self,Nat.pow_zero,Nat.mul_one,Nat.div_eq_of_lt HX2.out,Nat.add_zero,HVV.out,HTT.out]
     exact HV.out
    rcases (show decide ((W:Int) < 64)=true∨decide ((W:Int) < 64)=false by cases decide ((W:Int) < 64) <;> simp) with hd64 | hd64
    all_goals
     go_wp2
     go_loopw [7,9] (zko w.heap.size m t W V x w) (fun _ k _=>(intOf k+1).toNat)
     case atStart=>exact hst
     case round =>
      obtain ⟨j,o,rfl,rfl,hj,hlen,hr,hval,hb⟩:=hrel
      obtain ⟨T,hT⟩:∃ T,T=t+W - j:=⟨_,rfl⟩
      rw [←hT] at hval ⊢
      have HT:=Lib.hid hT
      have HVal:=Lib.hid hval
      have HLe:=Lib.hid hlen
      clear hT hval hlen
      have hcx2:wr.cell? (ad.add k)=some (.int .u64 (x:Int)):=(hb.cell (by rw [add_block];exact hadlt)).trans hcx0
      by_cases hj0:0 < j
      ·obtain ⟨K,rfl⟩:∃ K,j=K+1:=⟨j - 1,by omega⟩
       rw [show ((K+1:Nat):Int) - 1=(K:Int) by omega]
       have hT8:T+1≤8*m:=by have:=HT.out;omega
       obtain ⟨β,hβ⟩:∃ β,β=x / 2 ^ K % 2:=⟨_,rfl⟩
       have hbit:=zvv x K (H64.out x hxm)
       rw [←hβ] at hbit
       have HBe:=Lib.hid hβ
       rcases (show β=0∨β=1 by omega) with rfl | rfl
       ·clear hβ
        go_wp2
        go_roundw
        case rel =>
         have hT2:T+1=t+W - K:=by have:=HT.out;omega
         refine ⟨K,o,by rw [←hT2];go_num,rfl,by omega,HLe.out,hr,?_,hb⟩
         have h1:=zfY V x W (K+1) 1 hj (by omega)
         rw [Nat.add_sub_cancel,Nat.pow_one,←HBe.out] at h1
         rw [HVal.out,zqL _ m T hT8,←hT2,Nat.pow_one,h1]
        case measure=>simp [intOf]
       ·clear hβ
        go_wp2
        refine zeZ 13 (by kernel_rfl) (by kernel_rfl) ?_
        have hr2:Row wr.drew w.heap.size 5 (o.map bv):=hr
        have hb2:Below w.heap.size w wr.drew:=hb.drew
        clear hr hb hcx2
        generalize wr.drew=w2 at *
        obtain ⟨q,hq⟩:∃ q,q=T / 8:=⟨_,rfl⟩
        obtain ⟨e,he⟩:∃ e,e=T % 8:=⟨_,rfl⟩
        obtain ⟨r,hr'⟩:∃ r,r=8 - T % 8:=⟨_,rfl⟩
        obtain ⟨d,hd⟩:∃ d,d=r - 1:=⟨_,rfl⟩
        obtain ⟨hqo,hl1,hl2,hl3,hl4⟩:=zqJ (n:=1) (piece:=1) hq hr' hd HLe.out (by omega) (by omega) hT8 (by omega) HVal.out
        have hqi:(T:Int) / 8=(q:Int):=by omega
        have hei:(T:Int) % 8=(e:Int):=by omega
        have hwq:IntKind.i64.wrap (q:Int)=(q:Int):=by rw [IntKind.wrap_i64];omega
        have htm:(T:Int).tmod 8=(e:Int):=by rw [Int.tmod_eq_emod_of_nonneg (by omega)];exact hei
        have hwe:IntKind.i64.wrap (e:Int)=(e:Int):=by rw [IntKind.wrap_i64];omega
        have hqm:(q:Int) < (m:Int):=by omega
        have he8:e < 8:=by omega
        obtain ⟨D,hD⟩:∃ D,D=2 ^ d:=⟨_,rfl⟩
        have hsr:(128:Int) / 2 ^ e=(D:Int):=by rw [zqK e he8,hD,show 7 - e=d by omega]
        rw [Nat.one_mul,←hD] at hl2 hl3 hl4
        obtain ⟨B,hB⟩:∃ B,B=o[q].toNat:=⟨_,rfl⟩
        have hcB:w2.cell? ⟨w.heap.size,q,none⟩=some (.int .u8 (B:Int)):=by
         rw [hr2.cell,List.getElem?_map,List.getElem?_eq_getElem hqo,hB];rfl
        have hfB:=hr2.free q
        rw [←hB] at hl2 hl4
        obtain ⟨C,hC⟩:∃ C,C=B+D:=⟨_,rfl⟩
        have hadd:IntKind.u8.wrap ((B:Int)+(D:Int))=(C:Int):=by rw [IntKind.wrap_u8];omega
        have hadd2:((B:Int)+(D:Int)) % 256=(C:Int):=by omega
        rw [←hC] at hl2 hl4
        have HL4:=Lib.hid hl4
        have HL2:=Lib.hid hl2
        clear hq he hr' hd hD hB hC hl1 hl2 hl3 hl4
        simp only [List.take_succ_cons,List.take_zero,List.drop_succ_cons,List.drop_zero]
        repeat still_step
        refine wpStill_nil ?_
        go_wp2
        go_roundw
        case rel =>
         have hT2:T+1=t+W - K:=by have:=HT.out;omega
         refine ⟨K,o.set q (UInt8.ofNat C),by rw [←hT2];go_num,rfl,by omega,by rw [List.length_set];exact HLe.out,zjD hr2 q C HL2.out,?_,hb2.setCell (Nat.le_refl _) _⟩
         have h1:=zfY V x W (K+1) 1 hj (by omega)
         rw [Nat.add_sub_cancel,Nat.pow_one,←HBe.out] at h1
         rw [HL4.out,←hT2,Nat.pow_one,h1]
        case measure=>simp [intOf]
      ·obtain rfl:j=0:=by omega
       go_wp2
       go_roundw
       case rel =>
        have hT2:T=W*(k+1):=by have:=HT.out;rw [Nat.mul_add,Nat.mul_one];have:=HTT.out;omega
        refine ⟨k+1,o,by rw [hT2],by go_num,by omega,HLe.out,hr,?_,?_,hb⟩
        ·rw [HVal.out,Nat.sub_zero,Nat.pow_zero,Nat.div_one,List.take_succ_eq_append_getElem hkl,zej,←HX.out,←HVV.out,hT2]
        ·intro y hy
         rw [List.take_succ_eq_append_getElem hkl,List.mem_append] at hy
         rcases hy with hy | hy
         ·exact HA.out y hy
         ·rw [List.mem_singleton.1 hy,←HX.out];exact HX2.out
       case measure=>simp [intOf];omega
   ·obtain ⟨y,hy⟩:∃ y,y=x / 2 ^ W:=⟨_,rfl⟩
    have hz:(x:Int) / 2 ^ W=(y:Int):=by rw [hy];simp
    have hy0:y≠0:=by
     rw [hy]
     intro h
     rcases Nat.div_eq_zero_iff.1 h with h | h
     ·have:=Nat.two_pow_pos W;omega
     ·exact hx2 h
    have hW64:(W:Int) < 64:=by
     have h1:=H64.out x hxm
     rcases (show W < 64∨W=64 by omega) with h | h
     ·omega
     ·rw [h] at hx2;exact absurd h1 hx2
    have e1:((y:Int) != 0)=true:=by simpa using hy0
    have HNo:=Lib.hid (znP hxm hx2)
    clear hx2 hy hy0
    go_wp2
    go_ret2
    rw [HNo.out]
    exact RetEO.nil _ hb
  ·obtain rfl:k=n:=by omega
   have hall:∀ x∈l,x < 2 ^ W:=by
    have:=HA.out
    rw [List.take_of_length_le (by have:=HN.out;omega)] at this
    exact this
   have HAll:=Lib.hid hall
   clear hall
   go_wp2
   go_ret2
   rw [zdU HAll.out]
   have hv:=HV.out
   rw [List.take_of_length_le (by have:=HN.out;omega)] at hv
   have hob:out=zbx l W:=by
    unfold zbx
    rw [HN.out,←HM.out]
    exact zoK HLen.out hv
   exact ⟨_,rfl,by rw [←hob,HLen.out];exact zey hr (by rw [List.length_map];exact HLen.out) (Nat.le_refl _) (by omega),hb⟩
theorem zqR (A:Option Addr) (n c:Nat) (W:Int) (w:World) (hW:W < 0∨64 < W) :
  Calls Tryz.prog 96 #[.slice A n c,.int .i64 W] w (RetEO w ([],1)):=by
 rcases hW with h | h
 ·have d1:decide (W < 0)=true:=decide_eq_true (by omega)
  go_enter Tryz.func96,Tryz.ntmps96
  go_wp2
  go_ret2
  exact RetEO.nil _ (Below.refl _ _)
 ·have d1:decide (W < 0)=false:=decide_eq_false (by omega)
  have d2:decide (64 < W)=true:=decide_eq_true (by omega)
  go_enter Tryz.func96,Tryz.ntmps96
  go_wp2
  go_ret2
  exact RetEO.nil _ (Below.refl _ _)
theorem zqS {l:List Nat} {v:Value} {w:World} (W:Int) (hl:IsU l v w) (h4:l.length≤4096) (h64:∀ x∈l,x < 2 ^ 64) :
  Calls Tryz.prog 96 #[v,.int .i64 W] w (RetEO w (zcR l W)):=by
 obtain ⟨A,c,rfl,_,_,_,h3⟩:=hl
 by_cases h:W < 0∨64 < W
 ·unfold zcR
  rw [if_pos h]
  exact zqR _ _ _ _ _ h
 ·obtain ⟨K,rfl⟩:=Int.eq_ofNat_of_zero_le (show 0≤W by omega)
  rw [zcd _ _ (by omega)]
  exact zqQ A _ c l K w rfl h4 (by omega) h3 h64
theorem ztg {l:List Nat} {v:Value} {w:World} (W:Int) (hl:IsU l v w) (h4:l.length≤4096) (h64:∀ x∈l,x < 2 ^ 64) :
  Calls Tryz.prog 96 #[v,.int .i64 W] w (RetE w (zcR l W)):=(zqS W hl h4 h64).mono fun _ _ h=>h.e
def zuJ (l:List UInt8) (m M W:Nat) (w:World) (v at_ i:Value) (wr:World):Prop:=
 ∃ k:Nat,k≤M∧at_=.int .i64 ((W*k:Nat):Int)∧i=.int .i64 (k:Int)∧wr.ownsRow w.heap.size 119 1 v k ((zcj (bval l) (8*m) W k).map uv)∧Below w.heap.size w wr∧w.heap.size≤wr.heap.size
def zth (l:List UInt8) (m t W:Nat) (x at_ i:Value):Prop:=
 ∃ j:Nat,at_=.int .i64 ((t+j:Nat):Int)∧i=.int .i64 (j:Int)∧x=.int .u64 ((zbs (bval l) (8*m) t j:Nat):Int)∧j≤W
theorem zmp (A:Option Addr) (n c:Nat) (l:List UInt8) (M W:Nat) (w:World) (hA:A=none→n=0) (hn:l.length=n) (hnc:n≤c) (hcm:c≤maxLen) (hnb:n≤1000000) (hM:M≤4096) (hW:W≤64) (hl:Lies w A (l.map bv)) :
  Calls Tryz.prog 109 #[.slice A n c,.int .i64 (M:Int),.int .i64 (W:Int)] w (RetUO w (zbt l M W)):=by
 have HN:=Lib.hid hn
 have HCM:=Lib.hid hcm
 clear hn hcm
 obtain ⟨m,hm⟩:∃ m,m=zT M W:=⟨_,rfl⟩
 have hmW:W*M≤8*m:=by rw [hm];exact zdS M W
 have hm4:m≤32768:=by have:=ze5 hM hW;unfold zT at hm;omega
 have hsz:=fun w=>znN M W w hM hW
 rw [←hm] at hsz
 have HS:=Lib.hid hsz
 have HM:=Lib.hid hm
 have HMW:=Lib.hid hmW
 clear hsz hm hmW
 have d1:decide ((M:Int) < 0)=false:=decide_eq_false (by omega)
 have d2:decide ((4096:Int) < (M:Int))=false:=decide_eq_false (by omega)
 have d3:decide ((W:Int) < 0)=false:=decide_eq_false (by omega)
 have d4:decide ((64:Int) < (W:Int))=false:=decide_eq_false (by omega)
 by_cases hsh:n < m
 ·have hun:zbt l M W=([],[],2):=by unfold zbt;rw [if_pos (by rw [HN.out,←HM.out];exact hsh)]
  have HU:=Lib.hid hun
  clear hun
  go_enter Tryz.func109,Tryz.ntmps109
  go_wp2_with (go_at_call 125;refine (HS.out _).mono ?_;rintro e w' ⟨rfl,rfl⟩)
  go_ret3
  rw [HU.out]
  exact RetUO.nil _ (Below.refl _ _)
 ·have hmn:m≤n:=by omega
  obtain ⟨l',hl'⟩:∃ l',l'=l.take m:=⟨_,rfl⟩
  have hl'm:l'.length=m:=by rw [hl',List.length_take];have:=HN.out;omega
  have hlies':Lies w A (l'.map bv):=by rw [hl',List.map_take];exact hl.take m
  have HL':=Lib.hid hl'
  have HLM:=Lib.hid hl'm
  clear hl' hl'm
  have hb0:Below w.heap.size w (w.alloc (.cells #[] 119)):=(Below.refl _ _).alloc (Nat.le_refl _) _
  have hown0:(w.alloc (.cells #[] 119)).ownsRow w.heap.size 119 1 (.slice (some ⟨w.heap.size,0,none⟩) 0 0) 0 []:=World.ownsRow_made w #[] 0 (Nat.le_refl _) (by unfold maxLen;omega) (by simp)
  go_enter Tryz.func109,Tryz.ntmps109
  go_wp2_with (go_at_call 125;refine (HS.out _).mono ?_;rintro e w' ⟨rfl,rfl⟩)
  go_loopw [10,11,12] (zuJ l' m M W w) (fun _ _ i _=>M - (intOf i).toNat)
  case atStart=>exact ⟨0,by omega,rfl,rfl,by simpa [zcj] using hown0,hb0,by simp⟩
  case round =>
   obtain ⟨k,hkM,rfl,rfl,hown,hb,hwz⟩:=hrel
   clear hb0 hown0
   by_cases hlt:k < M
   ·have hstep:W*k+W≤8*m:=by
     have h1:W*(k+1)≤W*M:=Nat.mul_le_mul_left _ hlt
     have:=HMW.out
     rw [Nat.mul_add,Nat.mul_one] at h1
     omega
    obtain ⟨t,ht⟩:∃ t,t=W*k:=⟨_,rfl⟩
    rw [←ht] at hstep ⊢
    have HTT:=Lib.hid ht
    clear ht
    go_wp2
    go_loop [13,11,14] (zth l' m t W) (fun _ _ i=>W - (intOf i).toNat)
    case atStart=>exact ⟨0,rfl,rfl,by rw [zeB];rfl,by omega⟩
    case round =>
     obtain ⟨j,rfl,rfl,rfl,hj⟩:=hrel
     obtain ⟨X,hX⟩:∃ X,X=zbs (bval l') (8*m) t j:=⟨_,rfl⟩
     rw [←hX]
     by_cases hjW:j < W
     ·obtain ⟨T,hT⟩:∃ T,T=t+j:=⟨_,rfl⟩
      rw [←hT]
      obtain ⟨q,hq⟩:∃ q,q=T / 8:=⟨_,rfl⟩
      obtain ⟨r,hr⟩:∃ r,r=8 - T % 8:=⟨_,rfl⟩
      obtain ⟨d,hd⟩:∃ d,d=r - 1:=⟨_,rfl⟩
      have hqi:(T:Int) / 8=(q:Int):=by omega
      have hdi:7 - (T:Int) % 8=(d:Int):=by omega
      have hd8:d≤7:=by omega
      have hqn:q < n:=by omega
      have hqm:(q:Int) < (n:Int):=by omega
      obtain ⟨hql,htb⟩:=zgP (n:=1) hq hr hd HLM.out (by omega) (by omega) (show T+1≤8*m by omega)
      obtain ⟨ad,rfl,_,hcell⟩:=(hlies'.below hb).cell (k:=q) (by simpa using hql)
      obtain ⟨B,hB⟩:∃ B,B=l'[q].toNat:=⟨_,rfl⟩
      have hB8:B < 256:=by have:=l'[q].toNat_lt;omega
      have hcB:wr.cell? (ad.add q)=some (.int .u8 (B:Int)):=by rw [hcell,List.getElem_map,hB];rfl
      rw [←hB] at htb
      obtain ⟨β,hβ⟩:∃ β,β=zbs (bval l') (8*m) T 1:=⟨_,rfl⟩
      rw [←hβ] at htb
      obtain ⟨E,hE⟩:∃ E,E=B / 2 ^ d:=⟨_,rfl⟩
      have hEi:(B:Int) / 2 ^ d=(E:Int):=by rw [hE];simp
      have hE8:E < 256:=by have:=Nat.div_le_self B (2 ^ d);omega
      have hbit:bits .and .u8 (E:Int) 1=(β:Int):=by
       rw [u8_and _ _ (by omega) (by omega) (by omega) (by omega),←htb,←hE,Int.toNat_natCast,show (1:Int).toNat=1 from rfl,nat_mask1]
      have hsum:X*2 ^ 1+β=zbs (bval l') (8*m) t (j+1):=by rw [hX,hβ,hT];exact zhi (by omega)
      have hlt64:X*2 ^ 1+β < 2 ^ 64:=by
       rw [hsum]
       have h1:=zfp (bval l') (8*m) t (j+1)
       have h2:2 ^ (j+1)≤2 ^ 64:=Nat.pow_le_pow_right (by omega) (by omega)
       omega
      obtain ⟨Y,hY⟩:∃ Y,Y=X*2 ^ 1:=⟨_,rfl⟩
      obtain ⟨Z,hZ⟩:∃ Z,Z=X*2 ^ 1+β:=⟨_,rfl⟩
      have hmu:IntKind.u64.wrap (2*(X:Int))=(Y:Int):=by rw [IntKind.wrap_u64];omega
      have had:IntKind.u64.wrap ((Y:Int)+(β:Int))=(Z:Int):=by rw [IntKind.wrap_u64];omega
      rw [←hZ] at hsum
      have hβ1:(β:Int)≤1:=by omega
      have HSum:=Lib.hid hsum
      have HT:=Lib.hid hT
      have HB8:=Lib.hid hB8
      clear hq hr hd hE hβ hB hX hY hZ hsum hlt64 htb hcell hT hB8
      go_wp2
      go_round
      case rel=>exact ⟨j+1,by rw [HT.out];go_num,by go_num,by rw [HSum.out],by omega⟩
      case measure=>simp [intOf];omega
     ·obtain rfl:j=W:=by omega
      have HX:=Lib.hid hX
      clear hX
      go_wp2_with (at_builtin;go_must (refine zQ elemU rfl _ _ rfl w.heap.size _ k _ (.int .u64 (X:Int)) wr w rfl rfl rfl rfl hown hb hwz (by omega) (by omega) ?_))
      intro v5 w5 hown5 hb5 _ _
      have hu:Value.int .u64 (X:Int)=uv X:=rfl
      have hnew:(zcj (bval l') (8*m) j k).map uv ++ [Value.int .u64 (X:Int)]=(zcj (bval l') (8*m) j (k+1)).map uv:=by
       rw [zeC,List.map_append,hu,HX.out,HTT.out];rfl
      rw [hnew] at hown5
      have hz5:=hb5.size
      clear hu hnew
      go_wp2
      go_roundw
      case rel=>exact ⟨k+1,by omega,by rw [Nat.mul_add,Nat.mul_one,←HTT.out];go_num,by go_num,hown5,hb5,hz5⟩
      case measure=>simp [intOf];omega
   ·obtain rfl:k=M:=by omega
    have hU:IsU (zcj (bval l') (8*m) W k) _ wr:=zuI hown
    obtain ⟨L,hL⟩:∃ L,L=zcj (bval l') (8*m) W k:=⟨_,rfl⟩
    rw [←hL] at hU
    have hLl:L.length=k:=by rw [hL];exact zbF _ _ _ _
    have HOWN:=Lib.hid (show wr.ownsRow w.heap.size 119 1 _ L.length (L.map uv) by rw [hL,zbF];exact hown)
    have hLW:∀ x∈L,x < 2 ^ W:=by rw [hL];exact zjC
    have hL64:∀ x∈L,x < 2 ^ 64:=fun x hx=>Nat.lt_of_lt_of_le (hLW x hx) (Nat.pow_le_pow_right (by omega) hW)
    have hpk:=zmj (l:=l') (w:=W) (n:=k) (by rw [HLM.out,←HM.out])
    rw [←HM.out,←hL] at hpk
    have hun:zbt l k W=if bval l' % 2 ^ (8*m - W*k)=0 then (L,l.drop m,0) else ([],[],2):=by
     unfold zbt
     rw [←HM.out,if_neg (by rw [HN.out];omega),←HL'.out,←hL]
    have hpc:=ztg (W:Int) hU (by omega) hL64
    rw [zcd _ _ hW,zdU hLW] at hpc
    have HPC:=Lib.hid hpc
    have HPK:=Lib.hid hpk
    have HUN:=Lib.hid hun
    have HU:=Lib.hid hU
    clear hL hLl hLW hL64 hpk hun hpc hU hown
    go_wp2_with (go_at_call 96;refine HPC.out.mono ?_;rintro e w5 ⟨v5,rfl,hv5,hb5⟩)
    have hBl:IsB l' (.slice A m c) wr:=⟨A,c,by rw [HLM.out],fun h=>by rw [HLM.out];have:=hA h;omega,by rw [HLM.out];omega,HCM.out,hlies'.below hb⟩
    have HV5:=Lib.hid hv5
    have HBL:=Lib.hid (hBl.below hb5)
    have HB5:=Lib.hid hb5
    clear hv5 hBl hb5
    refine wp_region_list [.is v5,.is (.string ⟨(zbx L W).toArray⟩),.is (.slice A n c),.is (.int .i64 (m:Int)),.is (.slice A m c),.is (.string ⟨l'.toArray⟩),.is (.bool !(zbx L W == l'))] [some 75,some 76,some 77,some 78,some 79,some 80,some 81] (by kernel_rfl) (by kernel_rfl) (by kernel_rfl) rfl ⟨?_,?_,?_,?_,?_,?_,?_,trivial⟩ ?_
    ·intro ρ W1 hb1 H
     exact zd rfl (H.old 15 _ (by kernel_rfl) rfl) ⟨rfl,Below.refl _ _⟩
    ·intro ρ W1 hb1 H
     have e:ρ (.tmp 75)=v5:=H.new 75 0 (by kernel_rfl)
     exact zS rfl e ((HV5.out.below hb1).text _ _ _ Tryz.underlying25 Tryz.underlying5 Tryz.underlying9) ⟨rfl,Below.refl _ _⟩
    ·intro ρ W1 hb1 H
     exact zd rfl (H.old 0 _ (by kernel_rfl) rfl) ⟨rfl,Below.refl _ _⟩
    ·intro ρ W1 hb1 H
     exact zd rfl (H.old 9 _ (by kernel_rfl) rfl) ⟨rfl,Below.refl _ _⟩
    ·intro ρ W1 hb1 H
     exact zdw elemB rfl (H.new 77 2 (by kernel_rfl)) (H.new 78 3 (by kernel_rfl)) (show m≤c by omega) ⟨rfl,Below.refl _ _⟩
    ·intro ρ W1 hb1 H
     have e:ρ (.tmp 79)=.slice A m c:=H.new 79 4 (by kernel_rfl)
     exact zS rfl e ((HBL.out.below hb1).text _ _ _ Tryz.underlying25 Tryz.underlying5 Tryz.underlying9) ⟨rfl,Below.refl _ _⟩
    ·intro ρ W1 hb1 H
     exact zcI rfl (H.new 76 1 (by kernel_rfl)) (H.new 80 5 (by kernel_rfl)) ⟨rfl,Below.refl _ _⟩
    intro vs w6 hb6 hfs
    have f6:vs 6=.bool !(zbx L W == l'):=hfs 6 (by decide)
    clear hfs
    simp only [zr,Nat.zero_add,Nat.reduceAdd]
    generalize vs 0=z0
    generalize vs 1=z1
    generalize vs 2=z2
    generalize vs 3=z3
    generalize vs 4=z4
    generalize vs 5=z5
    simp only [f6,Act.put,List.setIfInBounds_toArray,List.set_cons_succ,List.set_cons_zero]
    clear f6
    by_cases hz:bval l' % 2 ^ (8*m - W*k)=0
    ·have heq:(zbx L W == l')=true:=by rw [beq_iff_eq];exact HPK.out.2 hz
     have hun:=HUN.out
     rw [if_pos hz] at hun
     have HU2:=Lib.hid hun
     clear hun hz
     simp only [heq,Bool.not_true]
     clear heq
     have hb7:Below w6.heap.size w6 (w6.alloc (.cells #[] 5)):=(Below.refl _ _).alloc (Nat.le_refl _) _
     have hown7:(w6.alloc (.cells #[] 5)).ownsRow w6.heap.size 5 1 (.slice (some ⟨w6.heap.size,0,none⟩) 0 0) 0 []:=World.ownsRow_made w6 #[] 0 (Nat.le_refl _) (by unfold maxLen;omega) (by simp)
     have hbw6:=za (za hb HB5.out) hb6
     have hl7:=hl.below (za hbw6 hb7)
     have hz7:w6.heap.size≤(w6.alloc (.cells #[] 5)).heap.size:=by simp
     have hml:(l.map bv).length=n:=by rw [List.length_map];exact HN.out
     have HML:=Lib.hid hml
     clear hml
     go_wp2_with (refine zhb elemB rfl _ _ rfl A n c m (l.map bv) rfl rfl hmn hnc HML.out hl7 hA ?_)
     intro B hlB hB
     have hdl:((l.map bv).drop m).length=n - m:=by rw [List.length_drop,HML.out]
     have HDL:=Lib.hid hdl
     clear hdl
     go_wp2_with (at_builtin;refine zk elemB rfl _ _ rfl w6.heap.size _ _ _ _ _ _ ((l.map bv).drop m) w6 rfl rfl hB HDL.out hlB (by rw [←List.map_drop];exact zbv _) hown7 hb7 hz7 (by omega) (by omega) ?_)
     intro v8 w8 hown8 hb8 _ _
     go_wp2
     go_ret3
     rw [HU2.out]
     refine ⟨_,_,rfl,own_below HOWN.out (za (za HB5.out hb6) hb8),?_,za hbw6 hb8⟩
     rw [←List.map_drop] at hown8
     exact ⟨_,zbV hbw6.size hown8⟩
    ·have heq:(zbx L W == l')=false:=by rw [beq_eq_false_iff_ne];exact fun h=>hz (HPK.out.1 h)
     have hun:=HUN.out
     rw [if_neg hz] at hun
     have HU2:=Lib.hid hun
     clear hun hz
     simp only [heq,Bool.not_false]
     clear heq
     go_wp2
     go_ret3
     rw [HU2.out]
     exact RetUO.nil _ (za (za hb HB5.out) hb6)
theorem zmq (A:Option Addr) (n c:Nat) (M W:Int) (w:World) (h:¬(0≤M∧M≤4096∧0≤W∧W≤64)) :
  Calls Tryz.prog 109 #[.slice A n c,.int .i64 M,.int .i64 W] w (RetUO w ([],[],1)):=by
 rcases (by omega:M < 0∨4096 < M∨((0≤M∧M≤4096)∧W < 0)∨((0≤M∧M≤4096)∧64 < W)) with h | h | ⟨⟨h1,h2⟩,h⟩ | ⟨⟨h1,h2⟩,h⟩
 ·have d1:decide (M < 0)=true:=decide_eq_true (by omega)
  go_enter Tryz.func109,Tryz.ntmps109
  go_wp2
  go_ret3
  exact RetUO.nil _ (Below.refl _ _)
 ·have d1:decide (M < 0)=false:=decide_eq_false (by omega)
  have d2:decide (4096 < M)=true:=decide_eq_true (by omega)
  go_enter Tryz.func109,Tryz.ntmps109
  go_wp2
  go_ret3
  exact RetUO.nil _ (Below.refl _ _)
 ·have d1:decide (M < 0)=false:=decide_eq_false (by omega)
  have d2:decide (4096 < M)=false:=decide_eq_false (by omega)
  have d3:decide (W < 0)=true:=decide_eq_true (by omega)
  go_enter Tryz.func109,Tryz.ntmps109
  go_wp2
  go_ret3
  exact RetUO.nil _ (Below.refl _ _)
 ·have d1:decide (M < 0)=false:=decide_eq_false (by omega)
  have d2:decide (4096 < M)=false:=decide_eq_false (by omega)
  have d3:decide (W < 0)=false:=decide_eq_false (by omega)
  have d4:decide (64 < W)=true:=decide_eq_true (by omega)
  go_enter Tryz.func109,Tryz.ntmps109
  go_wp2
  go_ret3
  exact RetUO.nil _ (Below.refl _ _)
theorem zdV {l:List UInt8} {v:Value} {w:World} (M W:Int) (hl:IsB l v w) (h4:l.length≤1000000) :
  Calls Tryz.prog 109 #[v,.int .i64 M,.int .i64 W] w (RetUO w (zg l M W)):=by
 obtain ⟨A,c,rfl,h1,h2,h5,h3⟩:=hl
 by_cases h:0≤M∧M≤4096∧0≤W∧W≤64
 ·obtain ⟨K,rfl⟩:=Int.eq_ofNat_of_zero_le (show 0≤M by omega)
  obtain ⟨J,rfl⟩:=Int.eq_ofNat_of_zero_le (show 0≤W by omega)
  rw [zbX _ _ _ (by omega) (by omega)]
  exact zmp A _ c l K J w h1 rfl h2 h5 h4 (by omega) (by omega) h3
 ·unfold zg
  rw [if_neg h]
  exact zmq _ _ _ _ _ _ h
end Go.Proofs.YtlibofmpnlfelaaGreatDoor
