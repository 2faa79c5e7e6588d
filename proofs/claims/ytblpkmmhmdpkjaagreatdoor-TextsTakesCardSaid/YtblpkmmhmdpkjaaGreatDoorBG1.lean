import Derived.Laws.BitsAllLaws
import Derived.Laws.BitsLemmas
import Derived.WalkKit
import Derived.Below
import Derived.Laws.OwnMore
import Derived.Laws.BytesArg
import Derived.Laws.CopyOwn
import Derived.Maps.AppendAt
import Derived.Deep.Draws
import Derived.Deep.RegionLaw
import Derived.Orders
import Derived.StillTail
import Derived.Test.YtblpkmmhmdpkjaaGreatDoorRows
import Derived.WalkLawsBesides
import Derived.ProofKit
import Derived.OpenShut
import Derived.SizedLaws
import Derived.Carry
import Derived.ChangeSlices
import Derived.SevenTiedAt
import Derived.Outline
import Derived.Lib.Hide
import Derived.Handy
import Derived.Deep.QuietTactic
import Derived.BigQuiet
import Derived.StillTailTactics
import Derived.Deep.DeepMust
import Derived.Lib.SlBytesConst
import Derived.Laws.ResultCell
import Derived.Great.BuildSlice
import Derived.Shelf.Strconv.Itoa0
import Derived.Test.YtblpkmmhmdpkjaaGreatDoorProg
import Derived.LaidMore
import Derived.Laws.Rows
import Derived.MakeChecks
import Derived.LaidSub
import Derived.Lib.BitFns
import Derived.Lib.ItoaNum
set_option maxHeartbeats 8000000
set_option maxRecDepth 100000
namespace Go.Proofs.YtblpkmmhmdpkjaaGreatDoor
theorem zsm (x:Int) (h0:0≤x) (h1:x < 18446744073709551616):bits .xor .u64 IntKind.u64.max x=18446744073709551615 - x:=by
 obtain ⟨n,rfl⟩:=Int.eq_ofNat_of_zero_le h0
 have hm:IntKind.u64.max=((18446744073709551615:Nat):Int):=by decide
 rw [hm,u64_xor_nat _ _ (by omega) (by omega)]
 have h:18446744073709551615 ^^^ n=18446744073709551615 - n:=by
  have h3:(BitVec.ofNat 64 n) ^^^ BitVec.allOnes 64 = ~~~ (BitVec.ofNat 64 n):=BitVec.xor_allOnes
  have h4:=congrArg BitVec.toNat h3
  rw [BitVec.toNat_xor,BitVec.toNat_not,BitVec.toNat_allOnes,BitVec.toNat_ofNat,Nat.mod_eq_of_lt (by omega),Nat.xor_comm] at h4
  simpa using h4
 rw [h]
 omega
theorem i64_not (x:Int) (h0:0≤x) (h1:x < 9223372036854775808):bits .xor .i64 (-1) x = -x - 1:=by
 obtain ⟨n,rfl⟩:=Int.eq_ofNat_of_zero_le h0
 show IntKind.i64.wrap ((BitVec.ofInt 64 (-1) ^^^ BitVec.ofInt 64 (n:Int)).toNat:Int)=_
 have h3:BitVec.ofInt 64 (-1) ^^^ BitVec.ofInt 64 (n:Int) = ~~~ (BitVec.ofNat 64 n):=by
  rw [BitVec.ofInt_natCast,show BitVec.ofInt 64 (-1)=BitVec.allOnes 64 by decide,BitVec.xor_comm,BitVec.xor_allOnes]
 rw [h3,BitVec.toNat_not,BitVec.toNat_ofNat,Nat.mod_eq_of_lt (by omega),IntKind.wrap_i64]
 omega
theorem u64_and1 (x:Int) (h0:0≤x) (h1:x < 18446744073709551616):bits .and .u64 x 1=x % 2:=by
 rw [u64_and x 1 h0 h1 (by omega) (by omega),show (1:Int).toNat=1 from rfl,nat_mask1]
 omega
theorem zoB (x:Int) (h0:0≤x) (h1:x < 18446744073709551616):bits .or .u64 x 1=((x.toNat ||| 1:Nat):Int):=by
 rw [u64_or x 1 h0 h1 (by omega) (by omega)]
 rfl
theorem u8_and127 (x:Int) (h0:0≤x) (h1:x < 256):bits .and .u8 x 127=x % 128:=by
 rw [u8_and x 127 h0 h1 (by omega) (by omega),show (127:Int).toNat=127 from rfl,nat_mask7]
 omega
theorem zjm (x:Int) (h0:0≤x) (h1:x < 256):bits .and .u8 x 128=x / 128*128:=by
 rw [u8_and x 128 h0 h1 (by omega) (by omega),show (128:Int).toNat=2 ^ 7 from rfl,nat_bit]
 omega
theorem u8_or128 (x:Int) (h0:0≤x) (h1:x < 256):bits .or .u8 x 128=x % 128+128:=by
 rw [u8_or x 128 h0 h1 (by omega) (by omega),show (128:Int).toNat=128 from rfl]
 have h:∀ n:Fin 256,n.val ||| 128=n.val % 128+128:=by decide +kernel
 have:=h ⟨x.toNat,by omega⟩
 simp only at this
 omega
theorem zqL (k a b:Nat) (ha:a < 2 ^ k) (hb:b*2 ^ k < 18446744073709551616) (hk:a < 18446744073709551616):bits .or .u64 (a:Int) ((b*2 ^ k:Nat):Int)=((a+b*2 ^ k:Nat):Int):=by
 rw [u64_or_nat a (b*2 ^ k) hk hb,Nat.or_comm,nat_join k (b*2 ^ k) a (by simp) ha,Nat.add_comm]
theorem ziD (n:Int):bits .and .i64 n 31=n % 32:=by
 have h31:(BitVec.ofInt 64 31).toNat=2 ^ 5 - 1:=by decide
 have key:(BitVec.ofInt 64 n &&& BitVec.ofInt 64 31).toNat=(n % ((2 ^ 64:Nat):Int)).toNat % 2 ^ 5:=by
  rw [BitVec.toNat_and,BitVec.toNat_ofInt,h31,Nat.and_two_pow_sub_one_eq_mod]
 show IntKind.i64.wrap ((BitVec.ofInt 64 n &&& BitVec.ofInt 64 31).toNat:Nat)=n % 32
 rw [key,IntKind.wrap_i64]
 omega
end Go.Proofs.YtblpkmmhmdpkjaaGreatDoor
namespace Go.Proofs.YtblpkmmhmdpkjaaGreatDoor
open Go.RowKit
theorem add_block (a:Addr) (n:Nat):(a.add n).block=a.block:=by unfold Addr.add;split <;> rfl
theorem add_add (a:Addr) (i j:Nat):(a.add i).add j=a.add (i+j):=by
 unfold Addr.add
 rcases Nat.eq_zero_or_pos i with rfl | hi
 ·simp
 ·rcases Nat.eq_zero_or_pos j with rfl | hj
  ·simp
  ·rw [if_neg (by omega),if_neg (by omega),if_neg (by omega)];simp [Nat.add_assoc]
def Lies (w:World) (A:Option Addr) (xs:List Value):Prop:=
 xs=[]∨∃ ad,A=some ad∧ad.block < w.heap.size∧∀ j u,xs[j]? = some u→w.cell? (ad.add j)=some u
section
variable {w w':World} {A:Option Addr} {xs:List Value}
theorem Lies.nil:Lies w A []:=.inl rfl
theorem Lies.below (h:Lies w A xs) (hb:Below w.heap.size w w'):Lies w' A xs:=by
 rcases h with h | ⟨ad,hA,hlt,hc⟩
 ·exact .inl h
 ·exact .inr ⟨ad,hA,Nat.lt_of_lt_of_le hlt hb.size,fun j u hu=>(hb.cell (by rw [add_block];exact hlt)).trans (hc j u hu)⟩
theorem Lies.drewN (h:Lies w A xs) (n:Nat):Lies (w.drewN n) A xs:=h
theorem Lies.drew (h:Lies w A xs):Lies w.drew A xs:=h
theorem Lies.take (h:Lies w A xs) (k:Nat):Lies w A (xs.take k):=by
 rcases h with h | ⟨ad,hA,hlt,hc⟩
 ·exact .inl (by simp [h])
 ·exact .inr ⟨ad,hA,hlt,fun j u hu=>hc j u (by rw [List.getElem?_take] at hu;split at hu <;> simp_all)⟩
theorem Lies.drop (h:Lies w A xs) {k cap:Nat} (hc:xs.length≤cap):Lies w (if cap=k then A else A.map (·.add k)) (xs.drop k):=by
 rcases h with h | ⟨ad,hA,hlt,hcell⟩
 ·exact .inl (by simp [h])
 ·by_cases hk:xs.length≤k
  ·exact .inl (List.drop_of_length_le hk)
  ·refine .inr ⟨ad.add k,?_,by rw [add_block];exact hlt,fun j u hu=>?_⟩
   ·rw [if_neg (by omega),hA];rfl
   ·rw [add_add];exact hcell _ u (by rw [←hu,List.getElem?_drop])
theorem Lies.drop_some {ad:Addr} (h:Lies w (some ad) xs) (k:Nat):Lies w (some ⟨ad.block,ad.off+(k+1),none⟩) (xs.drop (k+1)):=by
 have h1:=h.drop (k:=k+1) (cap:=xs.length+(k+2)) (by omega)
 rw [if_neg (by omega)] at h1
 have h2:Option.map (·.add (k+1)) (some ad)=some ⟨ad.block,ad.off+(k+1),none⟩:=by simp [Addr.add]
 rw [h2] at h1
 exact h1
theorem Lies.cell (h:Lies w A xs) {k:Nat} (hk:k < xs.length):∃ ad,A=some ad∧ad.block < w.heap.size∧w.cell? (ad.add k)=some xs[k]:=by
 rcases h with h | ⟨ad,hA,hlt,hc⟩
 ·subst h;simp at hk
 ·exact ⟨ad,hA,hlt,hc k _ (List.getElem?_eq_getElem hk)⟩
theorem Lies.own {base:Nat} {e:TypeId} {n c:Nat} (h:w.ownsRow base e 1 (.slice A n c) n xs):Lies w A xs:=by
 rcases h.2 with ⟨_,h0⟩ | ⟨g,cap,cur,hv,_,hg,_⟩
 ·exact .inl (List.eq_nil_of_length_eq_zero (by have:=h.1;omega))
 ·injection hv with hA _ _
  subst hA
  exact .inr ⟨_,rfl,(Array.getElem?_eq_some_iff.1 hg).1,h.cells (g:=g) rfl⟩
theorem zbd {base:Nat} {e:TypeId} {n:Nat} {v:Value} (h:w.ownsRow base e 1 v n xs) :
  ∃ B c,v=.slice B n c∧n≤c∧c≤maxLen∧(∀ g,v.ownBlock=some g→base≤g)∧Lies w B xs∧xs.length=n:=by
 have hl:xs.length=n:=by simpa using h.1
 rcases h.2 with ⟨rfl,rfl⟩ | ⟨g,cap,cur,rfl,hb,hg,hnc,hcm,hcs,ht⟩
 ·exact ⟨none,0,rfl,Nat.le_refl _,by unfold maxLen;omega,by simp [Value.ownBlock],.inl (List.eq_nil_of_length_eq_zero hl),hl⟩
 ·exact ⟨_,cap,rfl,hnc,hcm,by simp [Value.ownBlock];exact hb,Lies.own h,hl⟩
end
def bv (b:UInt8):Value:=.int .u8 (b.toNat:Int)
def uv (x:Nat):Value:=.int .u64 (x:Int)
theorem zcb (l:List UInt8):∀ u∈l.map bv,u.oneCell'=true:=by
 intro u hu
 obtain ⟨b,_,rfl⟩:=List.mem_map.1 hu
 rfl
section
variable {P:Program} (w:World)
theorem run_text (src e dst:TypeId) (hs:P.underlying src=some (.slice e)) (he:P.underlying e=some (.int .u8)) (hd:P.underlying dst=some .string)
  (A:Option Addr) (n c:Nat) (l:List UInt8) (hn:l.length=n) (h:Lies w A (l.map bv)) :
  (convert src dst (.slice A n c)).run P w=.ok (.string ⟨l.toArray⟩) w:=by
 subst hn
 rcases A with _ | ad
 ·have hl:l=[]:=by
   rcases h with h | ⟨ad,h,_⟩
   ·simpa using h
   ·cases h
  subst hl
  rw [run_convert_bytes_nil w src e hs he _ _ dst hd]
  rfl
 ·have hc:(loadCells ad l.length).run P w=.ok ((l.map fun b=>(b.toNat:Int)).map (Value.int .u8)).toArray w:=by
   have:=run_loadCells_list (P:=P) w ad (l.map bv) (fun j u hu=>by
    rcases h with h | ⟨ad',hA,_,hc⟩
    ·rw [h] at hu;simp at hu
    ·injection hA with hA;subst hA;exact hc j u hu)
   have he:(l.map fun b=>(b.toNat:Int)).map (Value.int .u8)=l.map bv:=by rw [List.map_map];rfl
   rw [he]
   simpa using this
  rw [run_convert_bytes_string w src dst e _ _ c hs he hd,run_bytesToString w _ _ c _ hc,foldl_push_bytes]
  have he:(l.map fun b=>(b.toNat:Int)).map (fun n=>UInt8.ofNat n.toNat)=l:=by
   rw [List.map_map]
   conv=>rhs;rw [←List.map_id l]
   exact List.map_congr_left fun b _=>by simp
  rw [he]
  simp [ByteArray.empty,ByteArray.emptyWithCapacity]
  rfl
theorem run_append_lies (base:Nat) (t ty e:TypeId) (i:TypeInfo) (z:Value) (bytes:Nat) (ht:P.underlying t=some (.slice e)) (hi:P.info? e=some i) (hz:i.zero=some z)
  (hsize:i.size=1) (hby:i.bytes=bytes) (hzs:z.cells.size=1)
  (v:Value) (n:Nat) (xs:List Value) (hown:w.ownsRow base e 1 v n xs) (A:Option Addr) (m c:Nat) (hA:A=none→m=0) (news:List Value) (hm:news.length=m) (hr:Lies w A news) (h1:∀ u∈news,u.oneCell'=true)
  (h63:n+m≤maxLen) (hbytes:(n+m)*bytes≤140737488355328) (hbase:base≤w.heap.size) :
  ∃ v' w',(Builtin.append_ #[t,t] ty #[v,.slice A m c]).run P w=.ok v' w'∧w'.ownsRow base e 1 v' (n+m) (xs ++ news)∧w.grownBy w' v.ownBlock ∧
   (v'.ownBlock=v.ownBlock∨v'.ownBlock=some w.heap.size):=by
 rcases A with _ | ad
 ·have hm0:=hA rfl
  subst hm0
  have hn:news=[]:=List.eq_nil_of_length_eq_zero hm
  subst hn
  refine ⟨v,w,?_,by simpa using hown,World.grownBy.refl w _,.inl rfl⟩
  rcases hown.2 with ⟨rfl,rfl⟩ | ⟨g,cap,cur,rfl,_,_,hnc,_⟩
  ·simp [Builtin.append_,run_underlying ht,sizeOf,typeInfo,hi,Builtin.lenOf,Builtin.firstCells]
  ·simp [Builtin.append_,run_underlying ht,sizeOf,typeInfo,hi,Builtin.lenOf,Builtin.firstCells,hnc,storeCells]
 ·have hcells:∀ j u,news[j]? = some u→w.cell? (ad.add j)=some u:=by
   intro j u hu
   rcases hr with hr | ⟨ad',hA,_,hc⟩
   ·rw [hr] at hu;simp at hu
   ·injection hA with hA;subst hA;exact hc j u hu
  obtain ⟨v',w',hrun,h2,h3,_,h5⟩:=run_append_own_at (P:=P) w base t ty e i z 1 bytes ht hi hz hsize hby hzs (by omega) v n xs hown ad m c news (by omega) hcells h1 h63 hbytes hbase
  exact ⟨v',w',hrun,h2,h3,h5⟩
theorem wpList_append_lies {ops:Array Oper} {rest:List Oper} {o:Oper} {a:Act} {Q:Exit→Act→World→Prop} (hgd:o.guard=none) (s x:Operand) (t:TypeId)
  (ho:o.op=.call { callee:=.builtin .append,args:=#[s,x],argTypes:=#[t,t] })
  (base:Nat) (e:TypeId) (i:TypeInfo) (z:Value) (bytes:Nat) (ht:P.underlying t=some (.slice e)) (hi:P.info? e=some i) (hz:i.zero=some z)
  (hsize:i.size=1) (hby:i.bytes=bytes) (hzs:z.cells.size=1)
  (v:Value) (n:Nat) (xs:List Value) (hs:a.eval s=v) (hown:w.ownsRow base e 1 v n xs) (A:Option Addr) (m c:Nat) (hx:a.eval x=.slice A m c) (hA:A=none→m=0)
  (news:List Value) (hm:news.length=m) (hr:Lies w A news) (h1:∀ u∈news,u.oneCell'=true)
  (h63:n+m≤maxLen) (hbytes:(n+m)*bytes≤140737488355328) (hbase:base≤w.heap.size)
  (h:∀ v' w',w'.ownsRow base e 1 v' (n+m) (xs ++ news)→w.grownBy w' v.ownBlock→(v'.ownBlock=v.ownBlock∨v'.ownBlock=some w.heap.size)→wpList P ops Q rest (a.put o.dst v') w'):wpList P ops Q (o::rest) a w:=by
 refine wpList_plain hgd fun K hK=>?_
 obtain ⟨v',w',hrun,h2,h3,h4⟩:=run_append_lies (P:=P) w base t o.type e i z bytes ht hi hz hsize hby hzs v n xs hown A m c hA news hm hr h1 h63 hbytes hbase
 unfold Oper.wp execOp
 simp only [ho,resolve,invoke,builtin,Sem.run_bind,Sem.run_pure,Result.andThen_ok,List.map_toArray,List.map_cons,List.map_nil,hs,hx,hrun]
 exact hK _ _ (h v' w' h2 h3 h4)
end
theorem zd1 {w0 w w':World} {base:Nat} {e:TypeId} {v:Value} {n:Nat} {xs:List Value} (hb:Below base w0 w) (hown:w.ownsRow base e 1 v n xs) (hz:base≤w.heap.size) (hg:w.grownBy w' v.ownBlock):Below base w0 w':=
 hb.grown hg hz fun _ hk=>(hown.lt _ hk).1
theorem zqM (w:World) (u:Value) (t:TypeId):Lies (w.alloc (.cells #[u] t)) (some ⟨w.heap.size,0,none⟩) [u]:=by
 refine .inr ⟨_,rfl,by simp,fun j v hv=>?_⟩
 match j,hv with
 | 0,hv=>simp at hv;subst hv;simp [Addr.add]
structure Elem (P:Program) (t e:TypeId) (bytes:Nat) (z:Value):Prop where
 under:P.underlying t=some (.slice e)
 one:z.cells = #[z]
 info:∃ (i:TypeInfo),P.info? e=some i∧i.zero=some z∧i.size=1∧i.bytes=bytes
theorem zX {P:Program} {W:World} {ops:Array Oper} {rest:List Oper} {o:Oper} {a:Act} {Q:Exit→Act→World→Prop} {t e:TypeId} {bytes:Nat} {z:Value} (E:Elem P t e bytes z)
  (hgd:o.guard=none) (s x:Operand) (ho:o.op=.call { callee:=.builtin .append,args:=#[s,x],argTypes:=#[t,t] })
  (base:Nat) (v:Value) (n:Nat) (xs:List Value) (u:Value) (w w0:World) (hs:a.eval s=v) (hx:a.eval x=.slice (some ⟨w.heap.size,0,none⟩) 1 1) (hW:W=w.alloc (.cells #[u] e))
  (hu:u.oneCell'=true) (hown:w.ownsRow base e 1 v n xs) (hb:Below base w0 w) (hbase:base≤w.heap.size) (hn:n≤1000000000) (hby:bytes≤100)
  (h:∀ v' w',w'.ownsRow base e 1 v' (n+1) (xs ++ [u])→Below base w0 w'→w.grownBy w' v.ownBlock→(v'.ownBlock=v.ownBlock∨v'.ownBlock=some (w.heap.size+1))→wpList P ops Q rest (a.put o.dst v') w'):wpList P ops Q (o::rest) a W:=by
 obtain ⟨i,h1,h2,h3,h4⟩:=E.info
 have h5:z.cells.size=1:=by rw [E.one];rfl
 subst hW
 have hle:(n+1)*bytes≤(n+1)*100:=Nat.mul_le_mul_left _ hby
 refine wpList_append_lies _ hgd s x t ho base e i z bytes E.under h1 h2 h3 h4 h5 v n xs hs (hown.alloc _) _ _ _ hx (by simp) [u] rfl (zqM w u e) (by simpa using hu) (by unfold maxLen;omega) (by omega) (by simp;omega) ?_
 intro v' w' hown' hg hq
 refine h v' w' hown' (zd1 (hb.alloc hbase _) (hown.alloc _) (by simp;omega) hg) ⟨hg.os,hg.tape,hg.output,Nat.le_trans (by simp) hg.size,fun k hk hne=>(hg.block k (by simp;omega) hne).trans (Below.heap_alloc w _ k hk)⟩ (by simpa using hq)
theorem zo {P:Program} {w:World} {ops:Array Oper} {rest:List Oper} {o:Oper} {a:Act} {Q:Exit→Act→World→Prop} {t e:TypeId} {bytes:Nat} {z:Value} (E:Elem P t e bytes z)
  (hgd:o.guard=none) (s x:Operand) (ho:o.op=.call { callee:=.builtin .append,args:=#[s,x],argTypes:=#[t,t] })
  (base:Nat) (v:Value) (n:Nat) (xs:List Value) (A:Option Addr) (m c:Nat) (news:List Value) (w0:World) (hs:a.eval s=v) (hx:a.eval x=.slice A m c)
  (hA:A=none→m=0) (hm:news.length=m) (hr:Lies w A news) (h1:∀ u∈news,u.oneCell'=true)
  (hown:w.ownsRow base e 1 v n xs) (hb:Below base w0 w) (hbase:base≤w.heap.size) (hn:n+m≤1000000000) (hby:bytes≤100)
  (h:∀ v' w',w'.ownsRow base e 1 v' (n+m) (xs ++ news)→Below base w0 w'→w.grownBy w' v.ownBlock→(v'.ownBlock=v.ownBlock∨v'.ownBlock=some w.heap.size)→wpList P ops Q rest (a.put o.dst v') w'):wpList P ops Q (o::rest) a w:=by
 obtain ⟨i,h2,h3,h4,h5⟩:=E.info
 have h6:z.cells.size=1:=by rw [E.one];rfl
 have hle:(n+m)*bytes≤(n+m)*100:=Nat.mul_le_mul_left _ hby
 refine wpList_append_lies _ hgd s x t ho base e i z bytes E.under h2 h3 h4 h5 h6 v n xs hs hown A m c hx hA news hm hr h1 (by unfold maxLen;omega) (by omega) hbase ?_
 intro v' w' hown' hg hq
 exact h v' w' hown' (zd1 hb hown hbase hg) hg hq
def Row (w:World) (g:Nat) (t:TypeId) (cs:List Value):Prop:=w.heap[g]? = some (.cells cs.toArray t (0,0))
section
variable {w w':World} {g:Nat} {t:TypeId} {cs:List Value}
theorem Row.lt (h:Row w g t cs):g < w.heap.size:=(Array.getElem?_eq_some_iff.1 h).1
theorem Row.cell (h:Row w g t cs) (i:Nat):w.cell? ⟨g,i,none⟩=cs[i]?:=by rw [cell_of_row w g i cs.toArray t (0,0) h];simp
theorem Row.free (h:Row w g t cs) (i:Nat):w.frozen? ⟨g,i,none⟩=false:=by unfold Row at h;simp [World.frozen?,h]
theorem Row.set_ (h:Row w g t cs) (i:Nat) (u:Value):Row (w.setCell ⟨g,i,none⟩ u) g t (cs.set i u):=by
 unfold Row at h ⊢
 simp [World.setCell,Array.getElem?_modify,h]
theorem Row.far (h:Row w g t cs) {p:Addr} (hp:g≠p.block) (u:Value):Row (w.setCell p u) g t cs:=(Below.heap_setCell w p u g hp).trans h
theorem Row.below {B:Nat} (h:Row w g t cs) (hb:Below B w w') (hg:g < B):Row w' g t cs:=(hb.block g hg).trans h
theorem Row.drew (h:Row w g t cs):Row w.drew g t cs:=h
theorem Row.drewN (h:Row w g t cs) (n:Nat):Row (w.drewN n) g t cs:=h
theorem Row.alloc (h:Row w g t cs) (o:Obj):Row (w.alloc o) g t cs:=(Below.heap_alloc w o g h.lt).trans h
theorem Row.lies (h:Row w g t cs) (k:Nat):Lies w (some ⟨g,k,none⟩) (cs.drop k):=by
 refine .inr ⟨_,rfl,h.lt,fun j u hu=>?_⟩
 rw [List.getElem?_drop] at hu
 have he:(⟨g,k,none⟩:Addr).add j=⟨g,k+j,none⟩:=by unfold Addr.add;split <;> simp_all
 rw [he,h.cell,hu]
end
theorem zA {P:Program} {w:World} {ops:Array Oper} {rest:List Oper} {o:Oper} {a:Act} {Q:Exit→Act→World→Prop} {t e:TypeId} {bytes:Nat} {z:Value} (E:Elem P t e bytes z)
  (hgd:o.guard=none) (l c:Operand) (hop:o.op=Op.makeSlice t l c) (kl kc:IntKind) (L C:Int) (n:Nat) (w0:World) (B:Nat)
  (hl:a.eval l=.int kl L) (hc:a.eval c=.int kc C) (hL:L=(n:Int)) (hC:C=(n:Int)) (hn:n≤1000000000) (hby:bytes≤100) (hb:Below B w0 w) (hB:B≤w.heap.size)
  (h:∀ w',Row w' w.heap.size e (List.replicate n z)→Below B w0 w'→wpList P ops Q rest (a.put o.dst (.slice (some ⟨w.heap.size,0,none⟩) n n)) w') :
  wpList P ops Q (o::rest) a w:=by
 obtain ⟨i,h1,h2,h3,h4⟩:=E.info
 refine wpList_plain hgd fun K hK=>?_
 have hle:bytes*n≤100*n:=Nat.mul_le_mul_right _ hby
 have hbi:(i.bytes:Int)*(n:Int)≤281474976710656:=by
  rw [h4,←Int.natCast_mul];omega
 have hrun:=run_make (P:=P) w t e i z E.under h1 h2 kl kc n n (by omega) (by omega) hbi (by omega)
 subst hL
 subst hC
 unfold Oper.wp
 simp only [execOp,hop,hl,hc,hrun,Result.andThen_ok,Sem.run_bind,Sem.run_pure]
 simp only [Int.toNat_natCast,h3,Nat.mul_one,E.one]
 refine hK _ _ (h _ ?_ (hb.alloc hB _))
 unfold Row
 rw [heap_alloc_new]
 congr 2
 rw [←Array.toList_inj]
 simp only [madeCells,Array.toList_map,Array.toList_range]
 have hz:∀ x:Nat,(#[z]:Array Value)[x % (#[z]:Array Value).size]! = z:=by
  intro x
  have:x % (#[z]:Array Value).size=0:=Nat.mod_one x
  rw [this]
  rfl
 simp only [hz,List.map_const',List.length_range]
theorem zhB {P:Program} {w:World} {ops:Array Oper} {rest:List Oper} {o:Oper} {a:Act} {Q:Exit→Act→World→Prop} {t e:TypeId} {bytes:Nat} {z:Value} (E:Elem P t e bytes z)
  (hgd:o.guard=none) (d s:Operand) (ho:o.op=.call { callee:=.builtin .copy,args:=#[d,s],argTypes:=#[t,t] })
  (g off dLen dCap:Nat) (A:Option Addr) (m c:Nat) (cur src:List Value) (B:Nat) (w0:World)
  (hd:a.eval d=.slice (some ⟨g,off,none⟩) dLen dCap) (hs:a.eval s=.slice A m c) (hr:Row w g e cur) (hm:src.length=m) (hl:Lies w A src) (h1:∀ u∈src,u.oneCell'=true)
  (hle:m≤dLen) (hfit:off+m≤cur.length) (hb:Below B w0 w) (hB:B≤g)
  (h:∀ w',Row w' g e (cur.take off ++ (src ++ cur.drop (off+m)))→Below B w0 w'→wpList P ops Q rest (a.put o.dst (goInt m)) w') :
  wpList P ops Q (o::rest) a w:=by
 obtain ⟨i,h2,h3,h4,h5⟩:=E.info
 subst hm
 refine wpList_copy_splice hgd d s t t ho e E.under (by rw [h2];simp [h4]) _ _ _ _ _ _ hd hs g off cur e hr src (Nat.min_eq_left hle).symm ?_ hfit h1 B w0 hb hB ?_
 ·intro hp
  refine ⟨rfl,?_⟩
  rcases hl with hl | ⟨ad,hA,_,hc⟩
  ·rw [hl] at hp;simp at hp
  ·exact ⟨ad,hA,hc⟩
 ·intro w' hr' hb'
  exact h w' hr'.out hb'
def RetB (w:World) (l:List UInt8) (e:Ending) (w':World):Prop:=
 ∃ A c,e=.returned (.slice A l.length c)∧(A=none→l.length=0)∧l.length≤c∧c≤maxLen∧Lies w' A (l.map bv)∧Below w.heap.size w w'
theorem zgs {w0 w:World} {base:Nat} {e:TypeId} {v:Value} {n:Nat} {l:List UInt8} (hown:w.ownsRow base e 1 v n (l.map bv)) (hb:Below w0.heap.size w0 w):RetB w0 l (.returned v) w:=by
 obtain ⟨B,c,rfl,hnc,hcm,_,hl,hlen⟩:=zbd hown
 rw [List.length_map] at hlen
 subst hlen
 refine ⟨B,c,rfl,?_,hnc,hcm,hl,hb⟩
 intro hB
 subst hB
 rcases hl with hl | ⟨ad,h,_⟩
 ·simpa using hl
 ·cases h
def rdst (ops:Array Oper) (i:Nat):Option Tmp:=(ops[i]?).bind (·.dst)
def zbD (ops:Array Oper) (j i:Nat):Bool:=((ops[i]?).map fun o=>o.after.toList.any fun e=>Region.binds .any e && e.on == j).getD false
def puts (ops:Array Oper) (m:Nat→Bool) (vs:Nat→Value):Nat→Act→Act
 | 0,a=>a
 | n+1,a=>if m n then (puts ops m vs n a).put (rdst ops n) (vs n) else puts ops m vs n a
def zbl (ops:Array Oper) (size:Nat):Bool:=
 (List.range ops.size).all fun i =>
  ((ops[i]?).map fun o =>
   (o.after.all fun e=>!Region.binds .any e || decide (e.on < i)) &&
   (match o.op with | .select ..=>false | _=>true) &&
   (match o.dst with | some d=>decide (d < size) && (List.range ops.size).all (fun j=>j == i || rdst ops j != some d) | none=>true) &&
   ((o.looksAt ops).all fun d=>(List.range ops.size).all fun j=>j == i || rdst ops j != some d || zbD ops j i || zbD ops i j)).getD false
section
variable {P:Program} {ops:Array Oper} {Q:Exit→Act→World→Prop}
theorem zdg (m m':Nat→Bool) (vs vs':Nat→Value) (a:Act):∀ n,(∀ j,j < n→m j=m' j)→(∀ j,j < n→m j=true→vs j=vs' j)→puts ops m vs n a=puts ops m' vs' n a:=by
 intro n
 induction n with
 | zero=>intro _ _;rfl
 | succ n ih =>
  intro h1 h2
  rw [puts,puts,ih (fun j hj=>h1 j (by omega)) (fun j hj=>h2 j (by omega)),←h1 n (by omega)]
  by_cases hm:m n=true
  ·rw [if_pos hm,if_pos hm,h2 n (by omega) hm]
  ·rw [if_neg hm,if_neg hm]
theorem zgt (m:Nat→Bool) (vs:Nat→Value) (a:Act):∀ n,(puts ops m vs n a).tmps.size=a.tmps.size:=by
 intro n
 induction n with
 | zero=>rfl
 | succ n ih =>
  rw [puts]
  split
  ·unfold Act.put;split <;> simp [ih]
  ·exact ih
theorem zcq (m:Nat→Bool) (vs:Nat→Value) (a:Act) (d:Tmp):∀ n,(∀ j,j < n→m j=true→rdst ops j≠some d)→(puts ops m vs n a).tmps[d]? = a.tmps[d]?:=by
 intro n
 induction n with
 | zero=>intro _;rfl
 | succ n ih =>
  intro h
  rw [puts]
  split
  ·rename_i hm
   rw [←ih fun j hj=>h j (by omega)]
   have hne:=h n (by omega) hm
   cases hd:rdst ops n with
   | none=>rfl
   | some e =>
    rw [hd] at hne
    exact Array.getElem?_setIfInBounds_ne (fun he=>hne (by rw [he]))
  ·exact ih fun j hj=>h j (by omega)
theorem zeg (m:Nat→Bool) (vs:Nat→Value) (a:Act) (d:Tmp) (i:Nat) (hd:rdst ops i=some d) (hm:m i=true):∀ n,i < n→(∀ j,j < n→j≠i→rdst ops j≠some d) →
  (puts ops m vs n a).tmps[d]? = (a.put (some d) (vs i)).tmps[d]?:=by
 intro n
 induction n with
 | zero=>intro h;omega
 | succ n ih =>
  intro hi hne
  rw [puts]
  by_cases hin:i=n
  ·subst hin
   rw [if_pos hm,hd]
   simp only [Act.put,Array.getElem?_setIfInBounds_self,zgt]
  ·split
   ·rw [←ih (by omega) fun j hj=>hne j (by omega)]
    have hne':=hne n (by omega) (fun h=>hin h.symm)
    cases hd':rdst ops n with
    | none=>rfl
    | some e =>
     rw [hd'] at hne'
     exact Array.getElem?_setIfInBounds_ne (fun he=>hne' (by rw [he]))
   ·exact ih (by omega) fun j hj=>hne j (by omega)
theorem zmc (m:Nat→Bool) (vs:Nat→Value) (a:Act) (i:Nat) (v:Value) (hm:m i=false):∀ n,i < n→(∀ j,j < n→j≠i→∀ d,rdst ops i=some d→rdst ops j≠some d) →
  puts ops (fun j=>j == i || m j) (fun j=>if j=i then v else vs j) n a=(puts ops m vs n a).put (rdst ops i) v:=by
 intro n
 induction n with
 | zero=>intro h;omega
 | succ n ih =>
  intro hi hne
  show (if (n == i || m n)=true then (puts ops (fun j=>j == i || m j) (fun j=>if j=i then v else vs j) n a).put (rdst ops n) (if n=i then v else vs n) else puts ops (fun j=>j == i || m j) (fun j=>if j=i then v else vs j) n a) =
   (if m n=true then (puts ops m vs n a).put (rdst ops n) (vs n) else puts ops m vs n a).put (rdst ops i) v
  by_cases hin:n=i
  ·have h0:puts ops (fun j=>j == i || m j) (fun j=>if j=i then v else vs j) n a=puts ops m vs n a:=by
    refine zdg _ _ _ _ a n (fun j hj=>?_) (fun j hj _=>?_)
    ·have:(j == i)=false:=by simp;omega
     simp [this]
    ·simp;omega
   rw [h0]
   subst hin
   rw [if_pos (by simp),if_pos rfl,if_neg (by simp [hm])]
  ·have h1:(n == i || m n)=m n:=by
    have:(n == i)=false:=by simp;omega
    simp [this]
   rw [ih (by omega) fun j hj=>hne j (by omega),h1,if_neg hin]
   split
   ·exact Act.put_comm _ v (vs n) fun d hd=>hne n (by omega) hin d hd
   ·rfl
theorem zmd {o:Oper} {a b:Act} {w:World} {R:Value→World→Prop} {K:Act→World→Prop} (he:execOp a.eval o=execOp b.eval o) (hd:∀ d,o.dst=some d→d < b.tmps.size)
  (h:o.wp P b w (fun b' w'=>∃ v,b'=b.put o.dst v∧R v w') (fun _ _ _=>False)) (hK:∀ v w',R v w'→K (a.put o.dst v) w'):o.wp P a w K Q:=by
 have hv:∀ u v w',b.put o.dst u=b.put o.dst v→R v w'→K (a.put o.dst u) w':=by
  intro u v w' heq hR
  cases hdst:o.dst with
  | none =>
   have:=hK v w' hR
   rw [hdst] at this
   exact this
  | some d =>
   have hlt:=hd d hdst
   rw [hdst] at heq
   have h1:(b.put (some d) u).tmps[d]? = (b.put (some d) v).tmps[d]?:=by rw [heq]
   simp only [Act.put,Array.getElem?_setIfInBounds_self,hlt,if_true] at h1
   injection h1 with h1
   subst h1
   have:=hK u w' hR
   rw [hdst] at this
   exact this
 unfold Oper.wp at *
 rw [he]
 generalize (execOp b.eval o).run P w=r at *
 cases r with
 | ok n w' =>
  cases n <;> simp only [Oper.upon] at h ⊢
  case value u=>obtain ⟨v,h1,h2⟩:=h;exact hv u v w' h1 h2
  case skip=>obtain ⟨v,h1,h2⟩:=h;exact hv _ v w' h1 h2
  case defer d =>
   obtain ⟨v,h1,h2⟩:=h
   exfalso
   have h3:(({ b with defers:=d::b.defers }:Act).put o.dst undef).defers=(b.put o.dst v).defers:=by rw [h1]
   have h4:∀ (x:Act) (u:Value),(x.put o.dst u).defers=x.defers:=by intro x u;unfold Act.put;split <;> rfl
   rw [h4,h4] at h3
   have:=congrArg List.length h3
   simp at this
  case enter f args =>
   refine Calls.mono h fun e w'' he=>?_
   cases e with
   | returned u=>obtain ⟨v,h1,h2⟩:=he;exact hv u v w'' h1 h2
   | panicked c=>exact he.elim
   | outgrown=>obtain ⟨_,_,hf⟩:=he;exact hf.elim
  case row row args=>exact Rows.mono h fun u w'' ⟨v,h1,h2⟩=>hv u v w'' h1 h2
 | halt x w' =>
  cases x <;> simp only [Oper.upon] at h
theorem zP {size i:Nat} {o:Oper} (h:zbl ops size=true) (ho:ops[i]? = some o) :
  (∀ e∈o.after,Region.binds .any e=true→e.on < i)∧(∀ cs b,o.op≠.select cs b)∧(∀ d,o.dst=some d→d < size∧∀ j,j < ops.size→j≠i→rdst ops j≠some d) ∧
  (∀ d∈o.looksAt ops,∀ j,j < ops.size→j≠i→rdst ops j=some d→zbD ops j i=true∨zbD ops i j=true):=by
 have hlt:i < ops.size:=(Array.getElem?_eq_some_iff.1 ho).1
 unfold zbl at h
 rw [List.all_eq_true] at h
 have h1:=h i (List.mem_range.2 hlt)
 rw [ho,Option.map_some,Option.getD_some] at h1
 simp only [Bool.and_eq_true] at h1
 obtain ⟨⟨⟨h2,h3⟩,h4⟩,h5⟩:=h1
 refine ⟨fun e he hbd=>?_,fun cs b hs=>?_,fun d hd=>?_,fun d hd j hj hne hdj=>?_⟩
 ·rw [Array.all_eq_true_iff_forall_mem] at h2
  have h6:=h2 e he
  rw [hbd,Bool.not_true,Bool.false_or] at h6
  exact of_decide_eq_true h6
 ·rw [hs] at h3;cases h3
 ·rw [hd] at h4
  simp only [Bool.and_eq_true,List.all_eq_true,decide_eq_true_eq] at h4
  refine ⟨h4.1,fun j hj hne hdj=>?_⟩
  have h6:=h4.2 j (List.mem_range.2 hj)
  rw [hdj] at h6
  simp at h6
  exact hne h6
 ·rw [List.all_eq_true] at h5
  have h6:=h5 d hd
  rw [List.all_eq_true] at h6
  have h7:=h6 j (List.mem_range.2 hj)
  rw [hdj] at h7
  simp at h7
  rcases h7 with (h7 | h7) | h7
  ·exact absurd h7 hne
  ·exact .inl h7
  ·exact .inr h7
theorem zfR {o:Oper} {a b:Act} (h:∀ d∈o.looksAt ops,a.tmps[d]? = b.tmps[d]?):Region.wanted o (yielded ops a.tmps)=Region.wanted o (yielded ops b.tmps):=by
 unfold Region.wanted
 cases hg:o.guard with
 | none=>rfl
 | some p =>
  obtain ⟨g,want⟩:=p
  have hy:yielded ops a.tmps g=yielded ops b.tmps g:=by
   unfold yielded
   cases hd:(ops[g]?).bind (·.dst) with
   | none=>rfl
   | some d =>
    have:=h d (List.mem_append_right _ (by rw [hg];simp [hd]))
    simp only [Option.bind_some,this]
  simp only [hy]
def left (n:Nat) (l:Array Bool):Nat:=((List.range n).filter fun i=>!l.getD i false).length
theorem zdx {n:Nat} {l:Array Bool} {i:Nat} (hi:i < n) (hs:n≤l.size) (h:l.getD i false=false):left n (l.setIfInBounds i true) < left n l:=by
 unfold left
 have hsub:(List.range n).filter (fun j=>!(l.setIfInBounds i true).getD j false)=((List.range n).filter fun j=>!l.getD j false).filter (fun j=>!(l.setIfInBounds i true).getD j false):=by
  rw [List.filter_filter]
  refine List.filter_congr fun j hj=>?_
  by_cases hij:i=j
  ·subst hij
   have:i < l.size:=by omega
   simp [this]
  ·rw [getD_set_ne false hij,Bool.and_self]
 rw [hsub]
 have hmem:i∈(List.range n).filter fun j=>!l.getD j false:=List.mem_filter.2 ⟨List.mem_range.2 hi,by rw [h];rfl⟩
 refine Nat.lt_of_le_of_ne (List.length_filter_le _ _) fun heq=>?_
 have:=List.length_filter_eq_length_iff.1 heq i hmem
 have:i < l.size:=by omega
 simp_all
theorem ziE (mk:Nat→Bool) (vs:Nat→Value) (a:Act) (m:Nat):∀ n,m≤n→(∀ j,m≤j→j < n→mk j=false)→puts ops mk vs n a=puts ops mk vs m a
 | 0,h,_=>by rw [Nat.le_zero.1 h]
 | n+1,h,hk=>by
  by_cases he:m=n+1
  ·subst he;rfl
  ·rw [puts,if_neg (by rw [hk n (by omega) (by omega)];decide),ziE mk vs a m n (by omega) fun j h1 h2=>hk j h1 (by omega)]
theorem zhK {md:Region.Mode}:∀ (f:Nat) (l:Array Bool) (a:Act) (w:World),wpAny P md ops Q f l a w→wpAny P md ops Q (f+1) l a w
 | 0,_,_,_,h=>⟨fun _=>h.2,fun i hi=>by rw [h.1] at hi;cases hi⟩
 | f+1,l,a,w,h=>⟨h.1,fun i hi=>wpOp_mono (fun a' w' h'=>zhK f _ a' w' h') (h.2 i hi)⟩
theorem zjn {md:Region.Mode} (f g:Nat) (l:Array Bool) (a:Act) (w:World) (h:wpAny P md ops Q g l a w):wpAny P md ops Q (f+g) l a w:=by
 induction f with
 | zero=>rwa [Nat.zero_add]
 | succ f ih=>rw [show f+1+g=(f+g)+1 by omega];exact zhK _ _ _ _ ih
theorem zdh {a0:Act} {w0:World} (m:Nat) (hm:m≤ops.size) (F:Nat→Value→World→Prop)
  (hok:zbl ops a0.tmps.size=true)
  (hF:∀ i v w w',F i v w→Below w.heap.size w w'→F i v w')
  (hstep:∀ i o,i < m→ops[i]? = some o→∀ (vs:Nat→Value) (w:World),Below w0.heap.size w0 w→(∀ j,zbD ops j i=true→F j (vs j) w) →
   if Region.wanted o (yielded ops (puts ops (fun _=>true) vs i a0).tmps)=true then
    o.wp P (puts ops (fun _=>true) vs i a0) w (fun a' w'=>∃ v,a'=(puts ops (fun _=>true) vs i a0).put o.dst v∧F i v w'∧Below w.heap.size w w') (fun _ _ _=>False)
   else F i undef w)
  (hwait:∀ l:Array Bool,HeadInv .any ops m l→(∃ i,i < m∧l.getD i true=false)→∀ t,m≤t→t∉Region.ready .any ops l)
  (hfin:∀ (l:Array Bool) (vs:Nat→Value) (w:World),l.size=ops.size→(∀ j,j < m→l.getD j false=true)→(∀ j,m≤j→j < ops.size→l.getD j false=false)→Below w0.heap.size w0 w→(∀ i,i < m→F i (vs i) w) →
   wpAny P .any ops Q (ops.size - m) l (puts ops (fun _=>true) vs m a0) w) :
  wpAny P .any ops Q ops.size (Array.replicate ops.size false) a0 { w0 with drawn:=w0.drawn+1 }:=by
 have main:∀ (fuel:Nat) (l:Array Bool) (vs:Nat→Value) (w:World),l.size=ops.size→left m l≤fuel→(∀ i j,i < ops.size→l.getD i false=true→zbD ops j i=true→l.getD j false=true) →
   (∀ t,m≤t→t < ops.size→l.getD t false=false) →
   (∀ i,i < ops.size→l.getD i false=true→F i (vs i) w)→Below w0.heap.size w0 w→wpAny P .any ops Q (fuel+(ops.size - m)) l (puts ops (fun j=>l.getD j false) vs ops.size a0) w:=by
  intro fuel
  have hend:∀ (f:Nat) (l:Array Bool) (vs:Nat→Value) (w:World),l.size=ops.size→(∀ t,m≤t→t < ops.size→l.getD t false=false)→(∀ i,i < ops.size→l.getD i false=true→F i (vs i) w)→Below w0.heap.size w0 w→(∀ j,j < m→l.getD j false=true) →
    wpAny P .any ops Q (f+(ops.size - m)) l (puts ops (fun j=>l.getD j false) vs ops.size a0) w:=by
   intro f l vs w hs htl hfs hb hall
   rw [ziE _ vs a0 m ops.size hm htl,zdg (fun j=>l.getD j false) (fun _=>true) vs vs a0 m hall (fun _ _ _=>rfl)]
   exact zjn _ _ _ _ _ (hfin l vs w hs hall htl hb fun i hi=>hfs i (by omega) (hall i hi))
  induction fuel with
  | zero =>
   intro l vs w hs hl hcl htl hfs hb
   refine hend 0 l vs w hs htl hfs hb fun j hj=>?_
   cases h1:l.getD j false with
   | true=>rfl
   | false=>have:=zdx hj (by omega) h1;omega
  | succ fuel ih =>
   intro l vs w hs hl hcl htl hfs hb
   by_cases hall:∀ j,j < m→l.getD j false=true
   ·exact hend _ l vs w hs htl hfs hb hall
   obtain ⟨j0,hj0⟩:=Classical.not_forall.1 hall
   have hj0m:j0 < m:=by
    rcases Nat.lt_or_ge j0 m with h | h
    ·exact h
    ·exact absurd (fun h'=>absurd h' (by omega)) hj0
   have hj0f:l.getD j0 false=false:=by
    cases h1:l.getD j0 false with
    | false=>rfl
    | true=>exact absurd (fun _=>h1) hj0
   have hinv:HeadInv .any ops m l:=by
    refine ⟨hs,fun j oj hj hlj e he hbd=>?_,fun t ht ht'=>getD_in (by omega) (htl t ht ht')⟩
    refine hcl j e.on (Array.getElem?_eq_some_iff.1 hj).1 hlj ?_
    unfold zbD
    rw [hj,Option.map_some,Option.getD_some,List.any_eq_true]
    exact ⟨e,by simpa using he,by rw [hbd];simp⟩
   have hwt:=hwait l hinv ⟨j0,hj0m,getD_in (by omega) hj0f⟩
   rw [show fuel+1+(ops.size - m)=(fuel+(ops.size - m))+1 by omega]
   refine ⟨fun hr=>?_,fun i hi=>?_⟩
   ·exfalso
    have hallb:∀ i,i < m→l.getD i false=true:=by
     intro i
     induction i using Nat.strongRecOn with
     | ind i ih =>
      intro hi
      by_cases hl:l.getD i false=true
      ·exact hl
      ·exfalso
       have ho:ops[i]? = some ops[i]:=Array.getElem?_eq_getElem (by omega)
       have hok':=zP hok ho
       have hmem:i∈Region.ready .any ops l:=mem_ready.2 ⟨by
        have:i < l.size:=by omega
        simp [this] at hl ⊢
        exact hl,ops[i],ho,fun e he hbd=>ih e.on (hok'.1 e he hbd) (by have:=hok'.1 e he hbd;omega)⟩
       rw [hr] at hmem
       cases hmem
    exact absurd (hallb j0 hj0m) (by rw [hj0f];decide)
   have him:i < m:=by
    rcases Nat.lt_or_ge i m with h | h
    ·exact h
    ·exact absurd hi (hwt i h)
   obtain ⟨h0,o,ho,hpre⟩:=mem_ready.1 hi
   have hlt:i < ops.size:=(Array.getElem?_eq_some_iff.1 ho).1
   have h1:l.getD i false=false:=by
    have:i < l.size:=by omega
    simp [this] at h0 ⊢
    exact h0
   obtain ⟨hback,hsel,hdst,hlook⟩:=zP hok ho
   have hpred:∀ j,zbD ops j i=true→l.getD j false=true∧j < i:=by
    intro j hj
    unfold zbD at hj
    rw [ho,Option.map_some,Option.getD_some,List.any_eq_true] at hj
    obtain ⟨e,he,hej⟩:=hj
    have he:e∈o.after:=by simpa using he
    simp at hej
    rw [←hej.2]
    exact ⟨hpre e he hej.1,hback e he hej.1⟩
   have hrd:rdst ops i=o.dst:=by unfold rdst;rw [ho];rfl
   have hsame:∀ d∈o.looksAt ops,(puts ops (fun j=>l.getD j false) vs ops.size a0).tmps[d]? = (puts ops (fun _=>true) vs i a0).tmps[d]?:=by
    intro d hd
    by_cases hex:∃ j,j < ops.size∧j≠i∧rdst ops j=some d
    ·obtain ⟨j,hj,hne,hjd⟩:=hex
     have hoj:ops[j]? = some ops[j]:=Array.getElem?_eq_getElem hj
     have hdj:ops[j].dst=some d:=by unfold rdst at hjd;rw [hoj] at hjd;exact hjd
     have huniq:∀ k,k < ops.size→k≠j→rdst ops k≠some d:=fun k hk hkj=>((zP hok hoj).2.2.1 d hdj).2 k hk hkj
     rcases hlook d hd j hj hne hjd with hp | hp
     ·obtain ⟨hlj,hji⟩:=hpred j hp
      rw [zeg _ vs a0 d j hjd hlj ops.size hj huniq,zeg _ vs a0 d j hjd rfl i hji fun k hk=>huniq k (by omega)]
     ·have hnl:l.getD j false=false:=by
       cases hlj:l.getD j false with
       | false=>rfl
       | true=>exact absurd (hcl j i hj hlj hp) (by rw [h1];decide)
      have hij:i < j:=by
       unfold zbD at hp
       rw [hoj,Option.map_some,Option.getD_some,List.any_eq_true] at hp
       obtain ⟨e,he,hej⟩:=hp
       have he:e∈ops[j].after:=by simpa using he
       simp at hej
       have:=(zP hok hoj).1 e he hej.1
       omega
      rw [zcq _ vs a0 d ops.size,zcq _ vs a0 d i]
      ·intro k hk _ hkd
       exact huniq k (by omega) (by omega) hkd
      ·intro k hk hlk hkd
       by_cases hkj:k=j
       ·subst hkj;rw [hnl] at hlk;cases hlk
       ·exact huniq k hk hkj hkd
    ·rw [zcq _ vs a0 d ops.size,zcq _ vs a0 d i]
     ·intro k hk _ hkd;exact hex ⟨k,by omega,by omega,hkd⟩
     ·intro k hk hlk hkd
      by_cases hki:k=i
      ·subst hki;rw [h1] at hlk;cases hlk
      ·exact hex ⟨k,hk,hki,hkd⟩
   have hst:=hstep i o him ho vs w hb fun j hj=>hfs j (by have:=(hpred j hj).2;omega) (hpred j hj).1
   have hwant:=zfR hsame
   have hexec:execOp (puts ops (fun j=>l.getD j false) vs ops.size a0).eval o=execOp (puts ops (fun _=>true) vs i a0).eval o:=by
    refine execOp_congr o hsel fun x hx=>?_
    cases x with
    | tmp d =>
     have hd:d∈o.looksAt ops:=List.mem_append_left _ (List.mem_filterMap.2 ⟨.tmp d,by simpa using hx,rfl⟩)
     have:=hsame d hd
     show (puts ops (fun j=>l.getD j false) vs ops.size a0).tmps.getD d undef=(puts ops (fun _=>true) vs i a0).tmps.getD d undef
     rw [Array.getD_eq_getD_getElem?,Array.getD_eq_getD_getElem?,this]
    | _=>rfl
   have hnext:∀ v w',F i v w'→Below w.heap.size w w'→wpAny P .any ops Q (fuel+(ops.size - m)) (l.setIfInBounds i true) ((puts ops (fun j=>l.getD j false) vs ops.size a0).put o.dst v) w':=by
    intro v w' hv hb'
    have hset:=zmc (ops:=ops) (fun j=>l.getD j false) vs a0 i v h1 ops.size hlt fun j hj hne d hd=>(hdst d (by rw [←hrd];exact hd)).2 j hj hne
    rw [←hrd,←hset]
    have hmarks:∀ j,j < ops.size→(j == i || l.getD j false)=(l.setIfInBounds i true).getD j false:=by
     intro j hj
     by_cases hij:i=j
     ·subst hij;simp [hs,hlt]
     ·rw [getD_set_ne false hij]
      have:(j == i)=false:=by simp;omega
      simp [this]
    rw [zdg _ (fun j=>(l.setIfInBounds i true).getD j false) _ (fun j=>if j=i then v else vs j) a0 ops.size hmarks (fun _ _ _=>rfl)]
    refine ih (l.setIfInBounds i true) _ w' (by simp [hs]) (by have:=zdx him (by omega) h1;omega) ?_ ?_ ?_ (hb.trans (hb'.mono hb.size))
    ·intro j k hj hlj hjk
     rw [←hmarks j hj] at hlj
     by_cases hji:j=i
     ·subst hji;exact getD_set_true (hpred k hjk).1
     ·have:(j == i)=false:=by simpa using hji
      rw [this,Bool.false_or] at hlj
      exact getD_set_true (hcl j k hj hlj hjk)
    ·intro t ht ht'
     rw [getD_set_ne false (by omega)]
     exact htl t ht ht'
    ·intro j hj hlj
     rw [←hmarks j hj] at hlj
     by_cases hji:j=i
     ·subst hji;simpa using hv
     ·have:(j == i)=false:=by simpa using hji
      rw [this,Bool.false_or] at hlj
      simp only [if_neg hji]
      exact hF j _ w w' (hfs j hj hlj) hb'
   unfold wpOp
   rw [ho]
   show if Region.wanted o _=true then _ else _
   rw [hwant]
   by_cases hw:Region.wanted o (yielded ops (puts ops (fun _=>true) vs i a0).tmps)=true
   ·rw [if_pos hw] at hst ⊢
    exact .inl (zmd hexec (fun d hd=>by rw [zgt];exact (hdst d hd).1) hst fun v w' h=>hnext v w' h.1 h.2)
   ·rw [if_neg hw] at hst ⊢
    exact hnext undef w hst (Below.refl _ _)
 have hinit:=main m (Array.replicate ops.size false) (fun _=>undef) { w0 with drawn:=w0.drawn+1 } (by simp) (by unfold left;exact Nat.le_trans (List.length_filter_le _ _) (by simp))
  (fun i j hi h _=>by simp [hi] at h) (fun t _ _=>getD_replicate_false _ _) (fun i hi h=>by simp [hi] at h) ⟨rfl,rfl,rfl,Nat.le_refl _,fun _ _=>rfl⟩
 have hz:puts ops (fun j=>(Array.replicate ops.size false).getD j false) (fun _=>undef) ops.size a0=a0:=by
  have:∀ n,n≤ops.size→puts ops (fun j=>(Array.replicate ops.size false).getD j false) (fun _=>undef) n a0=a0:=by
   intro n
   induction n with
   | zero=>intro _;rfl
   | succ n ih =>
    intro hn
    have hlt:n < ops.size:=by omega
    rw [puts,if_neg (by simp [hlt]),ih (by omega)]
  exact this _ (Nat.le_refl _)
 rw [hz,show m+(ops.size - m)=ops.size by omega] at hinit
 exact hinit
theorem zeS {a0:Act} {w0:World} (F:Nat→Value→World→Prop)
  (hok:zbl ops a0.tmps.size=true)
  (hF:∀ i v w w',F i v w→Below w.heap.size w w'→F i v w')
  (hstep:∀ i o,ops[i]? = some o→∀ (vs:Nat→Value) (w:World),Below w0.heap.size w0 w→(∀ j,zbD ops j i=true→F j (vs j) w) →
   if Region.wanted o (yielded ops (puts ops (fun _=>true) vs i a0).tmps)=true then
    o.wp P (puts ops (fun _=>true) vs i a0) w (fun a' w'=>∃ v,a'=(puts ops (fun _=>true) vs i a0).put o.dst v∧F i v w'∧Below w.heap.size w w') (fun _ _ _=>False)
   else F i undef w)
  (hfin:∀ (vs:Nat→Value) (w:World),Below w0.heap.size w0 w→(∀ i,i < ops.size→F i (vs i) w)→Q .normal (puts ops (fun _=>true) vs ops.size a0) w) :
  wpAny P .any ops Q ops.size (Array.replicate ops.size false) a0 { w0 with drawn:=w0.drawn+1 }:=by
 refine zdh ops.size (Nat.le_refl _) F hok hF (fun i o _=>hstep i o) (fun l _ _ t ht hr=>?_) fun l vs w hs hall _ hb hf=>?_
 ·obtain ⟨_,o,ho,_⟩:=mem_ready.1 hr
  have:=(Array.getElem?_eq_some_iff.1 ho).1
  omega
 ·rw [Nat.sub_self]
  refine ⟨List.eq_nil_iff_forall_not_mem.2 fun i hi=>?_,hfin vs w hb hf⟩
  obtain ⟨h0,o,ho,_⟩:=mem_ready.1 hi
  have hlt:=(Array.getElem?_eq_some_iff.1 ho).1
  have h1:=hall i hlt
  have:i < l.size:=by omega
  simp [this] at h0 h1
  rw [h0] at h1
  cases h1
def zct (ops:Array Oper) (i d:Nat):Option Nat:=(List.range ops.size).find? fun j=>rdst ops j == some d && zbD ops j i
def sees (ops:Array Oper) (vs:Nat→Value) (a0:Act) (i:Nat):Operand→Value
 | .tmp d=>match zct ops i d with | some j=>vs j | none=>a0.eval (.tmp d)
 | x=>a0.eval x
structure RCtx (ops:Array Oper) (F:Nat→Value→World→Prop) (a0:Act) (i:Nat) (ρ:Operand→Value) (w:World):Prop where
 const:∀ v,ρ (.const v)=v
 func:∀ f,ρ (.func f)=.func (.func f) #[] #[]
 glob:∀ g,ρ (.global g)=.pointer (some ⟨g,0,none⟩)
 new:∀ d j,zct ops i d=some j→F j (ρ (.tmp d)) w
 old:∀ d v,zct ops i d=none→a0.eval (.tmp d)=v→ρ (.tmp d)=v
def zba (P:Program) (o:Oper) (ρ:Operand→Value) (w:World) (R:Value→World→Prop):Prop:=
 match (execOp ρ o).run P w with
 | .ok (.value v) w'=>R v w'
 | .ok .skip w'=>R undef w'
 | .ok (.enter f args) w'=>Calls P f args w' fun e w''=>∃ v,e=.returned v∧R v w''
 | _=>False
def zme (P:Program) (ops:Array Oper) (F:Nat→Value→World→Prop) (a0:Act) (w0:World) (i:Nat) (o:Oper):Prop:=
 ∀ (ρ:Operand→Value) (w:World),Below w0.heap.size w0 w→RCtx ops F a0 i ρ w →
  match o.guard with
  | none=>zba P o ρ w fun v w'=>F i v w'∧Below w.heap.size w w'
  | some (g,b)=>∀ d,rdst ops g=some d→(ρ (.tmp d)=.bool b→zba P o ρ w fun v w'=>F i v w'∧Below w.heap.size w w')∧(ρ (.tmp d)≠.bool b→F i undef w)
def zcc (P:Program) (ops:Array Oper) (F:Nat→Value→World→Prop) (a0:Act) (w0:World):Nat→List Oper→Prop
 | _,[]=>True
 | i,o::r=>zme P ops F a0 w0 i o∧zcc P ops F a0 w0 (i+1) r
theorem zfS {F:Nat→Value→World→Prop} {a0:Act} {w0:World}:∀ (l:List Oper) (k:Nat),zcc P ops F a0 w0 k l→∀ i o,l[i]? = some o→zme P ops F a0 w0 (k+i) o:=by
 intro l
 induction l with
 | nil=>intro k _ i o h;simp at h
 | cons x l ih =>
  intro k hs i o h
  cases i with
  | zero=>simp at h;subst h;exact hs.1
  | succ i =>
   have:=ih (k+1) hs.2 i o (by simpa using h)
   rwa [Nat.add_assoc,Nat.add_comm 1] at this
def zbQ (ops:Array Oper):Bool:=
 (List.range ops.size).all fun i=>((ops[i]?).map fun o=>match o.guard with | none=>true | some (g,_)=>(rdst ops g).isSome).getD false
theorem zdy {o:Oper} {a:Act} {ρ:Operand→Value} {w:World} {R:Value→World→Prop} {Q:Exit→Act→World→Prop} (he:execOp a.eval o=execOp ρ o) (h:zba P o ρ w R) :
  o.wp P a w (fun a' w'=>∃ v,a'=a.put o.dst v∧R v w') Q:=by
 unfold zba at h
 unfold Oper.wp
 rw [he]
 generalize (execOp ρ o).run P w=r at *
 cases r with
 | ok n w' =>
  cases n <;> simp only [Oper.upon] at h ⊢
  case value u=>exact ⟨u,rfl,h⟩
  case skip=>exact ⟨_,rfl,h⟩
  case enter f args =>
   refine Calls.mono h fun e w'' he=>?_
   obtain ⟨v,rfl,hv⟩:=he
   exact ⟨v,rfl,hv⟩
 | halt x w'=>cases x <;> simp only [] at h
theorem zgu {a0:Act} {w0:World} (F:Nat→Value→World→Prop)
  (hok:zbl ops a0.tmps.size=true) (hgd:zbQ ops=true)
  (i:Nat) (o:Oper) (ho:ops[i]? = some o) (hst:zme P ops F a0 w0 i o) (vs:Nat→Value) (w:World) (hb:Below w0.heap.size w0 w) (hp:∀ j,zbD ops j i=true→F j (vs j) w) :
   if Region.wanted o (yielded ops (puts ops (fun _=>true) vs i a0).tmps)=true then
    o.wp P (puts ops (fun _=>true) vs i a0) w (fun a' w'=>∃ v,a'=(puts ops (fun _=>true) vs i a0).put o.dst v∧F i v w'∧Below w.heap.size w w') (fun _ _ _=>False)
   else F i undef w:=by
 have hlt:i < ops.size:=(Array.getElem?_eq_some_iff.1 ho).1
 obtain ⟨hback,hsel,hdst,hlook⟩:=zP hok ho
 have hpi:∀ j,zbD ops j i=true→j < i:=by
  intro j hj
  unfold zbD at hj
  rw [ho,Option.map_some,Option.getD_some,List.any_eq_true] at hj
  obtain ⟨e,he,hej⟩:=hj
  simp at hej
  rw [←hej.2]
  exact hback e (by simpa using he) hej.1
 have hw:∀ d j,zct ops i d=some j→rdst ops j=some d∧zbD ops j i=true∧j < ops.size:=by
  intro d j h
  have h1:=List.find?_some h
  have h2:=List.mem_of_find?_eq_some h
  simp at h1
  exact ⟨h1.1,h1.2,List.mem_range.1 h2⟩
 have hctx:RCtx ops F a0 i (sees ops vs a0 i) w:=by
  refine ⟨fun _=>rfl,fun _=>rfl,fun _=>rfl,fun d j h=>?_,fun d v h hv=>?_⟩
  ·show F j (match zct ops i d with | some j=>vs j | none=>a0.eval (.tmp d)) w
   rw [h]
   exact hp j (hw d j h).2.1
  ·show (match zct ops i d with | some j=>vs j | none=>a0.eval (.tmp d))=v
   rw [h]
   exact hv
 have hsee:∀ d∈o.looksAt ops,(puts ops (fun _=>true) vs i a0).tmps.getD d undef=sees ops vs a0 i (.tmp d):=by
  intro d hd
  show _=(match zct ops i d with | some j=>vs j | none=>a0.eval (.tmp d))
  cases hwr:zct ops i d with
  | some j =>
   obtain ⟨h1,h2,h3⟩:=hw d j hwr
   have hoj:ops[j]? = some ops[j]:=Array.getElem?_eq_getElem h3
   have hdj:ops[j].dst=some d:=by unfold rdst at h1;rw [hoj] at h1;exact h1
   have hu:=(zP hok hoj).2.2.1 d hdj
   have hpn:=zeg (ops:=ops) (fun _=>true) vs a0 d j h1 rfl i (hpi j h2) fun k hk=>hu.2 k (by omega)
   rw [Array.getD_eq_getD_getElem?,hpn]
   simp [Act.put,hu.1]
  | none =>
   have hno:∀ j,j < i→rdst ops j≠some d:=by
    intro j hj hjd
    have h1:=hlook d hd j (by omega) (by omega) hjd
    rcases h1 with h1 | h1
    ·have h2:=List.find?_eq_none.1 hwr j (List.mem_range.2 (by omega))
     simp [hjd,h1] at h2
    ·have hoj:ops[j]? = some ops[j]:=Array.getElem?_eq_getElem (by omega)
     unfold zbD at h1
     rw [hoj,Option.map_some,Option.getD_some,List.any_eq_true] at h1
     obtain ⟨e,he,hej⟩:=h1
     simp at hej
     have:=(zP hok hoj).1 e (by simpa using he) hej.1
     omega
   show _=a0.tmps.getD d undef
   rw [Array.getD_eq_getD_getElem?,Array.getD_eq_getD_getElem?,zcq (ops:=ops) (fun _=>true) vs a0 d i fun j hj _=>hno j hj]
 have hexec:execOp (puts ops (fun _=>true) vs i a0).eval o=execOp (sees ops vs a0 i) o:=by
  refine execOp_congr o hsel fun x hx=>?_
  cases x with
  | tmp d=>exact hsee d (List.mem_append_left _ (List.mem_filterMap.2 ⟨.tmp d,by simpa using hx,rfl⟩))
  | _=>rfl
 have h1:=hst (sees ops vs a0 i) w hb hctx
 cases hg:o.guard with
 | none =>
  rw [hg] at h1
  have hwa:Region.wanted o (yielded ops (puts ops (fun _=>true) vs i a0).tmps)=true:=by unfold Region.wanted;rw [hg]
  rw [if_pos hwa]
  exact zdy hexec h1
 | some p =>
  obtain ⟨g,b⟩:=p
  rw [hg] at h1
  have hgo:(rdst ops g).isSome=true:=by
   unfold zbQ at hgd
   rw [List.all_eq_true] at hgd
   have:=hgd i (List.mem_range.2 hlt)
   rw [ho,Option.map_some,Option.getD_some,hg] at this
   exact this
  obtain ⟨d,hd⟩:=Option.isSome_iff_exists.1 hgo
  obtain ⟨hyes,hno⟩:=h1 d hd
  have hdl:d∈o.looksAt ops:=List.mem_append_right _ (by rw [hg];show d∈((ops[g]?).bind (·.dst)).toList;have:(ops[g]?).bind (·.dst)=some d:=hd;rw [this];simp)
  have hv:=hsee d hdl
  by_cases hw:Region.wanted o (yielded ops (puts ops (fun _=>true) vs i a0).tmps)=true
  ·rw [if_pos hw]
   refine zdy hexec (hyes ?_)
   rw [←hv]
   unfold Region.wanted at hw
   rw [hg] at hw
   have hd':(ops[g]?).bind (·.dst)=some d:=hd
   simp only [yielded,hd',Option.bind_some] at hw
   rw [Array.getD_eq_getD_getElem?]
   cases hx:(puts ops (fun _=>true) vs i a0).tmps[d]? with
   | none=>rw [hx] at hw;simp at hw
   | some v =>
    rw [hx] at hw
    cases v <;> simp at hw
    subst hw
    rfl
  ·rw [if_neg hw]
   refine hno fun h=>hw ?_
   rw [←hv,Array.getD_eq_getD_getElem?] at h
   unfold Region.wanted
   rw [hg]
   have hd':(ops[g]?).bind (·.dst)=some d:=hd
   simp only [yielded,hd',Option.bind_some]
   cases hx:(puts ops (fun _=>true) vs i a0).tmps[d]? with
   | none=>rw [hx] at h;cases h
   | some v =>
    rw [hx] at h
    have h:v=.bool b:=h
    subst h
    simp
theorem ziF {F:Nat→Value→World→Prop} {a0:Act} {w0:World} (h:zcc P ops F a0 w0 0 ops.toList) (i:Nat) (o:Oper) (ho:ops[i]? = some o):zme P ops F a0 w0 i o:=by
 have:=zfS ops.toList 0 h i o (by simpa using ho)
 simpa using this
theorem zeT {a0:Act} {w0:World} (F:Nat→Value→World→Prop)
  (hok:zbl ops a0.tmps.size=true) (hgd:zbQ ops=true)
  (hF:∀ i v w w',F i v w→Below w.heap.size w w'→F i v w')
  (hsteps:zcc P ops F a0 w0 0 ops.toList)
  (hfin:∀ (vs:Nat→Value) (w:World),Below w0.heap.size w0 w→(∀ i,i < ops.size→F i (vs i) w)→Q .normal (puts ops (fun _=>true) vs ops.size a0) w) :
  wpAny P .any ops Q ops.size (Array.replicate ops.size false) a0 { w0 with drawn:=w0.drawn+1 }:=
 zeS F hok hF (fun i o ho=>zgu F hok hgd i o ho (ziF hsteps i o ho)) hfin
def zgv (ops:Array Oper) (n:Nat):Bool:=
 decide (n < ops.size) && Region.sinkB .any ops n && Region.chainB .any ops n && Region.seqB .any ops (ops.size - n) n ((Array.range ops.size).map fun i=>decide (i < n))
theorem zsn {l:Array Bool} {n s:Nat} (hs:l.size=s) (h1:∀ j,j < n→l.getD j false=true) (h2:∀ j,n≤j→j < s→l.getD j false=false):l=(Array.range s).map fun i=>decide (i < n):=by
 apply Array.ext
 ·simp [hs]
 ·intro i hi _
  by_cases h:i < n
  ·have:=h1 i h
   simp [hi] at this
   simp [this,h]
  ·have:=h2 i (by omega) (by omega)
   simp [hi] at this
   simp [this,h]
theorem zfs {a0:Act} {w0:World} (n:Nat) (F:Nat→Value→World→Prop)
  (hok:zbl ops a0.tmps.size=true) (hgd:zbQ ops=true) (hfo:zgv ops n=true)
  (hF:∀ i v w w',F i v w→Below w.heap.size w w'→F i v w')
  (hsteps:zcc P ops F a0 w0 0 (ops.toList.take n))
  (hfin:∀ (vs:Nat→Value) (w:World),Below w0.heap.size w0 w→(∀ i,i < n→F i (vs i) w)→wpList P ops Q (ops.toList.drop n) (puts ops (fun _=>true) vs n a0) w) :
  wpAny P .any ops Q ops.size (Array.replicate ops.size false) a0 { w0 with drawn:=w0.drawn+1 }:=by
 unfold zgv at hfo
 simp only [Bool.and_eq_true,decide_eq_true_eq] at hfo
 obtain ⟨⟨⟨hn,hsk⟩,hch⟩,hsq⟩:=hfo
 refine zdh n (by omega) F hok hF (fun i o hi ho=>zgu F hok hgd i o ho ?_) (fun l inv ⟨i,hi,hun⟩ t ht=>tail_waits hsk hch hn inv _ i rfl hi hun t ht) fun l vs w hs h1 h2 hb hf=>?_
 ·have:=zfS (ops.toList.take n) 0 hsteps i o (by rw [List.getElem?_take,if_pos hi];simpa using ho)
  simpa using this
 ·rw [zsn hs h1 h2]
  have h:=wpAny_of_seq (P:=P) (ops:=ops) (md:=.any) (Q':=Q) (ops.toList.drop n) n ((Array.range ops.size).map fun i=>decide (i < n)) (puts ops (fun _=>true) vs n a0) w (fun j=>by rw [List.getElem?_drop];simp)
   (by rw [List.length_drop,Array.length_toList];exact hsq) (hfin vs w hb hf)
  rwa [List.length_drop,Array.length_toList] at h
end
section
variable {P:Program} {o:Oper} {ρ:Operand→Value} {w w':World} {R:Value→World→Prop}
theorem zq {v:Value} (h:(execOp ρ o).run P w=.ok (.value v) w') (hR:R v w'):zba P o ρ w R:=by
 unfold zba;rw [h];exact hR
theorem zd {x:Operand} {v:Value} (ho:o.op=.move x) (hx:ρ x=v) (hR:R v w):zba P o ρ w R:=by
 refine zq (v:=v) (w':=w) ?_ hR
 simp [execOp,ho,hx]
theorem zf {x:Operand} {v:Value} (ho:o.op=.assign x) (hx:ρ x=v) (hR:R v w):zba P o ρ w R:=by
 refine zq (v:=v) (w':=w) ?_ hR
 simp [execOp,ho,hx]
theorem zK {s d:TypeId} {x:Operand} {u v:Value} (ho:o.op=.convert s d x) (hx:ρ x=u) (h:(convert s d u).run P w=.ok v w') (hR:R v w'):zba P o ρ w R:=by
 refine zq (v:=v) (w':=w') ?_ hR
 simp [execOp,ho,hx,h]
theorem zL {t:TypeId} {x:Operand} {lo hi mx:Option Operand} {u v:Value} {lo' hi' mx':Option Value} (ho:o.op=.slice t x lo hi mx) (hx:ρ x=u) (hlo:lo.map ρ=lo') (hhi:hi.map ρ=hi') (hmx:mx.map ρ=mx')
  (h:(Instr.sliceAt t u lo' hi' mx').run P w=.ok v w') (hR:R v w'):zba P o ρ w R:=by
 refine zq (v:=v) (w':=w') ?_ hR
 simp [execOp,ho,hx,hlo,hhi,hmx,h]
theorem zk {f:FuncId} {xs:Array Operand} {ts:Array TypeId} {args:Array Value} (ho:o.op=.call { callee:=.value (.func f),args:=xs,argTypes:=ts })
  (hent:∀ (args:Array Value) (w:World),(callFunc f args).run P w=.ok (.enter f args) w) (hf:ρ (.func f)=.func (.func f) #[] #[]) (ha:xs.map ρ=args)
  (h:Calls P f args w fun e w'=>∃ v,e=.returned v∧R v w'):zba P o ρ w R:=by
 have hr:(execOp ρ o).run P w=.ok (.enter f args) w:=by
  simp [execOp,ho,resolve,hf,ha,Deferred.ofValue,invoke,hent]
 unfold zba
 rw [hr]
 exact h
theorem zcu {t t':TypeId} {x y:Operand} {a b:List UInt8} (ho:o.op=.binOp .neq t x y t') (hx:ρ x=.string ⟨a.toArray⟩) (hy:ρ y=.string ⟨b.toArray⟩) (hR:R (.bool !(a == b)) w):zba P o ρ w R:=by
 refine zq (v:=.bool !(a == b)) (w':=w) ?_ hR
 simp [execOp,ho,hx,hy,go_sem,eqGuard]
theorem zgw {t t':TypeId} {k:IntKind} {x y:Operand} {a b:Int} (ho:o.op=.binOp .neq t x y t') (hx:ρ x=.int k a) (hy:ρ y=.int k b) (hR:R (.bool (a != b)) w):zba P o ρ w R:=by
 refine zq (v:=.bool (a != b)) (w':=w) ?_ hR
 simp [execOp,ho,hx,hy,go_sem,eqGuard]
theorem zfT {c x y:Operand} {v:Value} (ho:o.op=.pick c x y) (hc:ρ c=.bool true) (hx:ρ x=v) (hR:R v w):zba P o ρ w R:=by
 refine zq (v:=v) (w':=w) ?_ hR
 simp [execOp,ho,hc,hx,go_sem]
theorem zcZ {c x y:Operand} {v:Value} (ho:o.op=.pick c x y) (hc:ρ c=.bool false) (hy:ρ y=v) (hR:R v w):zba P o ρ w R:=by
 refine zq (v:=v) (w':=w) ?_ hR
 simp [execOp,ho,hc,hy,go_sem]
theorem zbF {x:Operand} {t e:TypeId} (ht:P.underlying t=some (.slice e)) {A:Option Addr} {n c:Nat} (ho:o.op=.call { callee:=.builtin .len,args:=#[x],argTypes:=#[t] }) (hx:ρ x=.slice A n c) (hR:R (.int .i64 (n:Int)) w):zba P o ρ w R:=by
 refine zq (v:=.int .i64 (n:Int)) (w':=w) ?_ hR
 simp [execOp,ho,hx,resolve,invoke,go_sem,Builtin.len_,builtin,Builtin.lenOf,run_underlying ht]
theorem zdi {t t':TypeId} {x y:Operand} {a b:Int} (ho:o.op=.binOp .sub t x y t') (hx:ρ x=.int .i64 a) (hy:ρ y=.int .i64 b) (h0 : -9223372036854775808≤a - b) (h1:a - b≤9223372036854775807) (hR:R (.int .i64 (a - b)) w):zba P o ρ w R:=by
 refine zq (v:=.int .i64 (a - b)) (w':=w) ?_ hR
 have hw:IntKind.i64.wrap (a - b)=a - b:=IntWalk.i64_in _ (by omega)
 simp [execOp,ho,hx,hy,go_sem,hw]
theorem Elem.size_ {t e:TypeId} {bytes:Nat} {z:Value} (E:Elem P t e bytes z) (w:World):(sizeOf e).run P w=.ok 1 w:=by
 obtain ⟨i,h1,_,h3,_⟩:=E.info
 simp [sizeOf,typeInfo,h1,h3]
theorem zcH {t e:TypeId} {bytes:Nat} {z:Value} (E:Elem P t e bytes z) {x y:Operand} {A:Option Addr} {n c h:Nat} (ho:o.op=.slice t x none (some y) none) (hx:ρ x=.slice A n c) (hy:ρ y=.int .i64 (h:Int)) (hc:h≤c)
  (hR:R (.slice A h c) w):zba P o ρ w R:=by
 refine zL ho hx (lo':=none) rfl (hi':=some (.int .i64 (h:Int))) (by simp [hy]) (mx':=none) rfl (v:=.slice A h c) (w':=w) ?_ hR
 have ht:=E.under
 have he:P.elem t=e:=by simp [Program.elem,ht]
 rw [run_sliceAt_slice w t _ _ _ _ (by rw [he];exact ht),run_slice_h w t A n c (by rw [he];exact ht) .i64 (h:Int) (by omega) (by omega),he,E.size_]
 simp [sliced]
 intro _
 cases A <;> simp [Addr.add]
theorem zcd {t t':TypeId} {x y:Operand} {a b:Int} (ho:o.op=.binOp .add t x y t') (hx:ρ x=.int .i64 a) (hy:ρ y=.int .i64 b) (h0 : -9223372036854775808≤a+b) (h1:a+b≤9223372036854775807) (hR:R (.int .i64 (a+b)) w):zba P o ρ w R:=by
 refine zq (v:=.int .i64 (a+b)) (w':=w) ?_ hR
 have hw:IntKind.i64.wrap (a+b)=a+b:=IntWalk.i64_in _ (by omega)
 simp [execOp,ho,hx,hy,go_sem,hw]
end
structure Fact where
 holds:Value→World→Prop
 stays:∀ v w w',holds v w→Below w.heap.size w w'→holds v w'
def Fact.any:Fact:=⟨fun _ _=>True,fun _ _ _ _ _=>trivial⟩
def Fact.is (u:Value):Fact:=⟨fun v _=>v=u,fun _ _ _ h _=>h⟩
def IsB (l:List UInt8) (v:Value) (w:World):Prop:=∃ A c,v=.slice A l.length c∧(A=none→l.length=0)∧l.length≤c∧c≤maxLen∧Lies w A (l.map bv)
theorem IsB.below {l:List UInt8} {v:Value} {w w':World} (h:IsB l v w) (hb:Below w.heap.size w w'):IsB l v w':=by
 obtain ⟨A,c,h1,h2,h3,h4,h5⟩:=h
 exact ⟨A,c,h1,h2,h3,h4,h5.below hb⟩
def Fact.bytes (l:List UInt8):Fact:=⟨IsB l,fun _ _ _ h hb=>h.below hb⟩
def facts (L:List Fact) (i:Nat):Value→World→Prop:=(L.getD i Fact.any).holds
theorem RetB.isB {w w':World} {l:List UInt8} {e:Ending} (h:RetB w l e w'):∃ v,e=.returned v∧IsB l v w'∧Below w.heap.size w w':=by
 obtain ⟨A,c,h1,h2,h3,h4,h5,h6⟩:=h
 exact ⟨_,h1,⟨A,c,rfl,h2,h3,h4,h5⟩,h6⟩
theorem IsB.text {P:Program} {w:World} {l:List UInt8} {v:Value} (h:IsB l v w) (src e dst:TypeId) (hs:P.underlying src=some (.slice e)) (he:P.underlying e=some (.int .u8)) (hd:P.underlying dst=some .string) :
  (convert src dst v).run P w=.ok (.string ⟨l.toArray⟩) w:=by
 obtain ⟨A,c,rfl,_,_,_,h5⟩:=h
 exact run_text w src e dst hs he hd A _ c l rfl h5
theorem IsB.ret {w w':World} {l:List UInt8} {v:Value} (h:IsB l v w') (hb:Below w.heap.size w w'):RetB w l (.returned v) w':=by
 obtain ⟨A,c,rfl,h2,h3,h4,h5⟩:=h
 exact ⟨A,c,rfl,h2,h3,h4,h5,hb⟩
def zr (vs:Nat→Value):List (Option Tmp)→Nat→Act→Act
 | [],_,a=>a
 | d::r,i,a=>zr vs r (i+1) (a.put d (vs i))
theorem zk0 (vs:Nat→Value) (d:Option Tmp):∀ (l:List (Option Tmp)) (i:Nat) (a:Act),zr vs (l ++ [d]) i a=(zr vs l i a).put d (vs (i+l.length)):=by
 intro l
 induction l with
 | nil=>intro i a;rfl
 | cons x l ih=>intro i a;show zr vs (l ++ [d]) (i+1) (a.put x (vs i))=_;rw [ih];simp only [zr,List.length_cons];congr 2;omega
theorem zjo (ops:Array Oper) (vs:Nat→Value) (a:Act):∀ n,n≤ops.size→puts ops (fun _=>true) vs n a=zr vs ((ops.toList.take n).map (·.dst)) 0 a:=by
  intro n
  induction n with
  | zero=>intro _;rfl
  | succ n ih =>
   intro hn
   have hlt:n < ops.toList.length:=by simp;omega
   rw [puts,if_pos rfl,ih (by omega),List.take_succ_eq_append_getElem hlt,List.map_append,List.map_cons,List.map_nil,zk0]
   have h1:rdst ops n=ops.toList[n].dst:=by unfold rdst;rw [Array.getElem?_eq_getElem (by omega)];simp
   have h2:((ops.toList.take n).map (·.dst)).length=n:=by rw [List.length_map,List.length_take];omega
   rw [h1,h2,Nat.zero_add]
theorem zmf (ops:Array Oper) (vs:Nat→Value) (a:Act):puts ops (fun _=>true) vs ops.size a=zr vs (ops.toList.map (·.dst)) 0 a:=by
 rw [zjo ops vs a ops.size (Nat.le_refl _),List.take_of_length_le (by simp)]
theorem zft {P:Program} {ops:Array Oper} {Q:Exit→Act→World→Prop} {a0:Act} {w0:World} (L:List Fact) (ds:List (Option Tmp))
  (hok:zbl ops a0.tmps.size=true) (hgd:zbQ ops=true) (hds:ops.toList.map (·.dst)=ds) (hsteps:zcc P ops (facts L) a0 w0 0 ops.toList)
  (hfin:∀ (vs:Nat→Value) (w:World),Below w0.heap.size w0 w→(∀ i,i < ds.length→facts L i (vs i) w)→Q .normal (zr vs ds 0 a0) w) :
  wpAny P .any ops Q ops.size (Array.replicate ops.size false) a0 { w0 with drawn:=w0.drawn+1 }:=
 zeT (facts L) hok hgd (fun i v w w' h hb=>(L.getD i Fact.any).stays v w w' h hb) hsteps (fun vs w hb h=>by
  subst hds
  rw [zmf]
  exact hfin vs w hb fun i hi=>h i (by simpa using hi))
theorem wp_region_list {P:Program} {ops:Array Oper} {Q:Exit→Act→World→Prop} {id:Nat} {a0:Act} {w0:World} (L:List Fact) (ds:List (Option Tmp)) (hm:P.follows .mixedOrders=true)
  (hok:zbl ops a0.tmps.size=true) (hgd:zbQ ops=true) (hds:ops.toList.map (·.dst)=ds) (hsteps:zcc P ops (facts L) a0 w0 0 ops.toList)
  (hfin:∀ (vs:Nat→Value) (w:World),Below w0.heap.size w0 w→(∀ i,i < ds.length→facts L i (vs i) w)→Q .normal (zr vs ds 0 a0) w) :
  (Code.region id ops true).wp P Q a0 w0:=wp_region_any hm (zft L ds hok hgd hds hsteps hfin)
theorem zdZ {P:Program} {ops:Array Oper} {Q:Exit→Act→World→Prop} {a0:Act} {w0:World} (n:Nat) (L:List Fact) (ds:List (Option Tmp))
  (hok:zbl ops a0.tmps.size=true) (hgd:zbQ ops=true) (hfo:zgv ops n=true) (hds:(ops.toList.take n).map (·.dst)=ds) (hsteps:zcc P ops (facts L) a0 w0 0 (ops.toList.take n))
  (hfin:∀ (vs:Nat→Value) (w:World),Below w0.heap.size w0 w→(∀ i,i < ds.length→facts L i (vs i) w)→wpList P ops Q (ops.toList.drop n) (zr vs ds 0 a0) w) :
  wpAny P .any ops Q ops.size (Array.replicate ops.size false) a0 { w0 with drawn:=w0.drawn+1 }:=by
 have hn:n < ops.size:=by
  have h:=hfo
  unfold zgv at h
  simp only [Bool.and_eq_true,decide_eq_true_eq] at h
  exact h.1.1.1
 refine zfs n (facts L) hok hgd hfo (fun i v w w' h hb=>(L.getD i Fact.any).stays v w w' h hb) hsteps (fun vs w hb h=>?_)
 subst hds
 rw [zjo ops vs a0 n (by omega)]
 exact hfin vs w hb fun i hi=>h i (by rw [List.length_map,List.length_take] at hi;omega)
theorem zB {P:Program} {ops:Array Oper} {Q:Exit→Act→World→Prop} {id:Nat} {a0:Act} {w0:World} (n:Nat) (L:List Fact) (ds:List (Option Tmp)) (hm:P.follows .mixedOrders=true)
  (hok:zbl ops a0.tmps.size=true) (hgd:zbQ ops=true) (hfo:zgv ops n=true) (hds:(ops.toList.take n).map (·.dst)=ds) (hsteps:zcc P ops (facts L) a0 w0 0 (ops.toList.take n))
  (hfin:∀ (vs:Nat→Value) (w:World),Below w0.heap.size w0 w→(∀ i,i < ds.length→facts L i (vs i) w)→wpList P ops Q (ops.toList.drop n) (zr vs ds 0 a0) w) :
  (Code.region id ops true).wp P Q a0 w0:=wp_region_any hm (zdZ n L ds hok hgd hfo hds hsteps hfin)
end Go.Proofs.YtblpkmmhmdpkjaaGreatDoor
namespace Go.Proofs.YtblpkmmhmdpkjaaGreatDoor
open Go.RowKit Go.ChangeShapes Go.WideShapes Go.ChangeAt
section
variable {H:Type} {enc:TypeId × Value→H} {P:Program}
theorem zeU (hl:laidOutB P=true) {W W':World} (hb:Below W.heap.size W W') :
  ∀ {ts:List TypeId} {vs:List Value} {ds:List (DataW H)} {ps:List MemPlace},(ts.all fun t=>P.readableRec t && decide (t < P.types.size))=true →
   DataW.TrodAll enc P W 0 (fun _=>true) true ts vs ds ps→(∀ x∈ps,x.block < W.heap.size)→DataW.TrodAll enc P W' 0 (fun b=>decide (b < W.heap.size)) true ts vs ds ps
 | [],_,_,_,_,h,_=>by
  obtain ⟨rfl,rfl,rfl⟩:=trodAll_nil h
  exact rfl
 | t::ts,_,_,_,hr,h,hlt=>by
  obtain ⟨v,vs1,d,ds1,a,b,rfl,rfl,rfl,h1,h2⟩:=trodAll_cons h
  simp only [List.all_cons,Bool.and_eq_true,decide_eq_true_eq] at hr
  exact ⟨a,b,Below.trod hl hr.1.1 hr.1.2 h1 hb (fun x hx=>hlt x (List.mem_append_left _ hx)),zeU hl hb hr.2 h2 (fun x hx=>hlt x (List.mem_append_right _ hx)),rfl⟩
theorem zqN {f:Func} {s:ChangeSpec} {tb:TypeId} {W W':World} {args:Array Value} {ds:List (DataW H)} {before:List MemPlace} (hl:laidOutB P=true) (htb:P.underlying tb=some .bool)
  (hrt:f.resultTypes = #[tb]) (hpar:(f.params.toList.all fun t=>P.readableRec t && decide (t < P.types.size))=true) (hvars:s.vars=[])
  (hW:DataW.Whole enc P f.params.toList s.vars false W args.toList ds [] before) (hfn:s.fn H (ds ++ [])={ results:=[.lit (.bool true)],args:=ds }) (hb:Below W.heap.size W W') :
  s.post enc P f false true false false W args (.bool true) W':=by
 obtain ⟨p,q,hA,hV,hpq,hfz,hnd⟩:=hW
 have hW:DataW.Whole enc P f.params.toList s.vars false W args.toList ds [] before:=⟨p,q,hA,hV,hpq,hfz,hnd⟩
 refine ⟨ds,[],before,[],p,[],hW,?_,?_,?_,hb.frame _,fun h=>by cases h⟩
 ·rw [hfn,hrt]
  exact trodAll_cons_mk (shut_bool htb _) trodAll_mk0
 ·rw [hfn]
  exact zeU hl hb hpar hA fun x hx=>hW.lt x (by rw [hpq];exact List.mem_append_left _ hx)
 ·rw [hfn,hvars]
  rfl
theorem zoC {P:Program} {ps:Array TypeId} {j:Nat} {t:TypeId} (h:(ps.toList.all fun u=>!P.wantsStandIn u)=true) (ht:ps[j]? = some t):P.wantsStandIn t=false:=by
 have:=List.all_eq_true.1 h t (by simpa using Array.mem_of_getElem? ht)
 simpa using this
end
end Go.Proofs.YtblpkmmhmdpkjaaGreatDoor
namespace Go.Proofs.YtblpkmmhmdpkjaaGreatDoor
open Go.RowKit
theorem wf_i64 {x:Int} (h:(Lit.int .i64 x).wf=true) : -9223372036854775808≤x∧x≤9223372036854775807:=by
 simpa [Lit.wf,IntKind.min,IntKind.max,IntKind.signed,IntKind.bits] using h
theorem own:ownKnob Tryz.prog.godebug=none:=by kernel_rfl
theorem laidOut:laidOutB Tryz.prog=true:=by kernel_rfl
theorem zQ {k:IntKind} {a b:Int} (h:a=b):Ending.returned (.int k a)=.returned (.int k b):=by rw [h]
theorem zce {a b:Bool} (h:a=b):Ending.returned (.bool a)=.returned (.bool b):=by rw [h]
theorem za {a b c:World} (h:Below a.heap.size a b) (k:Below b.heap.size b c):Below a.heap.size a c:=h.trans (k.mono h.size)
theorem zeB {P:Program} {id:Nat} {Q:Exit→Act→World→Prop} {a:Act} {w:World} {l:List Oper} (n:Nat) (hm:P.follows .mixedOrders=true) (hB:Region.lexTailB .any l.toArray n=true)
  (h:wpStill P l.toArray w.drew (fun a'=>wpList P l.toArray Q (l.drop n) a' w.drew) (l.take n) a):(Code.region id l.toArray true).wp P Q a w:=wp_region_still_tail n hm hB h
theorem zso (r B S:Nat) (h0:B % 2 ^ r=0) (h1:S < 2 ^ r) (h2:B+S < 256):bits .or .u8 (B:Int) (S:Int)=((B+S:Nat):Int):=by
 rw [u8_or _ _ (by omega) (by omega) (by omega) (by omega),Int.toNat_natCast,Int.toNat_natCast,nat_join r B S h0 h1]
theorem own_drewN {w:World} {base size n:Nat} {e:TypeId} {v:Value} {xs:List Value} (h:w.ownsRow base e size v n xs) (q:Nat):(w.drewN q).ownsRow base e size v n xs:=h
def RetE (w:World) (p:List UInt8 × Int) (e:Ending) (w':World):Prop:=∃ v,e=.returned (.tuple #[v,.int .i64 p.2])∧IsB p.1 v w'∧Below w.heap.size w w'
theorem zdz (w:World):IsB [] (.slice none 0 0) w:=⟨none,0,rfl,by simp,by simp,by unfold maxLen;omega,Lies.nil⟩
theorem RetE.nil {w w':World} (n:Int) (hb:Below w.heap.size w w'):RetE w ([],n) (.returned (.tuple #[.slice none 0 0,.int .i64 n])) w':=⟨_,rfl,zdz _,hb⟩
theorem zoD {w:World} {g:Nat} {t:TypeId} {l:List UInt8} {m:Nat} (h:Row w g t (l.map bv)) (hl:l.length=m) (hm:m≤1000000):IsB l (.slice (some ⟨g,0,none⟩) m m) w:=by
 subst hl
 exact ⟨_,_,rfl,by simp,Nat.le_refl _,by unfold maxLen;omega,by simpa using h.lies 0⟩
theorem zcz {w:World} {base:Nat} {e:TypeId} {v:Value} {n:Nat} {l:List UInt8} (h:w.ownsRow base e 1 v n (l.map bv)):IsB l v w:=by
 obtain ⟨v',h1,h2,_⟩:=(zgs (w0:=w) (l:=l) h (Below.refl _ _)).isB
 injection h1 with h1
 subst h1
 exact h2
theorem zsp (w:World) (t:TypeId) (l:List UInt8) (m:Nat) (hl:l.length=m) (hm:m≤1000000):IsB l (.slice (some ⟨w.heap.size,0,none⟩) m m) (w.alloc (.cells (l.map bv).toArray t)):=by
 have h:Row (w.alloc (.cells (l.map bv).toArray t)) w.heap.size t (l.map bv):=heap_alloc_new w _
 exact zoD h hl hm
theorem zgx {P:Program} {w:World} {ops:Array Oper} {rest:List Oper} {o:Oper} {a:Act} {Q:Exit→Act→World→Prop} {t e:TypeId} {bytes:Nat} {z:Value} (E:Elem P t e bytes z)
  (hgd:o.guard=none) (x y:Operand) (ho:o.op=.slice t x (some y) none none) (A:Option Addr) (n c k:Nat) (xs:List Value) (hx:a.eval x=.slice A n c) (hy:a.eval y=.int .i64 (k:Int)) (hk:k≤n) (hnc:n≤c)
  (hxs:xs.length=n) (hl:Lies w A xs) (hA:A=none→n=0)
  (h:∀ B,Lies w B (xs.drop k)→(B=none→n - k=0)→wpList P ops Q rest (a.put o.dst (.slice B (n - k) (c - k))) w):wpList P ops Q (o::rest) a w:=by
 have ht:=E.under
 have he:P.elem t=e:=by simp [Program.elem,ht]
 have hrun:(Instr.sliceAt t (.slice A n c) (some (.int .i64 (k:Int))) none none).run P w=.ok (.slice (if c=k then A else A.map (·.add k)) (n - k) (c - k)) w:=by
  rw [run_sliceAt_slice w t _ _ _ _ (by rw [he];exact ht),run_slice_l w t A n c (by rw [he];exact ht) .i64 (k:Int) (by omega) (by omega),he,E.size_]
  simp [sliced]
 refine wpList_plain hgd fun K hK=>?_
 unfold Oper.wp execOp
 simp only [ho,Option.map_some,Option.map_none,hx,hy,hrun,Sem.run_bind,Sem.run_pure,Result.andThen_ok]
 refine hK _ _ (h _ ?_ ?_)
 ·exact hl.drop (by omega)
 ·intro hB
  have:A=none:=by
   split at hB
   ·exact hB
   ·cases A with
    | none=>rfl
    | some ad=>simp at hB
  have:=hA this
  omega
theorem zbr {P:Program} {w:World} {t e:TypeId} {bytes:Nat} {z:Value} (E:Elem P t e bytes z) {A:Option Addr} {n c k:Nat} {l:List UInt8} (hk:k≤n) (hnc:n≤c) (hcm:c≤maxLen) (hxs:l.length=n) (hl:Lies w A (l.map bv)) (hA:A=none→n=0) :
  ∃ v,(∀ W,(Instr.sliceAt t (.slice A n c) (some (.int .i64 (k:Int))) none none).run P W=.ok v W)∧IsB (l.drop k) v w:=by
 have ht:=E.under
 have he:P.elem t=e:=by simp [Program.elem,ht]
 refine ⟨.slice (if c=k then A else A.map (·.add k)) (n - k) (c - k),fun W=>?_,if c=k then A else A.map (·.add k),c - k,?_,?_,?_,by omega,?_⟩
 ·rw [run_sliceAt_slice W t _ _ _ _ (by rw [he];exact ht),run_slice_l W t A n c (by rw [he];exact ht) .i64 (k:Int) (by omega) (by omega),he,E.size_]
  simp [sliced]
 ·rw [List.length_drop,hxs]
 ·intro hB
  have:A=none:=by
   split at hB
   ·exact hB
   ·cases A with
    | none=>rfl
    | some ad=>simp at hB
  have:=hA this
  rw [List.length_drop,hxs]
  omega
 ·rw [List.length_drop,hxs];omega
 ·rw [List.map_drop];exact hl.drop (by rw [List.length_map];omega)
theorem zk1 {P:Program} {w:World} {t e:TypeId} {bytes:Nat} {z:Value} (E:Elem P t e bytes z) {A:Option Addr} {n c i k:Nat} {l:List UInt8} (hi:i≤k) (hk:k≤n) (hnc:n≤c) (hcm:c≤maxLen) (hxs:l.length=n) (hl:Lies w A (l.map bv)) (hA:A=none→n=0) :
  ∃ v,(∀ W,(Instr.sliceAt t (.slice A n c) (some (.int .i64 (i:Int))) (some (.int .i64 (k:Int))) none).run P W=.ok v W)∧IsB ((l.drop i).take (k - i)) v w:=by
 have ht:=E.under
 have he:P.elem t=e:=by simp [Program.elem,ht]
 have hlen:((l.drop i).take (k - i)).length=k - i:=by rw [List.length_take,List.length_drop,hxs];omega
 refine ⟨.slice (if c=i then A else A.map (·.add i)) (k - i) (c - i),fun W=>?_,if c=i then A else A.map (·.add i),c - i,?_,?_,?_,by omega,?_⟩
 ·rw [run_sliceAt_slice W t _ _ _ _ (by rw [he];exact ht),run_slice_lh W t A n c (by rw [he];exact ht) .i64 .i64 (i:Int) (k:Int) (by omega) (by omega) (by omega),he,E.size_]
  simp [sliced]
 ·rw [hlen]
 ·intro hB
  have:A=none:=by
   split at hB
   ·exact hB
   ·cases A with
    | none=>rfl
    | some ad=>simp at hB
  have:=hA this
  rw [hlen]
  omega
 ·rw [hlen];omega
 ·rw [List.map_take,List.map_drop];exact (hl.drop (by rw [List.length_map];omega)).take _
theorem zjp {P:Program} {w:World} {ops:Array Oper} {rest:List Oper} {o:Oper} {a:Act} {Q:Exit→Act→World→Prop} {t e:TypeId} {bytes:Nat} {z:Value} (E:Elem P t e bytes z)
  (hgd:o.guard=none) (l c:Operand) (hop:o.op=Op.makeSlice t l c) (kl kc:IntKind) (C:Int) (n:Nat) (base:Nat) (w0:World)
  (hl:a.eval l=.int kl 0) (hc:a.eval c=.int kc C) (hC:C=(n:Int)) (hn:n≤1000000000) (hby:bytes≤100) (hb:Below base w0 w) (hB:base≤w.heap.size)
  (h:∀ w',w'.ownsRow base e 1 (.slice (some ⟨w.heap.size,0,none⟩) 0 n) 0 []→Below base w0 w'→base≤w'.heap.size→wpList P ops Q rest (a.put o.dst (.slice (some ⟨w.heap.size,0,none⟩) 0 n)) w') :
  wpList P ops Q (o::rest) a w:=by
 obtain ⟨i,h1,h2,h3,h4⟩:=E.info
 have hle:bytes*n≤100*n:=Nat.mul_le_mul_right _ hby
 refine wpList_make_own w hgd l c t hop base e i z 1 E.under h1 h2 h3 kl kc C n hl hc hC (by rw [h4];omega) (by unfold maxLen;omega) hB ?_
 intro w' hown hg
 exact h w' hown (hb.grown hg hB fun k hk=>by cases hk) (Nat.le_trans hB hg.size)
theorem Tryz.infoB:(Tryz.prog.info? 5).map (fun i=>(i.zero,i.size,i.bytes))=some (some (bv 0),1,1):=by kernel_rfl
theorem elemB:Elem Tryz.prog 38 5 1 (bv 0):=by
 obtain ⟨i0,hi,hz0,hz1,hz2⟩:=info_parts Tryz.infoB
 exact ⟨Tryz.underlying38,rfl,i0,hi,hz0,hz1,hz2⟩
theorem ziG {w:World} {l:List UInt8} {v:Value} (h:IsB l v w):(convert 38 9 v).run Tryz.prog w=.ok (.string ⟨l.toArray⟩) w:=h.text _ _ _ Tryz.underlying38 Tryz.underlying5 Tryz.underlying9
def RetOwn (w:World) (l:List UInt8) (e:Ending) (w':World):Prop:=∃ v,e=.returned v∧w'.ownsRow w.heap.size 5 1 v l.length (l.map bv)∧Below w.heap.size w w'
theorem RetOwn.retB {w w':World} {l:List UInt8} {e:Ending} (h:RetOwn w l e w'):RetB w l e w':=by
 obtain ⟨v,rfl,h2,h3⟩:=h
 exact zgs h2 h3
theorem zcI {w:World} {g:Nat} {t:TypeId} {xs:List Value} {n base:Nat} (h:Row w g t xs) (hn:xs.length=n) (hb:base≤g) (hm:n≤1000100):w.ownsRow base t 1 (.slice (some ⟨g,0,none⟩) n n) n xs:=
 ⟨by omega,.inr ⟨g,n,xs.toArray,rfl,hb,h,Nat.le_refl _,by unfold maxLen;omega,by simp [hn],by rw [Nat.mul_one];exact List.take_of_length_le (by simp [hn])⟩⟩
theorem own_below {w w':World} {base size n:Nat} {e:TypeId} {v:Value} {xs:List Value} (h:w.ownsRow base e size v n xs) (hb:Below w.heap.size w w'):w'.ownsRow base e size v n xs:=
 ⟨h.1,h.2.elim .inl fun ⟨g,cap,cur,hv,hg,hc,r⟩=>.inr ⟨g,cap,cur,hv,hg,(hb.block g (Array.getElem?_eq_some_iff.1 hc).1).trans hc,r⟩⟩
theorem zbR {w:World} {base base':Nat} {e:TypeId} {v:Value} {n:Nat} {xs:List Value} (hb:base'≤base) (h:w.ownsRow base e 1 v n xs):w.ownsRow base' e 1 v n xs:=
 ⟨h.1,h.2.imp id fun ⟨g,cap,cur,h1,h2,h3⟩=>⟨g,cap,cur,h1,Nat.le_trans hb h2,h3⟩⟩
def OwnB (w:World) (l:List UInt8) (v:Value) (w':World):Prop:=∃ n,w'.ownsRow w.heap.size 5 1 v n (l.map bv)
theorem OwnB.isB {w w':World} {l:List UInt8} {v:Value} (h:OwnB w l v w'):IsB l v w':=h.elim fun _ h=>zcz h
theorem OwnB.nil (w w':World):OwnB w [] (.slice none 0 0) w':=⟨0,World.ownsRow_nil _ _ _ _⟩
theorem OwnB.below {w w1 w2:World} {l:List UInt8} {v:Value} (h:OwnB w l v w1) (hb:Below w1.heap.size w1 w2):OwnB w l v w2:=h.elim fun _ h=>⟨_,own_below h hb⟩
theorem OwnB.base {w0 w w':World} {l:List UInt8} {v:Value} (hb:w0.heap.size≤w.heap.size) (h:OwnB w l v w'):OwnB w0 l v w':=h.elim fun _ h=>⟨_,zbR hb h⟩
def RetEO (w:World) (p:List UInt8 × Int) (e:Ending) (w':World):Prop:=∃ v,e=.returned (.tuple #[v,.int .i64 p.2])∧w'.ownsRow w.heap.size 5 1 v p.1.length (p.1.map bv)∧Below w.heap.size w w'
theorem RetEO.e {w w':World} {p:List UInt8 × Int} {e:Ending} (h:RetEO w p e w'):RetE w p e w':=by
 obtain ⟨v,h1,h2,h3⟩:=h
 exact ⟨v,h1,zcz h2,h3⟩
theorem RetEO.nil {w w':World} (n:Int) (hb:Below w.heap.size w w'):RetEO w ([],n) (.returned (.tuple #[.slice none 0 0,.int .i64 n])) w':=⟨_,rfl,World.ownsRow_nil _ _ _ _,hb⟩
theorem zgy {w w':World} {base base':Nat} {e1 e2:TypeId} {v1 v2:Value} {n m:Nat} {xs ys:List Value} (h1:w.ownsRow base e1 1 v1 n xs) (h2:w.ownsRow base' e2 1 v2 m ys) (hne:e1≠e2) (hg:w.grownBy w' v2.ownBlock):w'.ownsRow base e1 1 v1 n xs:=by
 refine h1.kept hg ?_
 rcases h1.2 with ⟨rfl,_⟩ | ⟨g,cap,cur,rfl,_,hc,_⟩
 ·exact .inl rfl
 ·rcases h2.2 with ⟨rfl,_⟩ | ⟨g2,cap2,cur2,rfl,_,hc2,_⟩
  ·exact .inr (by simp [Value.ownBlock])
  ·refine .inr ?_
   simp only [Value.ownBlock,ne_eq,Option.some.injEq]
   intro h
   rw [h,hc2] at hc
   injection hc with hc
   injection hc with _ hc _
   exact hne hc.symm
theorem zbG {P:Program} {fn:Func} {p u:Tmp} {ty:TypeId} (h:fn.results = #[.cell p ty,.tmp u]) (tmps:Array Value) (w:World) (g:Nat) (t:TypeId) (cs:Array Value) (fr:Nat × Nat) (d:TypeDesc) (v:Value)
  (hp:tmps.getD p undef=.pointer (some ⟨g,0,none⟩)) (hg:w.heap[g]? = some (.cells cs t fr))
  (hu:P.underlying ty=some d) (hd:(match d with | .struct _ | .array _ _=>true | _=>false)=true) (hi:(P.info? ty).map (·.size)=some cs.size) (hv:tmps.getD u undef=v) :
  (results fn tmps).run P w=.ok (.tuple #[.agg cs,v]) w:=by
 rw [results_cell_tmp h,hp,hv]
 simp [asAddr,Result.andThen,run_loadVar_row w g t ty cs fr d hg hu hd hi]
theorem zc0 {fn:Func} {t u v x y:Tmp} (h:fn.results = #[.tmp t,.tmp u,.tmp v,.tmp x,.tmp y]) (tmps:Array Value) (P:Program) (w:World) :
  (results fn tmps).run P w=.ok (.tuple #[tmps.getD t undef,tmps.getD u undef,tmps.getD v undef,tmps.getD x undef,tmps.getD y undef]) w:=by
 simp [results,h]
section
variable {P:Program} {o:Oper} {ρ:Operand→Value} {w:World} {R:Value→World→Prop}
theorem ze {t:TypeId} {x:Operand} {p:Addr} {v:Value} {d:TypeDesc} (ho:o.op=.load t x) (hx:ρ x=.pointer (some p)) (hu:P.underlying t=some d) (hd:(match d with | .struct _ | .array _ _=>true | _=>false)=false)
  (hc:w.cell? p=some v) (hR:R v w):zba P o ρ w R:=by
 refine zq (v:=v) (w':=w) ?_ hR
 have hl:(loadVar t p).run P w=.ok v w:=by
  have ha:(isAgg t).run P w=.ok false w:=by
   unfold isAgg
   rw [Sem.run_bind,run_underlying hu]
   cases d <;> first | rfl | cases hd
  simp [loadVar,ha,hc]
 simp [execOp,ho,hx,Instr.loadAt,Instr.sureAddr,hl]
theorem zbn {t t':TypeId} {x:Operand} {g:Nat} {cs:List Value} {d:TypeDesc} (ho:o.op=.load t x) (hx:ρ x=.pointer (some ⟨g,0,none⟩)) (hu:P.underlying t=some d) (hd:(match d with | .struct _ | .array _ _=>true | _=>false)=true)
  (hi:(P.info? t).map (·.size)=some cs.length) (hr:Row w g t' cs) (hR:R (.agg cs.toArray) w):zba P o ρ w R:=by
 refine zq (v:=.agg cs.toArray) (w':=w) ?_ hR
 have hl:=run_loadVar_row w g t' t cs.toArray (0,0) d hr hu hd (by simpa using hi)
 simp [execOp,ho,hx,Instr.loadAt,Instr.sureAddr,hl]
theorem zF {t e:TypeId} {bytes:Nat} {zv:Value} (E:Elem P t e bytes zv) {x y:Operand} {ad:Addr} {n c k:Nat} (ho:o.op=.indexAddr t x y) (hx:ρ x=.slice (some ad) n c) (hy:ρ y=.int .i64 (k:Int)) (hk:k < n)
  (hR:R (.pointer (some (ad.add k))) w):zba P o ρ w R:=by
 refine zq (v:=.pointer (some (ad.add k))) (w':=w) ?_ hR
 have ht:=E.under
 have hs:=E.size_ w
 have h0:(0:Int)≤(k:Int):=by omega
 have h1:(k:Int) < (n:Int):=by omega
 simp [execOp,ho,hx,hy,go_sem,ht,hs,h0,h1]
end
end Go.Proofs.YtblpkmmhmdpkjaaGreatDoor
namespace Go.Proofs
open Go.Shelf
def Tryz.lays129_ren:Go.Shelf.Ren:=⟨fun | 129=>94 | n=>n,fun | 53=>101 | 3=>3 | 4=>4 | 46=>85 | 5=>5 | 9=>9 | n=>n,fun | n=>n⟩
theorem Tryz.lays129:Go.Proofs.Lays.n129 Tryz.prog Tryz.lays129_ren:={
 mixed:=by kernel_rfl
 f129:=Tryz.func94.trans (congrArg some (by kernel_rfl))
 t3:=Tryz.underlying3
 a3:=Tryz.isAgg3
 z3:=Tryz.sizeOf3
 v3:=Tryz.zeroValue3
 t4:=Tryz.underlying4
 a4:=Tryz.isAgg4
 z4:=Tryz.sizeOf4
 v4:=Tryz.zeroValue4
 t5:=Tryz.underlying5
 a5:=Tryz.isAgg5
 z5:=Tryz.sizeOf5
 v5:=Tryz.zeroValue5
 t9:=Tryz.underlying9
 a9:=Tryz.isAgg9
 z9:=Tryz.sizeOf9
 v9:=Tryz.zeroValue9
 t46:=Tryz.underlying85
 a46:=Tryz.isAgg85
 z46:=Tryz.sizeOf85
 v46:=Tryz.zeroValue85
 t53:=Tryz.underlying101
 a53:=Tryz.isAgg101
 z53:=Tryz.sizeOf101
 v53:=Tryz.zeroValue101 }
theorem Tryz.bits_Len64 (x:Int) (w:World) (h0:0≤x) (h1:x≤18446744073709551615) :
  Calls Tryz.prog 94 #[.int .u64 x] w fun e w'=>e=.returned (.int .i64 (Lib.bitLen x.toNat))∧w'=w:=Any.bits_Len64 Tryz.lays129 x w h0 h1
end Go.Proofs
namespace Go.Proofs.YtblpkmmhmdpkjaaGreatDoor
open Go.RowKit Go.ChangeShapes Go.WideShapes Go.ChangeAt
theorem zk2 {P:Program} {W:World} {n:String} {g m:Nat} {t e:TypeId} {k:IntKind} {zs:List Int} (hg:P.globalNamed n=some g) (ht:(P.globals[g]?).map (·.type)=some t)
  (hu:P.underlying t=some (.array m e)) (he:P.underlying e=some (.int k)) (hc:P.cellsOf e=1) (hct:P.cellsOf t=m) (hm:0 < m)
  (h:laidMet P [(n,.agg (zs.map fun z=>.lit (.int k z)))] W):∃ t',Row W g t' (zs.map (Value.int k)):=by
 obtain ⟨ps,⟨g0,t0,cs,fuel,p,q,hg0,ht0,hv,hd,hq,hps⟩,_,hrow⟩:=h
 obtain rfl:=Option.some.inj (hg.symm.trans hg0)
 obtain rfl:=Option.some.inj (ht.symm.trans ht0)
 obtain ⟨xs,f,rfl,hx,hlen,hn,hel⟩:=DataW.trod_array hu hd
 simp only [Prod.mk.injEq,DataW.agg.injEq] at hx
 have hlz:zs.length=m:=by have:=congrArg List.length hx.1;simp at this;omega
 have hcs:cs.toList=zs.map (Value.int k):=by
  refine List.ext_getElem? fun i=>?_
  by_cases hi:i < m
  ·have h1:=hel i hi
   have hxi:i < xs.length:=by omega
   have hzi:i < zs.length:=by omega
   have hci:i < cs.toList.length:=by omega
   rw [List.getElem?_eq_getElem hxi,hc,Nat.mul_one,List.drop_eq_getElem_cons hci,List.take_succ_cons,List.take_zero] at h1
   obtain ⟨z,e1,e2,_⟩:=DataW.trod_int he h1
   have h2:(zs.map fun z=>(DataW.lit (.int k z):DataW Unit))[i]? = (xs.map (·.1))[i]?:=by rw [hx.1]
   rw [List.getElem?_map,List.getElem?_map,List.getElem?_eq_getElem hxi,List.getElem?_eq_getElem hzi] at h2
   simp only [Option.map_some,Option.some.injEq,e2,DataW.lit.injEq,Lit.int.injEq,true_and] at h2
   simp only [List.cons.injEq,and_true] at e1
   rw [List.getElem?_eq_getElem hci,e1,List.getElem?_map,List.getElem?_eq_getElem hzi,←h2]
   rfl
  ·rw [List.getElem?_eq_none (by omega),List.getElem?_eq_none (by simp;omega)]
 have hin:MemPlace.cell g 0∈ps:=by
  rw [hps]
  refine List.mem_append_left _ (List.mem_append_left _ ?_)
  have hs:0 < cs.size:=by have:cs.toList.length=cs.size:=rfl;omega
  exact MemPlace.mem_row.2 ⟨0,hs,by simp⟩
 obtain ⟨⟨c,t',hb⟩,_⟩:=hrow g 0 hin
 refine ⟨t',?_⟩
 unfold Row
 rw [hb]
 simp only [World.var?,hg,Option.bind_some,hb,Option.some.injEq] at hv
 subst hv
 obtain ⟨l⟩:=c
 simp only at hcs
 rw [hcs]
theorem zd2 {P:Program} (w:World) (t e:TypeId) (n:Nat) (cs:List Value) (k:IntKind) (i:Nat) (h:P.underlying t=some (.array n e)) (hn:i < n) (hs:∀ w,(sizeOf e).run P w=.ok 1 w) (ha:∀ w,(isAgg e).run P w=.ok false w) (v:Value) (hv:cs[i]? = some v) :
  (Instr.index t (.agg cs.toArray) (.int k (i:Int))).run P w=.ok v w:=by
 simp [Instr.index,run_underlying h,asIntOf,hn,go_sem,hs,ha,hv]
end Go.Proofs.YtblpkmmhmdpkjaaGreatDoor
namespace Go.Proofs.YtblpkmmhmdpkjaaGreatDoor
def wtab:List Int:=[1,2,3,4,5,6,7,8,9,10,11,12,13,14,15,16,17,18,19,20,21,22,23,24,26,28,30,32,40,48,56,64]
def wat (i:Nat):Int:=wtab.getD i 0
def wof (c:Int):Int:=if 0≤c∧c < 32 then wat c.toNat else 0
def zbb (x:Int):Int:=match (List.range 32).find? fun i=>wat i == x with | some i=>(i:Int) | none=>-1
def zi (b:Int):Int:=match (List.range 32).find? fun i=>decide (b≤wat i) with | some i=>wat i | none=>0
theorem zmg {c:Nat} (h:c < 32):wof (c:Int)=wat c:=if_pos (by omega)
theorem zgz {c:Int} (h:c < 0∨32≤c):wof c=0:=if_neg (by omega)
theorem zk3 {i:Nat} (h:i < 32):wtab[i]? = some (wat i):=by
 have hl:wtab.length=32:=rfl
 unfold wat
 rw [List.getD_eq_getElem?_getD,List.getElem?_eq_getElem (by omega)];rfl
theorem zjq (i:Nat):0≤wat i∧wat i≤64:=by
 by_cases h:i < 32
 ·exact (show ∀ i:Fin 32,0≤wat i∧wat i≤64 by decide +kernel) ⟨i,h⟩
 ·unfold wat
  rw [List.getD_eq_getElem?_getD,List.getElem?_eq_none (by show 32≤i;omega)]
  simp
theorem zd3 (c:Int):0≤wof c∧wof c≤64:=by
 unfold wof;split
 ·exact zjq _
 ·omega
theorem zqO {x:Int} {k:Nat} (hk:k < 32) (h:wat k=x) (hb:∀ j,j < k→wat j≠x):zbb x=k:=by
 have e:(List.range 32).find? (fun i=>wat i == x)=some k:=List.find?_range_eq_some.2 ⟨by simpa using h,by simpa using hk,fun j hj=>by simpa using hb j hj⟩
 unfold zbb;rw [e]
theorem zm7 {x:Int} (hb:∀ j,j < 32→wat j≠x):zbb x = -1:=by
 have e:(List.range 32).find? (fun i=>wat i == x)=none:=by
  rw [List.find?_eq_none];intro j hj;simpa using hb j (by simpa using hj)
 unfold zbb;rw [e]
theorem zgA {b:Int} {k:Nat} (hk:k < 32) (h:b≤wat k) (hb:∀ j,j < k→wat j < b):zi b=wat k:=by
 have e:(List.range 32).find? (fun i=>decide (b≤wat i))=some k:=List.find?_range_eq_some.2 ⟨by simpa using h,by simpa using hk,fun j hj=>by simpa using hb j hj⟩
 unfold zi;rw [e]
theorem zeV {b:Int} (hb:∀ j,j < 32→wat j < b):zi b=0:=by
 have e:(List.range 32).find? (fun i=>decide (b≤wat i))=none:=by
  rw [List.find?_eq_none];intro j hj;simpa using hb j (by simpa using hj)
 unfold zi;rw [e]
theorem zgB (b:Int):0≤zi b∧zi b≤64:=by
 unfold zi;split
 ·exact zjq _
 ·omega
theorem zqP (x:Int) : -1≤zbb x∧zbb x≤31:=by
 unfold zbb
 split
 ·rename_i i h
  have h1:i∈List.range 32:=List.mem_of_find?_eq_some h
  rw [List.mem_range] at h1
  omega
 ·omega
theorem zs5:∀ i:Fin 32,wat i=if i.val < 24 then (i.val:Int)+1 else if i.val < 28 then 24+2*((i.val:Int) - 23) else 32+8*((i.val:Int) - 27):=by decide +kernel
theorem ztw:∀ x:Fin 32,zbb (wof (x.val:Int))=x.val∧zi (wof (x.val:Int))=wof (x.val:Int)∧1≤wof (x.val:Int):=by decide +kernel
theorem ztx:∀ n:Fin 65,1≤zi (n.val:Int)∧(n.val:Int)≤zi (n.val:Int)∧0≤zbb (zi (n.val:Int))∧(0 < zbb (zi (n.val:Int))→wof (zbb (zi (n.val:Int)) - 1) < n.val) ∧
  (zbb (zi (n.val:Int))=0→n.val≤1):=by decide +kernel
def zY (x:Nat):Nat:=Lib.bitLen x
theorem zm8:zY 0=0:=rfl
theorem zm9 {x:Nat} (h0:x≠0) (h:x < 2 ^ 64):zY x=1+zY (x / 2):=Lib.bitLen_half x h0 h
theorem zc1 {x k:Nat} (hk:k≤64) (h:x < 2 ^ k):zY x≤k:=Lib.bitLen_le x k hk h
theorem zjr {x:Nat} (h:x < 2 ^ 64) (h0:x≠0):1≤zY x∧2 ^ (zY x - 1)≤x∧x < 2 ^ zY x:=Lib.bitLenAux_bounds 64 x h h0
theorem zdA {x:Nat} (h:x < 2 ^ 64):x < 2 ^ zY x:=by
 by_cases h0:x=0
 ·subst h0;decide
 ·exact (zjr h h0).2.2
theorem zcE {x:Nat} (h:x < 2 ^ 64):zY x≤64:=zc1 (by omega) h
theorem zeh {x y:Nat} (hy:y < 2 ^ 64) (h:x≤y):zY x≤zY y:=zc1 (zcE hy) (Nat.lt_of_le_of_lt h (zdA hy))
theorem zeW {x k:Nat} (hx:x < 2 ^ 64) (hk:k≤64):zY x≤k↔x < 2 ^ k:=
 ⟨fun h=>Nat.lt_of_lt_of_le (zdA hx) (Nat.pow_le_pow_right (by omega) h),zc1 hk⟩
theorem zmh {x y:Nat} (hx:x < 2 ^ 64) (hy:y < 2 ^ 64):zY (x ||| y)=max (zY x) (zY y):=by
 have ho:x ||| y < 2 ^ 64:=Nat.or_lt_two_pow hx hy
 have h1:zY (x ||| y)≤max (zY x) (zY y):=by
  refine zc1 (by have:=zcE hx;have:=zcE hy;omega) (Nat.or_lt_two_pow ?_ ?_)
  ·exact Nat.lt_of_lt_of_le (zdA hx) (Nat.pow_le_pow_right (by omega) (by omega))
  ·exact Nat.lt_of_lt_of_le (zdA hy) (Nat.pow_le_pow_right (by omega) (by omega))
 have h2:=zeh ho (Nat.left_le_or (n:=x) (m:=y))
 have h3:=zeh ho (Nat.right_le_or (n:=x) (m:=y))
 omega
theorem zoE {x y:Nat} (hx:x < 2 ^ 64) (hy:y < 2 ^ 64):zY (max x y)=max (zY x) (zY y):=by
 rcases Nat.le_total x y with h | h
 ·have:=zeh hy h;rw [Nat.max_eq_right h];omega
 ·have:=zeh hx h;rw [Nat.max_eq_left h];omega
def zbS (l:List Nat):Nat:=l.foldl (fun n x=>max n (zY x)) 0
def wall (l:List Nat):Nat:=l.foldl (fun n x=>n ||| x) 0
def wtop (l:List Nat):Nat:=l.foldl (fun n x=>max n x) 0
theorem zoF (l:List Nat) (x:Nat):wall (l ++ [x])=wall l ||| x:=by simp [wall]
theorem zoG {l:List Nat} (h:∀ x∈l,x < 2 ^ 64):wall l < 2 ^ 64:=by
 suffices ∀ (l:List Nat) (a:Nat),a < 2 ^ 64→(∀ x∈l,x < 2 ^ 64)→l.foldl (fun n x=>n ||| x) a < 2 ^ 64 from this l 0 (by decide) h
 intro l
 induction l with
 | nil=>exact fun a ha _=>ha
 | cons x l ih=>exact fun a ha hl=>ih _ (Nat.or_lt_two_pow ha (hl x (by simp))) fun y hy=>hl y (by simp [hy])
theorem zjs {l:List Nat} (h:∀ x∈l,x < 2 ^ 64):zY (wall l)=zbS l:=by
 suffices ∀ (l:List Nat) (a:Nat),a < 2 ^ 64→(∀ x∈l,x < 2 ^ 64)→zY (l.foldl (fun n x=>n ||| x) a)=l.foldl (fun n x=>max n (zY x)) (zY a) from this l 0 (by decide) h
 intro l
 induction l with
 | nil=>exact fun a ha _=>rfl
 | cons x l ih=>exact fun a ha hl=>by rw [List.foldl_cons,List.foldl_cons,ih _ (Nat.or_lt_two_pow ha (hl x (by simp))) fun y hy=>hl y (by simp [hy]),zmh ha (hl x (by simp))]
theorem zk4 {l:List Nat} (h:∀ x∈l,x < 2 ^ 64):wtop l < 2 ^ 64:=by
 suffices ∀ (l:List Nat) (a:Nat),a < 2 ^ 64→(∀ x∈l,x < 2 ^ 64)→l.foldl (fun n x=>max n x) a < 2 ^ 64 from this l 0 (by decide) h
 intro l
 induction l with
 | nil=>exact fun a ha _=>ha
 | cons x l ih=>exact fun a ha hl=>ih _ (Nat.max_lt.2 ⟨ha,hl x (by simp)⟩) fun y hy=>hl y (by simp [hy])
theorem zeX {l:List Nat} (h:∀ x∈l,x < 2 ^ 64):zY (wtop l)=zbS l:=by
 suffices ∀ (l:List Nat) (a:Nat),a < 2 ^ 64→(∀ x∈l,x < 2 ^ 64)→zY (l.foldl (fun n x=>max n x) a)=l.foldl (fun n x=>max n (zY x)) (zY a) from this l 0 (by decide) h
 intro l
 induction l with
 | nil=>exact fun a ha _=>rfl
 | cons x l ih=>exact fun a ha hl=>by rw [List.foldl_cons,List.foldl_cons,ih _ (Nat.max_lt.2 ⟨ha,hl x (by simp)⟩) fun y hy=>hl y (by simp [hy]),zoE ha (hl x (by simp))]
theorem zei {l:List Nat} (h:∀ x∈l,x < 2 ^ 64):zbS l≤64:=by rw [←zjs h];exact zcE (zoG h)
end Go.Proofs.YtblpkmmhmdpkjaaGreatDoor
namespace Go.Proofs.YtblpkmmhmdpkjaaGreatDoor
open Go.RowKit
def WTab (w:World):Prop:=∃ t,Row w 1 t (wtab.map (Value.int .i64))
theorem WTab.below {B:Nat} {w w':World} (h:WTab w) (hb:Below B w w') (hB:1 < B):WTab w':=h.elim fun t h=>⟨t,h.below hb hB⟩
theorem WTab.lt {w:World} (h:WTab w):1 < w.heap.size:=h.elim fun _ h=>h.lt
theorem WTab.cell {w:World} (h:WTab w) {i:Nat} (hi:i < 32):w.cell? ⟨1,i,none⟩=some (.int .i64 (wat i)):=by
 obtain ⟨t,h⟩:=h
 rw [h.cell,List.getElem?_map,zk3 hi];rfl
theorem zhL (c:Int) (w:World) (ht:WTab w) (h0 : -9223372036854775808≤c) (h1:c≤9223372036854775807) :
  Calls Tryz.prog 145 #[.int .i64 c] w fun e w'=>e=.returned (.int .i64 (wof c))∧w=w':=by
 rcases (by omega:c < 0∨32≤c∨(0≤c∧c < 32)) with h | h | h
 ·have e:=Lib.hid (zgz (c:=c) (by omega))
  go_enter Tryz.func145,Tryz.ntmps145
  go_wp2
  go_ret
  exact ⟨zQ e.out.symm,rfl⟩
 ·have e:=Lib.hid (zgz (c:=c) (by omega))
  have h2:decide (c < 0)=false:=by simp;omega
  go_enter Tryz.func145,Tryz.ntmps145
  go_wp2
  go_ret
  exact ⟨zQ e.out.symm,rfl⟩
 ·obtain ⟨n,rfl⟩:∃ n:Nat,c=n:=⟨c.toNat,by omega⟩
  have hn:n < 32:=by omega
  have e:=Lib.hid (zmg hn)
  have hc:=ht.cell hn
  clear h
  go_enter Tryz.func145,Tryz.ntmps145
  go_wp2
  go_ret
  exact ⟨zQ e.out.symm,rfl⟩
theorem zgC (c:Int) (w:World) (h0 : -9223372036854775808≤c) (h1:c≤9223372036854775807) :
  Calls Tryz.prog 56 #[.int .i64 c] w fun e w'=>e=.returned (.int .i64 (wof c))∧w=w':=by
 rcases (by omega:c < 0∨31 < c∨(0≤c∧c≤31)) with h | h | h
 ·have e:=Lib.hid (zgz (c:=c) (by omega))
  go_enter Tryz.func56,Tryz.ntmps56
  go_wp2
  go_ret
  exact ⟨zQ e.out.symm,rfl⟩
 ·have e:=Lib.hid (zgz (c:=c) (by omega))
  have h2:decide (c < 0)=false:=by simp;omega
  go_enter Tryz.func56,Tryz.ntmps56
  go_wp2
  go_ret
  exact ⟨zQ e.out.symm,rfl⟩
 ·obtain ⟨n,rfl⟩:∃ n:Nat,c=n:=⟨c.toNat,by omega⟩
  have hn:n < 32:=by omega
  have e:=Lib.hid ((zmg hn).trans (zs5 ⟨n,hn⟩))
  rcases (by omega:n < 24∨(24≤n∧n < 28)∨28≤n) with h3 | ⟨h3,h4⟩ | h3
  ·go_enter Tryz.func56,Tryz.ntmps56
   go_wp2
   go_ret
   exact ⟨zQ (by rw [e.out,if_pos h3]),rfl⟩
  ·have h5:¬n < 24:=by omega
   go_enter Tryz.func56,Tryz.ntmps56
   go_wp2
   go_ret
   exact ⟨zQ (by rw [e.out,if_neg h5,if_pos h4]),rfl⟩
  ·have h5:¬n < 24:=by omega
   have h6:¬n < 28:=by omega
   go_enter Tryz.func56,Tryz.ntmps56
   go_wp2
   go_ret
   exact ⟨zQ (by rw [e.out,if_neg h5,if_neg h6]),rfl⟩
def zsq (x:Int) (i:Value):Prop:=∃ k:Nat,i=.int .i64 k∧k≤32∧∀ j,j < k→wat j≠x
theorem zeY (x:Int) (w:World) (ht:WTab w) :
  Calls Tryz.prog 142 #[.int .i64 x] w fun e w'=>e=.returned (.int .i64 (zbb x))∧w=w':=by
 have hi:=fun (k:Nat) (hk:k < 32)=>zd2 (P:=Tryz.prog) w 195 3 32 (wtab.map (Value.int .i64)) .i64 k Tryz.underlying195 hk (fun _=>by kernel_rfl) (fun _=>by kernel_rfl) (.int .i64 (wat k)) (by rw [List.getElem?_map,zk3 hk];rfl)
 have HI:=Lib.hid hi
 clear hi
 obtain ⟨t,hrow⟩:=ht
 have hblk:w.heap[1]? = some (.cells (wtab.map (Value.int .i64)).toArray t (0,0)):=hrow
 clear hrow
 generalize hcs:(wtab.map (Value.int .i64)).toArray=cs at HI hblk
 have hsz:cs.size=32:=by rw [←hcs];rfl
 have HR:=Lib.hid hblk
 have HZ:=Lib.hid hsz
 clear hcs hsz hblk
 go_enter Tryz.func142,Tryz.ntmps142
 go_wp2_with (refine wpList_load_row rfl 195 (.global 1) rfl 1 rfl t cs (0,0) _ HR.out Tryz.underlying195 rfl (by rw [HZ.out];kernel_rfl) ?_)
 go_loop [6] (zsq x) (fun i=>32 - (intOf i).toNat)
 case atStart=>exact ⟨0,rfl,by omega,fun j hj=>by omega⟩
 case round =>
  obtain ⟨k,rfl,hk,hb⟩:=hrel
  have HB:=Lib.hid hb
  clear hb
  by_cases hlt:k < 32
  ·have hx:=HI.out k hlt
   have hw:=zjq k
   by_cases hq:wat k=x
   ·have HQ:=Lib.hid hq
    have hq':(wat k == x)=true:=by simpa using hq
    clear hq
    go_wp2
    go_ret
    exact ⟨zQ (zqO hlt HQ.out HB.out).symm,rfl⟩
   ·have HQ:Hid (wat k≠x):=Lib.hid (by omega)
    have hq':(wat k == x)=false:=by simpa using hq
    clear hq
    go_wp2
    go_round
    case rel=>exact ⟨k+1,by go_num,by omega,fun j hj=>by rcases (by omega:j < k∨j=k) with h | rfl;exact HB.out j h;exact HQ.out⟩
    case measure=>simp [intOf];omega
  ·obtain rfl:k=32:=by omega
   go_wp2
   go_ret
   exact ⟨zQ (zm7 HB.out).symm,rfl⟩
def zhM (x:Int) (i:Value):Prop:=∃ k:Nat,i=.int .i64 k∧k≤32∧∀ j,j < k→wat j < x
theorem zdB (x:Int) (w:World) (ht:WTab w) :
  Calls Tryz.prog 138 #[.int .i64 x] w fun e w'=>e=.returned (.int .i64 (zi x))∧w=w':=by
 have hi:=fun (k:Nat) (hk:k < 32)=>zd2 (P:=Tryz.prog) w 195 3 32 (wtab.map (Value.int .i64)) .i64 k Tryz.underlying195 hk (fun _=>by kernel_rfl) (fun _=>by kernel_rfl) (.int .i64 (wat k)) (by rw [List.getElem?_map,zk3 hk];rfl)
 have HI:=Lib.hid hi
 clear hi
 obtain ⟨t,hrow⟩:=ht
 have hblk:w.heap[1]? = some (.cells (wtab.map (Value.int .i64)).toArray t (0,0)):=hrow
 clear hrow
 generalize hcs:(wtab.map (Value.int .i64)).toArray=cs at HI hblk
 have hsz:cs.size=32:=by rw [←hcs];rfl
 have HR:=Lib.hid hblk
 have HZ:=Lib.hid hsz
 clear hcs hsz hblk
 go_enter Tryz.func138,Tryz.ntmps138
 go_wp2_with (refine wpList_load_row rfl 195 (.global 1) rfl 1 rfl t cs (0,0) _ HR.out Tryz.underlying195 rfl (by rw [HZ.out];kernel_rfl) ?_)
 go_loop [6] (zhM x) (fun i=>32 - (intOf i).toNat)
 case atStart=>exact ⟨0,rfl,by omega,fun j hj=>by omega⟩
 case round =>
  obtain ⟨k,rfl,hk,hb⟩:=hrel
  have HB:=Lib.hid hb
  clear hb
  by_cases hlt:k < 32
  ·have hx:=HI.out k hlt
   have hw:=zjq k
   by_cases hq:x≤wat k
   ·have HQ:=Lib.hid hq
    have hq':decide (x≤wat k)=true:=by simpa using hq
    clear hq
    go_wp2
    go_ret
    exact ⟨zQ (zgA hlt HQ.out HB.out).symm,rfl⟩
   ·have HQ:Hid (wat k < x):=Lib.hid (by omega)
    have hq':decide (x≤wat k)=false:=by simpa using hq
    clear hq
    go_wp2
    go_round
    case rel=>exact ⟨k+1,by go_num,by omega,fun j hj=>by rcases (by omega:j < k∨j=k) with h | rfl;exact HB.out j h;exact HQ.out⟩
    case measure=>simp [intOf];omega
  ·obtain rfl:k=32:=by omega
   go_wp2
   go_ret
   exact ⟨zQ (zeV HB.out).symm,rfl⟩
theorem zjt (x:Int) (w:World) :
  Calls Tryz.prog 74 #[.int .i64 x] w fun e w'=>e=.returned (.int .i64 (zi x))∧w=w':=by
 go_enter Tryz.func74,Tryz.ntmps74
 go_wp2
 go_loop [3] (zhM x) (fun i=>32 - (intOf i).toNat)
 case atStart=>exact ⟨0,rfl,by omega,fun j hj=>by omega⟩
 case round =>
  obtain ⟨k,rfl,hk,hb⟩:=hrel
  have HB:=Lib.hid hb
  clear hb
  by_cases hlt:k < 32
  ·have hw:=zjq k
   have hof:=zgC (k:Int)
   rw [zmg hlt] at hof
   have HO:=Lib.hid hof
   clear hof
   by_cases hq:x≤wat k
   ·have HQ:=Lib.hid hq
    have hq':decide (x≤wat k)=true:=by simpa using hq
    clear hq
    go_wp2_with (go_at_call 56;refine (HO.out _ (by omega) (by omega)).mono ?_;rintro e w' ⟨rfl,rfl⟩)
    go_ret
    exact ⟨zQ (zgA hlt HQ.out HB.out).symm,rfl⟩
   ·have HQ:Hid (wat k < x):=Lib.hid (by omega)
    have hq':decide (x≤wat k)=false:=by simpa using hq
    clear hq
    go_wp2_with (go_at_call 56;refine (HO.out _ (by omega) (by omega)).mono ?_;rintro e w' ⟨rfl,rfl⟩)
    go_round
    case rel=>exact ⟨k+1,by go_num,by omega,fun j hj=>by rcases (by omega:j < k∨j=k) with h | rfl;exact HB.out j h;exact HQ.out⟩
    case measure=>simp [intOf];omega
  ·obtain rfl:k=32:=by omega
   go_wp2
   go_ret
   exact ⟨zQ (zeV HB.out).symm,rfl⟩
theorem zge (x:Nat) (w:World) (h:x < 2 ^ 64) :
  Calls Tryz.prog 171 #[.int .u64 (x:Int)] w fun e w'=>e=.returned (.int .i64 (zY x:Int))∧w=w':=by
 have hc:=Tryz.bits_Len64 (x:Int)
 rw [Int.toNat_natCast] at hc
 have HC:=Lib.hid hc
 clear hc
 have H:=Lib.hid h
 clear h
 go_enter Tryz.func171,Tryz.ntmps171
 go_wp2_with (go_at_call 94;refine (HC.out _ (by omega) (by have:=H.out;omega)).mono ?_;rintro e w' ⟨rfl,rfl⟩)
 go_ret
 exact ⟨rfl,rfl⟩
def zqQ (x:Nat) (v n:Value):Prop:=∃ y m:Nat,v=.int .u64 y∧n=.int .i64 m∧y≤x∧m+zY y=zY x
theorem zju (x:Nat) (w:World) (h:x < 2 ^ 64) :
  Calls Tryz.prog 73 #[.int .u64 (x:Int)] w fun e w'=>e=.returned (.int .i64 (zY x:Int))∧w=w':=by
 have H64:=Lib.hid (zcE h)
 have H:=Lib.hid h
 clear h
 go_enter Tryz.func73,Tryz.ntmps73
 go_wp2
 go_loop [0,3] (zqQ x) (fun v _=>(intOf v).toNat)
 case atStart=>exact ⟨x,0,rfl,rfl,Nat.le_refl _,by simp⟩
 case round =>
  obtain ⟨y,m,rfl,rfl,hy,he⟩:=hrel
  have HE:=Lib.hid he
  clear he
  have hm:m≤64:=by have:=HE.out;have:=H64.out;omega
  by_cases h0:0 < y
  ·have HW:Hid (IntKind.u64.wrap ((y:Int) / 2)=((y / 2:Nat):Int)):=Lib.hid (by have:=H.out;rw [IntKind.wrap_u64];omega)
   go_wp2
   go_round
   case rel =>
    refine ⟨y / 2,m+1,by rw [HW.out],by go_num,by omega,?_⟩
    have:=zm9 (x:=y) (by omega) (by have:=H.out;omega)
    have:=HE.out
    omega
   case measure=>simp only [intOf,HW.out,Int.toNat_natCast];omega
  ·obtain rfl:y=0:=by omega
   go_wp2
   go_ret
   exact ⟨zQ (by have:=HE.out;rw [zm8] at this;omega),rfl⟩
def zsr (l:List Nat) (a i:Value):Prop:=∃ k:Nat,k≤l.length∧i=.int .i64 k∧a=.int .u64 (wall (l.take k):Nat)
theorem zmi (A:Option Addr) (n c:Nat) (l:List Nat) (w:World) (hA:A=none→n=0) (hn:l.length=n) (hc:n≤c) (hm:n≤1000000) (hl:Lies w A (l.map uv)) (h:∀ x∈l,x < 2 ^ 64) :
  Calls Tryz.prog 139 #[.slice A n c] w fun e w'=>e=.returned (.int .i64 (zbS l:Int))∧w=w':=by
 have H:=Lib.hid h
 have HN:=Lib.hid hn
 clear h hn
 go_enter Tryz.func139,Tryz.ntmps139
 go_wp2
 go_loop [3,8] (zsr l) (fun _ i=>n - (intOf i).toNat)
 case atStart=>exact ⟨0,by omega,rfl,rfl⟩
 case round =>
  obtain ⟨k,hk,rfl,rfl⟩:=hrel
  have hk':k≤n:=by have:=HN.out;omega
  have ht:=zoG (l:=l.take k) fun x hx=>H.out x (List.mem_of_mem_take hx)
  by_cases hlt:k < n
  ·have hkl:k < l.length:=by have:=HN.out;omega
   obtain ⟨ad,rfl,_,hcell⟩:=hl.cell (k:=k) (by simpa using hkl)
   obtain ⟨x,hx⟩:∃ x:Nat,x=l[k]:=⟨_,rfl⟩
   have hcx:w.cell? (ad.add k)=some (.int .u64 (x:Int)):=by rw [hcell,List.getElem_map,hx];rfl
   have hx64:x < 2 ^ 64:=by rw [hx];exact H.out _ (List.getElem_mem hkl)
   have hs:wall (l.take (k+1))=wall (l.take k) ||| x:=by rw [List.take_succ_eq_append_getElem hkl,zoF,hx]
   have ho:=u64_or (wall (l.take k):Int) (x:Int) (by omega) (by omega) (by omega) (by omega)
   rw [Int.toNat_natCast,Int.toNat_natCast] at ho
   have HS:=Lib.hid hs
   have HX:=Lib.hid hx
   clear hs hx hcell
   generalize wall (l.take k)=y at *
   have HT:=Lib.hid ht
   have HX64:=Lib.hid hx64
   clear ht hx64
   go_wp2
   go_round
   case rel=>exact ⟨k+1,by omega,by go_num,by rw [HS.out]⟩
   case measure=>simp [intOf];omega
  ·obtain rfl:k=n:=by omega
   have hb:=zge (wall (l.take k)) w ht
   rw [zjs (fun x hx=>H.out x (List.mem_of_mem_take hx)),List.take_of_length_le (by have:=HN.out;omega)] at hb
   have HB:=Lib.hid hb
   clear hb ht
   rw [List.take_of_length_le (by have:=HN.out;omega)] at *
   go_wp2_with (go_at_call 171;refine HB.out.mono ?_;rintro e w' ⟨rfl,rfl⟩)
   go_ret
   exact ⟨rfl,rfl⟩
end Go.Proofs.YtblpkmmhmdpkjaaGreatDoor
