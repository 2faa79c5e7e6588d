import Derived.Shelf.Bits.Mul64
import Derived.Laws.StructEq
import Derived.Test.YtblpkmmhmdpkjaaGreatDoorProg
import Derived.Test.YtblpkmmhmdpkjaaGreatDoorBG5
set_option maxHeartbeats 8000000
set_option maxRecDepth 100000
namespace Go.Proofs.YtblpkmmhmdpkjaaGreatDoor
open Go.RowKit
def zea (p:Nat × Bool × Bool):Nat × Bool:=(p.1,p.2.1)
def dc (d:Nat × Bool):List Value:=[.int .u64 (d.1:Int),.bool d.2]
theorem zc6 (d:Nat × Bool):(dc d).length=2:=rfl
theorem zmG (d:Nat × Bool):∀ u∈dc d,u.oneCell'=true:=by
 intro u hu
 unfold dc at hu
 simp at hu
 rcases hu with rfl | rfl <;> rfl
theorem zsG (l:List (Nat × Bool)):∀ u∈l.flatMap dc,u.oneCell'=true:=by
 intro u hu
 obtain ⟨x,_,hx⟩:=List.mem_flatMap.1 hu
 exact zmG x u hx
def dv (d:Nat × Bool):Value:=.agg (dc d).toArray
theorem Tryz.infoD:(Tryz.prog.info? 176).map (fun i=>(i.zero,i.size,i.bytes))=some (some (dv (0,false)),2,16):=by kernel_rfl
theorem elemD:ElemW Tryz.prog 169 176 16 2 (dv (0,false)):=by
 obtain ⟨i0,hi,hz0,hz1,hz2⟩:=info_parts Tryz.infoD
 exact ⟨Tryz.underlying169,rfl,by omega,i0,hi,hz0,hz1,hz2⟩
theorem zpc:(Tryz.prog.info? 176).map (·.size)=some 2:=by
 obtain ⟨i0,hi,hz0,hz1,hz2⟩:=info_parts Tryz.infoD
 rw [hi,Option.map_some,hz1]
theorem zg4 {w:World} {ad:Addr} {k:Nat} {x:Nat × Bool} (h:∀ i,i < 2→w.cell? (ad.add (k*2+i))=(dc x)[i]?) :
  w.cell? (ad.add (k*2))=some (.int .u64 (x.1:Int))∧w.cell? ⟨(ad.add (k*2)).block,(ad.add (k*2)).off+1,none⟩=some (.bool x.2):=by
 refine ⟨h 0 (by omega),?_⟩
 have h1:=h 1 (by omega);rw [←add_add] at h1;exact h1
def zpd (p:Nat × Bool × Bool) (e:Ending):Prop:=e=.returned (.tuple #[dv (zea p),.bool p.2.2])
theorem zgl {fn:Func} {p u:Tmp} (h:fn.results = #[.cell p 176,.tmp u]) (tmps:Array Value) (w:World) (g:Nat) (d:Nat × Bool) (b:Bool)
  (hp:tmps.getD p undef=.pointer (some ⟨g,0,none⟩)) (hr:Row w g 176 (dc d)) (hu:tmps.getD u undef=.bool b):(results fn tmps).run Tryz.prog w=.ok (.tuple #[dv d,.bool b]) w:=
 zbG h tmps w g 176 (dc d).toArray (0,0) _ _ hp hr Tryz.underlying176 rfl zpc hu
theorem zfe (w:World) (cs:List Value) (t:TypeId) (o:Obj):Row ((w.alloc (.cells cs.toArray t)).alloc o) w.heap.size t cs:=Row.alloc (heap_alloc_new w _) o
theorem zff (w:World) (o o':Obj):Below w.heap.size w ((w.alloc o).alloc o'):=((Below.refl _ _).alloc (Nat.le_refl _) _).alloc (by simp) _
theorem zcU (a b:Int) (w:World) (ha:inInt a) (hb:inInt b):Calls Tryz.prog 178 #[.int .i64 a,.int .i64 b] w fun e w'=>zpd (zx a b) e∧Below w.heap.size w w':=by
 unfold inInt at ha hb
 obtain ⟨S,hS⟩:∃ S:Nat,(S:Int)=IntKind.u64.wrap (b - a):=⟨(IntKind.u64.wrap (b - a)).toNat,by rw [IntKind.wrap_u64];omega⟩
 have hS2:IntKind.u64.wrap (IntKind.u64.wrap b - IntKind.u64.wrap a)=(S:Int):=by rw [hS,IntKind.wrap_u64,IntKind.wrap_u64,IntKind.wrap_u64,IntKind.wrap_u64];omega
 rw [IntKind.wrap_u64] at hS
 by_cases h:b < a
 ·obtain ⟨D,hD⟩:∃ D:Nat,(D:Int)=a - b:=⟨(a - b).toNat,by omega⟩
  have hn:IntKind.u64.wrap (-(S:Int))=(D:Int):=by rw [IntKind.wrap_u64];omega
  have d1:decide (b < a)=true:=decide_eq_true h
  by_cases h2:9223372036854775808≤(D:Int)
  ·have hE:Hid (zx a b=(0,false,false)):=Lib.hid (by unfold zx;rw [if_pos h,if_pos (by omega)])
   have d2:decide ((9223372036854775807:Int) < (D:Int))=true:=decide_eq_true (by omega)
   clear hD ha hb hS h2
   go_enter Tryz.func178,Tryz.ntmps178
   go_wp2
   refine bodyPost_ret (zgl rfl _ _ _ (0,false) false rfl (zfe _ _ _ _) rfl) rfl ?_
   rw [hE.out]
   exact ⟨rfl,zff _ _ _⟩
  ·have hE:Hid (zx a b=(D,true,true)):=Lib.hid (by unfold zx;rw [if_pos h,if_neg (by omega)];congr 1;omega)
   have d2:decide ((9223372036854775807:Int) < (D:Int))=false:=decide_eq_false (by omega)
   clear hD ha hb hS h2
   go_enter Tryz.func178,Tryz.ntmps178
   go_wp2
   refine bodyPost_ret (zgl rfl _ _ _ (D,true) true rfl (zfe _ _ _ _) rfl) rfl ?_
   rw [hE.out]
   exact ⟨rfl,zff _ _ _⟩
 ·have d1:decide (b < a)=false:=decide_eq_false h
  have hSD:(S:Int)=b - a:=by omega
  by_cases h2:9223372036854775808≤(S:Int)
  ·have hE:Hid (zx a b=(0,false,false)):=Lib.hid (by unfold zx;rw [if_neg h,if_pos (by omega)])
   have d2:decide ((9223372036854775807:Int) < (S:Int))=true:=decide_eq_true (by omega)
   clear ha hb hS h2 hSD
   go_enter Tryz.func178,Tryz.ntmps178
   go_wp2
   refine bodyPost_ret (zgl rfl _ _ _ (0,false) false rfl (zfe _ _ _ _) rfl) rfl ?_
   rw [hE.out]
   exact ⟨rfl,zff _ _ _⟩
  ·have hE:Hid (zx a b=(S,false,true)):=Lib.hid (by unfold zx;rw [if_neg h,if_neg (by omega)];congr 1;omega)
   have d2:decide ((9223372036854775807:Int) < (S:Int))=false:=decide_eq_false (by omega)
   clear ha hb hS h2 hSD
   go_enter Tryz.func178,Tryz.ntmps178
   go_wp2
   refine bodyPost_ret (zgl rfl _ _ _ (S,false) true rfl (zfe _ _ _ _) rfl) rfl ?_
   rw [hE.out]
   exact ⟨rfl,zff _ _ _⟩
theorem zg5 (a b:Int) (w:World) (ha:inInt a) (hb:inInt b):Calls Tryz.prog 207 #[.int .i64 a,.int .i64 b] w fun e w'=>RetD (zx a b) e∧Below w.heap.size w w':=by
 have HB:=Lib.hid (zcU a b w ha hb)
 generalize zx a b=p at HB ⊢
 obtain ⟨U,f,ok⟩:=p
 clear ha hb
 go_enter Tryz.func207,Tryz.ntmps207
 go_wp2_with fail
 refine HB.out.mono ?_
 rintro e w1 ⟨rfl,hb1⟩
 unfold zea dv dc
 dsimp only
 go_wp2
 go_quiet (fail)
 go_wp2
 refine bodyPost_ret (results_tmp3 rfl _ _ _) rfl ?_
 exact ⟨rfl,(hb1.alloc hb1.size _).trans ⟨rfl,rfl,rfl,Nat.le_refl _,fun _ _=>rfl⟩⟩
theorem zgm (a:Int) (U:Nat) (f:Bool) (w:World) (ha:inInt a) (h1:(U:Int) < 18446744073709551616):Calls Tryz.prog 152 #[.int .i64 a,dv (U,f)] w fun e w'=>RetG (zbh a U f) e∧Below w.heap.size w w':=by
 unfold inInt at ha
 by_cases h2:9223372036854775808≤(U:Int)
 ·have hE:Hid (zbh a U f=(0,false)):=Lib.hid (by unfold zbh;rw [if_pos h2])
  have d2:decide ((9223372036854775807:Int) < (U:Int))=true:=decide_eq_true (by omega)
  clear h2 h1
  unfold dv dc
  dsimp only
  go_enter Tryz.func152,Tryz.ntmps152
  go_wp2
  go_ret2
  rw [hE.out]
  exact ⟨rfl,(Below.refl _ _).alloc (Nat.le_refl _) _⟩
 ·have d2:decide ((9223372036854775807:Int) < (U:Int))=false:=decide_eq_false (by omega)
  have hw1:IntKind.i64.wrap (U:Int)=(U:Int):=by rw [IntKind.wrap_i64];omega
  cases f with
  | true =>
   obtain ⟨M,hM⟩:∃ M,M = -(U:Int):=⟨_,rfl⟩
   have hw2:IntKind.i64.wrap (-(U:Int))=M:=by rw [IntKind.wrap_i64];omega
   obtain ⟨b,hb⟩:∃ b,b=IntKind.i64.wrap (a+M):=⟨_,rfl⟩
   have hw3:IntKind.i64.wrap (a+M)=b:=hb.symm
   rw [IntKind.wrap_i64] at hb
   by_cases h3:a < -9223372036854775808+(U:Int)
   ·have hE:Hid (zbh a U true=(0,false)):=Lib.hid (by unfold zbh;rw [if_neg h2,if_pos rfl,if_pos h3])
    have d3:decide (b < a)=false:=decide_eq_false (by omega)
    have d4:decide (M < 0)=true:=decide_eq_true (by omega)
    clear h2 h1 hM hb h3 ha
    unfold dv dc
    dsimp only
    go_enter Tryz.func152,Tryz.ntmps152
    go_wp2
    go_ret2
    rw [hE.out]
    exact ⟨rfl,(Below.refl _ _).alloc (Nat.le_refl _) _⟩
   ·have hE:Hid (zbh a U true=(b,true)):=Lib.hid (by unfold zbh;rw [if_neg h2,if_pos rfl,if_neg h3];congr 1;omega)
    have d3:decide (b < a)=decide (M < 0):=by
     by_cases h4:M < 0
     ·rw [decide_eq_true h4];exact decide_eq_true (by omega)
     ·rw [decide_eq_false h4];exact decide_eq_false (by omega)
    clear h2 h1 hM hb h3 ha
    obtain ⟨d,hd⟩:∃ d,d=decide (M < 0):=⟨_,rfl⟩
    rw [←hd] at d3
    have d4:=hd.symm
    clear hd
    unfold dv dc
    dsimp only
    cases d
    ·go_enter Tryz.func152,Tryz.ntmps152
     go_wp2
     go_ret2
     rw [hE.out]
     exact ⟨rfl,(Below.refl _ _).alloc (Nat.le_refl _) _⟩
    ·go_enter Tryz.func152,Tryz.ntmps152
     go_wp2
     go_ret2
     rw [hE.out]
     exact ⟨rfl,(Below.refl _ _).alloc (Nat.le_refl _) _⟩
  | false =>
   obtain ⟨b,hb⟩:∃ b,b=IntKind.i64.wrap (a+(U:Int)):=⟨_,rfl⟩
   have hw3:IntKind.i64.wrap (a+(U:Int))=b:=hb.symm
   rw [IntKind.wrap_i64] at hb
   have d4:decide ((U:Int) < 0)=false:=decide_eq_false (by omega)
   by_cases h3:9223372036854775807 - (U:Int) < a
   ·have hE:Hid (zbh a U false=(0,false)):=Lib.hid (by unfold zbh;rw [if_neg h2,if_neg (by decide),if_pos h3])
    have d3:decide (b < a)=true:=decide_eq_true (by omega)
    clear h2 h1 hb h3 ha
    unfold dv dc
    dsimp only
    go_enter Tryz.func152,Tryz.ntmps152
    go_wp2
    go_ret2
    rw [hE.out]
    exact ⟨rfl,(Below.refl _ _).alloc (Nat.le_refl _) _⟩
   ·have hE:Hid (zbh a U false=(b,true)):=Lib.hid (by unfold zbh;rw [if_neg h2,if_neg (by decide),if_neg h3];congr 1;omega)
    have d3:decide (b < a)=false:=decide_eq_false (by omega)
    clear h2 h1 hb h3 ha
    unfold dv dc
    dsimp only
    go_enter Tryz.func152,Tryz.ntmps152
    go_wp2
    go_ret2
    rw [hE.out]
    exact ⟨rfl,(Below.refl _ _).alloc (Nat.le_refl _) _⟩
theorem zj5 (a U:Int) (f:Bool) (w:World) (ha:inInt a) (h0:0≤U) (h1:U < 18446744073709551616):Calls Tryz.prog 195 #[.int .i64 a,.int .u64 U,.bool f] w fun e w'=>RetG (zbh a U.toNat f) e∧Below w.heap.size w w':=by
 obtain ⟨N,hN⟩:∃ N:Nat,U=(N:Int):=⟨U.toNat,by omega⟩
 subst hN
 have HS:=Lib.hid (zgm a N f w ha h1)
 clear ha h0 h1
 rw [Int.toNat_natCast]
 unfold dv dc at HS
 dsimp only at HS
 go_enter Tryz.func195,Tryz.ntmps195
 go_wp2_with fail
 refine HS.out.mono ?_
 rintro e w1 ⟨rfl,hb1⟩
 go_wp2
 go_ret2
 exact ⟨rfl,hb1⟩
theorem znD (n:Int) (w:World) (h0:2≤n) (h1:n≤512):Calls Tryz.prog 147 #[.int .i64 n] w fun e w'=>e=.returned (.bool true)∧w=w':=by
 go_enter Tryz.func147,Tryz.ntmps147
 go_wp2
 go_ret
 exact ⟨rfl,rfl⟩
theorem zpe (n:Int) (w:World) (h:n < 2∨512 < n):Calls Tryz.prog 147 #[.int .i64 n] w fun e w'=>e=.returned (.bool false)∧w=w':=by
 rcases h with h | h
 ·have h2:decide (2≤n)=false:=by simp;omega
  go_enter Tryz.func147,Tryz.ntmps147
  go_wp2
  go_ret
  exact ⟨rfl,rfl⟩
 ·have h2:decide (n≤512)=false:=by simp;omega
  have h3:decide (2≤n)=true:=by simp;omega
  go_enter Tryz.func147,Tryz.ntmps147
  go_wp2
  go_ret
  exact ⟨rfl,rfl⟩
def lmin:List Int→Int
 | []=>0
 | x::xs=>xs.foldl min x
theorem zpf {l:List Int} (hl:l≠[]) (x:Int):lmin (l ++ [x])=min (lmin l) x:=by
 cases l with
 | nil=>exact absurd rfl hl
 | cons y ys=>simp [lmin,List.foldl_append]
theorem zrf {l:List Int} (hl:l≠[]):lmin l < 0↔∃ x∈l,x < 0:=by
 cases l with
 | nil=>exact absurd rfl hl
 | cons y ys =>
  show ys.foldl min y < 0↔_
  induction ys generalizing y with
  | nil=>simp
  | cons z zs ih =>
   rw [List.foldl_cons,ih (min y z) (by simp)]
   simp only [List.mem_cons,exists_eq_or_imp]
   constructor
   ·rintro (h | h)
    ·rcases (by omega:y < 0∨z < 0) with h | h
     ·exact .inl h
     ·exact .inr (.inl h)
    ·exact .inr (.inr h)
   ·rintro (h | h | h)
    ·exact .inl (by omega)
    ·exact .inl (by omega)
    ·exact .inr h
def zpg (l:List Int) (m i:Value):Prop:=∃ (k:Nat) (x:Int),1≤k∧k≤l.length∧i=.int .i64 (k:Int)∧m=.int .i64 x∧x=lmin (l.take k)
theorem zph (l:List Int) (v:Value) (w:World) (hv:IsV iv l v w) (h1:1≤l.length) (hb:l.length≤1000000) :
  Calls Tryz.prog 148 #[v] w fun e w'=>e=.returned (.int .i64 (lmin l))∧w=w':=by
 obtain ⟨A,n,c,rfl⟩:=hv.shape
 have HN:=Lib.hid hv.len
 have HV:=Lib.hid hv
 have hn:1≤n:=by have:=HN.out;omega
 have hn6:n≤1000000:=by have:=HN.out;omega
 obtain ⟨ad,rfl,_,h0⟩:=hv.at (k:=0) h1
 obtain ⟨x0,hx0⟩:∃ x,x=l[0]:=⟨_,rfl⟩
 have h0':w.cell? ad=some (.int .i64 l[0]):=by have:=h0;simp [Addr.add,iv] at this;exact this
 have HS:=Lib.hid (show zpg l (.int .i64 l[0]) (.int .i64 1) from ⟨1,_,Nat.le_refl _,h1,rfl,rfl,by cases l with | nil=>simp at h1 | cons a t=>simp [lmin]⟩)
 rw [←hx0] at h0' HS
 clear hv h1 hb h0 hx0
 go_enter Tryz.func148,Tryz.ntmps148
 go_wp2
 go_loop [3,4] (zpg l) (fun _ i=>n - (intOf i).toNat)
 case atStart=>exact HS.out
 case round =>
  obtain ⟨k,x,hk1,hk2,rfl,rfl,hx⟩:=hrel
  have HX:=Lib.hid hx
  have hkn:k≤n:=by have:=HN.out;omega
  clear hx
  by_cases hlt:k < n
  ·have hkl:k < l.length:=by have:=HN.out;omega
   have hlti:(k:Int) < (n:Int):=by omega
   obtain ⟨ad',had,_,hc⟩:=HV.out.at hkl
   injection had with had
   subst had
   obtain ⟨y,hy⟩:∃ y,y=l[k]:=⟨_,rfl⟩
   rw [←hy] at hc
   unfold iv at hc
   obtain ⟨z,hz⟩:∃ z,z=min x y:=⟨_,rfl⟩
   have hmin:∀ (ts:Array TypeId) (t:TypeId) (W:World),(Builtin.min_ ts t #[.int .i64 x,.int .i64 y]).run Tryz.prog W=.ok (.int .i64 z) W:=fun ts t W=>by
    rw [run_min_int2]
    congr 2
    rw [hz]
    split <;> omega
   have HR:=Lib.hid (show zpg l (.int .i64 z) (.int .i64 ((k+1:Nat):Int)) from ⟨k+1,_,by omega,hkl,rfl,rfl,by
    rw [List.take_succ_eq_append_getElem hkl,zpf (by intro h0;have h1:=congrArg List.length h0;rw [List.length_take,List.length_nil] at h1;omega),←HX.out,←hy,hz]⟩)
   clear hy hz
   go_wp2
   go_round
   case rel=>exact HR.out
   case measure=>simp [intOf];omega
  ·obtain rfl:k=n:=by omega
   go_wp2
   go_ret
   refine ⟨?_,rfl⟩
   rw [HX.out,List.take_of_length_le (by have:=HN.out;omega)]
   rfl
def zE (l:List Int) (i:Nat):Nat × Bool × Bool:=zx (l.getD i 0) (l.getD (i+1) 0)
def zsc (l:List (Nat × Bool)) (w:World) (i:Value) (wr:World):Prop:=∃ k:Nat,k≤l.length∧i=.int .i64 (k:Int)∧(∀ j,j < k→l[j]? = l[0]?)∧Below w.heap.size w wr
def zg6 (l:List (Nat × Bool)):Bool:=l.all fun d=>d == l.headD (0,false)
theorem zpi {l:List (Nat × Bool)} (h:∀ j,j < l.length→l[j]? = l[0]?):zg6 l=true:=by
 unfold zg6
 rw [List.all_eq_true]
 intro d hd
 obtain ⟨j,hj,rfl⟩:=List.getElem_of_mem hd
 have h1:=h j hj
 rw [List.getElem?_eq_getElem hj] at h1
 cases l with
 | nil=>simp at hj
 | cons a t=>simp at h1;simp [h1]
theorem zrg {l:List (Nat × Bool)} {j:Nat} (hj:j < l.length) (h:l[j]?≠l[0]?):zg6 l=false:=by
 unfold zg6
 rw [List.all_eq_false]
 refine ⟨l[j],List.getElem_mem hj,?_⟩
 rw [List.getElem?_eq_getElem hj] at h
 cases l with
 | nil=>simp at hj
 | cons a t=>simp at h;simpa using h
theorem eqD (a b:Nat × Bool) (w:World):(Op.equalIn 10000 176 (dv a) (dv b)).run Tryz.prog w=.ok (a == b) w:=by
 have hS:Tryz.prog.underlying 176=some (.struct (Tryz.prog.fieldsOf 176)):=by kernel_rfl
 have hp:Tryz.prog.stoodInHeld 176=false:=by kernel_rfl
 obtain ⟨au,af⟩:=a
 obtain ⟨bu,bf⟩:=b
 unfold dv dc
 have u1:=Tryz.underlying101
 have u2:=Tryz.underlying4
 have s1:=Tryz.sizeOf101
 have s2:=Tryz.sizeOf4
 have g1:=Tryz.isAgg101
 have g2:=Tryz.isAgg4
 rw [show (10000:Nat)=9999+1 from rfl,run_equalIn_agg w 9999 176 _ _ hS hp]
 simp only [Program.fieldsOf,Tryz.underlying176]
 go_simp
 by_cases h1:au=bu
 ·subst h1
  rw [if_pos rfl]
  cases af <;> cases bf <;> simp
 ·have h3:¬(au:Int)=(bu:Int):=by omega
  rw [if_neg h3]
  have h4:((au,af) == (bu,bf))=false:=by
   rw [beq_eq_false_iff_ne]
   intro h
   injection h with h _
   exact h1 h
  rw [h4]
theorem znE {o:Oper} {ρ:Operand→Value} {w:World} {R:Value→World→Prop} {x y:Operand} {a b:Nat × Bool} (ho:o.op=.binOp .neq 176 x y 176) (hx:ρ x=dv a) (hy:ρ y=dv b)
  (hR:R (.bool (!(a == b))) w):zba Tryz.prog o ρ w R:=by
 refine zq (v:=.bool (!(a == b))) (w':=w) ?_ hR
 have hg:=run_eqGuard_agg (P:=Tryz.prog) w .neq 176 x y (dc a).toArray (dc b).toArray (by kernel_rfl)
 have hq:=run_neq_struct (P:=Tryz.prog) w 176 (dc a).toArray (dc b).toArray
 have he:=eqD a b w
 unfold dv at he
 rw [he] at hq
 unfold dv at hx hy
 simp [execOp,ho,hx,hy,hg,hq]
theorem zg7 (l:List (Nat × Bool)) (v:Value) (w:World) (hv:IsR dc l v w) (hb:l.length≤1000000) :
  Calls Tryz.prog 181 #[v] w fun e w'=>e=.returned (.bool (zg6 l))∧Below w.heap.size w w':=by
 obtain ⟨A,n,c,rfl⟩:=hv.shape
 have HN:=Lib.hid hv.parts.1
 have HV:=Lib.hid hv
 have hn6:n≤1000000:=by have:=HN.out;omega
 have HS:=Lib.hid (show zsc l w (.int .i64 0) w from ⟨0,Nat.zero_le _,rfl,fun j hj=>by omega,Below.refl _ _⟩)
 clear hv hb
 go_enter Tryz.func181,Tryz.ntmps181
 go_wp2
 go_loopw [7] (zsc l w) (fun i _=>n - (intOf i).toNat)
 case atStart=>exact HS.out
 case round =>
  obtain ⟨k,hk,rfl,hs,hbw⟩:=hrel
  have HSM:=Lib.hid hs
  have HB:=Lib.hid hbw
  have hkn:k≤n:=by have:=HN.out;omega
  clear hs hk
  by_cases hlt:k < n
  ·have hkl:k < l.length:=by have:=HN.out;omega
   have h0l:0 < l.length:=by omega
   have hlti:(k:Int) < (n:Int):=by omega
   have h0i:(0:Int) < (n:Int):=by omega
   obtain ⟨ad,rfl,had,hcell⟩:=(HV.out.below hbw).at (m:=2) zc6 (by omega) hkl
   obtain ⟨x,hx⟩:∃ x,x=l[k]:=⟨_,rfl⟩
   rw [←hx] at hcell
   have k0:=zg4 hcell
   have HX:=Lib.hid hx
   obtain ⟨xu,xf⟩:=x
   dsimp only at k0
   obtain ⟨k1,k2⟩:=k0
   clear hcell hx hbw
   have HR:=Lib.hid (show Row (wr.alloc (.cells #[.int .u64 (xu:Int),.bool xf] 176)) wr.heap.size 176 (dc (xu,xf)) from heap_alloc_new wr _)
   have HBA:=Lib.hid (HB.out.alloc HB.out.size (.cells #[.int .u64 (xu:Int),.bool xf] 176))
   obtain ⟨y,hy⟩:∃ y,y=l[0]:=⟨_,rfl⟩
   have HY:=Lib.hid hy
   clear hy
   obtain ⟨b,hb⟩:∃ b,b = !((xu,xf) == y):=⟨_,rfl⟩
   have HEQ:=Lib.hid hb
   clear hb
   go_wp2
   refine wp_region_list [.is (dv (xu,xf)),.is (.slice (some ad) n c),.is (.pointer (some (ad.add (0*2)))),.is (dv y),.is (.bool b)] [some 11,some 12,some 13,some 14,some 15] (by kernel_rfl) (by kernel_rfl) (by kernel_rfl) rfl ⟨?_,?_,?_,?_,?_,trivial⟩ ?_
   ·intro ρ W1 hb1 H
    exact zbn (cs:=dc (xu,xf)) rfl (H.old 4 _ (by kernel_rfl) rfl) Tryz.underlying176 rfl zpc (HR.out.below hb1 HR.out.lt) ⟨rfl,Below.refl _ _⟩
   ·intro ρ W1 hb1 H
    exact zd rfl (H.old 0 _ (by kernel_rfl) rfl) ⟨rfl,Below.refl _ _⟩
   ·intro ρ W1 hb1 H
    exact zu (k:=0) Tryz.underlying169 Tryz.sizeOf176 rfl (H.new 12 1 (by kernel_rfl)) (H.const _) (by omega) ⟨rfl,Below.refl _ _⟩
   ·intro ρ W1 hb1 H
    obtain ⟨ad0,had0,had1,hcell0⟩:=(HV.out.below (HBA.out.trans (hb1.mono HBA.out.size))).at (m:=2) zc6 (by omega) h0l
    injection had0 with had0
    subst had0
    exact zgX (cs:=dc y) rfl (H.new 13 2 (by kernel_rfl)) Tryz.underlying176 rfl Tryz.sizeOf176 (fun j v hj=>by
     have hj2:j < 2:=by have:=(List.getElem?_eq_some_iff.1 hj).1;exact this
     have h:=hcell0 j hj2
     rw [←HY.out] at h
     rw [add_add]
     exact h.trans hj) ⟨rfl,Below.refl _ _⟩
   ·intro ρ W1 hb1 H
    exact znE rfl (H.new 11 0 (by kernel_rfl)) (H.new 14 3 (by kernel_rfl)) ⟨by rw [HEQ.out];rfl,Below.refl _ _⟩
   ·intro vs W1 hb1 hfs
    have f4:vs 4=.bool b:=hfs 4 (by decide)
    clear hfs
    simp only [zr,Nat.zero_add,Nat.reduceAdd]
    generalize vs 0=z0
    generalize vs 1=z1
    generalize vs 2=z2
    generalize vs 3=z3
    simp only [f4,Act.put,List.setIfInBounds_toArray,List.set_cons_succ,List.set_cons_zero]
    have HB1:=Lib.hid (HBA.out.trans (hb1.mono HBA.out.size))
    clear f4 hb1
    cases b with
    | true =>
     have HD:=Lib.hid (show zg6 l=false from zrg hkl (by
      rw [List.getElem?_eq_getElem hkl,List.getElem?_eq_getElem h0l,←HX.out,←HY.out]
      intro h
      injection h with h
      rw [h] at HEQ
      have:=HEQ.out
      simp at this))
     go_wp2
     go_ret
     rw [HD.out]
     exact ⟨rfl,HB1.out⟩
    | false =>
     have HK:=Lib.hid (show ∀ j,j < k+1→l[j]? = l[0]? from fun j hj=>by
      rcases (by omega:j < k∨j=k) with h | rfl
      ·exact HSM.out j h
      ·rw [List.getElem?_eq_getElem hkl,List.getElem?_eq_getElem h0l,←HX.out,←HY.out]
       have:=HEQ.out
       simp at this
       rw [this])
     go_wp2
     go_roundw
     case rel=>exact ⟨k+1,hkl,by go_num,HK.out,HB1.out⟩
     case measure=>simp [intOf];omega
  ·obtain rfl:k=n:=by omega
   have HD:=Lib.hid (zpi (l:=l) (fun j hj=>HSM.out j (by have:=HN.out;omega)))
   go_wp2
   go_ret
   rw [HD.out]
   exact ⟨rfl,HB.out⟩
def zb1 (down:Bool) (d:Nat × Bool):Bool:=d.1 != 0 && d.2 != down
theorem zsH (d:Nat × Bool) (b:Nat) (down:Bool) (w:World) (hr:Row w b 4 [.bool down]) :
  Calls Tryz.prog 180 #[dv d,.pointer (some ⟨b,0,none⟩)] w fun e w'=>e=.returned (.bool (zb1 down d))∧Below w.heap.size w w':=by
 obtain ⟨U,f⟩:=d
 have hc:=(hr.alloc (.cells #[.int .u64 (U:Int),.bool f] 176)).cell 0
 have hc2:(w.alloc (.cells #[.int .u64 (U:Int),.bool f] 176)).cell? ⟨b,0,none⟩=some (.bool down):=hc
 clear hc
 unfold dv dc zb1
 dsimp only
 by_cases h0:U=0
 ·subst h0
  go_enter Tryz.func180,Tryz.ntmps180
  go_wp2
  go_ret
  exact ⟨rfl,(Below.refl _ _).alloc (Nat.le_refl _) _⟩
 ·have h1:((U:Int) != 0)=true:=by simp;omega
  have h2:(U != 0)=true:=by simpa using h0
  rw [h2]
  go_enter Tryz.func180,Tryz.ntmps180
  go_wp2
  go_ret
  exact ⟨by cases f <;> cases down <;> rfl,(Below.refl _ _).alloc (Nat.le_refl _) _⟩
def zsd (l:List (Nat × Bool)) (p:Nat × Bool→Bool) (w:World) (i:Value) (wr:World):Prop:=∃ k:Nat,k≤l.length∧i=.int .i64 (k:Int)∧(l.take k).any p=false∧Below w.heap.size w wr
theorem zpj (l:List (Nat × Bool)) (v:Value) (b:Nat) (down:Bool) (w:World) (hv:IsR dc l v w) (hr:Row w b 4 [.bool down]) (hb:l.length≤1000000) :
  Calls Tryz.prog 204 #[v,.func (.func 180) #[] #[.pointer (some ⟨b,0,none⟩)]] w
   fun e w'=>(∃ r:Int,e=.returned (.int .i64 r)∧decide (0≤r)=l.any (zb1 down))∧Below w.heap.size w w':=by
 obtain ⟨A,n,c,rfl⟩:=hv.shape
 have HN:=Lib.hid hv.parts.1
 have HV:=Lib.hid hv
 have HR:=Lib.hid hr
 have hn6:n≤1000000:=by have:=HN.out;omega
 have HS:=Lib.hid (show zsd l (zb1 down) w (.int .i64 0) w from ⟨0,Nat.zero_le _,rfl,rfl,Below.refl _ _⟩)
 clear hv hb hr
 go_enter Tryz.func204,Tryz.ntmps204
 go_wp2
 go_loopw [8] (zsd l (zb1 down) w) (fun i _=>n - (intOf i).toNat)
 case atStart=>exact HS.out
 case round =>
  obtain ⟨k,hk,rfl,hs,hbw⟩:=hrel
  have HSM:=Lib.hid hs
  have HB:=Lib.hid hbw
  have hkn:k≤n:=by have:=HN.out;omega
  clear hs hk
  by_cases hlt:k < n
  ·have hkl:k < l.length:=by have:=HN.out;omega
   have hlti:(k:Int) < (n:Int):=by omega
   obtain ⟨ad,rfl,had,hcell⟩:=(HV.out.below hbw).at (m:=2) zc6 (by omega) hkl
   obtain ⟨x,hx⟩:∃ x,x=l[k]:=⟨_,rfl⟩
   rw [←hx] at hcell
   have k0:=zg4 hcell
   have HX:=Lib.hid hx
   have HL:=Lib.hid (zsH x b down wr (HR.out.below hbw HR.out.lt))
   have HSN:=Lib.hid (show (l.take (k+1)).any (zb1 down)=zb1 down x by rw [List.take_succ_eq_append_getElem hkl,List.any_append,HSM.out,hx];simp)
   have HAL:=Lib.hid (show zb1 down x=true→l.any (zb1 down)=true from fun h=>List.any_eq_true.2 ⟨x,by rw [hx];exact List.getElem_mem hkl,h⟩)
   obtain ⟨xu,xf⟩:=x
   dsimp only at k0
   obtain ⟨k1,k2⟩:=k0
   clear hcell hx hbw
   generalize hq:zb1 down (xu,xf)=q at HL HSN HAL
   clear hq
   unfold dv dc at HL
   dsimp only at HL
   cases q with
   | true =>
    have HA:=Lib.hid (HAL.out rfl)
    go_wp2_with (go_at_call 180;refine HL.out.mono ?_;rintro e w1 ⟨rfl,hb1⟩)
    go_ret
    exact ⟨⟨_,rfl,by rw [HA.out];exact decide_eq_true (by omega)⟩,za HB.out hb1⟩
   | false =>
    go_wp2_with (go_at_call 180;refine HL.out.mono ?_;rintro e w1 ⟨rfl,hb1⟩)
    go_roundw
    case rel=>exact ⟨k+1,hkl,by go_num,HSN.out,za HB.out hb1⟩
    case measure=>simp [intOf];omega
  ·obtain rfl:k=n:=by omega
   have HA:=Lib.hid HSM.out
   rw [List.take_of_length_le (by have:=HN.out;omega)] at HA
   go_wp2
   go_ret
   exact ⟨⟨_,rfl,by rw [HA.out];rfl⟩,HB.out⟩
theorem zj6 (l:List (Nat × Bool)) (v:Value) (b:Nat) (down:Bool) (w:World) (hv:IsR dc l v w) (hr:Row w b 4 [.bool down]) (hb:l.length≤1000000) :
  Calls Tryz.prog 179 #[v,.func (.func 180) #[] #[.pointer (some ⟨b,0,none⟩)]] w
   fun e w'=>e=.returned (.bool (l.any (zb1 down)))∧Below w.heap.size w w':=by
 have HI:=Lib.hid (zpj l v b down w hv hr hb)
 clear hv hr hb
 go_enter Tryz.func179,Tryz.ntmps179
 go_wp2_with fail
 refine HI.out.mono ?_
 rintro e w1 ⟨⟨r,rfl,hr⟩,hb1⟩
 go_wp2
 go_ret
 exact ⟨rfl,hb1⟩
def dway (l:List (Nat × Bool)):Bool:=!(l.any (zb1 (l.headD (0,false)).2))
theorem zpk (l:List (Nat × Bool)) (v:Value) (w:World) (hv:IsR dc l v w) (h1:1≤l.length) (hb:l.length≤1000000) :
  Calls Tryz.prog 150 #[v] w fun e w'=>e=.returned (.bool (dway l))∧Below w.heap.size w w':=by
 obtain ⟨A,n,c,rfl⟩:=hv.shape
 have HN:=Lib.hid hv.parts.1
 have h0i:(0:Int) < (n:Int):=by have:=HN.out;omega
 obtain ⟨ad,rfl,had,hcell⟩:=hv.at (m:=2) zc6 (by omega) (k:=0) h1
 have k0:=zg4 hcell
 rw [Nat.zero_mul] at k0
 have k2:=k0.2
 have ha0:ad.add 0=ad:=by simp [Addr.add]
 rw [ha0] at k2
 obtain ⟨down,hd⟩:∃ down,down=l[0].2:=⟨_,rfl⟩
 rw [←hd] at k2
 have HW:=Lib.hid (show dway l = !(l.any (zb1 down)) by
  unfold dway
  rw [hd]
  cases l with
  | nil=>simp at h1
  | cons a t=>rfl)
 have HB:=Lib.hid ((Below.refl w.heap.size w).alloc (Nat.le_refl _) (.cells #[.bool down] 4))
 have HC:=Lib.hid (zj6 l (.slice (some ad) n c) w.heap.size down (w.alloc (.cells #[.bool down] 4)) (hv.below ((Below.refl _ _).alloc (Nat.le_refl _) _)) (heap_alloc_new w _) hb)
 generalize l.any (zb1 down)=q at HW HC
 clear hv h1 hb hcell k0 hd
 go_enter Tryz.func150,Tryz.ntmps150
 go_wp2_with (go_at_call 179;refine HC.out.mono ?_;rintro e w1 ⟨rfl,hb1⟩)
 go_ret
 rw [HW.out]
 exact ⟨rfl,HB.out.trans (hb1.mono HB.out.size)⟩
def zm (l:List Int) (k:Nat):List (Nat × Bool):=(List.range k).map fun i=>zea (zE l i)
theorem zH (l:List Int) (k:Nat):(zm l k).length=k:=by unfold zm;rw [List.length_map,List.length_range]
theorem zlx (l:List Int) (k:Nat):zm l (k+1)=zm l k ++ [zea (zE l k)]:=by unfold zm;rw [List.range_succ,List.map_append];rfl
theorem zcV (l:List (Nat × Bool)):(l.flatMap dc).length=l.length*2:=zeo zc6 l
def zty (l:List Int) (w:World) (e:Ending) (w':World):Prop:=
 ((∀ i,i+1 < l.length→(zE l i).2.2=true)∧∃ v,e=.returned (.tuple #[v,.bool true])∧IsR dc (zm l (l.length - 1)) v w'∧Below w.heap.size w w') ∨
 ((∃ i,i+1 < l.length∧(zE l i).2.2=false)∧e=.returned (.tuple #[.slice none 0 0,.bool false])∧Below w.heap.size w w')
def zte (l:List Int) (g m:Nat) (w:World) (i:Value) (wr:World):Prop:=∃ (k:Nat) (rest:List Value),k≤m∧i=.int .i64 (k:Int)∧(∀ j,j < k→(zE l j).2.2=true) ∧
 rest.length=(m - k)*2∧Row wr g 176 ((zm l k).flatMap dc ++ rest)∧Below w.heap.size w wr
theorem zpl (l:List Int) (v:Value) (w:World) (hv:IsV iv l v w) (hl:∀ x∈l,inInt x) (h2:2≤l.length) (hb:l.length≤1000000) :
  Calls Tryz.prog 149 #[v] w (zty l w):=by
 obtain ⟨A,n,c,rfl⟩:=hv.shape
 have HN:=Lib.hid hv.len
 have HV:=Lib.hid hv
 have HL:=Lib.hid hl
 obtain ⟨m,hm⟩:∃ m,n=m+1:=⟨n - 1,by have:=HN.out;omega⟩
 subst hm
 have hm6:m≤1000000:=by have:=HN.out;omega
 have hmi:IntKind.i64.wrap (((m+1:Nat):Int) - 1)=(m:Int):=by rw [IntKind.wrap_i64];omega
 clear hv h2 hb hl
 go_enter Tryz.func149,Tryz.ntmps149
 go_wp2_with (refine zd8 elemD (dc (0,false)) rfl rfl _ _ rfl _ _ _ _ m w w.heap.size rfl rfl rfl rfl (by omega) (by omega) (Below.refl _ _) (Nat.le_refl _) ?_)
 intro w1 hr1 hb1
 have HS:=Lib.hid (show zte l w.heap.size m w (.int .i64 0) w1 from ⟨0,(List.replicate m (dc (0,false))).flatten,Nat.zero_le _,rfl,fun j hj=>by omega,by rw [←zdd (f:=dc) m (0,false),zcV,List.length_replicate,Nat.sub_zero],hr1,hb1⟩)
 clear hr1 hb1
 go_wp2
 go_loopw [14] (zte l w.heap.size m w) (fun i _=>m - (intOf i).toNat)
 case atStart=>exact HS.out
 case round =>
  obtain ⟨k,rest,hk,rfl,hok,hrl,hrow,hbw⟩:=hrel
  have HB:=Lib.hid hbw
  have HOK:=Lib.hid hok
  have HRL:=Lib.hid hrl
  have HROW:=Lib.hid hrow
  have hgw:=hrow.lt
  clear hok hrl hrow
  by_cases hlt:k < m
  ·have hkl:k < l.length:=by have:=HN.out;omega
   have hkl1:k+1 < l.length:=by have:=HN.out;omega
   have hlti:(k:Int) < (m:Int):=by omega
   obtain ⟨ad,hA,had,hc0⟩:=(HV.out.below hbw).at hkl
   obtain ⟨ad',hA',had',hc1⟩:=(HV.out.below hbw).at hkl1
   subst hA
   injection hA' with hA'
   subst hA'
   obtain ⟨a,ha⟩:∃ a,a=l[k]:=⟨_,rfl⟩
   obtain ⟨b,hb⟩:∃ b,b=l[k+1]:=⟨_,rfl⟩
   have hai:inInt a:=by rw [ha];exact HL.out _ (List.getElem_mem hkl)
   have hbi:inInt b:=by rw [hb];exact HL.out _ (List.getElem_mem hkl1)
   have hdf:zE l k=zx a b:=by
    unfold zE
    rw [List.getD_eq_getElem?_getD,List.getD_eq_getElem?_getD,List.getElem?_eq_getElem hkl,List.getElem?_eq_getElem hkl1,ha,hb]
    rfl
   have HC0:=Lib.hid hc0
   have HC1:=Lib.hid hc1
   rw [←ha] at HC0
   rw [←hb] at HC1
   have HD:=Lib.hid hdf
   have HBT:=Lib.hid (fun W=>zcU a b W hai hbi)
   rw [←hdf] at HBT
   obtain ⟨x,ok,hx⟩:∃ x ok,x=zea (zE l k)∧ok=(zE l k).2.2:=⟨_,_,rfl,rfl⟩
   unfold zpd at HBT
   rw [←hx.1,←hx.2] at HBT
   have HX:=Lib.hid hx
   clear hx hdf hc0 hc1 ha hb hai hbi
   go_wp2
   have hcc0:∀ W1,Below wr.heap.size wr W1→W1.cell? (ad.add k)=some (.int .i64 a):=fun W1 h=>by rw [h.cell (by rw [add_block];exact had),HC0.out];rfl
   have hcc1:∀ W1,Below wr.heap.size wr W1→W1.cell? (ad.add (k+1))=some (.int .i64 b):=fun W1 h=>by rw [h.cell (by rw [add_block];exact had),HC1.out];rfl
   refine zbI (zh5 wr.heap.size 176 (dc x)) [.is (.slice (some ad) (m+1) c),.is (.int .i64 (k:Int)),.is (.pointer (some (ad.add k))),.is (.int .i64 a),.is (.slice (some ad) (m+1) c),.is (.int .i64 (k:Int)),.is (.int .i64 ((k:Int)+1)),.is (.pointer (some (ad.add (k+1)))),.is (.int .i64 b),
    .is (.tuple #[dv x,.bool ok]),.is (.tuple #[dv x,.bool ok]),.is (dv x),.is (.bool ok),.laid wr.heap.size 176 (dc x),.stored wr.heap.size 176 (dc x) 13,.is (.bool ok)]
    [some 18,some 19,some 20,some 21,some 22,some 23,some 24,some 25,some 26,some 27,some 17,some 28,some 29,some 6,none,some 7] (by kernel_rfl) (by kernel_rfl) (by kernel_rfl) (by kernel_rfl) rfl ⟨?_,?_,?_,?_,?_,?_,?_,?_,?_,?_,?_,?_,?_,?_,?_,?_,trivial⟩ ?_
   ·intro ρ vs W1 hb1 H
    exact zd rfl (H.old 0 _ (by kernel_rfl) rfl) ⟨zt _ _ _,Keep.self _⟩
   ·intro ρ vs W1 hb1 H
    exact zd rfl (H.old 5 _ (by kernel_rfl) rfl) ⟨zt _ _ _,Keep.self _⟩
   ·intro ρ vs W1 hb1 H
    exact zF zdk rfl (H.holds 18 0 (by kernel_rfl)) (H.holds 19 1 (by kernel_rfl)) (by omega) ⟨zt _ _ _,Keep.self _⟩
   ·intro ρ vs W1 hb1 H
    exact ze rfl (H.holds 20 2 (by kernel_rfl)) Tryz.underlying3 rfl (hcc0 W1 hb1.1) ⟨zt _ _ _,Keep.self _⟩
   ·intro ρ vs W1 hb1 H
    exact zd rfl (H.old 0 _ (by kernel_rfl) rfl) ⟨zt _ _ _,Keep.self _⟩
   ·intro ρ vs W1 hb1 H
    exact zd rfl (H.old 5 _ (by kernel_rfl) rfl) ⟨zt _ _ _,Keep.self _⟩
   ·intro ρ vs W1 hb1 H
    exact zcd rfl (H.holds 23 5 (by kernel_rfl)) (H.const _) (by omega) (by omega) ⟨zt _ _ _,Keep.self _⟩
   ·intro ρ vs W1 hb1 H
    exact zF zdk (k:=k+1) rfl (H.holds 22 4 (by kernel_rfl)) (H.holds 24 6 (by kernel_rfl)) (by omega) ⟨zt _ _ _,Keep.self _⟩
   ·intro ρ vs W1 hb1 H
    exact ze rfl (H.holds 25 7 (by kernel_rfl)) Tryz.underlying3 rfl (hcc1 W1 hb1.1) ⟨zt _ _ _,Keep.self _⟩
   ·intro ρ vs W1 hb1 H
    have e0:ρ (.tmp 21)=.int .i64 a:=H.holds 21 3 (by kernel_rfl)
    have e1:ρ (.tmp 26)=.int .i64 b:=H.holds 26 8 (by kernel_rfl)
    refine zk rfl (fun _ _=>by kernel_rfl) (H.func _) (args:=#[.int .i64 a,.int .i64 b]) (by simp [e0,e1]) ?_
    exact (HBT.out W1).mono fun e w' ⟨h1,h2⟩=>⟨_,h1,zt _ _ _,Keep.of hb1.1.size h2⟩
   ·intro ρ vs W1 hb1 H
    exact zd rfl (H.holds 27 9 (by kernel_rfl)) ⟨zt _ _ _,Keep.self _⟩
   ·intro ρ vs W1 hb1 H
    exact zg rfl (H.holds 17 10 (by kernel_rfl)) rfl ⟨zt _ _ _,Keep.self _⟩
   ·intro ρ vs W1 hb1 H
    exact zg rfl (H.holds 17 10 (by kernel_rfl)) rfl ⟨zt _ _ _,Keep.self _⟩
   ·intro ρ vs W1 hb1 H
    obtain ⟨i0,hi,hz0,hz1,hz2⟩:=info_parts Tryz.infoD
    exact zg0 hi hz0 rfl ⟨⟨W1.heap.size,dc (0,false),zt _ _ _,hb1.1.size,rfl,heap_alloc_new W1 _⟩,Keep.alloc hb1.1.size _⟩
   ·intro ρ vs W1 hb1 H
    obtain ⟨h,old,e1,e2,e3,e4⟩:=H.holds 6 13 (by kernel_rfl)
    have e5:vs 13=.pointer (some ⟨h,0,none⟩):=(H.new 6 13 (by kernel_rfl)).symm.trans e1
    exact zcR (cs:=dc x) rfl e1 (H.holds 28 11 (by kernel_rfl)) e4 zpc e3 (zmG x) ⟨⟨h,(upd_ne _ _ (by decide)).trans e5,e2,zU e4⟩,Keep.store e2 e4⟩
   ·intro ρ vs W1 hb1 H
    exact zf rfl (H.holds 29 12 (by kernel_rfl)) ⟨zt _ _ _,Keep.self _⟩
   ·intro vs W1 hb1 hfs
    obtain ⟨h,f13,hh,hrw⟩:∃ h,vs 13=.pointer (some ⟨h,0,none⟩)∧wr.heap.size≤h∧Row W1 h 176 (dc x):=hfs 14 (by decide)
    have f15:vs 15=.bool ok:=hfs 15 (by decide)
    clear hfs
    simp only [zr,Nat.zero_add,Nat.reduceAdd]
    generalize vs 0=z0
    generalize vs 1=z1
    generalize vs 2=z2
    generalize vs 3=z3
    generalize vs 4=z4
    generalize vs 5=z5
    generalize vs 6=z6
    generalize vs 7=z7
    generalize vs 8=z8
    generalize vs 9=z9
    generalize vs 10=z10
    generalize vs 11=z11
    generalize vs 12=z12
    generalize vs 14=z14
    simp only [f13,f15,Act.put,List.setIfInBounds_toArray,List.set_cons_succ,List.set_cons_zero]
    have HB1:=Lib.hid (HB.out.trans (hb1.1.mono HB.out.size))
    have HROW1:=Lib.hid (HROW.out.below hb1.1 hgw)
    have hne:¬h=w.heap.size:=by omega
    clear f13 f15 hb1 hcc0 hcc1
    cases ok with
    | false =>
     go_wp2
     go_ret2
     exact .inr ⟨⟨k,hkl1,by rw [←HX.out.2]⟩,rfl,HB1.out⟩
    | true =>
     obtain ⟨xu,xf⟩:=x
     have hk1:W1.cell? ⟨h,0,none⟩=some (.int .u64 (xu:Int)):=hrw.cell 0
     have hk2:W1.cell? ⟨h,1,none⟩=some (.bool xf):=hrw.cell 1
     have HFIT:=Lib.hid (show k*2+(dc (xu,xf)).length≤((zm l k).flatMap dc ++ rest).length by
      rw [List.length_append,zcV,zH,HRL.out,zc6];omega)
     have HNEW:=Lib.hid (show ((zm l k).flatMap dc ++ rest).take (k*2) ++ dc (xu,xf) ++ ((zm l k).flatMap dc ++ rest).drop (k*2+(dc (xu,xf)).length)=(zm l (k+1)).flatMap dc ++ rest.drop 2 by
      have hl1:((zm l k).flatMap dc).length=k*2:=by rw [zcV,zH]
      rw [List.take_append_of_le_length (by omega),List.take_of_length_le (by omega),List.drop_append,hl1,List.drop_of_length_le (by rw [hl1];exact Nat.le_add_right _ _),zlx,←HX.out.1,List.flatMap_append,List.flatMap_singleton,zc6,
       show k*2+2 - k*2=2 by omega,List.nil_append])
     go_wp2_with (refine zdI rfl 176 _ _ rfl w.heap.size (k*2) 176 ((zm l k).flatMap dc ++ rest) (dc (xu,xf)) _ HNEW.out rfl rfl HROW1.out zpc HFIT.out (zmG _) w w.heap.size HB1.out (Nat.le_refl _) ?_)
     intro w3 hr3 hb3 _
     have HR3:=Lib.hid hr3
     have HB3:=Lib.hid hb3
     clear hr3 hb3
     go_wp2
     go_roundw
     case rel=>exact ⟨k+1,rest.drop 2,hlt,by go_num,fun j hj=>by
      rcases (by omega:j < k∨j=k) with h | rfl
      ·exact HOK.out j h
      ·exact HX.out.2.symm,by rw [List.length_drop,HRL.out];omega,HR3.out,HB3.out⟩
     case measure=>simp [intOf];omega
  ·obtain rfl:k=m:=by omega
   obtain rfl:rest=[]:=List.eq_nil_of_length_eq_zero (by rw [HRL.out];omega)
   go_wp2
   go_ret2
   refine .inl ⟨fun i hi=>HOK.out i (by have:=HN.out;omega),_,rfl,?_,HB.out⟩
   have hr:=HROW.out
   rw [List.append_nil] at hr
   rw [show l.length - 1=k by have:=HN.out;omega]
   exact ziT hr (zH l k) (by omega)
end Go.Proofs.YtblpkmmhmdpkjaaGreatDoor
namespace Go.Proofs
open Go.Shelf
def Tryz.lays212_ren:Go.Shelf.Ren:=⟨fun | 212=>170 | 263=>199 | 264=>200 | n=>n,fun | 46=>85 | 51=>126 | 53=>101 | 146=>217 | 148=>219 | n=>n,fun | n=>n⟩
theorem Tryz.lays212:Go.Proofs.Lays.n212 Tryz.prog Tryz.lays212_ren:={
 mixed:=by kernel_rfl
 f212:=Tryz.func170.trans (congrArg some (by kernel_rfl))
 f263:=Tryz.func199.trans (congrArg some (by kernel_rfl))
 f264:=Tryz.func200.trans (congrArg some (by kernel_rfl))
 t46:=Tryz.underlying85
 a46:=Tryz.isAgg85
 z46:=Tryz.sizeOf85
 v46:=Tryz.zeroValue85
 t51:=Tryz.underlying126
 a51:=Tryz.isAgg126
 z51:=Tryz.sizeOf126
 v51:=Tryz.zeroValue126
 t53:=Tryz.underlying101
 a53:=Tryz.isAgg101
 z53:=Tryz.sizeOf101
 v53:=Tryz.zeroValue101
 t146:=Tryz.underlying217
 a146:=Tryz.isAgg217
 z146:=Tryz.sizeOf217
 v146:=Tryz.zeroValue217
 t148:=Tryz.underlying219
 a148:=Tryz.isAgg219
 z148:=Tryz.sizeOf219
 v148:=Tryz.zeroValue219 }
theorem Tryz.bits_Mul (x y:Nat) (hx:x < 18446744073709551616) (hy:y < 18446744073709551616) (w:World) :
  Calls Tryz.prog 170 #[.int .u64 x,.int .u64 y] w fun e w'=>e=.returned (.tuple #[.int .u64 ((x*y / 18446744073709551616:Nat):Int),.int .u64 ((x*y % 18446744073709551616:Nat):Int)])∧w'=w:=Any.bits_Mul Tryz.lays212 x y hx hy w
end Go.Proofs
namespace Go.Proofs.YtblpkmmhmdpkjaaGreatDoor
open Go.RowKit
def reps (k:Nat) (d:Nat × Bool):List Value:=(List.replicate k d).flatMap dc
theorem zb5 (k:Nat) (d:Nat × Bool):(reps k d).length=k*2:=by unfold reps;rw [zcV,List.length_replicate]
theorem zgn (k j:Nat) (d:Nat × Bool):reps (k+j) d=reps k d ++ reps j d:=by unfold reps;rw [←List.flatMap_append,List.replicate_append_replicate]
theorem zmH (k:Nat) (d:Nat × Bool):∀ u∈reps k d,u.oneCell'=true:=zsG _
theorem zg8 {k j:Nat} (d:Nat × Bool) (h:j≤k) (r:List Value):(reps k d ++ r).take (j*2)=reps j d:=by
 obtain ⟨i,rfl⟩:∃ i,k=j+i:=⟨k - j,by omega⟩
 rw [zgn,List.append_assoc,List.take_append_of_le_length (by rw [zb5];exact Nat.le_refl _),List.take_of_length_le (by rw [zb5];exact Nat.le_refl _)]
theorem zg9 {k j i e:Nat} (d:Nat × Bool) (r:List Value) (hk:k≤i) (_hj:j≤i) (he:i*2+e=k*2+j*2) :
  (reps i d ++ r).take (k*2) ++ reps j d ++ (reps i d ++ r).drop (k*2+(reps j d).length)=reps (k+j) d ++ r.drop e:=by
 rw [zg8 d hk r,←zgn,zb5,List.drop_append,zb5,List.drop_of_length_le (by rw [zb5];omega),List.nil_append,show k*2+j*2 - i*2=e by omega]
theorem zha {w:World} {g:Nat} {t:TypeId} {cs:List Value} (h:Row w g t cs):∀ j v,cs[j]? = some v→w.cell? ((⟨g,0,none⟩:Addr).add j)=some v:=by
 intro j v hj
 have h1:=h.cell j
 rw [hj] at h1
 rw [←h1]
 congr 1
 unfold Addr.add
 split <;> simp_all
def zsI (d:Nat × Bool) (g m:Nat) (w:World) (n:Value) (wr:World):Prop:=∃ (k:Nat) (rest:List Value),1≤k∧k≤m∧n=.int .i64 (k:Int)∧rest.length=(m - k)*2∧Row wr g 176 (reps k d ++ rest)∧Below w.heap.size w wr
theorem znF {w:World} {g k m:Nat} (h:k < m):(Instr.sliceAt 169 (.slice (some ⟨g,0,none⟩) m m) (some (.int .i64 (k:Int))) none none).run Tryz.prog w=.ok (.slice (some ⟨g,k*2,none⟩) (m - k) (m - k)) w:=by
 have ht:=elemD.under
 have he:Tryz.prog.elem 169=176:=by simp [Program.elem,ht]
 rw [run_sliceAt_slice w _ _ _ _ _ (by rw [he];exact ht),run_slice_l w _ _ m m (by rw [he];exact ht) .i64 (k:Int) (by omega) (by omega),he,elemD.size_]
 have hne:¬m=k:=by omega
 simp [sliced,Addr.add,hne]
 intro h;omega
theorem znG {w:World} {g k m:Nat} (h:k≤m):(Instr.sliceAt 169 (.slice (some ⟨g,0,none⟩) m m) none (some (.int .i64 (k:Int))) none).run Tryz.prog w=.ok (.slice (some ⟨g,0,none⟩) k m) w:=by
 have ht:=elemD.under
 have he:Tryz.prog.elem 169=176:=by simp [Program.elem,ht]
 rw [run_sliceAt_slice w _ _ _ _ _ (by rw [he];exact ht),run_slice_h w _ _ m m (by rw [he];exact ht) .i64 (k:Int) (by omega) (by omega),he,elemD.size_]
 simp [sliced,Addr.add]
theorem zh8 (d:Nat × Bool) (g1 c m:Nat) (w:World) (hr:Row w g1 176 (dc d)) (h1:1≤m) (hm:m≤1000) :
  Calls Tryz.prog 184 #[.slice (some ⟨g1,0,none⟩) 1 c,.int .i64 (m:Int)] w
   fun e w'=>∃ g,e=.returned (.slice (some ⟨g,0,none⟩) m m)∧w.heap.size≤g∧Row w' g 176 (reps m d)∧Below w.heap.size w w':=by
 have HM:=Lib.hid (Tryz.bits_Mul 1 m (by omega) (by omega) w)
 rw [Nat.one_mul,Nat.div_eq_of_lt (by omega),Nat.mod_eq_of_lt (by omega)] at HM
 have HR:=Lib.hid hr
 have hmi:IntKind.u64.wrap (m:Int)=(m:Int):=by rw [IntKind.wrap_u64];omega
 have hmj:IntKind.i64.wrap (m:Int)=(m:Int):=by rw [IntKind.wrap_i64];omega
 have hm1:1≤m:=h1
 have hc1:decide ((9223372036854775807:Int) < (m:Int))=false:=decide_eq_false (by omega)
 go_enter Tryz.func184,Tryz.ntmps184
 go_wp2_with (first | (go_at_call 170;refine HM.out.mono ?_;rintro e w' ⟨rfl,hw'⟩;rw [hw']) | (refine zd8 elemD (dc (0,false)) rfl rfl _ _ rfl _ _ _ _ m w w.heap.size rfl rfl rfl rfl (by omega) (by omega) (Below.refl _ _) (Nat.le_refl _) ?_))
 intro w2 hr2 hb2
 have HR2:=Lib.hid (HR.out.below hb2 HR.out.lt)
 have HNEW:=Lib.hid (show ((List.replicate m (dc (0,false))).flatten).take 0 ++ dc d ++ ((List.replicate m (dc (0,false))).flatten).drop (0+(dc d).length)=reps 1 d ++ ((List.replicate m (dc (0,false))).flatten).drop 2 by
  rw [List.take_zero,List.nil_append,Nat.zero_add,zc6];rfl)
 have hlen:((List.replicate m (dc (0,false))).flatten).length=m*2:=by rw [←zdd (f:=dc) m (0,false),zcV,List.length_replicate]
 have HLEN:=Lib.hid hlen
 clear hlen hr h1
 go_wp2_with (refine zfY elemD rfl _ _ rfl w.heap.size 0 m m ⟨g1,0,none⟩ 1 c _ (dc d) _ HNEW.out 1 w.heap.size w rfl rfl hr2 (Nat.min_eq_left (by omega)) rfl (zha HR2.out) (zmG d) (by rw [HLEN.out,zc6];omega) hb2 (Nat.le_refl _) ?_)
 intro w3 hr3 hb3
 have HS:=Lib.hid (show zsI d w.heap.size m w (.int .i64 1) w3 from ⟨1,_,Nat.le_refl _,by omega,rfl,by rw [List.length_drop,HLEN.out];omega,hr3,hb3⟩)
 clear hr2 hb2 hr3 hb3
 go_wp2
 go_loopw [8] (zsI d w.heap.size m w) (fun i _=>m - (intOf i).toNat)
 case atStart=>exact HS.out
 case round =>
  obtain ⟨k,rest,hk1,hkm,rfl,hrl,hrow,hbw⟩:=hrel
  have HRL:=Lib.hid hrl
  have HROW:=Lib.hid hrow
  have HB:=Lib.hid hbw
  clear hrl hrow hbw
  by_cases hlt:k < m
  ·have hlti:(k:Int) < (m:Int):=by omega
   obtain ⟨j,hj⟩:∃ j,j=min k (m - k):=⟨_,rfl⟩
   have hj1:1≤j:=by omega
   have hjk:j≤k:=by omega
   have hjm:k+j≤m:=by omega
   have HJ:=Lib.hid hj
   clear hj
   obtain ⟨cur,hcur⟩:∃ cur,cur=reps k d ++ rest:=⟨_,rfl⟩
   obtain ⟨new,hnew⟩:∃ new,new=reps (k+j) d ++ rest.drop (j*2):=⟨_,rfl⟩
   rw [←hcur] at HROW
   have HSC:=Lib.hid (show cur.take (k*2) ++ reps j d ++ cur.drop (k*2+(reps j d).length)=new by rw [hcur,hnew];exact zg9 d rest (Nat.le_refl _) hjk rfl)
   have HSN:=Lib.hid (show new.take (k*2) ++ reps j d ++ new.drop (k*2+(reps j d).length)=new by
    rw [hnew,zg9 (e:=0) d (rest.drop (j*2)) (by omega) (by omega) (by omega),List.drop_zero])
   have HTC:=Lib.hid (show cur.take (j*2)=reps j d by rw [hcur,zg8 d hjk])
   have HTN:=Lib.hid (show new.take (j*2)=reps j d by rw [hnew,zg8 d (by omega)])
   have HLC:=Lib.hid (show cur.length=m*2 by rw [hcur,List.length_append,zb5,HRL.out];omega)
   have HLN:=Lib.hid (show new.length=m*2 by rw [hnew,List.length_append,zb5,List.length_drop,HRL.out];omega)
   have HNEW2:=Lib.hid hnew
   clear hcur hnew
   go_wp2
   refine zbI (zl w.heap.size w.heap.size 176 cur new) [.is (.int .i64 (k:Int)),.is (.slice (some ⟨w.heap.size,0,none⟩) m m),.is (.int .i64 (k:Int)),.is (.slice (some ⟨w.heap.size,k*2,none⟩) (m - k) (m - k)),.is (.slice (some ⟨w.heap.size,0,none⟩) m m),.is (.int .i64 (k:Int)),.is (.slice (some ⟨w.heap.size,0,none⟩) k m),
    .of (fun v W=>v=.int .i64 (j:Int)∧Row W w.heap.size 176 new) (fun v W W' h hk=>⟨h.1,hk.2.2 h.2⟩),.is (.int .i64 ((k:Int)+(j:Int))),.is (.int .i64 ((k:Int)+(j:Int)))]
    [some 38,some 39,some 40,some 41,some 42,some 43,some 44,some 45,some 46,some 8] (by kernel_rfl) (by kernel_rfl) (by kernel_rfl) (by kernel_rfl) rfl ⟨?_,?_,?_,?_,?_,?_,?_,?_,?_,?_,trivial⟩ ?_
   ·intro ρ vs W1 hb1 H
    exact zd rfl (H.old 8 _ (by kernel_rfl) rfl) ⟨zt _ _ _,(zl _ _ _ _ _).refl _⟩
   ·intro ρ vs W1 hb1 H
    exact zd rfl (H.old 7 _ (by kernel_rfl) rfl) ⟨zt _ _ _,(zl _ _ _ _ _).refl _⟩
   ·intro ρ vs W1 hb1 H
    exact zd rfl (H.old 8 _ (by kernel_rfl) rfl) ⟨zt _ _ _,(zl _ _ _ _ _).refl _⟩
   ·intro ρ vs W1 hb1 H
    have e1:ρ (.tmp 40)=.int .i64 (k:Int):=H.holds 40 2 (by kernel_rfl)
    exact zL rfl (H.holds 39 1 (by kernel_rfl)) (by simp only [Option.map_some];rw [e1]) rfl rfl (znF hlt) ⟨zt _ _ _,(zl _ _ _ _ _).refl _⟩
   ·intro ρ vs W1 hb1 H
    exact zd rfl (H.old 7 _ (by kernel_rfl) rfl) ⟨zt _ _ _,(zl _ _ _ _ _).refl _⟩
   ·intro ρ vs W1 hb1 H
    exact zd rfl (H.old 8 _ (by kernel_rfl) rfl) ⟨zt _ _ _,(zl _ _ _ _ _).refl _⟩
   ·intro ρ vs W1 hb1 H
    have e1:ρ (.tmp 43)=.int .i64 (k:Int):=H.holds 43 5 (by kernel_rfl)
    exact zL rfl (H.holds 42 4 (by kernel_rfl)) rfl (by simp only [Option.map_some];rw [e1]) rfl (znG hkm) ⟨zt _ _ _,(zl _ _ _ _ _).refl _⟩
   ·intro ρ vs W1 hb1 H
    have hsrc:∀ (l:List Value),l.take (j*2)=reps j d→Row W1 w.heap.size 176 l→∀ i v,(reps j d)[i]? = some v→W1.cell? ((⟨w.heap.size,0,none⟩:Addr).add i)=some v:=by
     intro l hl hr i v hi
     refine zha hr i v ?_
     rw [←hl,List.getElem?_take] at hi
     split at hi
     ·exact hi
     ·cases hi
    have hto:∀ (l:List Value),Row W1 w.heap.size 176 l→Turn w.heap.size w.heap.size 176 cur new W1 (W1.setRow w.heap.size new.toArray):=fun l hr =>
     ⟨below_setRow (Below.refl _ _) (Nat.le_refl _) _,fun _=>.inr (zU hr),fun _=>zU hr⟩
    rcases hb1.2.1 HROW.out with h | h
    ·refine zdJ elemD rfl (H.holds 41 3 (by kernel_rfl)) (H.holds 44 6 (by kernel_rfl)) h (k:=j) HJ.out.symm (zb5 j d) (hsrc cur HTC.out h) (zmH j d) (by rw [HLC.out,zb5];omega) ?_
     rw [HSC.out]
     exact ⟨⟨zt _ _ _,zU h⟩,hto _ h⟩
    ·refine zdJ elemD rfl (H.holds 41 3 (by kernel_rfl)) (H.holds 44 6 (by kernel_rfl)) h (k:=j) HJ.out.symm (zb5 j d) (hsrc new HTN.out h) (zmH j d) (by rw [HLN.out,zb5];omega) ?_
     rw [HSN.out]
     exact ⟨⟨zt _ _ _,zU h⟩,hto _ h⟩
   ·intro ρ vs W1 hb1 H
    have e1:ρ (.tmp 45)=.int .i64 (j:Int):=(H.holds 45 7 (by kernel_rfl)).1
    exact zcd rfl (H.holds 38 0 (by kernel_rfl)) e1 (by omega) (by omega) ⟨zt _ _ _,(zl _ _ _ _ _).refl _⟩
   ·intro ρ vs W1 hb1 H
    exact zf rfl (H.holds 46 8 (by kernel_rfl)) ⟨zt _ _ _,(zl _ _ _ _ _).refl _⟩
   ·intro vs W1 hb1 hfs
    have f7:Row W1 w.heap.size 176 new:=(hfs 7 (by decide)).2
    have f9:vs 9=.int .i64 ((k:Int)+(j:Int)):=hfs 9 (by decide)
    clear hfs
    simp only [zr,Nat.zero_add,Nat.reduceAdd]
    generalize vs 0=z0
    generalize vs 1=z1
    generalize vs 2=z2
    generalize vs 3=z3
    generalize vs 4=z4
    generalize vs 5=z5
    generalize vs 6=z6
    generalize vs 7=z7
    generalize vs 8=z8
    simp only [f9,Act.put,List.setIfInBounds_toArray,List.set_cons_succ,List.set_cons_zero]
    have HREL:=Lib.hid (show zsI d w.heap.size m w (.int .i64 ((k:Int)+(j:Int))) W1 from ⟨k+j,rest.drop (j*2),by omega,hjm,by congr 1,by rw [List.length_drop,HRL.out];omega,by rw [←HNEW2.out];exact f7,HB.out.trans hb1.1⟩)
    clear f7 f9 hb1
    go_wp2
    go_roundw
    case rel=>exact HREL.out
    case measure=>simp [intOf];omega
  ·obtain rfl:k=m:=by omega
   obtain rfl:rest=[]:=List.eq_nil_of_length_eq_zero (by rw [HRL.out];omega)
   have HR9:=HROW
   rw [List.append_nil] at HR9
   go_wp2
   go_ret
   exact ⟨_,rfl,Nat.le_refl _,HR9.out,HB.out⟩
def zw (l:List (Nat × Bool)):List Nat:=l.map (·.1)
theorem zrh:∀ n:Fin 65,max 2 (zi (n.val:Int))=zi ((max 2 n.val:Nat):Int):=by decide +kernel
theorem zri (l:List (Nat × Bool)):omap (fun d:Nat × Bool=>some d.1) l=some (zw l):=by
 induction l with
 | nil=>rfl
 | cons x l ih=>unfold omap;rw [ih];rfl
def zsJ (w:World) (c:Nat) (p:List UInt8) (e:Ending) (w':World):Prop:=∃ v,e=.returned (.tuple #[.int .i64 (c:Int),v,.int .i64 0])∧IsB p v w'∧Below w.heap.size w w'
theorem zpm (l:List (Nat × Bool)) (v:Value) (w:World) (hv:IsR dc l v w) (hb:l.length≤1000000) (hs:zg6 l=true):Calls Tryz.prog 151 #[v] w (zsJ w 0 []):=by
 have HA:=Lib.hid (zg7 l v w hv hb)
 rw [hs] at HA
 clear hv hb hs
 go_enter Tryz.func151,Tryz.ntmps151
 go_wp2_with fail
 refine HA.out.mono ?_
 rintro e w1 ⟨rfl,hb1⟩
 go_wp2
 go_ret3
 exact ⟨_,rfl,zdz _,hb1⟩
theorem zpn (l:List (Nat × Bool)) (v:Value) (w:World) (ht:WTab w) (hv:IsR dc l v w) (h1:1≤l.length) (hb:l.length≤511) (hs:zg6 l=false) (hu:∀ d∈l,d.1 < 2 ^ 63) :
  Calls Tryz.prog 151 #[v] w (zsJ w (zhF (zw l.tail)) (zby (zw l.tail) (zd0 (zw l.tail)))):=by
 have HA:=Lib.hid (zg7 l v w hv (by omega))
 rw [hs] at HA
 obtain ⟨A,n,c,rfl⟩:=hv.shape
 have HN:=Lib.hid hv.parts.1
 have HV:=Lib.hid hv
 obtain ⟨m,hm⟩:∃ m,n=m+1:=⟨n - 1,by have:=HN.out;omega⟩
 subst hm
 have hm6:m≤510:=by have:=HN.out;omega
 have HT:=Lib.hid ht
 obtain ⟨q,hq⟩:∃ q,q=l.tail:=⟨_,rfl⟩
 have HQ:=Lib.hid (show l.drop 1=q by rw [hq,List.drop_one])
 have HQL:=Lib.hid (show q.length=m by rw [hq,List.length_tail];have:=HN.out;omega)
 have HU:=Lib.hid (show ∀ x∈zw q,x < 2 ^ 64 by
  intro x hx
  obtain ⟨d,hd,rfl⟩:=List.mem_map.1 hx
  have:=hu d (List.mem_of_mem_tail (hq ▸ hd))
  exact Nat.lt_trans this (by decide))
 rw [←hq]
 clear hs hu hb h1 hv ht hq
 obtain ⟨v2,hv2,hi2⟩:=zlw (P:=Tryz.prog) elemD zc6 (k:=1) (by omega) HV.out
 rw [show ((1:Nat):Int)=1 from rfl] at hv2
 rw [HQ.out] at hi2
 obtain ⟨A2,n2,c2,rfl⟩:=hi2.shape
 have hn2:n2=m:=by have:=hi2.parts.1;have:=HQL.out;omega
 subst hn2
 have HI2:=Lib.hid hi2
 clear hi2
 have hmi:IntKind.i64.wrap (((n2+1:Nat):Int) - 1)=(n2:Int):=by rw [IntKind.wrap_i64];omega
 go_enter Tryz.func151,Tryz.ntmps151
 go_wp2_with fail
 refine HA.out.mono ?_
 rintro e w1 ⟨rfl,hb1⟩
 have HB1:=Lib.hid hb1
 clear hb1 HA
 go_wp2_with (refine zA elemU rfl _ _ rfl _ _ _ _ n2 w1 w1.heap.size rfl rfl rfl rfl (by omega) (by omega) (Below.refl _ _) (Nat.le_refl _) ?_)
 intro w2 hr2 hb2
 have HS:=Lib.hid (show zdc (fun d:Nat × Bool=>some d.1) uv (uv 0) 101 q w1 (.int .i64 0) w2 from ⟨0,[],by omega,rfl,rfl,by rw [Nat.sub_zero,HQL.out];simpa [uv] using hr2,hb2⟩)
 clear hb2 hr2
 go_wp2_with (refine zI rfl _ _ _ rfl _ (hv2 _) ?_)
 go_loopw [20] (zdc (fun d:Nat × Bool=>some d.1) uv (uv 0) 101 q w1) (fun i _=>n2 - (intOf i).toNat)
 case atStart=>exact HS.out
 case round =>
  obtain ⟨k,acc,hk,rfl,hacc,hr,hbw⟩:=hrel
  have hz:=hbw.size
  have hal:acc.length=k:=by rw [zb4 hacc,List.length_take];omega
  rw [HQL.out] at hr
  have HACC:=Lib.hid hacc
  have HAL:=Lib.hid hal
  have hk':k≤n2:=by have:=HQL.out;omega
  clear hacc hal hk
  by_cases hlt:k < n2
  ·have hkl:k < q.length:=by have:=HQL.out;omega
   have hlti:(k:Int) < (n2:Int):=by omega
   obtain ⟨ad,rfl,had,hcell⟩:=(HI2.out.below (HB1.out.trans (hbw.mono HB1.out.size))).at (m:=2) zc6 (by omega) hkl
   obtain ⟨x,hx⟩:∃ x,x=q[k]:=⟨_,rfl⟩
   rw [←hx] at hcell
   have k0:=zg4 hcell
   have HN2:=Lib.hid (zcP (f:=fun d:Nat × Bool=>some d.1) hkl HACC.out (by rw [←hx]))
   obtain ⟨xu,xf⟩:=x
   dsimp only at k0 HN2
   obtain ⟨k1,k2⟩:=k0
   have hra:=hr.alloc (.cells #[.int .u64 (xu:Int),.bool xf] 176)
   have hfx:=hra.free k
   have hgr:=hr.lt
   have hcu:∃ u,(wr.alloc (.cells #[.int .u64 (xu:Int),.bool xf] 176)).cell? ⟨w1.heap.size,k,none⟩=some u:=by
    rw [hra.cell]
    exact ⟨_,List.getElem?_eq_getElem (by rw [List.length_append,List.length_map,List.length_replicate];have:=HAL.out;omega)⟩
   obtain ⟨u0,hcu⟩:=hcu
   have hset:=hr.set_ k (uv xu)
   rw [zcQ hlt HAL.out] at hset
   have hset:=hset.alloc (.cells #[.int .u64 (xu:Int),.bool xf] 176)
   have HSET:=Lib.hid hset
   have HB3:=Lib.hid ((hbw.setCell (p:=⟨w1.heap.size,k,none⟩) (Nat.le_refl _) (uv xu)).alloc (by rw [World.size_setCell];exact hbw.size) (.cells #[.int .u64 (xu:Int),.bool xf] 176))
   clear hset hr hra hbw hz hx hcell
   unfold uv at HB3 HSET
   go_wp2
   go_roundw
   case rel=>exact ⟨k+1,acc ++ [xu],hkl,by go_num,HN2.out,by rw [HQL.out];exact HSET.out,HB3.out⟩
   case measure=>simp [intOf];omega
  ·obtain rfl:k=n2:=by omega
   have he:acc=zw q:=by
    have h:=HACC.out
    rw [List.take_of_length_le (by rw [HQL.out];exact Nat.le_refl _),zri] at h
    injection h with h
    exact h.symm
   subst he
   have hlen:(zw q).length=k:=by unfold zw;rw [List.length_map,HQL.out]
   obtain ⟨us,hus⟩:∃ us,us=zw q:=⟨_,rfl⟩
   rw [←hus] at hr hlen HU
   have HUS:=Lib.hid hus
   rw [Nat.sub_self,List.replicate_zero,List.append_nil] at hr
   have HI:=Lib.hid (zcB hr hlen (by omega))
   have hlies:=hr.lies 0
   rw [List.drop_zero] at hlies
   have HM:=Lib.hid (zmi (some ⟨w1.heap.size,0,none⟩) k k us wr (fun h=>by cases h) hlen (Nat.le_refl _) (by omega) hlies HU.out)
   obtain ⟨g1,g2,_,g4,g5,g6,g7,g8⟩:=zcS HU.out
   have hmx:max 2 (zi (zbS us:Int))=(zd0 us:Int):=by
    rw [←g1]
    have:=zrh ⟨zbS us,by have:=zei HU.out;omega⟩
    exact this
   have HTW:=Lib.hid (HT.out.below (HB1.out.trans (hbw.mono HB1.out.size)) HT.out.lt)
   have HC:=Lib.hid (zdB (zbS us:Int) wr HTW.out)
   obtain ⟨C,hC⟩:∃ C,C=zi (zbS us:Int):=⟨_,rfl⟩
   rw [←hC] at HC hmx
   obtain ⟨M,hM⟩:∃ M,M=(zbS us:Int):=⟨_,rfl⟩
   rw [←hM] at HM HC
   have hmax:∀ (ts:Array TypeId) (t:TypeId) (W:World),(Builtin.max_ ts t #[.int .i64 2,.int .i64 C]).run Tryz.prog W=.ok (.int .i64 (zd0 us:Int)) W:=fun ts t W=>by
    rw [run_max_int2]
    congr 2
    rw [←hmx]
    split <;> omega
   obtain ⟨W,hW⟩:∃ W,W=zd0 us:=⟨_,rfl⟩
   have HPK:=Lib.hid (zle (W:Int) (v:=.slice (some ⟨w1.heap.size,0,none⟩) k k) (w:=wr) HI.out (by omega) HU.out)
   rw [zb6 _ _ (by omega),hW,zdE (zh6 HU.out),←hW] at HPK
   rw [←hW] at hmax g2
   have HWW:=Lib.hid hW
   have HCD:=Lib.hid (fun w=>zeY (W:Int) w)
   rw [g2] at HCD
   have HB4:=Lib.hid (HB1.out.trans (hbw.mono HB1.out.size))
   clear hr hbw hlies hmx hC hM hW g1 g2 g4 g5 g6 g7 g8 hlen hus hz
   go_wp2_with (first | (go_at_call 139;refine HM.out.mono ?_;rintro e w' ⟨rfl,rfl⟩) | (go_at_call 138;refine HC.out.mono ?_;rintro e w' ⟨rfl,rfl⟩) | (go_at_call 140;refine HPK.out.mono ?_))
   rintro e w5 ⟨v5,rfl,hi5,hb5⟩
   have HI5:=Lib.hid hi5
   have HB5:=Lib.hid (za HB4.out hb5)
   have HT5:=Lib.hid (HTW.out.below hb5 HTW.out.lt)
   clear hi5 hb5
   go_wp2_with (go_at_call 142;refine (HCD.out _ HT5.out).mono ?_;rintro e w' ⟨rfl,rfl⟩)
   go_ret3
   rw [←HUS.out,←HWW.out]
   exact ⟨_,rfl,HI5.out,HB5.out⟩
def zbV (f:Bool) (us:List Nat):List (Nat × Bool):=us.map fun u=>(u,f)
theorem znH {s f:Bool} {x:Int} {u:Nat} {z:Int} {ok:Bool} (h:zbh x u f=(z,ok)):zbj s f x u=if ok=true∧(s=true∨0≤z) then some z else none:=by unfold zbj;rw [h]
theorem zj7:∀ (ys:List Int) (x:Int),(x::ys)[ys.length]? = some (zdK x ys)
 | [],_=>rfl
 | y::ys,x=>by rw [List.length_cons,List.getElem?_cons_succ,zj7 ys y];rfl
def ztz (x:Int) (o:Option (List Int)) (w:World) (e:Ending) (w':World):Prop:=
 match o with
 | none=>e=.returned (.tuple #[.slice none 0 0,.bool false])∧Below w.heap.size w w'
 | some ys=>∃ v,e=.returned (.tuple #[v,.bool true])∧IsV iv (x::ys) v w'∧Below w.heap.size w w'
def zse (s f:Bool) (x:Int) (us:List Nat) (g:Nat) (w:World) (i:Value) (wr:World):Prop:=∃ (k:Nat) (ys:List Int),k≤us.length∧i=.int .i64 (k:Int)∧zbm s f x (us.take k)=some ys ∧
 Row wr g 3 ((x::ys).map iv ++ List.replicate (us.length - k) (iv 0))∧Below w.heap.size w wr
theorem zly (s f:Bool) (x:Int) (us:List Nat) (v:Value) (w:World) (hv:IsR dc (zbV f us) v w) (hx:inInt x) (hu:∀ u∈us,u < 2 ^ 64) (hb:us.length≤1000) :
  Calls Tryz.prog 157 #[.int .i64 x,v,.bool s] w (ztz x (zbm s f x us) w):=by
 obtain ⟨A,n,c,rfl⟩:=hv.shape
 have HN:=Lib.hid (show us.length=n by have:=hv.parts.1;unfold zbV at this;rwa [List.length_map] at this)
 have HV:=Lib.hid hv
 have HU:=Lib.hid hu
 have HXI:=Lib.hid hx
 have hn6:n≤1000:=by have:=HN.out;omega
 have hni:IntKind.i64.wrap ((n:Int)+1)=((n+1:Nat):Int):=by rw [IntKind.wrap_i64];omega
 have hni2:(n:Int)+1=((n+1:Nat):Int):=by omega
 have HNI:=Lib.hid hni2
 clear hv hu hb hx hni2
 go_enter Tryz.func157,Tryz.ntmps157
 go_wp2_with (refine zA zdk rfl _ _ rfl _ _ _ _ (n+1) w w.heap.size rfl rfl rfl rfl (by omega) (by omega) (Below.refl _ _) (Nat.le_refl _) ?_)
 intro w2 hr2 hb2
 have hset:=hr2.set_ 0 (iv x)
 have hfx:=hr2.free 0
 have hcu:∃ u,w2.cell? ⟨w.heap.size,0,none⟩=some u:=by rw [hr2.cell];exact ⟨_,List.getElem?_eq_getElem (by rw [List.length_replicate];omega)⟩
 obtain ⟨u0,hcu⟩:=hcu
 have HS:=Lib.hid (show zse s f x us w.heap.size w (.int .i64 0) (w2.setCell ⟨w.heap.size,0,none⟩ (iv x)) from ⟨0,[],Nat.zero_le _,rfl,by rw [List.take_zero];rfl,by
  rw [HN.out,Nat.sub_zero];rw [List.replicate_succ,List.set_cons_zero] at hset;exact hset,hb2.setCell (p:=⟨w.heap.size,0,none⟩) (Nat.le_refl _) _⟩)
 clear hset hb2 hr2
 unfold iv at HS
 go_wp2
 go_loopw [22] (zse s f x us w.heap.size w) (fun i _=>n - (intOf i).toNat)
 case atStart=>exact HS.out
 case round =>
  clear hcu hfx
  obtain ⟨k,ys,hk,rfl,hwk,hrow,hbw⟩:=hrel
  have HWK:=Lib.hid hwk
  have HYL:=Lib.hid (show ys.length=k by rw [zg2 hwk,List.length_take];omega)
  have HZ:=Lib.hid (zer hwk HXI.out)
  rw [HN.out] at hrow
  have HROW:=Lib.hid hrow
  have HB:=Lib.hid hbw
  have hkn:k≤n:=by have:=HN.out;omega
  have hgw:=hrow.lt
  clear hwk hrow hk
  by_cases hlt:k < n
  ·have hkl:k < us.length:=by have:=HN.out;omega
   have hkt:k < (zbV f us).length:=by unfold zbV;rw [List.length_map];exact hkl
   have hlti:(k:Int) < (n:Int):=by omega
   obtain ⟨ad,rfl,had,hcell⟩:=(HV.out.below hbw).at (m:=2) zc6 (by omega) hkt
   obtain ⟨u,hue⟩:∃ u,u=us[k]:=⟨_,rfl⟩
   have hte:(zbV f us)[k]=(u,f):=by
    have h:(zbV f us)[k]? = some (u,f):=by unfold zbV;rw [List.getElem?_map,List.getElem?_eq_getElem hkl,←hue];rfl
    rw [List.getElem?_eq_getElem hkt] at h
    injection h
   rw [hte] at hcell
   have k0:=zg4 hcell
   dsimp only at k0
   obtain ⟨k1,k2⟩:=k0
   have hu64:(u:Int) < 18446744073709551616:=by have:=HU.out u (by rw [hue];exact List.getElem_mem hkl);omega
   obtain ⟨y,hy⟩:∃ y,y=zdK x ys:=⟨_,rfl⟩
   rw [←hy] at HZ
   have HTK:=Lib.hid (show us.take (k+1)=us.take k ++ [u] by rw [List.take_succ_eq_append_getElem hkl,hue])
   have HSN:=Lib.hid (show zbm s f x (us.take (k+1))=match zbj s f y u with | none=>none | some z=>some (ys ++ [z]) by rw [HTK.out,zcK,HWK.out];dsimp only;rw [←hy];try rfl)
   obtain ⟨z,ok,hzo⟩:∃ z ok,zbh y u f=(z,ok):=⟨_,_,rfl⟩
   have HST:=Lib.hid (fun W=>zgm y u f W HZ.out hu64)
   rw [hzo] at HST
   have HGN:=Lib.hid (znH (s:=s) hzo)
   obtain ⟨W0,hW0⟩:∃ W0,W0=wr.alloc (.cells #[.int .u64 (u:Int),.bool f] 176):=⟨_,rfl⟩
   have HBA:=Lib.hid (show Below wr.heap.size wr W0 by rw [hW0];exact (Below.refl _ _).alloc (Nat.le_refl _) _)
   have HD:=Lib.hid (show Row W0 wr.heap.size 176 (dc (u,f)) by rw [hW0];exact heap_alloc_new wr _)
   have HCY:=Lib.hid (show ∀ W,Below wr.heap.size wr W→W.cell? ((⟨w.heap.size,0,none⟩:Addr).add k)=some (.int .i64 y) from fun W hW=>zha (HROW.out.below hW hgw) k _ (by
    rw [List.getElem?_append_left (by rw [List.length_map,List.length_cons,HYL.out];omega),List.getElem?_map,←HYL.out,zj7,hy];rfl))
   clear hcell hue hte hzo hu64 hy hbw
   go_wp2
   rw [←hW0]
   refine wp_region_list [.is (.slice (some ⟨w.heap.size,0,none⟩) (n+1) (n+1)),.is (.int .i64 (k:Int)),.is (.pointer (some ((⟨w.heap.size,0,none⟩:Addr).add k))),.is (.int .i64 y),.is (dv (u,f)),.is (.tuple #[.int .i64 z,.bool ok]),.is (.tuple #[.int .i64 z,.bool ok]),.is (.int .i64 z),.is (.bool ok),.is (.int .i64 z),.is (.bool ok)]
    [some 28,some 29,some 30,some 31,some 32,some 33,some 27,some 34,some 35,some 11,some 12] (by kernel_rfl) (by kernel_rfl) (by kernel_rfl) rfl ⟨?_,?_,?_,?_,?_,?_,?_,?_,?_,?_,?_,trivial⟩ ?_
   ·intro ρ W1 hb1 H
    exact zd rfl (H.old 8 _ (by kernel_rfl) rfl) ⟨rfl,Below.refl _ _⟩
   ·intro ρ W1 hb1 H
    exact zd rfl (H.old 9 _ (by kernel_rfl) rfl) ⟨rfl,Below.refl _ _⟩
   ·intro ρ W1 hb1 H
    exact zF zdk rfl (H.new 28 0 (by kernel_rfl)) (H.new 29 1 (by kernel_rfl)) (by omega) ⟨rfl,Below.refl _ _⟩
   ·intro ρ W1 hb1 H
    exact ze rfl (H.new 30 2 (by kernel_rfl)) Tryz.underlying3 rfl (HCY.out W1 (HBA.out.trans (hb1.mono HBA.out.size))) ⟨rfl,Below.refl _ _⟩
   ·intro ρ W1 hb1 H
    exact zbn (cs:=dc (u,f)) rfl (H.old 10 _ (by kernel_rfl) rfl) Tryz.underlying176 rfl zpc (HD.out.below hb1 HD.out.lt) ⟨rfl,Below.refl _ _⟩
   ·intro ρ W1 hb1 H
    have e0:ρ (.tmp 31)=.int .i64 y:=H.new 31 3 (by kernel_rfl)
    have e1:ρ (.tmp 32)=dv (u,f):=H.new 32 4 (by kernel_rfl)
    refine zk rfl (fun _ _=>by kernel_rfl) (H.func _) (args:=#[.int .i64 y,dv (u,f)]) (by simp [e0,e1]) ?_
    exact (HST.out W1).mono fun e w' ⟨h1,h2⟩=>⟨_,h1,rfl,h2⟩
   ·intro ρ W1 hb1 H
    exact zd rfl (H.new 33 5 (by kernel_rfl)) ⟨rfl,Below.refl _ _⟩
   ·intro ρ W1 hb1 H
    exact zg rfl (H.new 27 6 (by kernel_rfl)) rfl ⟨rfl,Below.refl _ _⟩
   ·intro ρ W1 hb1 H
    exact zg rfl (H.new 27 6 (by kernel_rfl)) rfl ⟨rfl,Below.refl _ _⟩
   ·intro ρ W1 hb1 H
    exact zf rfl (H.new 34 7 (by kernel_rfl)) ⟨rfl,Below.refl _ _⟩
   ·intro ρ W1 hb1 H
    exact zf rfl (H.new 35 8 (by kernel_rfl)) ⟨rfl,Below.refl _ _⟩
   ·intro vs W1 hb1 hfs
    have f9:vs 9=.int .i64 z:=hfs 9 (by decide)
    have f10:vs 10=.bool ok:=hfs 10 (by decide)
    clear hfs
    simp only [zr,Nat.zero_add,Nat.reduceAdd]
    generalize vs 0=z0
    generalize vs 1=z1
    generalize vs 2=z2
    generalize vs 3=z3
    generalize vs 4=z4
    generalize vs 5=z5
    generalize vs 6=z6
    generalize vs 7=z7
    generalize vs 8=z8
    simp only [f9,f10,Act.put,List.setIfInBounds_toArray,List.set_cons_succ,List.set_cons_zero]
    have hbb:=HBA.out.trans (hb1.mono HBA.out.size)
    have HB1:=Lib.hid (HB.out.trans (hbb.mono HB.out.size))
    have hrow1:=HROW.out.below hbb hgw
    have hset:=hrow1.set_ (k+1) (iv z)
    have hfx:=hrow1.free (k+1)
    have hcu:∃ u,W1.cell? ⟨w.heap.size,k+1,none⟩=some u:=by
     rw [hrow1.cell]
     exact ⟨_,List.getElem?_eq_getElem (by rw [List.length_append,List.length_map,List.length_cons,HYL.out,List.length_replicate];omega)⟩
    obtain ⟨u0,hcu⟩:=hcu
    have hfill:=zcQ (enc:=iv) (z:=iv 0) (acc:=x::ys) (y:=z) (n:=n+1) (k:=k+1) (by omega) (by rw [List.length_cons,HYL.out])
    rw [show n+1 - (k+1)=n - k by omega,show n+1 - (k+1+1)=n - (k+1) by omega] at hfill
    rw [hfill] at hset
    have HSET:=Lib.hid hset
    have HB3:=Lib.hid (HB1.out.setCell (p:=⟨w.heap.size,k+1,none⟩) (Nat.le_refl _) (iv z))
    unfold iv at HSET HB3
    clear f9 f10 hb1 hbb hrow1 hset hfill
    have hno:zbj s f y u=none→zbm s f x us=none:=fun h=>zcT (k:=k+1) (by rw [HSN.out,h])
    have HNO:=Lib.hid hno
    clear hno
    cases ok with
    | false =>
     have HE:=Lib.hid (HNO.out (by rw [HGN.out,if_neg (by rintro ⟨h,_⟩;cases h)]))
     go_wp2
     go_ret2
     rw [HE.out]
     exact ⟨rfl,HB1.out⟩
    | true =>
     by_cases hz:z < 0
     ·have d3:decide (z < 0)=true:=decide_eq_true hz
      cases s with
      | false =>
       have HE:=Lib.hid (HNO.out (by rw [HGN.out,if_neg (by rintro ⟨_,h | h⟩;cases h;omega)]))
       go_wp2
       go_ret2
       rw [HE.out]
       exact ⟨rfl,HB1.out⟩
      | true =>
       have HW2:=Lib.hid (show zbm true f x (us.take (k+1))=some (ys ++ [z]) by rw [HSN.out,HGN.out,if_pos ⟨rfl,.inl rfl⟩])
       go_wp2
       go_roundw
       case rel=>exact ⟨k+1,ys ++ [z],hkl,by go_num,HW2.out,by rw [HN.out];exact HSET.out,HB3.out⟩
       case measure=>simp [intOf];omega
     ·have d3:decide (z < 0)=false:=decide_eq_false hz
      have HW2:=Lib.hid (show zbm s f x (us.take (k+1))=some (ys ++ [z]) by rw [HSN.out,HGN.out,if_pos ⟨rfl,.inr (by omega)⟩])
      go_wp2
      go_roundw
      case rel=>exact ⟨k+1,ys ++ [z],hkl,by go_num,HW2.out,by rw [HN.out];exact HSET.out,HB3.out⟩
      case measure=>simp [intOf];omega
  ·obtain rfl:k=n:=by omega
   have HE:=Lib.hid HWK.out
   rw [List.take_of_length_le (by rw [HN.out];exact Nat.le_refl _)] at HE
   have hr:=HROW.out
   rw [Nat.sub_self,List.replicate_zero,List.append_nil] at hr
   have HI:=Lib.hid (zcB hr (show (x::ys).length=k+1 by rw [List.length_cons,HYL.out]) (by omega))
   clear hr
   go_wp2
   go_ret2
   rw [HE.out]
   exact ⟨_,rfl,HI.out,HB.out⟩
def ztf (f:Bool) (o:Option (List Nat × List UInt8)) (w:World) (e:Ending) (w':World):Prop:=
 match o with
 | none=>e=.returned (.tuple #[.slice none 0 0,.slice none 0 0,.bool false])∧Below w.heap.size w w'
 | some p=>∃ u r,e=.returned (.tuple #[u,r,.bool true])∧IsR dc (zbV f p.1) u w'∧OwnB w p.2 r w'∧Below w.heap.size w w'
theorem zlz (m:Nat) (u:Nat) (f:Bool):reps m (u,f)=(zbV f (List.replicate m u)).flatMap dc:=by unfold reps zbV;rw [List.map_replicate]
theorem zet (f:Bool) (us:List Nat):(zbV f us).length=us.length:=by unfold zbV;rw [List.length_map]
theorem znI (A:Value) (C M d:Int) (w:World) (hd:inInt d) (hg:(zx 0 d).2.2=false) :
  Calls Tryz.prog 156 #[A,.int .i64 C,.int .i64 M,.int .i64 d] w (ztf (zx 0 d).2.1 none w):=by
 have HB:=Lib.hid (zcU 0 d w (by unfold inInt;omega) hd)
 unfold zpd at HB
 rw [hg] at HB
 obtain ⟨x,hx⟩:∃ x,x=zea (zx 0 d):=⟨_,rfl⟩
 rw [←hx] at HB
 obtain ⟨xu,xf⟩:=x
 unfold dv dc at HB
 dsimp only at HB
 clear hx hd hg
 go_enter Tryz.func156,Tryz.ntmps156
 go_wp2_with (go_at_call 178;refine HB.out.mono ?_;rintro e w1 ⟨rfl,hb1⟩)
 go_ret3
 exact ⟨rfl,hb1.alloc hb1.size _⟩
theorem zlA (v:Value) (M:Nat) (d:Int) (u0:Nat) (f:Bool) (w:World) (hM2:2≤M) (hM:M≤512) (hd:inInt d) (hx:zx 0 d=(u0,f,true)) :
  Calls Tryz.prog 156 #[v,.int .i64 0,.int .i64 (M:Int),.int .i64 d] w (fun e w' =>
   ∃ u,e=.returned (.tuple #[u,v,.bool true])∧IsR dc (zbV f (List.replicate (M - 1) u0)) u w'∧Below w.heap.size w w'):=by
 have HB:=Lib.hid (zcU 0 d w (by unfold inInt;omega) hd)
 unfold zpd at HB
 rw [hx] at HB
 unfold zea dv dc at HB
 dsimp only at HB
 clear hx hd
 obtain ⟨m,hm⟩:∃ m,M=m+1:=⟨M - 1,by omega⟩
 subst hm
 have e1:m+1 - 1=m:=by omega
 rw [e1]
 have hmi1:IntKind.i64.wrap (((m+1:Nat):Int) - 1)=(m:Int):=by rw [IntKind.wrap_i64];omega
 have HRP:=Lib.hid (fun w1:World=>zh8 (u0,f) (w1.heap.size+1) 1 m ((w1.alloc (.cells #[.int .u64 (u0:Int),.bool f] 176)).alloc (.cells #[.int .u64 (u0:Int),.bool f] 176)) (by
  have h:=heap_alloc_new (w1.alloc (.cells #[.int .u64 (u0:Int),.bool f] 176)) (.cells #[.int .u64 (u0:Int),.bool f] 176)
  rw [show (w1.alloc (.cells #[.int .u64 (u0:Int),.bool f] 176)).heap.size=w1.heap.size+1 by simp] at h
  exact h) (by omega) (by omega))
 clear e1
 go_enter Tryz.func156,Tryz.ntmps156
 go_wp2_with fail
 refine HB.out.mono ?_
 rintro e w1 ⟨rfl,hb1⟩
 have HB2:=Lib.hid ((hb1.alloc hb1.size (.cells #[.int .u64 (u0:Int),.bool f] 176)).alloc (by simp;have:=hb1.size;omega) (.cells #[.int .u64 (u0:Int),.bool f] 176))
 clear hb1
 go_wp2_with (go_at_call 184;refine (HRP.out w1).mono ?_)
 rintro e w2 ⟨g,rfl,hg,hr,hb2⟩
 rw [zlz] at hr
 have HI:=Lib.hid (ziT hr (by rw [zet,List.length_replicate]) (by omega))
 have HB3:=Lib.hid (za HB2.out hb2)
 clear hr hb2 hg
 go_wp2
 go_ret3
 exact ⟨_,rfl,HI.out,HB3.out⟩
def zpo (f:Bool) (u0:Nat) (us:List Nat) (g:Nat) (w w3:World) (i:Value) (wr:World):Prop:=∃ k:Nat,k≤us.length∧i=.int .i64 (k:Int) ∧
 Row wr g 176 ((zbV f (u0::us.take k)).flatMap dc ++ reps (us.length - k) (u0,f))∧Below w.heap.size w wr∧w3.grownBy wr (some g)
theorem ztg {f:Bool} {u0:Nat} {us:List Nat} {k:Nat} (h:k < us.length):((zbV f (u0::us.take k)).flatMap dc ++ reps (us.length - k) (u0,f)).set ((k+1)*2) (.int .u64 (us[k]:Int)) =
  (zbV f (u0::us.take (k+1))).flatMap dc ++ reps (us.length - (k+1)) (u0,f):=by
 have hl:((zbV f (u0::us.take k)).flatMap dc).length=(k+1)*2:=by rw [zcV,zet,List.length_cons,List.length_take];congr 1;omega
 have hr:reps (us.length - k) (u0,f)=dc (u0,f) ++ reps (us.length - (k+1)) (u0,f):=by
  rw [show us.length - k=1+(us.length - (k+1)) by omega,zgn];rfl
 have ht:(zbV f (u0::us.take (k+1))).flatMap dc=(zbV f (u0::us.take k)).flatMap dc ++ dc (us[k],f):=by
  rw [List.take_succ_eq_append_getElem h]
  unfold zbV
  rw [←List.cons_append,List.map_append,List.flatMap_append]
  rfl
 rw [List.set_append_right _ _ (by omega),hl,Nat.sub_self,hr,ht,List.append_assoc]
 rfl
theorem zlB (r:List UInt8) (v:Value) (C M:Nat) (d:Int) (u0:Nat) (f:Bool) (w:World) (ht:WTab w) (hv:IsB r v w) (hb:r.length≤1000000) (hC1:1≤C) (hC:C≤31) (hM2:2≤M) (hM:M≤512) (hd:inInt d) (hx:zx 0 d=(u0,f,true)) :
  Calls Tryz.prog 156 #[v,.int .i64 (C:Int),.int .i64 (M:Int),.int .i64 d] w
   (ztf f (if (zh r (M - 2:Nat) (wof C)).2.2=0 then some (u0::(zh r (M - 2:Nat) (wof C)).1,(zh r (M - 2:Nat) (wof C)).2.1) else none) w):=by
 have HB:=Lib.hid (zcU 0 d w (by unfold inInt;omega) hd)
 unfold zpd at HB
 rw [hx] at HB
 unfold zea dv dc at HB
 dsimp only at HB
 clear hx hd
 obtain ⟨m,hm⟩:∃ m,m=M - 2:=⟨_,rfl⟩
 obtain ⟨p,hp⟩:∃ p,p=M - 1:=⟨_,rfl⟩
 rw [←hm]
 have HPM:=Lib.hid (show p=m+1 by omega)
 have hmi1:IntKind.i64.wrap ((M:Int) - 1)=(p:Int):=by rw [IntKind.wrap_i64];omega
 have hmi2:IntKind.i64.wrap ((M:Int) - 2)=(m:Int):=by rw [IntKind.wrap_i64];omega
 have hmi3:(M:Int) - 1=(p:Int):=by omega
 have hmi4:(M:Int) - 2=(m:Int):=by omega
 have HRP:=Lib.hid (fun w1:World=>zh8 (u0,f) (w1.heap.size+1) 1 p ((w1.alloc (.cells #[.int .u64 (u0:Int),.bool f] 176)).alloc (.cells #[.int .u64 (u0:Int),.bool f] 176)) (by
  have h:=heap_alloc_new (w1.alloc (.cells #[.int .u64 (u0:Int),.bool f] 176)) (.cells #[.int .u64 (u0:Int),.bool f] 176)
  rw [show (w1.alloc (.cells #[.int .u64 (u0:Int),.bool f] 176)).heap.size=w1.heap.size+1 by simp] at h
  exact h) (by omega) (by omega))
 have HT:=Lib.hid ht
 have HV:=Lib.hid hv
 have hc0:((C:Int) == 0)=false:=by simp;omega
 obtain ⟨W,hW⟩:∃ W,W=wof (C:Int):=⟨_,rfl⟩
 have HOF:=Lib.hid (fun W1 (h:WTab W1)=>zhL (C:Int) W1 h (by omega) (by omega))
 rw [←hW] at HOF ⊢
 obtain ⟨us,q,y,hu⟩:∃ us q y,zh r (m:Int) W=(us,q,y):=⟨_,_,_,rfl⟩
 have HUN:=Lib.hid (fun W1 (h:IsB r v W1)=>zej (m:Int) W h hb)
 rw [hu] at HUN ⊢
 unfold RetUO at HUN
 dsimp only at HUN ⊢
 have HUL:=Lib.hid (show y=0→us.length=m from fun hy=>by subst hy;exact (zJ hu).1)
 obtain ⟨o,ho⟩:∃ o,o=(if y=0 then some (u0::us,q) else none):=⟨_,rfl⟩
 have HO:=Lib.hid ho
 rw [←ho]
 clear ho hu hW ht hv hb hC1 hM2 hm hp
 go_enter Tryz.func156,Tryz.ntmps156
 go_wp2_with fail
 refine HB.out.mono ?_
 rintro e w1 ⟨rfl,hb1⟩
 have HB2:=Lib.hid ((hb1.alloc hb1.size (.cells #[.int .u64 (u0:Int),.bool f] 176)).alloc (by simp;have:=hb1.size;omega) (.cells #[.int .u64 (u0:Int),.bool f] 176))
 clear hb1
 go_wp2_with (go_at_call 184;refine (HRP.out w1).mono ?_)
 rintro e w2 ⟨g,rfl,hg,hr,hb2⟩
 have HROW:=Lib.hid hr
 have hgw:=hr.lt
 have HB3:=Lib.hid (za HB2.out hb2)
 have hwg:w.heap.size≤g:=Nat.le_trans HB2.out.size hg
 clear hr hb2 hg
 have HT2:=Lib.hid (HT.out.below HB3.out HT.out.lt)
 go_wp2_with (first | (go_at_call 145;refine (HOF.out _ HT2.out).mono ?_;rintro e w' ⟨rfl,rfl⟩) | (go_at_call 144;refine (HUN.out _ (HV.out.below HB3.out)).mono ?_))
 rintro e w3 ⟨su,sr,rfl,hsu,hsr,hb3⟩
 by_cases hy:y=0
 ·subst hy
  have HO1:Hid (o=some (u0::us,q)):=Lib.hid (by rw [HO.out,if_pos rfl])
  have HUM:=Lib.hid (HUL.out rfl)
  have hn:=zbd hsu
  obtain ⟨SB,sc,rfl,hs1,hs2,_,hs4,hs5⟩:=hn
  have HSU:=Lib.hid hsu
  rw [HUM.out] at HSU
  have HSR:=Lib.hid hsr
  have HB4:=Lib.hid (za HB3.out hb3)
  have HROW3:=Lib.hid (HROW.out.below hb3 hgw)
  have hgw3:=HROW3.out.lt
  rw [HUM.out]
  clear hsu hsr hs1 hs2 hs4 hs5
  have HS:=Lib.hid (show zpo f u0 us g w w3 (.int .i64 0) w3 from ⟨0,Nat.zero_le _,rfl,by
   have h:=HROW3.out
   rw [HPM.out,Nat.add_comm m 1,zgn] at h
   rw [List.take_zero,HUM.out,Nat.sub_zero]
   exact h,HB4.out,World.grownBy.refl _ _⟩)
  clear hb3
  go_wp2
  go_loopw [49] (zpo f u0 us g w w3) (fun i _=>m - (intOf i).toNat)
  case atStart=>exact HS.out
  case round =>
   obtain ⟨k,hk,rfl,hrow,hbw,hgr⟩:=hrel
   have HRW:=Lib.hid hrow
   have HBW:=Lib.hid hbw
   have HGR:=Lib.hid hgr
   have hkm:k≤m:=by have:=HUM.out;omega
   have hgwr:=hrow.lt
   clear hrow hbw hgr hk
   by_cases hlt:k < m
   ·have hkl:k < us.length:=by have:=HUM.out;omega
    have hlti:(k:Int) < (m:Int):=by omega
    have hkp:(k:Int)+1 < (p:Int):=by have:=HPM.out;omega
    have hV:IsV uv us (.slice SB m sc) wr:=zbi (zgi HSU.out HGR.out hgw)
    obtain ⟨ad,rfl,had,hcell⟩:=hV.at hkl
    obtain ⟨u,hue⟩:∃ u,u=us[k]:=⟨_,rfl⟩
    rw [←hue] at hcell
    unfold uv at hcell
    have hset:=HRW.out.set_ ((k+1)*2) (.int .u64 (us[k]:Int))
    rw [ztg hkl,←hue] at hset
    have HSET:=Lib.hid hset
    have hfx:=HRW.out.free ((k+1)*2)
    have hcu:∃ u,wr.cell? ⟨g,(k+1)*2,none⟩=some u:=by
     rw [HRW.out.cell]
     exact ⟨_,List.getElem?_eq_getElem (by rw [List.length_append,zcV,zet,List.length_cons,List.length_take,zb5];omega)⟩
    obtain ⟨c0,hcu⟩:=hcu
    have HBS:=Lib.hid (HBW.out.setCell (p:=⟨g,(k+1)*2,none⟩) hwg (.int .u64 (u:Int)))
    have HGS:=Lib.hid (HGR.out.trans (zcf wr g ((k+1)*2) (.int .u64 (u:Int))))
    clear hset hV hue
    go_wp2
    go_roundw
    case rel=>exact ⟨k+1,hkl,by go_num,HSET.out,HBS.out,HGS.out⟩
    case measure=>simp [intOf];omega
   ·obtain rfl:k=m:=by omega
    have hr:=HRW.out
    rw [HUM.out,Nat.sub_self,List.take_of_length_le (by rw [HUM.out];exact Nat.le_refl _),show reps 0 (u0,f)=[] from rfl,List.append_nil] at hr
    have HI:=Lib.hid (ziT hr (show (zbV f (u0::us)).length=p by rw [zet,List.length_cons,HUM.out,HPM.out]) (by have:=HPM.out;omega))
    obtain ⟨nq,hq⟩:=HSR.out
    have HQ:=Lib.hid (show OwnB w q sr wr from ⟨nq,zbR (Nat.le_trans HB3.out.size (Nat.le_refl _)) (zgi hq HGR.out hgw)⟩)
    clear hr hq
    go_wp2
    go_ret3
    rw [HO1.out]
    exact ⟨_,_,rfl,HI.out,HQ.out,HBW.out⟩
 ·have hy2:(y != 0)=true:=by simpa using hy
  have HO1:Hid (o=none):=Lib.hid (by rw [HO.out,if_neg hy])
  have HB4:=Lib.hid (za HB3.out hb3)
  clear hsu hsr hb3 hy
  go_wp2
  go_ret3
  rw [HO1.out]
  exact ⟨rfl,HB4.out⟩
theorem zgo {a b:Int} (h:(zx a b).2.2=true):(zx a b).2.1=decide (b < a)∧((zx a b).1=0→(zx a b).2.1=false):=by
 rcases zbJ a b with ⟨k,_⟩ | ⟨k1,k2,k⟩ | ⟨k1,k2,k⟩
 ·rw [k] at h;cases h
 ·rw [k];exact ⟨(decide_eq_true k1).symm,fun h=>by dsimp only at h;omega⟩
 ·rw [k];exact ⟨(decide_eq_false (by omega)).symm,fun _=>rfl⟩
theorem znJ {l:List Int} {x:Int} (hx:x∈l) (h:x < 0):zG l false=none:=zb0 hx (by unfold zD;rw [if_neg (by decide),if_neg (by omega)])
theorem zhb {l:List Int} {s:Bool} (h:s=true∨∀ x∈l,0≤x):zG l s≠none:=by
 unfold zG
 induction l with
 | nil=>simp [omap]
 | cons x l ih =>
  have h1:∃ u,zD x s=some u:=by
   unfold zD
   rcases h with h | h
   ·rw [if_pos h];exact ⟨_,rfl⟩
   ·have:=h x List.mem_cons_self
    split
    ·exact ⟨_,rfl⟩
    ·first | exact ⟨_,rfl⟩ | (rw [if_pos this];exact ⟨_,rfl⟩)
  obtain ⟨u,hu⟩:=h1
  have h2:=ih (h.imp id fun h y hy=>h y (List.mem_cons_of_mem _ hy))
  rw [omap,hu]
  dsimp only
  cases hr:omap (zD · s) l with
  | none=>exact absurd hr h2
  | some r=>simp
theorem zh9 {α β:Type} {f:α→Option β} {g:α→β}:∀ {l:List α},(∀ x∈l,f x=some (g x))→omap f l=some (l.map g)
 | [],_=>rfl
 | x::l,h=>by
  rw [omap,h x List.mem_cons_self,zh9 fun y hy=>h y (List.mem_cons_of_mem _ hy)]
  rfl
section
variable {l:List Int} {k:Nat}
theorem zpp {f:Bool} {i:Nat} (h:(zE l i).2.2=false):gat l f i=none:=zmD (by unfold zE at h;rw [h];simp)
theorem zdq (i:Nat) (h:i < k):(zm l k)[i]? = some (zea (zE l i)):=by
 unfold zm
 rw [List.getElem?_map,List.getElem?_range h]
 rfl
theorem zfG {d:Nat × Bool} (h:d∈zm l k):∃ i,i < k∧d=zea (zE l i):=by
 obtain ⟨i,hi,rfl⟩:=List.mem_map.1 h
 exact ⟨i,List.mem_range.1 hi,rfl⟩
theorem zdM (h:0 < k):(zm l k).headD (0,false)=zea (zE l 0):=by
 have h1:=zdq (l:=l) 0 h
 cases hg:zm l k with
 | nil=>rw [hg] at h1;cases h1
 | cons a t=>rw [hg] at h1;injection h1
theorem zia (hk:0 < k) (hok:∀ i,i < k→(zE l i).2.2=true) (hw:dway (zm l k)=true):zbK l (zbA l) k=some (zw (zm l k)):=by
 unfold zbK zw zm
 rw [List.map_map]
 refine zh9 fun i hi=>?_
 have hi:=List.mem_range.1 hi
 have h0:=zgo (hok 0 hk)
 have hf:zbA l=(zE l 0).2.1:=h0.1.symm
 unfold dway at hw
 rw [zdM hk] at hw
 have h1:zb1 (zea (zE l 0)).2 (zea (zE l i))=false:=by
  have h2:((zm l k).any (zb1 (zea (zE l 0)).2))=false:=by simpa using hw
  rw [List.any_eq_false] at h2
  have h3:=h2 _ (List.mem_of_getElem? (zdq (l:=l) i hi))
  simpa using h3
 refine zrc (hok i hi) ?_
 rw [hf]
 unfold zb1 zea at h1
 dsimp only at h1
 by_cases hz:(zE l i).1=0
 ·exact .inl hz
 ·right
  have h4:((zE l i).1 != 0)=true:=by simpa using hz
  rw [h4,Bool.true_and] at h1
  show (zE l i).2.1=(zE l 0).2.1
  simpa using h1
theorem zhc (hk:0 < k) (hok:∀ i,i < k→(zE l i).2.2=true) (hw:dway (zm l k)=false):zbK l (zbA l) k=none:=by
 unfold dway at hw
 rw [zdM hk] at hw
 have h2:((zm l k).any (zb1 (zea (zE l 0)).2))=true:=by simpa using hw
 obtain ⟨d,hd,ht⟩:=List.any_eq_true.1 h2
 obtain ⟨i,hi,rfl⟩:=zfG hd
 have hf:zbA l=(zE l 0).2.1:=(zgo (hok 0 hk)).1.symm
 refine zeL hi (zmD ?_)
 rw [hf]
 unfold zb1 zea at ht
 dsimp only at ht
 rw [Bool.and_eq_true] at ht
 rintro ⟨_,h | h⟩
 ·unfold zE at ht;rw [h] at ht;simp at ht
 ·unfold zE at ht;rw [h] at ht;unfold zE at ht;simp at ht
theorem zj8 (hk:0 < k) (hok:∀ i,i < k→(zE l i).2.2=true) (hw:dway (zm l k)=true):zg6 (zm l k)=gall (zw (zm l k)):=by
 have hhead:=zdM (l:=l) hk
 have hs:(zw (zm l k)).headD 0=((zm l k).headD (0,false)).1:=by unfold zw;cases zm l k <;> rfl
 unfold zg6 gall
 rw [hs]
 unfold zw
 rw [List.all_map]
 rw [Bool.eq_iff_iff,List.all_eq_true,List.all_eq_true]
 constructor
 ·intro h d hd
  have h1:d=(zm l k).headD (0,false):=by simpa using h d hd
  show ((d.1 == ((zm l k).headD (0,false)).1))=true
  rw [←h1];simp
 ·intro h d hd
  have h1:d.1=((zm l k).headD (0,false)).1:=by have:=h d hd;simpa using this
  have h2:d.2=((zm l k).headD (0,false)).2:=by
   by_cases hz:d.1=0
   ·have ha:∀ e∈zm l k,e.1=0→e.2=false:=by
     intro e he h0
     obtain ⟨i,hi,rfl⟩:=zfG he
     exact (zgo (hok i hi)).2 h0
    rw [ha d hd hz]
    have hm:(zm l k).headD (0,false)∈zm l k:=by rw [hhead];exact List.mem_of_getElem? (zdq (l:=l) 0 hk)
    exact (ha _ hm (by rw [←h1];exact hz)).symm
   ·unfold dway at hw
    have h3:((zm l k).any (zb1 ((zm l k).headD (0,false)).2))=false:=by simpa using hw
    rw [List.any_eq_false] at h3
    have h4:=h3 d hd
    unfold zb1 at h4
    have h5:(d.1 != 0)=true:=by simpa using hz
    rw [h5,Bool.true_and] at h4
    simpa using h4
  have h3:d=(zm l k).headD (0,false):=Prod.ext h1 h2
  rw [←h3];simp
theorem zrj:∀ d∈zm l k,d.1 < 2 ^ 63:=by
 intro d hd
 obtain ⟨i,_,rfl⟩:=zfG hd
 have:=zc4 (l.getD i 0) (l.getD (i+1) 0)
 show (zx (l.getD i 0) (l.getD (i+1) 0)).1 < 9223372036854775808
 omega
theorem zib (hk:0 < k) (hok:∀ i,i < k→(zE l i).2.2=true):zbh 0 (zE l 0).1 (zE l 0).2.1=(zfb l (zw (zm l k)),true):=by
 have hs:(zw (zm l k)).headD 0=(zE l 0).1:=by
  have h:=zdM (l:=l) hk
  have h2:(zw (zm l k)).headD 0=((zm l k).headD (0,false)).1:=by unfold zw;cases zm l k <;> rfl
  rw [h2,h];rfl
 have hf:zbA l=(zE l 0).2.1:=(zgo (hok 0 hk)).1.symm
 have hlt:=zc4 (l.getD 0 0) (l.getD (0+1) 0)
 unfold zfb
 rw [hs,hf]
 unfold zbh
 rw [if_neg (by unfold zE;omega)]
 cases hb:(zE l 0).2.1 with
 | true =>
  simp only [if_true]
  rw [if_neg (by unfold zE;omega)];congr 1;omega
 | false =>
  simp only [Bool.false_eq_true,if_false]
  rw [if_neg (by unfold zE;omega)];congr 1;omega
theorem znK:zw (zm l k).tail=(zw (zm l k)).tail:=by unfold zw;rw [List.map_tail]
end
end Go.Proofs.YtblpkmmhmdpkjaaGreatDoor
