import Derived.Lib.AppendZeros
import Derived.Laws.Tables
import Derived.Test.YtlibofmpnlfelaaGreatDoorBG8
set_option maxHeartbeats 8000000
set_option maxRecDepth 100000
namespace Go.Proofs.YtlibofmpnlfelaaGreatDoor
open Go.RowKit
theorem zrL {w00 w:World} {g p:Nat} {i:Nat} {v:Value} (h:w00.grownBy w (some g)) (hp:w00.heap.size≤p):w00.grownBy (w.setCell ⟨p,i,none⟩ v) (some g):=by
 have h2:=zco w p i v
 exact ⟨h2.os.trans h.os,h2.tape.trans h.tape,h2.output.trans h.output,Nat.le_trans h.size h2.size,fun k hk hg=>(h2.block k (Nat.lt_of_lt_of_le hk h.size) (by intro e;injection e with e;omega)).trans (h.block k hk hg)⟩
structure Laying (w00:World) (g m base W:Nat) (lv:Value) (pb sb wb xb:Nat) (cs:List Value) (A:Nat) (low:List Nat) (w:World):Prop where
 shp:Row w xb 172 cs
 pos:Row w pb 3 [.int .i64 (A:Int)]
 siz:Row w sb 93 [lv]
 wid:Row w wb 3 [.int .i64 (W:Int)]
 own:w.ownsRow base 119 1 lv m (low.map uv)
 grown:w00.grownBy w (some g)
def zrM (w00:World) (g m base W:Nat) (lv:Value) (pb sb wb xb:Nat) (cs:List Value) (A gap pat:Nat) (low:List Nat) (e:Ending) (w':World):Prop:=
 ((A+gap < m∧(zY pat+W≤63∨pat=0))∧e=.returned (.bool true)∧Laying w00 g m base W lv pb sb wb xb cs (A+gap) (low.set (A+gap) (low.getD (A+gap) 0 ^^^ (pat*2 ^ W))) w') ∨
 (¬(A+gap < m∧(zY pat+W≤63∨pat=0))∧e=.returned (.bool false)∧w00.grownBy w' (some g))
theorem zpx {pat W Q:Nat} (hp:pat < 2 ^ 64) (hW:W≤64) (hQ:Q=9223372036854775807 / 2 ^ W):pat≤Q↔(zY pat+W≤63∨pat=0):=by
 have hpos:=Nat.two_pow_pos W
 rw [hQ,Nat.le_div_iff_mul_le hpos]
 constructor
 ·intro h
  by_cases h0:pat=0
  ·exact .inr h0
  ·left
   have hW63:W≤63:=by
    refine Nat.not_lt.1 fun h2=>?_
    obtain rfl:W=64:=by omega
    omega
   have h3:pat < 2 ^ (63 - W):=by
    refine Nat.lt_of_mul_lt_mul_right (a:=2 ^ W) ?_
    rw [←Nat.pow_add,show 63 - W+W=63 by omega]
    omega
   have:=zdg (by omega) h3
   omega
 ·intro h
  have:=zg1 hp h
  omega
theorem zu2 (w00:World) (g m base W c pb sb wb xb:Nat) (cs:List Value) (A gap pat:Nat) (low:List Nat) (w:World) (h:Laying w00 g m base W (.slice (some ⟨g,0,none⟩) m c) pb sb wb xb cs A low w) (hg:g < w00.heap.size) (hpb:w00.heap.size≤pb) (hsb:w00.heap.size≤sb) (hwb:w00.heap.size≤wb) (hxb:w00.heap.size≤xb) (hps:pb≠sb) (hpw:pb≠wb) (hpx:pb≠xb)
  (hll:low.length=m) (hl64:∀ z∈low,z < 2 ^ 64) (hA:A≤1000000) (hgap:gap≤1000000) (hpat:pat < 2 ^ 64) (hW64:W≤64) :
  Calls Tryz.prog 210 #[.int .i64 (gap:Int),.int .u64 (pat:Int),.pointer (some ⟨pb,0,none⟩),.pointer (some ⟨sb,0,none⟩),.pointer (some ⟨wb,0,none⟩)] w (zrM w00 g m base W (.slice (some ⟨g,0,none⟩) m c) pb sb wb xb cs A gap pat low):=by
 obtain ⟨hrx,hrp,hrs,hrw,how,hgr⟩:=h
 unfold zrM
 obtain ⟨C,hC⟩:∃ C,C=A+gap:=⟨_,rfl⟩
 rw [←hC]
 have hCi:(A:Int)+(gap:Int)=(C:Int):=by omega
 have hCw:IntKind.i64.wrap (C:Int)=(C:Int):=by rw [IntKind.wrap_i64];omega
 have hcp:w.cell? ⟨pb,0,none⟩=some (.int .i64 (A:Int)):=hrp.cell 0
 have hfp:=hrp.free 0
 obtain ⟨w1,hw1⟩:∃ w1,w1=w.setCell ⟨pb,0,none⟩ (.int .i64 (C:Int)):=⟨_,rfl⟩
 have hrp1:Row w1 pb 3 [.int .i64 (C:Int)]:=by rw [hw1];exact hrp.set_ 0 (.int .i64 (C:Int))
 have hrs1:Row w1 sb 93 [.slice (some ⟨g,0,none⟩) m c]:=by rw [hw1];exact hrs.far (p:=⟨pb,0,none⟩) (Ne.symm hps) _
 have hrw1:Row w1 wb 3 [.int .i64 (W:Int)]:=by rw [hw1];exact hrw.far (p:=⟨pb,0,none⟩) (Ne.symm hpw) _
 have hrx1:Row w1 xb 172 cs:=by rw [hw1];exact hrx.far (p:=⟨pb,0,none⟩) (Ne.symm hpx) _
 have how1:w1.ownsRow base 119 1 (.slice (some ⟨g,0,none⟩) m c) m (low.map uv):=by rw [hw1];exact how.kept (zco _ pb 0 _) (.inr (by intro e;injection e with e;dsimp only at e;omega))
 have hgr1:w00.grownBy w1 (some g):=by rw [hw1];exact zrL hgr hpb
 have hcp1:w1.cell? ⟨pb,0,none⟩=some (.int .i64 (C:Int)):=hrp1.cell 0
 have hcs1:w1.cell? ⟨sb,0,none⟩=some (.slice (some ⟨g,0,none⟩) m c):=hrs1.cell 0
 have hcw1:w1.cell? ⟨wb,0,none⟩=some (.int .i64 (W:Int)):=hrw1.cell 0
 have HRX:=Lib.hid hrx1
 have HRP:=Lib.hid hrp1
 have HRS:=Lib.hid hrs1
 have HRW:=Lib.hid hrw1
 have HOW:=Lib.hid how1
 have HGR:=Lib.hid hgr1
 have HLP:=Lib.hid hrp1.lt
 have HLS:=Lib.hid hrs1.lt
 have HLW:=Lib.hid hrw1.lt
 have HCP:=Lib.hid hcp1
 have HCS:=Lib.hid hcs1
 have HCW:=Lib.hid hcw1
 rw [hw1] at hcp1 hcs1 hcw1
 have HW1:=Lib.hid hw1
 obtain ⟨Q,hQ⟩:∃ Q,Q=9223372036854775807 / 2 ^ W:=⟨_,rfl⟩
 have HFIT:=Lib.hid (zpx hpat hW64 hQ)
 have HPAT:=Lib.hid hpat
 have hQi:(9223372036854775807:Int) / 2 ^ W=(Q:Int):=by rw [hQ];simp
 have HLN:=Lib.hid (show (low.set C (low.getD C 0 ^^^ (pat*2 ^ W))).map uv=(low.map uv).set C (uv (low.getD C 0 ^^^ (pat*2 ^ W))) from List.map_set)
 have hpg:pb≠g:=by omega
 have hsg:sb≠g:=by omega
 have hwg:wb≠g:=by omega
 have hxg:xb≠g:=by omega
 clear hrx hrx1 hrp hrs hrw how hgr hrp1 hrs1 hrw1 how1 hgr1 hw1 hQ hpat
 by_cases hm:m≤C
 ·have d1:decide ((m:Int)≤(C:Int))=true:=decide_eq_true (by omega)
  clear hC
  go_enter Tryz.func210,Tryz.ntmps210
  go_wp2
  go_ret
  exact .inr ⟨by omega,rfl,by rw [←HW1.out];exact HGR.out⟩
 have d1:decide ((m:Int)≤(C:Int))=false:=decide_eq_false (by omega)
 by_cases hq:Q < pat
 ·have d2:decide ((Q:Int) < (pat:Int))=true:=decide_eq_true (by omega)
  have HNO:=Lib.hid (show ¬(zY pat+W≤63∨pat=0) from fun h=>absurd (HFIT.out.2 h) (by omega))
  clear hC
  go_enter Tryz.func210,Tryz.ntmps210
  go_wp2
  go_ret
  exact .inr ⟨fun h=>HNO.out h.2,rfl,by rw [←HW1.out];exact HGR.out⟩
 ·have d2:decide ((Q:Int) < (pat:Int))=false:=decide_eq_false (by omega)
  have HOK:=Lib.hid (show C < m∧(zY pat+W≤63∨pat=0) from ⟨by omega,HFIT.out.1 (by omega)⟩)
  have hCm:C < m:=by omega
  obtain ⟨y,hy⟩:∃ y,y=low.getD C 0:=⟨_,rfl⟩
  have hyl:low[C]? = some y:=by rw [hy,List.getD_eq_getElem?_getD,List.getElem?_eq_getElem (by omega)];rfl
  have hy64:y < 18446744073709551616:=hl64 y (List.mem_of_getElem? hyl)
  obtain ⟨Z,hZ⟩:∃ Z,Z=pat*2 ^ W:=⟨_,rfl⟩
  have hZ63:Z < 9223372036854775808:=by rw [hZ];exact zg1 HPAT.out HOK.out.2
  obtain ⟨z,hz⟩:∃ z,z=y ^^^ Z:=⟨_,rfl⟩
  rw [←hy,←hZ,←hz] at HLN
  rw [←hy,←hZ,←hz]
  have HZW:Hid (IntKind.u64.wrap ((pat:Int)*2 ^ W)=(Z:Int)):=Lib.hid (by rw [show (pat:Int)*2 ^ W=(Z:Int) by rw [hZ];simp,IntKind.wrap_u64];omega)
  have HXO:Hid (bits .xor .u64 (y:Int) (Z:Int)=(z:Int)):=Lib.hid (by rw [u64_xor_nat y Z (by omega) (by omega),hz])
  have HADD:Hid ((⟨g,0,none⟩:Addr).add C=⟨g,C,none⟩):=Lib.hid (by unfold Addr.add;split <;> simp_all)
  have HCY:Hid (w1.cell? ⟨g,C,none⟩=some (.int .u64 (y:Int))):=Lib.hid (by rw [HOW.out.cellAt C (by omega),List.getElem?_map,hyl];rfl)
  have HLG:Hid (g < w1.heap.size):=Lib.hid (by have:=HGR.out.size;omega)
  clear hC hy hyl hy64 hZ hZ63 hz hl64
  go_enter Tryz.func210,Tryz.ntmps210
  go_wp2
  rw [←HW1.out]
  refine zt 9 [.is (.slice (some ⟨g,0,none⟩) m c),.is (.int .i64 (C:Int)),.is (.pointer (some ⟨g,C,none⟩)),.is (.int .u64 (y:Int)),.is (.int .u64 (pat:Int)),.is (.int .i64 (W:Int)),.is (.int .u64 (Z:Int)),.is (.int .u64 (z:Int)),.is (.pointer (some ⟨g,C,none⟩))] [some 21,some 22,some 23,some 24,some 25,some 26,some 27,some 28,some 29] (by kernel_rfl) (by kernel_rfl) (by kernel_rfl) (by kernel_rfl) rfl ⟨?_,?_,?_,?_,?_,?_,?_,?_,?_,trivial⟩ ?_
  ·intro ρ W1 hb1 H
   exact zf rfl (H.old 3 _ (by kernel_rfl) rfl) Tryz.underlying93 rfl ((hb1.cell HLS.out).trans HCS.out) ⟨rfl,Below.refl _ _⟩
  ·intro ρ W1 hb1 H
   exact zf rfl (H.old 2 _ (by kernel_rfl) rfl) Tryz.underlying3 rfl ((hb1.cell HLP.out).trans HCP.out) ⟨rfl,Below.refl _ _⟩
  ·intro ρ W1 hb1 H
   exact zw (k:=C) elemU rfl (H.new 21 0 (by kernel_rfl)) (H.new 22 1 (by kernel_rfl)) (hCm) ⟨congrArg (fun q=>Value.pointer (some q)) (HADD.out),Below.refl _ _⟩
  ·intro ρ W1 hb1 H
   exact zf rfl (H.new 23 2 (by kernel_rfl)) Tryz.underlying119 rfl ((hb1.cell HLG.out).trans HCY.out) ⟨rfl,Below.refl _ _⟩
  ·intro ρ W1 hb1 H
   exact zd rfl (H.old 1 _ (by kernel_rfl) rfl) ⟨rfl,Below.refl _ _⟩
  ·intro ρ W1 hb1 H
   exact zf rfl (H.old 4 _ (by kernel_rfl) rfl) Tryz.underlying3 rfl ((hb1.cell HLW.out).trans HCW.out) ⟨rfl,Below.refl _ _⟩
  ·intro ρ W1 hb1 H
   exact ze8 (k:=W) rfl (H.new 25 4 (by kernel_rfl)) (H.new 26 5 (by kernel_rfl)) hW64 HZW.out ⟨rfl,Below.refl _ _⟩
  ·intro ρ W1 hb1 H
   exact zhy rfl (H.new 24 3 (by kernel_rfl)) (H.new 27 6 (by kernel_rfl)) HXO.out ⟨rfl,Below.refl _ _⟩
  ·intro ρ W1 hb1 H
   exact zw (k:=C) elemU rfl (H.new 21 0 (by kernel_rfl)) (H.new 22 1 (by kernel_rfl)) (hCm) ⟨congrArg (fun q=>Value.pointer (some q)) (HADD.out),Below.refl _ _⟩
  ·intro vs W1 hb1 hfs
   have f0:vs 0=.slice (some ⟨g,0,none⟩) m c:=hfs 0 (by decide)
   have f1:vs 1=.int .i64 (C:Int):=hfs 1 (by decide)
   have f2:vs 2=.pointer (some ⟨g,C,none⟩):=hfs 2 (by decide)
   have f3:vs 3=.int .u64 (y:Int):=hfs 3 (by decide)
   have f4:vs 4=.int .u64 (pat:Int):=hfs 4 (by decide)
   have f5:vs 5=.int .i64 (W:Int):=hfs 5 (by decide)
   have f6:vs 6=.int .u64 (Z:Int):=hfs 6 (by decide)
   have f7:vs 7=.int .u64 (z:Int):=hfs 7 (by decide)
   have f8:vs 8=.pointer (some ⟨g,C,none⟩):=hfs 8 (by decide)
   clear hfs
   simp only [zr,Nat.zero_add,Nat.reduceAdd,List.drop_succ_cons,List.drop_zero]
   simp only [f0,f1,f2,f3,f4,f5,f6,f7,f8,Act.put,List.setIfInBounds_toArray,List.set_cons_succ,List.set_cons_zero]
   clear f0 f1 f2 f3 f4 f5 f6 f7 f8
   have hown2:=own_below HOW.out hb1
   have hcW:W1.cell? ⟨g,C,none⟩=some (.int .u64 (y:Int)):=(hb1.cell HLG.out).trans HCY.out
   have hfW:=hown2.frozenAt C
   have HS1:=Lib.hid (hown2.stored C (uv z)).1
   have HG1:=Lib.hid (zbQ (zbQ HGR.out (zcf hb1)) (hown2.stored C (uv z)).2)
   have HP1:=Lib.hid ((HRP.out.below hb1 HLP.out).far (p:=⟨g,C,none⟩) hpg (uv z))
   have HQ1:=Lib.hid ((HRS.out.below hb1 HLS.out).far (p:=⟨g,C,none⟩) hsg (uv z))
   have HW1:=Lib.hid ((HRW.out.below hb1 HLW.out).far (p:=⟨g,C,none⟩) hwg (uv z))
   have HX1:=Lib.hid ((HRX.out.below hb1 HRX.out.lt).far (p:=⟨g,C,none⟩) hxg (uv z))
   clear hown2 hb1
   go_wp2
   go_ret
   refine .inl ⟨HOK.out,rfl,HX1.out,HP1.out,HQ1.out,HW1.out,?_,HG1.out⟩
   rw [HLN.out]
   exact HS1.out
theorem zog {P:Program} {o:Oper} {ρ:Operand→Value} {w:World} {R:Value→World→Prop} {t t':TypeId} {k:IntKind} {x y:Operand} {a b:Int} (ho:o.op=.binOp .gtr t x y t') (hx:ρ x=.int k a) (hy:ρ y=.int k b) (hR:R (.bool (decide (b < a))) w):zX P o ρ w R:=by
 refine zo (v:=.bool (decide (b < a))) (w':=w) ?_ hR
 simp [execOp,ho,hx,hy,go_sem,eqGuard]
theorem zk8 (W:World) (g:Nat):(Instr.fieldAt 172 (.pointer (some ⟨g,0,none⟩)) 0).run Tryz.prog W=.ok (.pointer (some ⟨g,0,none⟩)) W:=by
 simp [Instr.fieldAt,run_underlying Tryz.underlying172,Instr.sureAddr,fieldPlace,Addr.add]
theorem zk9 (W:World) (g:Nat):(Instr.fieldAt 172 (.pointer (some ⟨g,0,none⟩)) 1).run Tryz.prog W=.ok (.pointer (some ⟨g,1,none⟩)) W:=by
 simp [Instr.fieldAt,run_underlying Tryz.underlying172,Instr.sureAddr,fieldPlace,Addr.add]
theorem zla (W:World) (g:Nat):(Instr.fieldAt 172 (.pointer (some ⟨g,0,none⟩)) 2).run Tryz.prog W=.ok (.pointer (some ⟨g,2,none⟩)) W:=by
 simp [Instr.fieldAt,run_underlying Tryz.underlying172,Instr.sureAddr,fieldPlace,Addr.add]
theorem zhR (W:World) (g:Nat):(Instr.fieldAt 172 (.pointer (some ⟨g,0,none⟩)) 3).run Tryz.prog W=.ok (.pointer (some ⟨g,3,none⟩)) W:=by
 simp [Instr.fieldAt,run_underlying Tryz.underlying172,Instr.sureAddr,fieldPlace,Addr.add]
theorem zhS (W:World) (g:Nat):(Instr.fieldAt 172 (.pointer (some ⟨g,0,none⟩)) 4).run Tryz.prog W=.ok (.pointer (some ⟨g,4,none⟩)) W:=by
 simp [Instr.fieldAt,run_underlying Tryz.underlying172,Instr.sureAddr,fieldPlace,Addr.add]
theorem zlb (W:World) (g:Nat):(Instr.fieldAt 172 (.pointer (some ⟨g,0,none⟩)) 5).run Tryz.prog W=.ok (.pointer (some ⟨g,5,none⟩)) W:=by
 simp [Instr.fieldAt,run_underlying Tryz.underlying172,Instr.sureAddr,fieldPlace,Addr.add]
theorem Laying.below {w00 w w':World} {g m base W:Nat} {lv:Value} {pb sb wb xb:Nat} {cs:List Value} {A:Nat} {low:List Nat} (h:Laying w00 g m base W lv pb sb wb xb cs A low w) (hb:Below w.heap.size w w'):Laying w00 g m base W lv pb sb wb xb cs A low w':=
 ⟨h.shp.below hb h.shp.lt,h.pos.below hb h.pos.lt,h.siz.below hb h.siz.lt,h.wid.below hb h.wid.lt,own_below h.own hb,zbQ h.grown (zcf hb)⟩
theorem zvI {low:List Nat} {a pat W:Nat} (hl:∀ z∈low,z < 2 ^ 64) (hp:pat < 2 ^ 64) (h:zY pat+W≤63∨pat=0):∀ z∈low.set a (low.getD a 0 ^^^ (pat*2 ^ W)),z < 2 ^ 64:=by
 intro z hz
 rcases List.mem_or_eq_of_mem_set hz with h1 | h1
 ·exact hl z h1
 ·rw [h1]
  refine Nat.xor_lt_two_pow ?_ (Nat.lt_of_lt_of_le (zg1 hp h) (by decide))
  rw [List.getD_eq_getElem?_getD]
  cases h2:low[a]? with
  | none=>exact Nat.two_pow_pos 64
  | some y=>exact hl y (List.mem_of_getElem? h2)
theorem zmY (g m c W:Nat) (w:World):Calls Tryz.prog 195 #[.slice (some ⟨g,0,none⟩) m c,.int .i64 (W:Int)] w fun e w' =>
  e=.returned (.func (.func 210) #[] #[.pointer (some ⟨w.heap.size+2,0,none⟩),.pointer (some ⟨w.heap.size,0,none⟩),.pointer (some ⟨w.heap.size+1,0,none⟩)]) ∧
   w'=((w.alloc (.cells #[.slice (some ⟨g,0,none⟩) m c] 93)).alloc (.cells #[.int .i64 (W:Int)] 3)).alloc (.cells #[.int .i64 0] 3):=by
 go_enter Tryz.func195,Tryz.ntmps195
 go_wp2
 go_ret
 exact ⟨rfl,rfl⟩
def zoh (both low0:List Nat) (w00:World) (g m base W gw p:Nat) (lv:Value) (pb sb wb xb:Nat) (cs:List Value) (i:Value) (wr:World):Prop:=
 ∃ (k a:Nat) (low:List Nat),k≤both.length∧i=.int .i64 (k:Int)∧pall W gw p m (0,low0) (both.take k)=some (a,low)∧low.length=m∧a < m∧(∀ z∈low,z < 2 ^ 64)∧Laying w00 g m base W lv pb sb wb xb cs a low wr
def zrN (o:Option (Nat × List Nat)) (g m base:Nat) (lv:Value) (w:World) (e:Ending) (w':World):Prop:=
 match o with
 | none=>e=.returned (.bool false)∧w.grownBy w' (some g)
 | some st=>e=.returned (.bool true)∧w'.ownsRow base 119 1 lv m (st.2.map uv)∧st.2.length=m∧(∀ z∈st.2,z < 2 ^ 64)∧w.grownBy w' (some g)
theorem zrO (g m base B2 W c p gw:Nat) (m' n' t':Int) (low both:List Nat) (bl:Value) (w:World) (how:w.ownsRow base 119 1 (.slice (some ⟨g,0,none⟩) m c) m (low.map uv)) (hg:g < w.heap.size) (hbo:w.ownsRow B2 119 1 bl both.length (both.map uv)) (hgB:g < B2)
  (hll:low.length=m) (hl64:∀ z∈low,z < 2 ^ 64) (hb64:∀ z∈both,z < 2 ^ 64) (hm1:1≤m) (hm5:m≤512) (hbl:both.length≤1000) (hW64:W≤64) (hp64:p≤64) (hgw:gw≤8) :
  Calls Tryz.prog 162 #[.slice (some ⟨g,0,none⟩) m c,bl,shv m' (W:Int) n' (p:Int) (gw:Int) t'] w (zrN (pall W gw p m (0,low) both) g m base (.slice (some ⟨g,0,none⟩) m c) w):=by
 obtain ⟨xb,hxz⟩:∃ xb,xb=w.heap.size:=⟨_,rfl⟩
 obtain ⟨cs,hcs⟩:∃ cs,cs=shc m' (W:Int) n' (p:Int) (gw:Int) t':=⟨_,rfl⟩
 obtain ⟨w1,hw1⟩:∃ w1,w1=w.alloc (.cells cs.toArray 172):=⟨_,rfl⟩
 have z1:w1.heap.size=xb+1:=by rw [hw1,hxz];simp
 obtain ⟨w2,hw2⟩:∃ w2,w2=w1.alloc (.cells #[.slice (some ⟨g,0,none⟩) m c] 93):=⟨_,rfl⟩
 have z2:w2.heap.size=xb+2:=by rw [hw2];simp [z1]
 obtain ⟨w3,hw3⟩:∃ w3,w3=w2.alloc (.cells #[.int .i64 (W:Int)] 3):=⟨_,rfl⟩
 have z3:w3.heap.size=xb+3:=by rw [hw3];simp [z2]
 obtain ⟨w4,hw4⟩:∃ w4,w4=w3.alloc (.cells #[.int .i64 0] 3):=⟨_,rfl⟩
 have b1:Below w.heap.size w w1:=by rw [hw1];exact (Below.refl _ _).alloc (Nat.le_refl _) _
 have b2:Below w.heap.size w w2:=by rw [hw2];exact b1.alloc (by omega) _
 have b3:Below w.heap.size w w3:=by rw [hw3];exact b2.alloc (by omega) _
 have b4:Below w.heap.size w w4:=by rw [hw4];exact b3.alloc (by omega) _
 have q1:Row w1 xb 172 cs:=by rw [hw1,hxz];exact heap_alloc_new w _
 have q2:Row w2 (xb+1) 93 [.slice (some ⟨g,0,none⟩) m c]:=by rw [hw2,←z1];exact heap_alloc_new w1 _
 have q3:Row w3 (xb+2) 3 [.int .i64 (W:Int)]:=by rw [hw3,←z2];exact heap_alloc_new w2 _
 have q4:Row w4 (xb+3) 3 [.int .i64 0]:=by rw [hw4,←z3];exact heap_alloc_new w3 _
 have hL:Laying w g m base W (.slice (some ⟨g,0,none⟩) m c) (xb+3) (xb+1) (xb+2) xb cs 0 low w4:=by
  refine ⟨?_,q4,?_,?_,own_below how b4,zcf b4⟩
  ·rw [hw4,hw3,hw2];exact ((q1.alloc _).alloc _).alloc _
  ·rw [hw4,hw3];exact (q2.alloc _).alloc _
  ·rw [hw4];exact q3.alloc _
 have HS:=Lib.hid (show zoh both low w g m base W gw p (.slice (some ⟨g,0,none⟩) m c) (xb+3) (xb+1) (xb+2) xb cs (.int .i64 0) w4 from ⟨0,0,low,Nat.zero_le _,rfl,by rw [List.take_zero,pall],hll,by omega,hl64,hL⟩)
 obtain ⟨A3,c3,hbl3,hnc3,hcm3,_,_,_⟩:=zz hbo
 obtain ⟨t,ht⟩:∃ t,t=both.length:=⟨_,rfl⟩
 rw [←ht] at hbl3 hnc3 hbl hbo
 subst hbl3
 have HT:=Lib.hid ht
 have HBO:=Lib.hid hbo
 have HB64:=Lib.hid hb64
 have HCS:=Lib.hid hcs
 have hpb:w.heap.size≤xb+3:=by omega
 have hsb:w.heap.size≤xb+1:=by omega
 have hwb:w.heap.size≤xb+2:=by omega
 have hxb:w.heap.size≤xb:=by omega
 have hps:xb+3≠xb+1:=by omega
 have hpw:xb+3≠xb+2:=by omega
 have hpx:xb+3≠xb:=by omega
 have hc1:w1.cell? ⟨xb,1,none⟩=some (.int .i64 (W:Int)):=by rw [q1.cell,hcs];rfl
 unfold shv
 rw [←hcs]
 rw [hcs] at hw1
 unfold shc at hw1 hcs
 rw [hcs]
 have HW:=Lib.hid hw1
 have HW2:=Lib.hid (hw2.trans rfl)
 clear q1 q2 q3 q4 b1 b2 b3 b4 hL how hbo hb64 hl64 hll ht hcs hcm3
 go_enter Tryz.func162,Tryz.ntmps162
 go_wp2_with (go_at_call 195;refine (zmY g m c W _).mono ?_;rintro e w' ⟨rfl,rfl⟩)
 rw [←hw1,←hw2,←hw3,←hw4,←hxz,show xb+1+1=xb+2 from rfl,show xb+1+2=xb+3 from rfl]
 have HXZ:=Lib.hid hxz
 clear hw1 hw2 hw3 hw4 z1 z2 z3 hxz hc1 HW HW2
 go_loopw [17] (zoh both low w g m base W gw p (.slice (some ⟨g,0,none⟩) m c) (xb+3) (xb+1) (xb+2) xb cs) (fun i _=>t - (intOf i).toNat)
 case atStart=>exact HS.out
 case round =>
  obtain ⟨k,a,low',hk,rfl,hpl,hll,ham,hlo,hL⟩:=hrel
  rw [←HT.out] at hk
  have HL:=Lib.hid hL
  have HLL:=Lib.hid hll
  have HLO64:=Lib.hid hlo
  generalize xb+3=pb at *
  generalize xb+1=sb at *
  generalize xb+2=wb at *
  have HRX:=Lib.hid hL.shp
  by_cases hlt:k < t
  ·have hlti:(k:Int) < (t:Int):=by omega
   have hkv:k < both.length:=by have:=HT.out;omega
   have hbk:=zbk (f:=uv) (HBO.out.kept hL.grown (zjP HBO.out hgB))
   obtain ⟨ad3,rfl,_,hcell⟩:=hbk.at hkv
   obtain ⟨x,hx⟩:∃ x,x=both[k]:=⟨_,rfl⟩
   have hcx:wr.cell? (ad3.add k)=some (.int .u64 (x:Int)):=by rw [hcell,hx];rfl
   have hx64:x < 18446744073709551616:=by rw [hx];exact HB64.out _ (List.getElem_mem hkv)
   have HNX0:=Lib.hid (zk3 hkv hx hpl)
   obtain ⟨gap,hgap⟩:∃ gap,gap=x / 2 ^ p:=⟨_,rfl⟩
   obtain ⟨pat,hpat⟩:∃ pat,pat=x % 2 ^ p:=⟨_,rfl⟩
   have HPS:=Lib.hid (zoc (w:=W) (g:=gw) (m:=m) (at_:=a) (low:=low') hgap hpat)
   have hshr:(x:Int) / 2 ^ p=(gap:Int):=by rw [hgap];simp
   have hgx:gap < 18446744073709551616:=by rw [hgap];exact Nat.lt_of_le_of_lt (Nat.div_le_self _ _) hx64
   obtain ⟨nb,hnb⟩:∃ nb,nb=zY gap:=⟨_,rfl⟩
   have HBT:=Lib.hid (fun X=>zgO gap X hgx)
   rw [←hnb] at HBT
   have HNG:=Lib.hid (show nb≤gw↔gap < 2 ^ gw by rw [hnb];exact zfm hgx (by omega))
   have hcp3:wr.cell? ⟨xb,3,none⟩=some (.int .i64 (p:Int)):=by rw [HRX.out.cell,HCS.out];rfl
   have hcp4:wr.cell? ⟨xb,4,none⟩=some (.int .i64 (gw:Int)):=by rw [HRX.out.cell,HCS.out];rfl
   have HC3:=Lib.hid hcp3
   have HC4:=Lib.hid hcp4
   have HLX:=Lib.hid HRX.out.lt
   obtain ⟨K1,hK1⟩:∃ K1,K1=2 ^ p - 1:=⟨_,rfl⟩
   have hK1b:K1 < 18446744073709551616:=by
    have h1:2 ^ p≤2 ^ 64:=Nat.pow_le_pow_right (by omega) hp64
    have h2:=Nat.two_pow_pos p
    omega
   have HAND:Hid (bits .and .u64 (x:Int) (K1:Int)=(pat:Int)):=Lib.hid (by rw [u64_and_nat _ _ hx64 hK1b,hK1,Nat.and_two_pow_sub_one_eq_mod,hpat])
   have HLO:=Lib.hid (fun X=>zoe p K1 X hp64 hK1)
   have HPT:Hid (pat < 2 ^ 64):=Lib.hid (by rw [hpat];exact Nat.lt_of_le_of_lt (Nat.mod_le _ _) hx64)
   clear hcell hx hx64 hgap hpat hpl hll hlo hbk hnb hgx hK1 hK1b hcp4 hL
   by_cases hwd:nb≤gw
   ·have HGG:=Lib.hid (HNG.out.1 hwd)
    have hgap256:gap < 256:=by
     have h1:=HGG.out
     have h2:2 ^ gw≤2 ^ 8:=Nat.pow_le_pow_right (by omega) hgw
     omega
    have HGW:Hid (IntKind.i64.wrap (gap:Int)=(gap:Int)):=Lib.hid (by rw [IntKind.wrap_i64];omega)
    have HD1:Hid (decide ((gw:Int) < (nb:Int))=false):=Lib.hid (decide_eq_false (by omega))
    go_wp2
    refine zt 14 [.is (.int .u64 (gap:Int)),.is (.int .i64 (nb:Int)),.is (.pointer (some ⟨xb,4,none⟩)),.is (.int .i64 (gw:Int)),.is (.bool false),.is (.bool false),.is (.func (.func 210) #[] #[.pointer (some ⟨pb,0,none⟩),.pointer (some ⟨sb,0,none⟩),.pointer (some ⟨wb,0,none⟩)]),.is (.int .u64 (gap:Int)),.is (.int .i64 (gap:Int)),.is (.int .u64 (x:Int)),.is (.pointer (some ⟨xb,3,none⟩)),.is (.int .i64 (p:Int)),.is (.int .u64 (K1:Int)),.is (.int .u64 (pat:Int))] [some 25,some 26,some 27,some 28,some 29,some 30,some 31,some 32,some 33,some 34,some 35,some 36,some 37,some 38] (by kernel_rfl) (by kernel_rfl) (by kernel_rfl) (by kernel_rfl) rfl ⟨?_,?_,?_,?_,?_,?_,?_,?_,?_,?_,?_,?_,?_,?_,trivial⟩ ?_
    ·intro ρ W1 hb1 H
     exact zd rfl (H.old 10 _ (by kernel_rfl) rfl) ⟨rfl,Below.refl _ _⟩
    ·intro ρ W1 hb1 H
     have e0:ρ (.tmp 25)=.int .u64 (gap:Int):=H.new 25 0 (by kernel_rfl)
     refine zj rfl (fun _ _=>by kernel_rfl) (H.func _) (args:=#[.int .u64 (gap:Int)]) (by simp [e0]) ?_
     exact (HBT.out W1).mono fun e w' ⟨h1,h2⟩=>⟨_,h1,rfl,h2 ▸ Below.refl _ _⟩
    ·intro ρ W1 hb1 H
     exact zq rfl (H.old 5 _ (by kernel_rfl) rfl) (fun W=>zhS W _) ⟨rfl,Below.refl _ _⟩
    ·intro ρ W1 hb1 H
     exact zf rfl (H.new 27 2 (by kernel_rfl)) Tryz.underlying3 rfl ((hb1.cell HLX.out).trans HC4.out) ⟨rfl,Below.refl _ _⟩
    ·intro ρ W1 hb1 H
     exact zog rfl (H.new 26 1 (by kernel_rfl)) (H.new 28 3 (by kernel_rfl)) ⟨congrArg Value.bool HD1.out,Below.refl _ _⟩
    ·intro ρ W1 hb1 H
     exact zd rfl (H.new 29 4 (by kernel_rfl)) ⟨rfl,Below.refl _ _⟩
    ·intro ρ W1 hb1 H d hd
     have hd':(some 30:Option Tmp)=some d:=hd
     injection hd' with hd'
     subst hd'
     refine ⟨fun _=>?_,fun hne=>absurd (H.new 30 5 (by kernel_rfl)) hne⟩
     exact zd rfl (H.old 7 _ (by kernel_rfl) rfl) ⟨rfl,Below.refl _ _⟩
    ·intro ρ W1 hb1 H d hd
     have hd':(some 30:Option Tmp)=some d:=hd
     injection hd' with hd'
     subst hd'
     refine ⟨fun _=>?_,fun hne=>absurd (H.new 30 5 (by kernel_rfl)) hne⟩
     exact zd rfl (H.old 10 _ (by kernel_rfl) rfl) ⟨rfl,Below.refl _ _⟩
    ·intro ρ W1 hb1 H d hd
     have hd':(some 30:Option Tmp)=some d:=hd
     injection hd' with hd'
     subst hd'
     refine ⟨fun _=>?_,fun hne=>absurd (H.new 30 5 (by kernel_rfl)) hne⟩
     exact zcw rfl (H.new 32 7 (by kernel_rfl)) (by kernel_rfl) Tryz.underlying3 HGW.out ⟨rfl,Below.refl _ _⟩
    ·intro ρ W1 hb1 H d hd
     have hd':(some 30:Option Tmp)=some d:=hd
     injection hd' with hd'
     subst hd'
     refine ⟨fun _=>?_,fun hne=>absurd (H.new 30 5 (by kernel_rfl)) hne⟩
     exact zd rfl (H.old 9 _ (by kernel_rfl) rfl) ⟨rfl,Below.refl _ _⟩
    ·intro ρ W1 hb1 H d hd
     have hd':(some 30:Option Tmp)=some d:=hd
     injection hd' with hd'
     subst hd'
     refine ⟨fun _=>?_,fun hne=>absurd (H.new 30 5 (by kernel_rfl)) hne⟩
     exact zq rfl (H.old 5 _ (by kernel_rfl) rfl) (fun W=>zhR W _) ⟨rfl,Below.refl _ _⟩
    ·intro ρ W1 hb1 H d hd
     have hd':(some 30:Option Tmp)=some d:=hd
     injection hd' with hd'
     subst hd'
     refine ⟨fun _=>?_,fun hne=>absurd (H.new 30 5 (by kernel_rfl)) hne⟩
     exact zf rfl (H.new 35 10 (by kernel_rfl)) Tryz.underlying3 rfl ((hb1.cell HLX.out).trans HC3.out) ⟨rfl,Below.refl _ _⟩
    ·intro ρ W1 hb1 H d hd
     have hd':(some 30:Option Tmp)=some d:=hd
     injection hd' with hd'
     subst hd'
     refine ⟨fun _=>?_,fun hne=>absurd (H.new 30 5 (by kernel_rfl)) hne⟩
     have e0:ρ (.tmp 36)=.int .i64 (p:Int):=H.new 36 11 (by kernel_rfl)
     refine zj rfl (fun _ _=>by kernel_rfl) (H.func _) (args:=#[.int .i64 (p:Int)]) (by simp [e0]) ?_
     exact (HLO.out W1).mono fun e w' ⟨h1,h2⟩=>⟨_,h1,rfl,h2 ▸ Below.refl _ _⟩
    ·intro ρ W1 hb1 H d hd
     have hd':(some 30:Option Tmp)=some d:=hd
     injection hd' with hd'
     subst hd'
     refine ⟨fun _=>?_,fun hne=>absurd (H.new 30 5 (by kernel_rfl)) hne⟩
     exact zmE rfl (H.new 34 9 (by kernel_rfl)) (H.new 37 12 (by kernel_rfl)) HAND.out ⟨rfl,Below.refl _ _⟩
    ·intro vs W1 hb1 hfs
     have f0:vs 0=.int .u64 (gap:Int):=hfs 0 (by decide)
     have f1:vs 1=.int .i64 (nb:Int):=hfs 1 (by decide)
     have f2:vs 2=.pointer (some ⟨xb,4,none⟩):=hfs 2 (by decide)
     have f3:vs 3=.int .i64 (gw:Int):=hfs 3 (by decide)
     have f4:vs 4=.bool false:=hfs 4 (by decide)
     have f5:vs 5=.bool false:=hfs 5 (by decide)
     have f6:vs 6=.func (.func 210) #[] #[.pointer (some ⟨pb,0,none⟩),.pointer (some ⟨sb,0,none⟩),.pointer (some ⟨wb,0,none⟩)]:=hfs 6 (by decide)
     have f7:vs 7=.int .u64 (gap:Int):=hfs 7 (by decide)
     have f8:vs 8=.int .i64 (gap:Int):=hfs 8 (by decide)
     have f9:vs 9=.int .u64 (x:Int):=hfs 9 (by decide)
     have f10:vs 10=.pointer (some ⟨xb,3,none⟩):=hfs 10 (by decide)
     have f11:vs 11=.int .i64 (p:Int):=hfs 11 (by decide)
     have f12:vs 12=.int .u64 (K1:Int):=hfs 12 (by decide)
     have f13:vs 13=.int .u64 (pat:Int):=hfs 13 (by decide)
     clear hfs
     simp only [zr,Nat.zero_add,Nat.reduceAdd,List.drop_succ_cons,List.drop_zero]
     simp only [f0,f1,f2,f3,f4,f5,f6,f7,f8,f9,f10,f11,f12,f13,Act.put,List.setIfInBounds_toArray,List.set_cons_succ,List.set_cons_zero]
     clear f0 f1 f2 f3 f4 f5 f6 f7 f8 f9 f10 f11 f12 f13
     have HL1:=Lib.hid (HL.out.below hb1)
     clear hb1
     have HLAY:=Lib.hid (zu2 w g m base W c pb sb wb xb cs a gap pat low' W1 HL1.out hg hpb hsb hwb hxb hps hpw hpx HLL.out HLO64.out (by omega) (by omega) HPT.out hW64)
     go_wp2_with (go_at_call 210;refine HLAY.out.mono ?_;rintro e w4 (⟨hok,rfl,hL4⟩ | ⟨hok,rfl,hg4⟩))
     ·have HNX:=Lib.hid (show pall W gw p m (0,low) (both.take (k+1))=some (a+gap,low'.set (a+gap) (low'.getD (a+gap) 0 ^^^ (pat*2 ^ W))) by rw [HNX0.out,HPS.out,if_pos ⟨HGG.out,hok.1,hok.2⟩])
      have HL4:=Lib.hid hL4
      have HA1:=Lib.hid hok.1
      have HL64:=Lib.hid (zvI (a:=a+gap) HLO64.out HPT.out hok.2)
      clear hok hL4
      go_wp2
      go_roundw
      case rel=>exact ⟨k+1,_,_,hkv,by go_num,HNX.out,by rw [List.length_set];exact HLL.out,HA1.out,HL64.out,HL4.out⟩
      case measure=>simp [intOf];omega
     ·have HE:=Lib.hid (show pall W gw p m (0,low) both=none from zb9 (k:=k+1) (by rw [HNX0.out,HPS.out,if_neg (fun h=>hok ⟨h.2.1,h.2.2⟩)]))
      have HG4:=Lib.hid hg4
      clear hok hg4
      go_wp2
      go_ret
      rw [HE.out]
      exact ⟨rfl,HG4.out⟩
   ·have HD1:Hid (decide ((gw:Int) < (nb:Int))=true):=Lib.hid (decide_eq_true (by omega))
    have HE:=Lib.hid (show pall W gw p m (0,low) both=none from zb9 (k:=k+1) (by rw [HNX0.out,HPS.out,if_neg (fun h=>absurd (HNG.out.2 h.1) hwd)]))
    go_wp2
    refine zt 14 [.is (.int .u64 (gap:Int)),.is (.int .i64 (nb:Int)),.is (.pointer (some ⟨xb,4,none⟩)),.is (.int .i64 (gw:Int)),.is (.bool true),.is (.bool true),.any,.any,.any,.any,.any,.any,.any,.any] [some 25,some 26,some 27,some 28,some 29,some 30,some 31,some 32,some 33,some 34,some 35,some 36,some 37,some 38] (by kernel_rfl) (by kernel_rfl) (by kernel_rfl) (by kernel_rfl) rfl ⟨?_,?_,?_,?_,?_,?_,?_,?_,?_,?_,?_,?_,?_,?_,trivial⟩ ?_
    ·intro ρ W1 hb1 H
     exact zd rfl (H.old 10 _ (by kernel_rfl) rfl) ⟨rfl,Below.refl _ _⟩
    ·intro ρ W1 hb1 H
     have e0:ρ (.tmp 25)=.int .u64 (gap:Int):=H.new 25 0 (by kernel_rfl)
     refine zj rfl (fun _ _=>by kernel_rfl) (H.func _) (args:=#[.int .u64 (gap:Int)]) (by simp [e0]) ?_
     exact (HBT.out W1).mono fun e w' ⟨h1,h2⟩=>⟨_,h1,rfl,h2 ▸ Below.refl _ _⟩
    ·intro ρ W1 hb1 H
     exact zq rfl (H.old 5 _ (by kernel_rfl) rfl) (fun W=>zhS W _) ⟨rfl,Below.refl _ _⟩
    ·intro ρ W1 hb1 H
     exact zf rfl (H.new 27 2 (by kernel_rfl)) Tryz.underlying3 rfl ((hb1.cell HLX.out).trans HC4.out) ⟨rfl,Below.refl _ _⟩
    ·intro ρ W1 hb1 H
     exact zog rfl (H.new 26 1 (by kernel_rfl)) (H.new 28 3 (by kernel_rfl)) ⟨congrArg Value.bool HD1.out,Below.refl _ _⟩
    ·intro ρ W1 hb1 H
     exact zd rfl (H.new 29 4 (by kernel_rfl)) ⟨rfl,Below.refl _ _⟩
    ·intro ρ W1 hb1 H d hd
     have hd':(some 30:Option Tmp)=some d:=hd
     injection hd' with hd'
     subst hd'
     exact ⟨(fun hh=>by cases hh.symm.trans (H.new 30 5 (by kernel_rfl))),fun _=>trivial⟩
    ·intro ρ W1 hb1 H d hd
     have hd':(some 30:Option Tmp)=some d:=hd
     injection hd' with hd'
     subst hd'
     exact ⟨(fun hh=>by cases hh.symm.trans (H.new 30 5 (by kernel_rfl))),fun _=>trivial⟩
    ·intro ρ W1 hb1 H d hd
     have hd':(some 30:Option Tmp)=some d:=hd
     injection hd' with hd'
     subst hd'
     exact ⟨(fun hh=>by cases hh.symm.trans (H.new 30 5 (by kernel_rfl))),fun _=>trivial⟩
    ·intro ρ W1 hb1 H d hd
     have hd':(some 30:Option Tmp)=some d:=hd
     injection hd' with hd'
     subst hd'
     exact ⟨(fun hh=>by cases hh.symm.trans (H.new 30 5 (by kernel_rfl))),fun _=>trivial⟩
    ·intro ρ W1 hb1 H d hd
     have hd':(some 30:Option Tmp)=some d:=hd
     injection hd' with hd'
     subst hd'
     exact ⟨(fun hh=>by cases hh.symm.trans (H.new 30 5 (by kernel_rfl))),fun _=>trivial⟩
    ·intro ρ W1 hb1 H d hd
     have hd':(some 30:Option Tmp)=some d:=hd
     injection hd' with hd'
     subst hd'
     exact ⟨(fun hh=>by cases hh.symm.trans (H.new 30 5 (by kernel_rfl))),fun _=>trivial⟩
    ·intro ρ W1 hb1 H d hd
     have hd':(some 30:Option Tmp)=some d:=hd
     injection hd' with hd'
     subst hd'
     exact ⟨(fun hh=>by cases hh.symm.trans (H.new 30 5 (by kernel_rfl))),fun _=>trivial⟩
    ·intro ρ W1 hb1 H d hd
     have hd':(some 30:Option Tmp)=some d:=hd
     injection hd' with hd'
     subst hd'
     exact ⟨(fun hh=>by cases hh.symm.trans (H.new 30 5 (by kernel_rfl))),fun _=>trivial⟩
    ·intro vs W1 hb1 hfs
     have f0:vs 0=.int .u64 (gap:Int):=hfs 0 (by decide)
     have f1:vs 1=.int .i64 (nb:Int):=hfs 1 (by decide)
     have f2:vs 2=.pointer (some ⟨xb,4,none⟩):=hfs 2 (by decide)
     have f3:vs 3=.int .i64 (gw:Int):=hfs 3 (by decide)
     have f4:vs 4=.bool true:=hfs 4 (by decide)
     have f5:vs 5=.bool true:=hfs 5 (by decide)
     clear hfs
     simp only [zr,Nat.zero_add,Nat.reduceAdd,List.drop_succ_cons,List.drop_zero]
     generalize vs 6=z6
     generalize vs 7=z7
     generalize vs 8=z8
     generalize vs 9=z9
     generalize vs 10=z10
     generalize vs 11=z11
     generalize vs 12=z12
     generalize vs 13=z13
     simp only [f0,f1,f2,f3,f4,f5,Act.put,List.setIfInBounds_toArray,List.set_cons_succ,List.set_cons_zero]
     clear f0 f1 f2 f3 f4 f5
     have HG1:=Lib.hid (zbQ HL.out.grown (zcf hb1))
     clear hb1
     go_wp2
     go_ret
     rw [HE.out]
     exact ⟨rfl,HG1.out⟩
  ·obtain rfl:k=t:=by omega
   have hlti:¬(k:Int) < (k:Int):=by omega
   have HE:Hid (pall W gw p m (0,low) both=some (a,low')):=Lib.hid (by
    have h1:=hpl
    rwa [List.take_of_length_le (by have:=HT.out;omega)] at h1)
   clear hpl hll hlo hL
   go_wp2
   go_ret
   rw [HE.out]
   exact ⟨rfl,HL.out.own,HLL.out,HLO64.out,HL.out.grown⟩
theorem ztM {w:World} {base g G:Nat} {e:TypeId} {cur:Array Value} (hg:w.heap[g]? = some (.cells cur e (0,0))) (hb:base≤g) (hG:G≤maxLen) (hs:cur.size=G):w.ownsRow base e 1 (.slice (some ⟨g,0,none⟩) 0 G) 0 []:=
 ⟨rfl,.inr ⟨g,G,cur,rfl,hb,hg,Nat.zero_le _,hG,by rw [hs,Nat.mul_one],by simp⟩⟩
theorem ze1 (z:Value) (n:Nat):(Builtin.zeroCells #[z] n).size=n:=by simp [Builtin.zeroCells]
theorem ztN (n:Nat) (w:World) (hn:n≤1000000):Calls Tryz.prog 209 #[.slice none 0 0,.int .i64 (n:Int)] w fun e w'=>∃ v,e=.returned v∧w'.ownsRow w.heap.size 5 1 v 0 []∧Below w.heap.size w w':=by
 have hnw:IntKind.i64.wrap (n:Int)=(n:Int):=by rw [IntKind.wrap_i64];omega
 by_cases h0:n=0
 ·subst h0
  go_enter Tryz.func209,Tryz.ntmps209
  go_wp2
  go_ret
  exact ⟨_,rfl,World.ownsRow_nil _ _ _ _,Below.refl _ _⟩
 ·obtain ⟨i,hi,hz,hs,hby⟩:=elemB.info
  have hrz:∀ ty,(Builtin.append_ #[25,3] ty #[.slice none 0 0,.int .i64 (n:Int)]).run Tryz.prog w=.ok (.slice (some ⟨w.heap.size,0,none⟩) n (grownCap w n 0 5)) (w.drew.alloc (.cells (Builtin.zeroCells (bv 0).cells n ++ Builtin.zeroCells (bv 0).cells (grownCap w n 0 5 - n)) 5)):=fun ty =>
   Lib.run_append_nil_zeros w 25 3 ty 5 i (bv 0) .i64 .i64 Tryz.underlying25 Tryz.underlying3 hi hz n (by omega) (by omega) (by omega) (by rw [hby];omega)
  have hGn:n≤grownCap w n 0 5:=grownCap_ge w _ _ _
  have hGm:=grownCap_le_maxLen w n 0 5 (by unfold maxLen;omega)
  obtain ⟨G,hG⟩:∃ G,G=grownCap w n 0 5:=⟨_,rfl⟩
  rw [←hG] at hrz hGn hGm
  have hG63:G≤9223372036854775807:=by unfold maxLen at hGm;omega
  obtain ⟨cur,hcur⟩:∃ cur,cur=Builtin.zeroCells (bv 0).cells n ++ Builtin.zeroCells (bv 0).cells (G - n):=⟨_,rfl⟩
  rw [←hcur] at hrz
  have HCS:=Lib.hid (show cur.size=G by
   rw [hcur,Array.size_append]
   have h1:=ze1 (.int .u8 0) n
   have h2:=ze1 (.int .u8 0) (G - n)
   show (Builtin.zeroCells #[.int .u8 0] n).size+(Builtin.zeroCells #[.int .u8 0] (G - n)).size=G
   omega)
  have HGM:=Lib.hid hGm
  have hn1:0 < (n:Int):=by omega
  clear hcur hGm hi hz hs hby hG h0
  go_enter Tryz.func209,Tryz.ntmps209
  go_wp2_with (at_builtin;refine Lib.wpList_append_run _ rfl _ _ _ _ rfl _ _ rfl rfl _ _ (hrz _) ?_)
  all_goals
   go_ret
   have h1:w.drew.heap.size=w.heap.size:=rfl
   refine ⟨_,rfl,ztM (by rw [←h1];exact heap_alloc_new w.drew _) (Nat.le_refl _) HGM.out HCS.out,((Below.refl _ _).alloc (Nat.le_refl _) _).trans ⟨rfl,rfl,rfl,Nat.le_refl _,fun _ _=>rfl⟩⟩
def zrP (xs:List (Value × List UInt8)) (w:World) (s i:Value) (wr:World):Prop:=∃ k S:Nat,k≤xs.length∧i=.int .i64 (k:Int)∧s=.int .i64 (S:Int)∧S=((xs.take k).flatMap (·.2)).length∧w=wr
def zrQ (xs:List (Value × List UInt8)) (w:World) (v i:Value) (wr:World):Prop:=∃ (k:Nat) (l:List UInt8),k≤xs.length∧i=.int .i64 (k:Int)∧l=(xs.take k).flatMap (·.2)∧wr.ownsRow w.heap.size 5 1 v l.length (l.map bv)∧Below w.heap.size w wr
theorem zjQ {xs:List (Value × List UInt8)} (k:Nat):((xs.take k).flatMap (·.2)).length≤(xs.flatMap (·.2)).length:=by
 have h:xs.flatMap (·.2)=(xs.take k).flatMap (·.2) ++ (xs.drop k).flatMap (·.2):=by rw [←List.flatMap_append,List.take_append_drop]
 rw [h,List.length_append]
 omega
theorem zpy (xs:List (Value × List UInt8)) (v:Value) (w:World) (hv:IsV (·.1) xs v w) (hx:∀ x∈xs,IsB x.2 x.1 w) (hm:xs.length≤1000) (hb:(xs.flatMap (·.2)).length≤1000000) :
  Calls Tryz.prog 192 #[v] w (RetOwn w (xs.flatMap (·.2))):=by
 obtain ⟨A,n,c,rfl⟩:=hv.shape
 have HN:=Lib.hid hv.parts.1
 have HV:=Lib.hid hv
 have HX:=Lib.hid hx
 have HB:=Lib.hid hb
 have hn6:n≤1000:=by have:=HN.out;omega
 have HS:=Lib.hid (show zrP xs w (.int .i64 0) (.int .i64 0) w from ⟨0,0,Nat.zero_le _,rfl,rfl,rfl,rfl⟩)
 clear hv hx hm hb
 go_enter Tryz.func192,Tryz.ntmps192
 go_wp2
 go_loopw [3,11] (zrP xs w) (fun _ i _=>n - (intOf i).toNat)
 case atStart=>exact HS.out
 case round =>
  obtain ⟨k,S,hk,rfl,rfl,hS,rfl⟩:=hrel
  have hkn:k≤n:=by have:=HN.out;omega
  have HSE:=Lib.hid hS
  have hS6:S≤1000000:=by rw [hS];exact Nat.le_trans (zjQ k) HB.out
  clear hS hk
  by_cases hlt:k < n
  ·have hkl:k < xs.length:=by have:=HN.out;omega
   have hlti:(k:Int) < (n:Int):=by omega
   obtain ⟨ad,rfl,had,hcell⟩:=HV.out.at hkl
   obtain ⟨x,hxe⟩:∃ x,x=xs[k]:=⟨_,rfl⟩
   rw [←hxe] at hcell
   have hxb:=HX.out x (by rw [hxe];exact List.getElem_mem hkl)
   have HNX:=Lib.hid (show S+x.2.length=((xs.take (k+1)).flatMap (·.2)).length by rw [List.take_succ_eq_append_getElem hkl,List.flatMap_append,List.length_append,←HSE.out,←hxe];simp)
   have hS2:S+x.2.length≤1000000:=by rw [HNX.out];exact Nat.le_trans (zjQ (k+1)) HB.out
   obtain ⟨A1,c1,hx1,_⟩:=hxb
   rw [hx1] at hcell
   obtain ⟨q,hq⟩:∃ q,q=x.2.length:=⟨_,rfl⟩
   rw [←hq] at hcell HNX hS2
   have hsw:IntKind.i64.wrap ((S:Int)+(q:Int))=(S:Int)+(q:Int):=by rw [IntKind.wrap_i64];omega
   have hneg:¬((S:Int)+(q:Int) < 0):=by omega
   clear hxe hx1 hq
   go_wp2
   go_roundw
   case rel=>exact ⟨k+1,S+q,hkl,by go_num,by go_num,HNX.out,rfl⟩
   case measure=>simp [intOf];omega
  ·obtain rfl:k=n:=by omega
   have HGR:=Lib.hid (ztN S w hS6)
   clear HSE
   go_wp2_with (go_at_call 209;refine HGR.out.mono ?_;rintro e w1 ⟨v1,rfl,ho1,hb1⟩)
   have HS2:=Lib.hid (show zrQ xs w v1 (.int .i64 0) w1 from ⟨0,[],Nat.zero_le _,rfl,rfl,ho1,hb1⟩)
   clear ho1 hb1
   go_loopw [6,27] (zrQ xs w) (fun _ i _=>k - (intOf i).toNat)
   case atStart=>exact HS2.out
   case round =>
    obtain ⟨j,l,hj,rfl,hl,hown,hbw⟩:=hrel
    have hjn:j≤k:=by have:=HN.out;omega
    have HL:=Lib.hid hl
    have hl6:l.length≤1000000:=by rw [hl];exact Nat.le_trans (zjQ j) HB.out
    have hz:=hbw.size
    clear hl hj
    by_cases hlt2:j < k
    ·have hkl:j < xs.length:=by have:=HN.out;omega
     have hlti:(j:Int) < (k:Int):=by omega
     obtain ⟨ad,rfl,had,hcell⟩:=(HV.out.below hbw).at hkl
     obtain ⟨x,hxe⟩:∃ x,x=xs[j]:=⟨_,rfl⟩
     rw [←hxe] at hcell
     have hxb:=HX.out x (by rw [hxe];exact List.getElem_mem hkl)
     have HNX:=Lib.hid (show l ++ x.2=(xs.take (j+1)).flatMap (·.2) by rw [List.take_succ_eq_append_getElem hkl,List.flatMap_append,←HL.out,←hxe];simp)
     have hS2:(l ++ x.2).length≤1000000:=by rw [HNX.out];exact Nat.le_trans (zjQ (j+1)) HB.out
     rw [List.length_append] at hS2
     obtain ⟨A1,c1,hx1,hA1,hnc1,hcm1,hl1⟩:=hxb
     rw [hx1] at hcell
     obtain ⟨q,hq⟩:∃ q,q=x.2.length:=⟨_,rfl⟩
     rw [←hq] at hcell hA1 hnc1 hS2
     have HL1:=Lib.hid (hl1.below hbw)
     have HQ:=Lib.hid hq
     obtain ⟨m,hm⟩:∃ m,m=l.length:=⟨_,rfl⟩
     rw [←hm] at hown hS2 hl6
     have HM:=Lib.hid hm
     clear hxe hx1 hq hm hl1
     go_wp2_with (at_builtin;refine zk elemB rfl _ _ rfl w.heap.size _ m (l.map bv) A1 q c1 (x.2.map bv) w rfl rfl hA1 (by rw [List.length_map,HQ.out]) HL1.out (zbv _) hown hbw hz (by omega) (by omega) ?_)
     intro v5 w5 ho5 hb5 _ _
     have HO5:=Lib.hid (show w5.ownsRow w.heap.size 5 1 v5 (l ++ x.2).length ((l ++ x.2).map bv) by rw [List.length_append,←HM.out,←HQ.out,List.map_append];exact ho5)
     have HB5:=Lib.hid hb5
     clear ho5 hb5 hown hbw
     go_wp2
     go_roundw
     case rel=>exact ⟨j+1,_,hkl,by go_num,HNX.out,HO5.out,HB5.out⟩
     case measure=>simp [intOf];omega
    ·obtain rfl:j=k:=by omega
     have HE:=Lib.hid (show l=xs.flatMap (·.2) by rw [HL.out,List.take_of_length_le (by have:=HN.out;omega)])
     have HO:=Lib.hid hown
     clear hown
     go_wp2
     go_ret
     rw [←HE.out]
     exact ⟨_,rfl,HO.out,hbw⟩
section
variable {P:Program} {o:Oper} {ρ:Operand→Value} {w:World} {R:Value→World→Prop}
theorem zrR {ts:Array TypeId} {x y:Operand} {a b r:Int} (ho:o.op=.call { callee:=.builtin .max,args:=#[x,y],argTypes:=ts }) (hx:ρ x=.int .i64 a) (hy:ρ y=.int .i64 b) (h:max a b=r) (hR:R (.int .i64 r) w):zX P o ρ w R:=by
 refine zo (v:=.int .i64 r) (w':=w) ?_ hR
 have hm:∀ (ts:Array TypeId) (t:TypeId) (W:World),(Builtin.max_ ts t #[.int .i64 a,.int .i64 b]).run P W=.ok (.int .i64 r) W:=fun ts t W=>by
  rw [run_max_int2]
  congr 2
  rw [←h]
  split <;> omega
 unfold execOp
 simp only [ho,resolve,invoke,builtin,Sem.run_bind,Sem.run_pure,Result.andThen_ok,List.map_toArray,List.map_cons,List.map_nil,hx,hy,hm]
theorem zi6 {t t':TypeId} {x y:Operand} {a r:Int} (ho:o.op=.binOp .shl t x y t') (hx:ρ x=.int .i64 a) (hy:ρ y=.int .u64 5) (h:IntKind.i64.wrap (a*32)=r) (hR:R (.int .i64 r) w):zX P o ρ w R:=by
 refine zo (v:=.int .i64 r) (w':=w) ?_ hR
 simp [execOp,ho,hx,hy,go_sem,h]
theorem zi7 {t t':TypeId} {x y:Operand} {a r:Int} (ho:o.op=.binOp .shr t x y t') (hx:ρ x=.int .u8 a) (hy:ρ y=.int .u64 5) (h:a / 32=r) (hR:R (.int .u8 r) w):zX P o ρ w R:=by
 refine zo (v:=.int .u8 r) (w':=w) ?_ hR
 simp [execOp,ho,hx,hy,go_sem,h]
theorem zi8 {t t':TypeId} {x y:Operand} {a b r:Int} (ho:o.op=.binOp .and t x y t') (hx:ρ x=.int .u8 a) (hy:ρ y=.int .u8 b) (h:bits .and .u8 a b=r) (hR:R (.int .u8 r) w):zX P o ρ w R:=by
 refine zo (v:=.int .u8 r) (w':=w) ?_ hR
 simp [execOp,ho,hx,hy,go_sem,h]
theorem zlc {t t':TypeId} {x y:Operand} {a b r:Int} (ho:o.op=.binOp .or t x y t') (hx:ρ x=.int .i64 a) (hy:ρ y=.int .i64 b) (h:bits .or .i64 a b=r) (hR:R (.int .i64 r) w):zX P o ρ w R:=by
 refine zo (v:=.int .i64 r) (w':=w) ?_ hR
 simp [execOp,ho,hx,hy,go_sem,h]
theorem zpz {t t':TypeId} {x y:Operand} {a b r:Int} (ho:o.op=.binOp .or t x y t') (hx:ρ x=.int .u64 a) (hy:ρ y=.int .u64 b) (h:bits .or .u64 a b=r) (hR:R (.int .u64 r) w):zX P o ρ w R:=by
 refine zo (v:=.int .u64 r) (w':=w) ?_ hR
 simp [execOp,ho,hx,hy,go_sem,h]
theorem zrS {t e:TypeId} {bytes:Nat} {z u u':Value} (E:Elem P t e bytes z) {x y:Operand} (ho:o.op=.buildSlice t 2 #[(0,x),(1,y)]) (hx:ρ x=u) (hy:ρ y=u') (hu:u.cells = #[u]) (hu':u'.cells = #[u']) (hR:R (.slice (some ⟨w.heap.size,0,none⟩) 2 2) (w.alloc (.cells #[u,u'] e))):zX P o ρ w R:=by
 obtain ⟨i,h1,h2,h3,h4⟩:=E.info
 refine zo (v:=.slice (some ⟨w.heap.size,0,none⟩) 2 2) (w':=w.alloc (.cells #[u,u'] e)) ?_ hR
 have h5:z.cells = #[z]:=E.one
 have hf:Instr.fill (fun k=>some (k*i.size,i.size)) ((Array.range (2*i.size)).map (z.cells[· % z.cells.size]!)) [(0,u),(1,u')]=some #[u,u']:=by
  rw [h3,h5]
  have hr1:Array.range 2 = #[0,1]:=by rw [Array.range_succ,Array.range_succ];rfl
  rw [Nat.mul_one,hr1]
  simp [Instr.fill,hu,hu']
 have:=run_buildSlice w t e 2 #[(0,u),(1,u')] #[u,u'] i z E.under h1 h2 (by rw [h3];decide) (by rw [h3];decide) hf
 simp [execOp,ho,hx,hy,this]
end
theorem zhT {o:Oper} {ρ:Operand→Value} {w:World} {R:Value→World→Prop} {x0 x1 x2 x3 x4 x5:Operand} {m W n p g t:Int} (ho:o.op=.build 172 #[(0,x0),(1,x1),(2,x2),(3,x3),(4,x4),(5,x5)])
  (h0:ρ x0=.int .i64 m) (h1:ρ x1=.int .i64 W) (h2:ρ x2=.int .i64 n) (h3:ρ x3=.int .i64 p) (h4:ρ x4=.int .i64 g) (h5:ρ x5=.int .i64 t) (hR:R (shv m W n p g t) w):zX Tryz.prog o ρ w R:=by
 refine zo (v:=shv m W n p g t) (w':=w) ?_ hR
 simp [execOp,ho,h0,h1,h2,h3,h4,h5,go_sem]
 rfl
theorem zea {P:Program} {fn:Func} {p u v:Tmp} {ty:TypeId} (h:fn.results = #[.cell p ty,.tmp u,.tmp v]) (tmps:Array Value) (w:World) (g:Nat) (t:TypeId) (cs:Array Value) (fr:Nat × Nat) (d:TypeDesc)
  (hp:tmps.getD p undef=.pointer (some ⟨g,0,none⟩)) (hg:w.heap[g]? = some (.cells cs t fr))
  (hu:P.underlying ty=some d) (hd:(match d with | .struct _ | .array _ _=>true | _=>false)=true) (hi:(P.info? ty).map (·.size)=some cs.size) :
  (results fn tmps).run P w=.ok (.tuple #[.agg cs,tmps.getD u undef,tmps.getD v undef]) w:=by
 have hp':tmps[p]?.getD undef=Value.pointer (some ⟨g,0,none⟩):=by simpa using hp
 simp only [results,h]
 simp [Result.andThen,hp',asAddr,run_loadVar_row w g t ty cs fr d hg hu hd hi]
theorem zld (W:World) (g:Nat):(Instr.fieldAt 198 (.pointer (some ⟨g,0,none⟩)) 0).run Tryz.prog W=.ok (.pointer (some ⟨g,0,none⟩)) W:=by
 simp [Instr.fieldAt,run_underlying Tryz.underlying198,Instr.sureAddr,fieldPlace,Addr.add]
theorem zle (W:World) (g:Nat):(Instr.fieldAt 198 (.pointer (some ⟨g,0,none⟩)) 1).run Tryz.prog W=.ok (.pointer (some ⟨g,1,none⟩)) W:=by
 simp [Instr.fieldAt,run_underlying Tryz.underlying198,Instr.sureAddr,fieldPlace,Addr.add]
theorem zbn:(Tryz.prog.info? 172).map (·.size)=some 6:=by kernel_rfl
theorem zmZ (m W n:Int) (vg vp:Value) (ps:List (Nat × Nat)) (w:World) (ht:WTab w) (hvg:IsV uv (ps.map (·.1)) vg w) (hvp:IsV uv (ps.map (·.2)) vp w) (h1:∀ q∈ps,q.1 < 2 ^ 64) (h2:∀ q∈ps,q.2 < 2 ^ 64) (hb:ps.length≤1000000) :
  Calls Tryz.prog 189 #[.int .i64 m,.int .i64 W,.int .i64 n,ze0 vg vp] w fun e w'=>e=.returned (shv m W n (zh (zbW (ps.map (·.2)):Int)) (pgw ps:Int) (ps.length:Int))∧Below w.heap.size w w':=by
 obtain ⟨Ag,ng,cg,rfl⟩:=hvg.shape
 obtain ⟨Ap,np,cp,rfl⟩:=hvp.shape
 have hng:ps.length=ng:=by rw [←hvg.parts.1,List.length_map]
 obtain ⟨w1,hw1⟩:∃ w1,w1=w.alloc (.cells #[.slice Ag ng cg,.slice Ap np cp] 198):=⟨_,rfl⟩
 have q1:Row w1 w.heap.size 198 [.slice Ag ng cg,.slice Ap np cp]:=by rw [hw1];exact heap_alloc_new w _
 have z1:w1.heap.size=w.heap.size+1:=by rw [hw1];simp
 obtain ⟨w2,hw2⟩:∃ w2,w2=w1.alloc (.cells (shc 0 0 0 0 0 0).toArray 172):=⟨_,rfl⟩
 have hb1:Below w.heap.size w w1:=by rw [hw1];exact (Below.refl _ _).alloc (Nat.le_refl _) _
 have hb2:Below w.heap.size w w2:=by rw [hw2];exact hb1.alloc hb1.size _
 have q2:Row w2 w.heap.size 198 [.slice Ag ng cg,.slice Ap np cp]:=by rw [hw2];exact q1.alloc _
 have HRZ:=Lib.hid (show Row w2 (w.heap.size+1) 172 (shc 0 0 0 0 0 0) by rw [hw2,←z1];exact heap_alloc_new w1 _)
 have HB0:=Lib.hid hb2
 have HLB:=Lib.hid q2.lt
 have HCG:=Lib.hid (show w2.cell? ⟨w.heap.size,0,none⟩=some (.slice Ag ng cg) from q2.cell 0)
 have HCP:=Lib.hid (show w2.cell? ⟨w.heap.size,1,none⟩=some (.slice Ap np cp) from q2.cell 1)
 have HVG:=Lib.hid (hvg.below hb2)
 have HVP:=Lib.hid (hvp.below hb2)
 have HT:=Lib.hid (ht.below hb2 ht.lt)
 have HMG:=Lib.hid (fun X (h:IsV uv (ps.map (·.1)) (.slice Ag ng cg) X)=>zmF h (by rw [List.length_map];exact hb) (fun x hx=>by obtain ⟨q,hq,rfl⟩:=List.mem_map.1 hx;exact h1 q hq))
 have HMP:=Lib.hid (fun X (h:IsV uv (ps.map (·.2)) (.slice Ap np cp) X)=>zmF h (by rw [List.length_map];exact hb) (fun x hx=>by obtain ⟨q,hq,rfl⟩:=List.mem_map.1 hx;exact h2 q hq))
 obtain ⟨mp,hmp⟩:∃ mp,mp=zbW (ps.map (·.2)):=⟨_,rfl⟩
 obtain ⟨mg,hmg⟩:∃ mg,mg=zbW (ps.map (·.1)):=⟨_,rfl⟩
 obtain ⟨P,hP⟩:∃ P,P=zh (mp:Int):=⟨_,rfl⟩
 obtain ⟨G,hG⟩:∃ G,G=(pgw ps:Int):=⟨_,rfl⟩
 have HMX:=Lib.hid (show max 1 (mg:Int)=G by rw [hG,hmg];unfold pgw;omega)
 have HCL:=Lib.hid (fun X (h:WTab X)=>zdR (mp:Int) X h)
 rw [←hmp] at HMP ⊢
 rw [←hmg] at HMG
 rw [←hP] at HCL ⊢
 rw [←hG,hng]
 unfold ze0
 clear ht hvg hvp h1 h2 hb hng q1 q2 z1 hb1 hb2 hmp hmg hP hG
 unfold shc at hw2
 go_enter Tryz.func189,Tryz.ntmps189
 go_wp2
 rw [←hw1,←hw2]
 clear hw1 hw2
 refine zt 15 [.is (.int .i64 m),.is (.int .i64 W),.is (.int .i64 n),.is (.pointer (some ⟨w.heap.size,1,none⟩)),.is (.slice Ap np cp),.is (.int .i64 (mp:Int)),.is (.int .i64 P),.is (.pointer (some ⟨w.heap.size,0,none⟩)),.is (.slice Ag ng cg),.is (.int .i64 (mg:Int)),.is (.int .i64 G),.is (.pointer (some ⟨w.heap.size,0,none⟩)),.is (.slice Ag ng cg),.is (.int .i64 (ng:Int)),.is (shv m W n P G (ng:Int))] [some 9,some 10,some 11,some 12,some 13,some 14,some 15,some 16,some 17,some 18,some 19,some 20,some 21,some 22,some 23] (by kernel_rfl) (by kernel_rfl) (by kernel_rfl) (by kernel_rfl) rfl ⟨?_,?_,?_,?_,?_,?_,?_,?_,?_,?_,?_,?_,?_,?_,?_,trivial⟩ ?_
 ·intro ρ W1 hb1 H
  exact zd rfl (H.old 0 _ (by kernel_rfl) rfl) ⟨rfl,Below.refl _ _⟩
 ·intro ρ W1 hb1 H
  exact zd rfl (H.old 1 _ (by kernel_rfl) rfl) ⟨rfl,Below.refl _ _⟩
 ·intro ρ W1 hb1 H
  exact zd rfl (H.old 2 _ (by kernel_rfl) rfl) ⟨rfl,Below.refl _ _⟩
 ·intro ρ W1 hb1 H
  exact zq rfl (H.old 7 _ (by kernel_rfl) rfl) (fun W=>zle W _) ⟨rfl,Below.refl _ _⟩
 ·intro ρ W1 hb1 H
  exact zf rfl (H.new 12 3 (by kernel_rfl)) Tryz.underlying93 rfl ((hb1.cell HLB.out).trans HCP.out) ⟨rfl,Below.refl _ _⟩
 ·intro ρ W1 hb1 H
  have e0:ρ (.tmp 13)=.slice Ap np cp:=H.new 13 4 (by kernel_rfl)
  refine zj rfl (fun _ _=>by kernel_rfl) (H.func _) (args:=#[.slice Ap np cp]) (by simp [e0]) ?_
  exact (HMP.out W1 (HVP.out.below hb1)).mono fun e w' ⟨h1,h2⟩=>⟨_,h1,rfl,h2 ▸ Below.refl _ _⟩
 ·intro ρ W1 hb1 H
  have e0:ρ (.tmp 14)=.int .i64 (mp:Int):=H.new 14 5 (by kernel_rfl)
  refine zj rfl (fun _ _=>by kernel_rfl) (H.func _) (args:=#[.int .i64 (mp:Int)]) (by simp [e0]) ?_
  exact (HCL.out W1 (HT.out.below hb1 HT.out.lt)).mono fun e w' ⟨h1,h2⟩=>⟨_,h1,rfl,h2 ▸ Below.refl _ _⟩
 ·intro ρ W1 hb1 H
  exact zq rfl (H.old 7 _ (by kernel_rfl) rfl) (fun W=>zld W _) ⟨rfl,Below.refl _ _⟩
 ·intro ρ W1 hb1 H
  exact zf rfl (H.new 16 7 (by kernel_rfl)) Tryz.underlying93 rfl ((hb1.cell HLB.out).trans HCG.out) ⟨rfl,Below.refl _ _⟩
 ·intro ρ W1 hb1 H
  have e0:ρ (.tmp 17)=.slice Ag ng cg:=H.new 17 8 (by kernel_rfl)
  refine zj rfl (fun _ _=>by kernel_rfl) (H.func _) (args:=#[.slice Ag ng cg]) (by simp [e0]) ?_
  exact (HMG.out W1 (HVG.out.below hb1)).mono fun e w' ⟨h1,h2⟩=>⟨_,h1,rfl,h2 ▸ Below.refl _ _⟩
 ·intro ρ W1 hb1 H
  exact zrR rfl (H.const _) (H.new 18 9 (by kernel_rfl)) HMX.out ⟨rfl,Below.refl _ _⟩
 ·intro ρ W1 hb1 H
  exact zq rfl (H.old 7 _ (by kernel_rfl) rfl) (fun W=>zld W _) ⟨rfl,Below.refl _ _⟩
 ·intro ρ W1 hb1 H
  exact zf rfl (H.new 20 11 (by kernel_rfl)) Tryz.underlying93 rfl ((hb1.cell HLB.out).trans HCG.out) ⟨rfl,Below.refl _ _⟩
 ·intro ρ W1 hb1 H
  exact zbL elemU.under rfl (H.new 21 12 (by kernel_rfl)) ⟨rfl,Below.refl _ _⟩
 ·intro ρ W1 hb1 H
  exact zhT rfl (H.new 9 0 (by kernel_rfl)) (H.new 10 1 (by kernel_rfl)) (H.new 11 2 (by kernel_rfl)) (H.new 15 6 (by kernel_rfl)) (H.new 19 10 (by kernel_rfl)) (H.new 22 13 (by kernel_rfl)) ⟨rfl,Below.refl _ _⟩
 ·intro vs W1 hb1 hfs
  have f0:vs 0=.int .i64 m:=hfs 0 (by decide)
  have f1:vs 1=.int .i64 W:=hfs 1 (by decide)
  have f2:vs 2=.int .i64 n:=hfs 2 (by decide)
  have f3:vs 3=.pointer (some ⟨w.heap.size,1,none⟩):=hfs 3 (by decide)
  have f4:vs 4=.slice Ap np cp:=hfs 4 (by decide)
  have f5:vs 5=.int .i64 (mp:Int):=hfs 5 (by decide)
  have f6:vs 6=.int .i64 P:=hfs 6 (by decide)
  have f7:vs 7=.pointer (some ⟨w.heap.size,0,none⟩):=hfs 7 (by decide)
  have f8:vs 8=.slice Ag ng cg:=hfs 8 (by decide)
  have f9:vs 9=.int .i64 (mg:Int):=hfs 9 (by decide)
  have f10:vs 10=.int .i64 G:=hfs 10 (by decide)
  have f11:vs 11=.pointer (some ⟨w.heap.size,0,none⟩):=hfs 11 (by decide)
  have f12:vs 12=.slice Ag ng cg:=hfs 12 (by decide)
  have f13:vs 13=.int .i64 (ng:Int):=hfs 13 (by decide)
  have f14:vs 14=shv m W n P G (ng:Int):=hfs 14 (by decide)
  clear hfs
  simp only [zr,Nat.zero_add,Nat.reduceAdd,List.drop_succ_cons,List.drop_zero]
  simp only [f0,f1,f2,f3,f4,f5,f6,f7,f8,f9,f10,f11,f12,f13,f14,Act.put,List.setIfInBounds_toArray,List.set_cons_succ,List.set_cons_zero]
  clear f0 f1 f2 f3 f4 f5 f6 f7 f8 f9 f10 f11 f12 f13 f14
  have HR1:=Lib.hid (HRZ.out.below hb1 HRZ.out.lt)
  have HB1:=Lib.hid hb1
  clear hb1
  refine zbY rfl _ _ _ rfl (w.heap.size+1) 0 172 (shc 0 0 0 0 0 0) (shc m W n P G (ng:Int)) (shc m W n P G (ng:Int)) rfl rfl rfl HR1.out zbn (Nat.le_refl _) (zhQ _ _ _ _ _ _) w w.heap.size (HB0.out.trans (HB1.out.mono HB0.out.size)) (Nat.le_succ _) ?_
  intro w2 hr2 hb2 _
  go_wp2
  refine zi3 rfl rfl hr2 Tryz.underlying172 rfl zbn rfl ?_
  exact ⟨rfl,hb2⟩
def zvJ (T:List Nat) (g b n:Nat) (vg vp:Value) (w:World) (i:Value) (wr:World):Prop:=∃ (k:Nat) (acc:List Nat),k≤n∧i=.int .i64 (k:Int)∧acc=T.take k∧Row wr g 119 (acc.map uv ++ List.replicate (n - k) (uv 0))∧Row wr b 198 [vg,vp]∧Below w.heap.size w wr
theorem zpA (vg vp:Value) (ps:List (Nat × Nat)) (p:Nat) (w:World) (hvg:IsV uv (ps.map (·.1)) vg w) (hvp:IsV uv (ps.map (·.2)) vp w) (h1:∀ q∈ps,q.1*2 ^ p < 2 ^ 64) (h2:∀ q∈ps,q.2 < 2 ^ p) (hp64:p≤64) (hb:ps.length≤1000000) :
  Calls Tryz.prog 191 #[ze0 vg vp,.int .i64 (p:Int)] w fun e w'=>∃ v,e=.returned v∧IsV uv (zcy ps p) v w'∧Below w.heap.size w w':=by
 obtain ⟨Ag,n,cg,rfl⟩:=hvg.shape
 obtain ⟨Ap,np,cp,rfl⟩:=hvp.shape
 have hng:ps.length=n:=by rw [←hvg.parts.1,List.length_map]
 obtain rfl:np=n:=by rw [←hng,←hvp.parts.1,List.length_map]
 obtain ⟨b,hbz⟩:∃ b,b=w.heap.size:=⟨_,rfl⟩
 obtain ⟨w1,hw1⟩:∃ w1,w1=w.alloc (.cells #[.slice Ag np cg,.slice Ap np cp] 198):=⟨_,rfl⟩
 have q1:Row w1 b 198 [.slice Ag np cg,.slice Ap np cp]:=by rw [hw1,hbz];exact heap_alloc_new w _
 have z1:w1.heap.size=b+1:=by rw [hw1,hbz];simp
 have hb1:Below w.heap.size w w1:=by rw [hw1];exact (Below.refl _ _).alloc (Nat.le_refl _) _
 have hc0:w1.cell? ⟨b,0,none⟩=some (.slice Ag np cg):=q1.cell 0
 have HQ1:=Lib.hid q1
 have HB1:=Lib.hid hb1
 have HN:=Lib.hid hng
 have HVG:=Lib.hid hvg
 have HVP:=Lib.hid hvp
 have H1:=Lib.hid h1
 have H2:=Lib.hid h2
 have hn6:np≤1000000:=by omega
 rw [hw1,hbz] at hc0
 have HBZ:=Lib.hid hbz
 have HW1:=Lib.hid hw1
 unfold ze0
 clear hvg hvp h1 h2 hb hng q1 hb1 hbz hw1
 go_enter Tryz.func191,Tryz.ntmps191
 go_wp2_with (refine zn elemU rfl _ _ rfl _ _ _ _ np _ (w.heap.size+1) rfl rfl rfl rfl (by omega) (by omega) (Below.refl _ _) (by simp) ?_)
 intro w2 hr2 hb2
 rw [←HW1.out,←HBZ.out] at hb2
 rw [←HBZ.out] at hr2
 have hz2:=hr2.lt
 have HB2:=Lib.hid (HB1.out.trans (hb2.mono (by have:=HBZ.out;omega)))
 have hq2:=HQ1.out.below hb2 (Nat.lt_succ_self b)
 have hc2:w2.cell? ⟨b,0,none⟩=some (.slice Ag np cg):=hq2.cell 0
 rw [←HBZ.out]
 have HS:=Lib.hid (show zvJ (zcy ps p) (b+1) b np (.slice Ag np cg) (.slice Ap np cp) w (.int .i64 0) w2 from ⟨0,[],Nat.zero_le _,rfl,rfl,by rw [Nat.sub_zero];simpa [uv] using hr2,hq2,HB2.out⟩)
 have hbg:b≠b+1:=by omega
 have hg:w.heap.size≤b+1:=by have:=HBZ.out;omega
 clear hr2 hb2 hq2 hc0 hz2 z1
 generalize b+1=g at *
 go_wp2
 clear hc2
 go_loopw [15] (zvJ (zcy ps p) g b np (.slice Ag np cg) (.slice Ap np cp) w) (fun i _=>np - (intOf i).toNat)
 case atStart=>exact HS.out
 case round =>
  obtain ⟨k,acc,hk,rfl,hacc,hr,hrb,hbw⟩:=hrel
  have hpl:(zcy ps p).length=np:=by unfold zcy;rw [List.length_map,HN.out]
  have HAL:=Lib.hid (show acc.length=k by rw [hacc,List.length_take];omega)
  have HB:=Lib.hid hbw
  have HR:=Lib.hid hr
  have HRB:=Lib.hid hrb
  have HACC:=Lib.hid hacc
  have HPL:=Lib.hid hpl
  clear hacc hr hrb hpl
  by_cases hlt:k < np
  ·have hkl:k < ps.length:=by have:=HN.out;omega
   have hlti:(k:Int) < (np:Int):=by omega
   have hltn:k < np:=hlt
   obtain ⟨adg,hAg,_,hcg⟩:=(HVG.out.below hbw).at (k:=k) (by rw [List.length_map];exact hkl)
   obtain ⟨ad,hAp,hadlt,hcp⟩:=(HVP.out.below hbw).at (k:=k) (by rw [List.length_map];exact hkl)
   subst hAg hAp
   obtain ⟨q,hq⟩:∃ q,q=ps[k]:=⟨_,rfl⟩
   have hqm:q∈ps:=by rw [hq];exact List.getElem_mem hkl
   obtain ⟨x,hx⟩:∃ x,x=q.1:=⟨_,rfl⟩
   obtain ⟨y,hy⟩:∃ y,y=q.2:=⟨_,rfl⟩
   have hcx:wr.cell? (adg.add k)=some (.int .u64 (x:Int)):=by rw [hcg,List.getElem_map,←hq,←hx];rfl
   have HCY:=Lib.hid (show wr.cell? (ad.add k)=some (.int .u64 (y:Int)) by rw [hcp,List.getElem_map,←hq,←hy];rfl)
   have HLA:=Lib.hid (show (ad.add k).block < wr.heap.size by rw [add_block];exact hadlt)
   obtain ⟨Z,hZ⟩:∃ Z,Z=x*2 ^ p:=⟨_,rfl⟩
   obtain ⟨V,hV⟩:∃ V,V=Z+y:=⟨_,rfl⟩
   have hZ64:Z < 18446744073709551616:=by rw [hZ,hx];exact H1.out q hqm
   have hy2:y < 2 ^ p:=by rw [hy];exact H2.out q hqm
   have hpp:2 ^ p≤18446744073709551616:=Nat.pow_le_pow_right (n:=2) (i:=p) (j:=64) (by omega) hp64
   have HZW:Hid (IntKind.u64.wrap ((x:Int)*2 ^ p)=(Z:Int)):=Lib.hid (by rw [show (x:Int)*2 ^ p=(Z:Int) by rw [hZ];simp,IntKind.wrap_u64];omega)
   have HOR:Hid (bits .or .u64 (Z:Int) (y:Int)=(V:Int)):=Lib.hid (by
    have hj:=nat_join p Z y (by rw [hZ];exact Nat.mul_mod_left _ _) hy2
    rw [u64_or _ _ (by omega) (by omega) (by omega) (by omega),Int.toNat_natCast,Int.toNat_natCast,hj,hV])
   have HNX:=Lib.hid (show acc ++ [V]=(zcy ps p).take (k+1) by
    rw [HACC.out,List.take_succ_eq_append_getElem (by rw [HPL.out];exact hlt)]
    congr 1
    unfold zcy
    rw [List.getElem_map,←hq,←hx,←hy,←hZ,hV])
   have HCP:=Lib.hid (show wr.cell? ⟨b,1,none⟩=some (.slice (some ad) np cp) from HRB.out.cell 1)
   have HLB:=Lib.hid HRB.out.lt
   have HADD:Hid ((⟨g,0,none⟩:Addr).add k=⟨g,k,none⟩):=Lib.hid (by unfold Addr.add;split <;> simp_all)
   clear hcg hcp hq hqm hx hy hZ hV hZ64 hy2 hpp hadlt hbw
   go_wp2
   refine zt 12 [.is (.slice (some ⟨g,0,none⟩) np np),.is (.int .i64 (k:Int)),.is (.int .u64 (x:Int)),.is (.int .i64 (p:Int)),.is (.int .u64 (Z:Int)),.is (.pointer (some ⟨b,1,none⟩)),.is (.slice (some ad) np cp),.is (.int .i64 (k:Int)),.is (.pointer (some (ad.add k))),.is (.int .u64 (y:Int)),.is (.int .u64 (V:Int)),.is (.pointer (some ⟨g,k,none⟩))] [some 20,some 21,some 22,some 23,some 24,some 25,some 26,some 27,some 28,some 29,some 30,some 31] (by kernel_rfl) (by kernel_rfl) (by kernel_rfl) (by kernel_rfl) rfl ⟨?_,?_,?_,?_,?_,?_,?_,?_,?_,?_,?_,?_,trivial⟩ ?_
   ·intro ρ W1 hb1 H
    exact zd rfl (H.old 5 _ (by kernel_rfl) rfl) ⟨rfl,Below.refl _ _⟩
   ·intro ρ W1 hb1 H
    exact zd rfl (H.old 6 _ (by kernel_rfl) rfl) ⟨rfl,Below.refl _ _⟩
   ·intro ρ W1 hb1 H
    exact zd rfl (H.old 7 _ (by kernel_rfl) rfl) ⟨rfl,Below.refl _ _⟩
   ·intro ρ W1 hb1 H
    exact zd rfl (H.old 1 _ (by kernel_rfl) rfl) ⟨rfl,Below.refl _ _⟩
   ·intro ρ W1 hb1 H
    exact ze8 (k:=p) rfl (H.new 22 2 (by kernel_rfl)) (H.new 23 3 (by kernel_rfl)) hp64 HZW.out ⟨rfl,Below.refl _ _⟩
   ·intro ρ W1 hb1 H
    exact zq rfl (H.old 2 _ (by kernel_rfl) rfl) (fun W=>zle W _) ⟨rfl,Below.refl _ _⟩
   ·intro ρ W1 hb1 H
    exact zf rfl (H.new 25 5 (by kernel_rfl)) Tryz.underlying93 rfl ((hb1.cell HLB.out).trans HCP.out) ⟨rfl,Below.refl _ _⟩
   ·intro ρ W1 hb1 H
    exact zd rfl (H.old 6 _ (by kernel_rfl) rfl) ⟨rfl,Below.refl _ _⟩
   ·intro ρ W1 hb1 H
    exact zw (k:=k) elemU rfl (H.new 26 6 (by kernel_rfl)) (H.new 27 7 (by kernel_rfl)) (hltn) ⟨rfl,Below.refl _ _⟩
   ·intro ρ W1 hb1 H
    exact zf rfl (H.new 28 8 (by kernel_rfl)) Tryz.underlying119 rfl ((hb1.cell HLA.out).trans HCY.out) ⟨rfl,Below.refl _ _⟩
   ·intro ρ W1 hb1 H
    exact zpz rfl (H.new 24 4 (by kernel_rfl)) (H.new 29 9 (by kernel_rfl)) HOR.out ⟨rfl,Below.refl _ _⟩
   ·intro ρ W1 hb1 H
    exact zw (k:=k) elemU rfl (H.new 20 0 (by kernel_rfl)) (H.new 21 1 (by kernel_rfl)) (hltn) ⟨congrArg (fun q=>Value.pointer (some q)) (HADD.out),Below.refl _ _⟩
   ·intro vs W1 hb1 hfs
    have f0:vs 0=.slice (some ⟨g,0,none⟩) np np:=hfs 0 (by decide)
    have f1:vs 1=.int .i64 (k:Int):=hfs 1 (by decide)
    have f2:vs 2=.int .u64 (x:Int):=hfs 2 (by decide)
    have f3:vs 3=.int .i64 (p:Int):=hfs 3 (by decide)
    have f4:vs 4=.int .u64 (Z:Int):=hfs 4 (by decide)
    have f5:vs 5=.pointer (some ⟨b,1,none⟩):=hfs 5 (by decide)
    have f6:vs 6=.slice (some ad) np cp:=hfs 6 (by decide)
    have f7:vs 7=.int .i64 (k:Int):=hfs 7 (by decide)
    have f8:vs 8=.pointer (some (ad.add k)):=hfs 8 (by decide)
    have f9:vs 9=.int .u64 (y:Int):=hfs 9 (by decide)
    have f10:vs 10=.int .u64 (V:Int):=hfs 10 (by decide)
    have f11:vs 11=.pointer (some ⟨g,k,none⟩):=hfs 11 (by decide)
    clear hfs
    simp only [zr,Nat.zero_add,Nat.reduceAdd,List.drop_succ_cons,List.drop_zero]
    simp only [f0,f1,f2,f3,f4,f5,f6,f7,f8,f9,f10,f11,Act.put,List.setIfInBounds_toArray,List.set_cons_succ,List.set_cons_zero]
    clear f0 f1 f2 f3 f4 f5 f6 f7 f8 f9 f10 f11
    have hr2:=HR.out.below hb1 HR.out.lt
    have hf2:=hr2.free k
    have hcu:∃ z,W1.cell? ⟨g,k,none⟩=some z:=by
     rw [hr2.cell]
     exact ⟨_,List.getElem?_eq_getElem (by rw [List.length_append,List.length_map,List.length_replicate];have:=HAL.out;omega)⟩
    obtain ⟨u0,hcu⟩:=hcu
    have hset:=hr2.set_ k (uv V)
    rw [zc1 hltn HAL.out] at hset
    have HSET:=Lib.hid hset
    have HRB1:=Lib.hid ((HRB.out.below hb1 HRB.out.lt).far (p:=⟨g,k,none⟩) hbg (uv V))
    have HB3:=Lib.hid ((HB.out.trans (hb1.mono HB.out.size)).setCell (p:=⟨g,k,none⟩) hg (uv V))
    clear hset hr2 hb1
    go_wp2
    go_roundw
    case rel=>exact ⟨k+1,_,by omega,by go_num,HNX.out,HSET.out,HRB1.out,HB3.out⟩
    case measure=>simp [intOf];omega
  ·obtain rfl:k=np:=by omega
   have hlti:¬(k:Int) < (k:Int):=by omega
   have HE:=Lib.hid (show acc=zcy ps p by rw [HACC.out,List.take_of_length_le (by rw [HPL.out];exact Nat.le_refl _)])
   have hr:=HR.out
   rw [Nat.sub_self,List.replicate_zero,List.append_nil] at hr
   have HO:=Lib.hid (zbN hr HAL.out (by omega))
   rw [HE.out] at HO
   clear hr
   go_wp2
   go_ret
   exact ⟨_,rfl,HO.out,HB.out⟩
def Fact.ownRow (B:Nat) (l:List UInt8):Fact:=⟨fun v w=>w.ownsRow B 5 1 v l.length (l.map bv),fun _ _ _ h hb=>own_below h hb⟩
theorem two_bytes {B0 B1:Nat} (h0:B0 < 256) (h1:B1 < 256) (W:World):IsB [UInt8.ofNat B0,UInt8.ofNat B1] (.slice (some ⟨W.heap.size,0,none⟩) 2 2) (W.alloc (.cells #[.int .u8 (B0:Int),.int .u8 (B1:Int)] 5)):=by
 have h:=zqD W 5 [UInt8.ofNat B0,UInt8.ofNat B1] 2 rfl (by omega)
 simp only [List.map_cons,List.map_nil] at h
 rwa [←zem h0,←zem h1] at h
theorem ztO (M W n p g t:Nat) (w:World) (ht:WTab w) (hM1:1≤M) (hM:M≤512) (hW:zbc (W:Int)=(zb8 W:Int)) (hW31:zb8 W≤31) (hn1:1≤n) (hn8:n≤8) (hp:zbc (p:Int)=(zb8 p:Int)) (hp31:zb8 p≤31) (hg1:1≤g) (hg8:g≤8) (ht31:t≤31) :
  Calls Tryz.prog 193 #[shv M W n p g t] w (RetOwn w (zE 2 (zb8 W) M ++ [UInt8.ofNat (32*(n - 1)+zb8 p),UInt8.ofNat (32*(g - 1)+t)])):=by
 obtain ⟨w1,hw1⟩:∃ w1,w1=w.alloc (.cells (shc M W n p g t).toArray 172):=⟨_,rfl⟩
 have q1:Row w1 w.heap.size 172 (shc M W n p g t):=by rw [hw1];exact heap_alloc_new w _
 have hb1:Below w.heap.size w w1:=by rw [hw1];exact (Below.refl _ _).alloc (Nat.le_refl _) _
 have HB0:=Lib.hid hb1
 have HLB:=Lib.hid q1.lt
 have HC0:=Lib.hid (show w1.cell? ⟨w.heap.size,0,none⟩=some (.int .i64 (M:Int)) from q1.cell 0)
 have HC1:=Lib.hid (show w1.cell? ⟨w.heap.size,1,none⟩=some (.int .i64 (W:Int)) from q1.cell 1)
 have HC2:=Lib.hid (show w1.cell? ⟨w.heap.size,2,none⟩=some (.int .i64 (n:Int)) from q1.cell 2)
 have HC3:=Lib.hid (show w1.cell? ⟨w.heap.size,3,none⟩=some (.int .i64 (p:Int)) from q1.cell 3)
 have HC4:=Lib.hid (show w1.cell? ⟨w.heap.size,4,none⟩=some (.int .i64 (g:Int)) from q1.cell 4)
 have HC5:=Lib.hid (show w1.cell? ⟨w.heap.size,5,none⟩=some (.int .i64 (t:Int)) from q1.cell 5)
 have HT:=Lib.hid (ht.below hb1 ht.lt)
 obtain ⟨cW,hcW⟩:∃ cW,cW=zb8 W:=⟨_,rfl⟩
 obtain ⟨cp,hcp⟩:∃ cp,cp=zb8 p:=⟨_,rfl⟩
 have HCW:=Lib.hid (fun X (h:WTab X)=>zfo (W:Int) X h)
 have HCD:=Lib.hid (fun X (h:WTab X)=>zfo (p:Int) X h)
 rw [hW,←hcW] at HCW
 rw [hp,←hcp] at HCD
 rw [←hcW] at hW31 ⊢
 rw [←hcp] at hp31 ⊢
 obtain ⟨hd,hhd⟩:∃ hd,hd=zE 2 cW M:=⟨_,rfl⟩
 have HHD:=Lib.hid (fun X (h:WTab X)=>zhz 2 (cW:Int) (M:Int) X h (by unfold inInt;omega) (by unfold inInt;omega) (by unfold inInt;omega))
 rw [show (2:Int)=((2:Nat):Int) from rfl,zfu (by omega) hW31 hM1 hM,←hhd] at HHD
 rw [show ((2:Nat):Int)=(2:Int) from rfl] at HHD
 have HHL:=Lib.hid (show hd.length=2 by rw [hhd,zV])
 obtain ⟨n1,hn1e⟩:∃ n1,n1=n - 1:=⟨_,rfl⟩
 obtain ⟨g1,hg1e⟩:∃ g1,g1=g - 1:=⟨_,rfl⟩
 obtain ⟨n32,hn32⟩:∃ n32,n32=n1*32:=⟨_,rfl⟩
 obtain ⟨g32,hg32⟩:∃ g32,g32=g1*32:=⟨_,rfl⟩
 obtain ⟨B0,hB0⟩:∃ B0,B0=n32+cp:=⟨_,rfl⟩
 obtain ⟨B1,hB1⟩:∃ B1,B1=g32+t:=⟨_,rfl⟩
 rw [show 32*(n - 1)+cp=B0 by omega,show 32*(g - 1)+t=B1 by omega,←hhd]
 have HN1:=Lib.hid (show (n:Int) - 1=(n1:Int) by omega)
 have HG1:=Lib.hid (show (g:Int) - 1=(g1:Int) by omega)
 have HN32:=Lib.hid (show IntKind.i64.wrap ((n1:Int)*32)=(n32:Int) by rw [IntKind.wrap_i64];omega)
 have HG32:=Lib.hid (show IntKind.i64.wrap ((g1:Int)*32)=(g32:Int) by rw [IntKind.wrap_i64];omega)
 have HOR0:=Lib.hid (show bits .or .i64 (n32:Int) (cp:Int)=(B0:Int) by rw [hB0];exact zkJ 5 n32 cp (by omega) (by omega) (by omega))
 have HOR1:=Lib.hid (show bits .or .i64 (g32:Int) (t:Int)=(B1:Int) by rw [hB1];exact zkJ 5 g32 t (by omega) (by omega) (by omega))
 have HU0:=Lib.hid (show IntKind.u8.wrap (B0:Int)=(B0:Int) by rw [IntKind.wrap_u8];omega)
 have HU1:=Lib.hid (show IntKind.u8.wrap (B1:Int)=(B1:Int) by rw [IntKind.wrap_u8];omega)
 have HB0l:=Lib.hid (show B0 < 256 by omega)
 have HB1l:=Lib.hid (show B1 < 256 by omega)
 unfold shc at hw1
 unfold shv shc
 clear ht q1 hb1 hcW hcp hhd hn1e hg1e hn32 hg32 hB0 hB1 hW hp
 go_enter Tryz.func193,Tryz.ntmps193
 go_wp2
 rw [←hw1]
 clear hw1
 refine zt 24 [.is (.pointer (some ⟨w.heap.size,1,none⟩)),.is (.int .i64 (W:Int)),.is (.int .i64 (cW:Int)),.is (.pointer (some ⟨w.heap.size,0,none⟩)),.is (.int .i64 (M:Int)),.ownRow w.heap.size hd,.is (.pointer (some ⟨w.heap.size,2,none⟩)),.is (.int .i64 (n:Int)),.is (.int .i64 (n1:Int)),.is (.int .i64 (n32:Int)),.is (.pointer (some ⟨w.heap.size,3,none⟩)),.is (.int .i64 (p:Int)),.is (.int .i64 (cp:Int)),.is (.int .i64 (B0:Int)),.is (.int .u8 (B0:Int)),.is (.pointer (some ⟨w.heap.size,4,none⟩)),.is (.int .i64 (g:Int)),.is (.int .i64 (g1:Int)),.is (.int .i64 (g32:Int)),.is (.pointer (some ⟨w.heap.size,5,none⟩)),.is (.int .i64 (t:Int)),.is (.int .i64 (B1:Int)),.is (.int .u8 (B1:Int)),.bytes ([UInt8.ofNat B0,UInt8.ofNat B1])] [some 3,some 4,some 5,some 6,some 7,some 8,some 9,some 10,some 11,some 12,some 13,some 14,some 15,some 16,some 17,some 18,some 19,some 20,some 21,some 22,some 23,some 24,some 25,some 26] (by kernel_rfl) (by kernel_rfl) (by kernel_rfl) (by kernel_rfl) rfl ⟨?_,?_,?_,?_,?_,?_,?_,?_,?_,?_,?_,?_,?_,?_,?_,?_,?_,?_,?_,?_,?_,?_,?_,?_,trivial⟩ ?_
 ·intro ρ W1 hb1 H
  exact zq rfl (H.old 1 _ (by kernel_rfl) rfl) (fun W=>zk9 W _) ⟨rfl,Below.refl _ _⟩
 ·intro ρ W1 hb1 H
  exact zf rfl (H.new 3 0 (by kernel_rfl)) Tryz.underlying3 rfl ((hb1.cell HLB.out).trans HC1.out) ⟨rfl,Below.refl _ _⟩
 ·intro ρ W1 hb1 H
  have e0:ρ (.tmp 4)=.int .i64 (W:Int):=H.new 4 1 (by kernel_rfl)
  refine zj rfl (fun _ _=>by kernel_rfl) (H.func _) (args:=#[.int .i64 (W:Int)]) (by simp [e0]) ?_
  exact (HCW.out W1 (HT.out.below hb1 HT.out.lt)).mono fun e w' ⟨h1,h2⟩=>⟨_,h1,rfl,h2 ▸ Below.refl _ _⟩
 ·intro ρ W1 hb1 H
  exact zq rfl (H.old 1 _ (by kernel_rfl) rfl) (fun W=>zk8 W _) ⟨rfl,Below.refl _ _⟩
 ·intro ρ W1 hb1 H
  exact zf rfl (H.new 6 3 (by kernel_rfl)) Tryz.underlying3 rfl ((hb1.cell HLB.out).trans HC0.out) ⟨rfl,Below.refl _ _⟩
 ·intro ρ W1 hb1 H
  have e1:ρ (.tmp 5)=.int .i64 (cW:Int):=H.new 5 2 (by kernel_rfl)
  have e2:ρ (.tmp 7)=.int .i64 (M:Int):=H.new 7 4 (by kernel_rfl)
  refine zj rfl (fun _ _=>by kernel_rfl) (H.func _) (args:=#[.int .i64 2,.int .i64 (cW:Int),.int .i64 (M:Int)]) (by simp [H.const,e1,e2]) ?_
  exact (HHD.out W1 (HT.out.below hb1 HT.out.lt)).mono fun e w' ⟨v,h1,h2,h3⟩=>⟨v,h1,zbV (Nat.le_trans HB0.out.size hb1.size) h2,h3⟩
 ·intro ρ W1 hb1 H
  exact zq rfl (H.old 1 _ (by kernel_rfl) rfl) (fun W=>zla W _) ⟨rfl,Below.refl _ _⟩
 ·intro ρ W1 hb1 H
  exact zf rfl (H.new 9 6 (by kernel_rfl)) Tryz.underlying3 rfl ((hb1.cell HLB.out).trans HC2.out) ⟨rfl,Below.refl _ _⟩
 ·intro ρ W1 hb1 H
  exact zdv rfl (H.new 10 7 (by kernel_rfl)) (H.const _) (by omega) (by omega) ⟨congrArg (Value.int .i64) HN1.out,Below.refl _ _⟩
 ·intro ρ W1 hb1 H
  exact zi6 rfl (H.new 11 8 (by kernel_rfl)) (H.const _) HN32.out ⟨rfl,Below.refl _ _⟩
 ·intro ρ W1 hb1 H
  exact zq rfl (H.old 1 _ (by kernel_rfl) rfl) (fun W=>zhR W _) ⟨rfl,Below.refl _ _⟩
 ·intro ρ W1 hb1 H
  exact zf rfl (H.new 13 10 (by kernel_rfl)) Tryz.underlying3 rfl ((hb1.cell HLB.out).trans HC3.out) ⟨rfl,Below.refl _ _⟩
 ·intro ρ W1 hb1 H
  have e0:ρ (.tmp 14)=.int .i64 (p:Int):=H.new 14 11 (by kernel_rfl)
  refine zj rfl (fun _ _=>by kernel_rfl) (H.func _) (args:=#[.int .i64 (p:Int)]) (by simp [e0]) ?_
  exact (HCD.out W1 (HT.out.below hb1 HT.out.lt)).mono fun e w' ⟨h1,h2⟩=>⟨_,h1,rfl,h2 ▸ Below.refl _ _⟩
 ·intro ρ W1 hb1 H
  exact zlc rfl (H.new 12 9 (by kernel_rfl)) (H.new 15 12 (by kernel_rfl)) HOR0.out ⟨rfl,Below.refl _ _⟩
 ·intro ρ W1 hb1 H
  exact zcw rfl (H.new 16 13 (by kernel_rfl)) (by kernel_rfl) Tryz.underlying5 HU0.out ⟨rfl,Below.refl _ _⟩
 ·intro ρ W1 hb1 H
  exact zq rfl (H.old 1 _ (by kernel_rfl) rfl) (fun W=>zhS W _) ⟨rfl,Below.refl _ _⟩
 ·intro ρ W1 hb1 H
  exact zf rfl (H.new 18 15 (by kernel_rfl)) Tryz.underlying3 rfl ((hb1.cell HLB.out).trans HC4.out) ⟨rfl,Below.refl _ _⟩
 ·intro ρ W1 hb1 H
  exact zdv rfl (H.new 19 16 (by kernel_rfl)) (H.const _) (by omega) (by omega) ⟨congrArg (Value.int .i64) HG1.out,Below.refl _ _⟩
 ·intro ρ W1 hb1 H
  exact zi6 rfl (H.new 20 17 (by kernel_rfl)) (H.const _) HG32.out ⟨rfl,Below.refl _ _⟩
 ·intro ρ W1 hb1 H
  exact zq rfl (H.old 1 _ (by kernel_rfl) rfl) (fun W=>zlb W _) ⟨rfl,Below.refl _ _⟩
 ·intro ρ W1 hb1 H
  exact zf rfl (H.new 22 19 (by kernel_rfl)) Tryz.underlying3 rfl ((hb1.cell HLB.out).trans HC5.out) ⟨rfl,Below.refl _ _⟩
 ·intro ρ W1 hb1 H
  exact zlc rfl (H.new 21 18 (by kernel_rfl)) (H.new 23 20 (by kernel_rfl)) HOR1.out ⟨rfl,Below.refl _ _⟩
 ·intro ρ W1 hb1 H
  exact zcw rfl (H.new 24 21 (by kernel_rfl)) (by kernel_rfl) Tryz.underlying5 HU1.out ⟨rfl,Below.refl _ _⟩
 ·intro ρ W1 hb1 H
  exact zrS elemB rfl (H.new 17 14 (by kernel_rfl)) (H.new 25 22 (by kernel_rfl)) rfl rfl ⟨two_bytes HB0l.out HB1l.out W1,(Below.refl _ _).alloc (Nat.le_refl _) _⟩
 ·intro vs W1 hb1 hfs
  have f5:W1.ownsRow w.heap.size 5 1 (vs 5) hd.length (hd.map bv):=hfs 5 (by decide)
  have f23:IsB ([UInt8.ofNat B0,UInt8.ofNat B1]) (vs 23) W1:=hfs 23 (by decide)
  clear hfs
  simp only [zr,Nat.zero_add,Nat.reduceAdd,List.drop_succ_cons,List.drop_zero]
  generalize vs 0=z0
  generalize vs 1=z1
  generalize vs 2=z2
  generalize vs 3=z3
  generalize vs 4=z4
  generalize vs 5=z5 at f5 ⊢
  generalize vs 6=z6
  generalize vs 7=z7
  generalize vs 8=z8
  generalize vs 9=z9
  generalize vs 10=z10
  generalize vs 11=z11
  generalize vs 12=z12
  generalize vs 13=z13
  generalize vs 14=z14
  generalize vs 15=z15
  generalize vs 16=z16
  generalize vs 17=z17
  generalize vs 18=z18
  generalize vs 19=z19
  generalize vs 20=z20
  generalize vs 21=z21
  generalize vs 22=z22
  generalize vs 23=z23 at f23 ⊢
  simp only [Act.put,List.setIfInBounds_toArray,List.set_cons_succ,List.set_cons_zero]
  obtain ⟨A5,c5,rfl,hA5,hnc5,hcm5,hl5⟩:=f23
  have HL5:=Lib.hid hl5
  have HO5:=Lib.hid f5
  have HBB:=Lib.hid (HB0.out.trans (hb1.mono HB0.out.size))
  have hz5:=HBB.out.size
  clear hl5 f5 hb1 hcm5
  go_wp2_with (at_builtin;refine zk elemB rfl _ _ rfl w.heap.size z5 hd.length (hd.map bv) A5 2 c5 ([UInt8.ofNat B0,UInt8.ofNat B1].map bv) w rfl rfl hA5 (by simp) HL5.out (zbv _) HO5.out HBB.out hz5 (by have:=HHL.out;omega) (by omega) ?_)
  intro v6 w6 ho6 hb6 _ _
  have HO6:=Lib.hid ho6
  clear ho6
  go_wp2
  go_ret
  refine ⟨_,rfl,?_,hb6⟩
  rw [List.length_append,List.map_append]
  exact HO6.out
theorem ztP {w:World} {g:Nat} {t:TypeId} {cs:List Value} {ad:Addr} {u:Value} (h:Row w g t cs) (hc:w.cell? ad=some u) (hu:u∉cs):ad.block≠g:=by
 intro e
 unfold Row at h
 unfold World.cell? at hc
 rw [e,h] at hc
 dsimp only at hc
 split at hc
 ·cases hc
 ·rw [List.getElem?_toArray] at hc
  exact hu (List.mem_of_getElem? hc)
theorem zlf {w w':World} {k g:Nat} {t:TypeId} {l:List Value} (h:Row w k t l) (hg:w.grownBy w' (some g)) (hne:k≠g):Row w' k t l:=(hg.block k h.lt (by intro e;injection e with e;exact hne e)).trans h
theorem zrT {l:List UInt8} {v:Value} {w w':World} {g:Nat} {t:TypeId} {cs:List Value} (h:IsB l v w) (hr:Row w g t cs) (hcs:∀ b:UInt8,bv b∉cs) (hg:w.grownBy w' (some g)):IsB l v w':=by
 obtain ⟨A,c,rfl,hA,hnc,hcm,hl⟩:=h
 refine ⟨A,c,rfl,hA,hnc,hcm,?_⟩
 rcases hl with h0 | ⟨ad,rfl,hlt,hc⟩
 ·exact .inl h0
 ·cases l with
  | nil=>exact .inl rfl
  | cons x l =>
   have hne:=ztP hr (hc 0 (bv x) rfl) (hcs x)
   rw [add_block] at hne
   refine .inr ⟨ad,rfl,Nat.lt_of_lt_of_le hlt hg.size,fun j u hj=>?_⟩
   have h2:=hc j u hj
   unfold World.cell? at h2 ⊢
   rw [add_block] at h2 ⊢
   rw [hg.block ad.block hlt (by intro e;injection e with e;exact hne e)]
   exact h2
theorem shape_info:∃ i,Tryz.prog.info? 172=some i∧i.zero=some (shv 0 0 0 0 0 0):=by
 have h:(Tryz.prog.info? 172).map (fun i=>i.zero)=some (some (shv 0 0 0 0 0 0)):=by kernel_rfl
 cases hi:Tryz.prog.info? 172 with
 | none=>rw [hi] at h;cases h
 | some i=>rw [hi] at h;injection h with h;exact ⟨i,rfl,h⟩
def Fact.made (B:Nat):Fact:=⟨fun v W=>∃ h,v=.pointer (some ⟨h,0,none⟩)∧B≤h∧Row W h 172 (shc 0 0 0 0 0 0),fun _ _ _ ⟨h,h1,h2,h3⟩ hb=>⟨h,h1,h2,h3.below hb h3.lt⟩⟩
theorem zdJ {P:Program} {w:World} {ops:Array Oper} {rest:List Oper} {o:Oper} {a:Act} {Q:Exit→Act→World→Prop} (hgd:o.guard=none) (t:TypeId) (x y:Operand) (ho:o.op=.store t x y) (g:Nat) (t':TypeId) (old cs:List Value)
  (hx:a.eval x=.pointer (some ⟨g,0,none⟩)) (hy:a.eval y=.agg cs.toArray) (hr:Row w g t' old) (hi:(P.info? t).map (·.size)=some cs.length) (hl:old.length=cs.length) (h1:∀ u∈cs,u.oneCell'=true)
  (h:∀ w',w'=w.setRow g cs.toArray→wpList P ops Q rest (a.put o.dst undef) w'):wpList P ops Q (o::rest) a w:=by
 have hrun:=run_storeVar_row (P:=P) w g t' t old.toArray cs.toArray hr (by simpa using hi) (by simp [hl]) (by simpa using h1)
 refine wpList_plain hgd fun K hK=>?_
 unfold Oper.wp execOp
 simp only [ho,hx,hy,Instr.storeAt,Instr.sureAddr,Sem.run_bind,Sem.run_pure,Result.andThen_ok,hrun]
 exact hK _ _ (h _ rfl)
def zrU (r:Nat) (T:TypeId) (z cs:List Value) (w w':World):Prop:=w.grownBy w' (some r)∧(Row w r T z→Row w' r T z∨Row w' r T cs)∧(Row w r T cs→Row w' r T cs)
theorem zbS (r:Nat) (T:TypeId) (z cs:List Value):Later (zrU r T z cs) where
 refl:=fun _=>⟨⟨rfl,rfl,rfl,Nat.le_refl _,fun _ _ _=>rfl⟩,.inl,id⟩
 trans:=fun ⟨a1,a2,a3⟩ ⟨b1,b2,b3⟩=>⟨zbQ a1 b1,fun h=>(a2 h).elim b2 (fun h=>.inr (b3 h)),fun h=>b3 (a3 h)⟩
 draw:=fun _=>⟨⟨rfl,rfl,rfl,Nat.le_refl _,fun _ _ _=>rfl⟩,.inl,id⟩
theorem zlg {r:Nat} {T:TypeId} {z cs:List Value} {w w':World} (hr:r < w.heap.size) (h:Below w.heap.size w w'):zrU r T z cs w w':=⟨zcf h,fun k=>.inl (k.below h hr),fun k=>k.below h hr⟩
theorem zi9 {r:Nat} {T:TypeId} {z cs old:List Value} {w:World} (h:Row w r T old):zrU r T z cs w (w.setRow r cs.toArray):=
 ⟨⟨rfl,rfl,rfl,by simp [World.setRow],fun k _ hg=>setRow_other w r k _ (fun e=>hg (by rw [e]))⟩,fun _=>.inr (zP h),fun _=>zP h⟩
theorem zvK (m W n p g t:Int) (b:UInt8):bv b∉shc m W n p g t:=by
 intro h
 simp only [shc,List.mem_cons,List.not_mem_nil,or_false] at h
 rcases h with h | h | h | h | h | h <;> cases h
theorem u8_and31 (a:Nat) (h:a < 256):bits .and .u8 (a:Int) 31=((a % 32:Nat):Int):=by
 have h1:=u8_and_nat a 31 h (by omega)
 rw [show ((31:Nat):Int)=(31:Int) from rfl] at h1
 rw [h1,show (31:Nat)=2 ^ 5 - 1 from rfl,Nat.and_two_pow_sub_one_eq_mod]
theorem zu3 (l:List UInt8) (v:Value) (w:World) (hv:IsB l v w) (hb:l.length≤1000000) (h:(zp l).2.2.2.2≠0∨(zp l).1≠2∨(zp l).2.2.2.1.length < 2) :
  Calls Tryz.prog 159 #[v] w fun e w'=>e=.returned (.tuple #[shv 0 0 0 0 0 0,.slice none 0 0,.bool false])∧Below w.heap.size w w':=by
 obtain ⟨w1,hw1⟩:∃ w1,w1=w.alloc (.cells (shc 0 0 0 0 0 0).toArray 172):=⟨_,rfl⟩
 have q1:Row w1 w.heap.size 172 (shc 0 0 0 0 0 0):=by rw [hw1];exact heap_alloc_new w _
 have hb1:Below w.heap.size w w1:=by rw [hw1];exact (Below.refl _ _).alloc (Nat.le_refl _) _
 have HLK:=Lib.hid (zhA l v w1 (hv.below hb1) hb)
 have HB1:=Lib.hid hb1
 have HQ1:=Lib.hid q1
 obtain ⟨K,C,M,r,x,hd⟩:∃ K C M r x,zp l=(K,C,M,r,x):=⟨_,_,_,_,_,rfl⟩
 rw [hd] at HLK h
 dsimp only at h
 obtain ⟨A0,c0,rfl,_⟩:=hv
 unfold shc at hw1
 clear hd q1 hb1
 go_enter Tryz.func159,Tryz.ntmps159
 go_wp2_with fail
 rw [←hw1]
 clear hw1
 refine HLK.out.mono ?_
 rintro e w2 ⟨rv,rfl,hrv,hb2⟩
 obtain ⟨A1,n1,c1,rfl⟩:=IsV.shape (f:=bv) hrv
 have hrl:r.length=n1:=(IsV.parts (f:=bv) hrv).1
 have HB2:=Lib.hid (HB1.out.trans (hb2.mono HB1.out.size))
 have HR2:=Lib.hid (HQ1.out.below hb2 HQ1.out.lt)
 clear hb2 hrv
 have hcase:(x != 0)=true∨((x != 0)=false∧(K != 2)=true)∨((x != 0)=false∧(K != 2)=false∧decide ((n1:Int) < 2)=true):=by
  by_cases h0:x=0
  ·by_cases h1:K=2
   ·exact .inr (.inr ⟨by simpa using h0,by simpa using h1,decide_eq_true (by omega)⟩)
   ·exact .inr (.inl ⟨by simpa using h0,by simpa using h1⟩)
  ·exact .inl (by simpa using h0)
 clear h hrl
 rcases hcase with d0 | ⟨d0,d1⟩ | ⟨d0,d1,d2⟩
 all_goals
  go_wp2_with (refine zbY rfl _ _ _ rfl w.heap.size 0 172 (shc 0 0 0 0 0 0) (shc 0 0 0 0 0 0) (shc 0 0 0 0 0 0) rfl rfl rfl HR2.out zbn (Nat.le_refl _) (zhQ _ _ _ _ _ _) w w.heap.size HB2.out (Nat.le_refl _) ?_)
  intro w3 hr3 hb3 _
  have HR3:=Lib.hid hr3
  have HB3:=Lib.hid hb3
  clear hr3 hb3
  go_wp2
  refine bodyPost_ret (zea rfl _ _ _ 172 (shc 0 0 0 0 0 0).toArray (0,0) _ rfl HR3.out Tryz.underlying172 rfl zbn) rfl ?_
  exact ⟨rfl,HB3.out⟩
def zjR (M W:Int) (n p g t:Nat) (r:List UInt8) (w:World) (e:Ending) (w':World):Prop:=
 ∃ rv,e=.returned (.tuple #[shv M W n p g t,rv,.bool (decide ((g:Int)+(p:Int)≤64))])∧IsB r rv w'∧Below w.heap.size w w'
theorem ztQ (l r:List UInt8) (v:Value) (w:World) (C M:Int) (b0 b1 n g t p:Nat) (ht:WTab w) (hv:IsB l v w) (hb:l.length≤1000000) (hd:zp l=(2,C,M,r,0)) (h2:2≤r.length) (hrb:r.length≤1000000) (hC:inInt C)
  (h0:b0=r[0].toNat) (h1:b1=r[1].toNat) (hn:n=b0 / 32+1) (hg:g=b1 / 32+1) (htt:t=b1 % 32) (hp:wof ((b0 % 32:Nat):Int)=(p:Int)) (hp64:p≤64) :
  Calls Tryz.prog 159 #[v] w (zjR M (wof C) n p g t (r.drop 2) w):=by
 obtain ⟨w1,hw1⟩:∃ w1,w1=w.alloc (.cells (shc 0 0 0 0 0 0).toArray 172):=⟨_,rfl⟩
 have q1:Row w1 w.heap.size 172 (shc 0 0 0 0 0 0):=by rw [hw1];exact heap_alloc_new w _
 have hb1:Below w.heap.size w w1:=by rw [hw1];exact (Below.refl _ _).alloc (Nat.le_refl _) _
 have HLK:=Lib.hid (zhA l v w1 (hv.below hb1) hb)
 rw [hd] at HLK
 have HB1:=Lib.hid hb1
 have HQ1:=Lib.hid q1
 have HT0:=Lib.hid ht
 obtain ⟨A0,c0,rfl,_⟩:=hv
 obtain ⟨W,hW⟩:∃ W,W=wof C:=⟨_,rfl⟩
 have HOC:=Lib.hid (fun X (h:WTab X)=>ziy C X h hC.1 hC.2)
 obtain ⟨q,hq⟩:∃ q,q=b0 % 32:=⟨_,rfl⟩
 have HOP:=Lib.hid (fun X (h:WTab X)=>ziy (q:Int) X h (by omega) (by omega))
 rw [←hW] at HOC ⊢
 rw [←hq] at hp
 rw [hp] at HOP
 have hb08:b0 < 256:=by rw [h0];exact UInt8.toNat_lt _
 have hb18:b1 < 256:=by rw [h1];exact UInt8.toNat_lt _
 obtain ⟨n0,hn0⟩:∃ n0,n0=b0 / 32:=⟨_,rfl⟩
 obtain ⟨g0,hg0⟩:∃ g0,g0=b1 / 32:=⟨_,rfl⟩
 have HS0:=Lib.hid (show (b0:Int) / 32=(n0:Int) by omega)
 have HS1:=Lib.hid (show (b1:Int) / 32=(g0:Int) by omega)
 have HV0:=Lib.hid (show IntKind.i64.wrap (n0:Int)=(n0:Int) by rw [IntKind.wrap_i64];omega)
 have HVG:=Lib.hid (show IntKind.i64.wrap (g0:Int)=(g0:Int) by rw [IntKind.wrap_i64];omega)
 have HVQ:=Lib.hid (show IntKind.i64.wrap (q:Int)=(q:Int) by rw [IntKind.wrap_i64];omega)
 have HVT:=Lib.hid (show IntKind.i64.wrap (t:Int)=(t:Int) by rw [IntKind.wrap_i64];omega)
 have HN:=Lib.hid (show (n0:Int)+1=(n:Int) by omega)
 have HG:=Lib.hid (show (g0:Int)+1=(g:Int) by omega)
 have HA0:=Lib.hid (show bits .and .u8 (b0:Int) 31=(q:Int) by rw [u8_and31 b0 hb08,hq])
 have HA1:=Lib.hid (show bits .and .u8 (b1:Int) 31=(t:Int) by rw [u8_and31 b1 hb18,htt])
 have hn08:n0≤8:=by omega
 have hg08:g0≤8:=by omega
 have HRM:=Lib.hid (fun X=>zk5 M W (n:Int) (p:Int) (g:Int) (t:Int) X ⟨by omega,by omega⟩ ⟨by omega,by omega⟩)
 obtain ⟨d,hdd⟩:∃ d,d=decide ((g:Int)+(p:Int)≤64):=⟨_,rfl⟩
 rw [←hdd] at HRM
 unfold zjR
 rw [←hdd]
 unfold shc at hw1
 have HH0:=Lib.hid h0
 have HH1:=Lib.hid h1
 clear hd q1 hb1 ht hW hq hn hg htt hp hn0 hg0 hdd hC h0 h1 hb08 hb18
 go_enter Tryz.func159,Tryz.ntmps159
 go_wp2_with fail
 rw [←hw1]
 clear hw1
 refine HLK.out.mono ?_
 rintro e w2 ⟨rv,rfl,hrv,hb2⟩
 have hrv':IsB r rv w2:=hrv
 clear hrv
 have hrv:=isB_iff.1 hrv'
 obtain ⟨A1,n1,c1,rfl⟩:=hrv.shape
 obtain ⟨hrl,hA1,hnc1,hcm1,hlie1⟩:=hrv.parts
 have HB2:=Lib.hid (HB1.out.trans (hb2.mono HB1.out.size))
 have HRZ0:=Lib.hid (HQ1.out.below hb2 HQ1.out.lt)
 have HT:=Lib.hid (HT0.out.below HB2.out HT0.out.lt)
 obtain ⟨ad,rfl,had0,hc0⟩:=hrv.at (k:=0) (by omega)
 obtain ⟨ad',had',had1,hc1⟩:=hrv.at (k:=1) (by omega)
 injection had' with had'
 subst had'
 have HCB0:=Lib.hid (show w2.cell? (ad.add 0)=some (.int .u8 (b0:Int)) by rw [hc0,HH0.out];rfl)
 have HCB1:=Lib.hid (show w2.cell? (ad.add 1)=some (.int .u8 (b1:Int)) by rw [hc1,HH1.out];rfl)
 have HLA0:=Lib.hid (show (ad.add 0).block < w2.heap.size by rw [add_block];exact had0)
 have HLA1:=Lib.hid (show (ad.add 1).block < w2.heap.size by rw [add_block];exact had0)
 obtain ⟨v3,hv3,hI3⟩:=zbm (P:=Tryz.prog) elemB (k:=2) (by omega) hnc1 hcm1 hrl hlie1 hA1
 rw [show ((2:Nat):Int)=2 from rfl] at hv3
 have HV3:=Lib.hid hv3
 have HI2:=Lib.hid hI3
 have h0n:0 < n1:=by omega
 have h1n:1 < n1:=by omega
 have hn2:decide ((n1:Int) < 2)=false:=decide_eq_false (by omega)
 clear hb2 hrv hrv' hc0 hc1 hv3 hI3 hlie1 hrl hA1 hcm1 had0 had1
 ·go_wp2
  refine zt 28 [.is (.int .i64 M),.is (.int .i64 C),.is (.int .i64 W),.is (.slice (some ad) n1 c1),.is (.pointer (some (ad.add 0))),.is (.int .u8 (b0:Int)),.is (.int .u8 (n0:Int)),.is (.int .i64 (n0:Int)),.is (.int .i64 (n:Int)),.is (.slice (some ad) n1 c1),.is (.pointer (some (ad.add 0))),.is (.int .u8 (b0:Int)),.is (.int .u8 (q:Int)),.is (.int .i64 (q:Int)),.is (.int .i64 (p:Int)),.is (.slice (some ad) n1 c1),.is (.pointer (some (ad.add 1))),.is (.int .u8 (b1:Int)),.is (.int .u8 (g0:Int)),.is (.int .i64 (g0:Int)),.is (.int .i64 (g:Int)),.is (.slice (some ad) n1 c1),.is (.pointer (some (ad.add 1))),.is (.int .u8 (b1:Int)),.is (.int .u8 (t:Int)),.is (.int .i64 (t:Int)),.is (shv M W n p g t),.made w2.heap.size] [some 31,some 32,some 33,some 34,some 35,some 36,some 37,some 38,some 39,some 40,some 41,some 42,some 43,some 44,some 45,some 46,some 47,some 48,some 49,some 50,some 51,some 52,some 53,some 54,some 55,some 56,some 57,some 10] (by kernel_rfl) (by kernel_rfl) (by kernel_rfl) (by kernel_rfl) rfl ⟨?_,?_,?_,?_,?_,?_,?_,?_,?_,?_,?_,?_,?_,?_,?_,?_,?_,?_,?_,?_,?_,?_,?_,?_,?_,?_,?_,?_,trivial⟩ ?_
  ·intro ρ W1 hb1 H
   exact zd rfl (H.old 7 _ (by kernel_rfl) rfl) ⟨rfl,Below.refl _ _⟩
  ·intro ρ W1 hb1 H
   exact zd rfl (H.old 6 _ (by kernel_rfl) rfl) ⟨rfl,Below.refl _ _⟩
  ·intro ρ W1 hb1 H
   have e0:ρ (.tmp 32)=.int .i64 C:=H.new 32 1 (by kernel_rfl)
   refine zj rfl (fun _ _=>by kernel_rfl) (H.func _) (args:=#[.int .i64 C]) (by simp [e0]) ?_
   exact (HOC.out W1 (HT.out.below hb1 HT.out.lt)).mono fun e w' ⟨h1,h2⟩=>⟨_,h1,rfl,h2 ▸ Below.refl _ _⟩
  ·intro ρ W1 hb1 H
   exact zd rfl (H.old 8 _ (by kernel_rfl) rfl) ⟨rfl,Below.refl _ _⟩
  ·intro ρ W1 hb1 H
   exact zw (k:=0) elemB rfl (H.new 34 3 (by kernel_rfl)) (H.const _) (h0n) ⟨rfl,Below.refl _ _⟩
  ·intro ρ W1 hb1 H
   exact zf rfl (H.new 35 4 (by kernel_rfl)) Tryz.underlying5 rfl ((hb1.cell HLA0.out).trans HCB0.out) ⟨rfl,Below.refl _ _⟩
  ·intro ρ W1 hb1 H
   exact zi7 rfl (H.new 36 5 (by kernel_rfl)) (H.const _) HS0.out ⟨rfl,Below.refl _ _⟩
  ·intro ρ W1 hb1 H
   exact zcw rfl (H.new 37 6 (by kernel_rfl)) (by kernel_rfl) Tryz.underlying3 HV0.out ⟨rfl,Below.refl _ _⟩
  ·intro ρ W1 hb1 H
   exact zb4 rfl (H.new 38 7 (by kernel_rfl)) (H.const _) (by omega) (by omega) ⟨congrArg (Value.int .i64) HN.out,Below.refl _ _⟩
  ·intro ρ W1 hb1 H
   exact zd rfl (H.old 8 _ (by kernel_rfl) rfl) ⟨rfl,Below.refl _ _⟩
  ·intro ρ W1 hb1 H
   exact zw (k:=0) elemB rfl (H.new 40 9 (by kernel_rfl)) (H.const _) (h0n) ⟨rfl,Below.refl _ _⟩
  ·intro ρ W1 hb1 H
   exact zf rfl (H.new 41 10 (by kernel_rfl)) Tryz.underlying5 rfl ((hb1.cell HLA0.out).trans HCB0.out) ⟨rfl,Below.refl _ _⟩
  ·intro ρ W1 hb1 H
   exact zi8 rfl (H.new 42 11 (by kernel_rfl)) (H.const _) HA0.out ⟨rfl,Below.refl _ _⟩
  ·intro ρ W1 hb1 H
   exact zcw rfl (H.new 43 12 (by kernel_rfl)) (by kernel_rfl) Tryz.underlying3 HVQ.out ⟨rfl,Below.refl _ _⟩
  ·intro ρ W1 hb1 H
   have e0:ρ (.tmp 44)=.int .i64 (q:Int):=H.new 44 13 (by kernel_rfl)
   refine zj rfl (fun _ _=>by kernel_rfl) (H.func _) (args:=#[.int .i64 (q:Int)]) (by simp [e0]) ?_
   exact (HOP.out W1 (HT.out.below hb1 HT.out.lt)).mono fun e w' ⟨h1,h2⟩=>⟨_,h1,rfl,h2 ▸ Below.refl _ _⟩
  ·intro ρ W1 hb1 H
   exact zd rfl (H.old 8 _ (by kernel_rfl) rfl) ⟨rfl,Below.refl _ _⟩
  ·intro ρ W1 hb1 H
   exact zw (k:=1) elemB rfl (H.new 46 15 (by kernel_rfl)) (H.const _) (h1n) ⟨rfl,Below.refl _ _⟩
  ·intro ρ W1 hb1 H
   exact zf rfl (H.new 47 16 (by kernel_rfl)) Tryz.underlying5 rfl ((hb1.cell HLA1.out).trans HCB1.out) ⟨rfl,Below.refl _ _⟩
  ·intro ρ W1 hb1 H
   exact zi7 rfl (H.new 48 17 (by kernel_rfl)) (H.const _) HS1.out ⟨rfl,Below.refl _ _⟩
  ·intro ρ W1 hb1 H
   exact zcw rfl (H.new 49 18 (by kernel_rfl)) (by kernel_rfl) Tryz.underlying3 HVG.out ⟨rfl,Below.refl _ _⟩
  ·intro ρ W1 hb1 H
   exact zb4 rfl (H.new 50 19 (by kernel_rfl)) (H.const _) (by omega) (by omega) ⟨congrArg (Value.int .i64) HG.out,Below.refl _ _⟩
  ·intro ρ W1 hb1 H
   exact zd rfl (H.old 8 _ (by kernel_rfl) rfl) ⟨rfl,Below.refl _ _⟩
  ·intro ρ W1 hb1 H
   exact zw (k:=1) elemB rfl (H.new 52 21 (by kernel_rfl)) (H.const _) (h1n) ⟨rfl,Below.refl _ _⟩
  ·intro ρ W1 hb1 H
   exact zf rfl (H.new 53 22 (by kernel_rfl)) Tryz.underlying5 rfl ((hb1.cell HLA1.out).trans HCB1.out) ⟨rfl,Below.refl _ _⟩
  ·intro ρ W1 hb1 H
   exact zi8 rfl (H.new 54 23 (by kernel_rfl)) (H.const _) HA1.out ⟨rfl,Below.refl _ _⟩
  ·intro ρ W1 hb1 H
   exact zcw rfl (H.new 55 24 (by kernel_rfl)) (by kernel_rfl) Tryz.underlying3 HVT.out ⟨rfl,Below.refl _ _⟩
  ·intro ρ W1 hb1 H
   exact zhT rfl (H.new 31 0 (by kernel_rfl)) (H.new 33 2 (by kernel_rfl)) (H.new 39 8 (by kernel_rfl)) (H.new 45 14 (by kernel_rfl)) (H.new 51 20 (by kernel_rfl)) (H.new 56 25 (by kernel_rfl)) ⟨rfl,Below.refl _ _⟩
  ·intro ρ W1 hb1 H
   exact zfb shape_info.choose_spec.1 shape_info.choose_spec.2 rfl ⟨⟨_,rfl,hb1.size,heap_alloc_new W1 _⟩,(Below.refl _ _).alloc (Nat.le_refl _) _⟩
  ·intro vs W1 hb1 hfs
   have f0:vs 0=.int .i64 M:=hfs 0 (by decide)
   have f1:vs 1=.int .i64 C:=hfs 1 (by decide)
   have f2:vs 2=.int .i64 W:=hfs 2 (by decide)
   have f3:vs 3=.slice (some ad) n1 c1:=hfs 3 (by decide)
   have f4:vs 4=.pointer (some (ad.add 0)):=hfs 4 (by decide)
   have f5:vs 5=.int .u8 (b0:Int):=hfs 5 (by decide)
   have f6:vs 6=.int .u8 (n0:Int):=hfs 6 (by decide)
   have f7:vs 7=.int .i64 (n0:Int):=hfs 7 (by decide)
   have f8:vs 8=.int .i64 (n:Int):=hfs 8 (by decide)
   have f9:vs 9=.slice (some ad) n1 c1:=hfs 9 (by decide)
   have f10:vs 10=.pointer (some (ad.add 0)):=hfs 10 (by decide)
   have f11:vs 11=.int .u8 (b0:Int):=hfs 11 (by decide)
   have f12:vs 12=.int .u8 (q:Int):=hfs 12 (by decide)
   have f13:vs 13=.int .i64 (q:Int):=hfs 13 (by decide)
   have f14:vs 14=.int .i64 (p:Int):=hfs 14 (by decide)
   have f15:vs 15=.slice (some ad) n1 c1:=hfs 15 (by decide)
   have f16:vs 16=.pointer (some (ad.add 1)):=hfs 16 (by decide)
   have f17:vs 17=.int .u8 (b1:Int):=hfs 17 (by decide)
   have f18:vs 18=.int .u8 (g0:Int):=hfs 18 (by decide)
   have f19:vs 19=.int .i64 (g0:Int):=hfs 19 (by decide)
   have f20:vs 20=.int .i64 (g:Int):=hfs 20 (by decide)
   have f21:vs 21=.slice (some ad) n1 c1:=hfs 21 (by decide)
   have f22:vs 22=.pointer (some (ad.add 1)):=hfs 22 (by decide)
   have f23:vs 23=.int .u8 (b1:Int):=hfs 23 (by decide)
   have f24:vs 24=.int .u8 (t:Int):=hfs 24 (by decide)
   have f25:vs 25=.int .i64 (t:Int):=hfs 25 (by decide)
   have f26:vs 26=shv M W n p g t:=hfs 26 (by decide)
   have f27:∃ h,vs 27=.pointer (some ⟨h,0,none⟩)∧w2.heap.size≤h∧Row W1 h 172 (shc 0 0 0 0 0 0):=hfs 27 (by decide)
   clear hfs
   simp only [zr,Nat.zero_add,Nat.reduceAdd,List.drop_succ_cons,List.drop_zero]
   generalize vs 27=z27 at f27 ⊢
   simp only [f0,f1,f2,f3,f4,f5,f6,f7,f8,f9,f10,f11,f12,f13,f14,f15,f16,f17,f18,f19,f20,f21,f22,f23,f24,f25,f26,Act.put,List.setIfInBounds_toArray,List.set_cons_succ,List.set_cons_zero]
   clear f0 f1 f2 f3 f4 f5 f6 f7 f8 f9 f10 f11 f12 f13 f14 f15 f16 f17 f18 f19 f20 f21 f22 f23 f24 f25 f26
   obtain ⟨h,f27,hBh,hrow⟩:=f27
   subst f27
   have hne:w.heap.size≠h:=by have:=HB2.out.size;have:=HRZ0.out.lt;omega
   have hrz:=HRZ0.out.below hb1 HRZ0.out.lt
   refine zdJ rfl _ _ _ rfl h 172 (shc 0 0 0 0 0 0) (shc M W n p g t) rfl rfl hrow zbn rfl (zhQ _ _ _ _ _ _) ?_
   intro w3 hw3
   have HRH:Hid (Row w3 h 172 (shc M W n p g t)):=Lib.hid (by rw [hw3];exact zP hrow)
   have HB23:=Lib.hid (show Below w2.heap.size w2 w3 by rw [hw3];exact below_setRow hb1 hBh _)
   have HB3:=Lib.hid (HB2.out.trans (HB23.out.mono HB2.out.size))
   have HI3:=Lib.hid (HI2.out.below HB23.out)
   have HRZ:Hid (Row w3 w.heap.size 172 (shc 0 0 0 0 0 0)):=Lib.hid (by rw [hw3];exact zf5 hne hrz)
   clear hrz hrow hw3 hb1
   go_wp2
   refine zcn (zbS w.heap.size 172 (shc 0 0 0 0 0 0) (shc M W n p g t)) [.is (shv M W n p g t),.is (.slice (some ad) n1 c1),.is v3,.is (shv M W n p g t),.is (.bool d),.of (fun _ X=>Row X w.heap.size 172 (shc M W n p g t)) (fun _ _ _ h hk=>hk.2.2 h),.is v3,.is (.bool d)]
    [some 58,some 59,some 60,some 61,some 62,none,some 3,some 4] (by kernel_rfl) (by kernel_rfl) (by kernel_rfl) (by kernel_rfl) rfl ⟨?_,?_,?_,?_,?_,?_,?_,?_,trivial⟩ ?_
   ·intro ρ vs W1 hb1 H
    exact zL (cs:=shc M W n p g t) rfl (H.old 10 _ (by kernel_rfl) rfl) Tryz.underlying172 rfl zbn (zlf HRH.out hb1.1 (Ne.symm hne)) ⟨zJ _ _ _,(zbS _ _ _ _).refl _⟩
   ·intro ρ vs W1 hb1 H
    exact zd rfl (H.old 8 _ (by kernel_rfl) rfl) ⟨zJ _ _ _,(zbS _ _ _ _).refl _⟩
   ·intro ρ vs W1 hb1 H
    have e1:ρ (.tmp 59)=.slice (some ad) n1 c1:=H.holds 59 1 (by kernel_rfl)
    exact zI rfl e1 rfl rfl rfl (by simpa [H.const] using HV3.out W1) ⟨zJ _ _ _,(zbS _ _ _ _).refl _⟩
   ·intro ρ vs W1 hb1 H
    exact zL (cs:=shc M W n p g t) rfl (H.old 10 _ (by kernel_rfl) rfl) Tryz.underlying172 rfl zbn (zlf HRH.out hb1.1 (Ne.symm hne)) ⟨zJ _ _ _,(zbS _ _ _ _).refl _⟩
   ·intro ρ vs W1 hb1 H
    have e0:ρ (.tmp 61)=shv M W n p g t:=H.holds 61 3 (by kernel_rfl)
    refine zj rfl (fun _ _=>by kernel_rfl) (H.func _) (args:=#[shv M W n p g t]) (by simp [e0]) ?_
    exact (HRM.out W1).mono fun e w' ⟨h1,h2⟩=>⟨_,h1,zJ _ _ _,zlg (Nat.lt_of_lt_of_le HRZ.out.lt hb1.1.size) h2⟩
   ·intro ρ vs W1 hb1 H
    rcases hb1.2.1 HRZ.out with h5 | h5
    ·exact zc3 rfl (H.old 2 _ (by kernel_rfl) rfl) (H.holds 58 0 (by kernel_rfl)) h5 zbn rfl (zhQ _ _ _ _ _ _) ⟨zP h5,zi9 h5⟩
    ·exact zc3 rfl (H.old 2 _ (by kernel_rfl) rfl) (H.holds 58 0 (by kernel_rfl)) h5 zbn rfl (zhQ _ _ _ _ _ _) ⟨zP h5,zi9 h5⟩
   ·intro ρ vs W1 hb1 H
    exact ze rfl (H.holds 60 2 (by kernel_rfl)) ⟨zJ _ _ _,(zbS _ _ _ _).refl _⟩
   ·intro ρ vs W1 hb1 H
    exact ze rfl (H.holds 62 4 (by kernel_rfl)) ⟨zJ _ _ _,(zbS _ _ _ _).refl _⟩
   ·intro vs W1 hb1 hfs
    have f5:Row W1 w.heap.size 172 (shc M W n p g t):=hfs 5 (by decide)
    have f6:vs 6=v3:=hfs 6 (by decide)
    have f7:vs 7=.bool d:=hfs 7 (by decide)
    clear hfs
    simp only [zr,Nat.zero_add,Nat.reduceAdd]
    generalize vs 0=z0
    generalize vs 1=z1
    generalize vs 2=z2
    generalize vs 3=z3
    generalize vs 4=z4
    generalize vs 5=z5
    simp only [f6,f7,Act.put,List.setIfInBounds_toArray,List.set_cons_succ,List.set_cons_zero]
    clear f6 f7
    have HR6:=Lib.hid f5
    have HB6:=Lib.hid (zbR HB3.out hb1.1 (Nat.le_refl _) HB3.out.size)
    have HI6:=Lib.hid (zrT HI3.out HRZ.out (zvK _ _ _ _ _ _) hb1.1)
    clear f5 hb1
    go_wp2
    refine bodyPost_ret (zea rfl _ _ _ 172 (shc M W n p g t).toArray (0,0) _ rfl HR6.out Tryz.underlying172 rfl zbn) rfl ?_
    exact ⟨_,rfl,HI6.out,HB6.out⟩
end Go.Proofs.YtlibofmpnlfelaaGreatDoor
