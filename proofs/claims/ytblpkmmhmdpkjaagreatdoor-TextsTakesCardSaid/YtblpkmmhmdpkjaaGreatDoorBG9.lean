import Derived.Laws.Tables
import Derived.Test.YtblpkmmhmdpkjaaGreatDoorBG8
set_option maxHeartbeats 8000000
set_option maxRecDepth 100000
namespace Go.Proofs.YtblpkmmhmdpkjaaGreatDoor
open Go.RowKit
theorem zlL (m W n:Int) (vg vp:Value) (ps:List (Nat × Nat)) (w:World) (ht:WTab w) (hvg:IsV uv (ps.map (·.1)) vg w) (hvp:IsV uv (ps.map (·.2)) vp w) (h1:∀ q∈ps,q.1 < 2 ^ 64) (h2:∀ q∈ps,q.2 < 2 ^ 64) (hb:ps.length≤1000000) :
  Calls Tryz.prog 190 #[.int .i64 m,.int .i64 W,.int .i64 n,zeC vg vp] w fun e w'=>e=.returned (shv m W n (zi (zbS (ps.map (·.2)):Int)) (pgw ps:Int) (ps.length:Int))∧Below w.heap.size w w':=by
 obtain ⟨Ag,ng,cg,rfl⟩:=hvg.shape
 obtain ⟨Ap,np,cp,rfl⟩:=hvp.shape
 have hng:ps.length=ng:=by rw [←hvg.parts.1,List.length_map]
 obtain ⟨w1,hw1⟩:∃ w1,w1=w.alloc (.cells #[.slice Ag ng cg,.slice Ap np cp] 209):=⟨_,rfl⟩
 have q1:Row w1 w.heap.size 209 [.slice Ag ng cg,.slice Ap np cp]:=by rw [hw1];exact heap_alloc_new w _
 have z1:w1.heap.size=w.heap.size+1:=by rw [hw1];simp
 obtain ⟨w2,hw2⟩:∃ w2,w2=w1.alloc (.cells (shc 0 0 0 0 0 0).toArray 181):=⟨_,rfl⟩
 have hb1:Below w.heap.size w w1:=by rw [hw1];exact (Below.refl _ _).alloc (Nat.le_refl _) _
 have hb2:Below w.heap.size w w2:=by rw [hw2];exact hb1.alloc hb1.size _
 have q2:Row w2 w.heap.size 209 [.slice Ag ng cg,.slice Ap np cp]:=by rw [hw2];exact q1.alloc _
 have HRZ:=Lib.hid (show Row w2 (w.heap.size+1) 181 (shc 0 0 0 0 0 0) by rw [hw2,←z1];exact heap_alloc_new w1 _)
 have HB0:=Lib.hid hb2
 have HLB:=Lib.hid q2.lt
 have HCG:=Lib.hid (show w2.cell? ⟨w.heap.size,0,none⟩=some (.slice Ag ng cg) from q2.cell 0)
 have HCP:=Lib.hid (show w2.cell? ⟨w.heap.size,1,none⟩=some (.slice Ap np cp) from q2.cell 1)
 have HVG:=Lib.hid (hvg.below hb2)
 have HVP:=Lib.hid (hvp.below hb2)
 have HT:=Lib.hid (ht.below hb2 ht.lt)
 have HMG:=Lib.hid (fun X (h:IsV uv (ps.map (·.1)) (.slice Ag ng cg) X)=>zlu h (by rw [List.length_map];exact hb) (fun x hx=>by obtain ⟨q,hq,rfl⟩:=List.mem_map.1 hx;exact h1 q hq))
 have HMP:=Lib.hid (fun X (h:IsV uv (ps.map (·.2)) (.slice Ap np cp) X)=>zlu h (by rw [List.length_map];exact hb) (fun x hx=>by obtain ⟨q,hq,rfl⟩:=List.mem_map.1 hx;exact h2 q hq))
 obtain ⟨mp,hmp⟩:∃ mp,mp=zbS (ps.map (·.2)):=⟨_,rfl⟩
 obtain ⟨mg,hmg⟩:∃ mg,mg=zbS (ps.map (·.1)):=⟨_,rfl⟩
 obtain ⟨P,hP⟩:∃ P,P=zi (mp:Int):=⟨_,rfl⟩
 obtain ⟨G,hG⟩:∃ G,G=(pgw ps:Int):=⟨_,rfl⟩
 have HMX:=Lib.hid (show max 1 (mg:Int)=G by rw [hG,hmg];unfold pgw;omega)
 have HCL:=Lib.hid (fun X (h:WTab X)=>zdB (mp:Int) X h)
 rw [←hmp] at HMP ⊢
 rw [←hmg] at HMG
 rw [←hP] at HCL ⊢
 rw [←hG,hng]
 unfold zeC
 clear ht hvg hvp h1 h2 hb hng q1 q2 z1 hb1 hb2 hmp hmg hP hG
 unfold shc at hw2
 go_enter Tryz.func190,Tryz.ntmps190
 go_wp2
 rw [←hw1,←hw2]
 clear hw1 hw2
 refine zB 15 [.is (.int .i64 m),.is (.int .i64 W),.is (.int .i64 n),.is (.pointer (some ⟨w.heap.size,1,none⟩)),.is (.slice Ap np cp),.is (.int .i64 (mp:Int)),.is (.int .i64 P),.is (.pointer (some ⟨w.heap.size,0,none⟩)),.is (.slice Ag ng cg),.is (.int .i64 (mg:Int)),.is (.int .i64 G),.is (.pointer (some ⟨w.heap.size,0,none⟩)),.is (.slice Ag ng cg),.is (.int .i64 (ng:Int)),.is (shv m W n P G (ng:Int))] [some 9,some 10,some 11,some 12,some 13,some 14,some 15,some 16,some 17,some 18,some 19,some 20,some 21,some 22,some 23] (by kernel_rfl) (by kernel_rfl) (by kernel_rfl) (by kernel_rfl) rfl ⟨?_,?_,?_,?_,?_,?_,?_,?_,?_,?_,?_,?_,?_,?_,?_,trivial⟩ ?_
 ·intro ρ W1 hb1 H
  exact zd rfl (H.old 0 _ (by kernel_rfl) rfl) ⟨rfl,Below.refl _ _⟩
 ·intro ρ W1 hb1 H
  exact zd rfl (H.old 1 _ (by kernel_rfl) rfl) ⟨rfl,Below.refl _ _⟩
 ·intro ρ W1 hb1 H
  exact zd rfl (H.old 2 _ (by kernel_rfl) rfl) ⟨rfl,Below.refl _ _⟩
 ·intro ρ W1 hb1 H
  exact zj rfl (H.old 7 _ (by kernel_rfl) rfl) (fun W=>zkq W _) ⟨rfl,Below.refl _ _⟩
 ·intro ρ W1 hb1 H
  exact ze rfl (H.new 12 3 (by kernel_rfl)) Tryz.underlying75 rfl ((hb1.cell HLB.out).trans HCP.out) ⟨rfl,Below.refl _ _⟩
 ·intro ρ W1 hb1 H
  have e0:ρ (.tmp 13)=.slice Ap np cp:=H.new 13 4 (by kernel_rfl)
  refine zk rfl (fun _ _=>by kernel_rfl) (H.func _) (args:=#[.slice Ap np cp]) (by simp [e0]) ?_
  exact (HMP.out W1 (HVP.out.below hb1)).mono fun e w' ⟨h1,h2⟩=>⟨_,h1,rfl,h2 ▸ Below.refl _ _⟩
 ·intro ρ W1 hb1 H
  have e0:ρ (.tmp 14)=.int .i64 (mp:Int):=H.new 14 5 (by kernel_rfl)
  refine zk rfl (fun _ _=>by kernel_rfl) (H.func _) (args:=#[.int .i64 (mp:Int)]) (by simp [e0]) ?_
  exact (HCL.out W1 (HT.out.below hb1 HT.out.lt)).mono fun e w' ⟨h1,h2⟩=>⟨_,h1,rfl,h2 ▸ Below.refl _ _⟩
 ·intro ρ W1 hb1 H
  exact zj rfl (H.old 7 _ (by kernel_rfl) rfl) (fun W=>zkp W _) ⟨rfl,Below.refl _ _⟩
 ·intro ρ W1 hb1 H
  exact ze rfl (H.new 16 7 (by kernel_rfl)) Tryz.underlying75 rfl ((hb1.cell HLB.out).trans HCG.out) ⟨rfl,Below.refl _ _⟩
 ·intro ρ W1 hb1 H
  have e0:ρ (.tmp 17)=.slice Ag ng cg:=H.new 17 8 (by kernel_rfl)
  refine zk rfl (fun _ _=>by kernel_rfl) (H.func _) (args:=#[.slice Ag ng cg]) (by simp [e0]) ?_
  exact (HMG.out W1 (HVG.out.below hb1)).mono fun e w' ⟨h1,h2⟩=>⟨_,h1,rfl,h2 ▸ Below.refl _ _⟩
 ·intro ρ W1 hb1 H
  exact zpP rfl (H.const _) (H.new 18 9 (by kernel_rfl)) HMX.out ⟨rfl,Below.refl _ _⟩
 ·intro ρ W1 hb1 H
  exact zj rfl (H.old 7 _ (by kernel_rfl) rfl) (fun W=>zkp W _) ⟨rfl,Below.refl _ _⟩
 ·intro ρ W1 hb1 H
  exact ze rfl (H.new 20 11 (by kernel_rfl)) Tryz.underlying75 rfl ((hb1.cell HLB.out).trans HCG.out) ⟨rfl,Below.refl _ _⟩
 ·intro ρ W1 hb1 H
  exact zbF elemU.under rfl (H.new 21 12 (by kernel_rfl)) ⟨rfl,Below.refl _ _⟩
 ·intro ρ W1 hb1 H
  exact zhi rfl (H.new 9 0 (by kernel_rfl)) (H.new 10 1 (by kernel_rfl)) (H.new 11 2 (by kernel_rfl)) (H.new 15 6 (by kernel_rfl)) (H.new 19 10 (by kernel_rfl)) (H.new 22 13 (by kernel_rfl)) ⟨rfl,Below.refl _ _⟩
 ·intro vs W1 hb1 hfs
  have f0:vs 0=.int .i64 m:=hfs 0 (by decide)
  have f1:vs 1=.int .i64 W:=hfs 1 (by decide)
  have f2:vs 2=.int .i64 n:=hfs 2 (by decide)
  have f3:vs 3=.pointer (some ⟨w.heap.size,1,none⟩):=hfs 3 (by decide)
  have f4:vs 4=.slice Ap np cp:=hfs 4 (by decide)
  have f5:vs 5=.int .i64 (mp:Int):=hfs 5 (by decide)
  have f6:vs 6=.int .i64 P:=hfs 6 (by decide)
  have f7:vs 7=.pointer (some ⟨w.heap.size,0,none⟩):=hfs 7 (by decide)
  have f8:vs 8=.slice Ag ng cg:=hfs 8 (by decide)
  have f9:vs 9=.int .i64 (mg:Int):=hfs 9 (by decide)
  have f10:vs 10=.int .i64 G:=hfs 10 (by decide)
  have f11:vs 11=.pointer (some ⟨w.heap.size,0,none⟩):=hfs 11 (by decide)
  have f12:vs 12=.slice Ag ng cg:=hfs 12 (by decide)
  have f13:vs 13=.int .i64 (ng:Int):=hfs 13 (by decide)
  have f14:vs 14=shv m W n P G (ng:Int):=hfs 14 (by decide)
  clear hfs
  simp only [zr,Nat.zero_add,Nat.reduceAdd,List.drop_succ_cons,List.drop_zero]
  simp only [f0,f1,f2,f3,f4,f5,f6,f7,f8,f9,f10,f11,f12,f13,f14,Act.put,List.setIfInBounds_toArray,List.set_cons_succ,List.set_cons_zero]
  clear f0 f1 f2 f3 f4 f5 f6 f7 f8 f9 f10 f11 f12 f13 f14
  have HR1:=Lib.hid (HRZ.out.below hb1 HRZ.out.lt)
  have HB1:=Lib.hid hb1
  clear hb1
  refine zdI rfl _ _ _ rfl (w.heap.size+1) 0 181 (shc 0 0 0 0 0 0) (shc m W n P G (ng:Int)) (shc m W n P G (ng:Int)) rfl rfl rfl HR1.out zbk (Nat.le_refl _) (zhf _ _ _ _ _ _) w w.heap.size (HB0.out.trans (HB1.out.mono HB0.out.size)) (Nat.le_succ _) ?_
  intro w2 hr2 hb2 _
  go_wp2
  refine zih rfl rfl hr2 Tryz.underlying181 rfl zbk rfl ?_
  exact ⟨rfl,hb2⟩
def ztn (T:List Nat) (g b n:Nat) (vg vp:Value) (w:World) (i:Value) (wr:World):Prop:=∃ (k:Nat) (acc:List Nat),k≤n∧i=.int .i64 (k:Int)∧acc=T.take k∧Row wr g 101 (acc.map uv ++ List.replicate (n - k) (uv 0))∧Row wr b 209 [vg,vp]∧Below w.heap.size w wr
theorem znZ (vg vp:Value) (ps:List (Nat × Nat)) (p:Nat) (w:World) (hvg:IsV uv (ps.map (·.1)) vg w) (hvp:IsV uv (ps.map (·.2)) vp w) (h1:∀ q∈ps,q.1*2 ^ p < 2 ^ 64) (h2:∀ q∈ps,q.2 < 2 ^ p) (hp64:p≤64) (hb:ps.length≤1000000) :
  Calls Tryz.prog 192 #[zeC vg vp,.int .i64 (p:Int)] w fun e w'=>∃ v,e=.returned v∧IsV uv (zcm ps p) v w'∧Below w.heap.size w w':=by
 obtain ⟨Ag,n,cg,rfl⟩:=hvg.shape
 obtain ⟨Ap,np,cp,rfl⟩:=hvp.shape
 have hng:ps.length=n:=by rw [←hvg.parts.1,List.length_map]
 obtain rfl:np=n:=by rw [←hng,←hvp.parts.1,List.length_map]
 obtain ⟨b,hbz⟩:∃ b,b=w.heap.size:=⟨_,rfl⟩
 obtain ⟨w1,hw1⟩:∃ w1,w1=w.alloc (.cells #[.slice Ag np cg,.slice Ap np cp] 209):=⟨_,rfl⟩
 have q1:Row w1 b 209 [.slice Ag np cg,.slice Ap np cp]:=by rw [hw1,hbz];exact heap_alloc_new w _
 have z1:w1.heap.size=b+1:=by rw [hw1,hbz];simp
 have hb1:Below w.heap.size w w1:=by rw [hw1];exact (Below.refl _ _).alloc (Nat.le_refl _) _
 have hc0:w1.cell? ⟨b,0,none⟩=some (.slice Ag np cg):=q1.cell 0
 have HQ1:=Lib.hid q1
 have HB1:=Lib.hid hb1
 have HN:=Lib.hid hng
 have HVG:=Lib.hid hvg
 have HVP:=Lib.hid hvp
 have H1:=Lib.hid h1
 have H2:=Lib.hid h2
 have hn6:np≤1000000:=by omega
 rw [hw1,hbz] at hc0
 have HBZ:=Lib.hid hbz
 have HW1:=Lib.hid hw1
 unfold zeC
 clear hvg hvp h1 h2 hb hng q1 hb1 hbz hw1
 go_enter Tryz.func192,Tryz.ntmps192
 go_wp2_with (refine zA elemU rfl _ _ rfl _ _ _ _ np _ (w.heap.size+1) rfl rfl rfl rfl (by omega) (by omega) (Below.refl _ _) (by simp) ?_)
 intro w2 hr2 hb2
 rw [←HW1.out,←HBZ.out] at hb2
 rw [←HBZ.out] at hr2
 have hz2:=hr2.lt
 have HB2:=Lib.hid (HB1.out.trans (hb2.mono (by have:=HBZ.out;omega)))
 have hq2:=HQ1.out.below hb2 (Nat.lt_succ_self b)
 have hc2:w2.cell? ⟨b,0,none⟩=some (.slice Ag np cg):=hq2.cell 0
 rw [←HBZ.out]
 have HS:=Lib.hid (show ztn (zcm ps p) (b+1) b np (.slice Ag np cg) (.slice Ap np cp) w (.int .i64 0) w2 from ⟨0,[],Nat.zero_le _,rfl,rfl,by rw [Nat.sub_zero];simpa [uv] using hr2,hq2,HB2.out⟩)
 have hbg:b≠b+1:=by omega
 have hg:w.heap.size≤b+1:=by have:=HBZ.out;omega
 clear hr2 hb2 hq2 hc0 hz2 z1
 generalize b+1=g at *
 go_wp2
 clear hc2
 go_loopw [15] (ztn (zcm ps p) g b np (.slice Ag np cg) (.slice Ap np cp) w) (fun i _=>np - (intOf i).toNat)
 case atStart=>exact HS.out
 case round =>
  obtain ⟨k,acc,hk,rfl,hacc,hr,hrb,hbw⟩:=hrel
  have hpl:(zcm ps p).length=np:=by unfold zcm;rw [List.length_map,HN.out]
  have HAL:=Lib.hid (show acc.length=k by rw [hacc,List.length_take];omega)
  have HB:=Lib.hid hbw
  have HR:=Lib.hid hr
  have HRB:=Lib.hid hrb
  have HACC:=Lib.hid hacc
  have HPL:=Lib.hid hpl
  clear hacc hr hrb hpl
  by_cases hlt:k < np
  ·have hkl:k < ps.length:=by have:=HN.out;omega
   have hlti:(k:Int) < (np:Int):=by omega
   have hltn:k < np:=hlt
   obtain ⟨adg,hAg,_,hcg⟩:=(HVG.out.below hbw).at (k:=k) (by rw [List.length_map];exact hkl)
   obtain ⟨ad,hAp,hadlt,hcp⟩:=(HVP.out.below hbw).at (k:=k) (by rw [List.length_map];exact hkl)
   subst hAg hAp
   obtain ⟨q,hq⟩:∃ q,q=ps[k]:=⟨_,rfl⟩
   have hqm:q∈ps:=by rw [hq];exact List.getElem_mem hkl
   obtain ⟨x,hx⟩:∃ x,x=q.1:=⟨_,rfl⟩
   obtain ⟨y,hy⟩:∃ y,y=q.2:=⟨_,rfl⟩
   have hcx:wr.cell? (adg.add k)=some (.int .u64 (x:Int)):=by rw [hcg,List.getElem_map,←hq,←hx];rfl
   have HCY:=Lib.hid (show wr.cell? (ad.add k)=some (.int .u64 (y:Int)) by rw [hcp,List.getElem_map,←hq,←hy];rfl)
   have HLA:=Lib.hid (show (ad.add k).block < wr.heap.size by rw [add_block];exact hadlt)
   obtain ⟨Z,hZ⟩:∃ Z,Z=x*2 ^ p:=⟨_,rfl⟩
   obtain ⟨V,hV⟩:∃ V,V=Z+y:=⟨_,rfl⟩
   have hZ64:Z < 18446744073709551616:=by rw [hZ,hx];exact H1.out q hqm
   have hy2:y < 2 ^ p:=by rw [hy];exact H2.out q hqm
   have hpp:2 ^ p≤18446744073709551616:=Nat.pow_le_pow_right (n:=2) (i:=p) (j:=64) (by omega) hp64
   have HZW:Hid (IntKind.u64.wrap ((x:Int)*2 ^ p)=(Z:Int)):=Lib.hid (by rw [show (x:Int)*2 ^ p=(Z:Int) by rw [hZ];simp,IntKind.wrap_u64];omega)
   have HOR:Hid (bits .or .u64 (Z:Int) (y:Int)=(V:Int)):=Lib.hid (by
    have hj:=nat_join p Z y (by rw [hZ];exact Nat.mul_mod_left _ _) hy2
    rw [u64_or _ _ (by omega) (by omega) (by omega) (by omega),Int.toNat_natCast,Int.toNat_natCast,hj,hV])
   have HNX:=Lib.hid (show acc ++ [V]=(zcm ps p).take (k+1) by
    rw [HACC.out,List.take_succ_eq_append_getElem (by rw [HPL.out];exact hlt)]
    congr 1
    unfold zcm
    rw [List.getElem_map,←hq,←hx,←hy,←hZ,hV])
   have HCP:=Lib.hid (show wr.cell? ⟨b,1,none⟩=some (.slice (some ad) np cp) from HRB.out.cell 1)
   have HLB:=Lib.hid HRB.out.lt
   have HADD:Hid ((⟨g,0,none⟩:Addr).add k=⟨g,k,none⟩):=Lib.hid (by unfold Addr.add;split <;> simp_all)
   clear hcg hcp hq hqm hx hy hZ hV hZ64 hy2 hpp hadlt hbw
   go_wp2
   refine zB 12 [.is (.slice (some ⟨g,0,none⟩) np np),.is (.int .i64 (k:Int)),.is (.int .u64 (x:Int)),.is (.int .i64 (p:Int)),.is (.int .u64 (Z:Int)),.is (.pointer (some ⟨b,1,none⟩)),.is (.slice (some ad) np cp),.is (.int .i64 (k:Int)),.is (.pointer (some (ad.add k))),.is (.int .u64 (y:Int)),.is (.int .u64 (V:Int)),.is (.pointer (some ⟨g,k,none⟩))] [some 20,some 21,some 22,some 23,some 24,some 25,some 26,some 27,some 28,some 29,some 30,some 31] (by kernel_rfl) (by kernel_rfl) (by kernel_rfl) (by kernel_rfl) rfl ⟨?_,?_,?_,?_,?_,?_,?_,?_,?_,?_,?_,?_,trivial⟩ ?_
   ·intro ρ W1 hb1 H
    exact zd rfl (H.old 5 _ (by kernel_rfl) rfl) ⟨rfl,Below.refl _ _⟩
   ·intro ρ W1 hb1 H
    exact zd rfl (H.old 6 _ (by kernel_rfl) rfl) ⟨rfl,Below.refl _ _⟩
   ·intro ρ W1 hb1 H
    exact zd rfl (H.old 7 _ (by kernel_rfl) rfl) ⟨rfl,Below.refl _ _⟩
   ·intro ρ W1 hb1 H
    exact zd rfl (H.old 1 _ (by kernel_rfl) rfl) ⟨rfl,Below.refl _ _⟩
   ·intro ρ W1 hb1 H
    exact zeI (k:=p) rfl (H.new 22 2 (by kernel_rfl)) (H.new 23 3 (by kernel_rfl)) hp64 HZW.out ⟨rfl,Below.refl _ _⟩
   ·intro ρ W1 hb1 H
    exact zj rfl (H.old 2 _ (by kernel_rfl) rfl) (fun W=>zkq W _) ⟨rfl,Below.refl _ _⟩
   ·intro ρ W1 hb1 H
    exact ze rfl (H.new 25 5 (by kernel_rfl)) Tryz.underlying75 rfl ((hb1.cell HLB.out).trans HCP.out) ⟨rfl,Below.refl _ _⟩
   ·intro ρ W1 hb1 H
    exact zd rfl (H.old 6 _ (by kernel_rfl) rfl) ⟨rfl,Below.refl _ _⟩
   ·intro ρ W1 hb1 H
    exact zF (k:=k) elemU rfl (H.new 26 6 (by kernel_rfl)) (H.new 27 7 (by kernel_rfl)) (hltn) ⟨rfl,Below.refl _ _⟩
   ·intro ρ W1 hb1 H
    exact ze rfl (H.new 28 8 (by kernel_rfl)) Tryz.underlying101 rfl ((hb1.cell HLA.out).trans HCY.out) ⟨rfl,Below.refl _ _⟩
   ·intro ρ W1 hb1 H
    exact znY rfl (H.new 24 4 (by kernel_rfl)) (H.new 29 9 (by kernel_rfl)) HOR.out ⟨rfl,Below.refl _ _⟩
   ·intro ρ W1 hb1 H
    exact zF (k:=k) elemU rfl (H.new 20 0 (by kernel_rfl)) (H.new 21 1 (by kernel_rfl)) (hltn) ⟨congrArg (fun q=>Value.pointer (some q)) (HADD.out),Below.refl _ _⟩
   ·intro vs W1 hb1 hfs
    have f0:vs 0=.slice (some ⟨g,0,none⟩) np np:=hfs 0 (by decide)
    have f1:vs 1=.int .i64 (k:Int):=hfs 1 (by decide)
    have f2:vs 2=.int .u64 (x:Int):=hfs 2 (by decide)
    have f3:vs 3=.int .i64 (p:Int):=hfs 3 (by decide)
    have f4:vs 4=.int .u64 (Z:Int):=hfs 4 (by decide)
    have f5:vs 5=.pointer (some ⟨b,1,none⟩):=hfs 5 (by decide)
    have f6:vs 6=.slice (some ad) np cp:=hfs 6 (by decide)
    have f7:vs 7=.int .i64 (k:Int):=hfs 7 (by decide)
    have f8:vs 8=.pointer (some (ad.add k)):=hfs 8 (by decide)
    have f9:vs 9=.int .u64 (y:Int):=hfs 9 (by decide)
    have f10:vs 10=.int .u64 (V:Int):=hfs 10 (by decide)
    have f11:vs 11=.pointer (some ⟨g,k,none⟩):=hfs 11 (by decide)
    clear hfs
    simp only [zr,Nat.zero_add,Nat.reduceAdd,List.drop_succ_cons,List.drop_zero]
    simp only [f0,f1,f2,f3,f4,f5,f6,f7,f8,f9,f10,f11,Act.put,List.setIfInBounds_toArray,List.set_cons_succ,List.set_cons_zero]
    clear f0 f1 f2 f3 f4 f5 f6 f7 f8 f9 f10 f11
    have hr2:=HR.out.below hb1 HR.out.lt
    have hf2:=hr2.free k
    have hcu:∃ z,W1.cell? ⟨g,k,none⟩=some z:=by
     rw [hr2.cell]
     exact ⟨_,List.getElem?_eq_getElem (by rw [List.length_append,List.length_map,List.length_replicate];have:=HAL.out;omega)⟩
    obtain ⟨u0,hcu⟩:=hcu
    have hset:=hr2.set_ k (uv V)
    rw [zcQ hltn HAL.out] at hset
    have HSET:=Lib.hid hset
    have HRB1:=Lib.hid ((HRB.out.below hb1 HRB.out.lt).far (p:=⟨g,k,none⟩) hbg (uv V))
    have HB3:=Lib.hid ((HB.out.trans (hb1.mono HB.out.size)).setCell (p:=⟨g,k,none⟩) hg (uv V))
    clear hset hr2 hb1
    go_wp2
    go_roundw
    case rel=>exact ⟨k+1,_,by omega,by go_num,HNX.out,HSET.out,HRB1.out,HB3.out⟩
    case measure=>simp [intOf];omega
  ·obtain rfl:k=np:=by omega
   have hlti:¬(k:Int) < (k:Int):=by omega
   have HE:=Lib.hid (show acc=zcm ps p by rw [HACC.out,List.take_of_length_le (by rw [HPL.out];exact Nat.le_refl _)])
   have hr:=HR.out
   rw [Nat.sub_self,List.replicate_zero,List.append_nil] at hr
   have HO:=Lib.hid (zcB hr HAL.out (by omega))
   rw [HE.out] at HO
   clear hr
   go_wp2
   go_ret
   exact ⟨_,rfl,HO.out,HB.out⟩
def Fact.ownRow (B:Nat) (l:List UInt8):Fact:=⟨fun v w=>w.ownsRow B 5 1 v l.length (l.map bv),fun _ _ _ h hb=>own_below h hb⟩
theorem two_bytes {B0 B1:Nat} (h0:B0 < 256) (h1:B1 < 256) (W:World):IsB [UInt8.ofNat B0,UInt8.ofNat B1] (.slice (some ⟨W.heap.size,0,none⟩) 2 2) (W.alloc (.cells #[.int .u8 (B0:Int),.int .u8 (B1:Int)] 5)):=by
 have h:=zsp W 5 [UInt8.ofNat B0,UInt8.ofNat B1] 2 rfl (by omega)
 simp only [List.map_cons,List.map_nil] at h
 rwa [←zd6 h0,←zd6 h1] at h
theorem zrv (M W n p g t:Nat) (w:World) (ht:WTab w) (hM1:1≤M) (hM:M≤512) (hW:zbb (W:Int)=(zb2 W:Int)) (hW31:zb2 W≤31) (hn1:1≤n) (hn8:n≤8) (hp:zbb (p:Int)=(zb2 p:Int)) (hp31:zb2 p≤31) (hg1:1≤g) (hg8:g≤8) (ht31:t≤31) :
  Calls Tryz.prog 194 #[shv M W n p g t] w (RetOwn w (zz 2 (zb2 W) M ++ [UInt8.ofNat (32*(n - 1)+zb2 p),UInt8.ofNat (32*(g - 1)+t)])):=by
 obtain ⟨w1,hw1⟩:∃ w1,w1=w.alloc (.cells (shc M W n p g t).toArray 181):=⟨_,rfl⟩
 have q1:Row w1 w.heap.size 181 (shc M W n p g t):=by rw [hw1];exact heap_alloc_new w _
 have hb1:Below w.heap.size w w1:=by rw [hw1];exact (Below.refl _ _).alloc (Nat.le_refl _) _
 have HB0:=Lib.hid hb1
 have HLB:=Lib.hid q1.lt
 have HC0:=Lib.hid (show w1.cell? ⟨w.heap.size,0,none⟩=some (.int .i64 (M:Int)) from q1.cell 0)
 have HC1:=Lib.hid (show w1.cell? ⟨w.heap.size,1,none⟩=some (.int .i64 (W:Int)) from q1.cell 1)
 have HC2:=Lib.hid (show w1.cell? ⟨w.heap.size,2,none⟩=some (.int .i64 (n:Int)) from q1.cell 2)
 have HC3:=Lib.hid (show w1.cell? ⟨w.heap.size,3,none⟩=some (.int .i64 (p:Int)) from q1.cell 3)
 have HC4:=Lib.hid (show w1.cell? ⟨w.heap.size,4,none⟩=some (.int .i64 (g:Int)) from q1.cell 4)
 have HC5:=Lib.hid (show w1.cell? ⟨w.heap.size,5,none⟩=some (.int .i64 (t:Int)) from q1.cell 5)
 have HT:=Lib.hid (ht.below hb1 ht.lt)
 obtain ⟨cW,hcW⟩:∃ cW,cW=zb2 W:=⟨_,rfl⟩
 obtain ⟨cp,hcp⟩:∃ cp,cp=zb2 p:=⟨_,rfl⟩
 have HCW:=Lib.hid (fun X (h:WTab X)=>zeY (W:Int) X h)
 have HCD:=Lib.hid (fun X (h:WTab X)=>zeY (p:Int) X h)
 rw [hW,←hcW] at HCW
 rw [hp,←hcp] at HCD
 rw [←hcW] at hW31 ⊢
 rw [←hcp] at hp31 ⊢
 obtain ⟨hd,hhd⟩:∃ hd,hd=zz 2 cW M:=⟨_,rfl⟩
 have HHD:=Lib.hid (fun X (h:WTab X)=>zgV 2 (cW:Int) (M:Int) X h (by unfold inInt;omega) (by unfold inInt;omega) (by unfold inInt;omega))
 rw [show (2:Int)=((2:Nat):Int) from rfl,ze3 (by omega) hW31 hM1 hM,←hhd] at HHD
 rw [show ((2:Nat):Int)=(2:Int) from rfl] at HHD
 have HHL:=Lib.hid (show hd.length=2 by rw [hhd,zT])
 obtain ⟨n1,hn1e⟩:∃ n1,n1=n - 1:=⟨_,rfl⟩
 obtain ⟨g1,hg1e⟩:∃ g1,g1=g - 1:=⟨_,rfl⟩
 obtain ⟨n32,hn32⟩:∃ n32,n32=n1*32:=⟨_,rfl⟩
 obtain ⟨g32,hg32⟩:∃ g32,g32=g1*32:=⟨_,rfl⟩
 obtain ⟨B0,hB0⟩:∃ B0,B0=n32+cp:=⟨_,rfl⟩
 obtain ⟨B1,hB1⟩:∃ B1,B1=g32+t:=⟨_,rfl⟩
 rw [show 32*(n - 1)+cp=B0 by omega,show 32*(g - 1)+t=B1 by omega,←hhd]
 have HN1:=Lib.hid (show (n:Int) - 1=(n1:Int) by omega)
 have HG1:=Lib.hid (show (g:Int) - 1=(g1:Int) by omega)
 have HN32:=Lib.hid (show IntKind.i64.wrap ((n1:Int)*32)=(n32:Int) by rw [IntKind.wrap_i64];omega)
 have HG32:=Lib.hid (show IntKind.i64.wrap ((g1:Int)*32)=(g32:Int) by rw [IntKind.wrap_i64];omega)
 have HOR0:=Lib.hid (show bits .or .i64 (n32:Int) (cp:Int)=(B0:Int) by rw [hB0];exact zjT 5 n32 cp (by omega) (by omega) (by omega))
 have HOR1:=Lib.hid (show bits .or .i64 (g32:Int) (t:Int)=(B1:Int) by rw [hB1];exact zjT 5 g32 t (by omega) (by omega) (by omega))
 have HU0:=Lib.hid (show IntKind.u8.wrap (B0:Int)=(B0:Int) by rw [IntKind.wrap_u8];omega)
 have HU1:=Lib.hid (show IntKind.u8.wrap (B1:Int)=(B1:Int) by rw [IntKind.wrap_u8];omega)
 have HB0l:=Lib.hid (show B0 < 256 by omega)
 have HB1l:=Lib.hid (show B1 < 256 by omega)
 unfold shc at hw1
 unfold shv shc
 clear ht q1 hb1 hcW hcp hhd hn1e hg1e hn32 hg32 hB0 hB1 hW hp
 go_enter Tryz.func194,Tryz.ntmps194
 go_wp2
 rw [←hw1]
 clear hw1
 refine zB 24 [.is (.pointer (some ⟨w.heap.size,1,none⟩)),.is (.int .i64 (W:Int)),.is (.int .i64 (cW:Int)),.is (.pointer (some ⟨w.heap.size,0,none⟩)),.is (.int .i64 (M:Int)),.ownRow w.heap.size hd,.is (.pointer (some ⟨w.heap.size,2,none⟩)),.is (.int .i64 (n:Int)),.is (.int .i64 (n1:Int)),.is (.int .i64 (n32:Int)),.is (.pointer (some ⟨w.heap.size,3,none⟩)),.is (.int .i64 (p:Int)),.is (.int .i64 (cp:Int)),.is (.int .i64 (B0:Int)),.is (.int .u8 (B0:Int)),.is (.pointer (some ⟨w.heap.size,4,none⟩)),.is (.int .i64 (g:Int)),.is (.int .i64 (g1:Int)),.is (.int .i64 (g32:Int)),.is (.pointer (some ⟨w.heap.size,5,none⟩)),.is (.int .i64 (t:Int)),.is (.int .i64 (B1:Int)),.is (.int .u8 (B1:Int)),.bytes ([UInt8.ofNat B0,UInt8.ofNat B1])] [some 3,some 4,some 5,some 6,some 7,some 8,some 9,some 10,some 11,some 12,some 13,some 14,some 15,some 16,some 17,some 18,some 19,some 20,some 21,some 22,some 23,some 24,some 25,some 26] (by kernel_rfl) (by kernel_rfl) (by kernel_rfl) (by kernel_rfl) rfl ⟨?_,?_,?_,?_,?_,?_,?_,?_,?_,?_,?_,?_,?_,?_,?_,?_,?_,?_,?_,?_,?_,?_,?_,?_,trivial⟩ ?_
 ·intro ρ W1 hb1 H
  exact zj rfl (H.old 1 _ (by kernel_rfl) rfl) (fun W=>zkl W _) ⟨rfl,Below.refl _ _⟩
 ·intro ρ W1 hb1 H
  exact ze rfl (H.new 3 0 (by kernel_rfl)) Tryz.underlying3 rfl ((hb1.cell HLB.out).trans HC1.out) ⟨rfl,Below.refl _ _⟩
 ·intro ρ W1 hb1 H
  have e0:ρ (.tmp 4)=.int .i64 (W:Int):=H.new 4 1 (by kernel_rfl)
  refine zk rfl (fun _ _=>by kernel_rfl) (H.func _) (args:=#[.int .i64 (W:Int)]) (by simp [e0]) ?_
  exact (HCW.out W1 (HT.out.below hb1 HT.out.lt)).mono fun e w' ⟨h1,h2⟩=>⟨_,h1,rfl,h2 ▸ Below.refl _ _⟩
 ·intro ρ W1 hb1 H
  exact zj rfl (H.old 1 _ (by kernel_rfl) rfl) (fun W=>zkk W _) ⟨rfl,Below.refl _ _⟩
 ·intro ρ W1 hb1 H
  exact ze rfl (H.new 6 3 (by kernel_rfl)) Tryz.underlying3 rfl ((hb1.cell HLB.out).trans HC0.out) ⟨rfl,Below.refl _ _⟩
 ·intro ρ W1 hb1 H
  have e1:ρ (.tmp 5)=.int .i64 (cW:Int):=H.new 5 2 (by kernel_rfl)
  have e2:ρ (.tmp 7)=.int .i64 (M:Int):=H.new 7 4 (by kernel_rfl)
  refine zk rfl (fun _ _=>by kernel_rfl) (H.func _) (args:=#[.int .i64 2,.int .i64 (cW:Int),.int .i64 (M:Int)]) (by simp [H.const,e1,e2]) ?_
  exact (HHD.out W1 (HT.out.below hb1 HT.out.lt)).mono fun e w' ⟨v,h1,h2,h3⟩=>⟨v,h1,zbR (Nat.le_trans HB0.out.size hb1.size) h2,h3⟩
 ·intro ρ W1 hb1 H
  exact zj rfl (H.old 1 _ (by kernel_rfl) rfl) (fun W=>zkm W _) ⟨rfl,Below.refl _ _⟩
 ·intro ρ W1 hb1 H
  exact ze rfl (H.new 9 6 (by kernel_rfl)) Tryz.underlying3 rfl ((hb1.cell HLB.out).trans HC2.out) ⟨rfl,Below.refl _ _⟩
 ·intro ρ W1 hb1 H
  exact zdi rfl (H.new 10 7 (by kernel_rfl)) (H.const _) (by omega) (by omega) ⟨congrArg (Value.int .i64) HN1.out,Below.refl _ _⟩
 ·intro ρ W1 hb1 H
  exact zik rfl (H.new 11 8 (by kernel_rfl)) (H.const _) HN32.out ⟨rfl,Below.refl _ _⟩
 ·intro ρ W1 hb1 H
  exact zj rfl (H.old 1 _ (by kernel_rfl) rfl) (fun W=>zhg W _) ⟨rfl,Below.refl _ _⟩
 ·intro ρ W1 hb1 H
  exact ze rfl (H.new 13 10 (by kernel_rfl)) Tryz.underlying3 rfl ((hb1.cell HLB.out).trans HC3.out) ⟨rfl,Below.refl _ _⟩
 ·intro ρ W1 hb1 H
  have e0:ρ (.tmp 14)=.int .i64 (p:Int):=H.new 14 11 (by kernel_rfl)
  refine zk rfl (fun _ _=>by kernel_rfl) (H.func _) (args:=#[.int .i64 (p:Int)]) (by simp [e0]) ?_
  exact (HCD.out W1 (HT.out.below hb1 HT.out.lt)).mono fun e w' ⟨h1,h2⟩=>⟨_,h1,rfl,h2 ▸ Below.refl _ _⟩
 ·intro ρ W1 hb1 H
  exact zko rfl (H.new 12 9 (by kernel_rfl)) (H.new 15 12 (by kernel_rfl)) HOR0.out ⟨rfl,Below.refl _ _⟩
 ·intro ρ W1 hb1 H
  exact zck rfl (H.new 16 13 (by kernel_rfl)) (by kernel_rfl) Tryz.underlying5 HU0.out ⟨rfl,Below.refl _ _⟩
 ·intro ρ W1 hb1 H
  exact zj rfl (H.old 1 _ (by kernel_rfl) rfl) (fun W=>zhh W _) ⟨rfl,Below.refl _ _⟩
 ·intro ρ W1 hb1 H
  exact ze rfl (H.new 18 15 (by kernel_rfl)) Tryz.underlying3 rfl ((hb1.cell HLB.out).trans HC4.out) ⟨rfl,Below.refl _ _⟩
 ·intro ρ W1 hb1 H
  exact zdi rfl (H.new 19 16 (by kernel_rfl)) (H.const _) (by omega) (by omega) ⟨congrArg (Value.int .i64) HG1.out,Below.refl _ _⟩
 ·intro ρ W1 hb1 H
  exact zik rfl (H.new 20 17 (by kernel_rfl)) (H.const _) HG32.out ⟨rfl,Below.refl _ _⟩
 ·intro ρ W1 hb1 H
  exact zj rfl (H.old 1 _ (by kernel_rfl) rfl) (fun W=>zkn W _) ⟨rfl,Below.refl _ _⟩
 ·intro ρ W1 hb1 H
  exact ze rfl (H.new 22 19 (by kernel_rfl)) Tryz.underlying3 rfl ((hb1.cell HLB.out).trans HC5.out) ⟨rfl,Below.refl _ _⟩
 ·intro ρ W1 hb1 H
  exact zko rfl (H.new 21 18 (by kernel_rfl)) (H.new 23 20 (by kernel_rfl)) HOR1.out ⟨rfl,Below.refl _ _⟩
 ·intro ρ W1 hb1 H
  exact zck rfl (H.new 24 21 (by kernel_rfl)) (by kernel_rfl) Tryz.underlying5 HU1.out ⟨rfl,Below.refl _ _⟩
 ·intro ρ W1 hb1 H
  exact zpQ elemB rfl (H.new 17 14 (by kernel_rfl)) (H.new 25 22 (by kernel_rfl)) rfl rfl ⟨two_bytes HB0l.out HB1l.out W1,(Below.refl _ _).alloc (Nat.le_refl _) _⟩
 ·intro vs W1 hb1 hfs
  have f5:W1.ownsRow w.heap.size 5 1 (vs 5) hd.length (hd.map bv):=hfs 5 (by decide)
  have f23:IsB ([UInt8.ofNat B0,UInt8.ofNat B1]) (vs 23) W1:=hfs 23 (by decide)
  clear hfs
  simp only [zr,Nat.zero_add,Nat.reduceAdd,List.drop_succ_cons,List.drop_zero]
  generalize vs 0=z0
  generalize vs 1=z1
  generalize vs 2=z2
  generalize vs 3=z3
  generalize vs 4=z4
  generalize vs 5=z5 at f5 ⊢
  generalize vs 6=z6
  generalize vs 7=z7
  generalize vs 8=z8
  generalize vs 9=z9
  generalize vs 10=z10
  generalize vs 11=z11
  generalize vs 12=z12
  generalize vs 13=z13
  generalize vs 14=z14
  generalize vs 15=z15
  generalize vs 16=z16
  generalize vs 17=z17
  generalize vs 18=z18
  generalize vs 19=z19
  generalize vs 20=z20
  generalize vs 21=z21
  generalize vs 22=z22
  generalize vs 23=z23 at f23 ⊢
  simp only [Act.put,List.setIfInBounds_toArray,List.set_cons_succ,List.set_cons_zero]
  obtain ⟨A5,c5,rfl,hA5,hnc5,hcm5,hl5⟩:=f23
  have HL5:=Lib.hid hl5
  have HO5:=Lib.hid f5
  have HBB:=Lib.hid (HB0.out.trans (hb1.mono HB0.out.size))
  have hz5:=HBB.out.size
  clear hl5 f5 hb1 hcm5
  go_wp2_with (at_builtin;refine zo elemB rfl _ _ rfl w.heap.size z5 hd.length (hd.map bv) A5 2 c5 ([UInt8.ofNat B0,UInt8.ofNat B1].map bv) w rfl rfl hA5 (by simp) HL5.out (zcb _) HO5.out HBB.out hz5 (by have:=HHL.out;omega) (by omega) ?_)
  intro v6 w6 ho6 hb6 _ _
  have HO6:=Lib.hid ho6
  clear ho6
  go_wp2
  go_ret
  refine ⟨_,rfl,?_,hb6⟩
  rw [List.length_append,List.map_append]
  exact HO6.out
theorem zrw {w:World} {g:Nat} {t:TypeId} {cs:List Value} {ad:Addr} {u:Value} (h:Row w g t cs) (hc:w.cell? ad=some u) (hu:u∉cs):ad.block≠g:=by
 intro e
 unfold Row at h
 unfold World.cell? at hc
 rw [e,h] at hc
 dsimp only at hc
 split at hc
 ·cases hc
 ·rw [List.getElem?_toArray] at hc
  exact hu (List.mem_of_getElem? hc)
theorem zkr {w w':World} {k g:Nat} {t:TypeId} {l:List Value} (h:Row w k t l) (hg:w.grownBy w' (some g)) (hne:k≠g):Row w' k t l:=(hg.block k h.lt (by intro e;injection e with e;exact hne e)).trans h
theorem zpR {l:List UInt8} {v:Value} {w w':World} {g:Nat} {t:TypeId} {cs:List Value} (h:IsB l v w) (hr:Row w g t cs) (hcs:∀ b:UInt8,bv b∉cs) (hg:w.grownBy w' (some g)):IsB l v w':=by
 obtain ⟨A,c,rfl,hA,hnc,hcm,hl⟩:=h
 refine ⟨A,c,rfl,hA,hnc,hcm,?_⟩
 rcases hl with h0 | ⟨ad,rfl,hlt,hc⟩
 ·exact .inl h0
 ·cases l with
  | nil=>exact .inl rfl
  | cons x l =>
   have hne:=zrw hr (hc 0 (bv x) rfl) (hcs x)
   rw [add_block] at hne
   refine .inr ⟨ad,rfl,Nat.lt_of_lt_of_le hlt hg.size,fun j u hj=>?_⟩
   have h2:=hc j u hj
   unfold World.cell? at h2 ⊢
   rw [add_block] at h2 ⊢
   rw [hg.block ad.block hlt (by intro e;injection e with e;exact hne e)]
   exact h2
theorem shape_info:∃ i,Tryz.prog.info? 181=some i∧i.zero=some (shv 0 0 0 0 0 0):=by
 have h:(Tryz.prog.info? 181).map (fun i=>i.zero)=some (some (shv 0 0 0 0 0 0)):=by kernel_rfl
 cases hi:Tryz.prog.info? 181 with
 | none=>rw [hi] at h;cases h
 | some i=>rw [hi] at h;injection h with h;exact ⟨i,rfl,h⟩
def Fact.made (B:Nat):Fact:=⟨fun v W=>∃ h,v=.pointer (some ⟨h,0,none⟩)∧B≤h∧Row W h 181 (shc 0 0 0 0 0 0),fun _ _ _ ⟨h,h1,h2,h3⟩ hb=>⟨h,h1,h2,h3.below hb h3.lt⟩⟩
theorem zfJ {P:Program} {w:World} {ops:Array Oper} {rest:List Oper} {o:Oper} {a:Act} {Q:Exit→Act→World→Prop} (hgd:o.guard=none) (t:TypeId) (x y:Operand) (ho:o.op=.store t x y) (g:Nat) (t':TypeId) (old cs:List Value)
  (hx:a.eval x=.pointer (some ⟨g,0,none⟩)) (hy:a.eval y=.agg cs.toArray) (hr:Row w g t' old) (hi:(P.info? t).map (·.size)=some cs.length) (hl:old.length=cs.length) (h1:∀ u∈cs,u.oneCell'=true)
  (h:∀ w',w'=w.setRow g cs.toArray→wpList P ops Q rest (a.put o.dst undef) w'):wpList P ops Q (o::rest) a w:=by
 have hrun:=run_storeVar_row (P:=P) w g t' t old.toArray cs.toArray hr (by simpa using hi) (by simp [hl]) (by simpa using h1)
 refine wpList_plain hgd fun K hK=>?_
 unfold Oper.wp execOp
 simp only [ho,hx,hy,Instr.storeAt,Instr.sureAddr,Sem.run_bind,Sem.run_pure,Result.andThen_ok,hrun]
 exact hK _ _ (h _ rfl)
def zpS (r:Nat) (T:TypeId) (z cs:List Value) (w w':World):Prop:=w.grownBy w' (some r)∧(Row w r T z→Row w' r T z∨Row w' r T cs)∧(Row w r T cs→Row w' r T cs)
theorem zbN (r:Nat) (T:TypeId) (z cs:List Value):Later (zpS r T z cs) where
 refl:=fun _=>⟨⟨rfl,rfl,rfl,Nat.le_refl _,fun _ _ _=>rfl⟩,.inl,id⟩
 trans:=fun ⟨a1,a2,a3⟩ ⟨b1,b2,b3⟩=>⟨zbL a1 b1,fun h=>(a2 h).elim b2 (fun h=>.inr (b3 h)),fun h=>b3 (a3 h)⟩
 draw:=fun _=>⟨⟨rfl,rfl,rfl,Nat.le_refl _,fun _ _ _=>rfl⟩,.inl,id⟩
theorem zks {r:Nat} {T:TypeId} {z cs:List Value} {w w':World} (hr:r < w.heap.size) (h:Below w.heap.size w w'):zpS r T z cs w w':=⟨zb8 h,fun k=>.inl (k.below h hr),fun k=>k.below h hr⟩
theorem zin {r:Nat} {T:TypeId} {z cs old:List Value} {w:World} (h:Row w r T old):zpS r T z cs w (w.setRow r cs.toArray):=
 ⟨⟨rfl,rfl,rfl,by simp [World.setRow],fun k _ hg=>setRow_other w r k _ (fun e=>hg (by rw [e]))⟩,fun _=>.inr (zU h),fun _=>zU h⟩
theorem zto (m W n p g t:Int) (b:UInt8):bv b∉shc m W n p g t:=by
 intro h
 simp only [shc,List.mem_cons,List.not_mem_nil,or_false] at h
 rcases h with h | h | h | h | h | h <;> cases h
theorem u8_and31 (a:Nat) (h:a < 256):bits .and .u8 (a:Int) 31=((a % 32:Nat):Int):=by
 have h1:=u8_and_nat a 31 h (by omega)
 rw [show ((31:Nat):Int)=(31:Int) from rfl] at h1
 rw [h1,show (31:Nat)=2 ^ 5 - 1 from rfl,Nat.and_two_pow_sub_one_eq_mod]
theorem zsR (l:List UInt8) (v:Value) (w:World) (hv:IsB l v w) (hb:l.length≤1000000) (h:(zp l).2.2.2.2≠0∨(zp l).1≠2∨(zp l).2.2.2.1.length < 2) :
  Calls Tryz.prog 160 #[v] w fun e w'=>e=.returned (.tuple #[shv 0 0 0 0 0 0,.slice none 0 0,.bool false])∧Below w.heap.size w w':=by
 obtain ⟨w1,hw1⟩:∃ w1,w1=w.alloc (.cells (shc 0 0 0 0 0 0).toArray 181):=⟨_,rfl⟩
 have q1:Row w1 w.heap.size 181 (shc 0 0 0 0 0 0):=by rw [hw1];exact heap_alloc_new w _
 have hb1:Below w.heap.size w w1:=by rw [hw1];exact (Below.refl _ _).alloc (Nat.le_refl _) _
 have HLK:=Lib.hid (zgW l v w1 (hv.below hb1) hb)
 have HB1:=Lib.hid hb1
 have HQ1:=Lib.hid q1
 obtain ⟨K,C,M,r,x,hd⟩:∃ K C M r x,zp l=(K,C,M,r,x):=⟨_,_,_,_,_,rfl⟩
 rw [hd] at HLK h
 dsimp only at h
 obtain ⟨A0,c0,rfl,_⟩:=hv
 unfold shc at hw1
 clear hd q1 hb1
 go_enter Tryz.func160,Tryz.ntmps160
 go_wp2_with fail
 rw [←hw1]
 clear hw1
 refine HLK.out.mono ?_
 rintro e w2 ⟨rv,rfl,hrv,hb2⟩
 obtain ⟨A1,n1,c1,rfl⟩:=IsV.shape (f:=bv) hrv
 have hrl:r.length=n1:=(IsV.parts (f:=bv) hrv).1
 have HB2:=Lib.hid (HB1.out.trans (hb2.mono HB1.out.size))
 have HR2:=Lib.hid (HQ1.out.below hb2 HQ1.out.lt)
 clear hb2 hrv
 have hcase:(x != 0)=true∨((x != 0)=false∧(K != 2)=true)∨((x != 0)=false∧(K != 2)=false∧decide ((n1:Int) < 2)=true):=by
  by_cases h0:x=0
  ·by_cases h1:K=2
   ·exact .inr (.inr ⟨by simpa using h0,by simpa using h1,decide_eq_true (by omega)⟩)
   ·exact .inr (.inl ⟨by simpa using h0,by simpa using h1⟩)
  ·exact .inl (by simpa using h0)
 clear h hrl
 rcases hcase with d0 | ⟨d0,d1⟩ | ⟨d0,d1,d2⟩
 all_goals
  go_wp2_with (refine zdI rfl _ _ _ rfl w.heap.size 0 181 (shc 0 0 0 0 0 0) (shc 0 0 0 0 0 0) (shc 0 0 0 0 0 0) rfl rfl rfl HR2.out zbk (Nat.le_refl _) (zhf _ _ _ _ _ _) w w.heap.size HB2.out (Nat.le_refl _) ?_)
  intro w3 hr3 hb3 _
  have HR3:=Lib.hid hr3
  have HB3:=Lib.hid hb3
  clear hr3 hb3
  go_wp2
  refine bodyPost_ret (zdW rfl _ _ _ 181 (shc 0 0 0 0 0 0).toArray (0,0) _ rfl HR3.out Tryz.underlying181 rfl zbk) rfl ?_
  exact ⟨rfl,HB3.out⟩
def zi1 (M W:Int) (n p g t:Nat) (r:List UInt8) (w:World) (e:Ending) (w':World):Prop:=
 ∃ rv,e=.returned (.tuple #[shv M W n p g t,rv,.bool (decide ((g:Int)+(p:Int)≤64))])∧IsB r rv w'∧Below w.heap.size w w'
theorem zrx (l r:List UInt8) (v:Value) (w:World) (C M:Int) (b0 b1 n g t p:Nat) (ht:WTab w) (hv:IsB l v w) (hb:l.length≤1000000) (hd:zp l=(2,C,M,r,0)) (h2:2≤r.length) (hrb:r.length≤1000000) (hC:inInt C)
  (h0:b0=r[0].toNat) (h1:b1=r[1].toNat) (hn:n=b0 / 32+1) (hg:g=b1 / 32+1) (htt:t=b1 % 32) (hp:wof ((b0 % 32:Nat):Int)=(p:Int)) (hp64:p≤64) :
  Calls Tryz.prog 160 #[v] w (zi1 M (wof C) n p g t (r.drop 2) w):=by
 obtain ⟨w1,hw1⟩:∃ w1,w1=w.alloc (.cells (shc 0 0 0 0 0 0).toArray 181):=⟨_,rfl⟩
 have q1:Row w1 w.heap.size 181 (shc 0 0 0 0 0 0):=by rw [hw1];exact heap_alloc_new w _
 have hb1:Below w.heap.size w w1:=by rw [hw1];exact (Below.refl _ _).alloc (Nat.le_refl _) _
 have HLK:=Lib.hid (zgW l v w1 (hv.below hb1) hb)
 rw [hd] at HLK
 have HB1:=Lib.hid hb1
 have HQ1:=Lib.hid q1
 have HT0:=Lib.hid ht
 obtain ⟨A0,c0,rfl,_⟩:=hv
 obtain ⟨W,hW⟩:∃ W,W=wof C:=⟨_,rfl⟩
 have HOC:=Lib.hid (fun X (h:WTab X)=>zhL C X h hC.1 hC.2)
 obtain ⟨q,hq⟩:∃ q,q=b0 % 32:=⟨_,rfl⟩
 have HOP:=Lib.hid (fun X (h:WTab X)=>zhL (q:Int) X h (by omega) (by omega))
 rw [←hW] at HOC ⊢
 rw [←hq] at hp
 rw [hp] at HOP
 have hb08:b0 < 256:=by rw [h0];exact UInt8.toNat_lt _
 have hb18:b1 < 256:=by rw [h1];exact UInt8.toNat_lt _
 obtain ⟨n0,hn0⟩:∃ n0,n0=b0 / 32:=⟨_,rfl⟩
 obtain ⟨g0,hg0⟩:∃ g0,g0=b1 / 32:=⟨_,rfl⟩
 have HS0:=Lib.hid (show (b0:Int) / 32=(n0:Int) by omega)
 have HS1:=Lib.hid (show (b1:Int) / 32=(g0:Int) by omega)
 have HV0:=Lib.hid (show IntKind.i64.wrap (n0:Int)=(n0:Int) by rw [IntKind.wrap_i64];omega)
 have HVG:=Lib.hid (show IntKind.i64.wrap (g0:Int)=(g0:Int) by rw [IntKind.wrap_i64];omega)
 have HVQ:=Lib.hid (show IntKind.i64.wrap (q:Int)=(q:Int) by rw [IntKind.wrap_i64];omega)
 have HVT:=Lib.hid (show IntKind.i64.wrap (t:Int)=(t:Int) by rw [IntKind.wrap_i64];omega)
 have HN:=Lib.hid (show (n0:Int)+1=(n:Int) by omega)
 have HG:=Lib.hid (show (g0:Int)+1=(g:Int) by omega)
 have HA0:=Lib.hid (show bits .and .u8 (b0:Int) 31=(q:Int) by rw [u8_and31 b0 hb08,hq])
 have HA1:=Lib.hid (show bits .and .u8 (b1:Int) 31=(t:Int) by rw [u8_and31 b1 hb18,htt])
 have hn08:n0≤8:=by omega
 have hg08:g0≤8:=by omega
 have HRM:=Lib.hid (fun X=>zkh M W (n:Int) (p:Int) (g:Int) (t:Int) X ⟨by omega,by omega⟩ ⟨by omega,by omega⟩)
 obtain ⟨d,hdd⟩:∃ d,d=decide ((g:Int)+(p:Int)≤64):=⟨_,rfl⟩
 rw [←hdd] at HRM
 unfold zi1
 rw [←hdd]
 unfold shc at hw1
 have HH0:=Lib.hid h0
 have HH1:=Lib.hid h1
 clear hd q1 hb1 ht hW hq hn hg htt hp hn0 hg0 hdd hC h0 h1 hb08 hb18
 go_enter Tryz.func160,Tryz.ntmps160
 go_wp2_with fail
 rw [←hw1]
 clear hw1
 refine HLK.out.mono ?_
 rintro e w2 ⟨rv,rfl,hrv,hb2⟩
 have hrv':IsB r rv w2:=hrv
 clear hrv
 have hrv:=isB_iff.1 hrv'
 obtain ⟨A1,n1,c1,rfl⟩:=hrv.shape
 obtain ⟨hrl,hA1,hnc1,hcm1,hlie1⟩:=hrv.parts
 have HB2:=Lib.hid (HB1.out.trans (hb2.mono HB1.out.size))
 have HRZ0:=Lib.hid (HQ1.out.below hb2 HQ1.out.lt)
 have HT:=Lib.hid (HT0.out.below HB2.out HT0.out.lt)
 obtain ⟨ad,rfl,had0,hc0⟩:=hrv.at (k:=0) (by omega)
 obtain ⟨ad',had',had1,hc1⟩:=hrv.at (k:=1) (by omega)
 injection had' with had'
 subst had'
 have HCB0:=Lib.hid (show w2.cell? (ad.add 0)=some (.int .u8 (b0:Int)) by rw [hc0,HH0.out];rfl)
 have HCB1:=Lib.hid (show w2.cell? (ad.add 1)=some (.int .u8 (b1:Int)) by rw [hc1,HH1.out];rfl)
 have HLA0:=Lib.hid (show (ad.add 0).block < w2.heap.size by rw [add_block];exact had0)
 have HLA1:=Lib.hid (show (ad.add 1).block < w2.heap.size by rw [add_block];exact had0)
 obtain ⟨v3,hv3,hI3⟩:=zbr (P:=Tryz.prog) elemB (k:=2) (by omega) hnc1 hcm1 hrl hlie1 hA1
 rw [show ((2:Nat):Int)=2 from rfl] at hv3
 have HV3:=Lib.hid hv3
 have HI2:=Lib.hid hI3
 have h0n:0 < n1:=by omega
 have h1n:1 < n1:=by omega
 have hn2:decide ((n1:Int) < 2)=false:=decide_eq_false (by omega)
 clear hb2 hrv hrv' hc0 hc1 hv3 hI3 hlie1 hrl hA1 hcm1 had0 had1
 ·go_wp2
  refine zB 28 [.is (.int .i64 M),.is (.int .i64 C),.is (.int .i64 W),.is (.slice (some ad) n1 c1),.is (.pointer (some (ad.add 0))),.is (.int .u8 (b0:Int)),.is (.int .u8 (n0:Int)),.is (.int .i64 (n0:Int)),.is (.int .i64 (n:Int)),.is (.slice (some ad) n1 c1),.is (.pointer (some (ad.add 0))),.is (.int .u8 (b0:Int)),.is (.int .u8 (q:Int)),.is (.int .i64 (q:Int)),.is (.int .i64 (p:Int)),.is (.slice (some ad) n1 c1),.is (.pointer (some (ad.add 1))),.is (.int .u8 (b1:Int)),.is (.int .u8 (g0:Int)),.is (.int .i64 (g0:Int)),.is (.int .i64 (g:Int)),.is (.slice (some ad) n1 c1),.is (.pointer (some (ad.add 1))),.is (.int .u8 (b1:Int)),.is (.int .u8 (t:Int)),.is (.int .i64 (t:Int)),.is (shv M W n p g t),.made w2.heap.size] [some 31,some 32,some 33,some 34,some 35,some 36,some 37,some 38,some 39,some 40,some 41,some 42,some 43,some 44,some 45,some 46,some 47,some 48,some 49,some 50,some 51,some 52,some 53,some 54,some 55,some 56,some 57,some 10] (by kernel_rfl) (by kernel_rfl) (by kernel_rfl) (by kernel_rfl) rfl ⟨?_,?_,?_,?_,?_,?_,?_,?_,?_,?_,?_,?_,?_,?_,?_,?_,?_,?_,?_,?_,?_,?_,?_,?_,?_,?_,?_,?_,trivial⟩ ?_
  ·intro ρ W1 hb1 H
   exact zd rfl (H.old 7 _ (by kernel_rfl) rfl) ⟨rfl,Below.refl _ _⟩
  ·intro ρ W1 hb1 H
   exact zd rfl (H.old 6 _ (by kernel_rfl) rfl) ⟨rfl,Below.refl _ _⟩
  ·intro ρ W1 hb1 H
   have e0:ρ (.tmp 32)=.int .i64 C:=H.new 32 1 (by kernel_rfl)
   refine zk rfl (fun _ _=>by kernel_rfl) (H.func _) (args:=#[.int .i64 C]) (by simp [e0]) ?_
   exact (HOC.out W1 (HT.out.below hb1 HT.out.lt)).mono fun e w' ⟨h1,h2⟩=>⟨_,h1,rfl,h2 ▸ Below.refl _ _⟩
  ·intro ρ W1 hb1 H
   exact zd rfl (H.old 8 _ (by kernel_rfl) rfl) ⟨rfl,Below.refl _ _⟩
  ·intro ρ W1 hb1 H
   exact zF (k:=0) elemB rfl (H.new 34 3 (by kernel_rfl)) (H.const _) (h0n) ⟨rfl,Below.refl _ _⟩
  ·intro ρ W1 hb1 H
   exact ze rfl (H.new 35 4 (by kernel_rfl)) Tryz.underlying5 rfl ((hb1.cell HLA0.out).trans HCB0.out) ⟨rfl,Below.refl _ _⟩
  ·intro ρ W1 hb1 H
   exact zil rfl (H.new 36 5 (by kernel_rfl)) (H.const _) HS0.out ⟨rfl,Below.refl _ _⟩
  ·intro ρ W1 hb1 H
   exact zck rfl (H.new 37 6 (by kernel_rfl)) (by kernel_rfl) Tryz.underlying3 HV0.out ⟨rfl,Below.refl _ _⟩
  ·intro ρ W1 hb1 H
   exact zcd rfl (H.new 38 7 (by kernel_rfl)) (H.const _) (by omega) (by omega) ⟨congrArg (Value.int .i64) HN.out,Below.refl _ _⟩
  ·intro ρ W1 hb1 H
   exact zd rfl (H.old 8 _ (by kernel_rfl) rfl) ⟨rfl,Below.refl _ _⟩
  ·intro ρ W1 hb1 H
   exact zF (k:=0) elemB rfl (H.new 40 9 (by kernel_rfl)) (H.const _) (h0n) ⟨rfl,Below.refl _ _⟩
  ·intro ρ W1 hb1 H
   exact ze rfl (H.new 41 10 (by kernel_rfl)) Tryz.underlying5 rfl ((hb1.cell HLA0.out).trans HCB0.out) ⟨rfl,Below.refl _ _⟩
  ·intro ρ W1 hb1 H
   exact zim rfl (H.new 42 11 (by kernel_rfl)) (H.const _) HA0.out ⟨rfl,Below.refl _ _⟩
  ·intro ρ W1 hb1 H
   exact zck rfl (H.new 43 12 (by kernel_rfl)) (by kernel_rfl) Tryz.underlying3 HVQ.out ⟨rfl,Below.refl _ _⟩
  ·intro ρ W1 hb1 H
   have e0:ρ (.tmp 44)=.int .i64 (q:Int):=H.new 44 13 (by kernel_rfl)
   refine zk rfl (fun _ _=>by kernel_rfl) (H.func _) (args:=#[.int .i64 (q:Int)]) (by simp [e0]) ?_
   exact (HOP.out W1 (HT.out.below hb1 HT.out.lt)).mono fun e w' ⟨h1,h2⟩=>⟨_,h1,rfl,h2 ▸ Below.refl _ _⟩
  ·intro ρ W1 hb1 H
   exact zd rfl (H.old 8 _ (by kernel_rfl) rfl) ⟨rfl,Below.refl _ _⟩
  ·intro ρ W1 hb1 H
   exact zF (k:=1) elemB rfl (H.new 46 15 (by kernel_rfl)) (H.const _) (h1n) ⟨rfl,Below.refl _ _⟩
  ·intro ρ W1 hb1 H
   exact ze rfl (H.new 47 16 (by kernel_rfl)) Tryz.underlying5 rfl ((hb1.cell HLA1.out).trans HCB1.out) ⟨rfl,Below.refl _ _⟩
  ·intro ρ W1 hb1 H
   exact zil rfl (H.new 48 17 (by kernel_rfl)) (H.const _) HS1.out ⟨rfl,Below.refl _ _⟩
  ·intro ρ W1 hb1 H
   exact zck rfl (H.new 49 18 (by kernel_rfl)) (by kernel_rfl) Tryz.underlying3 HVG.out ⟨rfl,Below.refl _ _⟩
  ·intro ρ W1 hb1 H
   exact zcd rfl (H.new 50 19 (by kernel_rfl)) (H.const _) (by omega) (by omega) ⟨congrArg (Value.int .i64) HG.out,Below.refl _ _⟩
  ·intro ρ W1 hb1 H
   exact zd rfl (H.old 8 _ (by kernel_rfl) rfl) ⟨rfl,Below.refl _ _⟩
  ·intro ρ W1 hb1 H
   exact zF (k:=1) elemB rfl (H.new 52 21 (by kernel_rfl)) (H.const _) (h1n) ⟨rfl,Below.refl _ _⟩
  ·intro ρ W1 hb1 H
   exact ze rfl (H.new 53 22 (by kernel_rfl)) Tryz.underlying5 rfl ((hb1.cell HLA1.out).trans HCB1.out) ⟨rfl,Below.refl _ _⟩
  ·intro ρ W1 hb1 H
   exact zim rfl (H.new 54 23 (by kernel_rfl)) (H.const _) HA1.out ⟨rfl,Below.refl _ _⟩
  ·intro ρ W1 hb1 H
   exact zck rfl (H.new 55 24 (by kernel_rfl)) (by kernel_rfl) Tryz.underlying3 HVT.out ⟨rfl,Below.refl _ _⟩
  ·intro ρ W1 hb1 H
   exact zhi rfl (H.new 31 0 (by kernel_rfl)) (H.new 33 2 (by kernel_rfl)) (H.new 39 8 (by kernel_rfl)) (H.new 45 14 (by kernel_rfl)) (H.new 51 20 (by kernel_rfl)) (H.new 56 25 (by kernel_rfl)) ⟨rfl,Below.refl _ _⟩
  ·intro ρ W1 hb1 H
   exact zg0 shape_info.choose_spec.1 shape_info.choose_spec.2 rfl ⟨⟨_,rfl,hb1.size,heap_alloc_new W1 _⟩,(Below.refl _ _).alloc (Nat.le_refl _) _⟩
  ·intro vs W1 hb1 hfs
   have f0:vs 0=.int .i64 M:=hfs 0 (by decide)
   have f1:vs 1=.int .i64 C:=hfs 1 (by decide)
   have f2:vs 2=.int .i64 W:=hfs 2 (by decide)
   have f3:vs 3=.slice (some ad) n1 c1:=hfs 3 (by decide)
   have f4:vs 4=.pointer (some (ad.add 0)):=hfs 4 (by decide)
   have f5:vs 5=.int .u8 (b0:Int):=hfs 5 (by decide)
   have f6:vs 6=.int .u8 (n0:Int):=hfs 6 (by decide)
   have f7:vs 7=.int .i64 (n0:Int):=hfs 7 (by decide)
   have f8:vs 8=.int .i64 (n:Int):=hfs 8 (by decide)
   have f9:vs 9=.slice (some ad) n1 c1:=hfs 9 (by decide)
   have f10:vs 10=.pointer (some (ad.add 0)):=hfs 10 (by decide)
   have f11:vs 11=.int .u8 (b0:Int):=hfs 11 (by decide)
   have f12:vs 12=.int .u8 (q:Int):=hfs 12 (by decide)
   have f13:vs 13=.int .i64 (q:Int):=hfs 13 (by decide)
   have f14:vs 14=.int .i64 (p:Int):=hfs 14 (by decide)
   have f15:vs 15=.slice (some ad) n1 c1:=hfs 15 (by decide)
   have f16:vs 16=.pointer (some (ad.add 1)):=hfs 16 (by decide)
   have f17:vs 17=.int .u8 (b1:Int):=hfs 17 (by decide)
   have f18:vs 18=.int .u8 (g0:Int):=hfs 18 (by decide)
   have f19:vs 19=.int .i64 (g0:Int):=hfs 19 (by decide)
   have f20:vs 20=.int .i64 (g:Int):=hfs 20 (by decide)
   have f21:vs 21=.slice (some ad) n1 c1:=hfs 21 (by decide)
   have f22:vs 22=.pointer (some (ad.add 1)):=hfs 22 (by decide)
   have f23:vs 23=.int .u8 (b1:Int):=hfs 23 (by decide)
   have f24:vs 24=.int .u8 (t:Int):=hfs 24 (by decide)
   have f25:vs 25=.int .i64 (t:Int):=hfs 25 (by decide)
   have f26:vs 26=shv M W n p g t:=hfs 26 (by decide)
   have f27:∃ h,vs 27=.pointer (some ⟨h,0,none⟩)∧w2.heap.size≤h∧Row W1 h 181 (shc 0 0 0 0 0 0):=hfs 27 (by decide)
   clear hfs
   simp only [zr,Nat.zero_add,Nat.reduceAdd,List.drop_succ_cons,List.drop_zero]
   generalize vs 27=z27 at f27 ⊢
   simp only [f0,f1,f2,f3,f4,f5,f6,f7,f8,f9,f10,f11,f12,f13,f14,f15,f16,f17,f18,f19,f20,f21,f22,f23,f24,f25,f26,Act.put,List.setIfInBounds_toArray,List.set_cons_succ,List.set_cons_zero]
   clear f0 f1 f2 f3 f4 f5 f6 f7 f8 f9 f10 f11 f12 f13 f14 f15 f16 f17 f18 f19 f20 f21 f22 f23 f24 f25 f26
   obtain ⟨h,f27,hBh,hrow⟩:=f27
   subst f27
   have hne:w.heap.size≠h:=by have:=HB2.out.size;have:=HRZ0.out.lt;omega
   have hrz:=HRZ0.out.below hb1 HRZ0.out.lt
   refine zfJ rfl _ _ _ rfl h 181 (shc 0 0 0 0 0 0) (shc M W n p g t) rfl rfl hrow zbk rfl (zhf _ _ _ _ _ _) ?_
   intro w3 hw3
   have HRH:Hid (Row w3 h 181 (shc M W n p g t)):=Lib.hid (by rw [hw3];exact zU hrow)
   have HB23:=Lib.hid (show Below w2.heap.size w2 w3 by rw [hw3];exact below_setRow hb1 hBh _)
   have HB3:=Lib.hid (HB2.out.trans (HB23.out.mono HB2.out.size))
   have HI3:=Lib.hid (HI2.out.below HB23.out)
   have HRZ:Hid (Row w3 w.heap.size 181 (shc 0 0 0 0 0 0)):=Lib.hid (by rw [hw3];exact zfE hne hrz)
   clear hrz hrow hw3 hb1
   go_wp2
   refine zbI (zbN w.heap.size 181 (shc 0 0 0 0 0 0) (shc M W n p g t)) [.is (shv M W n p g t),.is (.slice (some ad) n1 c1),.is v3,.is (shv M W n p g t),.is (.bool d),.of (fun _ X=>Row X w.heap.size 181 (shc M W n p g t)) (fun _ _ _ h hk=>hk.2.2 h),.is v3,.is (.bool d)]
    [some 58,some 59,some 60,some 61,some 62,none,some 3,some 4] (by kernel_rfl) (by kernel_rfl) (by kernel_rfl) (by kernel_rfl) rfl ⟨?_,?_,?_,?_,?_,?_,?_,?_,trivial⟩ ?_
   ·intro ρ vs W1 hb1 H
    exact zbn (cs:=shc M W n p g t) rfl (H.old 10 _ (by kernel_rfl) rfl) Tryz.underlying181 rfl zbk (zkr HRH.out hb1.1 (Ne.symm hne)) ⟨zt _ _ _,(zbN _ _ _ _).refl _⟩
   ·intro ρ vs W1 hb1 H
    exact zd rfl (H.old 8 _ (by kernel_rfl) rfl) ⟨zt _ _ _,(zbN _ _ _ _).refl _⟩
   ·intro ρ vs W1 hb1 H
    have e1:ρ (.tmp 59)=.slice (some ad) n1 c1:=H.holds 59 1 (by kernel_rfl)
    exact zL rfl e1 rfl rfl rfl (by simpa [H.const] using HV3.out W1) ⟨zt _ _ _,(zbN _ _ _ _).refl _⟩
   ·intro ρ vs W1 hb1 H
    exact zbn (cs:=shc M W n p g t) rfl (H.old 10 _ (by kernel_rfl) rfl) Tryz.underlying181 rfl zbk (zkr HRH.out hb1.1 (Ne.symm hne)) ⟨zt _ _ _,(zbN _ _ _ _).refl _⟩
   ·intro ρ vs W1 hb1 H
    have e0:ρ (.tmp 61)=shv M W n p g t:=H.holds 61 3 (by kernel_rfl)
    refine zk rfl (fun _ _=>by kernel_rfl) (H.func _) (args:=#[shv M W n p g t]) (by simp [e0]) ?_
    exact (HRM.out W1).mono fun e w' ⟨h1,h2⟩=>⟨_,h1,zt _ _ _,zks (Nat.lt_of_lt_of_le HRZ.out.lt hb1.1.size) h2⟩
   ·intro ρ vs W1 hb1 H
    rcases hb1.2.1 HRZ.out with h5 | h5
    ·exact zcR rfl (H.old 2 _ (by kernel_rfl) rfl) (H.holds 58 0 (by kernel_rfl)) h5 zbk rfl (zhf _ _ _ _ _ _) ⟨zU h5,zin h5⟩
    ·exact zcR rfl (H.old 2 _ (by kernel_rfl) rfl) (H.holds 58 0 (by kernel_rfl)) h5 zbk rfl (zhf _ _ _ _ _ _) ⟨zU h5,zin h5⟩
   ·intro ρ vs W1 hb1 H
    exact zf rfl (H.holds 60 2 (by kernel_rfl)) ⟨zt _ _ _,(zbN _ _ _ _).refl _⟩
   ·intro ρ vs W1 hb1 H
    exact zf rfl (H.holds 62 4 (by kernel_rfl)) ⟨zt _ _ _,(zbN _ _ _ _).refl _⟩
   ·intro vs W1 hb1 hfs
    have f5:Row W1 w.heap.size 181 (shc M W n p g t):=hfs 5 (by decide)
    have f6:vs 6=v3:=hfs 6 (by decide)
    have f7:vs 7=.bool d:=hfs 7 (by decide)
    clear hfs
    simp only [zr,Nat.zero_add,Nat.reduceAdd]
    generalize vs 0=z0
    generalize vs 1=z1
    generalize vs 2=z2
    generalize vs 3=z3
    generalize vs 4=z4
    generalize vs 5=z5
    simp only [f6,f7,Act.put,List.setIfInBounds_toArray,List.set_cons_succ,List.set_cons_zero]
    clear f6 f7
    have HR6:=Lib.hid f5
    have HB6:=Lib.hid (zbM HB3.out hb1.1 (Nat.le_refl _) HB3.out.size)
    have HI6:=Lib.hid (zpR HI3.out HRZ.out (zto _ _ _ _ _ _) hb1.1)
    clear f5 hb1
    go_wp2
    refine bodyPost_ret (zdW rfl _ _ _ 181 (shc M W n p g t).toArray (0,0) _ rfl HR6.out Tryz.underlying181 rfl zbk) rfl ?_
    exact ⟨_,rfl,HI6.out,HB6.out⟩
theorem zn0 {l:List Int} (h:1≤l.length):lmin l=zcw l:=by
 cases l with
 | nil=>simp at h
 | cons x l =>
  show l.foldl min x=(x::l).foldl min x
  rw [List.foldl_cons,Int.min_self]
theorem zn1 {l:List Int} (h1:1≤l.length) (h:zcw l < 0):zG l false=none:=zb0 (zhe h1) (by unfold zD;rw [if_neg (by decide),if_neg (by omega)])
theorem zlM {l:List Int} {s:Bool} (h:s=true∨∀ x∈l,0≤x):zG l s≠none:=by
 unfold zG
 induction l with
 | nil=>simp [omap]
 | cons x l ih =>
  have h1:∃ u,zD x s=some u:=by
   unfold zD
   rcases h with h | h
   ·rw [if_pos h];exact ⟨_,rfl⟩
   ·have:=h x List.mem_cons_self
    split
    ·exact ⟨_,rfl⟩
    ·first | exact ⟨_,rfl⟩ | (rw [if_pos this];exact ⟨_,rfl⟩)
  obtain ⟨u,hu⟩:=h1
  have h2:=ih (h.imp id fun h y hy=>h y (List.mem_cons_of_mem _ hy))
  rw [omap,hu]
  dsimp only
  cases hr:omap (zD · s) l with
  | none=>exact absurd hr h2
  | some r=>simp
theorem zn2 (n:Nat):zi (n:Int)=zi ((max 1 n:Nat):Int):=by
 by_cases h:n=0
 ·subst h;decide
 ·rw [show max 1 n=n by omega]
def Fact.packed (l:List UInt8):Fact:=⟨fun v w=>∃ b,v=.tuple #[b,.int .i64 0]∧IsB l b w,fun _ _ _ ⟨b,h1,h2⟩ hb=>⟨b,h1,h2.below hb⟩⟩
theorem zry (l:List Int) (v:Value) (Wi:Int) (s:Bool) (w:World) (ht:WTab w) (hv:IsV iv l v w) (hl:∀ x∈l,inInt x) (hb:l.length≤1000000) :
  Calls Tryz.prog 159 #[v,.int .i64 Wi,.bool s] w (RetEO w (zcx l Wi s)):=by
 obtain ⟨A,n,c,rfl⟩:=hv.shape
 have hn:=hv.parts.1
 have HN:=Lib.hid hn
 have HV:=Lib.hid hv
 have HL:=Lib.hid hl
 have HT:=Lib.hid ht
 by_cases hc:1≤n∧n≤512
 case neg =>
  have hE:=Lib.hid (ziY (l:=l) (W:=Wi) (s:=s) (by omega))
  have HC:=Lib.hid (zpB (n:Int) w (by omega))
  clear hv hn hl hb ht hc
  go_enter Tryz.func159,Tryz.ntmps159
  go_wp2_with (go_at_call 185;refine HC.out.mono ?_;rintro e w' ⟨rfl,rfl⟩)
  go_ret2
  rw [hE.out]
  exact RetEO.nil _ (Below.refl _ _)
 case pos =>
 obtain ⟨hn1,hn5⟩:=hc
 have HC:=Lib.hid (znS (n:Int) w (by omega) (by omega))
 have HI:=Lib.hid (zrp Wi w ht)
 by_cases hwd:Wi < 64∧0≤zbb Wi
 case neg =>
  have hE:=Lib.hid (ziY (l:=l) (W:=Wi) (s:=s) (by omega))
  rw [show (decide (Wi < 64) && decide (0≤zbb Wi))=false by simpa using hwd] at HI
  clear hv hn hl hb ht hwd
  go_enter Tryz.func159,Tryz.ntmps159
  go_wp2_with (first | (go_at_call 185;refine HC.out.mono ?_;rintro e w' ⟨rfl,rfl⟩) | (go_at_call 186;refine HI.out.mono ?_;rintro e w' ⟨rfl,rfl⟩))
  go_ret2
  rw [hE.out]
  exact RetEO.nil _ (Below.refl _ _)
 case pos =>
 rw [show (decide (Wi < 64) && decide (0≤zbb Wi))=true by simpa using hwd] at HI
 obtain ⟨W,rfl⟩:∃ W:Nat,Wi=(W:Int):=⟨Wi.toNat,by have:=zlF hwd.2;omega⟩
 have HMI:=Lib.hid (zph l _ w hv (by omega) hb)
 rw [zn0 (by omega)] at HMI
 have hbi:inInt (zcw l):=hl _ (zhe (by omega))
 have hW64:W < 64:=by omega
 have HWC:=Lib.hid (zfI hwd.2)
 have HW0:=Lib.hid hwd.2
 obtain ⟨base,hba⟩:∃ base,base=zcw l:=⟨_,rfl⟩
 by_cases hne:base = -9223372036854775808
 case pos =>
  have hE:Hid (zcx l (W:Int) s=([],1)):=Lib.hid (by
   unfold zcx
   split
   ·rfl
   ·split
    ·rfl
    ·rw [if_pos (.inl (by rw [←hba];exact hne))])
  rw [←hba,hne] at HMI
  have HD:=Lib.hid (fun X=>zpC X)
  clear hv hn hl hb ht hwd hbi hba hne
  go_enter Tryz.func159,Tryz.ntmps159
  go_wp2_with (first | (go_at_call 185;refine HC.out.mono ?_;rintro e w' ⟨rfl,rfl⟩) | (go_at_call 186;refine HI.out.mono ?_;rintro e w' ⟨rfl,rfl⟩) | (go_at_call 148;refine HMI.out.mono ?_;rintro e w' ⟨rfl,rfl⟩))
  refine (HD.out _).mono ?_
  rintro e w1 ⟨rfl,hb1⟩
  go_wp2
  go_ret2
  rw [hE.out]
  exact RetEO.nil _ hb1
 case neg =>
 have HD:=Lib.hid (fun X=>znU base X (by rw [hba];exact hbi) hne)
 have HBI:=Lib.hid (show inInt base by rw [hba];exact hbi)
 obtain ⟨hm1,hm8,_⟩:=zpw (zeu HBI.out hne).2
 rw [←hba] at HMI
 by_cases hng:base < 0∧s=false
 case pos =>
  obtain ⟨hng,rfl⟩:=hng
  have hE:=Lib.hid (ziY (l:=l) (W:=(W:Int)) (s:=false) (.inl (zn1 (by omega) (by rw [←hba];exact hng))))
  have d1:decide (base < 0)=true:=decide_eq_true hng
  clear hv hn hl hb ht hwd hbi hba hne hng
  go_enter Tryz.func159,Tryz.ntmps159
  go_wp2_with (first | (go_at_call 185;refine HC.out.mono ?_;rintro e w' ⟨rfl,rfl⟩) | (go_at_call 186;refine HI.out.mono ?_;rintro e w' ⟨rfl,rfl⟩) | (go_at_call 148;refine HMI.out.mono ?_;rintro e w' ⟨rfl,rfl⟩))
  refine (HD.out _).mono ?_
  rintro e w1 ⟨g1,rfl,hg1,hr1,hb1⟩
  go_wp2
  go_ret2
  rw [hE.out]
  exact RetEO.nil _ hb1
 case neg =>
 have HNE:=Lib.hid hne
 have hcase:decide (base < 0)=false∨(decide (base < 0)=true∧s=true):=by
  by_cases h:base < 0
  ·exact .inr ⟨decide_eq_true h,by cases s with | true=>rfl | false=>exact absurd ⟨h,rfl⟩ hng⟩
  ·exact .inl (decide_eq_false h)
 have HPL:=Lib.hid (show zG l s≠none from zlM (by
  rcases hcase with h | ⟨_,h⟩
  ·exact .inr fun x hx=>by have h1:=ziV hx;rw [←hba] at h1;have h2:=of_decide_eq_false h;omega
  ·exact .inl h))
 have HSZ:=Lib.hid (fun X (h:IsV iv l (.slice A n c) X)=>zpE base l _ X h HBI.out hl hb)
 rw [show omap (pone base) l=pups l by rw [hba];rfl] at HSZ
 cases hu:pups l with
 | none =>
  have hE:=Lib.hid (zpA (W:=(W:Int)) (s:=s) hu)
  rw [hu] at HSZ
  clear hv hn hl hb ht hwd hbi hba hne hng hu
  rcases hcase with d1 | ⟨d1,rfl⟩
  all_goals
   go_enter Tryz.func159,Tryz.ntmps159
   go_wp2_with (first | (go_at_call 185;refine HC.out.mono ?_;rintro e w' ⟨rfl,rfl⟩) | (go_at_call 186;refine HI.out.mono ?_;rintro e w' ⟨rfl,rfl⟩) | (go_at_call 148;refine HMI.out.mono ?_;rintro e w' ⟨rfl,rfl⟩))
   refine (HD.out _).mono ?_
   rintro e w1 ⟨g1,rfl,hg1,hr1,hb1⟩
   have HB1:=Lib.hid hb1
   clear hr1
   go_wp2_with fail
   refine (HSZ.out _ (HV.out.below hb1)).mono ?_
   rintro e w2 ⟨rfl,hb2⟩
   go_wp2
   go_ret2
   rw [hE.out]
   exact RetEO.nil _ (za HB1.out hb2)
 | some us =>
 have HES:=Lib.hid (znR (s:=s) HPL.out (by omega) (by omega) hwd.2 hW64 hu)
 have HUL:=Lib.hid (show us.length=n by rw [ziW hu];exact hn)
 have H64:Hid (∀ u∈us,u < 2 ^ 64):=Lib.hid fun u h=>by have:=zps hl hu u h;show u < 18446744073709551616;omega
 rw [←hba] at HES
 rw [hu] at HSZ
 obtain ⟨g1',g8',p1',p64',pc,pcc,p31',_,hq⟩:=zkd (w:=W) H64.out
 have hq2:=(zsf (w:=W) H64.out).2.2
 have hpl:=zlE W us us.length
 have hpl2:=zfj W us us.length
 obtain ⟨ps,hps⟩:∃ ps,ps=zn W us:=⟨_,rfl⟩
 rw [show (pst W us us.length).1=ps from hps.symm] at hpl
 rw [←hps] at g1' g8' p1' p64' pc pcc p31' hq hq2 HES
 have HCUT:=Lib.hid (fun X g (h:Row X g 101 (us.map uv))=>zsP us W g n X h HUL.out H64.out (by omega) (by omega))
 unfold zpI at HCUT
 rw [←hps] at HCUT
 obtain ⟨t,htl⟩:∃ t,t=ps.length:=⟨_,rfl⟩
 have ht1030:t≤1030:=by have:=HUL.out;omega
 obtain ⟨m,hm⟩:∃ m,m=pn base:=⟨_,rfl⟩
 have HSO:=Lib.hid (fun X vg vp (h:WTab X) (h1:IsV uv (ps.map (·.1)) vg X) (h2:IsV uv (ps.map (·.2)) vp X)=>zlL (n:Int) (W:Int) (m:Int) vg vp ps X h h1 h2 (fun q h=>Nat.lt_of_le_of_lt (hq2 q h).1 (by decide)) (fun q h=>(hq2 q h).2) (by omega))
 rw [zn2,pc] at HSO
 obtain ⟨G,hG⟩:∃ G,G=pgw ps:=⟨_,rfl⟩
 obtain ⟨P,hP⟩:∃ P,P=ppw ps:=⟨_,rfl⟩
 rw [←hG] at g1' g8' HES HSO hq
 rw [←hP] at p1' p64' pcc p31' HES HSO hq
 rw [←htl] at HES HSO
 have HPC:=Lib.hid pcc
 have HQ:=Lib.hid hq
 have HTL:=Lib.hid htl
 have HPS:=Lib.hid hps
 have HGE:=Lib.hid hG
 have HPE:=Lib.hid hP
 have HME:=Lib.hid hm
 unfold zsL at HD
 rw [←hm] at hm1 hm8 HD
 unfold zeC at HSO
 clear hv hn hl hb ht hwd hbi hba hne hng hu hpl hpl2 hq hq2 htl hps hG hP hm pc pcc
 rcases hcase with d1 | ⟨d1,rfl⟩
 all_goals
  go_enter Tryz.func159,Tryz.ntmps159
  go_wp2_with (first | (go_at_call 185;refine HC.out.mono ?_;rintro e w' ⟨rfl,rfl⟩) | (go_at_call 186;refine HI.out.mono ?_;rintro e w' ⟨rfl,rfl⟩) | (go_at_call 148;refine HMI.out.mono ?_;rintro e w' ⟨rfl,rfl⟩))
  refine (HD.out _).mono ?_
  rintro e w1 ⟨gd,rfl,hgd,hr1,hb1⟩
  have HB1:=Lib.hid hb1
  have HR1:=Lib.hid hr1
  have HV1:=Lib.hid (HV.out.below hb1)
  clear hr1 hb1
  go_wp2_with fail
  refine (HSZ.out _ HV1.out).mono ?_
  rintro e w2 ⟨g2,rfl,hg2,hr2,hb2⟩
  rw [HUL.out]
  have HB2:=Lib.hid (HB1.out.trans (hb2.mono HB1.out.size))
  have HR2:=Lib.hid hr2
  have HDL:=Lib.hid (show gd < g2 from Nat.lt_of_lt_of_le HR1.out.lt hg2)
  have HD2:=Lib.hid (HR1.out.below hb2 HR1.out.lt)
  have HG2:=Lib.hid (show w.heap.size≤g2 from Nat.le_trans HB1.out.size hg2)
  clear hr2 hb2
  go_wp2_with fail
  refine (HCUT.out _ _ HR2.out).mono ?_
  rintro e w3 ⟨u3,v3,rfl,hu3,hv3,hr3,hb3⟩
  obtain ⟨Ag,t1,cg,rfl⟩:=hu3.shape
  obtain ⟨Ap,t2,cp,rfl⟩:=hv3.shape
  obtain rfl:t=t1:=by have:=hu3.parts.1;rw [List.length_map] at this;have:=HTL.out;omega
  obtain rfl:t=t2:=by have:=hv3.parts.1;rw [List.length_map] at this;have:=HTL.out;omega
  have HB3:=Lib.hid (HB2.out.trans (hb3.mono HG2.out))
  have HD3:=Lib.hid (HD2.out.below hb3 HDL.out)
  have HS3:=Lib.hid hr3
  have HT3:=Lib.hid (HT.out.below HB3.out HT.out.lt)
  have HU3:=Lib.hid hu3
  have HV3:=Lib.hid hv3
  clear hr3 hu3 hv3 hb3
  obtain ⟨pb,hpb⟩:∃ pb,pb=w3.heap.size:=⟨_,rfl⟩
  obtain ⟨w4,hw4⟩:∃ w4,w4=w3.alloc (.cells #[.slice Ag t cg,.slice Ap t cp] 209):=⟨_,rfl⟩
  have hb4:Below w3.heap.size w3 w4:=by rw [hw4];exact (Below.refl _ _).alloc (Nat.le_refl _) _
  have hrp4:Row w4 pb 209 [.slice Ag t cg,.slice Ap t cp]:=by rw [hw4,hpb];exact heap_alloc_new w3 _
  unfold zeC
  have hset4:=hw4.symm
  have HB4:=Lib.hid (HB3.out.trans (hb4.mono HB3.out.size))
  have HD4:=Lib.hid (HD3.out.below hb4 HD3.out.lt)
  have HS4:=Lib.hid (HS3.out.below hb4 HS3.out.lt)
  have HU4:=Lib.hid (HU3.out.below hb4)
  have HV4:=Lib.hid (HV3.out.below hb4)
  have HRP4:=Lib.hid hrp4
  have hp0:w4.cell? ⟨w3.heap.size,0,none⟩=some (.slice Ag t cg):=by rw [←hpb];exact hrp4.cell 0
  have hp1:w4.cell? ⟨w3.heap.size,1,none⟩=some (.slice Ap t cp):=by rw [←hpb];exact hrp4.cell 1
  have HPB:=Lib.hid hpb
  clear hb4 hrp4 hw4 hpb
  go_wp2_with fail
  refine (HSO.out w4 _ _ (HT.out.below HB4.out HT.out.lt) HU4.out HV4.out).mono ?_
  rintro e w5 ⟨rfl,hb5⟩
  rw [←HPB.out]
  clear hp0 hp1 hset4
  have HB5:=Lib.hid (HB4.out.trans (hb5.mono HB4.out.size))
  obtain ⟨sb,hsb⟩:∃ sb,sb=w5.heap.size:=⟨_,rfl⟩
  obtain ⟨w6,hw6⟩:∃ w6,w6=w5.alloc (.cells (shc (n:Int) (W:Int) (m:Int) (P:Int) (G:Int) (t:Int)).toArray 181):=⟨_,rfl⟩
  have hb6:Below w4.heap.size w4 w6:=by rw [hw6];exact hb5.alloc hb5.size _
  have hrs6:Row w6 sb 181 (shc (n:Int) (W:Int) (m:Int) (P:Int) (G:Int) (t:Int)):=by rw [hw6,hsb];exact heap_alloc_new w5 _
  have hset6:=hw6.symm
  unfold shc at hset6
  have HB6:=Lib.hid (HB4.out.trans (hb6.mono HB4.out.size))
  have HD6:=Lib.hid (HD4.out.below hb6 HD4.out.lt)
  have HS6:=Lib.hid (HS4.out.below hb6 HS4.out.lt)
  have HU6:=Lib.hid (HU4.out.below hb6)
  have HV6:=Lib.hid (HV4.out.below hb6)
  have HRP6:=Lib.hid (HRP4.out.below hb6 HRP4.out.lt)
  have HRS6:=Lib.hid hrs6
  have hc0:w6.cell? ⟨sb,0,none⟩=some (.int .i64 (n:Int)):=hrs6.cell 0
  have hc1:w6.cell? ⟨sb,1,none⟩=some (.int .i64 (W:Int)):=hrs6.cell 1
  have hc2:w6.cell? ⟨sb,2,none⟩=some (.int .i64 (m:Int)):=hrs6.cell 2
  have hc3:w6.cell? ⟨sb,3,none⟩=some (.int .i64 (P:Int)):=hrs6.cell 3
  have hc4:w6.cell? ⟨sb,4,none⟩=some (.int .i64 (G:Int)):=hrs6.cell 4
  have hc5:w6.cell? ⟨sb,5,none⟩=some (.int .i64 (t:Int)):=hrs6.cell 5
  rw [hsb] at hc0 hc1 hc2 hc3 hc4 hc5
  have HSB:=Lib.hid hsb
  unfold shv shc
  clear hb5 hb6 hrs6 hw6 hsb
  by_cases h31:31 < t
  case pos =>
   have hE:Hid (zcx l (W:Int) _=([],1)):=Lib.hid (by rw [HES.out,if_pos (.inr (.inl h31))])
   have d5:decide ((31:Int) < (t:Int))=true:=decide_eq_true (by omega)
   go_wp2
   go_ret2
   rw [hE.out]
   exact RetEO.nil _ HB6.out
  case neg =>
  have d5:decide ((31:Int) < (t:Int))=false:=decide_eq_false (by omega)
  have HRM:=Lib.hid (zkh (n:Int) (W:Int) (m:Int) (P:Int) (G:Int) (t:Int) w6 ⟨by omega,by omega⟩ ⟨by omega,by omega⟩)
  unfold shv shc at HRM
  by_cases hgp:64 < G+P
  case pos =>
   have hE:Hid (zcx l (W:Int) _=([],1)):=Lib.hid (by rw [HES.out,if_pos (.inr (.inr (.inl hgp)))])
   rw [decide_eq_false (by omega:¬((G:Int)+(P:Int)≤64))] at HRM
   go_wp2_with fail
   refine HRM.out.mono ?_
   rintro e w7 ⟨rfl,hb7⟩
   go_wp2
   go_ret2
   rw [hE.out]
   exact RetEO.nil _ (za HB6.out hb7)
  case neg =>
  rw [decide_eq_true (by omega:(G:Int)+(P:Int)≤64)] at HRM
  go_wp2_with fail
  refine HRM.out.mono ?_
  rintro e w7 ⟨rfl,hb7⟩
  rw [←HSB.out]
  have hrs7:=HRS6.out.below hb7 HRS6.out.lt
  clear hc0 hc1 hc2 hc3 hc4 hc5
  have hc1:w7.cell? ⟨sb,1,none⟩=some (.int .i64 (W:Int)):=hrs7.cell 1
  have hc3:w7.cell? ⟨sb,3,none⟩=some (.int .i64 (P:Int)):=hrs7.cell 3
  have HB7:=Lib.hid (HB6.out.trans (hb7.mono HB6.out.size))
  have HD7:=Lib.hid (HD6.out.below hb7 HD6.out.lt)
  have HS7:=Lib.hid (HS6.out.below hb7 HS6.out.lt)
  have HU7:=Lib.hid (HU6.out.below hb7)
  have HV7:=Lib.hid (HV6.out.below hb7)
  have HRP7:=Lib.hid (HRP6.out.below hb7 HRP6.out.lt)
  have HRS7:=Lib.hid hrs7
  clear hb7 hrs7
  have hWPi:IntKind.i64.wrap ((W:Int)+(P:Int))=(W:Int)+(P:Int):=by rw [IntKind.wrap_i64];omega
  by_cases hwp:64 < W+P
  case pos =>
   have hE:Hid (zcx l (W:Int) _=([],1)):=Lib.hid (by rw [HES.out,if_pos (.inr (.inr (.inr hwp)))])
   have d6:decide ((64:Int) < (W:Int)+(P:Int))=true:=decide_eq_true (by omega)
   go_wp2
   go_ret2
   rw [hE.out]
   exact RetEO.nil _ HB7.out
  case neg =>
  have d6:decide ((64:Int) < (W:Int)+(P:Int))=false:=decide_eq_false (by omega)
  have hE:Hid (zcx l (W:Int) _=(play base us W,0)):=Lib.hid (by rw [HES.out,if_neg (by rintro (h | h | h | h) <;> first | exact HNE.out h | omega)])
  obtain ⟨pk,hpk⟩:∃ pk,pk=zby (plow us W) W:=⟨_,rfl⟩
  have hplen:(plow us W).length=n:=by unfold plow;rw [List.length_map,HUL.out]
  have hplt:∀ x∈plow us W,x < 2 ^ W:=fun x hx=>by
   obtain ⟨u,_,rfl⟩:=List.mem_map.1 hx
   exact Nat.mod_lt _ (Nat.two_pow_pos W)
  have HPK:=Lib.hid (zmo (W:Int) (show IsU (plow us W) (.slice (some ⟨g2,0,none⟩) n n) w7 from zcB HS7.out hplen (by omega)) (by omega) (fun x hx=>Nat.lt_of_lt_of_le (hplt x hx) (Nat.pow_le_pow_right (by omega) (by omega))))
  rw [zb6 _ _ (by omega),zdE hplt,←hpk] at HPK
  have HPKE:=Lib.hid hpk
  have HPLN:=Lib.hid hplen
  clear hpk hplen hplt
  go_wp2_with fail
  refine HPK.out.mono ?_
  rintro e w8 ⟨v8,rfl,ho8,hb8⟩
  have HB8:=Lib.hid (HB7.out.trans (hb8.mono HB7.out.size))
  have HK8:=Lib.hid (zcz ho8)
  have HD8:=Lib.hid (HD7.out.below hb8 HD7.out.lt)
  have HGA:=Lib.hid (HU7.out.below hb8)
  have HPA:=Lib.hid (HV7.out.below hb8)
  have HRP:=Lib.hid (HRP7.out.below hb8 HRP7.out.lt)
  have HRS:=Lib.hid (HRS7.out.below hb8 HRS7.out.lt)
  have HT8:=Lib.hid (HT.out.below HB8.out HT.out.lt)
  have HLS:=Lib.hid HRS.out.lt
  have HC3:=Lib.hid (show w8.cell? ⟨sb,3,none⟩=some (.int .i64 (P:Int)) from HRS.out.cell 3)
  clear ho8 hb8 hc1 hc3
  obtain ⟨V,hV⟩:∃ V,V=(zi ((G+P:Nat):Int)).toNat:=⟨_,rfl⟩
  obtain ⟨_,V64,VGP,_,_,VE,_⟩:=zkb (n:=G+P) (by omega)
  rw [←hV] at V64 VGP VE
  obtain ⟨jn,hjn⟩:∃ jn,jn=zcm ps P:=⟨_,rfl⟩
  obtain ⟨pj,hpj⟩:∃ pj,pj=zby jn V:=⟨_,rfl⟩
  have hjl:jn.length=t:=by rw [hjn];unfold zcm;rw [List.length_map,HTL.out]
  have hjlt:∀ x∈jn,x < 2 ^ V:=fun x hx=>Nat.lt_of_lt_of_le (zmJ HQ.out x (by rw [←hjn];exact hx)) (Nat.pow_le_pow_right (by omega) VGP)
  have HJN:=Lib.hid (fun X (h1:IsV uv (ps.map (·.1)) (.slice Ag t cg) X) (h2:IsV uv (ps.map (·.2)) (.slice Ap t cp) X)=>znZ (.slice Ag t cg) (.slice Ap t cp) ps P X h1 h2 (fun q h=>by
   have h3:q.1*2 ^ P < 2 ^ G*2 ^ P:=Nat.mul_lt_mul_of_pos_right (HQ.out q h).1 (Nat.two_pow_pos P)
   rw [←Nat.pow_add] at h3
   exact Nat.lt_of_lt_of_le h3 (Nat.pow_le_pow_right (by omega) (by omega))) (fun q h=>(HQ.out q h).2) (by omega) (by have:=HTL.out;omega))
  rw [←hjn] at HJN
  have HPW:=Lib.hid (fun X (h:WTab X)=>zki (n:Int) (W:Int) (m:Int) (P:Int) (G:Int) (t:Int) X h ⟨by omega,by omega⟩ ⟨by omega,by omega⟩)
  rw [show zi ((G:Int)+(P:Int))=(V:Int) by rw [←VE];congr 1] at HPW
  have HPJ:=Lib.hid (fun u X (h:IsV uv jn u X)=>zle (V:Int) (show IsU jn u X from h) (by omega) (fun x hx=>Nat.lt_of_lt_of_le (hjlt x hx) (Nat.pow_le_pow_right (by omega) V64)))
  rw [zb6 _ _ V64,zdE hjlt,←hpj] at HPJ
  have HPJE:=Lib.hid hpj
  have HJNE:=Lib.hid hjn
  have HVE:=Lib.hid hV
  have HJL:=Lib.hid hjl
  clear hV hjn hpj hjl hjlt VE
  go_wp2
  refine wp_region_list [.is (zeC (.slice Ag t cg) (.slice Ap t cp)),.is (.pointer (some ⟨sb,3,none⟩)),.is (.int .i64 (P:Int)),.vals uv jn,.is (shv (n:Int) (W:Int) (m:Int) (P:Int) (G:Int) (t:Int)),.is (.int .i64 (V:Int)),.packed pj,.packed pj,.bytes (pj),.is (.int .i64 0),.bytes (pj),.is (.int .i64 0)] [some 87,some 88,some 89,some 90,some 91,some 92,some 93,some 86,some 94,some 95,some 16,some 15] (by kernel_rfl) (by kernel_rfl) (by kernel_rfl) rfl ⟨?_,?_,?_,?_,?_,?_,?_,?_,?_,?_,?_,?_,trivial⟩ ?_
  ·intro ρ W1 hb1 H
   exact zbn (cs:=[.slice Ag t cg,.slice Ap t cp]) rfl (H.old 12 _ (by kernel_rfl) rfl) Tryz.underlying209 rfl zij (HRP.out.below hb1 HRP.out.lt) ⟨rfl,Below.refl _ _⟩
  ·intro ρ W1 hb1 H
   exact zj rfl (H.old 13 _ (by kernel_rfl) rfl) (fun W=>zhg W _) ⟨rfl,Below.refl _ _⟩
  ·intro ρ W1 hb1 H
   exact ze rfl (H.new 88 1 (by kernel_rfl)) Tryz.underlying3 rfl ((hb1.cell HLS.out).trans HC3.out) ⟨rfl,Below.refl _ _⟩
  ·intro ρ W1 hb1 H
   have e0:ρ (.tmp 87)=zeC (.slice Ag t cg) (.slice Ap t cp):=H.new 87 0 (by kernel_rfl)
   have e1:ρ (.tmp 89)=.int .i64 (P:Int):=H.new 89 2 (by kernel_rfl)
   refine zk rfl (fun _ _=>by kernel_rfl) (H.func _) (args:=#[zeC (.slice Ag t cg) (.slice Ap t cp),.int .i64 (P:Int)]) (by simp [e0,e1]) ?_
   exact (HJN.out W1 (HGA.out.below hb1) (HPA.out.below hb1)).mono fun e w' ⟨v,h1,h2,h3⟩=>⟨v,h1,h2,h3⟩
  ·intro ρ W1 hb1 H
   exact zbn (cs:=shc (n:Int) (W:Int) (m:Int) (P:Int) (G:Int) (t:Int)) rfl (H.old 13 _ (by kernel_rfl) rfl) Tryz.underlying181 rfl zbk (HRS.out.below hb1 HRS.out.lt) ⟨rfl,Below.refl _ _⟩
  ·intro ρ W1 hb1 H
   have e0:ρ (.tmp 91)=shv (n:Int) (W:Int) (m:Int) (P:Int) (G:Int) (t:Int):=H.new 91 4 (by kernel_rfl)
   refine zk rfl (fun _ _=>by kernel_rfl) (H.func _) (args:=#[shv (n:Int) (W:Int) (m:Int) (P:Int) (G:Int) (t:Int)]) (by simp [e0]) ?_
   exact (HPW.out W1 (HT8.out.below hb1 HT8.out.lt)).mono fun e w' ⟨h1,h2⟩=>⟨_,h1,rfl,h2⟩
  ·intro ρ W1 hb1 H
   have e0:IsV uv jn (ρ (.tmp 90)) W1:=H.new 90 3 (by kernel_rfl)
   have e1:ρ (.tmp 92)=.int .i64 (V:Int):=H.new 92 5 (by kernel_rfl)
   refine zk rfl (fun _ _=>by kernel_rfl) (H.func _) (args:=#[ρ (.tmp 90),.int .i64 (V:Int)]) (by simp [e1]) ?_
   exact (HPJ.out _ W1 e0).mono fun e w' ⟨v,h1,h2,h3⟩=>⟨_,h1,⟨v,rfl,h2⟩,h3⟩
  ·intro ρ W1 hb1 H
   exact zd rfl rfl ⟨H.new 93 6 (by kernel_rfl),Below.refl _ _⟩
  ·intro ρ W1 hb1 H
   have h86:∃ b,ρ (.tmp 86)=.tuple #[b,.int .i64 0]∧IsB pj b W1:=H.new 86 7 (by kernel_rfl)
   obtain ⟨b,h1,h2⟩:=h86
   exact zg rfl h1 rfl ⟨h2,Below.refl _ _⟩
  ·intro ρ W1 hb1 H
   have h86:∃ b,ρ (.tmp 86)=.tuple #[b,.int .i64 0]∧IsB pj b W1:=H.new 86 7 (by kernel_rfl)
   obtain ⟨b,h1,h2⟩:=h86
   exact zg rfl h1 rfl ⟨rfl,Below.refl _ _⟩
  ·intro ρ W1 hb1 H
   exact zf rfl rfl ⟨H.new 94 8 (by kernel_rfl),Below.refl _ _⟩
  ·intro ρ W1 hb1 H
   exact zf rfl (H.new 95 9 (by kernel_rfl)) ⟨rfl,Below.refl _ _⟩
  ·intro vs W1 hb1 hfs
   have f10:IsB (pj) (vs 10) W1:=hfs 10 (by decide)
   have f11:vs 11=.int .i64 0:=hfs 11 (by decide)
   clear hfs
   simp only [zr,Nat.zero_add,Nat.reduceAdd]
   generalize vs 0=z0
   generalize vs 1=z1
   generalize vs 2=z2
   generalize vs 3=z3
   generalize vs 4=z4
   generalize vs 5=z5
   generalize vs 6=z6
   generalize vs 7=z7
   generalize vs 8=z8
   generalize vs 9=z9
   generalize vs 10=z10 at f10 ⊢
   simp only [f11,Act.put,List.setIfInBounds_toArray,List.set_cons_succ,List.set_cons_zero]
   clear f11
   have HBJ:=Lib.hid f10
   have hrow9:=HRS.out.below hb1 HRS.out.lt
   have hc0:W1.cell? ⟨sb,0,none⟩=some (.int .i64 (n:Int)):=hrow9.cell 0
   have hc1:W1.cell? ⟨sb,1,none⟩=some (.int .i64 (W:Int)):=hrow9.cell 1
   have hc2:W1.cell? ⟨sb,2,none⟩=some (.int .i64 (m:Int)):=hrow9.cell 2
   have hc3:W1.cell? ⟨sb,3,none⟩=some (.int .i64 (P:Int)):=hrow9.cell 3
   have hc4:W1.cell? ⟨sb,4,none⟩=some (.int .i64 (G:Int)):=hrow9.cell 4
   have hc5:W1.cell? ⟨sb,5,none⟩=some (.int .i64 (t:Int)):=hrow9.cell 5
   have HB9:=Lib.hid (HB8.out.trans (hb1.mono HB8.out.size))
   have HD9:=Lib.hid (HD8.out.below hb1 HD8.out.lt)
   have HK9:=Lib.hid (HK8.out.below hb1)
   have HT9:=Lib.hid (HT8.out.below hb1 HT8.out.lt)
   clear hrow9 f10 hb1
   have HHE:=Lib.hid (zrv n W m P G t W1 HT9.out hn1 hn5 HWC.out.2.2 HWC.out.2.1 hm1 hm8 HPC.out p31' g1' g8' (by omega))
   unfold shv shc at HHE
   go_wp2_with fail
   refine HHE.out.mono ?_
   rintro e w10 ⟨v10,rfl,ho10,hb10⟩
   have HB10:=Lib.hid (HB9.out.trans (hb10.mono HB9.out.size))
   have HH10:=Lib.hid (zcz ho10)
   have HD10:=Lib.hid (HD9.out.below hb10 HD9.out.lt)
   have HK10:=Lib.hid (HK9.out.below hb10)
   have HJ10:=Lib.hid (HBJ.out.below hb10)
   clear ho10 hb10 hc0 hc1 hc2 hc3 hc4 hc5
   obtain ⟨hd,hhd⟩:∃ hd,hd=zz 2 (zb2 W) n ++ [UInt8.ofNat (32*(m - 1)+zb2 P),UInt8.ofNat (32*(G - 1)+t)]:=⟨_,rfl⟩
   rw [←hhd] at HH10
   have HHL:=Lib.hid (show hd.length=4 by rw [hhd,List.length_append,zT];rfl)
   have HHD:=Lib.hid hhd
   clear hhd
   obtain ⟨A10,n10,c10,h10⟩:=(isB_iff.1 HH10.out).shape
   obtain ⟨A8,n8,c8,h8⟩:=(isB_iff.1 HK10.out).shape
   obtain ⟨Az,nz,cz,hz⟩:=(isB_iff.1 HJ10.out).shape
   subst h10 h8 hz
   obtain ⟨xs,hxs⟩:∃ xs:List (Value × List UInt8),xs=[(.slice A10 n10 c10,hd),(.slice (some ⟨gd,0,none⟩) m m,zdr base),(.slice A8 n8 c8,pk),(.slice Az nz cz,pj)]:=⟨_,rfl⟩
   obtain ⟨w11,hw11⟩:∃ w11,w11=w10.alloc (.cells #[.slice A10 n10 c10,.slice (some ⟨gd,0,none⟩) m m,.slice A8 n8 c8,.slice Az nz cz] 38):=⟨_,rfl⟩
   have hb11:Below w10.heap.size w10 w11:=by rw [hw11];exact (Below.refl _ _).alloc (Nat.le_refl _) _
   have hpkl:pk.length≤5000:=by
    rw [HPKE.out,zcL]
    unfold zW
    rw [HPLN.out]
    have:n*W≤512*64:=Nat.mul_le_mul hn5 (by omega)
    omega
   have hpjl:pj.length≤5000:=by
    rw [HPJE.out,zcL]
    unfold zW
    rw [HJL.out]
    have:t*V≤31*64:=Nat.mul_le_mul (by omega) V64
    omega
   have hdl:(zdr base).length=m:=by rw [zdt,HME.out]
   have HCC:=Lib.hid (znX xs (.slice (some ⟨w10.heap.size,0,none⟩) 4 4) w11 (by rw [hw11,hxs];exact zeF (fun x:Value × List UInt8=>x.1) w10 38 _ 4 rfl (by omega)) (by
    intro x hx
    rw [hxs] at hx
    simp only [List.mem_cons,List.not_mem_nil,or_false] at hx
    rcases hx with h | h | h | h <;> subst h
    ·exact HH10.out.below hb11
    ·exact (zoD HD10.out hdl (by omega)).below hb11
    ·exact HK10.out.below hb11
    ·exact HJ10.out.below hb11) (by rw [hxs];simp) (by rw [hxs];simp only [List.flatMap_cons,List.flatMap_nil,List.length_append,List.length_nil];have:=HHL.out;omega))
   have HPLAY:=Lib.hid (show xs.flatMap (·.2)=play base us W by
    rw [hxs]
    simp only [List.flatMap_cons,List.flatMap_nil,List.append_nil]
    unfold play zpu
    rw [←HPS.out,←HPE.out,←HGE.out,←HME.out,←HTL.out,HUL.out,←HVE.out,←HJNE.out,←HPJE.out,←HPKE.out,HHD.out]
    simp only [List.append_assoc])
   rw [HPLAY.out] at HCC
   have HB11:=Lib.hid (HB10.out.trans (hb11.mono HB10.out.size))
   have HW11:=Lib.hid hw11
   clear hxs hpkl hpjl hdl hb11 hw11
   go_wp2_with fail
   rw [←HW11.out]
   refine HCC.out.mono ?_
   rintro e w12 ⟨v12,rfl,ho12,hb12⟩
   have HO12:=Lib.hid ho12
   have HB12:=Lib.hid (za HB11.out hb12)
   clear ho12 hb12
   go_wp2
   go_ret2
   rw [hE.out]
   exact ⟨_,rfl,zbR HB11.out.size HO12.out,HB12.out⟩
def Fact.ownU (w0:World) (us:List Nat):Fact:=⟨fun v w=>w.ownsRow w0.heap.size 101 1 v us.length (us.map uv),fun _ _ _ h hb=>own_below h hb⟩
def Fact.takenO (w0:World) (us:List Nat) (q:List UInt8) (y:Int):Fact:=⟨fun v w=>∃ u r,v=.tuple #[u,r,.int .i64 y]∧w.ownsRow w0.heap.size 101 1 u us.length (us.map uv)∧OwnB w0 q r w,fun _ _ _ ⟨u,r,h1,h2,h3⟩ hb=>⟨u,r,h1,own_below h2 hb,h3.below hb⟩⟩
theorem zrz (l:List Int) (v:Value) (W:Int) (s:Bool) (w:World) (ht:WTab w) (hv:IsV iv l v w) (hl:∀ x∈l,inInt x) (hb:l.length≤1000000) (_hW:inInt W):Calls Tryz.prog 159 #[v,.int .i64 W,.bool s] w (RetE w (zcx l W s)):=
 (zry l v W s w ht hv hl hb).mono fun _ _ h=>h.e
theorem zpT (l:List UInt8) (v:Value) (s:Bool) (w:World) (ht:WTab w) (hv:IsB l v w) (hb:l.length≤1000000) :
  Calls Tryz.prog 129 #[v,.bool s] w (RetIO w (zy l s)):=by
 by_cases hbad:(zp l).2.2.2.2≠0∨(zp l).1≠2∨(zp l).2.2.2.1.length < 2
 case pos =>
  have HLN:=Lib.hid (zsR l v w hv hb hbad)
  have hE:Hid (zy l s=([],[],2)):=Lib.hid (by
   by_cases h:(zp l).2.2.2.2≠0∨(zp l).1≠2
   ·exact zcW h
   ·have h1:(zp l).2.2.2.2=0:=Classical.byContradiction fun k=>h (.inl k)
    have h2:(zp l).1=2:=Classical.byContradiction fun k=>h (.inr k)
    have h3:(zp l).2.2.2.1.length < 2:=hbad.elim (fun k=>absurd h1 k) (fun k=>k.elim (fun k=>absurd h2 k) id)
    obtain ⟨K,C,M,r,x,hd⟩:∃ K C M r x,zp l=(K,C,M,r,x):=⟨_,_,_,_,_,rfl⟩
    rw [hd] at h1 h2 h3
    dsimp only at h1 h2 h3
    subst h1 h2
    rw [zdu hd,zdO h3])
  obtain ⟨A0,c0,rfl,_⟩:=hv
  unfold shv shc at HLN
  clear hbad
  go_enter Tryz.func129,Tryz.ntmps129
  go_wp2_with fail
  refine HLN.out.mono ?_
  rintro e w1 ⟨rfl,hb1⟩
  go_wp2
  go_ret3
  rw [hE.out]
  exact RetIO.nil _ (hb1.alloc hb1.size _)
 case neg =>
 obtain ⟨hx0,hK2,hr2⟩:(zp l).2.2.2.2=0∧(zp l).1=2∧2≤(zp l).2.2.2.1.length:=
  ⟨Classical.byContradiction fun k=>hbad (.inl k),Classical.byContradiction fun k=>hbad (.inr (.inl k)),Nat.not_lt.1 fun k=>hbad (.inr (.inr k))⟩
 rcases zgh l with ⟨_,hd⟩ | ⟨_,K,C,m,_,hC,hm1,hm5,hd⟩
 ·rw [hd] at hx0;cases hx0
 rw [hd] at hK2 hr2
 dsimp only at hK2 hr2
 obtain ⟨r,hr⟩:∃ r,r=l.drop 2:=⟨_,rfl⟩
 rw [←hr] at hd hr2
 rw [hK2] at hd
 have hrl:r.length≤1000000:=by rw [hr,List.length_drop];omega
 obtain ⟨b0,hb0⟩:∃ b:Nat,b=r[0].toNat:=⟨_,rfl⟩
 obtain ⟨b1,hb1'⟩:∃ b:Nat,b=r[1].toNat:=⟨_,rfl⟩
 have hb08:b0 < 256:=by rw [hb0];exact UInt8.toNat_lt _
 have hb18:b1 < 256:=by rw [hb1'];exact UInt8.toNat_lt _
 obtain ⟨n,hn⟩:∃ n,n=b0 / 32+1:=⟨_,rfl⟩
 obtain ⟨g,hg⟩:∃ g,g=b1 / 32+1:=⟨_,rfl⟩
 obtain ⟨t,htt⟩:∃ t,t=b1 % 32:=⟨_,rfl⟩
 obtain ⟨p,hp⟩:∃ p:Nat,wof ((b0 % 32:Nat):Int)=(p:Int):=⟨(wof ((b0 % 32:Nat):Int)).toNat,by have:=zd3 ((b0 % 32:Nat):Int);omega⟩
 have hp64:p≤64:=by have:=zd3 ((b0 % 32:Nat):Int);omega
 obtain ⟨W,hW⟩:∃ W:Nat,wof (C:Int)=(W:Int):=⟨(wof (C:Int)).toNat,by have:=zd3 (C:Int);omega⟩
 have hW64:W≤64:=by have:=zd3 (C:Int);omega
 have HLK:=Lib.hid (zrx l r v w (C:Int) (m:Int) b0 b1 n g t p ht hv hb hd hr2 hrl (by unfold inInt;omega) hb0 hb1' hn hg htt hp hp64)
 rw [hW] at HLK
 unfold zi1 at HLK
 obtain ⟨d,hdd⟩:∃ d,d=r.drop 2:=⟨_,rfl⟩
 have HPB:=Lib.hid (ziX (s:=s) (c:=(C:Int)) (m:=(m:Int)) hr2 hb0 hb1' hn hg htt hp hdd)
 have HE0:=Lib.hid (zdu (s:=s) hd)
 rw [←hdd] at HLK
 have hd6:d.length≤1000000:=by rw [hdd,List.length_drop];omega
 have HWC:=Lib.hid hW
 have HT:=Lib.hid ht
 have hn1:1≤n:=by omega
 have hn8:n≤8:=by omega
 have hg8:g≤8:=by omega
 have ht31:t≤31:=by omega
 obtain ⟨A0,c0,rfl,_⟩:=hv
 clear ht hbad hx0 hd hr hb0 hb1' hn hg htt hp hW hdd hrl hr2
 unfold shv shc at HLK
 obtain ⟨rm,hrm⟩:∃ rm,rm=decide ((g:Int)+(p:Int)≤64):=⟨_,rfl⟩
 rw [←hrm] at HLK
 by_cases hgp:64 < g+p
 case pos =>
  have hE:Hid (zy l s=([],[],2)):=Lib.hid (by rw [HE0.out,HPB.out,if_pos (.inl hgp)])
  obtain rfl:rm=false:=by rw [hrm];exact decide_eq_false (by omega)
  clear hrm
  go_enter Tryz.func129,Tryz.ntmps129
  go_wp2_with fail
  refine HLK.out.mono ?_
  rintro e w1 ⟨rv,rfl,hrv,hb1⟩
  obtain ⟨A1,n1,c1,rfl⟩:=(isB_iff.1 hrv).shape
  clear hrv
  go_wp2
  go_ret3
  rw [hE.out]
  exact RetIO.nil _ (hb1.alloc hb1.size _)
 case neg =>
 obtain rfl:rm=true:=by rw [hrm];exact decide_eq_true (by omega)
 clear hrm
 go_enter Tryz.func129,Tryz.ntmps129
 go_wp2_with fail
 refine HLK.out.mono ?_
 rintro e w1 ⟨rv,rfl,hrv,hb1⟩
 obtain ⟨A1,n1,c1,rfl⟩:=(isB_iff.1 hrv).shape
 have hn1d:d.length=n1:=(isB_iff.1 hrv).parts.1
 obtain ⟨sb,hsb⟩:∃ sb,sb=w1.heap.size:=⟨_,rfl⟩
 obtain ⟨w2,hw2⟩:∃ w2,w2=w1.alloc (.cells (shc (m:Int) (W:Int) (n:Int) (p:Int) (g:Int) (t:Int)).toArray 181):=⟨_,rfl⟩
 have hb2:Below w1.heap.size w1 w2:=by rw [hw2];exact (Below.refl _ _).alloc (Nat.le_refl _) _
 have hrs2:Row w2 sb 181 (shc (m:Int) (W:Int) (n:Int) (p:Int) (g:Int) (t:Int)):=by rw [hw2,hsb];exact heap_alloc_new w1 _
 have HB2:=Lib.hid (hb1.trans (hb2.mono hb1.size))
 have HR2:=Lib.hid (hrv.below hb2)
 have HRS2:=Lib.hid hrs2
 have HN1:=Lib.hid hn1d
 have hset2:=hw2.symm
 unfold shc at hset2
 have hc0:w2.cell? ⟨sb,0,none⟩=some (.int .i64 (m:Int)):=hrs2.cell 0
 have hc1:w2.cell? ⟨sb,1,none⟩=some (.int .i64 (W:Int)):=hrs2.cell 1
 have hc2:w2.cell? ⟨sb,2,none⟩=some (.int .i64 (n:Int)):=hrs2.cell 2
 have hc3:w2.cell? ⟨sb,3,none⟩=some (.int .i64 (p:Int)):=hrs2.cell 3
 have hc4:w2.cell? ⟨sb,4,none⟩=some (.int .i64 (g:Int)):=hrs2.cell 4
 have hc5:w2.cell? ⟨sb,5,none⟩=some (.int .i64 (t:Int)):=hrs2.cell 5
 rw [hsb] at hc0 hc1 hc2 hc3 hc4 hc5
 have HSB:=Lib.hid hsb
 clear hrv hb1 hb2 hrs2 hw2 hn1d hsb
 by_cases hdn:n1 < n
 case pos =>
  have hE:Hid (zy l s=([],[],2)):=Lib.hid (by rw [HE0.out,HPB.out,if_pos (.inr (by rw [HN1.out];exact hdn))])
  have d1:decide ((n1:Int) < (n:Int))=true:=decide_eq_true (by omega)
  go_wp2
  go_ret3
  rw [hE.out]
  exact RetIO.nil _ HB2.out
 case neg =>
 have d1:decide ((n1:Int) < (n:Int))=false:=decide_eq_false (by omega)
 have HE1:=Lib.hid (show zy l s=zfH s (zds (d.take n)) (C:Int) (m:Int) g p t (d.drop n) by rw [HE0.out,HPB.out,if_neg (by have:=HN1.out;omega)])
 obtain ⟨BA,hBA⟩:∃ BA,BA=zds (d.take n):=⟨_,rfl⟩
 have HNB:=Lib.hid (znV (d.take n) (.slice A1 n c1) w2 (isB_iff.2 ((isB_iff.1 HR2.out).take (by omega))) (by rw [List.length_take];have:=HN1.out;omega) (by rw [List.length_take];omega))
 have HBI:=Lib.hid (zig (x:=d.take n) (by rw [List.length_take];have:=HN1.out;omega) (by rw [List.length_take];omega) rfl rfl).2.1
 rw [←hBA] at HNB HE1 HBI
 clear hBA
 have hnc1:n≤c1:=by have:=(isB_iff.1 HR2.out).parts.2.2.1;omega
 have hci:(c1:Int)≤9223372036854775807:=by have:=(isB_iff.1 HR2.out).parts.2.2.2.1;unfold maxLen at this;omega
 go_wp2_with fail
 refine HNB.out.mono ?_
 rintro e w3 ⟨rfl,hb3⟩
 rw [←HSB.out]
 have HB3:=Lib.hid (HB2.out.trans (hb3.mono HB2.out.size))
 have HRS:=Lib.hid (HRS2.out.below hb3 HRS2.out.lt)
 have HLS:=Lib.hid HRS.out.lt
 have HR3:=Lib.hid (HR2.out.below hb3)
 clear hb3 hc0 hc1 hc2 hc3 hc4 hc5 hset2
 obtain ⟨hp1,hp2,hp3,hp4,hp5⟩:=(isB_iff.1 HR3.out).parts
 obtain ⟨v3,hv3,hI3⟩:=zbr (P:=Tryz.prog) (w:=w3) elemB (k:=n) (by omega) hp3 hp4 hp1 hp5 hp2
 have HI3:=Lib.hid hI3
 have HV3:=Lib.hid hv3
 clear hp1 hp2 hp3 hp4 hp5 hv3 hI3
 obtain ⟨us,q,e1,hu⟩:∃ us q y,zh (d.drop n) (m:Int) (W:Int)=(us,q,y):=⟨_,_,_,rfl⟩
 have HUN:=Lib.hid (fun X (h:IsB (d.drop n) v3 X)=>zej (m:Int) (W:Int) h (by rw [List.length_drop];omega))
 rw [hu] at HUN
 have hlt:=(zZ (l:=d.drop n) (M:=(m:Int)) (W:=(W:Int))).1
 rw [hu] at hlt
 dsimp only at hlt
 have HLT:=Lib.hid hlt
 have HUE:=Lib.hid hu
 clear hlt hu
 go_wp2
 refine wp_region_list [.is (.slice A1 n1 c1),.is (.pointer (some ⟨sb,2,none⟩)),.is (.int .i64 (n:Int)),.is (v3),.is (.pointer (some ⟨sb,0,none⟩)),.is (.int .i64 (m:Int)),.is (.pointer (some ⟨sb,1,none⟩)),.is (.int .i64 (W:Int)),.takenO w3 us q e1,.takenO w3 us q e1,.ownU w3 us,.ownB w3 q,.is (.int .i64 e1),.ownU w3 us,.ownB w3 q,.is (.int .i64 e1)] [some 36,some 37,some 38,some 39,some 40,some 41,some 42,some 43,some 44,some 35,some 45,some 46,some 47,some 11,some 8,some 12] (by kernel_rfl) (by kernel_rfl) (by kernel_rfl) rfl ⟨?_,?_,?_,?_,?_,?_,?_,?_,?_,?_,?_,?_,?_,?_,?_,?_,trivial⟩ ?_
 ·intro ρ W1 hb1 H
  exact zd rfl (H.old 8 _ (by kernel_rfl) rfl) ⟨rfl,Below.refl _ _⟩
 ·intro ρ W1 hb1 H
  exact zj rfl (H.old 7 _ (by kernel_rfl) rfl) (fun W=>zkm W _) ⟨rfl,Below.refl _ _⟩
 ·intro ρ W1 hb1 H
  exact ze rfl (H.new 37 1 (by kernel_rfl)) Tryz.underlying3 rfl ((hb1.cell HLS.out).trans (HRS.out.cell 2)) ⟨rfl,Below.refl _ _⟩
 ·intro ρ W1 hb1 H
  have e1:ρ (.tmp 38)=.int .i64 (n:Int):=H.new 38 2 (by kernel_rfl)
  exact zL rfl (H.new 36 0 (by kernel_rfl)) (by simp only [Option.map_some];rw [e1]) rfl rfl (HV3.out W1) ⟨rfl,Below.refl _ _⟩
 ·intro ρ W1 hb1 H
  exact zj rfl (H.old 7 _ (by kernel_rfl) rfl) (fun W=>zkk W _) ⟨rfl,Below.refl _ _⟩
 ·intro ρ W1 hb1 H
  exact ze rfl (H.new 40 4 (by kernel_rfl)) Tryz.underlying3 rfl ((hb1.cell HLS.out).trans (HRS.out.cell 0)) ⟨rfl,Below.refl _ _⟩
 ·intro ρ W1 hb1 H
  exact zj rfl (H.old 7 _ (by kernel_rfl) rfl) (fun W=>zkl W _) ⟨rfl,Below.refl _ _⟩
 ·intro ρ W1 hb1 H
  exact ze rfl (H.new 42 6 (by kernel_rfl)) Tryz.underlying3 rfl ((hb1.cell HLS.out).trans (HRS.out.cell 1)) ⟨rfl,Below.refl _ _⟩
 ·intro ρ W1 hb1 H
  have e0:ρ (.tmp 39)=v3:=H.new 39 3 (by kernel_rfl)
  have e1:ρ (.tmp 41)=.int .i64 (m:Int):=H.new 41 5 (by kernel_rfl)
  have e2:ρ (.tmp 43)=.int .i64 (W:Int):=H.new 43 7 (by kernel_rfl)
  refine zk rfl (fun _ _=>by kernel_rfl) (H.func _) (args:=#[v3,.int .i64 (m:Int),.int .i64 (W:Int)]) (by simp [e0,e1,e2]) ?_
  exact (HUN.out W1 (HI3.out.below hb1)).mono fun e w' ⟨u,r,h1,h2,h3,h4⟩=>⟨_,h1,⟨u,r,rfl,zbR hb1.size h2,OwnB.base hb1.size h3⟩,h4⟩
 ·intro ρ W1 hb1 H
  exact zd rfl rfl ⟨H.new 44 8 (by kernel_rfl),Below.refl _ _⟩
 ·intro ρ W1 hb1 H
  have h:∃ u r,ρ (.tmp 35)=.tuple #[u,r,.int .i64 e1]∧W1.ownsRow w3.heap.size 101 1 u us.length (us.map uv)∧OwnB w3 q r W1:=H.new 35 9 (by kernel_rfl)
  obtain ⟨u,r,h1,h2,h3⟩:=h
  exact zg rfl h1 rfl ⟨h2,Below.refl _ _⟩
 ·intro ρ W1 hb1 H
  have h:∃ u r,ρ (.tmp 35)=.tuple #[u,r,.int .i64 e1]∧W1.ownsRow w3.heap.size 101 1 u us.length (us.map uv)∧OwnB w3 q r W1:=H.new 35 9 (by kernel_rfl)
  obtain ⟨u,r,h1,h2,h3⟩:=h
  exact zg rfl h1 rfl ⟨h3,Below.refl _ _⟩
 ·intro ρ W1 hb1 H
  have h:∃ u r,ρ (.tmp 35)=.tuple #[u,r,.int .i64 e1]∧W1.ownsRow w3.heap.size 101 1 u us.length (us.map uv)∧OwnB w3 q r W1:=H.new 35 9 (by kernel_rfl)
  obtain ⟨u,r,h1,h2,h3⟩:=h
  exact zg rfl h1 rfl ⟨rfl,Below.refl _ _⟩
 ·intro ρ W1 hb1 H
  exact zf rfl rfl ⟨H.new 45 10 (by kernel_rfl),Below.refl _ _⟩
 ·intro ρ W1 hb1 H
  exact zf rfl rfl ⟨H.new 46 11 (by kernel_rfl),Below.refl _ _⟩
 ·intro ρ W1 hb1 H
  exact zf rfl (H.new 47 12 (by kernel_rfl)) ⟨rfl,Below.refl _ _⟩
 ·intro vs W1 hb1 hfs
  have f13:W1.ownsRow w3.heap.size 101 1 (vs 13) us.length (us.map uv):=hfs 13 (by decide)
  have f14:OwnB w3 q (vs 14) W1:=hfs 14 (by decide)
  have f15:vs 15=.int .i64 e1:=hfs 15 (by decide)
  clear hfs
  simp only [zr,Nat.zero_add,Nat.reduceAdd]
  generalize vs 0=z0
  generalize vs 1=z1
  generalize vs 2=z2
  generalize vs 3=z3
  generalize vs 4=z4
  generalize vs 5=z5
  generalize vs 6=z6
  generalize vs 7=z7
  generalize vs 8=z8
  generalize vs 9=z9
  generalize vs 10=z10
  generalize vs 11=z11
  generalize vs 12=z12
  generalize vs 13=z13 at f13 ⊢
  generalize vs 14=z14 at f14 ⊢
  simp only [f15,Act.put,List.setIfInBounds_toArray,List.set_cons_succ,List.set_cons_zero]
  clear f15
  have HB4:=Lib.hid (HB3.out.trans (hb1.mono HB3.out.size))
  have hrs4:=HRS.out.below hb1 HRS.out.lt
  have HZ4:=Lib.hid hb1.size
  clear HRS HLS
  have HRS:=Lib.hid hrs4
  have HLS:=Lib.hid HRS.out.lt
  have HU4:=Lib.hid f13
  have HQ4':=Lib.hid f14
  have HQ4:=Lib.hid f14.isB
  clear f13 f14 hb1 hrs4
  by_cases he1:e1=0
  case neg =>
   have hE:Hid (zy l s=([],[],2)):=Lib.hid (by rw [HE1.out,zfk (by rw [HWC.out];exact HUE.out) he1])
   have d3:(e1 != 0)=true:=by simpa using he1
   obtain ⟨Aq,nq,cq,hq0⟩:=(isB_iff.1 HQ4.out).shape
   obtain ⟨Au,cu,hu0,_⟩:=zbd HU4.out
   subst hq0 hu0
   go_wp2
   go_ret3
   rw [hE.out]
   exact RetIO.nil _ HB4.out
  case pos =>
  subst he1
  obtain ⟨hul,hql⟩:=zJ HUE.out
  have hq6:q.length≤1000000:=by rw [List.length_drop] at hql;omega
  have HUL:=Lib.hid hul
  have hu4:=HU4.out
  rw [hul] at hu4
  obtain ⟨g0,cu,hz13,hg0,hg4,hmc0,hc0m⟩:=zkg hu4 hm1
  subst hz13
  have HG4:=Lib.hid hg4
  have HG0:=Lib.hid (show w.heap.size≤g0 by have:=HB3.out.size;omega)
  have HOW4:=Lib.hid hu4
  have HT4:=Lib.hid (HT.out.below HB4.out HT.out.lt)
  obtain ⟨V,hV⟩:∃ V:Nat,zi ((g+p:Nat):Int)=(V:Int):=⟨(zi ((g+p:Nat):Int)).toNat,(zkb (by omega)).2.2.2.2.2.1⟩
  have HPW:=Lib.hid (fun X (h:WTab X)=>zki (m:Int) (W:Int) (n:Int) (p:Int) (g:Int) (t:Int) X h ⟨by omega,by omega⟩ ⟨by omega,by omega⟩)
  rw [show zi ((g:Int)+(p:Int))=(V:Int) by rw [←hV];congr 1] at HPW
  have HVC:=Lib.hid hV
  obtain ⟨bs,q2,e2,hv⟩:∃ us r y,zh q (t:Int) (V:Int)=(us,r,y):=⟨_,_,_,rfl⟩
  have HUN2:=Lib.hid (fun u X (h:IsB q u X)=>zej (t:Int) (V:Int) h hq6)
  rw [hv] at HUN2
  have hlt:=(zZ (l:=q) (M:=(t:Int)) (W:=(V:Int))).1
  rw [hv] at hlt
  dsimp only at hlt
  have HLT2:=Lib.hid hlt
  have HVE:=Lib.hid hv
  generalize W1=w4 at *
  clear hlt hv hV hul hql hu4 hg0 hg4 hc0m HU4
  obtain ⟨Aq,nq,cq,hq0⟩:=(isB_iff.1 HQ4.out).shape
  subst hq0
  go_wp2
  refine wp_region_list [.bytes (q),.is (.pointer (some ⟨sb,5,none⟩)),.is (.int .i64 (t:Int)),.is (shv (m:Int) (W:Int) (n:Int) (p:Int) (g:Int) (t:Int)),.is (.int .i64 (V:Int)),.takenO w4 bs q2 e2,.takenO w4 bs q2 e2,.ownU w4 bs,.ownB w4 q2,.is (.int .i64 e2),.ownU w4 bs,.ownB w4 q2,.is (.int .i64 e2)] [some 51,some 52,some 53,some 54,some 55,some 56,some 50,some 57,some 58,some 59,some 13,some 8,some 12] (by kernel_rfl) (by kernel_rfl) (by kernel_rfl) rfl ⟨?_,?_,?_,?_,?_,?_,?_,?_,?_,?_,?_,?_,?_,trivial⟩ ?_
  ·intro ρ W1 hb1 H
   exact zd rfl (H.old 8 _ (by kernel_rfl) rfl) ⟨HQ4.out.below hb1,Below.refl _ _⟩
  ·intro ρ W1 hb1 H
   exact zj rfl (H.old 7 _ (by kernel_rfl) rfl) (fun W=>zkn W _) ⟨rfl,Below.refl _ _⟩
  ·intro ρ W1 hb1 H
   exact ze rfl (H.new 52 1 (by kernel_rfl)) Tryz.underlying3 rfl ((hb1.cell HLS.out).trans (HRS.out.cell 5)) ⟨rfl,Below.refl _ _⟩
  ·intro ρ W1 hb1 H
   exact zbn (cs:=shc (m:Int) (W:Int) (n:Int) (p:Int) (g:Int) (t:Int)) rfl (H.old 7 _ (by kernel_rfl) rfl) Tryz.underlying181 rfl zbk (HRS.out.below hb1 HRS.out.lt) ⟨rfl,Below.refl _ _⟩
  ·intro ρ W1 hb1 H
   have e0:ρ (.tmp 54)=shv (m:Int) (W:Int) (n:Int) (p:Int) (g:Int) (t:Int):=H.new 54 3 (by kernel_rfl)
   refine zk rfl (fun _ _=>by kernel_rfl) (H.func _) (args:=#[shv (m:Int) (W:Int) (n:Int) (p:Int) (g:Int) (t:Int)]) (by simp [e0]) ?_
   exact (HPW.out W1 (HT4.out.below hb1 HT4.out.lt)).mono fun e w' ⟨h1,h2⟩=>⟨_,h1,rfl,h2⟩
  ·intro ρ W1 hb1 H
   have e0:IsB (q) (ρ (.tmp 51)) W1:=H.new 51 0 (by kernel_rfl)
   have e1:ρ (.tmp 53)=.int .i64 (t:Int):=H.new 53 2 (by kernel_rfl)
   have e2:ρ (.tmp 55)=.int .i64 (V:Int):=H.new 55 4 (by kernel_rfl)
   refine zk rfl (fun _ _=>by kernel_rfl) (H.func _) (args:=#[ρ (.tmp 51),.int .i64 (t:Int),.int .i64 (V:Int)]) (by simp [e1,e2]) ?_
   exact (HUN2.out _ W1 e0).mono fun e w' ⟨u,r,h1,h2,h3,h4⟩=>⟨_,h1,⟨u,r,rfl,zbR hb1.size h2,OwnB.base hb1.size h3⟩,h4⟩
  ·intro ρ W1 hb1 H
   exact zd rfl rfl ⟨H.new 56 5 (by kernel_rfl),Below.refl _ _⟩
  ·intro ρ W1 hb1 H
   have h:∃ u r,ρ (.tmp 50)=.tuple #[u,r,.int .i64 e2]∧W1.ownsRow w4.heap.size 101 1 u bs.length (bs.map uv)∧OwnB w4 q2 r W1:=H.new 50 6 (by kernel_rfl)
   obtain ⟨u,r,h1,h2,h3⟩:=h
   exact zg rfl h1 rfl ⟨h2,Below.refl _ _⟩
  ·intro ρ W1 hb1 H
   have h:∃ u r,ρ (.tmp 50)=.tuple #[u,r,.int .i64 e2]∧W1.ownsRow w4.heap.size 101 1 u bs.length (bs.map uv)∧OwnB w4 q2 r W1:=H.new 50 6 (by kernel_rfl)
   obtain ⟨u,r,h1,h2,h3⟩:=h
   exact zg rfl h1 rfl ⟨h3,Below.refl _ _⟩
  ·intro ρ W1 hb1 H
   have h:∃ u r,ρ (.tmp 50)=.tuple #[u,r,.int .i64 e2]∧W1.ownsRow w4.heap.size 101 1 u bs.length (bs.map uv)∧OwnB w4 q2 r W1:=H.new 50 6 (by kernel_rfl)
   obtain ⟨u,r,h1,h2,h3⟩:=h
   exact zg rfl h1 rfl ⟨rfl,Below.refl _ _⟩
  ·intro ρ W1 hb1 H
   exact zf rfl rfl ⟨H.new 57 7 (by kernel_rfl),Below.refl _ _⟩
  ·intro ρ W1 hb1 H
   exact zf rfl rfl ⟨H.new 58 8 (by kernel_rfl),Below.refl _ _⟩
  ·intro ρ W1 hb1 H
   exact zf rfl (H.new 59 9 (by kernel_rfl)) ⟨rfl,Below.refl _ _⟩
  ·intro vs W1 hb1 hfs
   have f10:W1.ownsRow w4.heap.size 101 1 (vs 10) bs.length (bs.map uv):=hfs 10 (by decide)
   have f11:OwnB w4 q2 (vs 11) W1:=hfs 11 (by decide)
   have f12:vs 12=.int .i64 e2:=hfs 12 (by decide)
   clear hfs
   simp only [zr,Nat.zero_add,Nat.reduceAdd]
   generalize vs 0=z0
   generalize vs 1=z1
   generalize vs 2=z2
   generalize vs 3=z3
   generalize vs 4=z4
   generalize vs 5=z5
   generalize vs 6=z6
   generalize vs 7=z7
   generalize vs 8=z8
   generalize vs 9=z9
   generalize vs 10=z10 at f10 ⊢
   generalize vs 11=z11 at f11 ⊢
   simp only [f12,Act.put,List.setIfInBounds_toArray,List.set_cons_succ,List.set_cons_zero]
   clear f12
   have HB5:=Lib.hid (HB4.out.trans (hb1.mono HB4.out.size))
   have hrs5:=HRS.out.below hb1 HRS.out.lt
   have hc0:W1.cell? ⟨sb,0,none⟩=some (.int .i64 (m:Int)):=hrs5.cell 0
   have hc1:W1.cell? ⟨sb,1,none⟩=some (.int .i64 (W:Int)):=hrs5.cell 1
   have hc2:W1.cell? ⟨sb,2,none⟩=some (.int .i64 (n:Int)):=hrs5.cell 2
   have hc3:W1.cell? ⟨sb,3,none⟩=some (.int .i64 (p:Int)):=hrs5.cell 3
   have hc4:W1.cell? ⟨sb,4,none⟩=some (.int .i64 (g:Int)):=hrs5.cell 4
   have hc5:W1.cell? ⟨sb,5,none⟩=some (.int .i64 (t:Int)):=hrs5.cell 5
   have HV5:=Lib.hid f10
   have HQ5:=Lib.hid f11
   have HOW5:=Lib.hid (own_below HOW4.out hb1)
   have HGZ:=Lib.hid (show g0 < W1.heap.size from Nat.lt_of_lt_of_le HG4.out hb1.size)
   have HBG:=Lib.hid hb1
   clear f10 f11 hb1 hrs5
   obtain ⟨A6,n6,c6,hq6'⟩:=(isB_iff.1 HQ5.out.isB).shape
   obtain ⟨Av,cv,hv0,_⟩:=zbd HV5.out
   subst hq6' hv0
   by_cases he2:e2=0
   case neg =>
    have hE:Hid (zy l s=([],[],2)):=Lib.hid (by rw [HE1.out,zew (by rw [HWC.out];exact HUE.out) (by rw [HVC.out];exact HVE.out) he2])
    have d4:(e2 != 0)=true:=by simpa using he2
    go_wp2
    go_ret3
    rw [hE.out]
    exact RetIO.nil _ HB5.out
   case pos =>
   subst he2
   have HVL:=Lib.hid (zJ HVE.out).1
   have HPA:=Lib.hid (zpM g0 m w3.heap.size w4.heap.size W cu p g (m:Int) (n:Int) (t:Int) us bs (.slice Av bs.length cv) W1 HOW5.out HGZ.out HV5.out HG4.out HUL.out HLT.out HLT2.out hm1 hm5 (by have:=HVL.out;omega) hW64 hp64 hg8)
   unfold shv shc at HPA
   have HE2:=Lib.hid (show zy l s=pend s BA W g p m us bs q2 by
    rw [HE1.out,zfl (by rw [HWC.out];exact HUE.out) (by rw [HVC.out];exact HVE.out),HWC.out];rfl)
   cases hpa:pall W g p m (0,us) bs with
   | none =>
    have hE:=Lib.hid (show zy l s=([],[],2) by rw [HE2.out,zdv hpa])
    rw [hpa] at HPA
    clear hpa
    go_wp2_with fail
    refine HPA.out.mono ?_
    rintro e w6 ⟨rfl,hg6⟩
    go_wp2
    go_ret3
    rw [hE.out]
    exact RetIO.nil _ (zbM HB5.out hg6 HG0.out HB5.out.size)
   | some st =>
    obtain ⟨a,low⟩:=st
    rw [hpa] at HPA
    have HE3:=Lib.hid (zeb (s:=s) (base:=BA) (q:=q2) hpa)
    clear hpa
    go_wp2_with fail
    refine HPA.out.mono ?_
    rintro e w6 ⟨rfl,ho6,hl6,hl64,hg6⟩
    have HB6:=Lib.hid (zbM HB5.out hg6 HG0.out HB5.out.size)
    have HQ6:Hid (OwnB w q2 (.slice A6 n6 c6) w6):=Lib.hid (OwnB.base HB4.out.size (HQ5.out.elim fun _ h=>⟨_,h.kept hg6 (ziZ h HG4.out)⟩))
    have HNF:=Lib.hid (zkj BA low _ s w6 (zbi (f:=uv) ho6) HBI.out hl64 (by dsimp only at hl6;omega))
    clear ho6 hl6 hl64 hg6 hc0 hc1 hc2 hc3 hc4 hc5
    cases hom:omap (zbj s false BA) low with
    | none =>
     rw [hom] at HNF
     have hE:=Lib.hid (show zy l s=([],[],2) by rw [HE2.out,HE3.out,hom])
     go_wp2_with fail
     refine HNF.out.mono ?_
     rintro e w7 ⟨rfl,hb7⟩
     go_wp2
     go_ret3
     rw [hE.out]
     exact RetIO.nil _ (za HB6.out hb7)
    | some xs =>
     rw [hom] at HNF
     have hE:=Lib.hid (show zy l s=(xs,q2,0) by rw [HE2.out,HE3.out,hom])
     go_wp2_with fail
     refine HNF.out.mono ?_
     rintro e w7 ⟨v7,rfl,hv7,hb7⟩
     have HV7:=Lib.hid hv7
     have HQ7:=Lib.hid (HQ6.out.below hb7)
     have HB7:=Lib.hid (za HB6.out hb7)
     clear hv7 hb7
     go_wp2
     go_ret3
     rw [hE.out]
     exact ⟨_,_,rfl,HV7.out,HQ7.out,HB7.out⟩
end Go.Proofs.YtblpkmmhmdpkjaaGreatDoor
