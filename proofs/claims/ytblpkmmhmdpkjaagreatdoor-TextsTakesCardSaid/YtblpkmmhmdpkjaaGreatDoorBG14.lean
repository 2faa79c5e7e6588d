import Derived.Test.YtblpkmmhmdpkjaaGreatDoorBG13
set_option maxHeartbeats 8000000
set_option maxRecDepth 100000
namespace Go.Proofs.YtblpkmmhmdpkjaaGreatDoor
open Go.RowKit
def zm4 (o:Option (List ByteArray)) (places:List UInt8) (many:Int):Option (List ByteArray):=match o with
 | none=>none
 | some ws=>if zhy ws=true then zbC ws (zca places many) else none
def zbZ (c:JC):Option (List ByteArray):=
 if c.enc=1∧c.streams.map (·.1)=[2,3] then jcut (c.streams.getD 0 (0,[])).2 (c.streams.getD 1 (0,[])).2 c.many
 else if c.enc=2∧c.streams.map (·.1)=[2,3,4] then zm4 (jcut (c.streams.getD 2 (0,[])).2 (c.streams.getD 1 (0,[])).2 c.texts) (c.streams.getD 0 (0,[])).2 c.many
 else none
def zr6 (o:Option (List ByteArray)):List ByteArray × Int:=match o with
 | none=>([],2)
 | some l=>(l,0)
theorem zm5 {b l:List UInt8} {many:Int} (h:many < 0∨4096 < many):jcut b l many=none:=by
 unfold jcut zO
 rw [if_pos h,if_pos (.inl (by decide))]
theorem zqH {places:List UInt8} {many:Int} {ns:List Int} {q:List UInt8} {y:Int} (hu:zO places many false=(ns,q,y)) (o:Option (List ByteArray)) :
  (if y≠0∨0 < q.length then ([],2) else zhJ ns o)=zr6 (zm4 o places many):=by
 have hn:zca places many=if y≠0∨0 < q.length then none else some ns:=by unfold zca;rw [hu]
 cases o with
 | none =>
  show _=zr6 none
  split <;> rfl
 | some ws =>
  unfold zm4 zhJ
  dsimp only
  by_cases hr:zhy ws=true
  ·have hr2:=hr
   unfold zhy at hr2
   rw [if_pos hr,hn,if_pos hr2]
   split
   ·rfl
   ·show _=zr6 (zch ws ns)
    cases zch ws ns <;> rfl
  ·have hr2:=hr
   unfold zhy at hr2
   rw [if_neg hr,if_neg hr2]
   split <;> rfl
theorem zma {c:JC} (h:¬(c.many < 0∨4096 < c.many)):zbP c=zr6 (zbZ c):=by
 unfold zbZ
 by_cases h1:c.enc=1∧c.streams.map (·.1)=[2,3]
 ·rw [zf6 h h1.1 h1.2,if_pos h1]
  rfl
 rw [if_neg h1]
 by_cases h2:c.enc=2∧c.streams.map (·.1)=[2,3,4]
 ·rw [if_pos h2]
  by_cases h3:c.texts < 0∨4096 < c.texts
  ·rw [zb9 h h1 (.inr (.inr h3)),zm5 h3]
   rfl
  ·obtain ⟨ns,q,y,hu⟩:∃ ns q y,zO (c.streams.getD 0 (0,[])).2 c.many false=(ns,q,y):=⟨_,_,_,rfl⟩
   rw [zhu h h2.1 h2.2 h3 hu]
   exact zqH hu _
 ·rw [if_neg h2]
  refine zb9 h h1 ?_
  by_cases h4:c.enc=2
  ·exact .inr (.inl fun h5=>h2 ⟨h4,h5⟩)
  ·exact .inl h4
def Fact.textb (w0:World) (o:Option (List ByteArray)):Fact:=⟨fun v w=>∃ u,v=.tuple #[u,.bool o.isSome]∧∀ l,o=some l→OwnV Value.string 9 w0 l u w,fun _ _ _ ⟨u,h1,h2⟩ hb=>⟨u,h1,fun l h=>(h2 l h).below hb⟩⟩
def Fact.textv (w0:World) (o:Option (List ByteArray)):Fact:=⟨fun v w=>∀ l,o=some l→OwnV Value.string 9 w0 l v w,fun _ _ _ h2 hb l h=>(h2 l h).below hb⟩
theorem zoy (c:JC) (v:Value) (w:World) (ht:WTab w) (hv:IsCol c v w) (hb:c.streams.length≤1000000) (hbb:∀ p∈c.streams,p.2.length≤1000000) :
  Calls Tryz.prog 28 #[v] w (RetTB w (zbZ c)):=by
 obtain ⟨L,sv,rfl,hL,hLb,hLs⟩:=hv
 obtain ⟨A,n,ca,rfl⟩:=hL.shape
 obtain ⟨cm,ce,ct,cs⟩:=c
 dsimp only at hLs hb hbb
 subst hLs
 unfold colv
 dsimp only
 obtain ⟨C,hC⟩:∃ C:JC,C=⟨cm,ce,ct,L.map (fun p=>(p.1,p.2.1))⟩:=⟨_,rfl⟩
 rw [←hC]
 have hks:C.streams.map (·.1)=L.map (·.1):=by rw [hC,List.map_map];rfl
 have hlen:L.length≤1000000:=by rw [List.length_map] at hb;exact hb
 have hbl:∀ p∈L,p.2.1.length≤1000000:=fun p hp=>hbb (p.1,p.2.1) (List.mem_map.2 ⟨p,hp,rfl⟩)
 have h0:=heap_alloc_new w (.cells #[.int .i64 cm,.int .i64 ce,.int .i64 ct,.slice A n ca] 27)
 have hR0:Row (w.alloc (.cells #[.int .i64 cm,.int .i64 ce,.int .i64 ct,.slice A n ca] 27)) w.heap.size 27 [.int .i64 cm,.int .i64 ce,.int .i64 ct,.slice A n ca]:=h0
 have hb0:Below w.heap.size w (w.alloc (.cells #[.int .i64 cm,.int .i64 ce,.int .i64 ct,.slice A n ca] 27)):=(Below.refl _ _).alloc (Nat.le_refl _) _
 have a0:=hR0.cell 0
 have a1:=hR0.cell 1
 have a2:=hR0.cell 2
 have a3:=hR0.cell 3
 simp only [List.getElem?_cons_zero,List.getElem?_cons_succ] at a0 a1 a2 a3
 obtain ⟨w0,hw0⟩:∃ w0,w0=w.alloc (.cells #[.int .i64 cm,.int .i64 ce,.int .i64 ct,.slice A n ca] 27):=⟨_,rfl⟩
 have hz0:w0.heap.size=w.heap.size+1:=by rw [hw0];simp
 rw [←hw0] at hR0 hb0
 have HR0:=Lib.hid hR0
 have HB0:=Lib.hid hb0
 have HZ0:=Lib.hid hz0
 have HT:=Lib.hid ht
 have HL0:=Lib.hid (hL.below hb0)
 have HLB:=Lib.hid (show ∀ p∈L,IsB p.2.1 p.2.2 w0 from fun p hp=>(hLb p hp).below hb0)
 have HLW:=Lib.hid hLb
 have HLN:=Lib.hid hL.parts.1
 have HBL:=Lib.hid hbl
 have HC:=Lib.hid hC
 have HKS:=Lib.hid hks
 have hn6:n≤1000000:=by rw [←hL.parts.1];exact hlen
 have HLE:=Lib.hid hlen
 clear hL hLb hb hbb hR0 hb0 hz0 h0 hbl hC hks hlen ht
 by_cases he1:ce=1
 case pos =>
  subst he1
  have e0:((1:Int) == 1)=true:=by decide
  have e3:((1:Int) == 2)=false:=by decide
  have HK1:=Lib.hid (zkW L [2,3] (.slice A n ca) (.slice (some ⟨w0.heap.size,0,none⟩) 2 2) (w0.alloc (.cells #[.int .i64 2,.int .i64 3] 3)) (HL0.out.below ((Below.refl _ _).alloc (Nat.le_refl _) _)) (zeF iv w0 3 [2,3] 2 rfl (by omega)) HLE.out (fun p hp=>(HLB.out p hp).below ((Below.refl _ _).alloc (Nat.le_refl _) _)))
  rw [HZ0.out] at HK1
  obtain ⟨k1,hk1⟩:∃ k1,k1=(L.map (·.1) == [2,3]):=⟨_,rfl⟩
  rw [←hk1] at HK1
  have HKK1:=Lib.hid hk1
  clear hk1
  go_enter Tryz.func28,Tryz.ntmps28
  go_wp2_with fail
  rw [←hw0]
  refine HK1.out.mono ?_
  rintro e w1 ⟨rfl,hb1⟩
  have HB01:=Lib.hid (za ((Below.refl w0.heap.size w0).alloc (Nat.le_refl _) (.cells #[.int .i64 2,.int .i64 3] 3)) hb1)
  have HB1:=Lib.hid (za HB0.out HB01.out)
  have HR1:=Lib.hid (HR0.out.below HB01.out HR0.out.lt)
  have b1':=HR1.out.cell 1
  simp only [List.getElem?_cons_zero,List.getElem?_cons_succ] at b1'
  clear hb1 hw0 a0 a1 a2 a3
  cases k1 with
  | false =>
   have hE:=Lib.hid (show zbZ C=none by
    unfold zbZ
    rw [if_neg,if_neg]
    ·rw [HC.out];rintro ⟨h,_⟩;cases h
    ·rw [HKS.out];rintro ⟨_,h⟩;have h2:=HKK1.out;rw [h] at h2;cases h2)
   go_wp2
   go_ret2
   rw [hE.out]
   exact RetTB.none _ HB1.out
  | true =>
   have hmk:L.map (·.1)=[2,3]:=by have h:=HKK1.out;simpa using h.symm
   obtain ⟨b0,v0,b1,v1,hLL⟩:=zqw hmk
   have hE2:zbZ C=jcut b0 b1 cm:=by
    unfold zbZ
    rw [if_pos ⟨by rw [HC.out],by rw [HKS.out];exact hmk⟩,HC.out,hLL]
    rfl
   have HE:=Lib.hid hE2
   subst hLL
   obtain rfl:n=2:=HLN.out.symm
   have HL1:=Lib.hid (HL0.out.below HB01.out)
   obtain ⟨ad,hAd,hadl,hc0⟩:=HL1.out.at (m:=2) (fun _=>rfl) (by omega) (k:=0) (by simp)
   obtain ⟨ad',hAd',_,hc1⟩:=HL1.out.at (m:=2) (fun _=>rfl) (by omega) (k:=1) (by simp)
   subst hAd
   injection hAd' with hAd'
   subst hAd'
   have HAB:=Lib.hid hadl
   have HC0:=Lib.hid (show w1.cell? (ad.add (0*2+1))=some v0 from hc0 1 (by omega))
   have HC1:=Lib.hid (show w1.cell? (ad.add (1*2+1))=some v1 from hc1 1 (by omega))
   have HCUT:=Lib.hid (fun (X:World) (h:Below w.heap.size w X)=>(show Calls Tryz.prog 43 #[v0,v1,.int .i64 cm] X (fun e w'=>∃ x,e=.returned x∧(∃ y,x=.tuple #[y,.bool (jcut b0 b1 cm).isSome]∧∀ l,jcut b0 b1 cm=some l→OwnV Value.string 9 w l y w')∧Below X.heap.size X w') from (ziB b0 b1 cm v0 v1 X (HT.out.below h HT.out.lt) ((HLW.out _ List.mem_cons_self).below h) ((HLW.out _ (List.mem_cons_of_mem _ List.mem_cons_self)).below h) (HBL.out _ List.mem_cons_self) (HBL.out _ (List.mem_cons_of_mem _ List.mem_cons_self))).mono fun e w' ⟨u,h3,h4,h5⟩=>⟨_,h3,⟨u,rfl,fun l hl=>(h4 l hl).base h.size⟩,h5⟩))
   clear hE2 hmk hadl hc0 hc1
   go_wp2_with fail
   refine wp_region_list [.is (.pointer (some ⟨w.heap.size,3,none⟩)),.is (.slice (some ad) 2 ca),.is (.pointer (some (ad.add (0*2)))),.is (.pointer (some ((ad.add (0*2)).add 1))),.is (v0),.is (.pointer (some ⟨w.heap.size,3,none⟩)),.is (.slice (some ad) 2 ca),.is (.pointer (some (ad.add (1*2)))),.is (.pointer (some ((ad.add (1*2)).add 1))),.is (v1),.is (.pointer (some ⟨w.heap.size,0,none⟩)),.is (.int .i64 cm),.textb w (jcut b0 b1 cm),.textv w (jcut b0 b1 cm),.is (.bool (jcut b0 b1 cm).isSome),.textv w (jcut b0 b1 cm),.is (.bool (jcut b0 b1 cm).isSome)] [some 16,some 17,some 18,some 19,some 20,some 21,some 22,some 23,some 24,some 25,some 26,some 27,some 28,some 29,some 30,some 2,some 3] (by kernel_rfl) (by kernel_rfl) (by kernel_rfl) rfl ⟨?_,?_,?_,?_,?_,?_,?_,?_,?_,?_,?_,?_,?_,?_,?_,?_,?_,trivial⟩ ?_
   ·intro ρ W1 hb1 H
    exact zj rfl (H.old 1 _ (by kernel_rfl) rfl) (fun W=>zde W _) ⟨rfl,Below.refl _ _⟩
   ·intro ρ W1 hb1 H
    exact ze rfl (H.new 16 0 (by kernel_rfl)) Tryz.underlying25 rfl ((HR1.out.below hb1 HR1.out.lt).cell 3) ⟨rfl,Below.refl _ _⟩
   ·intro ρ W1 hb1 H
    exact zu (k:=0) Tryz.underlying25 zcs rfl (H.new 17 1 (by kernel_rfl)) (H.const _) (by decide) ⟨rfl,Below.refl _ _⟩
   ·intro ρ W1 hb1 H
    exact zj rfl (H.new 18 2 (by kernel_rfl)) (fun W=>zdf W _) ⟨rfl,Below.refl _ _⟩
   ·intro ρ W1 hb1 H
    exact ze rfl (H.new 19 3 (by kernel_rfl)) Tryz.underlying38 rfl (by rw [add_add];exact (hb1.cell (by rw [add_block];exact HAB.out)).trans HC0.out) ⟨rfl,Below.refl _ _⟩
   ·intro ρ W1 hb1 H
    exact zj rfl (H.old 1 _ (by kernel_rfl) rfl) (fun W=>zde W _) ⟨rfl,Below.refl _ _⟩
   ·intro ρ W1 hb1 H
    exact ze rfl (H.new 21 5 (by kernel_rfl)) Tryz.underlying25 rfl ((HR1.out.below hb1 HR1.out.lt).cell 3) ⟨rfl,Below.refl _ _⟩
   ·intro ρ W1 hb1 H
    exact zu (k:=1) Tryz.underlying25 zcs rfl (H.new 22 6 (by kernel_rfl)) (H.const _) (by decide) ⟨rfl,Below.refl _ _⟩
   ·intro ρ W1 hb1 H
    exact zj rfl (H.new 23 7 (by kernel_rfl)) (fun W=>zdf W _) ⟨rfl,Below.refl _ _⟩
   ·intro ρ W1 hb1 H
    exact ze rfl (H.new 24 8 (by kernel_rfl)) Tryz.underlying38 rfl (by rw [add_add];exact (hb1.cell (by rw [add_block];exact HAB.out)).trans HC1.out) ⟨rfl,Below.refl _ _⟩
   ·intro ρ W1 hb1 H
    exact zj rfl (H.old 1 _ (by kernel_rfl) rfl) (fun W=>zje W _) ⟨rfl,Below.refl _ _⟩
   ·intro ρ W1 hb1 H
    exact ze rfl (H.new 26 10 (by kernel_rfl)) Tryz.underlying3 rfl ((HR1.out.below hb1 HR1.out.lt).cell 0) ⟨rfl,Below.refl _ _⟩
   ·intro ρ W1 hb1 H
    have e0:ρ (.tmp 20)=v0:=H.new 20 4 (by kernel_rfl)
    have e1:ρ (.tmp 25)=v1:=H.new 25 9 (by kernel_rfl)
    have e2:ρ (.tmp 27)=.int .i64 cm:=H.new 27 11 (by kernel_rfl)
    refine zk rfl (fun _ _=>by kernel_rfl) (H.func _) (args:=#[v0,v1,.int .i64 cm]) (by simp [e0,e1,e2]) ?_
    exact (HCUT.out W1 (HB1.out.trans (hb1.mono HB1.out.size)))
   ·intro ρ W1 hb1 H
    have hx:∃ u,ρ (.tmp 28)=.tuple #[u,.bool (jcut b0 b1 cm).isSome]∧∀ l,(jcut b0 b1 cm)=some l→OwnV Value.string 9 w l u W1:=H.new 28 12 (by kernel_rfl)
    obtain ⟨u,h1,h2⟩:=hx
    exact zg rfl h1 rfl ⟨h2,Below.refl _ _⟩
   ·intro ρ W1 hb1 H
    have hx:∃ u,ρ (.tmp 28)=.tuple #[u,.bool (jcut b0 b1 cm).isSome]∧∀ l,(jcut b0 b1 cm)=some l→OwnV Value.string 9 w l u W1:=H.new 28 12 (by kernel_rfl)
    obtain ⟨u,h1,h2⟩:=hx
    exact zg rfl h1 rfl ⟨rfl,Below.refl _ _⟩
   ·intro ρ W1 hb1 H
    exact zf rfl rfl ⟨H.new 29 13 (by kernel_rfl),Below.refl _ _⟩
   ·intro ρ W1 hb1 H
    exact zf rfl (H.new 30 14 (by kernel_rfl)) ⟨rfl,Below.refl _ _⟩
   ·intro vs W1 hb1 hfs
    have f15:∀ l,(jcut b0 b1 cm)=some l→OwnV Value.string 9 w l (vs 15) W1:=hfs 15 (by decide)
    have f16:vs 16=.bool (jcut b0 b1 cm).isSome:=hfs 16 (by decide)
    clear hfs
    simp only [zr,Nat.zero_add,Nat.reduceAdd]
    generalize vs 0=z0
    generalize vs 1=z1
    generalize vs 2=z2
    generalize vs 3=z3
    generalize vs 4=z4
    generalize vs 5=z5
    generalize vs 6=z6
    generalize vs 7=z7
    generalize vs 8=z8
    generalize vs 9=z9
    generalize vs 10=z10
    generalize vs 11=z11
    generalize vs 12=z12
    generalize vs 13=z13
    generalize vs 14=z14
    generalize vs 15=z15 at f15 ⊢
    simp only [f16,Act.put,List.setIfInBounds_toArray,List.set_cons_succ,List.set_cons_zero]
    clear f16
    go_wp2
    go_ret2
    rw [HE.out]
    exact ⟨_,rfl,f15,za HB1.out hb1⟩
 have e0:(ce == 1)=false:=by simpa using he1
 by_cases he2:ce=2
 case neg =>
  have e3:(ce == 2)=false:=by simpa using he2
  have hE:=Lib.hid (show zbZ C=none by
   unfold zbZ
   rw [if_neg,if_neg]
   ·rw [HC.out];exact fun h=>he2 h.1
   ·rw [HC.out];exact fun h=>he1 h.1)
  clear he1 he2
  go_enter Tryz.func28,Tryz.ntmps28
  go_wp2
  go_ret2
  rw [hE.out]
  rw [←hw0]
  exact RetTB.none _ HB0.out
 subst he2
 clear he1 e0
 have e0:((2:Int) == 1)=false:=by decide
 have e3:((2:Int) == 2)=true:=by decide
 have HK1:=Lib.hid (zkW L [2,3,4] (.slice A n ca) (.slice (some ⟨w0.heap.size,0,none⟩) 3 3) (w0.alloc (.cells #[.int .i64 2,.int .i64 3,.int .i64 4] 3)) (HL0.out.below ((Below.refl _ _).alloc (Nat.le_refl _) _)) (zeF iv w0 3 [2,3,4] 3 rfl (by omega)) HLE.out (fun p hp=>(HLB.out p hp).below ((Below.refl _ _).alloc (Nat.le_refl _) _)))
 rw [HZ0.out] at HK1
 obtain ⟨k1,hk1⟩:∃ k1,k1=(L.map (·.1) == [2,3,4]):=⟨_,rfl⟩
 rw [←hk1] at HK1
 have HKK1:=Lib.hid hk1
 clear hk1
 go_enter Tryz.func28,Tryz.ntmps28
 go_wp2_with fail
 rw [←hw0]
 refine HK1.out.mono ?_
 rintro e w2 ⟨rfl,hb1⟩
 have HB01:=Lib.hid (za ((Below.refl w0.heap.size w0).alloc (Nat.le_refl _) (.cells #[.int .i64 2,.int .i64 3,.int .i64 4] 3)) hb1)
 have HB2:=Lib.hid (za HB0.out HB01.out)
 have HR2:=Lib.hid (HR0.out.below HB01.out HR0.out.lt)
 clear hb1 hw0 a0 a1 a2 a3
 cases k1 with
 | false =>
  have hE:=Lib.hid (show zbZ C=none by
   unfold zbZ
   rw [if_neg,if_neg]
   ·rw [HKS.out];rintro ⟨_,h⟩;have h2:=HKK1.out;rw [h] at h2;cases h2
   ·rw [HC.out];rintro ⟨h,_⟩;cases h)
  go_wp2
  go_ret2
  rw [hE.out]
  exact RetTB.none _ HB2.out
 | true =>
  have hmk:L.map (·.1)=[2,3,4]:=by have h:=HKK1.out;simpa using h.symm
  obtain ⟨b0,v0,b1,v1,b2,v2,hLL⟩:=zkS hmk
  have hE2:zbZ C=zm4 (jcut b2 b1 ct) b0 cm:=by
   unfold zbZ
   rw [if_neg (by rw [HC.out];rintro ⟨h,_⟩;cases h),if_pos ⟨by rw [HC.out],by rw [HKS.out];exact hmk⟩,HC.out,hLL]
   rfl
  have HE:=Lib.hid hE2
  subst hLL
  obtain rfl:n=3:=HLN.out.symm
  have HL2:=Lib.hid (HL0.out.below HB01.out)
  obtain ⟨ad,hAd,hadl,hc0⟩:=HL2.out.at (m:=2) (fun _=>rfl) (by omega) (k:=0) (by simp)
  obtain ⟨ad',hAd',_,hc1⟩:=HL2.out.at (m:=2) (fun _=>rfl) (by omega) (k:=1) (by simp)
  obtain ⟨ad2,hAd2,_,hc2⟩:=HL2.out.at (m:=2) (fun _=>rfl) (by omega) (k:=2) (by simp)
  subst hAd
  injection hAd' with hAd'
  subst hAd'
  injection hAd2 with hAd2
  subst hAd2
  have HAB2:=Lib.hid hadl
  have HC02:=Lib.hid (show w2.cell? (ad.add (0*2+1))=some v0 from hc0 1 (by omega))
  have HC12:=Lib.hid (show w2.cell? (ad.add (1*2+1))=some v1 from hc1 1 (by omega))
  have HC22:=Lib.hid (show w2.cell? (ad.add (2*2+1))=some v2 from hc2 1 (by omega))
  have hm1:((3:Int),b1,v1)∈[((2:Int),b0,v0),(3,b1,v1),(4,b2,v2)]:=List.mem_cons_of_mem _ List.mem_cons_self
  have hm2:((4:Int),b2,v2)∈[((2:Int),b0,v0),(3,b1,v1),(4,b2,v2)]:=List.mem_cons_of_mem _ (List.mem_cons_of_mem _ List.mem_cons_self)
  have HCUT:=Lib.hid (fun (X:World) (h:Below w.heap.size w X)=>(show Calls Tryz.prog 43 #[v2,v1,.int .i64 ct] X (fun e w'=>∃ x,e=.returned x∧(∃ y,x=.tuple #[y,.bool (jcut b2 b1 ct).isSome]∧∀ l,jcut b2 b1 ct=some l→OwnV Value.string 9 w l y w')∧Below X.heap.size X w') from (ziB b2 b1 ct v2 v1 X (HT.out.below h HT.out.lt) ((HLW.out _ hm2).below h) ((HLW.out _ hm1).below h) (HBL.out _ hm2) (HBL.out _ hm1)).mono fun e w' ⟨u,h3,h4,h5⟩=>⟨_,h3,⟨u,rfl,fun l hl=>(h4 l hl).base h.size⟩,h5⟩))
  have HV0:=Lib.hid (fun (X:World) (h:Below w.heap.size w X)=>(HLW.out _ (List.mem_cons_self)).below h)
  clear hE2 hmk hadl hc0 hc1 hc2 hm1 hm2
  go_wp2_with fail
  refine wp_region_list [.is (.pointer (some ⟨w.heap.size,3,none⟩)),.is (.slice (some ad) 3 ca),.is (.pointer (some (ad.add (2*2)))),.is (.pointer (some ((ad.add (2*2)).add 1))),.is (v2),.is (.pointer (some ⟨w.heap.size,3,none⟩)),.is (.slice (some ad) 3 ca),.is (.pointer (some (ad.add (1*2)))),.is (.pointer (some ((ad.add (1*2)).add 1))),.is (v1),.is (.pointer (some ⟨w.heap.size,2,none⟩)),.is (.int .i64 ct),.textb w (jcut b2 b1 ct),.textb w (jcut b2 b1 ct),.textv w (jcut b2 b1 ct),.is (.bool (jcut b2 b1 ct).isSome),.textv w (jcut b2 b1 ct),.is (.bool (jcut b2 b1 ct).isSome)] [some 42,some 43,some 44,some 45,some 46,some 47,some 48,some 49,some 50,some 51,some 52,some 53,some 54,some 41,some 55,some 56,some 4,some 5] (by kernel_rfl) (by kernel_rfl) (by kernel_rfl) rfl ⟨?_,?_,?_,?_,?_,?_,?_,?_,?_,?_,?_,?_,?_,?_,?_,?_,?_,?_,trivial⟩ ?_
  ·intro ρ W1 hb1 H
   exact zj rfl (H.old 1 _ (by kernel_rfl) rfl) (fun W=>zde W _) ⟨rfl,Below.refl _ _⟩
  ·intro ρ W1 hb1 H
   exact ze rfl (H.new 42 0 (by kernel_rfl)) Tryz.underlying25 rfl ((HR2.out.below hb1 HR2.out.lt).cell 3) ⟨rfl,Below.refl _ _⟩
  ·intro ρ W1 hb1 H
   exact zu (k:=2) Tryz.underlying25 zcs rfl (H.new 43 1 (by kernel_rfl)) (H.const _) (by decide) ⟨rfl,Below.refl _ _⟩
  ·intro ρ W1 hb1 H
   exact zj rfl (H.new 44 2 (by kernel_rfl)) (fun W=>zdf W _) ⟨rfl,Below.refl _ _⟩
  ·intro ρ W1 hb1 H
   exact ze rfl (H.new 45 3 (by kernel_rfl)) Tryz.underlying38 rfl (by rw [add_add];exact (hb1.cell (by rw [add_block];exact HAB2.out)).trans HC22.out) ⟨rfl,Below.refl _ _⟩
  ·intro ρ W1 hb1 H
   exact zj rfl (H.old 1 _ (by kernel_rfl) rfl) (fun W=>zde W _) ⟨rfl,Below.refl _ _⟩
  ·intro ρ W1 hb1 H
   exact ze rfl (H.new 47 5 (by kernel_rfl)) Tryz.underlying25 rfl ((HR2.out.below hb1 HR2.out.lt).cell 3) ⟨rfl,Below.refl _ _⟩
  ·intro ρ W1 hb1 H
   exact zu (k:=1) Tryz.underlying25 zcs rfl (H.new 48 6 (by kernel_rfl)) (H.const _) (by decide) ⟨rfl,Below.refl _ _⟩
  ·intro ρ W1 hb1 H
   exact zj rfl (H.new 49 7 (by kernel_rfl)) (fun W=>zdf W _) ⟨rfl,Below.refl _ _⟩
  ·intro ρ W1 hb1 H
   exact ze rfl (H.new 50 8 (by kernel_rfl)) Tryz.underlying38 rfl (by rw [add_add];exact (hb1.cell (by rw [add_block];exact HAB2.out)).trans HC12.out) ⟨rfl,Below.refl _ _⟩
  ·intro ρ W1 hb1 H
   exact zj rfl (H.old 1 _ (by kernel_rfl) rfl) (fun W=>zqv W _) ⟨rfl,Below.refl _ _⟩
  ·intro ρ W1 hb1 H
   exact ze rfl (H.new 52 10 (by kernel_rfl)) Tryz.underlying3 rfl ((HR2.out.below hb1 HR2.out.lt).cell 2) ⟨rfl,Below.refl _ _⟩
  ·intro ρ W1 hb1 H
   have e0:ρ (.tmp 46)=v2:=H.new 46 4 (by kernel_rfl)
   have e1:ρ (.tmp 51)=v1:=H.new 51 9 (by kernel_rfl)
   have e2:ρ (.tmp 53)=.int .i64 ct:=H.new 53 11 (by kernel_rfl)
   refine zk rfl (fun _ _=>by kernel_rfl) (H.func _) (args:=#[v2,v1,.int .i64 ct]) (by simp [e0,e1,e2]) ?_
   exact (HCUT.out W1 (HB2.out.trans (hb1.mono HB2.out.size)))
  ·intro ρ W1 hb1 H
   exact zd rfl rfl ⟨H.new 54 12 (by kernel_rfl),Below.refl _ _⟩
  ·intro ρ W1 hb1 H
   have hx:∃ u,ρ (.tmp 41)=.tuple #[u,.bool (jcut b2 b1 ct).isSome]∧∀ l,(jcut b2 b1 ct)=some l→OwnV Value.string 9 w l u W1:=H.new 41 13 (by kernel_rfl)
   obtain ⟨u,h1,h2⟩:=hx
   exact zg rfl h1 rfl ⟨h2,Below.refl _ _⟩
  ·intro ρ W1 hb1 H
   have hx:∃ u,ρ (.tmp 41)=.tuple #[u,.bool (jcut b2 b1 ct).isSome]∧∀ l,(jcut b2 b1 ct)=some l→OwnV Value.string 9 w l u W1:=H.new 41 13 (by kernel_rfl)
   obtain ⟨u,h1,h2⟩:=hx
   exact zg rfl h1 rfl ⟨rfl,Below.refl _ _⟩
  ·intro ρ W1 hb1 H
   exact zf rfl rfl ⟨H.new 55 14 (by kernel_rfl),Below.refl _ _⟩
  ·intro ρ W1 hb1 H
   exact zf rfl (H.new 56 15 (by kernel_rfl)) ⟨rfl,Below.refl _ _⟩
  ·intro vs W1 hb1 hfs
   have f16:∀ l,(jcut b2 b1 ct)=some l→OwnV Value.string 9 w l (vs 16) W1:=hfs 16 (by decide)
   have f17:vs 17=.bool (jcut b2 b1 ct).isSome:=hfs 17 (by decide)
   clear hfs
   simp only [zr,Nat.zero_add,Nat.reduceAdd]
   generalize vs 0=z0
   generalize vs 1=z1
   generalize vs 2=z2
   generalize vs 3=z3
   generalize vs 4=z4
   generalize vs 5=z5
   generalize vs 6=z6
   generalize vs 7=z7
   generalize vs 8=z8
   generalize vs 9=z9
   generalize vs 10=z10
   generalize vs 11=z11
   generalize vs 12=z12
   generalize vs 13=z13
   generalize vs 14=z14
   generalize vs 15=z15
   generalize vs 16=z16 at f16 ⊢
   simp only [f17,Act.put,List.setIfInBounds_toArray,List.set_cons_succ,List.set_cons_zero]
   clear f17
   have HB3:=Lib.hid (za HB2.out hb1)
   have HWO:=Lib.hid f16
   have HB23:=Lib.hid hb1
   have HR3:=Lib.hid (HR2.out.below hb1 HR2.out.lt)
   obtain ⟨w3,hw3⟩:∃ w3,w3=W1:=⟨_,rfl⟩
   rw [←hw3] at HB3 HWO HB23 HR3 ⊢
   clear hw3 hb1 f16 W1
   cases hcut:jcut b2 b1 ct with
   | none =>
    have HE2:=Lib.hid (show zbZ C=none by rw [HE.out,hcut];rfl)
    clear hcut
    dsimp only [Option.isSome]
    go_wp2
    go_ret2
    rw [HE2.out]
    exact RetTB.none _ HB3.out
   | some ws =>
    have HW:=Lib.hid (HWO.out ws hcut)
    have hlw:ws.length≤4096:=by
     by_cases h3:ct < 0∨4096 < ct
     ·rw [zm5 h3] at hcut;cases hcut
     ·obtain ⟨T,rfl⟩:=Int.eq_ofNat_of_zero_le (show 0≤ct by omega)
      have:=zhv hcut
      omega
    have HLW4:=Lib.hid hlw
    obtain ⟨Bw,wn,wc,hsv⟩:=HW.out.isV.shape
    rw [hsv] at HW ⊢
    have HRI:=Lib.hid (zqF ws _ w3 HW.out.isV (by omega))
    have HE2:=Lib.hid (show zbZ C=if zhy ws=true then zbC ws (zca b0 cm) else none by rw [HE.out,hcut];rfl)
    obtain ⟨q,hq⟩:∃ q,q=zhy ws:=⟨_,rfl⟩
    rw [←hq] at HRI HE2
    clear hcut hlw hsv hq HWO
    dsimp only [Option.isSome]
    go_wp2_with fail
    refine HRI.out.mono ?_
    rintro e w4 ⟨rfl,hb4⟩
    have HB4:=Lib.hid (za HB3.out hb4)
    have HB24:=Lib.hid (za HB23.out hb4)
    have HR4:=Lib.hid (HR3.out.below hb4 HR3.out.lt)
    have HW4:=Lib.hid (HW.out.below hb4)
    have HAB4:=Lib.hid (Nat.lt_of_lt_of_le HAB2.out HB24.out.size)
    have HC04:=Lib.hid ((HB24.out.cell (p:=ad.add (0*2+1)) (by rw [add_block];exact HAB2.out)).trans HC02.out)
    clear hb4
    cases q with
    | false =>
     go_wp2
     go_ret2
     rw [HE2.out]
     exact RetTB.none _ HB4.out
    | true =>
     have HCH:=Lib.hid (fun (X:World) (h:Below w4.heap.size w4 X)=>(show Calls Tryz.prog 45 #[.slice Bw wn wc,v0,.int .i64 cm] X (fun e w'=>∃ x,e=.returned x∧(∃ y,x=.tuple #[y,.bool (zbC ws (zca b0 cm)).isSome]∧∀ l,zbC ws (zca b0 cm)=some l→OwnV Value.string 9 w l y w')∧Below X.heap.size X w') from (zl8 ws b0 _ v0 cm X (HT.out.below (za HB4.out h) HT.out.lt) (HW4.out.below h).isV (HV0.out X (za HB4.out h)) (by have:=HLW4.out;omega) (HBL.out _ List.mem_cons_self)).mono fun e w' ⟨u,h3,h4,h5⟩=>⟨_,h3,⟨u,rfl,fun l hl=>(h4 l hl).base (za HB4.out h).size⟩,h5⟩))
     go_wp2_with fail
     refine wp_region_list [.is (.slice Bw wn wc),.is (.pointer (some ⟨w.heap.size,3,none⟩)),.is (.slice (some ad) 3 ca),.is (.pointer (some (ad.add (0*2)))),.is (.pointer (some ((ad.add (0*2)).add 1))),.is (v0),.is (.pointer (some ⟨w.heap.size,0,none⟩)),.is (.int .i64 cm),.textb w (zbC ws (zca b0 cm)),.textv w (zbC ws (zca b0 cm)),.is (.bool (zbC ws (zca b0 cm)).isSome),.textv w (zbC ws (zca b0 cm)),.is (.bool (zbC ws (zca b0 cm)).isSome)] [some 64,some 65,some 66,some 67,some 68,some 69,some 70,some 71,some 72,some 73,some 74,some 2,some 3] (by kernel_rfl) (by kernel_rfl) (by kernel_rfl) rfl ⟨?_,?_,?_,?_,?_,?_,?_,?_,?_,?_,?_,?_,?_,trivial⟩ ?_
     ·intro ρ W1 hb1 H
      exact zd rfl (H.old 4 _ (by kernel_rfl) rfl) ⟨rfl,Below.refl _ _⟩
     ·intro ρ W1 hb1 H
      exact zj rfl (H.old 1 _ (by kernel_rfl) rfl) (fun W=>zde W _) ⟨rfl,Below.refl _ _⟩
     ·intro ρ W1 hb1 H
      exact ze rfl (H.new 65 1 (by kernel_rfl)) Tryz.underlying25 rfl ((HR4.out.below hb1 HR4.out.lt).cell 3) ⟨rfl,Below.refl _ _⟩
     ·intro ρ W1 hb1 H
      exact zu (k:=0) Tryz.underlying25 zcs rfl (H.new 66 2 (by kernel_rfl)) (H.const _) (by decide) ⟨rfl,Below.refl _ _⟩
     ·intro ρ W1 hb1 H
      exact zj rfl (H.new 67 3 (by kernel_rfl)) (fun W=>zdf W _) ⟨rfl,Below.refl _ _⟩
     ·intro ρ W1 hb1 H
      exact ze rfl (H.new 68 4 (by kernel_rfl)) Tryz.underlying38 rfl (by rw [add_add];exact (hb1.cell (by rw [add_block];exact HAB4.out)).trans HC04.out) ⟨rfl,Below.refl _ _⟩
     ·intro ρ W1 hb1 H
      exact zj rfl (H.old 1 _ (by kernel_rfl) rfl) (fun W=>zje W _) ⟨rfl,Below.refl _ _⟩
     ·intro ρ W1 hb1 H
      exact ze rfl (H.new 70 6 (by kernel_rfl)) Tryz.underlying3 rfl ((HR4.out.below hb1 HR4.out.lt).cell 0) ⟨rfl,Below.refl _ _⟩
     ·intro ρ W1 hb1 H
      have e0:ρ (.tmp 64)=.slice Bw wn wc:=H.new 64 0 (by kernel_rfl)
      have e1:ρ (.tmp 69)=v0:=H.new 69 5 (by kernel_rfl)
      have e2:ρ (.tmp 71)=.int .i64 cm:=H.new 71 7 (by kernel_rfl)
      refine zk rfl (fun _ _=>by kernel_rfl) (H.func _) (args:=#[.slice Bw wn wc,v0,.int .i64 cm]) (by simp [e0,e1,e2]) ?_
      exact (HCH.out W1 hb1)
     ·intro ρ W1 hb1 H
      have hx:∃ u,ρ (.tmp 72)=.tuple #[u,.bool (zbC ws (zca b0 cm)).isSome]∧∀ l,(zbC ws (zca b0 cm))=some l→OwnV Value.string 9 w l u W1:=H.new 72 8 (by kernel_rfl)
      obtain ⟨u,h1,h2⟩:=hx
      exact zg rfl h1 rfl ⟨h2,Below.refl _ _⟩
     ·intro ρ W1 hb1 H
      have hx:∃ u,ρ (.tmp 72)=.tuple #[u,.bool (zbC ws (zca b0 cm)).isSome]∧∀ l,(zbC ws (zca b0 cm))=some l→OwnV Value.string 9 w l u W1:=H.new 72 8 (by kernel_rfl)
      obtain ⟨u,h1,h2⟩:=hx
      exact zg rfl h1 rfl ⟨rfl,Below.refl _ _⟩
     ·intro ρ W1 hb1 H
      exact zf rfl rfl ⟨H.new 73 9 (by kernel_rfl),Below.refl _ _⟩
     ·intro ρ W1 hb1 H
      exact zf rfl (H.new 74 10 (by kernel_rfl)) ⟨rfl,Below.refl _ _⟩
     ·intro vs W1 hb1 hfs
      have f11:∀ l,(zbC ws (zca b0 cm))=some l→OwnV Value.string 9 w l (vs 11) W1:=hfs 11 (by decide)
      have f12:vs 12=.bool (zbC ws (zca b0 cm)).isSome:=hfs 12 (by decide)
      clear hfs
      simp only [zr,Nat.zero_add,Nat.reduceAdd]
      generalize vs 0=z0
      generalize vs 1=z1
      generalize vs 2=z2
      generalize vs 3=z3
      generalize vs 4=z4
      generalize vs 5=z5
      generalize vs 6=z6
      generalize vs 7=z7
      generalize vs 8=z8
      generalize vs 9=z9
      generalize vs 10=z10
      generalize vs 11=z11 at f11 ⊢
      simp only [f12,Act.put,List.setIfInBounds_toArray,List.set_cons_succ,List.set_cons_zero]
      clear f12
      go_wp2
      go_ret2
      rw [HE2.out]
      exact ⟨_,rfl,f11,za HB4.out hb1⟩
theorem zqI (c:JC) (v:Value) (w:World) (ht:WTab w) (hv:IsCol c v w) (hb:c.streams.length≤1000000) (hbb:∀ p∈c.streams,p.2.length≤1000000):Calls Tryz.prog 17 #[v] w (RetTE w (zbP c)):=by
 have HCOL:=Lib.hid hv
 obtain ⟨L,sv,rfl,hL,_,_⟩:=hv
 obtain ⟨A,n,ca,rfl⟩:=hL.shape
 have hbA:Below w.heap.size w (w.alloc (.cells #[.int .i64 c.many,.int .i64 c.enc,.int .i64 c.texts,.slice A n ca] 27)):=(Below.refl _ _).alloc (Nat.le_refl _) _
 have hRA:Row (w.alloc (.cells #[.int .i64 c.many,.int .i64 c.enc,.int .i64 c.texts,.slice A n ca] 27)) w.heap.size 27 [.int .i64 c.many,.int .i64 c.enc,.int .i64 c.texts,.slice A n ca]:=heap_alloc_new w _
 have a0:=hRA.cell 0
 have a1:=hRA.cell 1
 have a2:=hRA.cell 2
 have a3:=hRA.cell 3
 simp only [List.getElem?_cons_zero,List.getElem?_cons_succ] at a0 a1 a2 a3
 have HBA:=Lib.hid hbA
 have HTK:=Lib.hid (zoy c _ _ (ht.below hbA ht.lt) (HCOL.out.below hbA) hb hbb)
 unfold colv at HTK ⊢
 have HJ:=Lib.hid (fun h:¬(c.many < 0∨4096 < c.many)=>zma h)
 obtain ⟨o,ho⟩:∃ o,o=zbZ c:=⟨_,rfl⟩
 rw [←ho] at HTK HJ
 have HARG:=Lib.hid (fun h:c.many < 0∨4096 < c.many=>zfP h)
 obtain ⟨p,hp⟩:∃ p,p=zbP c:=⟨_,rfl⟩
 rw [←hp] at HJ HARG ⊢
 clear ht hb hbb hL hbA ho hp HCOL
 obtain ⟨cm,hcm⟩:∃ cm,cm=c.many:=⟨_,rfl⟩
 by_cases hlo:c.many < 0
 case pos =>
  have hE:=Lib.hid (HARG.out (.inl hlo))
  have d1:decide (c.many < 0)=true:=decide_eq_true hlo
  go_enter Tryz.func17,Tryz.ntmps17
  go_wp2
  go_ret2
  rw [hE.out]
  exact RetTE.nil _ HBA.out
 by_cases hhi:4096 < c.many
 case pos =>
  have hE:=Lib.hid (HARG.out (.inr hhi))
  have d1:decide (c.many < 0)=false:=decide_eq_false hlo
  have d2:decide (4096 < c.many)=true:=decide_eq_true hhi
  go_enter Tryz.func17,Tryz.ntmps17
  go_wp2
  go_ret2
  rw [hE.out]
  exact RetTE.nil _ HBA.out
 have hE:=Lib.hid (HJ.out (by omega))
 have d1:decide (c.many < 0)=false:=decide_eq_false hlo
 have d2:decide (4096 < c.many)=false:=decide_eq_false hhi
 clear hlo hhi
 go_enter Tryz.func17,Tryz.ntmps17
 go_wp2_with fail
 refine HTK.out.mono ?_
 rintro e w1 ⟨u,rfl,hu,hb1⟩
 have HU:=Lib.hid hu
 have HB1:=Lib.hid (za HBA.out hb1)
 clear hu hb1
 cases o with
 | none =>
  dsimp only [Option.isSome]
  go_wp2
  go_ret2
  rw [hE.out]
  exact RetTE.nil _ HB1.out
 | some l =>
  have HO:=Lib.hid ((HU.out l rfl).base HBA.out.size)
  dsimp only [Option.isSome]
  go_wp2
  go_ret2
  rw [hE.out]
  exact ⟨_,rfl,HO.out,HB1.out⟩
theorem js1:zl1 [⟨#[97,98]⟩,⟨#[99]⟩]=(⟨2,1,0,[(2,[97,98,99]),(3,[66,1,144])]⟩,0):=by kernel_rfl
theorem js2:zl1 [⟨#[98]⟩,⟨#[97]⟩,⟨#[98]⟩,⟨#[98]⟩]=(⟨4,2,2,[(2,[64,3,176]),(3,[64,1,192]),(4,[97,98])]⟩,0):=by kernel_rfl
theorem zr7 {L:List (Int × List UInt8 × Value)} {p q:Int × List UInt8} (h:[p,q]=L.map fun x=>(x.1,x.2.1)):∃ u v,L=[(p.1,p.2,u),(q.1,q.2,v)]:=by
 rcases L with _ | ⟨⟨x,b0,v0⟩,_ | ⟨⟨y,b1,v1⟩,_ | ⟨r,L⟩⟩⟩
 ·cases h
 ·simp at h
 ·injection h with h1 h2
  injection h2 with h2 _
  subst h1 h2
  exact ⟨v0,v1,rfl⟩
 ·simp at h
theorem zoz {L:List (Int × List UInt8 × Value)} {p q r:Int × List UInt8} (h:[p,q,r]=L.map fun x=>(x.1,x.2.1)):∃ u v z,L=[(p.1,p.2,u),(q.1,q.2,v),(r.1,r.2,z)]:=by
 rcases L with _ | ⟨⟨x,b0,v0⟩,_ | ⟨⟨y,b1,v1⟩,_ | ⟨⟨z,b2,v2⟩,_ | ⟨r,L⟩⟩⟩⟩
 ·cases h
 ·simp at h
 ·simp at h
 ·injection h with h1 h2
  injection h2 with h2 h3
  injection h3 with h3 _
  subst h1 h2 h3
  exact ⟨v0,v1,v2,rfl⟩
 ·simp at h
theorem ziC {L:List (Int × List UInt8 × Value)} {v:Value} {w:World} (h:IsR zdY L v w) (h0:0 < L.length):∃ g o c,v=.slice (some ⟨g,o,none⟩) L.length c∧g < w.heap.size∧∀ k,(hk:k < L.length)→w.cell? ⟨g,o+(k*2+1),none⟩=some L[k].2.2:=by
 obtain ⟨A,n,c,rfl⟩:=h.shape
 obtain ⟨ad,hA,hlt,hc⟩:=h.at (m:=2) (fun _=>rfl) (by omega) h0
 subst hA
 have hs:=World.cell?_spot (hc 0 (by omega))
 obtain ⟨g,o,sp⟩:=ad
 have hsp:sp=none:=by simpa [Addr.add] using hs
 subst hsp
 refine ⟨g,o,c,by rw [h.parts.1],hlt,fun k hk=>?_⟩
 obtain ⟨ad2,hA2,_,hc2⟩:=h.at (m:=2) (fun _=>rfl) (by omega) hk
 injection hA2 with hA2
 subst hA2
 exact hc2 1 (by omega)
theorem zqJ (w:World) (ht:WTab w):Calls Tryz.prog 8 #[] w fun e w'=>e=.returned (.bool true)∧Below w.heap.size w w':=by
 have HT:=Lib.hid ht
 have h1:=zm1 [⟨#[97,98]⟩,⟨#[99]⟩] _ _ (ht.below ((Below.refl _ w).alloc (Nat.le_refl _) _) ht.lt) (zeF Value.string w 9 [⟨#[97,98]⟩,⟨#[99]⟩] 2 rfl (by omega)) (by simp)
 rw [js1] at h1
 have H1:=Lib.hid h1
 have H2:=Lib.hid (fun (W:World) (ht:WTab W)=>zm1 [⟨#[98]⟩,⟨#[97]⟩,⟨#[98]⟩,⟨#[98]⟩] _ _ (ht.below ((Below.refl _ W).alloc (Nat.le_refl _) _) ht.lt) (zeF Value.string W 9 [⟨#[98]⟩,⟨#[97]⟩,⟨#[98]⟩,⟨#[98]⟩] 4 rfl (by omega)) (by simp))
 rw [js2] at H2
 clear ht h1
 go_enter Tryz.func8,Tryz.ntmps8
 go_wp2_with fail
 refine H1.out.mono ?_
 rintro e w1 ⟨v1,rfl,⟨L1,s1,rfl,hI1,hB1,hS1⟩,hb1⟩
 obtain ⟨u0,u1,rfl⟩:=zr7 hS1
 obtain ⟨g1,o1,c1,rfl,hg1,hc1⟩:=ziC hI1 (by simp)
 have hb01:=za ((Below.refl w.heap.size w).alloc (Nat.le_refl _) _) hb1
 have HB1:=Lib.hid hb01
 have HT1:=Lib.hid (HT.out.below hb01 HT.out.lt)
 have HC1:=Lib.hid hc1
 have HG1:=Lib.hid hg1
 have HBB1:=Lib.hid hB1
 clear hS1 hI1 hb1 hc1 hg1 hB1 hb01
 unfold colv
 dsimp only [List.length_cons,List.length_nil]
 obtain ⟨wb,hwb⟩:∃ wb,wb=w1.alloc (.cells #[.int .i64 2,.int .i64 1,.int .i64 0,.slice (some ⟨g1,o1,none⟩) 2 c1] 27):=⟨_,rfl⟩
 have hrb:Row wb w1.heap.size 27 [.int .i64 2,.int .i64 1,.int .i64 0,.slice (some ⟨g1,o1,none⟩) 2 c1]:=by rw [hwb];exact heap_alloc_new w1 _
 have hbb:Below w1.heap.size w1 wb:=by rw [hwb];exact (Below.refl _ _).alloc (Nat.le_refl _) _
 have HRB:=Lib.hid hrb
 have HBB:=Lib.hid hbb
 have HTB:=Lib.hid (HT1.out.below hbb HT1.out.lt)
 have h2:=H2.out wb HTB.out
 rw [show wb.heap.size=w1.heap.size+1 by rw [hwb];simp] at h2
 have H2B:=Lib.hid h2
 clear hrb hbb h2
 go_wp2_with fail
 rw [←hwb]
 refine H2B.out.mono ?_
 rintro e w2 ⟨v2,rfl,⟨L2,s2,rfl,hI2,hB2,hS2⟩,hb2⟩
 obtain ⟨z0,z1,z2,rfl⟩:=zoz hS2
 obtain ⟨g2,o2,c2,rfl,hg2,hc2⟩:=ziC hI2 (by simp)
 have hb12:=za ((Below.refl wb.heap.size wb).alloc (Nat.le_refl _) _) hb2
 have hb02:=za HBB.out hb12
 unfold colv
 dsimp only [List.length_cons,List.length_nil]
 have hX:Below w2.heap.size w2 (w2.alloc (.cells #[.int .i64 4,.int .i64 2,.int .i64 2,.slice (some ⟨g2,o2,none⟩) 3 c2] 27)):=(Below.refl _ _).alloc (Nat.le_refl _) _
 have hX1:Below w1.heap.size w1 (w2.alloc (.cells #[.int .i64 4,.int .i64 2,.int .i64 2,.slice (some ⟨g2,o2,none⟩) 3 c2] 27)):=za hb02 hX
 have r1:Row (w2.alloc (.cells #[.int .i64 4,.int .i64 2,.int .i64 2,.slice (some ⟨g2,o2,none⟩) 3 c2] 27)) w1.heap.size 27 [.int .i64 2,.int .i64 1,.int .i64 0,.slice (some ⟨g1,o1,none⟩) 2 c1]:=(HRB.out.below hb12 HRB.out.lt).below hX (HRB.out.below hb12 HRB.out.lt).lt
 have r2:Row (w2.alloc (.cells #[.int .i64 4,.int .i64 2,.int .i64 2,.slice (some ⟨g2,o2,none⟩) 3 c2] 27)) w2.heap.size 27 [.int .i64 4,.int .i64 2,.int .i64 2,.slice (some ⟨g2,o2,none⟩) 3 c2]:=heap_alloc_new w2 _
 have a0:=r1.cell 0
 have a1:=r1.cell 1
 have a3:=r1.cell 3
 have b1:=r2.cell 1
 have b2:=r2.cell 2
 have b3:=r2.cell 3
 simp only [List.getElem?_cons_zero,List.getElem?_cons_succ] at a0 a1 a3 b1 b2 b3
 have m0:(w2.alloc (.cells #[.int .i64 4,.int .i64 2,.int .i64 2,.slice (some ⟨g2,o2,none⟩) 3 c2] 27)).cell? ⟨g1,o1+1,none⟩=some u0:=(hX1.cell (p:=⟨g1,o1+1,none⟩) HG1.out).trans (HC1.out 0 (by simp))
 have m1:(w2.alloc (.cells #[.int .i64 4,.int .i64 2,.int .i64 2,.slice (some ⟨g2,o2,none⟩) 3 c2] 27)).cell? ⟨g1,o1+1*2+1,none⟩=some u1:=(hX1.cell (p:=⟨g1,o1+3,none⟩) HG1.out).trans (HC1.out 1 (by simp))
 have n0:(w2.alloc (.cells #[.int .i64 4,.int .i64 2,.int .i64 2,.slice (some ⟨g2,o2,none⟩) 3 c2] 27)).cell? ⟨g2,o2+1,none⟩=some z0:=(hX.cell (p:=⟨g2,o2+1,none⟩) hg2).trans (hc2 0 (by simp))
 have n1:(w2.alloc (.cells #[.int .i64 4,.int .i64 2,.int .i64 2,.slice (some ⟨g2,o2,none⟩) 3 c2] 27)).cell? ⟨g2,o2+1*2+1,none⟩=some z1:=(hX.cell (p:=⟨g2,o2+3,none⟩) hg2).trans (hc2 1 (by simp))
 have n2:(w2.alloc (.cells #[.int .i64 4,.int .i64 2,.int .i64 2,.slice (some ⟨g2,o2,none⟩) 3 c2] 27)).cell? ⟨g2,o2+2*2+1,none⟩=some z2:=(hX.cell (p:=⟨g2,o2+5,none⟩) hg2).trans (hc2 2 (by simp))
 have t0:=ziG ((HBB1.out _ List.mem_cons_self).below hX1)
 have t1:=ziG ((HBB1.out _ (List.mem_cons_of_mem _ List.mem_cons_self)).below hX1)
 have q0:=ziG ((hB2 _ List.mem_cons_self).below hX)
 have q1:=ziG ((hB2 _ (List.mem_cons_of_mem _ List.mem_cons_self)).below hX)
 have q2:=ziG ((hB2 _ (List.mem_cons_of_mem _ (List.mem_cons_of_mem _ List.mem_cons_self))).below hX)
 dsimp only at t0 t1 q0 q1 q2
 have HE:=Lib.hid (za HB1.out hX1)
 clear hX hX1 r1 r2 hI2 hB2 hS2 hb2 hg2 hc2 hb12 hb02 hwb
 go_wp2
 go_ret
 exact ⟨rfl,HE.out⟩
theorem IsCol.shape {c:JC} {v:Value} {w:World} (h:IsCol c v w):∃ A n k,v=colv c (.slice A n k):=by
 obtain ⟨L,s,rfl,h,_⟩:=h
 obtain ⟨A,n,k,rfl⟩:=h.shape
 exact ⟨A,n,k,rfl⟩
def vcut (v:Value):Value:=match v with | .slice A n c=>if 1500 < n then .slice A 1500 c else .slice A n c | v=>v
def scut (p:Int × List UInt8 × Value):Int × List UInt8 × Value:=(p.1,p.2.1.take 1500,vcut p.2.2)
theorem zm6 {l:List UInt8} {v:Value} {w:World} (h:IsB l v w):IsB (l.take 1500) (vcut v) w:=by
 obtain ⟨A,n,c,rfl⟩:=IsV.shape (f:=bv) h
 have hn:=(IsV.parts (f:=bv) (show IsV bv l _ _ from h)).1
 unfold vcut
 dsimp only
 split
 ·exact IsV.take (f:=bv) h (by omega)
 ·rw [List.take_of_length_le (by omega)];exact h
def zkX (c:JC):JC:=⟨c.many,c.enc,c.texts,(c.streams.take 6).map fun p=>(p.1,p.2.take 1500)⟩
theorem zmb (c:JC):(zkX c).streams.length≤1000000∧∀ p∈(zkX c).streams,p.2.length≤1000000:=by
 unfold zkX
 refine ⟨by simp;omega,fun p hp=>?_⟩
 obtain ⟨q,_,rfl⟩:=List.mem_map.1 hp
 dsimp only
 rw [List.length_take]
 omega
theorem zex {w w':World} {base s n:Nat} {e:TypeId} {v:Value} {xs:List Value} (h:w.ownsRow base e s v n xs) (hb:∀ b,base≤b→w'.heap[b]? = w.heap[b]?):w'.ownsRow base e s v n xs:=
 ⟨h.1,h.2.imp id fun ⟨g,cap,cur,hv,hg,hc,r⟩=>⟨g,cap,cur,hv,hg,(hb g hg).trans hc,r⟩⟩
theorem Tryz.infoSt:(Tryz.prog.info? 40).map (fun i=>(i.zero,i.size,i.bytes))=some (some (.agg #[.int .i64 0,.slice none 0 0]),2,32):=by kernel_rfl
theorem zsl:ElemW Tryz.prog 25 40 32 2 (.agg #[.int .i64 0,.slice none 0 0]):=by
 obtain ⟨i0,hi,hz0,hz1,hz2⟩:=info_parts Tryz.infoSt
 exact ⟨Tryz.underlying25,rfl,by omega,i0,hi,hz0,hz1,hz2⟩
def zjl (L:List (Int × List UInt8 × Value)) (w:World) (v i:Value) (wr:World):Prop:=
 ∃ (k:Nat) (acc:List (Int × List UInt8 × Value)),k≤L.length∧k≤6∧i=.int .i64 (k:Int)∧acc=(L.take k).map scut∧wr.ownsRow w.heap.size 40 2 v k (acc.flatMap zdY)∧Below w.heap.size w wr
theorem zkY {L:List (Int × List UInt8 × Value)}:(((L.map fun p=>(p.1,p.2.1)).take 6).map fun p=>(p.1,p.2.take 1500))=((L.take 6).map scut).map fun p=>(p.1,p.2.1):=by
 rw [←List.map_take,List.map_map,List.map_map]
 rfl
theorem zqK (c:JC) (v:Value) (w:World) (hv:IsCol c v w) :
  Calls Tryz.prog 16 #[v] w fun e w'=>∃ u,e=.returned u∧IsCol (zkX c) u w'∧(∀ g t old w'',g < w.heap.size→Row w' g t old→(∀ u∈old,∀ x,u≠bv x)→Spared g w' w''→IsCol (zkX c) u w'')∧Below w.heap.size w w':=by
 obtain ⟨L,sv,rfl,hL,hLb,hLs⟩:=hv
 obtain ⟨A,n,ca,rfl⟩:=hL.shape
 obtain ⟨cm,ce,ct,cs⟩:=c
 dsimp only at hLs
 subst hLs
 have HS6:=Lib.hid (show (zkX ⟨cm,ce,ct,L.map fun p=>(p.1,p.2.1)⟩).streams=((L.take 6).map scut).map fun p=>(p.1,p.2.1) from zkY)
 obtain ⟨C,hC⟩:∃ C:JC,C=zkX ⟨cm,ce,ct,L.map fun p=>(p.1,p.2.1)⟩:=⟨_,rfl⟩
 have HCC:=Lib.hid (show C.many=cm∧C.enc=ce∧C.texts=ct by rw [hC];exact ⟨rfl,rfl,rfl⟩)
 rw [←hC] at HS6 ⊢
 clear hC
 unfold colv
 dsimp only
 have HLN:=Lib.hid hL.parts.1
 have hnm:(n:Int)≤9223372036854775807:=by have:=hL.parts.2.2.1;have:=hL.parts.2.2.2.1;unfold maxLen at this;omega
 have HNM:=Lib.hid hnm
 have HLB:=Lib.hid hLb
 obtain ⟨w2,hw2⟩:∃ w2,w2=(w.alloc (.cells #[.int .i64 cm,.int .i64 ce,.int .i64 ct,.slice A n ca] 27)).alloc (.cells #[.int .i64 0,.int .i64 0,.int .i64 0,.slice none 0 0] 27):=⟨_,rfl⟩
 have h1:Row (w.alloc (.cells #[.int .i64 cm,.int .i64 ce,.int .i64 ct,.slice A n ca] 27)) w.heap.size 27 [.int .i64 cm,.int .i64 ce,.int .i64 ct,.slice A n ca]:=heap_alloc_new w _
 have HR1:=Lib.hid (show Row w2 w.heap.size 27 [.int .i64 cm,.int .i64 ce,.int .i64 ct,.slice A n ca] by rw [hw2];exact h1.alloc _)
 have HR2:=Lib.hid (show Row w2 (w.heap.size+1) 27 [.int .i64 0,.int .i64 0,.int .i64 0,.slice none 0 0] by
  rw [hw2]
  have h:=heap_alloc_new (w.alloc (.cells #[.int .i64 cm,.int .i64 ce,.int .i64 ct,.slice A n ca] 27)) (.cells #[.int .i64 0,.int .i64 0,.int .i64 0,.slice none 0 0] 27)
  rw [show (w.alloc (.cells #[.int .i64 cm,.int .i64 ce,.int .i64 ct,.slice A n ca] 27)).heap.size=w.heap.size+1 by simp] at h
  exact h)
 have HZ2:=Lib.hid (show w2.heap.size=w.heap.size+2 by rw [hw2];simp)
 have HB2:=Lib.hid (show Below w.heap.size w w2 by rw [hw2];exact ((Below.refl _ _).alloc (Nat.le_refl _) _).alloc (by simp) _)
 have HL:=Lib.hid (hL.below HB2.out)
 have hst:=zgZ w2 40 2
 have HST:=Lib.hid (show zjl L w2 (.slice (some ⟨w2.heap.size,0,none⟩) 0 0) (.int .i64 0) (w2.alloc (.cells #[] 40)) from ⟨0,[],Nat.zero_le _,Nat.zero_le _,rfl,rfl,hst,(Below.refl _ _).alloc (Nat.le_refl _) _⟩)
 have hst2:=HST.out
 rw [HZ2.out] at hst2
 have HST2:=Lib.hid hst2
 clear hL hLb hnm h1 hst hst2 HST
 go_enter Tryz.func16,Tryz.ntmps16
 go_wp2
 rw [←hw2]
 clear hw2
 go_loopw [3,4] (zjl L w2) (fun _ i _=>6 - (intOf i).toNat)
 case atStart=>exact HST2.out
 case round =>
  obtain ⟨k,acc,hk,hk6,rfl,hacc,hown,hbw⟩:=hrel
  clear HST2
  have hkn:k≤n:=by have:=HLN.out;omega
  have HACC:=Lib.hid hacc
  have b3:=(HR1.out.below hbw HR1.out.lt).cell 3
  simp only [List.getElem?_cons_zero,List.getElem?_cons_succ] at b3
  clear hacc hk
  by_cases hlt:k < n
  case neg =>
   obtain rfl:n=k:=by omega
   have hlti:¬(n:Int) < (n:Int):=by omega
   have HAS:=Lib.hid (show C.streams=acc.map fun p=>(p.1,p.2.1) by rw [HS6.out,HACC.out,List.take_of_length_le (by have:=HLN.out;omega),List.take_of_length_le (by have:=HLN.out;omega)])
   have HR1w:=Lib.hid (HR1.out.below hbw HR1.out.lt)
   have HR2w:=Lib.hid (HR2.out.below hbw HR2.out.lt)
   have hir:=zfD (m:=2) (fun _=>rfl) (by omega) hown
   obtain ⟨Ao,ko,co,rfl⟩:=hir.shape
   have HOWN:=Lib.hid hown
   have HX1:=Lib.hid (HR1w.out.set_ 3 (.slice Ao ko co))
   have HX2:=Lib.hid (HR2w.out.far (p:=⟨w.heap.size,3,none⟩) (show w.heap.size+1≠w.heap.size by omega) (.slice Ao ko co))
   have r3:=HR1w.out.cell 3
   have fz:=HR1w.out.free 3
   have x0:=HX1.out.cell 0
   have x1:=HX1.out.cell 1
   have x2:=HX1.out.cell 2
   have x3:=HX1.out.cell 3
   simp only [List.set_cons_succ,List.set_cons_zero,List.getElem?_cons_zero,List.getElem?_cons_succ] at r3 x0 x1 x2 x3
   have HBX:=Lib.hid ((za HB2.out hbw).setCell (p:=⟨w.heap.size,3,none⟩) (Nat.le_refl _) (.slice Ao ko co))
   clear hir hown hbw
   go_wp2_with (refine zS zdV rfl _ _ rfl (w.heap.size+1) _ _ [.int .i64 cm,.int .i64 ce,.int .i64 ct,.slice Ao ko co] rfl rfl HX2.out rfl rfl (by simp [Value.oneCell']) w w.heap.size HBX.out (Nat.le_succ _) ?_)
   intro w5 hr5 hb5 hs5
   have HR5:=Lib.hid hr5
   have HO5:=Lib.hid (zex HOWN.out fun b hb=>(hs5.block b (by have:=HZ2.out;omega)).trans (Below.heap_setCell wr ⟨w.heap.size,3,none⟩ _ b (by have:=HZ2.out;show b≠w.heap.size;omega)))
   go_wp2
   refine bodyPost_ret (v:=.agg #[.int .i64 cm,.int .i64 ce,.int .i64 ct,.slice Ao ko co]) (results_cell_row rfl _ _ (w.heap.size+1) _ _ (0,0) _ rfl HR5.out Tryz.underlying27 rfl (by kernel_rfl)) rfl ?_
   have HPB:=Lib.hid (show ∀ p∈acc,IsB p.2.1 p.2.2 w5 from fun p hp=>by
    rw [HACC.out] at hp
    obtain ⟨q,hq,rfl⟩:=List.mem_map.1 hp
    exact (zm6 (HLB.out q (List.mem_of_mem_take hq))).below hb5)
   have hcv:(Value.agg #[.int .i64 cm,.int .i64 ce,.int .i64 ct,.slice Ao ko co])=colv C (.slice Ao ko co):=by unfold colv;rw [HCC.out.1,HCC.out.2.1,HCC.out.2.2]
   exact ⟨_,rfl,⟨acc,.slice Ao ko co,hcv,zfD (m:=2) (fun _=>rfl) (by omega) HO5.out,HPB.out,HAS.out⟩,
    fun g t old w'' hg hr ho hs=>⟨acc,.slice Ao ko co,hcv,zfD (m:=2) (fun _=>rfl) (by omega) (zex HO5.out fun b hb=>hs.block b (by have:=HZ2.out;omega)),fun p hp=>hs.bytes hr ho (HPB.out p hp),HAS.out⟩,hb5⟩
  have hlti:(k:Int) < (n:Int):=by omega
  by_cases h6:k < 6
  case neg =>
   obtain rfl:k=6:=by omega
   have hlt6:¬(((6:Nat):Int) < 6):=by omega
   have HAS:=Lib.hid (show C.streams=acc.map fun p=>(p.1,p.2.1) by rw [HS6.out,HACC.out])
   have HR1w:=Lib.hid (HR1.out.below hbw HR1.out.lt)
   have HR2w:=Lib.hid (HR2.out.below hbw HR2.out.lt)
   have hir:=zfD (m:=2) (fun _=>rfl) (by omega) hown
   obtain ⟨Ao,ko,co,rfl⟩:=hir.shape
   have HOWN:=Lib.hid hown
   have HX1:=Lib.hid (HR1w.out.set_ 3 (.slice Ao ko co))
   have HX2:=Lib.hid (HR2w.out.far (p:=⟨w.heap.size,3,none⟩) (show w.heap.size+1≠w.heap.size by omega) (.slice Ao ko co))
   have r3:=HR1w.out.cell 3
   have fz:=HR1w.out.free 3
   have x0:=HX1.out.cell 0
   have x1:=HX1.out.cell 1
   have x2:=HX1.out.cell 2
   have x3:=HX1.out.cell 3
   simp only [List.set_cons_succ,List.set_cons_zero,List.getElem?_cons_zero,List.getElem?_cons_succ] at r3 x0 x1 x2 x3
   have HBX:=Lib.hid ((za HB2.out hbw).setCell (p:=⟨w.heap.size,3,none⟩) (Nat.le_refl _) (.slice Ao ko co))
   clear hir hown hbw
   go_wp2_with (refine zS zdV rfl _ _ rfl (w.heap.size+1) _ _ [.int .i64 cm,.int .i64 ce,.int .i64 ct,.slice Ao ko co] rfl rfl HX2.out rfl rfl (by simp [Value.oneCell']) w w.heap.size HBX.out (Nat.le_succ _) ?_)
   intro w5 hr5 hb5 hs5
   have HR5:=Lib.hid hr5
   have HO5:=Lib.hid (zex HOWN.out fun b hb=>(hs5.block b (by have:=HZ2.out;omega)).trans (Below.heap_setCell wr ⟨w.heap.size,3,none⟩ _ b (by have:=HZ2.out;show b≠w.heap.size;omega)))
   go_wp2
   refine bodyPost_ret (v:=.agg #[.int .i64 cm,.int .i64 ce,.int .i64 ct,.slice Ao ko co]) (results_cell_row rfl _ _ (w.heap.size+1) _ _ (0,0) _ rfl HR5.out Tryz.underlying27 rfl (by kernel_rfl)) rfl ?_
   have HPB:=Lib.hid (show ∀ p∈acc,IsB p.2.1 p.2.2 w5 from fun p hp=>by
    rw [HACC.out] at hp
    obtain ⟨q,hq,rfl⟩:=List.mem_map.1 hp
    exact (zm6 (HLB.out q (List.mem_of_mem_take hq))).below hb5)
   have hcv:(Value.agg #[.int .i64 cm,.int .i64 ce,.int .i64 ct,.slice Ao ko co])=colv C (.slice Ao ko co):=by unfold colv;rw [HCC.out.1,HCC.out.2.1,HCC.out.2.2]
   exact ⟨_,rfl,⟨acc,.slice Ao ko co,hcv,zfD (m:=2) (fun _=>rfl) (by omega) HO5.out,HPB.out,HAS.out⟩,
    fun g t old w'' hg hr ho hs=>⟨acc,.slice Ao ko co,hcv,zfD (m:=2) (fun _=>rfl) (by omega) (zex HO5.out fun b hb=>hs.block b (by have:=HZ2.out;omega)),fun p hp=>hs.bytes hr ho (HPB.out p hp),HAS.out⟩,hb5⟩
  have hlt6:(k:Int) < 6:=by omega
  have hkl:k < L.length:=by have:=HLN.out;omega
  obtain ⟨ad,hAd,_,hcell⟩:=(HL.out.below hbw).at (m:=2) (fun _=>rfl) (by omega) hkl
  subst hAd
  obtain ⟨p,hp⟩:∃ p,p=L[k]:=⟨_,rfl⟩
  have hpb:=HLB.out p (by rw [hp];exact List.getElem_mem hkl)
  have hA2:=zrR scut hkl
  rw [←hp,←HACC.out] at hA2
  rw [←hp] at hcell
  clear hp
  obtain ⟨pk,pb,pv⟩:=p
  obtain ⟨A1,n1,c1,rfl⟩:=IsV.shape (f:=bv) (show IsV bv pb pv w from hpb)
  have hnc1:n1≤c1:=(IsV.parts (f:=bv) (show IsV bv pb _ w from hpb)).2.2.1
  have HA2:=Lib.hid hA2.symm
  have i0:wr.cell? (ad.add (k*2))=some (.int .i64 pk):=hcell 0 (by omega)
  have i1:wr.cell? ⟨(ad.add (k*2)).block,(ad.add (k*2)).off+1,none⟩=some (.slice A1 n1 c1):=by have h:=hcell 1 (by omega);rw [←add_add] at h;exact h
  have q0:Row (wr.alloc (.cells #[.int .i64 pk,.slice A1 n1 c1] 40)) wr.heap.size 40 [.int .i64 pk,.slice A1 n1 c1]:=heap_alloc_new wr _
  have e0:=q0.cell 0
  have e1:=q0.cell 1
  have fz:=q0.free 1
  simp only [List.getElem?_cons_zero,List.getElem?_cons_succ] at e0 e1
  clear hcell hpb hA2
  by_cases h15:1500 < n1
  ·have d1:decide ((1500:Int) < (n1:Int))=true:=decide_eq_true (by omega)
   have hc15:(1500:Int)≤(c1:Int):=by omega
   have hv:vcut (.slice A1 n1 c1)=.slice A1 1500 c1:=by unfold vcut;dsimp only;rw [if_pos h15]
   have q1:Row (wr.alloc (.cells #[.int .i64 pk,.slice A1 1500 c1] 40)) wr.heap.size 40 [.int .i64 pk,.slice A1 1500 c1]:=heap_alloc_new wr _
   have f0:=q1.cell 0
   have f1:=q1.cell 1
   simp only [List.getElem?_cons_zero,List.getElem?_cons_succ] at f0 f1
   have HA2:=Lib.hid (show acc ++ [(pk,pb.take 1500,.slice A1 1500 c1)]=(L.take (k+1)).map scut by rw [←HA2.out];unfold scut;dsimp only;rw [hv])
   clear q0 q1 hv h15 hnc1
   have HX:=Lib.hid (show Below wr.heap.size wr (wr.alloc (.cells #[.int .i64 pk,.slice A1 1500 c1] 40)) from (Below.refl _ _).alloc (Nat.le_refl _) _)
   have HOX:=Lib.hid (own_below hown HX.out)
   have HBX:=Lib.hid (za hbw HX.out)
   have hzx:w2.heap.size≤((wr.alloc (.cells #[.int .i64 pk,.slice A1 1500 c1] 40))).heap.size:=HBX.out.size
   clear hown hbw
   go_wp2_with (at_builtin;refine zfX zsl rfl _ _ rfl w2.heap.size _ _ _ [.int .i64 pk,.slice A1 1500 c1] (wr.alloc (.cells #[.int .i64 pk,.slice A1 1500 c1] 40)) w2 (wr.heap.size+1) (by simp) rfl rfl rfl rfl (by intro u hu;simp at hu;rcases hu with rfl | rfl <;> rfl) HOX.out HBX.out hzx (by omega) (by omega) ?_)
   intro v7 w7 ho7 hb7 _ _
   have HREL:=Lib.hid (show zjl L w2 v7 (.int .i64 ((k+1:Nat):Int)) w7 from ⟨k+1,_,hkl,by omega,rfl,HA2.out,by rw [zj0];exact ho7,hb7⟩)
   clear ho7 hb7 hzx
   go_wp2
   go_roundw
   case rel=>exact HREL.out
   case measure=>simp [intOf];omega
  ·have d1:decide ((1500:Int) < (n1:Int))=false:=decide_eq_false (by omega)
   have hv:vcut (.slice A1 n1 c1)=.slice A1 n1 c1:=by unfold vcut;dsimp only;rw [if_neg h15]
   have HA2:=Lib.hid (show acc ++ [(pk,pb.take 1500,.slice A1 n1 c1)]=(L.take (k+1)).map scut by rw [←HA2.out];unfold scut;dsimp only;rw [hv])
   clear q0 hv h15 hnc1
   have HX:=Lib.hid (show Below wr.heap.size wr (wr.alloc (.cells #[.int .i64 pk,.slice A1 n1 c1] 40)) from (Below.refl _ _).alloc (Nat.le_refl _) _)
   have HOX:=Lib.hid (own_below hown HX.out)
   have HBX:=Lib.hid (za hbw HX.out)
   have hzx:w2.heap.size≤((wr.alloc (.cells #[.int .i64 pk,.slice A1 n1 c1] 40))).heap.size:=HBX.out.size
   clear hown hbw
   go_wp2_with (at_builtin;refine zfX zsl rfl _ _ rfl w2.heap.size _ _ _ [.int .i64 pk,.slice A1 n1 c1] (wr.alloc (.cells #[.int .i64 pk,.slice A1 n1 c1] 40)) w2 (wr.heap.size+1) (by simp) rfl rfl rfl rfl (by intro u hu;simp at hu;rcases hu with rfl | rfl <;> rfl) HOX.out HBX.out hzx (by omega) (by omega) ?_)
   intro v7 w7 ho7 hb7 _ _
   have HREL:=Lib.hid (show zjl L w2 v7 (.int .i64 ((k+1:Nat):Int)) w7 from ⟨k+1,_,hkl,by omega,rfl,HA2.out,by rw [zj0];exact ho7,hb7⟩)
   clear ho7 hb7 hzx
   go_wp2
   go_roundw
   case rel=>exact HREL.out
   case measure=>simp [intOf];omega
end Go.Proofs.YtblpkmmhmdpkjaaGreatDoor
