import Derived.Test.YtlibofmpnlfelaaGreatDoorTie
import Derived.Test.YtlibofmpnlfelaaGreatDoorCards
import Derived.SevenTiedAt
import Derived.Stop.Joined
import Derived.Test.YtlibofmpnlfelaaGreatDoorBG3
set_option maxHeartbeats 8000000
set_option maxRecDepth 100000
namespace Go.Proofs.YtlibofmpnlfelaaGreatDoor
open Go.RowKit
theorem zW {fn:Func} {t u v x:Tmp} (h:fn.results = #[.tmp t,.tmp u,.tmp v,.tmp x]) (tmps:Array Value) (P:Program) (w:World) :
  (results fn tmps).run P w=.ok (.tuple #[tmps.getD t undef,tmps.getD u undef,tmps.getD v undef,tmps.getD x undef]) w:=by
 simp [results,h]
theorem zht {P:Program} {o:Oper} {ρ:Operand→Value} {w:World} {R:Value→World→Prop} {t:TypeId} {x:Operand} {b:Bool} (ho:o.op=.unOp .not t x) (hx:ρ x=.bool b) (hR:R (.bool !b) w):zX P o ρ w R:=by
 refine zo (v:=.bool !b) (w':=w) ?_ hR
 simp [execOp,ho,hx,go_sem]
def RetT7 (w:World) (p:Int × Int × List UInt8 × Int) (e:Ending) (w':World):Prop:=
 ∃ v,e=.returned (.tuple #[.int .i64 p.1,.int .i64 p.2.1,v,.int .i64 p.2.2.2])∧IsB p.2.2.1 v w'∧Below w.heap.size w w'
theorem RetT7.no {w w':World} (hb:Below w.heap.size w w'):RetT7 w (0,0,[],2) (.returned (.tuple #[.int .i64 0,.int .i64 0,.slice none 0 0,.int .i64 2])) w':=⟨_,rfl,zcu _,hb⟩
def RetT7O (w:World) (p:Int × Int × List UInt8 × Int) (e:Ending) (w':World):Prop:=
 ∃ v,e=.returned (.tuple #[.int .i64 p.1,.int .i64 p.2.1,v,.int .i64 p.2.2.2])∧OwnB w p.2.2.1 v w'∧Below w.heap.size w w'
theorem RetT7O.no {w w':World} (hb:Below w.heap.size w w'):RetT7O w (0,0,[],2) (.returned (.tuple #[.int .i64 0,.int .i64 0,.slice none 0 0,.int .i64 2])) w':=⟨_,rfl,OwnB.nil _ _,hb⟩
theorem zkA (s:Bool):zG [] s=(0,0,[],2):=rfl
theorem zkB {l:List UInt8} {s:Bool} (h0:0 < l.length) (h:64≤l[0].toNat):zG l s=(0,0,[],2):=by
 cases l with
 | nil=>simp at h0
 | cons b r=>simp at h;unfold zG;simp only [];rw [if_pos h]
theorem zhu {l:List UInt8} {s:Bool} {K:Nat} (h0:0 < l.length) (hK:K=l[0].toNat / 8+1) (h:l.length < K+1):zG l s=(0,0,[],2):=by
 cases l with
 | nil=>simp at h0
 | cons b r =>
  simp at hK h
  unfold zG;simp only []
  rw [←hK]
  split
  ·rfl
  ·first | rfl | rw [if_pos (by omega)]
theorem zf2 {l:List UInt8} {s:Bool} {K u:Nat} (h0:0 < l.length) (hK:K=l[0].toNat / 8+1) (hu:u=bval ((l.drop 1).take K)) (h:zbf u s=none∨zO u≠K):zG l s=(0,0,[],2):=by
 cases l with
 | nil=>simp at h0
 | cons b r =>
  simp at hK hu
  unfold zG;simp only []
  rw [←hK,←hu]
  split
  ·rfl
  split
  ·rfl
  split
  ·rfl
  ·rename_i h3
   rcases h with h | h
   ·rw [h]
   ·exact absurd h h3
theorem ziK {l:List UInt8} {s:Bool} {K u:Nat} {x:Int} (h0:0 < l.length) (hK:K=l[0].toNat / 8+1) (h64:l[0].toNat < 64) (hl:K+1≤l.length) (hu:u=bval ((l.drop 1).take K)) (h:zbf u s=some x) (hb:zO u=K) :
  zG l s=(x,((l[0].toNat % 8+3:Nat):Int),l.drop (K+1),0):=by
 cases l with
 | nil=>simp at h0
 | cons b r =>
  simp at hK hu hl h64
  unfold zG;simp only []
  rw [←hK,←hu,if_neg (by omega),if_neg (by omega),if_neg (by omega),h]
  simp
theorem zkC {l:List UInt8} {K u T:Nat} (h0:0 < l.length) (hK:K=l[0].toNat / 8+1) (hT:T=l[0].toNat % 8+3) (hl:K+1≤l.length) (hu:u=bval ((l.drop 1).take K)):elay u T=l.take (K+1)↔zO u=K:=by
 cases l with
 | nil=>simp at h0
 | cons b r =>
  simp at hK hu hl hT
  rw [List.take_succ_cons]
  constructor
  ·intro h
   have h1:=congrArg List.length h
   rw [zgQ,List.length_cons,List.length_take] at h1
   omega
  ·intro h
   unfold elay
   rw [h,show 8*(K - 1)+(T - 3)=b.toNat by omega,UInt8.ofNat_toNat]
   congr 1
   exact (zoK (by rw [List.length_take];omega) hu.symm).symm
theorem zq2 (r:List UInt8) (k:Nat) (h:k < r.length):bval (r.take (k+1))=256*bval (r.take k)+r[k].toNat:=by
 rw [List.take_succ_eq_append_getElem h,ze4]
 simp [bval]
 omega
theorem ziL (r:List UInt8) {k:Nat} (h:k≤7):((bval (r.take k):Nat):Int) < 72057594037927936:=by
 have h1:=zdq (r.take k)
 have h2:256 ^ (r.take k).length≤256 ^ 7:=Nat.pow_le_pow_right (by omega) (by rw [List.length_take];omega)
 omega
theorem ziM (r:List UInt8) {k:Nat} (h:k≤8):bval (r.take k) < 2 ^ 64:=by
 have h1:=zdq (r.take k)
 have h2:256 ^ (r.take k).length≤256 ^ 8:=Nat.pow_le_pow_right (by omega) (by rw [List.length_take];omega)
 omega
def zq3 (r:List UInt8) (K:Nat) (v i:Value):Prop:=∃ (k:Nat) (U:Int),k≤K∧i=.int .i64 (k:Int)∧v=.int .u64 U∧U=((bval (r.take k):Nat):Int)
theorem zoX (l:List UInt8) (v:Value) (s:Bool) (w:World) (hv:IsB l v w) (hb:l.length≤1000000) :
  Calls Tryz.prog 84 #[v,.bool s] w (RetT7O w (zG l s)):=by
 have HV:=Lib.hid hv
 obtain ⟨A,c,rfl,hA,hnc,hcm,hl⟩:=hv
 obtain ⟨n,hn⟩:∃ n,n=l.length:=⟨_,rfl⟩
 rw [←hn] at hA hnc hb HV ⊢
 have hci:(c:Int)≤9223372036854775807:=by unfold maxLen at hcm;omega
 have HN:=Lib.hid hn
 by_cases h0:n=0
 ·subst h0
  obtain rfl:l=[]:=List.eq_nil_of_length_eq_zero hn.symm
  have hE:=Lib.hid (zkA s)
  clear hn hl hcm hA hnc
  go_enter Tryz.func84,Tryz.ntmps84
  go_wp2
  try simp only [Exit.inBlock,Exit.then]
  refine bodyPost_ret (zW rfl _ _ _) rfl ?_
  rw [hE.out]
  exact RetT7O.no (Below.refl _ _)
 ·have h0i:((n:Int) == 0)=false:=by simp;omega
  have h0l:0 < l.length:=by omega
  obtain ⟨ad,rfl,hadlt,hcell⟩:=hl.cell (k:=0) (by rw [List.length_map];exact h0l)
  obtain ⟨B,hB⟩:∃ B:Nat,B=l[0].toNat:=⟨_,rfl⟩
  have hB8:B < 256:=by rw [hB];exact UInt8.toNat_lt _
  have hc0:w.cell? ad=some (.int .u8 (B:Int)):=by
   have h1:ad.add 0=ad:=by unfold Addr.add;split <;> simp_all
   rw [←h1,hcell,List.getElem_map,hB];rfl
  have HB:=Lib.hid hB
  have hn0:(0:Int) < (n:Int):=by omega
  clear hcell hB
  by_cases h64:64≤B
  ·have h64i:(64:Int)≤(B:Int):=by omega
   have hE:=Lib.hid (zkB (s:=s) h0l (by rw [←HB.out];exact h64))
   clear hn hl hcm hA
   go_enter Tryz.func84,Tryz.ntmps84
   go_wp2
   try simp only [Exit.inBlock,Exit.then]
   refine bodyPost_ret (zW rfl _ _ _) rfl ?_
   rw [hE.out]
   exact RetT7O.no (Below.refl _ _)
  ·have h64i:¬(64:Int)≤(B:Int):=by omega
   obtain ⟨K,hK⟩:∃ K,K=B / 8+1:=⟨_,rfl⟩
   obtain ⟨T,hT⟩:∃ T,T=B % 8+3:=⟨_,rfl⟩
   have hKi:(B:Int) / 8+1=(K:Int):=by omega
   have hTi:(B:Int) % 8+3=(T:Int):=by omega
   have hK8:K≤8:=by omega
   have hK1:1≤K:=by omega
   have hT10:T≤10:=by omega
   have hT3:3≤T:=by omega
   have HK:=Lib.hid (show K=l[0].toNat / 8+1 by rw [←HB.out];exact hK)
   have HT:=Lib.hid (show T=l[0].toNat % 8+3 by rw [←HB.out];exact hT)
   by_cases hs:n < K+1
   ·have hsi:(n:Int) < (K:Int)+1:=by omega
    have hE:=Lib.hid (zhu (s:=s) h0l HK.out (by rw [←HN.out];exact hs))
    clear hn hl hcm hA hK hT
    go_enter Tryz.func84,Tryz.ntmps84
    go_wp2
    try simp only [Exit.inBlock,Exit.then]
    refine bodyPost_ret (zW rfl _ _ _) rfl ?_
    rw [hE.out]
    exact RetT7O.no (Below.refl _ _)
   ·have hsi:¬(n:Int) < (K:Int)+1:=by omega
    have HLi:=Lib.hid hl
    have HF:=Lib.hid fun (W:World) (h:Below w.heap.size w W)=>zbm (P:=Tryz.prog) elemB (k:=K+1) (by omega) hnc hcm hn.symm (hl.below h) hA
    have HI:Hid (IsB (l.take (K+1)) (.slice (some ad) (K+1) c) w):=Lib.hid ⟨some ad,c,by rw [List.length_take,←hn];congr 1;omega,fun h=>by simp at h,by rw [List.length_take];omega,hcm,by rw [List.map_take];exact hl.take _⟩
    clear hn hl hcm hA hK hT
    go_enter Tryz.func84,Tryz.ntmps84
    go_wp2
    go_loop [10,11] (zq3 (l.drop 1) K) (fun _ i=>K - (intOf i).toNat)
    case atStart=>exact ⟨0,0,by omega,rfl,rfl,by simp [bval]⟩
    case round =>
     obtain ⟨k,U,hk,rfl,rfl,hU⟩:=hrel
     have HU:=Lib.hid hU
     clear hKi hTi
     by_cases hlt:k < K
     ·have hU0:0≤U:=by omega
      have hU7:U < 72057594037927936:=by rw [hU];exact ziL _ (by omega)
      have hkl:k+1 < l.length:=by have:=HN.out;omega
      obtain ⟨_,hAd,_,hcell⟩:=HLi.out.cell (k:=k+1) (by rw [List.length_map];exact hkl)
      injection hAd with hAd
      subst hAd
      obtain ⟨y,hy⟩:∃ y:Nat,y=l[k+1].toNat:=⟨_,rfl⟩
      have hy8:y < 256:=by rw [hy];exact UInt8.toNat_lt _
      have hcy:w.cell? (ad.add (k+1))=some (.int .u8 (y:Int)):=by rw [hcell,List.getElem_map,hy];rfl
      have hkn:(k:Int)+1 < (n:Int):=by omega
      have hcy2:w.cell? ⟨ad.block,ad.off+(k+1),none⟩=some (.int .u8 (y:Int)):=by simpa [Addr.add] using hcy
      have HY:=Lib.hid hy
      clear hcell hy hU
      go_wp2
      go_round
      case rel =>
       refine ⟨k+1,256*U+y,by omega,by go_num,rfl,?_⟩
       rw [zq2 _ _ (by rw [List.length_drop];omega),List.getElem_drop,HU.out,HY.out]
       simp [Nat.add_comm]
      case measure=>simp [intOf];omega
     ·obtain rfl:K=k:=by omega
      obtain ⟨u,hu⟩:∃ u,u=bval ((l.drop 1).take K):=⟨_,rfl⟩
      have hu64:u < 2 ^ 64:=by rw [hu];exact ziM _ hK8
      rw [←hu] at hU
      have HMd:=Lib.hid fun W=>ziJ U s W (by omega) (by omega)
      rw [show U.toNat=u by omega] at HMd
      obtain ⟨X,hX⟩:∃ X,X=(zbf u s).getD 0:=⟨_,rfl⟩
      obtain ⟨ok,hok⟩:∃ ok,ok=(zbf u s).isSome:=⟨_,rfl⟩
      rw [←hX,←hok] at HMd
      have hXb : -9223372036854775808≤X∧X≤9223372036854775807:=by
       cases he:zbf u s with
       | none=>rw [hX,he];simp
       | some x=>rw [hX,he];exact zto hu64 he
      have HPt:=Lib.hid fun W=>zq1 X T s W hXb.1 hXb.2
      have hKl:K+1≤l.length:=by have:=HN.out;omega
      cases ok with
      | false =>
       have hE:=Lib.hid (zf2 (s:=s) h0l HK.out hu (.inl (by simpa using hok.symm)))
       obtain ⟨p,hp⟩:∃ p,p=eput X T s:=⟨_,rfl⟩
       rw [←hp] at HPt
       obtain ⟨p1,p2⟩:=p
       clear hp hok hX hu hU HU hu64 hXb hKl
       go_wp2_with (go_at_call 113;refine (HMd.out _).mono ?_;rintro e w' ⟨rfl,rfl⟩)
       refine (HPt.out _).mono ?_
       rintro e w1 ⟨vc,rfl,hvc,hbw⟩
       have HVC:=Lib.hid hvc
       clear hvc
       go_wp2
       refine wp_region_list [.is (.bool false),.is (.bool true),.is (.bool true),.any,.any,.is (.bool true),.is (.bool true),.any,.any,.any,.any,.any,.any,.any,.any,.is (.bool true)] [some 69,some 70,some 71,some 72,some 73,some 74,some 75,some 76,some 77,some 78,some 79,some 80,some 81,some 82,some 83,some 84] (by kernel_rfl) (by kernel_rfl) (by kernel_rfl) rfl ⟨?_,?_,?_,?_,?_,?_,?_,?_,?_,?_,?_,?_,?_,?_,?_,?_,trivial⟩ ?_
       ·intro ρ W1 hb1 H
        exact zd rfl (H.old 13 _ (by kernel_rfl) rfl) ⟨rfl,Below.refl _ _⟩
       ·intro ρ W1 hb1 H
        exact zht rfl (H.new 69 0 (by kernel_rfl)) ⟨rfl,Below.refl _ _⟩
       ·intro ρ W1 hb1 H
        exact zd rfl (H.new 70 1 (by kernel_rfl)) ⟨rfl,Below.refl _ _⟩
       ·intro ρ W1 hb1 H d hd
        have hd':(some 71:Option Tmp)=some d:=hd
        injection hd' with hd'
        subst hd'
        exact ⟨(fun hh=>by cases hh.symm.trans (H.new 71 2 (by kernel_rfl))),fun _=>trivial⟩
       ·intro ρ W1 hb1 H d hd
        have hd':(some 71:Option Tmp)=some d:=hd
        injection hd' with hd'
        subst hd'
        exact ⟨(fun hh=>by cases hh.symm.trans (H.new 71 2 (by kernel_rfl))),fun _=>trivial⟩
       ·intro ρ W1 hb1 H
        exact zgt rfl (H.new 71 2 (by kernel_rfl)) (H.const _) ⟨rfl,Below.refl _ _⟩
       ·intro ρ W1 hb1 H
        exact zd rfl (H.new 74 5 (by kernel_rfl)) ⟨rfl,Below.refl _ _⟩
       ·intro ρ W1 hb1 H d hd
        have hd':(some 75:Option Tmp)=some d:=hd
        injection hd' with hd'
        subst hd'
        exact ⟨(fun hh=>by cases hh.symm.trans (H.new 75 6 (by kernel_rfl))),fun _=>trivial⟩
       ·intro ρ W1 hb1 H d hd
        have hd':(some 75:Option Tmp)=some d:=hd
        injection hd' with hd'
        subst hd'
        exact ⟨(fun hh=>by cases hh.symm.trans (H.new 75 6 (by kernel_rfl))),fun _=>trivial⟩
       ·intro ρ W1 hb1 H d hd
        have hd':(some 75:Option Tmp)=some d:=hd
        injection hd' with hd'
        subst hd'
        exact ⟨(fun hh=>by cases hh.symm.trans (H.new 75 6 (by kernel_rfl))),fun _=>trivial⟩
       ·intro ρ W1 hb1 H d hd
        have hd':(some 75:Option Tmp)=some d:=hd
        injection hd' with hd'
        subst hd'
        exact ⟨(fun hh=>by cases hh.symm.trans (H.new 75 6 (by kernel_rfl))),fun _=>trivial⟩
       ·intro ρ W1 hb1 H d hd
        have hd':(some 75:Option Tmp)=some d:=hd
        injection hd' with hd'
        subst hd'
        exact ⟨(fun hh=>by cases hh.symm.trans (H.new 75 6 (by kernel_rfl))),fun _=>trivial⟩
       ·intro ρ W1 hb1 H d hd
        have hd':(some 75:Option Tmp)=some d:=hd
        injection hd' with hd'
        subst hd'
        exact ⟨(fun hh=>by cases hh.symm.trans (H.new 75 6 (by kernel_rfl))),fun _=>trivial⟩
       ·intro ρ W1 hb1 H d hd
        have hd':(some 75:Option Tmp)=some d:=hd
        injection hd' with hd'
        subst hd'
        exact ⟨(fun hh=>by cases hh.symm.trans (H.new 75 6 (by kernel_rfl))),fun _=>trivial⟩
       ·intro ρ W1 hb1 H d hd
        have hd':(some 75:Option Tmp)=some d:=hd
        injection hd' with hd'
        subst hd'
        exact ⟨(fun hh=>by cases hh.symm.trans (H.new 75 6 (by kernel_rfl))),fun _=>trivial⟩
       ·intro ρ W1 hb1 H
        exact zgt rfl (H.new 75 6 (by kernel_rfl)) (H.const _) ⟨rfl,Below.refl _ _⟩
       ·intro vs W1 hb1 hfs
        have f15:vs 15=.bool true:=hfs 15 (by decide)
        clear hfs
        simp only [zr,Nat.zero_add,Nat.reduceAdd]
        generalize vs 0=z0
        generalize vs 1=z1
        generalize vs 2=z2
        generalize vs 3=z3
        generalize vs 4=z4
        generalize vs 5=z5
        generalize vs 6=z6
        generalize vs 7=z7
        generalize vs 8=z8
        generalize vs 9=z9
        generalize vs 10=z10
        generalize vs 11=z11
        generalize vs 12=z12
        generalize vs 13=z13
        generalize vs 14=z14
        simp only [f15,Act.put,List.setIfInBounds_toArray,List.set_cons_succ,List.set_cons_zero]
        clear f15
        go_wp2
        try simp only [Exit.inBlock,Exit.then]
        refine bodyPost_ret (zW rfl _ _ _) rfl ?_
        rw [hE.out]
        exact RetT7O.no (za hbw hb1)
      | true =>
       have hsome:zbf u s=some X:=by
        cases he:zbf u s with
        | none=>rw [he] at hok;simp at hok
        | some x=>rw [he] at hX;simp at hX;rw [hX]
       rw [zjE hT3 hT10 (zky hsome)] at HPt
       by_cases hq:zO u=K
       ·have HQ:Hid ((elay u T == l.take (K+1))=true):=Lib.hid (by rw [beq_iff_eq];exact (zkC h0l HK.out HT.out hKl hu).2 hq)
        have hE:=Lib.hid (ziK (s:=s) h0l HK.out (by rw [←HB.out];omega) hKl hu hsome hq)
        rw [←HT.out] at hE
        clear hok hX hu hU HU hu64 hXb hKl hsome hq
        go_wp2_with (go_at_call 113;refine (HMd.out _).mono ?_;rintro e w' ⟨rfl,rfl⟩)
        refine (HPt.out _).mono ?_
        rintro e w1 ⟨vc,rfl,hvc,hbw⟩
        have HVC:=Lib.hid hvc
        clear hvc
        go_wp2
        refine wp_region_list [.is (.bool true),.is (.bool false),.is (.bool false),.is (.int .i64 0),.is (.bool false),.is (.bool false),.is (.bool false),.bytes (elay u T),.is (.string ⟨(elay u T).toArray⟩),.is (.slice (some ad) n c),.is (.int .i64 (K:Int)),.is (.int .i64 ((K+1:Nat):Int)),.is (.slice (some ad) (K+1) c),.is (.string ⟨(l.take (K+1)).toArray⟩),.is (.bool false),.is (.bool false)] [some 69,some 70,some 71,some 72,some 73,some 74,some 75,some 76,some 77,some 78,some 79,some 80,some 81,some 82,some 83,some 84] (by kernel_rfl) (by kernel_rfl) (by kernel_rfl) rfl ⟨?_,?_,?_,?_,?_,?_,?_,?_,?_,?_,?_,?_,?_,?_,?_,?_,trivial⟩ ?_
        ·intro ρ W1 hb1 H
         exact zd rfl (H.old 13 _ (by kernel_rfl) rfl) ⟨rfl,Below.refl _ _⟩
        ·intro ρ W1 hb1 H
         exact zht rfl (H.new 69 0 (by kernel_rfl)) ⟨rfl,Below.refl _ _⟩
        ·intro ρ W1 hb1 H
         exact zd rfl (H.new 70 1 (by kernel_rfl)) ⟨rfl,Below.refl _ _⟩
        ·intro ρ W1 hb1 H d hd
         have hd':(some 71:Option Tmp)=some d:=hd
         injection hd' with hd'
         subst hd'
         refine ⟨fun _=>?_,fun hne=>absurd (H.new 71 2 (by kernel_rfl)) hne⟩
         exact zd rfl (H.old 15 _ (by kernel_rfl) rfl) ⟨rfl,Below.refl _ _⟩
        ·intro ρ W1 hb1 H d hd
         have hd':(some 71:Option Tmp)=some d:=hd
         injection hd' with hd'
         subst hd'
         refine ⟨fun _=>?_,fun hne=>absurd (H.new 71 2 (by kernel_rfl)) hne⟩
         exact zha rfl (H.new 72 3 (by kernel_rfl)) (H.const _) ⟨rfl,Below.refl _ _⟩
        ·intro ρ W1 hb1 H
         exact zde rfl (H.new 71 2 (by kernel_rfl)) (H.new 73 4 (by kernel_rfl)) ⟨rfl,Below.refl _ _⟩
        ·intro ρ W1 hb1 H
         exact zd rfl (H.new 74 5 (by kernel_rfl)) ⟨rfl,Below.refl _ _⟩
        ·intro ρ W1 hb1 H d hd
         have hd':(some 75:Option Tmp)=some d:=hd
         injection hd' with hd'
         subst hd'
         refine ⟨fun _=>?_,fun hne=>absurd (H.new 75 6 (by kernel_rfl)) hne⟩
         exact zd rfl (H.old 14 _ (by kernel_rfl) rfl) ⟨HVC.out.below hb1,Below.refl _ _⟩
        ·intro ρ W1 hb1 H d hd
         have hd':(some 75:Option Tmp)=some d:=hd
         injection hd' with hd'
         subst hd'
         refine ⟨fun _=>?_,fun hne=>absurd (H.new 75 6 (by kernel_rfl)) hne⟩
         have hB:IsB (elay u T) (ρ (.tmp 76)) W1:=H.new 76 7 (by kernel_rfl)
         exact zS rfl rfl (hB.text _ _ _ Tryz.underlying25 Tryz.underlying5 Tryz.underlying9) ⟨rfl,Below.refl _ _⟩
        ·intro ρ W1 hb1 H d hd
         have hd':(some 75:Option Tmp)=some d:=hd
         injection hd' with hd'
         subst hd'
         refine ⟨fun _=>?_,fun hne=>absurd (H.new 75 6 (by kernel_rfl)) hne⟩
         exact zd rfl (H.old 0 _ (by kernel_rfl) rfl) ⟨rfl,Below.refl _ _⟩
        ·intro ρ W1 hb1 H d hd
         have hd':(some 75:Option Tmp)=some d:=hd
         injection hd' with hd'
         subst hd'
         refine ⟨fun _=>?_,fun hne=>absurd (H.new 75 6 (by kernel_rfl)) hne⟩
         exact zd rfl (H.old 8 _ (by kernel_rfl) rfl) ⟨rfl,Below.refl _ _⟩
        ·intro ρ W1 hb1 H d hd
         have hd':(some 75:Option Tmp)=some d:=hd
         injection hd' with hd'
         subst hd'
         refine ⟨fun _=>?_,fun hne=>absurd (H.new 75 6 (by kernel_rfl)) hne⟩
         exact zb4 rfl (H.new 79 10 (by kernel_rfl)) (H.const _) (by omega) (by omega) ⟨rfl,Below.refl _ _⟩
        ·intro ρ W1 hb1 H d hd
         have hd':(some 75:Option Tmp)=some d:=hd
         injection hd' with hd'
         subst hd'
         refine ⟨fun _=>?_,fun hne=>absurd (H.new 75 6 (by kernel_rfl)) hne⟩
         exact zdw elemB rfl (H.new 78 9 (by kernel_rfl)) (H.new 80 11 (by kernel_rfl)) (by omega) ⟨rfl,Below.refl _ _⟩
        ·intro ρ W1 hb1 H d hd
         have hd':(some 75:Option Tmp)=some d:=hd
         injection hd' with hd'
         subst hd'
         refine ⟨fun _=>?_,fun hne=>absurd (H.new 75 6 (by kernel_rfl)) hne⟩
         exact zS rfl (H.new 81 12 (by kernel_rfl)) (zs6 (HI.out.below (za hbw hb1))) ⟨rfl,Below.refl _ _⟩
        ·intro ρ W1 hb1 H d hd
         have hd':(some 75:Option Tmp)=some d:=hd
         injection hd' with hd'
         subst hd'
         refine ⟨fun _=>?_,fun hne=>absurd (H.new 75 6 (by kernel_rfl)) hne⟩
         exact zcI (a:=elay u T) (b:=l.take (K+1)) rfl (H.new 77 8 (by kernel_rfl)) (H.new 82 13 (by kernel_rfl)) ⟨by rw [HQ.out];rfl,Below.refl _ _⟩
        ·intro ρ W1 hb1 H
         exact zde rfl (H.new 75 6 (by kernel_rfl)) (H.new 83 14 (by kernel_rfl)) ⟨rfl,Below.refl _ _⟩
        ·intro vs W1 hb1 hfs
         have f15:vs 15=.bool false:=hfs 15 (by decide)
         clear hfs
         simp only [zr,Nat.zero_add,Nat.reduceAdd]
         generalize vs 0=z0
         generalize vs 1=z1
         generalize vs 2=z2
         generalize vs 3=z3
         generalize vs 4=z4
         generalize vs 5=z5
         generalize vs 6=z6
         generalize vs 7=z7
         generalize vs 8=z8
         generalize vs 9=z9
         generalize vs 10=z10
         generalize vs 11=z11
         generalize vs 12=z12
         generalize vs 13=z13
         generalize vs 14=z14
         simp only [f15,Act.put,List.setIfInBounds_toArray,List.set_cons_succ,List.set_cons_zero]
         clear f15
         have hbW:=za hbw hb1
         have hown0:(W1.alloc (.cells #[] 5)).ownsRow w.heap.size 5 1 (.slice (some ⟨W1.heap.size,0,none⟩) 0 0) 0 []:=World.ownsRow_made W1 #[] 0 hbW.size (by unfold maxLen;omega) (by simp)
         have hbA:Below w.heap.size w (W1.alloc (.cells #[] 5)):=hbW.alloc hbW.size _
         have hz:=hbA.size
         obtain ⟨q,hqq⟩:∃ q,q=K+1:=⟨_,rfl⟩
         have HF2:=HF.out (W1.alloc (.cells #[] 5)) hbA
         rw [←hqq] at HF2 hE
         obtain ⟨vf,hvf,A6,c6,hv6,hA6,hc6,hm6,hl6⟩:=HF2
         have hk1:(K:Int)+1=(q:Int):=by omega
         have hqn:q≤n:=by omega
         have hpl:(l.drop (q)).length=n - (q):=by rw [List.length_drop,HN.out]
         have hpm:((l.drop (q)).map bv).length=n - (q):=by rw [List.length_map];exact hpl
         have HPM:=Lib.hid hpm
         rw [hpl] at hv6 hA6
         subst hv6
         clear hpl hpm hqq
         go_wp2_with (at_builtin;refine zk elemB rfl _ _ rfl w.heap.size _ _ _ _ _ _ ((l.drop (q)).map bv) w rfl rfl hA6 HPM.out hl6 (zbv _) hown0 hbA hz (by omega) (by omega) ?_)
         intro v7 w7 hown7 hb7 _ _
         have hI7:OwnB w (l.drop (q)) v7 w7:=⟨n - (q),by simpa using hown7⟩
         have HI7:=Lib.hid hI7
         clear hown7 hown0 hbA hz hl6 hI7 hk1
         go_wp2
         try simp only [Exit.inBlock,Exit.then]
         refine bodyPost_ret (zW rfl _ _ _) rfl ?_
         rw [hE.out]
         exact ⟨_,rfl,HI7.out,hb7⟩
       ·have HQ:Hid ((elay u T == l.take (K+1))=false):=Lib.hid (by rw [beq_eq_false_iff_ne];exact fun h=>hq ((zkC h0l HK.out HT.out hKl hu).1 h))
        have hE:=Lib.hid (zf2 (s:=s) h0l HK.out hu (.inr hq))
        clear hok hX hu hU HU hu64 hXb hKl hsome hq
        go_wp2_with (go_at_call 113;refine (HMd.out _).mono ?_;rintro e w' ⟨rfl,rfl⟩)
        refine (HPt.out _).mono ?_
        rintro e w1 ⟨vc,rfl,hvc,hbw⟩
        have HVC:=Lib.hid hvc
        clear hvc
        go_wp2
        refine wp_region_list [.is (.bool true),.is (.bool false),.is (.bool false),.is (.int .i64 0),.is (.bool false),.is (.bool false),.is (.bool false),.bytes (elay u T),.is (.string ⟨(elay u T).toArray⟩),.is (.slice (some ad) n c),.is (.int .i64 (K:Int)),.is (.int .i64 ((K+1:Nat):Int)),.is (.slice (some ad) (K+1) c),.is (.string ⟨(l.take (K+1)).toArray⟩),.is (.bool true),.is (.bool true)] [some 69,some 70,some 71,some 72,some 73,some 74,some 75,some 76,some 77,some 78,some 79,some 80,some 81,some 82,some 83,some 84] (by kernel_rfl) (by kernel_rfl) (by kernel_rfl) rfl ⟨?_,?_,?_,?_,?_,?_,?_,?_,?_,?_,?_,?_,?_,?_,?_,?_,trivial⟩ ?_
        ·intro ρ W1 hb1 H
         exact zd rfl (H.old 13 _ (by kernel_rfl) rfl) ⟨rfl,Below.refl _ _⟩
        ·intro ρ W1 hb1 H
         exact zht rfl (H.new 69 0 (by kernel_rfl)) ⟨rfl,Below.refl _ _⟩
        ·intro ρ W1 hb1 H
         exact zd rfl (H.new 70 1 (by kernel_rfl)) ⟨rfl,Below.refl _ _⟩
        ·intro ρ W1 hb1 H d hd
         have hd':(some 71:Option Tmp)=some d:=hd
         injection hd' with hd'
         subst hd'
         refine ⟨fun _=>?_,fun hne=>absurd (H.new 71 2 (by kernel_rfl)) hne⟩
         exact zd rfl (H.old 15 _ (by kernel_rfl) rfl) ⟨rfl,Below.refl _ _⟩
        ·intro ρ W1 hb1 H d hd
         have hd':(some 71:Option Tmp)=some d:=hd
         injection hd' with hd'
         subst hd'
         refine ⟨fun _=>?_,fun hne=>absurd (H.new 71 2 (by kernel_rfl)) hne⟩
         exact zha rfl (H.new 72 3 (by kernel_rfl)) (H.const _) ⟨rfl,Below.refl _ _⟩
        ·intro ρ W1 hb1 H
         exact zde rfl (H.new 71 2 (by kernel_rfl)) (H.new 73 4 (by kernel_rfl)) ⟨rfl,Below.refl _ _⟩
        ·intro ρ W1 hb1 H
         exact zd rfl (H.new 74 5 (by kernel_rfl)) ⟨rfl,Below.refl _ _⟩
        ·intro ρ W1 hb1 H d hd
         have hd':(some 75:Option Tmp)=some d:=hd
         injection hd' with hd'
         subst hd'
         refine ⟨fun _=>?_,fun hne=>absurd (H.new 75 6 (by kernel_rfl)) hne⟩
         exact zd rfl (H.old 14 _ (by kernel_rfl) rfl) ⟨HVC.out.below hb1,Below.refl _ _⟩
        ·intro ρ W1 hb1 H d hd
         have hd':(some 75:Option Tmp)=some d:=hd
         injection hd' with hd'
         subst hd'
         refine ⟨fun _=>?_,fun hne=>absurd (H.new 75 6 (by kernel_rfl)) hne⟩
         have hB:IsB (elay u T) (ρ (.tmp 76)) W1:=H.new 76 7 (by kernel_rfl)
         exact zS rfl rfl (hB.text _ _ _ Tryz.underlying25 Tryz.underlying5 Tryz.underlying9) ⟨rfl,Below.refl _ _⟩
        ·intro ρ W1 hb1 H d hd
         have hd':(some 75:Option Tmp)=some d:=hd
         injection hd' with hd'
         subst hd'
         refine ⟨fun _=>?_,fun hne=>absurd (H.new 75 6 (by kernel_rfl)) hne⟩
         exact zd rfl (H.old 0 _ (by kernel_rfl) rfl) ⟨rfl,Below.refl _ _⟩
        ·intro ρ W1 hb1 H d hd
         have hd':(some 75:Option Tmp)=some d:=hd
         injection hd' with hd'
         subst hd'
         refine ⟨fun _=>?_,fun hne=>absurd (H.new 75 6 (by kernel_rfl)) hne⟩
         exact zd rfl (H.old 8 _ (by kernel_rfl) rfl) ⟨rfl,Below.refl _ _⟩
        ·intro ρ W1 hb1 H d hd
         have hd':(some 75:Option Tmp)=some d:=hd
         injection hd' with hd'
         subst hd'
         refine ⟨fun _=>?_,fun hne=>absurd (H.new 75 6 (by kernel_rfl)) hne⟩
         exact zb4 rfl (H.new 79 10 (by kernel_rfl)) (H.const _) (by omega) (by omega) ⟨rfl,Below.refl _ _⟩
        ·intro ρ W1 hb1 H d hd
         have hd':(some 75:Option Tmp)=some d:=hd
         injection hd' with hd'
         subst hd'
         refine ⟨fun _=>?_,fun hne=>absurd (H.new 75 6 (by kernel_rfl)) hne⟩
         exact zdw elemB rfl (H.new 78 9 (by kernel_rfl)) (H.new 80 11 (by kernel_rfl)) (by omega) ⟨rfl,Below.refl _ _⟩
        ·intro ρ W1 hb1 H d hd
         have hd':(some 75:Option Tmp)=some d:=hd
         injection hd' with hd'
         subst hd'
         refine ⟨fun _=>?_,fun hne=>absurd (H.new 75 6 (by kernel_rfl)) hne⟩
         exact zS rfl (H.new 81 12 (by kernel_rfl)) (zs6 (HI.out.below (za hbw hb1))) ⟨rfl,Below.refl _ _⟩
        ·intro ρ W1 hb1 H d hd
         have hd':(some 75:Option Tmp)=some d:=hd
         injection hd' with hd'
         subst hd'
         refine ⟨fun _=>?_,fun hne=>absurd (H.new 75 6 (by kernel_rfl)) hne⟩
         exact zcI (a:=elay u T) (b:=l.take (K+1)) rfl (H.new 77 8 (by kernel_rfl)) (H.new 82 13 (by kernel_rfl)) ⟨by rw [HQ.out];rfl,Below.refl _ _⟩
        ·intro ρ W1 hb1 H
         exact zde rfl (H.new 75 6 (by kernel_rfl)) (H.new 83 14 (by kernel_rfl)) ⟨rfl,Below.refl _ _⟩
        ·intro vs W1 hb1 hfs
         have f15:vs 15=.bool true:=hfs 15 (by decide)
         clear hfs
         simp only [zr,Nat.zero_add,Nat.reduceAdd]
         generalize vs 0=z0
         generalize vs 1=z1
         generalize vs 2=z2
         generalize vs 3=z3
         generalize vs 4=z4
         generalize vs 5=z5
         generalize vs 6=z6
         generalize vs 7=z7
         generalize vs 8=z8
         generalize vs 9=z9
         generalize vs 10=z10
         generalize vs 11=z11
         generalize vs 12=z12
         generalize vs 13=z13
         generalize vs 14=z14
         simp only [f15,Act.put,List.setIfInBounds_toArray,List.set_cons_succ,List.set_cons_zero]
         clear f15
         go_wp2
         try simp only [Exit.inBlock,Exit.then]
         refine bodyPost_ret (zW rfl _ _ _) rfl ?_
         rw [hE.out]
         exact RetT7O.no (za hbw hb1)
def OwnV {α:Type} (f:α→Value) (e:TypeId) (w:World) (l:List α) (v:Value) (w':World):Prop:=∃ n,w'.ownsRow w.heap.size e 1 v n (l.map f)
section
variable {α:Type} {f:α→Value} {e:TypeId} {w w0 w1 w2:World} {l:List α} {v:Value}
theorem OwnV.isV (h:OwnV f e w l v w1):IsV f l v w1:=h.elim fun _ h=>zbk h
theorem OwnV.nil (f:α→Value) (e:TypeId) (w w':World):OwnV f e w [] (.slice none 0 0) w':=⟨0,World.ownsRow_nil _ _ _ _⟩
theorem OwnV.below (h:OwnV f e w l v w1) (hb:Below w1.heap.size w1 w2):OwnV f e w l v w2:=h.elim fun _ h=>⟨_,own_below h hb⟩
theorem OwnV.base (hb:w0.heap.size≤w.heap.size) (h:OwnV f e w l v w1):OwnV f e w0 l v w1:=h.elim fun _ h=>⟨_,zbV hb h⟩
end
end Go.Proofs.YtlibofmpnlfelaaGreatDoor
namespace Go.Proofs.YtlibofmpnlfelaaGreatDoor
def omap {α β:Type} (f:α→Option β):List α→Option (List β)
 | []=>some []
 | x::l=>match f x with | none=>none | some y=>match omap f l with | none=>none | some ys=>some (y::ys)
section
variable {α β:Type} {f:α→Option β}
theorem zkD (l:List α) (x:α):omap f (l ++ [x])=match omap f l with | none=>none | some ys=>match f x with | none=>none | some y=>some (ys ++ [y]):=by
 induction l with
 | nil=>simp only [List.nil_append,omap]
 | cons z l ih =>
  rw [List.cons_append,omap,omap,ih]
  cases f z with
  | none=>rfl
  | some y=>cases omap f l with
   | none=>rfl
   | some ys=>cases f x <;> rfl
theorem zb5 {l:List α} {x:α} (hx:x∈l) (h:f x=none):omap f l=none:=by
 induction l with
 | nil=>cases hx
 | cons z l ih =>
  rw [omap]
  rcases List.mem_cons.1 hx with rfl | hx
  ·rw [h]
  ·rw [ih hx];cases f z <;> rfl
theorem zcb {l:List α} {ys:List β} (h:omap f l=some ys):ys.length=l.length:=by
 induction l generalizing ys with
 | nil=>simp [omap] at h;subst h;rfl
 | cons z l ih =>
  rw [omap] at h
  cases hz:f z with
  | none=>rw [hz] at h;cases h
  | some y =>
   rw [hz] at h
   cases hl:omap f l with
   | none=>rw [hl] at h;cases h
   | some zs =>
    rw [hl] at h
    injection h with h
    subst h
    rw [List.length_cons,List.length_cons,ih hl]
theorem zfs {l:List α} {ys:List β} (h:omap f l=some ys) {y:β} (hy:y∈ys):∃ x∈l,f x=some y:=by
 induction l generalizing ys with
 | nil=>simp [omap] at h;subst h;cases hy
 | cons z l ih =>
  rw [omap] at h
  cases hz:f z with
  | none=>rw [hz] at h;cases h
  | some u =>
   rw [hz] at h
   cases hl:omap f l with
   | none=>rw [hl] at h;cases h
   | some zs =>
    rw [hl] at h
    injection h with h
    subst h
    rcases List.mem_cons.1 hy with rfl | hy
    ·exact ⟨z,List.mem_cons_self,hz⟩
    ·obtain ⟨x,hx,hf⟩:=ih hl hy
     exact ⟨x,List.mem_cons_of_mem _ hx,hf⟩
theorem zkE {g:β→Option α} {l:List α} {ys:List β} (hg:∀ x∈l,∀ y,f x=some y→g y=some x) (h:omap f l=some ys):omap g ys=some l:=by
 induction l generalizing ys with
 | nil=>simp [omap] at h;subst h;rfl
 | cons z l ih =>
  rw [omap] at h
  cases hz:f z with
  | none=>rw [hz] at h;cases h
  | some u =>
   rw [hz] at h
   cases hl:omap f l with
   | none=>rw [hl] at h;cases h
   | some zs =>
    rw [hl] at h
    injection h with h
    subst h
    rw [omap,hg z List.mem_cons_self u hz,ih (fun x hx=>hg x (List.mem_cons_of_mem _ hx)) hl]
end
def zy (l:List Int) (s:Bool):Option (List Nat):=omap (zx · s) l
def zeW (u:List Nat) (s:Bool):Option (List Int):=omap (zbf · s) u
def zdX (l:List Int) (s:Bool):List Nat × Int:=match zy l s with | none=>([],1) | some u=>(u,0)
def zcs (u:List Nat) (s:Bool):List Int × Int:=match zeW u s with | none=>([],2) | some l=>(l,0)
theorem zft {l:List Int} {s:Bool} {u:List Nat} (hl:∀ x∈l,inInt x) (h:zy l s=some u):∀ y∈u,y < 2 ^ 64:=by
 intro y hy
 obtain ⟨x,hx,hf⟩:=zfs h hy
 exact zhr (hl x hx).1 (hl x hx).2 hf
theorem zdz {l:List Int} {s:Bool} {u:List Nat} (h:zy l s=some u):u.length=l.length:=zcb h
theorem zq4 {u:List Nat} {s:Bool} {l:List Int} (h:zeW u s=some l):l.length=u.length:=zcb h
theorem zkF {l:List Int} {s:Bool} {u:List Nat} (hl:∀ x∈l,inInt x) (h:zy l s=some u):zeW u s=some l:=
 zkE (fun x hx _ hy=>zgx (hl x hx).1 (hl x hx).2 hy) h
def zE (k c m:Nat):List UInt8:=be 2 (16384*k+512*c+(m - 1))
def zoY (k c m:Int):List UInt8:=if 0≤k∧k≤3∧0≤c∧c≤31∧1≤m∧m≤512 then zE k.toNat c.toNat m.toNat else []
theorem zfu {k c m:Nat} (hk:k≤3) (hc:c≤31) (h1:1≤m) (hm:m≤512):zoY (k:Int) (c:Int) (m:Int)=zE k c m:=by
 unfold zoY
 rw [if_pos (by omega)]
 simp
theorem zV (k c m:Nat):(zE k c m).length=2:=zcJ _ _
def zp (l:List UInt8):Int × Int × Int × List UInt8 × Int:=
 if l.length < 2 then (0,0,0,[],2)
 else (((bval (l.take 2) / 16384:Nat):Int),((bval (l.take 2) / 512 % 32:Nat):Int),((bval (l.take 2) % 512+1:Nat):Int),l.drop 2,0)
theorem zmC {k c m:Nat} (hk:k≤3) (hc:c≤31) (h1:1≤m) (hm:m≤512):bval (zE k c m)=16384*k+512*c+(m - 1):=by
 unfold zE
 rw [zfX,Nat.mod_eq_of_lt (by omega)]
theorem zf3 {k c m:Nat} (hk:k≤3) (hc:c≤31) (h1:1≤m) (hm:m≤512) (b:List UInt8):zp (zE k c m ++ b)=((k:Int),(c:Int),(m:Int),b,0):=by
 have hl:=zV k c m
 have ht:(zE k c m ++ b).take 2=zE k c m:=by rw [←hl];simp
 have hd:(zE k c m ++ b).drop 2=b:=by rw [←hl];simp
 unfold zp
 rw [if_neg (by rw [List.length_append,hl];omega),ht,hd,zmC hk hc h1 hm]
 have e1:(16384*k+512*c+(m - 1)) / 16384=k:=by omega
 have e2:(16384*k+512*c+(m - 1)) / 512 % 32=c:=by omega
 have e3:(16384*k+512*c+(m - 1)) % 512+1=m:=by omega
 rw [e1,e2,e3]
theorem zn1 {l:List UInt8} (h:2≤l.length):bval (l.take 2)=256*l[0].toNat+l[1].toNat∧bval (l.take 2) < 65536:=by
 match l,h with
 | a::b::r,_ =>
  have h1:=a.toNat_lt
  have h2:=b.toNat_lt
  have e:bval ((a::b::r).take 2)=256*a.toNat+b.toNat:=by
   show bval [a,b]=_
   simp [bval]
   omega
  rw [e]
  exact ⟨rfl,by omega⟩
def ze6 (u:List Nat):Nat:=(zh (zbW u:Int)).toNat
theorem zhv {u:List Nat}:zh (zbW u:Int)=(ze6 u:Int):=by unfold ze6;have:=(zhg (zbW u:Int)).1;omega
theorem zkG:∀ (u:List Nat) (n:Nat),n≤u.foldl (fun n x=>max n x) n∧∀ x∈u,x≤u.foldl (fun n x=>max n x) n
 | [],n=>⟨Nat.le_refl _,fun _ h=>by cases h⟩
 | y::u,n=>by
  have h:=zkG u (max n y)
  refine ⟨Nat.le_trans (Nat.le_max_left _ _) h.1,fun x hx=>?_⟩
  rcases List.mem_cons.1 hx with rfl | hx
  ·exact Nat.le_trans (Nat.le_max_right _ _) h.1
  ·exact h.2 x hx
theorem zjF {u:List Nat} {x:Nat} (h:x∈u):x≤wtop u:=(zkG u 0).2 x h
theorem zeF {u:List Nat} (h:∀ x∈u,x < 2 ^ 64):1≤ze6 u∧ze6 u≤64∧(∀ x∈u,x < 2 ^ ze6 u):=by
 have h1:=zvS ⟨zbW u,by have:=zeA h;omega⟩
 have h2:=zhg (zbW u:Int)
 have h3:=zhv (u:=u)
 dsimp only at h1
 rw [h3] at h1 h2
 refine ⟨by omega,by omega,fun x hx=>?_⟩
 have h4:x≤wtop u:=by
  clear h1 h2 h3 h
  exact zjF hx
 have h5:=(zfm (zmh h) (show ze6 u≤64 by omega)).1 (by rw [zfn h];omega)
 omega
def zkH (u:List Nat):Nat:=(zbc (ze6 u:Int)).toNat
theorem zmD:∀ n:Fin 65,0≤zbc (zh (n.val:Int))∧zbc (zh (n.val:Int))≤31∧wof (zbc (zh (n.val:Int)))=zh (n.val:Int):=by decide +kernel
theorem zhw {u:List Nat} (h:∀ x∈u,x < 2 ^ 64):zbc (ze6 u:Int)=(zkH u:Int)∧zkH u≤31∧wof (zkH u:Int)=(ze6 u:Int):=by
 have h1:=zmD ⟨zbW u,by have:=zeA h;omega⟩
 dsimp only at h1
 rw [zhv] at h1
 have h2:zbc (ze6 u:Int)=(zkH u:Int):=by unfold zkH;omega
 rw [h2] at h1
 exact ⟨h2,by omega,h1.2.2⟩
def dlay (u:List Nat):List UInt8:=zE 1 (zkH u) u.length ++ zbx u (ze6 u)
def zdY (l:List Int) (s:Bool):List UInt8 × Int:=match zy l s with | none=>([],1) | some u=>if l.length < 1∨512 < l.length then ([],1) else (dlay u,0)
def zbh (l:List UInt8) (s:Bool):List Int × List UInt8 × Int:=
 if (zp l).2.2.2.2≠0∨(zp l).1≠1 then ([],[],2)
 else match zg (zp l).2.2.2.1 (zp l).2.2.1 (wof (zp l).2.1) with
  | (u,r,e)=>if e≠0 then ([],[],2) else match zeW u s with | none=>([],[],2) | some m=>(m,r,0)
theorem zen {l:List UInt8} {c m:Int} {r:List UInt8} {s:Bool} (h:zp l=(1,c,m,r,0)) {u:List Nat} {q:List UInt8} (hu:zg r m (wof c)=(u,q,0)) {o:List Int} (hm:zeW u s=some o):zbh l s=(o,q,0):=by
 unfold zbh
 rw [h]
 dsimp only
 rw [if_neg (by decide),hu]
 dsimp only
 rw [if_neg (by decide),hm]
theorem zq5 {u:List Nat} {l:List Int} {s:Bool} (hu:∀ x∈u,x < 2 ^ 64) (h1:1≤u.length) (h2:u.length≤512) (hm:zeW u s=some l) (b:List UInt8):zbh (dlay u ++ b) s=(l,b,0):=by
 obtain ⟨hw1,hw2,hw3⟩:=zeF hu
 obtain ⟨_,hc2,hc3⟩:=zhw hu
 have hd:zp (dlay u ++ b)=(1,(zkH u:Int),(u.length:Int),zbx u (ze6 u) ++ b,0):=by
  unfold dlay
  rw [List.append_assoc]
  exact zf3 (k:=1) (by omega) hc2 h1 h2 _
 refine zen hd ?_ hm
 rw [hc3,zbX _ _ _ (by omega) hw2]
 exact zdh hw3 b
theorem zoZ {l:List Int} {s:Bool} {u:List Nat} (hl:∀ x∈l,inInt x) (h1:1≤l.length) (h2:l.length≤512) (h:zy l s=some u) (b:List UInt8):zbh (dlay u ++ b) s=(l,b,0):=
 zq5 (zft hl h) (by rw [zdz h];exact h1) (by rw [zdz h];exact h2) (zkF hl h) b
end Go.Proofs.YtlibofmpnlfelaaGreatDoor
namespace Go.Proofs.YtlibofmpnlfelaaGreatDoor
open Go.RowKit
theorem isU_iff {l:List Nat} {v:Value} {w:World}:IsU l v w↔IsV uv l v w:=Iff.rfl
theorem zeG (w:World) (e:TypeId):(w.alloc (.cells #[] e)).ownsRow w.heap.size e 1 (.slice (some ⟨w.heap.size,0,none⟩) 0 0) 0 []:=World.ownsRow_made w #[] 0 (Nat.le_refl _) (by unfold maxLen;omega) (by simp)
def RetK (w:World) (p:Int × Int × Int × List UInt8 × Int) (e:Ending) (w':World):Prop:=
 ∃ v,e=.returned (.tuple #[.int .i64 p.1,.int .i64 p.2.1,.int .i64 p.2.2.1,v,.int .i64 p.2.2.2.2])∧IsB p.2.2.2.1 v w'∧Below w.heap.size w w'
theorem ze7 {l:List UInt8} (h:l.length < 2):zp l=(0,0,0,[],2):=by unfold zp;rw [if_pos h]
theorem zeH {l:List UInt8} {X:Nat} (h:2≤l.length) (hX:X=256*l[0].toNat+l[1].toNat):zp l=(((X / 16384:Nat):Int),((X / 512 % 32:Nat):Int),((X % 512+1:Nat):Int),l.drop 2,0):=by
 unfold zp
 rw [if_neg (by omega),(zn1 h).1,←hX]
theorem zf4 (l:List UInt8) (v:Value) (w:World) (hv:IsB l v w) (hb:l.length≤1000000) :
  Calls Tryz.prog 108 #[v] w (RetK w (zp l)):=by
 obtain ⟨A,c,rfl,hA,hnc,hcm,hl⟩:=hv
 obtain ⟨n,hn⟩:∃ n,n=l.length:=⟨_,rfl⟩
 rw [←hn] at hA hnc hb ⊢
 have hci:(c:Int)≤9223372036854775807:=by unfold maxLen at hcm;omega
 by_cases h2:n < 2
 ·have hE:=Lib.hid (ze7 (l:=l) (by omega))
  have d1:decide ((n:Int) < 2)=true:=decide_eq_true (by omega)
  clear hn hl hcm hA hnc
  go_enter Tryz.func108,Tryz.ntmps108
  go_wp2
  refine bodyPost_ret (zdf rfl _ _ _) rfl ?_
  rw [hE.out]
  exact ⟨_,rfl,zcu _,Below.refl _ _⟩
 ·have hl2:2≤l.length:=by omega
  have d1:decide ((n:Int) < 2)=false:=decide_eq_false (by omega)
  obtain ⟨ad,rfl,_,hcell0⟩:=hl.cell (k:=0) (by rw [List.length_map];omega)
  obtain ⟨_,hAd,_,hcell1⟩:=hl.cell (k:=1) (by rw [List.length_map];omega)
  injection hAd with hAd
  subst hAd
  obtain ⟨x,hx⟩:∃ x:Nat,x=l[0].toNat:=⟨_,rfl⟩
  obtain ⟨y,hy⟩:∃ y:Nat,y=l[1].toNat:=⟨_,rfl⟩
  have hx8:x < 256:=by rw [hx];exact UInt8.toNat_lt _
  have hy8:y < 256:=by rw [hy];exact UInt8.toNat_lt _
  have hc0:w.cell? ad=some (.int .u8 (x:Int)):=by
   have e:ad.add 0=ad:=by simp [Addr.add]
   rw [e] at hcell0
   rw [hcell0,List.getElem_map,hx];rfl
  have hc1:w.cell? ⟨ad.block,ad.off+1,none⟩=some (.int .u8 (y:Int)):=by
   have e:ad.add 1=⟨ad.block,ad.off+1,none⟩:=by simp [Addr.add]
   rw [e] at hcell1
   rw [hcell1,List.getElem_map,hy];rfl
  obtain ⟨X,hX⟩:∃ X,X=256*x+y:=⟨_,rfl⟩
  have hXb:X < 65536:=by omega
  have hE:=Lib.hid (zeH (l:=l) (X:=X) hl2 (by rw [hX,hx,hy]))
  have hn0:(0:Int) < (n:Int):=by omega
  have hn1:(1:Int) < (n:Int):=by omega
  have HX:=Lib.hid (show (256*(x:Int)+(y:Int)) / 16384=((X / 16384:Nat):Int)∧(256*(x:Int)+(y:Int)) / 512 % 32=((X / 512 % 32:Nat):Int)∧(256*(x:Int)+(y:Int)) % 512+1=((X % 512+1:Nat):Int) from ⟨by omega,by omega,by omega⟩)
  have HN:=Lib.hid hn
  obtain ⟨v6,hv6,A6,c6,e6,hA6,hc6,hm6,hl6⟩:=zbm (P:=Tryz.prog) (w:=w) elemB (k:=2) (by omega) hnc hcm hn.symm hl hA
  have hpl:(l.drop 2).length=n - 2:=by rw [List.length_drop];omega
  have hpm:((l.drop 2).map bv).length=n - 2:=by rw [List.length_map];exact hpl
  have HPM:=Lib.hid hpm
  rw [hpl] at e6 hA6
  obtain ⟨N,hN⟩:∃ N,N=n - 2:=⟨_,rfl⟩
  rw [←hN] at e6 hA6 HPM
  have hNb:N≤1000000:=by omega
  subst e6
  clear hN
  have hsl:∀ W,(Instr.sliceAt 25 (.slice (some ad) n c) (some (.int .i64 2)) none none).run Tryz.prog W=.ok (.slice A6 N c6) W:=hv6
  clear hn hx hy hX hcell0 hcell1 hl hv6 hpl hpm hc6 hm6
  go_enter Tryz.func108,Tryz.ntmps108
  go_wp2
  go_quiet (fail)
  have hown0:((w.drewN nq).alloc (.cells #[] 5)).ownsRow w.heap.size 5 1 (.slice (some ⟨w.heap.size,0,none⟩) 0 0) 0 []:=zeG (w.drewN nq) 5
  have hb0:Below w.heap.size w ((w.drewN nq).alloc (.cells #[] 5)):=(below_drewN (Below.refl _ _) nq).alloc (Nat.le_refl _) _
  have hz0:=hb0.size
  have hl0:=hl6.below hb0
  go_wp2_with (at_builtin;refine zk elemB rfl _ _ rfl w.heap.size _ _ _ _ _ _ ((l.drop 2).map bv) w rfl rfl hA6 HPM.out hl0 (zbv _) hown0 hb0 hz0 (by omega) (by omega) ?_)
  intro v7 w7 hown7 hb7 _ _
  have HI7:=Lib.hid (show IsB (l.drop 2) v7 w7 from zbw (n:=N) (by simpa using hown7))
  have HB7:=Lib.hid hb7
  clear hown7 hb7 hown0 hb0 hz0 hl0
  go_wp2
  refine bodyPost_ret (zdf rfl _ _ _) rfl ?_
  rw [hE.out]
  refine ⟨_,?_,HI7.out,HB7.out⟩
  rw [←HX.out.1,←HX.out.2.1,←HX.out.2.2]
  rfl
def RetV {α:Type} (f:α→Value) (w:World) (p:List α × Int) (e:Ending) (w':World):Prop:=∃ u,e=.returned (.tuple #[u,.int .i64 p.2])∧IsV f p.1 u w'∧Below w.heap.size w w'
theorem RetV.nil {α:Type} {f:α→Value} {w w':World} (n:Int) (hb:Below w.heap.size w w'):RetV f w ([],n) (.returned (.tuple #[.slice none 0 0,.int .i64 n])) w':=⟨_,rfl,zdW _ _,hb⟩
theorem zc0 {α β:Type} {f:α→Option β} {l:List α} {k:Nat} {acc:List β} {y:β} (hk:k < l.length) (h:omap f (l.take k)=some acc) (hy:f l[k]=some y):omap f (l.take (k+1))=some (acc ++ [y]):=by
 rw [List.take_succ_eq_append_getElem hk,zkD,h,hy]
def zjG {α β:Type} (f:α→Option β) (enc:β→Value) (t:TypeId) (l:List α) (w:World) (v i:Value) (wr:World):Prop:=
 ∃ (k:Nat) (acc:List β),k≤l.length∧i=.int .i64 (k:Int)∧omap f (l.take k)=some acc∧wr.ownsRow w.heap.size t 1 v acc.length (acc.map enc)∧Below w.heap.size w wr
theorem zo0 (l:List Nat) (v:Value) (s:Bool) (w:World) (hv:IsV uv l v w) (hl:∀ x∈l,x < 2 ^ 64) (hb:l.length≤1000000) :
  Calls Tryz.prog 110 #[v,.bool s] w (RetV iv w (zcs l s)):=by
 obtain ⟨A,c,rfl,hA,hnc,hcm,hlw⟩:=hv
 obtain ⟨n,hn⟩:∃ n,n=l.length:=⟨_,rfl⟩
 rw [←hn] at hA hnc hb ⊢
 have hst:zjG (zbf · s) iv 3 l w (.slice (some ⟨w.heap.size,0,none⟩) 0 0) (.int .i64 0) (w.alloc (.cells #[] 3)):=⟨0,[],by omega,rfl,rfl,zeG w _,(Below.refl _ _).alloc (Nat.le_refl _) _⟩
 have HN:=Lib.hid hn
 have HL:=Lib.hid hlw
 have HI:=Lib.hid hl
 clear hn hlw hl hcm hA
 go_enter Tryz.func110,Tryz.ntmps110
 go_wp2
 go_loopw [6,7] (zjG (zbf · s) iv 3 l w) (fun _ i _=>n - (intOf i).toNat)
 case atStart=>exact hst
 case round =>
  obtain ⟨k,acc,hk,rfl,hacc,hown,hbw⟩:=hrel
  have hz:=hbw.size
  have hal:acc.length=k:=by rw [zcb hacc,List.length_take];omega
  have HACC:=Lib.hid hacc
  have HAL:=Lib.hid hal
  have hk':k≤n:=by have:=HN.out;omega
  clear hst hacc
  rw [hal] at hown
  clear hal
  by_cases hlt:k < n
  ·have hkl:k < l.length:=by have:=HN.out;omega
   have hlti:(k:Int) < (n:Int):=by omega
   obtain ⟨ad,rfl,_,hcell⟩:=(HL.out.below hbw).cell (k:=k) (by rw [List.length_map];exact hkl)
   obtain ⟨x,hx⟩:∃ x,x=l[k]:=⟨_,rfl⟩
   have hcx:wr.cell? (ad.add k)=some (.int .u64 (x:Int)):=by rw [hcell,List.getElem_map,hx];rfl
   have hxb:x < 2 ^ 64:=by rw [hx];exact HI.out _ (List.getElem_mem hkl)
   have HP:=Lib.hid (ziJ (x:Int) s wr (by omega) (by omega))
   rw [Int.toNat_natCast] at HP
   obtain ⟨u,hu⟩:∃ u,u=(zbf x s).getD 0:=⟨_,rfl⟩
   obtain ⟨ok,hok⟩:∃ ok,ok=(zbf x s).isSome:=⟨_,rfl⟩
   rw [←hu,←hok] at HP
   have HX:=Lib.hid hx
   have HU:=Lib.hid hu
   have HOK:=Lib.hid hok
   clear hx hu hok hcell hxb
   cases ok with
   | false =>
    have hE:Hid (zcs l s=([],2)):=Lib.hid (by
     have h0:zbf x s=none:=by simpa using HOK.out.symm
     have h1:zeW l s=none:=zb5 (x:=x) (by rw [HX.out];exact List.getElem_mem hkl) h0
     unfold zcs;rw [h1])
    go_wp2_with (go_at_call 113;refine HP.out.mono ?_;rintro e w' ⟨rfl,rfl⟩)
    go_ret2
    rw [hE.out]
    exact RetV.nil _ hbw
   | true =>
    have hnext:Hid (omap (zbf · s) (l.take (k+1))=some (acc ++ [u])):=Lib.hid (zc0 hkl HACC.out (by
     rw [←HX.out]
     have h0:=HOK.out
     have h1:=HU.out
     cases he:zbf x s with
     | none=>rw [he] at h0;simp at h0
     | some z=>rw [he] at h1;simp at h1;rw [h1]))
    go_wp2_with (first | (go_at_call 113;refine HP.out.mono ?_;rintro e w' ⟨rfl,rfl⟩) | (at_builtin;refine zQ zck rfl _ _ rfl w.heap.size _ _ _ (iv u) wr w rfl rfl rfl rfl hown hbw hz (by omega) (by omega) ?_))
    intro v5 w5 hown5 hb5 _ _
    have hown6:w5.ownsRow w.heap.size 3 1 v5 (acc ++ [u]).length ((acc ++ [u]).map iv):=by
     rw [List.length_append,List.length_singleton,List.map_append,List.map_singleton,HAL.out]
     exact hown5
    clear hown5 hown
    go_wp2
    go_roundw
    case rel=>exact ⟨k+1,_,by have:=HN.out;omega,by go_num,hnext.out,hown6,hb5⟩
    case measure=>simp [intOf];omega
  ·obtain rfl:k=n:=by omega
   have hlti:¬(k:Int) < (k:Int):=by omega
   have hE:Hid (zcs l s=(acc,0)):=Lib.hid (by
    have h1:=HACC.out
    rw [List.take_of_length_le (by have:=HN.out;omega)] at h1
    unfold zcs zeW;rw [h1])
   go_wp2
   go_ret2
   rw [hE.out]
   exact ⟨_,rfl,zbk hown,hbw⟩
theorem zgR {k c m:Int} (h:¬(0≤k∧k≤3∧0≤c∧c≤31∧1≤m∧m≤512)):zoY k c m=[]:=by unfold zoY;rw [if_neg h]
theorem zo1 {k c m X h y:Nat} (hX:X=16384*k+512*c+(m - 1)) (hh:h=X / 256) (hy:y=X % 256) (hb:X < 65536):(zE k c m).map bv=[.int .u8 (h:Int),.int .u8 (y:Int)]:=by
 have e:zE k c m=[UInt8.ofNat h,UInt8.ofNat y]:=by
  unfold zE
  rw [←hX]
  symm
  refine zoK rfl ?_
  have h1:(UInt8.ofNat h).toNat=h:=by rw [UInt8.toNat_ofNat'];omega
  have h2:(UInt8.ofNat y).toNat=y:=by rw [UInt8.toNat_ofNat'];omega
  simp only [bval,List.length_cons,List.length_nil,h1,h2]
  omega
 rw [e]
 have h1:(UInt8.ofNat h).toNat=h:=by rw [UInt8.toNat_ofNat'];omega
 have h2:(UInt8.ofNat y).toNat=y:=by rw [UInt8.toNat_ofNat'];omega
 simp only [List.map_cons,List.map_nil,bv,h1,h2]
def RetH (w:World) (l:List UInt8) (e:Ending) (w':World):Prop:=∃ v,e=.returned v∧w'.ownsRow w.heap.size 5 1 v l.length (l.map bv)∧Below w.heap.size w w'
theorem zuO (w:World) (e:TypeId) (xs:List Value) (n:Nat) (hn:xs.length=n) (hb:n≤1000000):(w.alloc (.cells xs.toArray e)).ownsRow w.heap.size e 1 (.slice (some ⟨w.heap.size,0,none⟩) n n) n xs:=
 ⟨by simpa using hn,.inr ⟨w.heap.size,n,xs.toArray,rfl,Nat.le_refl _,heap_alloc_new w _,Nat.le_refl _,by unfold maxLen;omega,by simp [hn],by subst hn;simp⟩⟩
theorem ztq {l:List Int} {s:Bool} (h:zy l s=none):zdY l s=([],1):=by unfold zdY;rw [h]
theorem zq6 {l:List Int} {s:Bool} (h:l.length < 1∨512 < l.length):zdY l s=([],1):=by
 unfold zdY
 cases zy l s with
 | none=>rfl
 | some u=>dsimp only;rw [if_pos h]
theorem zn2 {l:List Int} {s:Bool} {u:List Nat} (h:zy l s=some u) (h1:1≤l.length) (h2:l.length≤512):zdY l s=(dlay u,0):=by
 unfold zdY
 rw [h]
 dsimp only
 rw [if_neg (by omega)]
theorem zvy {u:List Nat} (h:∀ x∈u,x < 2 ^ 64):zcR u (ze6 u:Int)=(zbx u (ze6 u),0):=by
 obtain ⟨_,h2,h3⟩:=zeF h
 rw [zcd _ _ h2,zdU h3]
theorem zhx {n W:Nat} (hn:n≤512) (hW:W≤64):zT n W≤4096:=by
 unfold zT
 have:n*W≤512*64:=Nat.mul_le_mul hn hW
 omega
theorem zfv {l:List UInt8} {s:Bool} (h:(zp l).2.2.2.2≠0∨(zp l).1≠1):zbh l s=([],[],2):=by unfold zbh;rw [if_pos h]
theorem ziN {l:List UInt8} {c m:Int} {r:List UInt8} {s:Bool} (h:zp l=(1,c,m,r,0)) {u:List Nat} {q:List UInt8} {x:Int} (hu:zg r m (wof c)=(u,q,x)) (hx:x≠0):zbh l s=([],[],2):=by
 unfold zbh
 rw [h]
 dsimp only
 rw [if_neg (by decide),hu]
 dsimp only
 rw [if_pos hx]
theorem ziO {l:List UInt8} {c m:Int} {r:List UInt8} {s:Bool} (h:zp l=(1,c,m,r,0)) {u:List Nat} {q:List UInt8} (hu:zg r m (wof c)=(u,q,0)) (hm:zeW u s=none):zbh l s=([],[],2):=by
 unfold zbh
 rw [h]
 dsimp only
 rw [if_neg (by decide),hu]
 dsimp only
 rw [if_neg (by decide),hm]
def RetIB (w:World) (p:List Int × List UInt8 × Int) (e:Ending) (w':World):Prop:=∃ u v,e=.returned (.tuple #[u,v,.int .i64 p.2.2])∧IsV iv p.1 u w'∧IsB p.2.1 v w'∧Below w.heap.size w w'
theorem RetIB.nil {w w':World} (n:Int) (hb:Below w.heap.size w w'):RetIB w ([],[],n) (.returned (.tuple #[.slice none 0 0,.slice none 0 0,.int .i64 n])) w':=⟨_,_,rfl,zdW _ _,zcu _,hb⟩
def RetIO (w:World) (p:List Int × List UInt8 × Int) (e:Ending) (w':World):Prop:=∃ u v,e=.returned (.tuple #[u,v,.int .i64 p.2.2])∧IsV iv p.1 u w'∧OwnB w p.2.1 v w'∧Below w.heap.size w w'
theorem RetIO.nil {w w':World} (n:Int) (hb:Below w.heap.size w w'):RetIO w ([],[],n) (.returned (.tuple #[.slice none 0 0,.slice none 0 0,.int .i64 n])) w':=⟨_,_,rfl,zdW _ _,OwnB.nil _ _,hb⟩
theorem RetIO.ib {w w':World} {p:List Int × List UInt8 × Int} {e:Ending} (h:RetIO w p e w'):RetIB w p e w':=by
 obtain ⟨u,v,h1,h2,h3,h4⟩:=h
 exact ⟨u,v,h1,h2,h3.isB,h4⟩
theorem zcS (l:List UInt8):0≤(zp l).1∧(zp l).1≤65536∧0≤(zp l).2.1∧(zp l).2.1≤31∧0≤(zp l).2.2.1∧(zp l).2.2.1≤512∧(zp l).2.2.2.1.length≤l.length:=by
 unfold zp
 split
 ·simp
 ·rename_i h
  have h1:=(zn1 (l:=l) (by omega)).2
  dsimp only
  rw [List.length_drop]
  omega
theorem zo2 {l:List UInt8} {M W:Nat} (hW:W≤64):∀ x∈(zbt l M W).1,x < 2 ^ 64:=by
 intro x hx
 unfold zbt at hx
 split at hx
 ·simp at hx
 ·split at hx
  ·exact Nat.lt_of_lt_of_le (zjC x hx) (Nat.pow_le_pow_right (by omega) hW)
  ·simp at hx
theorem zkI {l:List UInt8} {M W:Nat}:(zbt l M W).1.length≤M:=by
 unfold zbt
 split
 ·simp
 ·split
  ·rw [zbF];exact Nat.le_refl _
  ·simp
theorem zba {l:List UInt8} {M W:Int}:(∀ x∈(zg l M W).1,x < 2 ^ 64)∧(zg l M W).1.length≤4096:=by
 unfold zg
 split
 ·exact ⟨zo2 (by omega),Nat.le_trans zkI (by omega)⟩
 ·simp
theorem zo3 (l:List UInt8) (v:Value) (s:Bool) (w:World) (hv:IsB l v w) (hb:l.length≤1000000) :
  Calls Tryz.prog 81 #[v,.bool s] w (RetIO w (zbh l s)):=by
 have HLK:=Lib.hid (zf4 l v w hv hb)
 obtain ⟨A,c,rfl,_⟩:=hv
 have hbd:=zcS l
 obtain ⟨K,C,M,r,x,hd⟩:∃ K C M r x,zp l=(K,C,M,r,x):=⟨_,_,_,_,_,rfl⟩
 rw [hd] at HLK hbd
 dsimp only at hbd
 obtain ⟨hK0,hK1,hC0,hC1,hM0,hM1,hr⟩:=hbd
 by_cases hx:x=0
 ·subst hx
  by_cases hK:K=1
  ·subst hK
   have HD:=Lib.hid hd
   obtain ⟨us,q,y,hu⟩:∃ us q y,zg r M (wof C)=(us,q,y):=⟨_,_,_,rfl⟩
   have hlt:=(zba (l:=r) (M:=M) (W:=wof C)).1
   have hmany:=(zba (l:=r) (M:=M) (W:=wof C)).2
   rw [hu] at hlt hmany
   dsimp only at hlt hmany
   have HU:=Lib.hid hu
   have HLT:=Lib.hid hlt
   have HOF:=Lib.hid (fun X=>zhh C X (by omega) (by omega))
   obtain ⟨W,hW⟩:∃ W,W=wof C:=⟨_,rfl⟩
   rw [←hW] at HOF HU
   have HUN:=Lib.hid (fun (u:Value) (X:World) (h:IsB r u X)=>zdV M W h (by omega))
   rw [HU.out] at HUN
   have HWW:=Lib.hid hW
   clear hd hu hlt hW
   by_cases hy:y=0
   ·subst hy
    have HMD:=Lib.hid (fun (u:Value) (X:World) (h:IsV uv us u X)=>zo0 us u s X h HLT.out (by omega))
    cases hm:zeW us s with
    | none =>
     have hpe:zcs us s=([],2):=by unfold zcs;rw [hm]
     rw [hpe] at HMD
     have hE:=Lib.hid (ziO (s:=s) HD.out (by rw [←HWW.out];exact HU.out) hm)
     clear hm hpe
     go_enter Tryz.func81,Tryz.ntmps81
     go_wp2_with fail
     refine HLK.out.mono ?_
     rintro e w1 ⟨rv,rfl,hrv,hb1⟩
     have HB1:=Lib.hid hb1
     have HRV:=Lib.hid hrv
     clear hb1 hrv
     go_wp2_with fail
     refine (HOF.out _).mono ?_
     rintro e w' ⟨rfl,rfl⟩
     go_wp2_with fail
     refine (HUN.out _ _ HRV.out).mono ?_
     rintro e w2 ⟨u2,q2,rfl,hu2,hq2,hb2⟩
     have HB2:=Lib.hid (za HB1.out hb2)
     have HI:=Lib.hid (zbk (f:=uv) hu2)
     have HQ:=Lib.hid (OwnB.base HB1.out.size hq2)
     clear hb2 hu2 hq2
     go_wp2_with fail
     refine (HMD.out _ _ HI.out).mono ?_
     rintro e w3 ⟨m,rfl,hm3,hb3⟩
     obtain ⟨A3,c3,rfl,_⟩:=hm3
     go_wp2
     go_ret3
     rw [hE.out]
     exact RetIO.nil _ (za HB2.out hb3)
    | some m =>
     have hpe:zcs us s=(m,0):=by unfold zcs;rw [hm]
     rw [hpe] at HMD
     have hE:=Lib.hid (zen (s:=s) HD.out (by rw [←HWW.out];exact HU.out) hm)
     clear hm hpe
     go_enter Tryz.func81,Tryz.ntmps81
     go_wp2_with fail
     refine HLK.out.mono ?_
     rintro e w1 ⟨rv,rfl,hrv,hb1⟩
     have HB1:=Lib.hid hb1
     have HRV:=Lib.hid hrv
     clear hb1 hrv
     go_wp2_with fail
     refine (HOF.out _).mono ?_
     rintro e w' ⟨rfl,rfl⟩
     go_wp2_with fail
     refine (HUN.out _ _ HRV.out).mono ?_
     rintro e w2 ⟨u2,q2,rfl,hu2,hq2,hb2⟩
     have HB2:=Lib.hid (za HB1.out hb2)
     have HI:=Lib.hid (zbk (f:=uv) hu2)
     have HQ:=Lib.hid (OwnB.base HB1.out.size hq2)
     clear hb2 hu2 hq2
     go_wp2_with fail
     refine (HMD.out _ _ HI.out).mono ?_
     rintro e w3 ⟨m3,rfl,hm3,hb3⟩
     have HQ3:=Lib.hid (HQ.out.below hb3)
     have HM3:=Lib.hid hm3
     have HB3:=Lib.hid (za HB2.out hb3)
     clear hm3 hb3
     go_wp2
     go_ret3
     rw [hE.out]
     exact ⟨_,_,rfl,HM3.out,HQ3.out,HB3.out⟩
   ·have hE:=Lib.hid (ziN (s:=s) HD.out (by rw [←HWW.out];exact HU.out) hy)
    have d2:(y != 0)=true:=by simpa using hy
    go_enter Tryz.func81,Tryz.ntmps81
    go_wp2_with fail
    refine HLK.out.mono ?_
    rintro e w1 ⟨rv,rfl,hrv,hb1⟩
    have HB1:=Lib.hid hb1
    have HRV:=Lib.hid hrv
    clear hb1 hrv
    go_wp2_with fail
    refine (HOF.out _).mono ?_
    rintro e w' ⟨rfl,rfl⟩
    go_wp2_with fail
    refine (HUN.out _ _ HRV.out).mono ?_
    rintro e w2 ⟨u2,q2,rfl,hu2,hq2,hb2⟩
    have HB2:=Lib.hid (za HB1.out hb2)
    have HI:=Lib.hid (zbk (f:=uv) hu2)
    have HQ:=Lib.hid (OwnB.base HB1.out.size hq2)
    clear hb2 hu2 hq2
    go_wp2
    go_ret3
    rw [hE.out]
    exact RetIO.nil _ HB2.out
  ·have hE:=Lib.hid (zfv (l:=l) (s:=s) (.inr (by rw [hd];exact hK)))
   have d1:(K != 1)=true:=by simpa using hK
   clear hd
   go_enter Tryz.func81,Tryz.ntmps81
   go_wp2_with fail
   refine HLK.out.mono ?_
   rintro e w1 ⟨rv,rfl,hrv,hb1⟩
   go_wp2
   go_ret3
   rw [hE.out]
   exact RetIO.nil _ hb1
 ·have hE:=Lib.hid (zfv (l:=l) (s:=s) (.inl (by rw [hd];exact hx)))
  have d1:(x != 0)=true:=by simpa using hx
  clear hd
  go_enter Tryz.func81,Tryz.ntmps81
  go_wp2_with fail
  refine HLK.out.mono ?_
  rintro e w1 ⟨rv,rfl,hrv,hb1⟩
  go_wp2
  go_ret3
  rw [hE.out]
  exact RetIO.nil _ hb1
end Go.Proofs.YtlibofmpnlfelaaGreatDoor
namespace Go.Proofs.YtlibofmpnlfelaaGreatDoor
open Go.RowKit Go.ChangeShapes Go.WideShapes Go.ChangeAt
theorem gTab:Tryz.prog.globalNamed "pilaster/widths.table" = some 2:=by kernel_rfl
theorem tTab:(Tryz.prog.globals[2]?).map (·.type)=some 184:=by kernel_rfl
theorem ztr (os:Os) (args:Array Value):laidMetH Tryz.prog [("pilaster/widths.table",Rows.laid_pilaster_widths_table)] ((World.doorLaid Tryz.prog 400 os).forCall (fun _ _=>0) ⟨#[],args,[]⟩).memory:=
 laidMetH_of_parts3 (fuel:=8) (laidMet_of_run' 8 (by kernel_rfl) (by kernel_rfl)) (by kernel_rfl) (by kernel_rfl)
theorem zvz {W:World} (h:laidMetH Tryz.prog [("pilaster/widths.table",Rows.laid_pilaster_widths_table)] W):WTab W:=by
 rw [MakeChecks.laidMetH_plain _ _ _ (by kernel_rfl)] at h
 exact zmf (zs:=wtab) gTab tTab Tryz.underlying184 Tryz.underlying3 (by kernel_rfl) (by kernel_rfl) (by omega) h
end Go.Proofs.YtlibofmpnlfelaaGreatDoor
namespace Go.Proofs.YtlibofmpnlfelaaGreatDoor
theorem zts (n:Int) (w:Nat) (hw:w≤62):bits .and .i64 n (((2 ^ w - 1:Nat):Nat):Int)=n % ((2 ^ w:Nat):Int):=by
 have hW:2 ^ w≤2 ^ 62:=Nat.pow_le_pow_right (by omega) hw
 have hp:0 < 2 ^ w:=Nat.two_pow_pos w
 have h31:(BitVec.ofInt 64 ((2 ^ w - 1:Nat):Int)).toNat=2 ^ w - 1:=by
  rw [BitVec.ofInt_natCast,BitVec.toNat_ofNat]
  exact Nat.mod_eq_of_lt (by omega)
 have key:(BitVec.ofInt 64 n &&& BitVec.ofInt 64 ((2 ^ w - 1:Nat):Int)).toNat=(n % ((2 ^ 64:Nat):Int)).toNat % 2 ^ w:=by
  rw [BitVec.toNat_and,BitVec.toNat_ofInt,h31,Nat.and_two_pow_sub_one_eq_mod]
 have hdvd:((2 ^ w:Nat):Int) ∣ ((2 ^ 64:Nat):Int):=Int.natCast_dvd_natCast.2 (Nat.pow_dvd_pow 2 (by omega))
 have e1:(((n % ((2 ^ 64:Nat):Int)).toNat % 2 ^ w:Nat):Int)=n % ((2 ^ w:Nat):Int):=by
  rw [Int.natCast_emod,Int.toNat_of_nonneg (Int.emod_nonneg _ (by decide)),Int.emod_emod_of_dvd _ hdvd]
 show IntKind.i64.wrap ((BitVec.ofInt 64 n &&& BitVec.ofInt 64 ((2 ^ w - 1:Nat):Int)).toNat:Nat)=_
 rw [key,e1,IntKind.wrap_i64]
 have h1:=Int.emod_nonneg n (show ((2 ^ w:Nat):Int)≠0 by omega)
 have h2:=Int.emod_lt_of_pos n (show (0:Int) < ((2 ^ w:Nat):Int) by omega)
 omega
end Go.Proofs.YtlibofmpnlfelaaGreatDoor
namespace Go.Proofs.YtlibofmpnlfelaaGreatDoor
open Go.RowKit
def Fact.vals {α:Type} (f:α→Value) (l:List α):Fact:=⟨IsV f l,fun _ _ _ h hb=>h.below hb⟩
section
variable {P:Program} {o:Oper} {ρ:Operand→Value} {w:World} {R:Value→World→Prop}
theorem ze8 {t t':TypeId} {x y:Operand} {a r:Int} {k:Nat} (ho:o.op=.binOp .shl t x y t') (hx:ρ x=.int .u64 a) (hy:ρ y=.int .i64 (k:Int)) (hk:k≤64) (h:IntKind.u64.wrap (a*2 ^ k)=r) (hR:R (.int .u64 r) w):zX P o ρ w R:=by
 refine zo (v:=.int .u64 r) (w':=w) ?_ hR
 simp [execOp,ho,hx,hy,go_sem,h]
theorem zmE {t t':TypeId} {x y:Operand} {a b r:Int} (ho:o.op=.binOp .and t x y t') (hx:ρ x=.int .u64 a) (hy:ρ y=.int .u64 b) (h:bits .and .u64 a b=r) (hR:R (.int .u64 r) w):zX P o ρ w R:=by
 refine zo (v:=.int .u64 r) (w':=w) ?_ hR
 simp [execOp,ho,hx,hy,go_sem,h]
theorem zcw {s d:TypeId} {k k':IntKind} {x:Operand} {n r:Int} (ho:o.op=.convert s d x) (hx:ρ x=.int k n) (hs:(P.underlying s).isSome=true) (hd:P.underlying d=some (.int k')) (h:k'.wrap n=r) (hR:R (.int k' r) w):zX P o ρ w R:=by
 refine zS ho hx (v:=.int k' r) (w':=w) ?_ hR
 obtain ⟨e,he⟩:=Option.isSome_iff_exists.mp hs
 simp [convert,run_underlying he,run_underlying hd,Conv.intToInt,h]
end
theorem zhy {P:Program} {o:Oper} {ρ:Operand→Value} {w:World} {R:Value→World→Prop} {t t':TypeId} {x y:Operand} {a b r:Int} (ho:o.op=.binOp .xor t x y t') (hx:ρ x=.int .u64 a) (hy:ρ y=.int .u64 b) (h:bits .xor .u64 a b=r) (hR:R (.int .u64 r) w):zX P o ρ w R:=by
 refine zo (v:=.int .u64 r) (w':=w) ?_ hR
 simp [execOp,ho,hx,hy,go_sem,h]
theorem zfw {P:Program} {w:World} {ops:Array Oper} {rest:List Oper} {o:Oper} {a:Act} {Q:Exit→Act→World→Prop} (hgd:o.guard=none) (t:TypeId) (x y z:Operand) (ho:o.op=.slice t x (some y) (some z) none)
  (v:Value) (hrun:(Instr.sliceAt t (a.eval x) (some (a.eval y)) (some (a.eval z)) none).run P w=.ok v w) (h:wpList P ops Q rest (a.put o.dst v) w):wpList P ops Q (o::rest) a w:=by
 refine wpList_plain hgd fun K hK=>?_
 unfold Oper.wp execOp
 simp only [ho,Option.map_some,Option.map_none,hrun,Sem.run_bind,Sem.run_pure,Result.andThen_ok]
 exact hK _ _ h
theorem zbb {P:Program} {w:World} {ops:Array Oper} {rest:List Oper} {o:Oper} {a:Act} {Q:Exit→Act→World→Prop} (hgd:o.guard=none) (t:TypeId) (x y:Operand) (ho:o.op=.slice t x (some y) none none)
  (v:Value) (hrun:(Instr.sliceAt t (a.eval x) (some (a.eval y)) none none).run P w=.ok v w) (h:wpList P ops Q rest (a.put o.dst v) w):wpList P ops Q (o::rest) a w:=by
 refine wpList_plain hgd fun K hK=>?_
 unfold Oper.wp execOp
 simp only [ho,Option.map_some,Option.map_none,hrun,Sem.run_bind,Sem.run_pure,Result.andThen_ok]
 exact hK _ _ h
theorem zi {P:Program} {o:Oper} {ρ:Operand→Value} {w:World} {R:Value→World→Prop} {x:Operand} {i:Nat} {vs:Array Value} {v:Value} (ho:o.op=.extract x i) (hx:ρ x=.tuple vs) (hv:vs[i]? = some v) (hR:R v w):zX P o ρ w R:=by
 refine zo (v:=v) (w':=w) ?_ hR
 simp [execOp,ho,hx,hv,go_sem]
theorem zo4 (a b:Nat) (ha:a < 2 ^ 63) (hb:b < 2 ^ 63):bits .or .i64 (a:Int) (b:Int)=((a ||| b:Nat):Int):=by
 have h:=Nat.or_lt_two_pow ha hb
 show IntKind.i64.wrap ((BitVec.ofInt 64 (a:Int) ||| BitVec.ofInt 64 (b:Int)).toNat:Int)=_
 rw [BitVec.toNat_or,BitVec.ofInt_natCast,BitVec.ofInt_natCast,BitVec.toNat_ofNat,BitVec.toNat_ofNat,Nat.mod_eq_of_lt (by omega),Nat.mod_eq_of_lt (by omega),IntKind.wrap_i64]
 omega
theorem zkJ (n Y P:Nat) (h0:Y % 2 ^ n=0) (h1:P < 2 ^ n) (h2:Y+P < 2 ^ 63):bits .or .i64 (Y:Int) (P:Int)=((Y+P:Nat):Int):=by
 rw [zo4 _ _ (by omega) (by omega),nat_join n Y P h0 h1]
theorem ziP (n:Int) (w:World) (h0:1≤n) (h1:n≤512):Calls Tryz.prog 135 #[.int .i64 n] w fun e w'=>e=.returned (.bool true)∧w=w':=by
 go_enter Tryz.func135,Tryz.ntmps135
 go_wp2
 go_ret
 exact ⟨rfl,rfl⟩
theorem zkK (n:Int) (w:World) (h:n < 1∨512 < n):Calls Tryz.prog 135 #[.int .i64 n] w fun e w'=>e=.returned (.bool false)∧w=w':=by
 rcases h with h | h
 ·have h2:decide (1≤n)=false:=by simp;omega
  go_enter Tryz.func135,Tryz.ntmps135
  go_wp2
  go_ret
  exact ⟨rfl,rfl⟩
 ·have h2:decide (n≤512)=false:=by simp;omega
  have h3:decide (1≤n)=true:=by simp;omega
  go_enter Tryz.func135,Tryz.ntmps135
  go_wp2
  go_ret
  exact ⟨rfl,rfl⟩
theorem zuP:∀ c:Fin 32,0 < wof (c.val:Int):=by decide +kernel
theorem ztt {c:Int}:wof c=0↔¬(0≤c∧c≤31):=by
 constructor
 ·rintro h ⟨h0,h1⟩
  obtain ⟨k,rfl⟩:=Int.eq_ofNat_of_zero_le h0
  have h2:=zuP ⟨k,by omega⟩
  dsimp only at h2
  rw [h] at h2
  exact absurd h2 (by decide)
 ·intro h
  exact zhe (by omega)
theorem zhz (k c m:Int) (w:World) (ht:WTab w) (hk:inInt k) (hc:inInt c) (hm:inInt m):Calls Tryz.prog 140 #[.int .i64 k,.int .i64 c,.int .i64 m] w (RetH w (zoY k c m)):=by
 have HOF:=Lib.hid (ziy c w ht hc.1 hc.2)
 by_cases h0:k < 0
 ·have d0:decide (k < 0)=true:=decide_eq_true h0
  have hE:=Lib.hid (zgR (k:=k) (c:=c) (m:=m) (by omega))
  clear ht
  go_enter Tryz.func140,Tryz.ntmps140
  go_wp2
  go_ret
  rw [hE.out]
  exact ⟨_,rfl,World.ownsRow_nil _ _ _ _,Below.refl _ _⟩
 ·have d0:decide (k < 0)=false:=decide_eq_false h0
  by_cases h1:4≤k
  ·have d1:decide (4≤k)=true:=decide_eq_true h1
   have hE:=Lib.hid (zgR (k:=k) (c:=c) (m:=m) (by omega))
   clear ht
   go_enter Tryz.func140,Tryz.ntmps140
   go_wp2
   go_ret
   rw [hE.out]
   exact ⟨_,rfl,World.ownsRow_nil _ _ _ _,Below.refl _ _⟩
  ·have d1:decide (4≤k)=false:=decide_eq_false h1
   obtain ⟨W,hW⟩:∃ W,W=wof c:=⟨_,rfl⟩
   have hz:W=0↔¬(0≤c∧c≤31):=by rw [hW];exact ztt
   rw [←hW] at HOF
   clear hW ht
   by_cases h2:W=0
   ·have hE:=Lib.hid (zgR (k:=k) (c:=c) (m:=m) (fun h=>(hz.1 h2) ⟨h.2.2.1,h.2.2.2.1⟩))
    have d2:(W == 0)=true:=by simpa using h2
    clear h2 hz
    go_enter Tryz.func140,Tryz.ntmps140
    go_wp2_with (go_at_call 144;refine HOF.out.mono ?_;rintro e w' ⟨rfl,rfl⟩)
    go_ret
    rw [hE.out]
    exact ⟨_,rfl,World.ownsRow_nil _ _ _ _,Below.refl _ _⟩
   ·have d2:(W == 0)=false:=by simpa using h2
    have hc2:0≤c∧c≤31:=Classical.not_not.1 (fun h=>h2 (hz.2 h))
    clear h2 hz
    by_cases h3:m < 1∨512 < m
    ·have hE:=Lib.hid (zgR (k:=k) (c:=c) (m:=m) (by omega))
     have HC:=Lib.hid (zkK m w h3)
     clear h3
     go_enter Tryz.func140,Tryz.ntmps140
     go_wp2_with (first | (go_at_call 144;refine HOF.out.mono ?_;rintro e w' ⟨rfl,rfl⟩) | (go_at_call 135;refine HC.out.mono ?_;rintro e w' ⟨rfl,rfl⟩))
     go_ret
     rw [hE.out]
     exact ⟨_,rfl,World.ownsRow_nil _ _ _ _,Below.refl _ _⟩
    ·have HC:=Lib.hid (ziP m w (by omega) (by omega))
     obtain ⟨K,rfl⟩:=Int.eq_ofNat_of_zero_le (show 0≤k by omega)
     obtain ⟨C,rfl⟩:=Int.eq_ofNat_of_zero_le (show 0≤c by omega)
     obtain ⟨M,rfl⟩:=Int.eq_ofNat_of_zero_le (show 0≤m by omega)
     have hK:K≤3:=by omega
     have hC:C≤31:=by omega
     have hM1:1≤M:=by omega
     have hM:M≤512:=by omega
     obtain ⟨P,hP⟩:∃ P,M=P+1:=⟨M - 1,by omega⟩
     have hE:=Lib.hid (zfu hK hC hM1 hM)
     obtain ⟨a1,ha1⟩:∃ a,a=16384*K:=⟨_,rfl⟩
     obtain ⟨a2,ha2⟩:∃ a,a=512*C:=⟨_,rfl⟩
     obtain ⟨Y,hY⟩:∃ Y,Y=a1+a2:=⟨_,rfl⟩
     obtain ⟨X,hX⟩:∃ X,X=Y+P:=⟨_,rfl⟩
     obtain ⟨H,hH⟩:∃ H,H=X / 256:=⟨_,rfl⟩
     obtain ⟨Z,hZ⟩:∃ Z,Z=X % 256:=⟨_,rfl⟩
     have s1:IntKind.i64.wrap ((K:Int)*2 ^ 14)=(a1:Int):=by rw [IntKind.wrap_i64];omega
     have s1':(K:Int)*16384=(a1:Int):=by omega
     have s2:IntKind.i64.wrap ((C:Int)*2 ^ 9)=(a2:Int):=by rw [IntKind.wrap_i64];omega
     have s2':(C:Int)*512=(a2:Int):=by omega
     have o1:bits .or .i64 (a1:Int) (a2:Int)=(Y:Int):=by rw [hY];exact zkJ 14 a1 a2 (by omega) (by omega) (by omega)
     have o2:bits .or .i64 (Y:Int) (P:Int)=(X:Int):=by rw [hX];exact zkJ 9 Y P (by omega) (by omega) (by omega)
     have hp:((P+1:Nat):Int) - 1=(P:Int):=by omega
     have q1:(X:Int) / 2 ^ 8=(H:Int):=by omega
     have q1':(X:Int) / 256=(H:Int):=by omega
     have w1:IntKind.u8.wrap (H:Int)=(H:Int):=by rw [IntKind.wrap_u8];omega
     have w2:IntKind.u8.wrap (X:Int)=(Z:Int):=by rw [IntKind.wrap_u8];omega
     have HT:=Lib.hid (zo1 (k:=K) (c:=C) (m:=M) (X:=X) (h:=H) (y:=Z) (by omega) hH hZ (by omega))
     subst hP
     have hown:=zuO w 5 [.int .u8 (H:Int),.int .u8 (Z:Int)] 2 rfl (by omega)
     rw [←HT.out] at hown
     have HOWN:=Lib.hid hown
     clear hown ha1 ha2 hY hX hH hZ hc2
     go_enter Tryz.func140,Tryz.ntmps140
     go_wp2_with (first | (go_at_call 144;refine HOF.out.mono ?_;rintro e w' ⟨rfl,rfl⟩) | (go_at_call 135;refine HC.out.mono ?_;rintro e w' ⟨rfl,rfl⟩))
     go_ret
     rw [hE.out]
     refine ⟨_,rfl,?_,(Below.refl _ _).alloc (Nat.le_refl _) _⟩
     have h:=HOWN.out
     rw [HT.out] at h
     rw [zV,HT.out]
     exact h
def RetS (w:World) (l:List UInt8) (e:Ending) (w':World):Prop:=∃ v,e=.returned v∧IsB l v w'∧Below w.heap.size w w'
theorem zkL (k c m:Int) (w:World) (ht:WTab w) (hk:inInt k) (hc:inInt c) (hm:inInt m):Calls Tryz.prog 140 #[.int .i64 k,.int .i64 c,.int .i64 m] w (RetS w (zoY k c m)):=
 (zhz k c m w ht hk hc hm).mono fun _ _ ⟨v,h1,h2,h3⟩=>⟨v,h1,zbw h2,h3⟩
theorem zn3 (A:Option Addr) (n c:Nat) (w:World) (h:n < 2):Calls Tryz.prog 142 #[.slice A n c] w fun e w'=>e=.returned (.tuple #[.int .i64 0,.int .i64 0,.int .i64 0,.bool false])∧Below w.heap.size w w':=by
 have d1:decide ((n:Int) < 2)=true:=decide_eq_true (by omega)
 go_enter Tryz.func142,Tryz.ntmps142
 go_wp2
 refine bodyPost_ret (zW rfl _ _ _) rfl ?_
 exact ⟨rfl,Below.refl _ _⟩
theorem zkM (A:Option Addr) (n c K C M:Nat) (l:List UInt8) (w:World) (hl:Lies w A (l.map bv)) (hn:l.length=n) (h2:2≤n) (hb:n≤1000000)
  (hK:zp l=((K:Int),(C:Int),(M:Int),l.drop 2,0)):Calls Tryz.prog 142 #[.slice A n c] w fun e w'=>e=.returned (.tuple #[.int .i64 (K:Int),.int .i64 (C:Int),.int .i64 (M:Int),.bool true])∧Below w.heap.size w w':=by
 have d1:decide ((n:Int) < 2)=false:=decide_eq_false (by omega)
 have hl2:2≤l.length:=by omega
 obtain ⟨ad,rfl,_,hcell0⟩:=hl.cell (k:=0) (by rw [List.length_map];omega)
 obtain ⟨_,hAd,_,hcell1⟩:=hl.cell (k:=1) (by rw [List.length_map];omega)
 injection hAd with hAd
 subst hAd
 obtain ⟨x,hx⟩:∃ x:Nat,x=l[0].toNat:=⟨_,rfl⟩
 obtain ⟨y,hy⟩:∃ y:Nat,y=l[1].toNat:=⟨_,rfl⟩
 have hx8:x < 256:=by rw [hx];exact UInt8.toNat_lt _
 have hy8:y < 256:=by rw [hy];exact UInt8.toNat_lt _
 have hc0:w.cell? ad=some (.int .u8 (x:Int)):=by
  have e:ad.add 0=ad:=by simp [Addr.add]
  rw [e] at hcell0
  rw [hcell0,List.getElem_map,hx];rfl
 have hc1:w.cell? ⟨ad.block,ad.off+1,none⟩=some (.int .u8 (y:Int)):=by
  have e:ad.add 1=⟨ad.block,ad.off+1,none⟩:=by simp [Addr.add]
  rw [e] at hcell1
  rw [hcell1,List.getElem_map,hy];rfl
 obtain ⟨X,hX⟩:∃ X,X=256*x+y:=⟨_,rfl⟩
 rw [zeH hl2 (show X=256*l[0].toNat+l[1].toNat by rw [hX,hx,hy])] at hK
 injection hK with hK1 hK
 injection hK with hK2 hK
 injection hK with hK3 _
 have k1:X / 16384=K:=by omega
 have k2:X / 512 % 32=C:=by omega
 have k3:X % 512+1=M:=by omega
 obtain ⟨Y,hY⟩:∃ Y,Y=256*x:=⟨_,rfl⟩
 obtain ⟨Q,hQ⟩:∃ Q,Q=X / 512:=⟨_,rfl⟩
 obtain ⟨P,hP⟩:∃ P,P=X % 512:=⟨_,rfl⟩
 have v1:IntKind.i64.wrap (x:Int)=(x:Int):=by rw [IntKind.wrap_i64];omega
 have v2:IntKind.i64.wrap (y:Int)=(y:Int):=by rw [IntKind.wrap_i64];omega
 have s1:IntKind.i64.wrap ((x:Int)*2 ^ 8)=(Y:Int):=by rw [IntKind.wrap_i64];omega
 have s1':(x:Int)*256=(Y:Int):=by omega
 have o1:bits .or .i64 (Y:Int) (y:Int)=(X:Int):=by rw [hX,←hY];exact zkJ 8 Y y (by omega) (by omega) (by omega)
 have q1:(X:Int) / 2 ^ 14=(K:Int):=by omega
 have q1':(X:Int) / 16384=(K:Int):=by omega
 have q2:(X:Int) / 2 ^ 9=(Q:Int):=by omega
 have q2':(X:Int) / 512=(Q:Int):=by omega
 have a1:bits .and .i64 (Q:Int) 31=(C:Int):=by rw [zju];omega
 have a2:bits .and .i64 (X:Int) 511=(P:Int):=by
  have h:=zts (X:Int) 9 (by omega)
  rw [show ((2 ^ 9 - 1:Nat):Int)=511 from rfl,show ((2 ^ 9:Nat):Int)=512 from rfl] at h
  rw [h];omega
 have p1:(P:Int)+1=(M:Int):=by omega
 have hn0:(0:Int) < (n:Int):=by omega
 have hn1:(1:Int) < (n:Int):=by omega
 have hM:M≤512:=by omega
 clear hX hx hy hY hQ hP k1 k2 k3 hK1 hK2 hK3 hl hn hl2 hcell0 hcell1
 go_enter Tryz.func142,Tryz.ntmps142
 go_wp2
 go_quiet (fail)
 go_wp2
 refine bodyPost_ret (zW rfl _ _ _) rfl ?_
 exact ⟨rfl,below_drewN (Below.refl _ _) nq⟩
theorem zgS (l:List UInt8):(l.length < 2∧zp l=(0,0,0,[],2))∨(2≤l.length∧∃ K C M:Nat,K≤3∧C≤31∧1≤M∧M≤512∧zp l=((K:Int),(C:Int),(M:Int),l.drop 2,0)):=by
 by_cases h:l.length < 2
 ·exact .inl ⟨h,ze7 h⟩
 ·have h2:2≤l.length:=by omega
  have hx:l[0].toNat < 256:=UInt8.toNat_lt _
  have hy:l[1].toNat < 256:=UInt8.toNat_lt _
  exact .inr ⟨h2,_,_,_,by omega,by omega,by omega,by omega,zeH h2 rfl⟩
theorem zhA (l:List UInt8) (v:Value) (w:World) (hv:IsB l v w) (hb:l.length≤1000000):Calls Tryz.prog 153 #[v] w (RetK w (zp l)):=by
 obtain ⟨A,c,rfl,hA,hnc,hcm,hl⟩:=hv
 obtain ⟨n,hn⟩:∃ n,n=l.length:=⟨_,rfl⟩
 rw [←hn] at hA hnc hb ⊢
 have hci:(c:Int)≤9223372036854775807:=by unfold maxLen at hcm;omega
 rcases zgS l with ⟨h2,hd⟩ | ⟨h2,K,C,M,hK,hC,hM1,hM,hd⟩
 ·have HR:=Lib.hid (zn3 A n c w (by omega))
  have hE:=Lib.hid hd
  clear hd hl hn hA
  go_enter Tryz.func153,Tryz.ntmps153
  go_wp2_with fail
  refine HR.out.mono ?_
  rintro e w1 ⟨rfl,hb1⟩
  go_wp2
  refine bodyPost_ret (zdf rfl _ _ _) rfl ?_
  rw [hE.out]
  exact ⟨_,rfl,zcu _,hb1⟩
 ·rw [←hn] at h2
  have HR:=Lib.hid (zkM A n c K C M l w hl hn.symm h2 hb hd)
  have hE:=Lib.hid hd
  obtain ⟨N,hN⟩:∃ N,N=n - 2:=⟨_,rfl⟩
  have HF:=Lib.hid fun (W:World) (h:Below w.heap.size w W)=>zbm (P:=Tryz.prog) elemB (k:=2) (by omega) hnc hcm hn.symm (hl.below h) hA
  rw [show ((2:Nat):Int)=2 from rfl] at HF
  have HPM:=Lib.hid (show ((l.drop 2).map bv).length=N by rw [List.length_map,List.length_drop];omega)
  have HL:=Lib.hid (show (l.drop 2).length=N by rw [List.length_drop];omega)
  have hN6:N≤1000000:=by omega
  clear hd hl hn hA hN
  go_enter Tryz.func153,Tryz.ntmps153
  go_wp2_with fail
  refine HR.out.mono ?_
  rintro e w1 ⟨rfl,hb1⟩
  obtain ⟨v3,hv3,A3,c3,e3,hA3,_,_,hl3⟩:=HF.out w1 hb1
  rw [HL.out] at e3 hA3
  subst e3
  have HB1:=Lib.hid hb1
  clear hb1
  go_wp2_with (first | (refine zbb rfl _ _ _ rfl _ (hv3 _) ?_) | (at_builtin;refine zk elemB rfl _ _ rfl w1.heap.size _ _ _ _ _ _ ((l.drop 2).map bv) w1 rfl rfl hA3 HPM.out hl3 (zbv _) (World.ownsRow_nil _ _ _ _) (Below.refl _ _) (Nat.le_refl _) (by omega) (by omega) ?_))
  intro v5 w5 hown5 hb5 _ _
  rw [←List.map_drop] at hown5
  have HI5:=Lib.hid (show IsB (l.drop 2) v5 w5 from zbw hown5)
  have HB5:=Lib.hid (za HB1.out hb5)
  clear hown5 hb5
  go_wp2
  refine bodyPost_ret (zdf rfl _ _ _) rfl ?_
  rw [hE.out]
  exact ⟨_,rfl,HI5.out,HB5.out⟩
def zds {α β:Type} (f:α→Option β) (enc:β→Value) (z:Value) (t:TypeId) (l:List α) (w:World) (i:Value) (wr:World):Prop:=
 ∃ (k:Nat) (acc:List β),k≤l.length∧i=.int .i64 (k:Int)∧omap f (l.take k)=some acc∧Row wr w.heap.size t (acc.map enc ++ List.replicate (l.length - k) z)∧Below w.heap.size w wr
theorem zc1 {β:Type} {enc:β→Value} {z:Value} {acc:List β} {y:β} {n k:Nat} (hk:k < n) (ha:acc.length=k):(acc.map enc ++ List.replicate (n - k) z).set k (enc y)=(acc ++ [y]).map enc ++ List.replicate (n - (k+1)) z:=by
 have hl:(acc.map enc).length=k:=by rw [List.length_map,ha]
 rw [List.set_append_right _ _ (by omega),hl,Nat.sub_self,show n - k=n - (k+1)+1 by omega,List.replicate_succ,List.set_cons_zero,List.map_append,List.append_assoc]
 rfl
theorem zo5 (l:List Int) (v:Value) (s:Bool) (w:World) (hv:IsV iv l v w) (hl:∀ x∈l,inInt x) (hb:l.length≤1000000):Calls Tryz.prog 136 #[v,.bool s] w (RetV uv w (zdX l s)):=by
 obtain ⟨A,c,rfl,hA,hnc,hcm,hlw⟩:=hv
 obtain ⟨n,hn⟩:∃ n,n=l.length:=⟨_,rfl⟩
 rw [←hn] at hA hnc hb ⊢
 have HN:=Lib.hid hn
 have HL:=Lib.hid hlw
 have HI:=Lib.hid hl
 clear hn hlw hl hcm hA
 go_enter Tryz.func136,Tryz.ntmps136
 go_wp2_with (refine zn elemU rfl _ _ rfl _ _ _ _ n w w.heap.size rfl rfl rfl rfl (by omega) (by omega) (Below.refl _ _) (Nat.le_refl _) ?_)
 intro w1 hr1 hb1
 have hst:zds (zx · s) uv (uv 0) 119 l w (.int .i64 0) w1:=⟨0,[],by omega,rfl,rfl,by rw [Nat.sub_zero,←HN.out];simpa [iv,uv] using hr1,hb1⟩
 clear hr1 hb1
 go_wp2
 go_loopw [14] (zds (zx · s) uv (uv 0) 119 l w) (fun i _=>n - (intOf i).toNat)
 case atStart=>exact hst
 case round =>
  obtain ⟨k,acc,hk,rfl,hacc,hr,hbw⟩:=hrel
  have hz:=hbw.size
  have hal:acc.length=k:=by rw [zcb hacc,List.length_take];omega
  rw [←HN.out] at hr
  have HACC:=Lib.hid hacc
  have HAL:=Lib.hid hal
  have hk':k≤n:=by have:=HN.out;omega
  clear hst hacc hal
  by_cases hlt:k < n
  ·have hkl:k < l.length:=by have:=HN.out;omega
   have hlti:(k:Int) < (n:Int):=by omega
   obtain ⟨ad,rfl,_,hcell⟩:=(HL.out.below hbw).cell (k:=k) (by rw [List.length_map];exact hkl)
   obtain ⟨x,hx⟩:∃ x,x=l[k]:=⟨_,rfl⟩
   have hcx:wr.cell? (ad.add k)=some (.int .i64 (x)):=by rw [hcell,List.getElem_map,hx];rfl
   have hxb:inInt x:=by rw [hx];exact HI.out _ (List.getElem_mem hkl)
   have HX:=Lib.hid hx
   clear hx hcell
   have hfx:=hr.free k
   have hgr:=hr.lt
   have hcu:∃ u,wr.cell? ⟨w.heap.size,k,none⟩=some u:=by
    rw [hr.cell]
    exact ⟨_,List.getElem?_eq_getElem (by rw [List.length_append,List.length_map,List.length_replicate];have:=HAL.out;omega)⟩
   obtain ⟨u0,hcu⟩:=hcu
   cases he:zx x s with
   | none =>
    have hE:Hid (zdX l s=([],1)):=Lib.hid (by
     have h1:zy l s=none:=zb5 (x:=x) (by rw [HX.out];exact List.getElem_mem hkl) he
     unfold zdX;rw [h1])
    cases s with
    | true=>unfold zx at he;rw [if_pos rfl] at he;cases he
    | false =>
     have hx0:x < 0:=by
      unfold zx at he
      rw [if_neg (by simp)] at he
      by_cases h:0≤x
      ·rw [if_pos h] at he;cases he
      ·omega
     have d3:decide (x < 0)=true:=decide_eq_true hx0
     clear he
     go_wp2
     go_ret2
     rw [hE.out]
     exact RetV.nil _ hbw
   | some u =>
    have hnext:Hid (omap (zx · s) (l.take (k+1))=some (acc ++ [u])):=Lib.hid (zc0 hkl HACC.out (by rw [←HX.out];exact he))
    have hset:=hr.set_ k (uv u)
    rw [zc1 hlt HAL.out] at hset
    have HSET:=Lib.hid hset
    have HB3:=Lib.hid (hbw.setCell (p:=⟨w.heap.size,k,none⟩) (Nat.le_refl _) (uv u))
    clear hset hr hbw hz
    cases s with
    | true =>
     have hu:vzig x=(u:Int):=by
      unfold zx at he
      rw [if_pos rfl] at he
      injection he with he
      have:=zel hxb.1 hxb.2
      omega
     have HZ:=Lib.hid (zmu x wr hxb.1 hxb.2)
     rw [hu] at HZ
     clear he hu
     go_wp2_with (go_at_call 164;refine HZ.out.mono ?_;rintro e w' ⟨rfl,rfl⟩)
     go_roundw
     case rel=>exact ⟨k+1,_,by have:=HN.out;omega,by go_num,hnext.out,by rw [←HN.out];exact HSET.out,HB3.out⟩
     case measure=>simp [intOf];omega
    | false =>
     have hx0:0≤x∧x=(u:Int):=by
      unfold zx at he
      rw [if_neg (by simp)] at he
      by_cases h:0≤x
      ·rw [if_pos h] at he;injection he with he;omega
      ·rw [if_neg h] at he;cases he
     obtain ⟨h0,hxu⟩:=hx0
     have hxu63:x≤9223372036854775807:=hxb.2
     have HX2:=HX.out
     subst hxu
     have d3:decide ((u:Int) < 0)=false:=decide_eq_false (by omega)
     have hw:IntKind.u64.wrap (u:Int)=(u:Int):=by rw [IntKind.wrap_u64];omega
     clear he HX2 hxb hxu63
     go_wp2
     go_roundw
     case rel=>exact ⟨k+1,_,by have:=HN.out;omega,by go_num,hnext.out,by rw [←HN.out];exact HSET.out,HB3.out⟩
     case measure=>simp [intOf];omega
  ·obtain rfl:k=n:=by omega
   have hlti:¬(k:Int) < (k:Int):=by omega
   have hE:Hid (zdX l s=(acc,0)):=Lib.hid (by
    have h1:=HACC.out
    rw [List.take_of_length_le (by have:=HN.out;omega)] at h1
    unfold zdX zy;rw [h1])
   rw [Nat.sub_self,List.replicate_zero,List.append_nil] at hr
   have HR:=Lib.hid (zbN hr HAL.out (by omega))
   go_wp2
   go_ret2
   rw [hE.out]
   exact ⟨_,rfl,HR.out,hbw⟩
theorem zq7 (l:List Nat) (v:Value) (s:Bool) (w:World) (hv:IsV uv l v w) (hl:∀ x∈l,x < 2 ^ 64) (hb:l.length≤1000000):Calls Tryz.prog 145 #[v,.bool s] w (RetV iv w (zcs l s)):=by
 obtain ⟨A,c,rfl,hA,hnc,hcm,hlw⟩:=hv
 obtain ⟨n,hn⟩:∃ n,n=l.length:=⟨_,rfl⟩
 rw [←hn] at hA hnc hb ⊢
 have HN:=Lib.hid hn
 have HL:=Lib.hid hlw
 have HI:=Lib.hid hl
 clear hn hlw hl hcm hA
 go_enter Tryz.func145,Tryz.ntmps145
 go_wp2_with (refine zn zck rfl _ _ rfl _ _ _ _ n w w.heap.size rfl rfl rfl rfl (by omega) (by omega) (Below.refl _ _) (Nat.le_refl _) ?_)
 intro w1 hr1 hb1
 have hst:zds (zbf · s) iv (iv 0) 3 l w (.int .i64 0) w1:=⟨0,[],by omega,rfl,rfl,by rw [Nat.sub_zero,←HN.out];simpa [iv,uv] using hr1,hb1⟩
 clear hr1 hb1
 go_wp2
 go_loopw [14] (zds (zbf · s) iv (iv 0) 3 l w) (fun i _=>n - (intOf i).toNat)
 case atStart=>exact hst
 case round =>
  obtain ⟨k,acc,hk,rfl,hacc,hr,hbw⟩:=hrel
  have hz:=hbw.size
  have hal:acc.length=k:=by rw [zcb hacc,List.length_take];omega
  rw [←HN.out] at hr
  have HACC:=Lib.hid hacc
  have HAL:=Lib.hid hal
  have hk':k≤n:=by have:=HN.out;omega
  clear hst hacc hal
  by_cases hlt:k < n
  ·have hkl:k < l.length:=by have:=HN.out;omega
   have hlti:(k:Int) < (n:Int):=by omega
   obtain ⟨ad,rfl,_,hcell⟩:=(HL.out.below hbw).cell (k:=k) (by rw [List.length_map];exact hkl)
   obtain ⟨x,hx⟩:∃ x,x=l[k]:=⟨_,rfl⟩
   have hcx:wr.cell? (ad.add k)=some (.int .u64 (x:Int)):=by rw [hcell,List.getElem_map,hx];rfl
   have hxb:x < 2 ^ 64:=by rw [hx];exact HI.out _ (List.getElem_mem hkl)
   have HX:=Lib.hid hx
   clear hx hcell
   have hfx:=hr.free k
   have hgr:=hr.lt
   have hcu:∃ u,wr.cell? ⟨w.heap.size,k,none⟩=some u:=by
    rw [hr.cell]
    exact ⟨_,List.getElem?_eq_getElem (by rw [List.length_append,List.length_map,List.length_replicate];have:=HAL.out;omega)⟩
   obtain ⟨u0,hcu⟩:=hcu
   cases he:zbf x s with
   | none =>
    have hE:Hid (zcs l s=([],2)):=Lib.hid (by
     have h1:zeW l s=none:=zb5 (x:=x) (by rw [HX.out];exact List.getElem_mem hkl) he
     unfold zcs;rw [h1])
    cases s with
    | true=>unfold zbf at he;rw [if_pos rfl] at he;cases he
    | false =>
     have hx0:9223372036854775808≤(x:Int):=by
      unfold zbf at he
      rw [if_neg (by simp)] at he
      by_cases h:x < 9223372036854775808
      ·rw [if_pos h] at he;cases he
      ·omega
     have d3:decide ((9223372036854775807:Int) < (x:Int))=true:=decide_eq_true (by omega)
     clear he hx0 hxb
     go_wp2
     go_ret2
     rw [hE.out]
     exact RetV.nil _ hbw
   | some u =>
    have hnext:Hid (omap (zbf · s) (l.take (k+1))=some (acc ++ [u])):=Lib.hid (zc0 hkl HACC.out (by rw [←HX.out];exact he))
    have hset:=hr.set_ k (iv u)
    rw [zc1 hlt HAL.out] at hset
    have HSET:=Lib.hid hset
    have HB3:=Lib.hid (hbw.setCell (p:=⟨w.heap.size,k,none⟩) (Nat.le_refl _) (iv u))
    clear hset hr hbw hz
    cases s with
    | true =>
     have hu:vzag (x:Int)=u:=by
      unfold zbf at he
      rw [if_pos rfl] at he
      injection he with he
     have HZ:=Lib.hid (zmv (x:Int) wr (by omega) (by omega))
     rw [hu] at HZ
     clear he hu hxb
     go_wp2_with (go_at_call 176;refine HZ.out.mono ?_;rintro e w' ⟨rfl,rfl⟩)
     go_roundw
     case rel=>exact ⟨k+1,_,by have:=HN.out;omega,by go_num,hnext.out,by rw [←HN.out];exact HSET.out,HB3.out⟩
     case measure=>simp [intOf];omega
    | false =>
     have hx0:(x:Int)≤9223372036854775807∧u=(x:Int):=by
      unfold zbf at he
      rw [if_neg (by simp)] at he
      by_cases h:x < 9223372036854775808
      ·rw [if_pos h] at he;injection he with he;omega
      ·rw [if_neg h] at he;cases he
     obtain ⟨h0,rfl⟩:=hx0
     have d3:decide ((9223372036854775807:Int) < (x:Int))=false:=decide_eq_false (by omega)
     have hw:IntKind.i64.wrap (x:Int)=(x:Int):=by rw [IntKind.wrap_i64];omega
     clear he hxb h0
     go_wp2
     go_roundw
     case rel=>exact ⟨k+1,_,by have:=HN.out;omega,by go_num,hnext.out,by rw [←HN.out];exact HSET.out,HB3.out⟩
     case measure=>simp [intOf];omega
  ·obtain rfl:k=n:=by omega
   have hlti:¬(k:Int) < (k:Int):=by omega
   have hE:Hid (zcs l s=(acc,0)):=Lib.hid (by
    have h1:=HACC.out
    rw [List.take_of_length_le (by have:=HN.out;omega)] at h1
    unfold zcs zeW;rw [h1])
   rw [Nat.sub_self,List.replicate_zero,List.append_nil] at hr
   have HR:=Lib.hid (zbN hr HAL.out (by omega))
   go_wp2
   go_ret2
   rw [hE.out]
   exact ⟨_,rfl,HR.out,hbw⟩
end Go.Proofs.YtlibofmpnlfelaaGreatDoor
