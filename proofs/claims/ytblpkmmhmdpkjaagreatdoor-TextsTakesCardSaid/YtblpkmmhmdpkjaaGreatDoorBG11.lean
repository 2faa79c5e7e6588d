import Derived.Test.YtblpkmmhmdpkjaaGreatDoorBG10
set_option maxHeartbeats 8000000
set_option maxRecDepth 100000
namespace Go.Proofs.YtblpkmmhmdpkjaaGreatDoor
open Go.RowKit
def ic (x:Int):List Value:=[iv x]
theorem zqd (x:Int):(ic x).length=1:=rfl
theorem zsh (x:Int):∀ u∈ic x,u.oneCell'=true:=by
 intro u hu
 unfold ic at hu
 simp at hu
 subst hu
 rfl
theorem zsW (l:List Int):∀ u∈l.flatMap ic,u.oneCell'=true:=by
 intro u hu
 obtain ⟨x,_,hx⟩:=List.mem_flatMap.1 hu
 exact zsh x u hx
theorem zkE (l:List Int):(l.flatMap ic).length=l.length*1:=zeo zqd l
theorem zsX (l:List Int):l.flatMap ic=l.map iv:=by
 induction l with
 | nil=>rfl
 | cons x l ih=>rw [List.flatMap_cons,ih];rfl
theorem Tryz.infoIW:(Tryz.prog.info? 3).map (fun i=>(i.zero,i.size,i.bytes))=some (some (iv 0),1,8):=by kernel_rfl
theorem elemIW:ElemW Tryz.prog 47 3 8 1 (iv 0):=by
 obtain ⟨i0,hi,hz0,hz1,hz2⟩:=info_parts Tryz.infoIW
 exact ⟨Tryz.underlying47,rfl,by omega,i0,hi,hz0,hz1,hz2⟩
def zco (k:Nat) (d:Int):List Value:=(List.replicate k d).flatMap ic
theorem zbO (k:Nat) (d:Int):(zco k d).length=k*1:=by unfold zco;rw [zkE,List.length_replicate]
theorem zkF (k j:Nat) (d:Int):zco (k+j) d=zco k d ++ zco j d:=by unfold zco;rw [←List.flatMap_append,List.replicate_append_replicate]
theorem zkG (k:Nat) (d:Int):∀ u∈zco k d,u.oneCell'=true:=zsW _
theorem zfN {k j:Nat} (d:Int) (h:j≤k) (r:List Value):(zco k d ++ r).take (j*1)=zco j d:=by
 obtain ⟨i,rfl⟩:∃ i,k=j+i:=⟨k - j,by omega⟩
 rw [zkF,List.append_assoc,List.take_append_of_le_length (by rw [zbO];exact Nat.le_refl _),List.take_of_length_le (by rw [zbO];exact Nat.le_refl _)]
theorem zf3 {k j i e:Nat} (d:Int) (r:List Value) (hk:k≤i) (_hj:j≤i) (he:i*1+e=k*1+j*1) :
  (zco i d ++ r).take (k*1) ++ zco j d ++ (zco i d ++ r).drop (k*1+(zco j d).length)=zco (k+j) d ++ r.drop e:=by
 rw [zfN d hk r,←zkF,zbO,List.drop_append,zbO,List.drop_of_length_le (by rw [zbO];omega),List.nil_append,show k*1+j*1 - i*1=e by omega]
theorem zis {w:World} {g:Nat} {t:TypeId} {cs:List Value} (h:Row w g t cs):∀ j v,cs[j]? = some v→w.cell? ((⟨g,0,none⟩:Addr).add j)=some v:=by
 intro j v hj
 have h1:=h.cell j
 rw [hj] at h1
 rw [←h1]
 congr 1
 unfold Addr.add
 split <;> simp_all
def zqe (d:Int) (g m:Nat) (w:World) (n:Value) (wr:World):Prop:=∃ (k:Nat) (rest:List Value),1≤k∧k≤m∧n=.int .i64 (k:Int)∧rest.length=(m - k)*1∧Row wr g 3 (zco k d ++ rest)∧Below w.heap.size w wr
theorem zlT {w:World} {g k m:Nat} (h:k < m):(Instr.sliceAt 47 (.slice (some ⟨g,0,none⟩) m m) (some (.int .i64 (k:Int))) none none).run Tryz.prog w=.ok (.slice (some ⟨g,k*1,none⟩) (m - k) (m - k)) w:=by
 have ht:=elemIW.under
 have he:Tryz.prog.elem 47=3:=by simp [Program.elem,ht]
 rw [run_sliceAt_slice w _ _ _ _ _ (by rw [he];exact ht),run_slice_l w _ _ m m (by rw [he];exact ht) .i64 (k:Int) (by omega) (by omega),he,elemIW.size_]
 have hne:¬m=k:=by omega
 simp [sliced,Addr.add,hne]
 intro h;omega
theorem zlU {w:World} {g k m:Nat} (h:k≤m):(Instr.sliceAt 47 (.slice (some ⟨g,0,none⟩) m m) none (some (.int .i64 (k:Int))) none).run Tryz.prog w=.ok (.slice (some ⟨g,0,none⟩) k m) w:=by
 have ht:=elemIW.under
 have he:Tryz.prog.elem 47=3:=by simp [Program.elem,ht]
 rw [run_sliceAt_slice w _ _ _ _ _ (by rw [he];exact ht),run_slice_h w _ _ m m (by rw [he];exact ht) .i64 (k:Int) (by omega) (by omega),he,elemIW.size_]
 simp [sliced,Addr.add]
theorem zlV (d:Int) (g1 c m:Nat) (w:World) (hr:Row w g1 3 (ic d)) (h1:1≤m) (hm:m≤1000) :
  Calls Tryz.prog 135 #[.slice (some ⟨g1,0,none⟩) 1 c,.int .i64 (m:Int)] w
   fun e w'=>∃ g,e=.returned (.slice (some ⟨g,0,none⟩) m m)∧w.heap.size≤g∧Row w' g 3 (zco m d)∧Below w.heap.size w w':=by
 have HM:=Lib.hid (Tryz.bits_Mul 1 m (by omega) (by omega) w)
 rw [Nat.one_mul,Nat.div_eq_of_lt (by omega),Nat.mod_eq_of_lt (by omega)] at HM
 have HR:=Lib.hid hr
 have hmi:IntKind.u64.wrap (m:Int)=(m:Int):=by rw [IntKind.wrap_u64];omega
 have hmj:IntKind.i64.wrap (m:Int)=(m:Int):=by rw [IntKind.wrap_i64];omega
 have hm1:1≤m:=h1
 have hc1:decide ((9223372036854775807:Int) < (m:Int))=false:=decide_eq_false (by omega)
 go_enter Tryz.func135,Tryz.ntmps135
 go_wp2_with (first | (go_at_call 170;refine HM.out.mono ?_;rintro e w' ⟨rfl,hw'⟩;rw [hw']) | (refine zd8 elemIW (ic 0) rfl rfl _ _ rfl _ _ _ _ m w w.heap.size rfl rfl rfl rfl (by omega) (by omega) (Below.refl _ _) (Nat.le_refl _) ?_))
 intro w2 hr2 hb2
 have HR2:=Lib.hid (HR.out.below hb2 HR.out.lt)
 have HNEW:=Lib.hid (show ((List.replicate m (ic 0)).flatten).take 0 ++ ic d ++ ((List.replicate m (ic 0)).flatten).drop (0+(ic d).length)=zco 1 d ++ ((List.replicate m (ic 0)).flatten).drop 1 by
  rw [List.take_zero,List.nil_append,Nat.zero_add,zqd];rfl)
 have hlen:((List.replicate m (ic 0)).flatten).length=m*1:=by rw [←zdd (f:=ic) m 0,zkE,List.length_replicate]
 have HLEN:=Lib.hid hlen
 clear hlen hr h1
 go_wp2_with (refine zfY elemIW rfl _ _ rfl w.heap.size 0 m m ⟨g1,0,none⟩ 1 c _ (ic d) _ HNEW.out 1 w.heap.size w rfl rfl hr2 (Nat.min_eq_left (by omega)) rfl (zis HR2.out) (zsh d) (by rw [HLEN.out,zqd];omega) hb2 (Nat.le_refl _) ?_)
 intro w3 hr3 hb3
 have HS:=Lib.hid (show zqe d w.heap.size m w (.int .i64 1) w3 from ⟨1,_,Nat.le_refl _,by omega,rfl,by simp only [List.length_tail,HLEN.out];omega,hr3,hb3⟩)
 clear hr2 hb2 hr3 hb3
 go_wp2
 go_loopw [8] (zqe d w.heap.size m w) (fun i _=>m - (intOf i).toNat)
 case atStart=>exact HS.out
 case round =>
  obtain ⟨k,rest,hk1,hkm,rfl,hrl,hrow,hbw⟩:=hrel
  have HRL:=Lib.hid hrl
  have HROW:=Lib.hid hrow
  have HB:=Lib.hid hbw
  clear hrl hrow hbw
  by_cases hlt:k < m
  ·have hlti:(k:Int) < (m:Int):=by omega
   obtain ⟨j,hj⟩:∃ j,j=min k (m - k):=⟨_,rfl⟩
   have hj1:1≤j:=by omega
   have hjk:j≤k:=by omega
   have hjm:k+j≤m:=by omega
   have HJ:=Lib.hid hj
   clear hj
   obtain ⟨cur,hcur⟩:∃ cur,cur=zco k d ++ rest:=⟨_,rfl⟩
   obtain ⟨new,hnew⟩:∃ new,new=zco (k+j) d ++ rest.drop (j*1):=⟨_,rfl⟩
   rw [←hcur] at HROW
   have HSC:=Lib.hid (show cur.take (k*1) ++ zco j d ++ cur.drop (k*1+(zco j d).length)=new by rw [hcur,hnew];exact zf3 d rest (Nat.le_refl _) hjk rfl)
   have HSN:=Lib.hid (show new.take (k*1) ++ zco j d ++ new.drop (k*1+(zco j d).length)=new by
    rw [hnew,zf3 (e:=0) d (rest.drop (j*1)) (by omega) (by omega) (by omega),List.drop_zero])
   have HTC:=Lib.hid (show cur.take (j*1)=zco j d by rw [hcur,zfN d hjk])
   have HTN:=Lib.hid (show new.take (j*1)=zco j d by rw [hnew,zfN d (by omega)])
   have HLC:=Lib.hid (show cur.length=m*1 by rw [hcur,List.length_append,zbO,HRL.out];omega)
   have HLN:=Lib.hid (show new.length=m*1 by rw [hnew,List.length_append,zbO,List.length_drop,HRL.out];omega)
   have HNEW2:=Lib.hid hnew
   clear hcur hnew
   go_wp2
   refine zbI (zl w.heap.size w.heap.size 3 cur new) [.is (.int .i64 (k:Int)),.is (.slice (some ⟨w.heap.size,0,none⟩) m m),.is (.int .i64 (k:Int)),.is (.slice (some ⟨w.heap.size,k*1,none⟩) (m - k) (m - k)),.is (.slice (some ⟨w.heap.size,0,none⟩) m m),.is (.int .i64 (k:Int)),.is (.slice (some ⟨w.heap.size,0,none⟩) k m),
    .of (fun v W=>v=.int .i64 (j:Int)∧Row W w.heap.size 3 new) (fun v W W' h hk=>⟨h.1,hk.2.2 h.2⟩),.is (.int .i64 ((k:Int)+(j:Int))),.is (.int .i64 ((k:Int)+(j:Int)))]
    [some 38,some 39,some 40,some 41,some 42,some 43,some 44,some 45,some 46,some 8] (by kernel_rfl) (by kernel_rfl) (by kernel_rfl) (by kernel_rfl) rfl ⟨?_,?_,?_,?_,?_,?_,?_,?_,?_,?_,trivial⟩ ?_
   ·intro ρ vs W1 hb1 H
    exact zd rfl (H.old 8 _ (by kernel_rfl) rfl) ⟨zt _ _ _,(zl _ _ _ _ _).refl _⟩
   ·intro ρ vs W1 hb1 H
    exact zd rfl (H.old 7 _ (by kernel_rfl) rfl) ⟨zt _ _ _,(zl _ _ _ _ _).refl _⟩
   ·intro ρ vs W1 hb1 H
    exact zd rfl (H.old 8 _ (by kernel_rfl) rfl) ⟨zt _ _ _,(zl _ _ _ _ _).refl _⟩
   ·intro ρ vs W1 hb1 H
    have e1:ρ (.tmp 40)=.int .i64 (k:Int):=H.holds 40 2 (by kernel_rfl)
    exact zL rfl (H.holds 39 1 (by kernel_rfl)) (by simp only [Option.map_some];rw [e1]) rfl rfl (zlT hlt) ⟨zt _ _ _,(zl _ _ _ _ _).refl _⟩
   ·intro ρ vs W1 hb1 H
    exact zd rfl (H.old 7 _ (by kernel_rfl) rfl) ⟨zt _ _ _,(zl _ _ _ _ _).refl _⟩
   ·intro ρ vs W1 hb1 H
    exact zd rfl (H.old 8 _ (by kernel_rfl) rfl) ⟨zt _ _ _,(zl _ _ _ _ _).refl _⟩
   ·intro ρ vs W1 hb1 H
    have e1:ρ (.tmp 43)=.int .i64 (k:Int):=H.holds 43 5 (by kernel_rfl)
    exact zL rfl (H.holds 42 4 (by kernel_rfl)) rfl (by simp only [Option.map_some];rw [e1]) rfl (zlU hkm) ⟨zt _ _ _,(zl _ _ _ _ _).refl _⟩
   ·intro ρ vs W1 hb1 H
    have hsrc:∀ (l:List Value),l.take (j*1)=zco j d→Row W1 w.heap.size 3 l→∀ i v,(zco j d)[i]? = some v→W1.cell? ((⟨w.heap.size,0,none⟩:Addr).add i)=some v:=by
     intro l hl hr i v hi
     refine zis hr i v ?_
     rw [←hl,List.getElem?_take] at hi
     split at hi
     ·exact hi
     ·cases hi
    have hto:∀ (l:List Value),Row W1 w.heap.size 3 l→Turn w.heap.size w.heap.size 3 cur new W1 (W1.setRow w.heap.size new.toArray):=fun l hr =>
     ⟨below_setRow (Below.refl _ _) (Nat.le_refl _) _,fun _=>.inr (zU hr),fun _=>zU hr⟩
    rcases hb1.2.1 HROW.out with h | h
    ·refine zdJ elemIW rfl (H.holds 41 3 (by kernel_rfl)) (H.holds 44 6 (by kernel_rfl)) h (k:=j) HJ.out.symm (zbO j d) (hsrc cur HTC.out h) (zkG j d) (by rw [HLC.out,zbO];omega) ?_
     rw [HSC.out]
     exact ⟨⟨zt _ _ _,zU h⟩,hto _ h⟩
    ·refine zdJ elemIW rfl (H.holds 41 3 (by kernel_rfl)) (H.holds 44 6 (by kernel_rfl)) h (k:=j) HJ.out.symm (zbO j d) (hsrc new HTN.out h) (zkG j d) (by rw [HLN.out,zbO];omega) ?_
     rw [HSN.out]
     exact ⟨⟨zt _ _ _,zU h⟩,hto _ h⟩
   ·intro ρ vs W1 hb1 H
    have e1:ρ (.tmp 45)=.int .i64 (j:Int):=(H.holds 45 7 (by kernel_rfl)).1
    exact zcd rfl (H.holds 38 0 (by kernel_rfl)) e1 (by omega) (by omega) ⟨zt _ _ _,(zl _ _ _ _ _).refl _⟩
   ·intro ρ vs W1 hb1 H
    exact zf rfl (H.holds 46 8 (by kernel_rfl)) ⟨zt _ _ _,(zl _ _ _ _ _).refl _⟩
   ·intro vs W1 hb1 hfs
    have f7:Row W1 w.heap.size 3 new:=(hfs 7 (by decide)).2
    have f9:vs 9=.int .i64 ((k:Int)+(j:Int)):=hfs 9 (by decide)
    clear hfs
    simp only [zr,Nat.zero_add,Nat.reduceAdd]
    generalize vs 0=z0
    generalize vs 1=z1
    generalize vs 2=z2
    generalize vs 3=z3
    generalize vs 4=z4
    generalize vs 5=z5
    generalize vs 6=z6
    generalize vs 7=z7
    generalize vs 8=z8
    simp only [f9,Act.put,List.setIfInBounds_toArray,List.set_cons_succ,List.set_cons_zero]
    have HREL:=Lib.hid (show zqe d w.heap.size m w (.int .i64 ((k:Int)+(j:Int))) W1 from ⟨k+j,rest.drop (j*1),by omega,hjm,by congr 1,by rw [List.length_drop,HRL.out];omega,by rw [←HNEW2.out];exact f7,HB.out.trans hb1.1⟩)
    clear f7 f9 hb1
    go_wp2
    go_roundw
    case rel=>exact HREL.out
    case measure=>simp [intOf];omega
  ·obtain rfl:k=m:=by omega
   obtain rfl:rest=[]:=List.eq_nil_of_length_eq_zero (by rw [HRL.out];omega)
   have HR9:=HROW
   rw [List.append_nil] at HR9
   go_wp2
   go_ret
   exact ⟨_,rfl,Nat.le_refl _,HR9.out,HB.out⟩
theorem zqf (l:List Int) (k:Nat):zbX (l.take k)=min (zbX l) k:=by
 cases l with
 | nil=>simp [zbX]
 | cons x r =>
  cases k with
  | zero=>simp [zbX]
  | succ k =>
   rw [List.take_succ_cons,zcn,zcn]
   have key:∀ (r:List Int) (k:Nat),((r.take k).takeWhile (· == x)).length=min (r.takeWhile (· == x)).length k:=by
    intro r
    induction r with
    | nil=>intro k;simp
    | cons y r ih =>
     intro k
     cases k with
     | zero=>simp
     | succ k =>
      rw [List.take_succ_cons,List.takeWhile_cons,List.takeWhile_cons]
      split
      ·rw [List.length_cons,List.length_cons,ih];omega
      ·simp
   rw [key]
   omega
def zsi (l:List Int) (w:World) (i:Value) (wr:World):Prop:=∃ k:Nat,k≤zbX l∧i=.int .i64 (k:Int)∧Below w.heap.size w wr
theorem zfO (l:List Int) (v:Value) (K:Nat) (w:World) (hv:IsV iv l v w) (hb:l.length≤1000000) (_hK:K≤1000000) :
  Calls Tryz.prog 104 #[v,.int .i64 (K:Int)] w fun e w'=>e=.returned (.int .i64 ((min (zbX l) K:Nat):Int))∧Below w.heap.size w w':=by
 obtain ⟨A,n,c,rfl⟩:=hv.shape
 have hln:=hv.parts.1
 have hnc:n≤c:=hv.parts.2.2.1
 have hci:(c:Int)≤9223372036854775807:=by have:=hv.parts.2.2.2.1;unfold maxLen at this;omega
 have hn6:n≤1000000:=by omega
 obtain ⟨m,hm⟩:∃ m,m=min n K:=⟨_,rfl⟩
 have hmn:m≤n:=by omega
 have hV:=hv.take hmn
 have HE:=Lib.hid (show zbX (l.take m)=min (zbX l) K by
  have:=zfm l
  rw [zqf];omega)
 have hmin:∀ (ts:Array TypeId) (t:TypeId) (W:World),(Builtin.min_ ts t #[.int .i64 (n:Int),.int .i64 (K:Int)]).run Tryz.prog W=.ok (.int .i64 (m:Int)) W:=fun ts t W=>by
  rw [run_min_int2]
  congr 2
  split <;> omega
 obtain ⟨t,ht⟩:∃ t,t=l.take m:=⟨_,rfl⟩
 rw [←ht] at hV HE
 rw [←HE.out]
 have HN:=Lib.hid (show t.length=m by rw [ht,List.length_take];omega)
 have HV:=Lib.hid hV
 have hmi:(m:Int)≤(c:Int):=by omega
 have hm6:m≤1000000:=by omega
 clear hv hb hV hm ht hln HE
 have HS:Hid (zsi t w (.int .i64 0) w):=Lib.hid ⟨0,Nat.zero_le _,rfl,Below.refl _ _⟩
 go_enter Tryz.func104,Tryz.ntmps104
 go_wp2
 go_loopw [15] (zsi t w) (fun i _=>m - (intOf i).toNat)
 case atStart=>exact HS.out
 case round =>
  obtain ⟨k,hk,rfl,hbw⟩:=hrel
  have hle:=zfm t
  have hkn:k≤m:=by have:=HN.out;omega
  have HK:=Lib.hid hk
  have HB:=Lib.hid hbw
  clear HS
  by_cases hlt:k < m
  ·have hkl:k < t.length:=by have:=HN.out;omega
   have hn0i:(0:Int) < (m:Int):=by omega
   have hlti:(k:Int) < (m:Int):=by omega
   have hiff:=zp0 hkl hk
   obtain ⟨ad,rfl,had,hcell⟩:=(HV.out.below hbw).at hkl
   obtain ⟨_,hAd,_,hcell0⟩:=(HV.out.below hbw).at (k:=0) (by omega)
   injection hAd with hAd
   subst hAd
   obtain ⟨x,hx⟩:∃ x,x=t[k]:=⟨_,rfl⟩
   obtain ⟨x0,hx0⟩:∃ x,x=t[0]:=⟨_,rfl⟩
   rw [←hx,←hx0] at hiff
   have hcx:wr.cell? (ad.add k)=some (.int .i64 x):=by rw [hcell,hx];rfl
   have hc0:wr.cell? ad=some (.int .i64 x0):=by
    have h1:ad.add 0=ad:=by unfold Addr.add;split <;> simp_all
    rw [←h1,hcell0,hx0];rfl
   have HI:=Lib.hid hiff
   clear hcell hcell0 hx hx0 hiff hk hbw hle
   by_cases he:x=x0
   ·have d2:(x != x0)=false:=by simpa using he
    have HE:=Lib.hid he
    clear he
    go_wp2
    go_roundw
    case rel=>exact ⟨k+1,HI.out.2 HE.out,by go_num,HB.out⟩
    case measure=>simp [intOf];omega
   ·have d2:(x != x0)=true:=by simpa using he
    have HE:=Lib.hid he
    clear he
    go_wp2
    go_ret
    refine ⟨?_,HB.out⟩
    have h1:k=zbX t:=Nat.le_antisymm HK.out (Nat.not_lt.1 fun h=>HE.out (HI.out.1 h))
    rw [←h1]
    rfl
  ·obtain rfl:k=m:=by omega
   have hlti:¬(k:Int) < (k:Int):=by omega
   have h1:k=zbX t:=by have:=HN.out;omega
   have HE:=Lib.hid h1
   clear h1 hk hbw hle
   go_wp2
   go_ret
   refine ⟨?_,HB.out⟩
   rw [←HE.out]
   rfl
def ztp (l:List Int) (m:Nat) (w:World) (i:Value) (wr:World):Prop:=∃ k:Nat,1≤k∧k≤max 1 m∧i=.int .i64 (k:Int)∧(∀ j,1≤j→j < k→zku l j=false)∧Below w.heap.size w wr
theorem zrL (l:List Int) (v:Value) (w:World) (hv:IsV iv l v w) (hb:l.length≤1000000) :
  Calls Tryz.prog 70 #[v] w fun e w'=>e=.returned (.int .i64 (ucut l:Int))∧Below w.heap.size w w':=by
 have HV:=Lib.hid hv
 obtain ⟨A,n,c,rfl⟩:=hv.shape
 have HN:=Lib.hid hv.parts.1
 have hnc:n≤c:=hv.parts.2.2.1
 have hci:(c:Int)≤9223372036854775807:=by have:=hv.parts.2.2.2.1;unfold maxLen at this;omega
 have hn6:n≤1000000:=by have:=HN.out;omega
 have HL:=Lib.hid hb
 obtain ⟨u,hu⟩:∃ u,u=min (zbX l) 512:=⟨_,rfl⟩
 have HA:=Lib.hid (zfO l _ 512 w hv hb (by omega))
 rw [←hu] at HA
 have hul:u≤512:=by omega
 obtain ⟨m,hm⟩:∃ m,m=min n 512:=⟨_,rfl⟩
 have hmin:∀ (ts:Array TypeId) (t:TypeId) (W:World),(Builtin.min_ ts t #[.int .i64 (n:Int),.int .i64 512]).run Tryz.prog W=.ok (.int .i64 (m:Int)) W:=fun ts t W=>by
  rw [run_min_int2]
  congr 2
  split <;> omega
 have hmn:m≤n:=by omega
 have hm5:m≤512:=by omega
 by_cases hu3:3≤u
 ·have hu3i:(3:Int)≤(u:Int):=by omega
  have hE:Hid (ucut l=u):=Lib.hid (by rw [hu];exact zp4 (by omega))
  clear hv hb hu hm
  go_enter Tryz.func70,Tryz.ntmps70
  go_wp2_with fail
  refine HA.out.mono ?_
  rintro e w1 ⟨rfl,hb1⟩
  go_wp2
  go_ret
  exact ⟨by rw [hE.out];rfl,hb1⟩
 ·have hu3i:¬(3:Int)≤(u:Int):=by omega
  have HU3:Hid (¬3≤zbX l):=Lib.hid (by omega)
  have HM:Hid (min l.length 512=m):=Lib.hid (by rw [hm,HN.out])
  clear hv hb hu hm
  go_enter Tryz.func70,Tryz.ntmps70
  go_wp2_with fail
  refine HA.out.mono ?_
  rintro e w1 ⟨rfl,hb1⟩
  have HS:Hid (ztp l m w (.int .i64 1) w1):=Lib.hid ⟨1,by omega,by omega,rfl,fun j h1 h2=>by omega,hb1⟩
  clear hb1
  go_wp2
  go_loopw [5] (ztp l m w) (fun i _=>513 - (intOf i).toNat)
  case atStart=>exact HS.out
  case round =>
   obtain ⟨k,hk1,hkm,rfl,hno,hbw⟩:=hrel
   have HNO:=Lib.hid hno
   have HBW:=Lib.hid hbw
   clear hno hbw HS
   by_cases hlt:k < m
   ·have hlti:(k:Int) < (m:Int):=by omega
    have hkn:k≤n:=by omega
    obtain ⟨v4,hv4,hI4⟩:=zbp (P:=Tryz.prog) zdk (k:=k) hkn (HV.out.below HBW.out)
    obtain ⟨g,hg⟩:∃ g,g=min (zbX (l.drop k)) 5:=⟨_,rfl⟩
    have HS4:=Lib.hid (zfO (l.drop k) v4 5 wr hI4 (by rw [List.length_drop];have:=HL.out;omega) (by omega))
    rw [←hg] at HS4
    have hg5:g≤5:=by omega
    have HG:=Lib.hid hg
    clear hg hI4
    by_cases h5:g=5
    ·have hE:Hid (ucut l=k):=Lib.hid (zsV HU3.out hk1 (by have:=HN.out;omega) (by omega) HNO.out (by unfold zku;exact decide_eq_true (by have:=HG.out;omega)))
     have d1:((g:Int) == 5)=true:=by rw [h5];rfl
     clear h5
     go_wp2_with (refine zI rfl _ _ _ rfl _ (hv4 _) ?_)
     refine HS4.out.mono ?_
     rintro e w2 ⟨rfl,hb2⟩
     have HB2:=Lib.hid (za HBW.out hb2)
     clear hb2
     go_wp2
     go_ret
     exact ⟨by rw [hE.out];rfl,HB2.out⟩
    ·have d1:((g:Int) == 5)=false:=by simp;omega
     have HG5:=Lib.hid h5
     clear h5
     go_wp2_with (refine zI rfl _ _ _ rfl _ (hv4 _) ?_)
     refine HS4.out.mono ?_
     rintro e w2 ⟨rfl,hb2⟩
     have HB2:=Lib.hid (za HBW.out hb2)
     clear hb2
     go_wp2
     go_roundw
     case rel =>
      refine ⟨k+1,by omega,by omega,by go_num,fun j h1 h2=>?_,HB2.out⟩
      by_cases hj:j < k
      ·exact HNO.out j h1 hj
      ·obtain rfl:j=k:=by omega
       unfold zku
       exact decide_eq_false (by have:=HG.out;have:=HG5.out;omega)
     case measure=>simp [intOf];omega
   ·have hlti:¬(k:Int) < (m:Int):=by omega
    have hE:Hid (ucut l=m):=Lib.hid (by
     rw [zrF HU3.out (fun j h1 h2=>HNO.out j h1 (by have:=HM.out;omega)),HM.out])
    go_wp2
    go_ret
    exact ⟨by rw [hE.out];rfl,HBW.out⟩
section
variable {P:Program} {o:Oper} {ρ:Operand→Value} {w:World} {R:Value→World→Prop}
theorem zdR {f:FuncId} {x:Operand} {xs:Array Operand} {ts:Array TypeId} {args:Array Value} (ho:o.op=.call { callee:=.value x,args:=xs,argTypes:=ts })
  (hent:∀ (args:Array Value) (w:World),(callFunc f args).run P w=.ok (.enter f args) w) (hf:ρ x=.func (.func f) #[] #[]) (ha:xs.map ρ=args)
  (h:Calls P f args w fun e w'=>∃ v,e=.returned v∧R v w'):zba P o ρ w R:=by
 have hr:(execOp ρ o).run P w=.ok (.enter f args) w:=by
  simp [execOp,ho,resolve,hf,ha,Deferred.ofValue,invoke,hent]
 unfold zba
 rw [hr]
 exact h
theorem zc7 {t e:TypeId} {bytes m:Nat} {zv:Value} (E:ElemW P t e bytes m zv) {x y:Operand} {ad:Addr} {n c k:Nat} (ho:o.op=.indexAddr t x y) (hx:ρ x=.slice (some ad) n c) (hy:ρ y=.int .i64 (k:Int)) (hk:k < n)
  (hR:R (.pointer (some (ad.add (k*m)))) w):zba P o ρ w R:=by
 refine zq (v:=.pointer (some (ad.add (k*m)))) (w':=w) ?_ hR
 have ht:=E.under
 have hs:=E.size_ w
 have h0:(0:Int)≤(k:Int):=by omega
 have h1:(k:Int) < (n:Int):=by omega
 simp [execOp,ho,hx,hy,go_sem,ht,hs,h0,h1]
end
def Fact.putE (l:List UInt8) (x:Int):Fact:=⟨fun v w=>∃ b,v=.tuple #[b,.int .i64 x]∧IsB l b w,fun _ _ _ ⟨b,h1,h2⟩ hb=>⟨b,h1,IsB.below h2 hb⟩⟩
def kcs:Nat→List Value
 | 0=>[.int .u8 0,.func (.func 122) #[] #[],.func (.func 123) #[] #[]]
 | 1=>[.int .u8 1,.func (.func 124) #[] #[],.func (.func 125) #[] #[]]
 | 2=>[.int .u8 3,.func (.func 126) #[] #[],.func (.func 127) #[] #[]]
 | _=>[.int .u8 2,.func (.func 128) #[] #[],.func (.func 129) #[] #[]]
def ukcells:List Value:=kcs 0 ++ (kcs 1 ++ (kcs 2 ++ kcs 3))
def kz:Value:=.agg #[.int .u8 0,.nilFunc,.nilFunc]
theorem Tryz.infoK:(Tryz.prog.info? 143).map (fun i=>(i.zero,i.size,i.bytes))=some (some kz,3,24):=by kernel_rfl
theorem zrM:ElemW Tryz.prog 139 143 24 3 kz:=by
 obtain ⟨i0,hi,hz0,hz1,hz2⟩:=info_parts Tryz.infoK
 exact ⟨Tryz.underlying139,rfl,by omega,i0,hi,hz0,hz1,hz2⟩
theorem zgr (j:Nat) (W:World) (g:Nat):(Instr.fieldAt 143 (.pointer (some ⟨g,j,none⟩)) 1).run Tryz.prog W=.ok (.pointer (some ⟨g,j+1,none⟩)) W:=by kernel_rfl
theorem zkH (ad:Addr):ad.add 0=ad:=by unfold Addr.add;split <;> simp_all
theorem zkI (w:World):Calls Tryz.prog 105 #[] w fun e w'=>e=.returned (.slice (some ⟨w.heap.size,0,none⟩) 4 4)∧w'=w.alloc (.cells ukcells.toArray 143):=by
 go_enter Tryz.func105,Tryz.ntmps105
 go_wp2
 go_ret
 exact ⟨rfl,rfl⟩
theorem zlW (l:List Int) (v:Value) (s:Bool) (w:World) (hv:IsV iv l v w) (hl:∀ x∈l,inInt x) (hb:l.length≤1000000) :
  Calls Tryz.prog 122 #[v,.bool s] w (RetE w (urep l s)):=by
 obtain ⟨A,n,c,rfl⟩:=hv.shape
 have HN:=Lib.hid hv.parts.1
 by_cases h0:n=0
 ·subst h0
  have HE:Hid (urep l s=([],1)):=Lib.hid (by unfold urep;rw [if_pos (.inl HN.out)])
  clear hv hl hb
  go_enter Tryz.func122,Tryz.ntmps122
  go_wp2
  go_ret2
  rw [HE.out]
  exact RetE.nil _ (Below.refl _ _)
 ·have hn6:n≤1000000:=by have:=HN.out;omega
  have h0i:((n:Int) == 0)=false:=by simp;omega
  have hn0:(0:Int) < (n:Int):=by omega
  obtain ⟨u,hu⟩:∃ u,u=min (zbX l) n:=⟨_,rfl⟩
  have HA:=Lib.hid (zfO l _ n w hv hb hn6)
  rw [←hu] at HA
  have hun:u=zbX l:=by have:=zfm l;have:=HN.out;omega
  by_cases hlt:u < n
  ·have hlti:(u:Int) < (n:Int):=by omega
   have HE:Hid (urep l s=([],1)):=Lib.hid (by unfold urep;rw [if_pos (.inr (by rw [←hun,HN.out];exact hlt))])
   clear hv hl hb hu hun h0
   go_enter Tryz.func122,Tryz.ntmps122
   go_wp2_with fail
   refine HA.out.mono ?_
   rintro e w1 ⟨rfl,hb1⟩
   have HB:=Lib.hid hb1
   clear hb1
   go_wp2
   go_ret2
   rw [HE.out]
   exact RetE.nil _ HB.out
  ·have hlti:¬(u:Int) < (n:Int):=by omega
   have hkl:0 < l.length:=by have:=HN.out;omega
   obtain ⟨x0,hx0⟩:∃ x,x=l[0]:=⟨_,rfl⟩
   have HE:Hid (urep l s=eput x0 (n:Int) s):=Lib.hid (by
    unfold urep
    rw [if_neg (by rw [←hun,HN.out];omega),HN.out,hx0]
    congr 1
    cases l with
    | nil=>simp at hkl
    | cons y t=>rfl)
   have HX:=Lib.hid (hl x0 (by rw [hx0];exact List.getElem_mem hkl))
   obtain ⟨ad,rfl,had,hcell⟩:=hv.at hkl
   have hc0:w.cell? ad=some (.int .i64 x0):=by
    rw [←zkH ad,hcell,hx0];rfl
   have HC:=Lib.hid hc0
   have HAD:=Lib.hid had
   clear hv hl hb hu hun h0 hcell hc0 hx0 had hkl
   go_enter Tryz.func122,Tryz.ntmps122
   go_wp2_with fail
   refine HA.out.mono ?_
   rintro e w1 ⟨rfl,hb1⟩
   have HB:=Lib.hid hb1
   have hc1:w1.cell? ad=some (.int .i64 x0):=(hb1.cell HAD.out).trans HC.out
   clear hb1
   go_wp2_with fail
   refine (zrA x0 (n:Int) s w1 HX.out.1 HX.out.2).mono ?_
   rintro e w2 ⟨v2,rfl,hv2,hb2⟩
   have HV2:=Lib.hid hv2
   have HB2:=Lib.hid (za HB.out hb2)
   clear hv2 hb2
   go_wp2
   go_ret2
   rw [HE.out]
   exact ⟨_,rfl,HV2.out,HB2.out⟩
theorem zoj (k:Nat) (hk:k < 31) (b1 b2:Nat) (l:List Int) (v:Value) (s:Bool) (w:World) (ht:WTab w) (hv:IsV iv l v w) (hl:∀ x∈l,inInt x) (hb:l.length≤1000000) (h1:Row w b1 47 [v]) (h2:Row w b2 4 [.bool s]) :
  Calls Tryz.prog 158 #[.int .i64 (k:Int),.pointer (some ⟨b1,0,none⟩),.pointer (some ⟨b2,0,none⟩)] w (RetE w (zcx l (wof (k:Int)) s)):=by
 have HT:=Lib.hid ht
 have HV:=Lib.hid hv
 obtain ⟨K,hK⟩:=zi3 k
 have hK64:=zd3 (k:Int)
 rw [hK] at hK64 ⊢
 have HOF:=Lib.hid (fun W (h:WTab W)=>zhL (k:Int) W h (by omega) (by omega))
 rw [hK] at HOF
 have HP:=Lib.hid (fun W (h:IsV iv l v W) (ht:WTab W)=>zrz l v (K:Int) s W ht h hl hb (by unfold inInt;omega))
 have HC1:=Lib.hid (show w.cell? ⟨b1,0,none⟩=some v from h1.cell 0)
 have HC2:=Lib.hid (show w.cell? ⟨b2,0,none⟩=some (.bool s) from h2.cell 0)
 have HL1:=Lib.hid h1.lt
 have HL2:=Lib.hid h2.lt
 obtain ⟨pl,px,hE⟩:∃ pl px,zcx l (K:Int) s=(pl,px):=⟨_,_,rfl⟩
 rw [hE] at HP
 have HE:=Lib.hid hE
 clear ht hv hl hb h1 h2 hE hK hK64
 go_enter Tryz.func158,Tryz.ntmps158
 go_wp2_with fail
 refine wp_region_list [.is (v),.is (.int .i64 (k:Int)),.is (.int .i64 (K:Int)),.is (.bool s),.putE (pl) (px),.bytes (pl),.is (.int .i64 px),.bytes (pl),.is (.int .i64 px)] [some 6,some 7,some 8,some 9,some 10,some 11,some 12,some 4,some 5] (by kernel_rfl) (by kernel_rfl) (by kernel_rfl) rfl ⟨?_,?_,?_,?_,?_,?_,?_,?_,?_,trivial⟩ ?_
 ·intro ρ W1 hb1 H
  exact ze rfl (H.old 1 _ (by kernel_rfl) rfl) Tryz.underlying47 rfl ((hb1.cell HL1.out).trans HC1.out) ⟨rfl,Below.refl _ _⟩
 ·intro ρ W1 hb1 H
  exact zd rfl (H.old 0 _ (by kernel_rfl) rfl) ⟨rfl,Below.refl _ _⟩
 ·intro ρ W1 hb1 H
  have e0:ρ (.tmp 7)=.int .i64 (k:Int):=H.new 7 1 (by kernel_rfl)
  refine zk rfl (fun _ _=>by kernel_rfl) (H.func _) (args:=#[.int .i64 (k:Int)]) (by simp [e0]) ?_
  exact (HOF.out W1 (HT.out.below hb1 HT.out.lt)).mono fun e w' ⟨h1,h2⟩=>⟨_,h1,rfl,h2 ▸ Below.refl _ _⟩
 ·intro ρ W1 hb1 H
  exact ze rfl (H.old 2 _ (by kernel_rfl) rfl) Tryz.underlying4 rfl ((hb1.cell HL2.out).trans HC2.out) ⟨rfl,Below.refl _ _⟩
 ·intro ρ W1 hb1 H
  have e0:ρ (.tmp 6)=v:=H.new 6 0 (by kernel_rfl)
  have e1:ρ (.tmp 8)=.int .i64 (K:Int):=H.new 8 2 (by kernel_rfl)
  have e2:ρ (.tmp 9)=.bool s:=H.new 9 3 (by kernel_rfl)
  refine zk rfl (fun _ _=>by kernel_rfl) (H.func _) (args:=#[v,.int .i64 (K:Int),.bool s]) (by simp [e0,e1,e2]) ?_
  exact (HP.out W1 (HV.out.below hb1) (HT.out.below hb1 HT.out.lt)).mono fun e w' ⟨b,h1,h2,h3⟩=>⟨_,h1,⟨b,rfl,h2⟩,h3⟩
 ·intro ρ W1 hb1 H
  obtain ⟨b,h1,h2⟩:=(show ∃ b,ρ (.tmp 10)=.tuple #[b,.int .i64 px]∧IsB pl b W1 from H.new 10 4 (by kernel_rfl))
  exact zg rfl h1 rfl ⟨h2,Below.refl _ _⟩
 ·intro ρ W1 hb1 H
  obtain ⟨b,h1,h2⟩:=(show ∃ b,ρ (.tmp 10)=.tuple #[b,.int .i64 px]∧IsB pl b W1 from H.new 10 4 (by kernel_rfl))
  exact zg rfl h1 rfl ⟨rfl,Below.refl _ _⟩
 ·intro ρ W1 hb1 H
  exact zf rfl rfl ⟨H.new 11 5 (by kernel_rfl),Below.refl _ _⟩
 ·intro ρ W1 hb1 H
  exact zf rfl (H.new 12 6 (by kernel_rfl)) ⟨rfl,Below.refl _ _⟩
 ·intro vs W1 hb1 hfs
  have f7:IsB (pl) (vs 7) W1:=hfs 7 (by decide)
  have f8:vs 8=.int .i64 px:=hfs 8 (by decide)
  clear hfs
  simp only [zr,Nat.zero_add,Nat.reduceAdd]
  generalize vs 0=z0
  generalize vs 1=z1
  generalize vs 2=z2
  generalize vs 3=z3
  generalize vs 4=z4
  generalize vs 5=z5
  generalize vs 6=z6
  generalize vs 7=z7 at f7 ⊢
  simp only [f8,Act.put,List.setIfInBounds_toArray,List.set_cons_succ,List.set_cons_zero]
  clear f8
  have HB:=Lib.hid f7
  have HW:=Lib.hid hb1
  clear f7 hb1
  go_wp2
  go_ret2
  rw [HE.out]
  exact ⟨_,rfl,HB.out,HW.out⟩
theorem zja (W:World):(binOp .eql 38 (.slice none 0 0) (.slice none 0 0)).run Tryz.prog W=.ok (.bool true) W:=Lib.run_eql_slice_nil W _ _ none 0 0 0 0 Tryz.underlying38
theorem zjb (ad:Addr) (n c:Nat) (W:World):(binOp .eql 38 (.slice (some ad) n c) (.slice none 0 0)).run Tryz.prog W=.ok (.bool false) W:=Lib.run_eql_slice_nil W _ _ (some ad) n c 0 0 Tryz.underlying38
def ztE (o:Option (List UInt8)) (v:Value) (w:World):Prop:=match o with | none=>v=.slice none 0 0 | some a=>IsB a v w∧1≤a.length
def zrN (F:Nat→List UInt8 × Int) (N:Nat) (w:World) (b i:Value) (wr:World):Prop:=∃ k:Nat,k≤N∧i=.int .i64 (k:Int)∧ztE (((List.range k).map F).foldl zbt none) b wr∧Below w.heap.size w wr
theorem zjc (N:Nat) (F:Nat→List UInt8 × Int) (p1 p2:Nat) (w:World) (hN:N≤1000) (hf:∀ (k:Nat) (W:World),k < N→Below w.heap.size w W→Calls Tryz.prog 158 #[.int .i64 (k:Int),.pointer (some ⟨p1,0,none⟩),.pointer (some ⟨p2,0,none⟩)] W (RetE W (F k)))
  (hlen:∀ k,k < N→(F k).2=0→1≤(F k).1.length) :
  Calls Tryz.prog 106 #[.int .i64 (N:Int),.func (.func 158) #[] #[.pointer (some ⟨p1,0,none⟩),.pointer (some ⟨p2,0,none⟩)]] w (RetE w (uans (((List.range N).map F).foldl zbt none))):=by
 have HF:=Lib.hid hf
 have HLEN:=Lib.hid hlen
 have HS:Hid (zrN F N w (.slice none 0 0) (.int .i64 0) w):=Lib.hid ⟨0,Nat.zero_le _,rfl,rfl,Below.refl _ _⟩
 clear hf hlen
 go_enter Tryz.func106,Tryz.ntmps106
 go_wp2
 go_loopw [6,11] (zrN F N w) (fun _ i _=>N - (intOf i).toNat)
 case atStart=>exact HS.out
 case round =>
  obtain ⟨k,hk,rfl,hbest,hbw⟩:=hrel
  clear HS
  have HBW:=Lib.hid hbw
  have HFS:=Lib.hid (show ((List.range (k+1)).map F).foldl zbt none=zbt (((List.range k).map F).foldl zbt none) (F k) by
   rw [List.range_succ,List.map_append,List.foldl_append];rfl)
  obtain ⟨o,ho⟩:∃ o,o=((List.range k).map F).foldl zbt none:=⟨_,rfl⟩
  rw [←ho] at hbest HFS
  have HO:=Lib.hid ho
  clear hbw ho
  by_cases hlt:k < N
  ·have hlti:(k:Int) < (N:Int):=by omega
   have HFK:=Lib.hid (HF.out k wr hlt HBW.out)
   have HLK:=Lib.hid (HLEN.out k hlt)
   obtain ⟨fl,fx,hfk⟩:∃ fl fx,F k=(fl,fx):=⟨_,_,rfl⟩
   rw [hfk] at HFK HFS HLK
   clear hfk
   rcases o with _ | a
   ·obtain rfl:_=Value.slice none 0 0:=hbest
    have hnil:=zja
    by_cases hx:fx=0
    ·subst hx
     go_wp2_with (go_at_call 158;refine HFK.out.mono ?_;rintro e w2 ⟨v2,rfl,hv2,hb2⟩;have HV2:=Lib.hid hv2;have HB2:=Lib.hid (za HBW.out hb2);clear hv2 hb2)
     go_roundw
     case rel=>exact ⟨k+1,hlt,by go_num,by rw [HFS.out,zbB rfl];exact ⟨HV2.out,HLK.out (by trivial)⟩,HB2.out⟩
     case measure=>simp [intOf];omega
    ·have d1:(fx == 0)=false:=by simpa using hx
     have HX:=Lib.hid hx
     clear hx
     go_wp2_with (go_at_call 158;refine HFK.out.mono ?_;rintro e w2 ⟨v2,rfl,hv2,hb2⟩;have HV2:=Lib.hid hv2;have HB2:=Lib.hid (za HBW.out hb2);clear hv2 hb2)
     go_roundw
     case rel=>exact ⟨k+1,hlt,by go_num,by rw [HFS.out,zbu HX.out];rfl,HB2.out⟩
     case measure=>simp [intOf];omega
   ·obtain ⟨ha,ha1⟩:=hbest
    obtain ⟨A6,n6,c6,rfl⟩:=IsV.shape (f:=bv) ha
    have hp6:=IsV.parts (f:=bv) (show IsV bv a _ _ from ha)
    have HN6:=Lib.hid hp6.1
    have hn61:1≤n6:=by rw [←hp6.1];exact ha1
    have hci6:(n6:Int)≤9223372036854775807:=by have h1:=hp6.2.2.1;have h2:=hp6.2.2.2.1;unfold maxLen at h2;omega
    have hAs:∃ ad,A6=some ad:=by
     cases A6 with
     | none=>have:=hp6.2.1 rfl;omega
     | some ad=>exact ⟨ad,rfl⟩
    obtain ⟨ad6,rfl⟩:=hAs
    have hnil:=fun W=>zjb ad6 n6 c6 W
    have HA:=Lib.hid ha
    have HA1:=Lib.hid ha1
    clear ha ha1 hp6
    by_cases hx:fx=0
    ·subst hx
     go_wp2_with fail
     refine HFK.out.mono ?_
     rintro e w2 ⟨v2,rfl,hv2,hb2⟩
     obtain ⟨A8,n8,c8,rfl⟩:=IsV.shape (f:=bv) hv2
     have hn8:=(IsV.parts (f:=bv) (show IsV bv fl _ _ from hv2)).1
     have HN8:=Lib.hid hn8
     have HV2:=Lib.hid hv2
     have HB2:=Lib.hid (za HBW.out hb2)
     have HA2:=Lib.hid (IsB.below HA.out hb2)
     clear hv2 hb2 hn8
     by_cases hlt8:n8 < n6
     ·have hlt8i:(n8:Int) < (n6:Int):=by omega
      have d2:decide ((n8:Int) < (n6:Int))=true:=decide_eq_true hlt8i
      go_wp2
      go_roundw
      case rel=>exact ⟨k+1,hlt,by go_num,by rw [HFS.out,zbv rfl (by have:=HN8.out;have:=HN6.out;dsimp only;omega)];exact ⟨HV2.out,HLK.out (by trivial)⟩,HB2.out⟩
      case measure=>simp [intOf];omega
     ·have hlt8i:¬(n8:Int) < (n6:Int):=by omega
      have d2:decide ((n8:Int) < (n6:Int))=false:=decide_eq_false hlt8i
      go_wp2
      go_roundw
      case rel=>exact ⟨k+1,hlt,by go_num,by rw [HFS.out,zbU (by have:=HN8.out;have:=HN6.out;dsimp only;omega)];exact ⟨HA2.out,HA1.out⟩,HB2.out⟩
      case measure=>simp [intOf];omega
    ·have d1:(fx == 0)=false:=by simpa using hx
     have HX:=Lib.hid hx
     clear hx
     go_wp2_with (go_at_call 158;refine HFK.out.mono ?_;rintro e w2 ⟨v2,rfl,hv2,hb2⟩;have HB2:=Lib.hid (za HBW.out hb2);have HA2:=Lib.hid (IsB.below HA.out hb2);clear hv2 hb2)
     go_roundw
     case rel=>exact ⟨k+1,hlt,by go_num,by rw [HFS.out,zbu HX.out];exact ⟨HA2.out,HA1.out⟩,HB2.out⟩
     case measure=>simp [intOf];omega
  ·obtain rfl:k=N:=by omega
   have hlti:¬(k:Int) < (k:Int):=by omega
   rcases o with _ | a
   ·obtain rfl:_=Value.slice none 0 0:=hbest
    have hnil:=zja
    go_wp2
    go_ret2
    rw [←HO.out]
    exact RetE.nil _ HBW.out
   ·obtain ⟨ha,ha1⟩:=hbest
    obtain ⟨A6,n6,c6,rfl⟩:=IsV.shape (f:=bv) ha
    have hp6:=IsV.parts (f:=bv) (show IsV bv a _ _ from ha)
    have hn61:1≤n6:=by rw [←hp6.1];exact ha1
    have hAs:∃ ad,A6=some ad:=by
     cases A6 with
     | none=>have:=hp6.2.1 rfl;omega
     | some ad=>exact ⟨ad,rfl⟩
    obtain ⟨ad6,rfl⟩:=hAs
    have hnil:=fun W=>zjb ad6 n6 c6 W
    have HA:=Lib.hid ha
    clear ha ha1 hp6
    go_wp2
    go_ret2
    rw [←HO.out]
    exact ⟨_,rfl,HA.out,HBW.out⟩
theorem zjd (N:Nat) (F:Nat→List UInt8 × Int) (p6 p2 p3:Nat) (w:World) (hN:N≤1000) (hf:∀ (k:Nat) (W:World),k < N→Below w.heap.size w W→Calls Tryz.prog 107 #[.int .i64 (k:Int),.pointer (some ⟨p6,0,none⟩),.pointer (some ⟨p2,0,none⟩),.pointer (some ⟨p3,0,none⟩)] W (RetE W (F k)))
  (hlen:∀ k,k < N→(F k).2=0→1≤(F k).1.length) :
  Calls Tryz.prog 106 #[.int .i64 (N:Int),.func (.func 107) #[] #[.pointer (some ⟨p6,0,none⟩),.pointer (some ⟨p2,0,none⟩),.pointer (some ⟨p3,0,none⟩)]] w (RetE w (uans (((List.range N).map F).foldl zbt none))):=by
 have HF:=Lib.hid hf
 have HLEN:=Lib.hid hlen
 have HS:Hid (zrN F N w (.slice none 0 0) (.int .i64 0) w):=Lib.hid ⟨0,Nat.zero_le _,rfl,rfl,Below.refl _ _⟩
 clear hf hlen
 go_enter Tryz.func106,Tryz.ntmps106
 go_wp2
 go_loopw [6,11] (zrN F N w) (fun _ i _=>N - (intOf i).toNat)
 case atStart=>exact HS.out
 case round =>
  obtain ⟨k,hk,rfl,hbest,hbw⟩:=hrel
  clear HS
  have HBW:=Lib.hid hbw
  have HFS:=Lib.hid (show ((List.range (k+1)).map F).foldl zbt none=zbt (((List.range k).map F).foldl zbt none) (F k) by
   rw [List.range_succ,List.map_append,List.foldl_append];rfl)
  obtain ⟨o,ho⟩:∃ o,o=((List.range k).map F).foldl zbt none:=⟨_,rfl⟩
  rw [←ho] at hbest HFS
  have HO:=Lib.hid ho
  clear hbw ho
  by_cases hlt:k < N
  ·have hlti:(k:Int) < (N:Int):=by omega
   have HFK:=Lib.hid (HF.out k wr hlt HBW.out)
   have HLK:=Lib.hid (HLEN.out k hlt)
   obtain ⟨fl,fx,hfk⟩:∃ fl fx,F k=(fl,fx):=⟨_,_,rfl⟩
   rw [hfk] at HFK HFS HLK
   clear hfk
   rcases o with _ | a
   ·obtain rfl:_=Value.slice none 0 0:=hbest
    have hnil:=zja
    by_cases hx:fx=0
    ·subst hx
     go_wp2_with (go_at_call 107;refine HFK.out.mono ?_;rintro e w2 ⟨v2,rfl,hv2,hb2⟩;have HV2:=Lib.hid hv2;have HB2:=Lib.hid (za HBW.out hb2);clear hv2 hb2)
     go_roundw
     case rel=>exact ⟨k+1,hlt,by go_num,by rw [HFS.out,zbB rfl];exact ⟨HV2.out,HLK.out (by trivial)⟩,HB2.out⟩
     case measure=>simp [intOf];omega
    ·have d1:(fx == 0)=false:=by simpa using hx
     have HX:=Lib.hid hx
     clear hx
     go_wp2_with (go_at_call 107;refine HFK.out.mono ?_;rintro e w2 ⟨v2,rfl,hv2,hb2⟩;have HV2:=Lib.hid hv2;have HB2:=Lib.hid (za HBW.out hb2);clear hv2 hb2)
     go_roundw
     case rel=>exact ⟨k+1,hlt,by go_num,by rw [HFS.out,zbu HX.out];rfl,HB2.out⟩
     case measure=>simp [intOf];omega
   ·obtain ⟨ha,ha1⟩:=hbest
    obtain ⟨A6,n6,c6,rfl⟩:=IsV.shape (f:=bv) ha
    have hp6:=IsV.parts (f:=bv) (show IsV bv a _ _ from ha)
    have HN6:=Lib.hid hp6.1
    have hn61:1≤n6:=by rw [←hp6.1];exact ha1
    have hci6:(n6:Int)≤9223372036854775807:=by have h1:=hp6.2.2.1;have h2:=hp6.2.2.2.1;unfold maxLen at h2;omega
    have hAs:∃ ad,A6=some ad:=by
     cases A6 with
     | none=>have:=hp6.2.1 rfl;omega
     | some ad=>exact ⟨ad,rfl⟩
    obtain ⟨ad6,rfl⟩:=hAs
    have hnil:=fun W=>zjb ad6 n6 c6 W
    have HA:=Lib.hid ha
    have HA1:=Lib.hid ha1
    clear ha ha1 hp6
    by_cases hx:fx=0
    ·subst hx
     go_wp2_with fail
     refine HFK.out.mono ?_
     rintro e w2 ⟨v2,rfl,hv2,hb2⟩
     obtain ⟨A8,n8,c8,rfl⟩:=IsV.shape (f:=bv) hv2
     have hn8:=(IsV.parts (f:=bv) (show IsV bv fl _ _ from hv2)).1
     have HN8:=Lib.hid hn8
     have HV2:=Lib.hid hv2
     have HB2:=Lib.hid (za HBW.out hb2)
     have HA2:=Lib.hid (IsB.below HA.out hb2)
     clear hv2 hb2 hn8
     by_cases hlt8:n8 < n6
     ·have hlt8i:(n8:Int) < (n6:Int):=by omega
      have d2:decide ((n8:Int) < (n6:Int))=true:=decide_eq_true hlt8i
      go_wp2
      go_roundw
      case rel=>exact ⟨k+1,hlt,by go_num,by rw [HFS.out,zbv rfl (by have:=HN8.out;have:=HN6.out;dsimp only;omega)];exact ⟨HV2.out,HLK.out (by trivial)⟩,HB2.out⟩
      case measure=>simp [intOf];omega
     ·have hlt8i:¬(n8:Int) < (n6:Int):=by omega
      have d2:decide ((n8:Int) < (n6:Int))=false:=decide_eq_false hlt8i
      go_wp2
      go_roundw
      case rel=>exact ⟨k+1,hlt,by go_num,by rw [HFS.out,zbU (by have:=HN8.out;have:=HN6.out;dsimp only;omega)];exact ⟨HA2.out,HA1.out⟩,HB2.out⟩
      case measure=>simp [intOf];omega
    ·have d1:(fx == 0)=false:=by simpa using hx
     have HX:=Lib.hid hx
     clear hx
     go_wp2_with (go_at_call 107;refine HFK.out.mono ?_;rintro e w2 ⟨v2,rfl,hv2,hb2⟩;have HB2:=Lib.hid (za HBW.out hb2);have HA2:=Lib.hid (IsB.below HA.out hb2);clear hv2 hb2)
     go_roundw
     case rel=>exact ⟨k+1,hlt,by go_num,by rw [HFS.out,zbu HX.out];exact ⟨HA2.out,HA1.out⟩,HB2.out⟩
     case measure=>simp [intOf];omega
  ·obtain rfl:k=N:=by omega
   have hlti:¬(k:Int) < (k:Int):=by omega
   rcases o with _ | a
   ·obtain rfl:_=Value.slice none 0 0:=hbest
    have hnil:=zja
    go_wp2
    go_ret2
    rw [←HO.out]
    exact RetE.nil _ HBW.out
   ·obtain ⟨ha,ha1⟩:=hbest
    obtain ⟨A6,n6,c6,rfl⟩:=IsV.shape (f:=bv) ha
    have hp6:=IsV.parts (f:=bv) (show IsV bv a _ _ from ha)
    have hn61:1≤n6:=by rw [←hp6.1];exact ha1
    have hAs:∃ ad,A6=some ad:=by
     cases A6 with
     | none=>have:=hp6.2.1 rfl;omega
     | some ad=>exact ⟨ad,rfl⟩
    obtain ⟨ad6,rfl⟩:=hAs
    have hnil:=fun W=>zjb ad6 n6 c6 W
    have HA:=Lib.hid ha
    clear ha ha1 hp6
    go_wp2
    go_ret2
    rw [←HO.out]
    exact ⟨_,rfl,HA.out,HBW.out⟩
theorem zlX (l:List Int) (v:Value) (s:Bool) (w:World) (ht:WTab w) (hv:IsV iv l v w) (hl:∀ x∈l,inInt x) (hb:l.length≤1000000) :
  Calls Tryz.prog 128 #[v,.bool s] w (RetE w (upat l s)):=by
 obtain ⟨A,n,c,rfl⟩:=hv.shape
 obtain ⟨v,hv0⟩:∃ v,v=Value.slice A n c:=⟨_,rfl⟩
 rw [←hv0] at hv
 obtain ⟨w1,hw1⟩:∃ w1,w1=(w.alloc (.cells #[v] 47)).alloc (.cells #[.bool s] 4):=⟨_,rfl⟩
 have hb1:Below w.heap.size w w1:=by rw [hw1];exact ((Below.refl _ _).alloc (Nat.le_refl _) _).alloc (by simp) _
 have r1:Row w1 w.heap.size 47 [v]:=by
  have h0:Row (w.alloc (.cells #[v] 47)) w.heap.size 47 [v]:=heap_alloc_new w _
  rw [hw1];exact h0.alloc _
 have r2:Row w1 (w.heap.size+1) 4 [.bool s]:=by
  rw [hw1]
  have h0:=heap_alloc_new (w.alloc (.cells #[v] 47)) (.cells #[.bool s] 4)
  rw [show (w.alloc (.cells #[v] 47)).heap.size=w.heap.size+1 by simp] at h0
  exact h0
 have HS:=Lib.hid (zjc 31 (fun c:Nat=>zcx l (wof (c:Int)) s) w.heap.size (w.heap.size+1) w1 (by omega)
  (fun k W hk hW=>zoj k hk _ _ l v s W (ht.below (za hb1 hW) ht.lt) (hv.below (za hb1 hW)) hl hb (r1.below hW r1.lt) (r2.below hW r2.lt))
  (fun k hk h0=>Nat.pos_of_ne_zero (zhq h0)))
 have HE:=Lib.hid (show uans (((List.range 31).map fun c:Nat=>zcx l (wof (c:Int)) s).foldl zbt none)=upat l s from rfl)
 rw [HE.out,show ((31:Nat):Int)=31 from rfl] at HS
 have HB:=Lib.hid hb1
 rw [hw1,hv0] at HS HB
 clear ht hv hl hb r1 r2 hw1 hb1
 go_enter Tryz.func128,Tryz.ntmps128
 go_wp2_with (go_at_call 106;refine HS.out.mono ?_;rintro e w2 ⟨v2,rfl,hv2,hb2⟩;have HV2:=Lib.hid hv2;have HB2:=Lib.hid (za HB.out hb2);clear hv2 hb2)
 go_ret2
 exact ⟨_,rfl,HV2.out,HB2.out⟩
theorem zsY (p6 p2 p3 g:Nat) (l:List Int) (v:Value) (s:Bool) (w:World) (ht:WTab w) (hv:IsV iv l v w) (hl:∀ x∈l,inInt x) (hb:l.length≤1000000)
  (h6:Row w p6 139 [.slice (some ⟨g,0,none⟩) 4 4]) (h2:Row w p2 47 [v]) (h3:Row w p3 4 [.bool s]) (hg:Row w g 143 ukcells) :
  Calls Tryz.prog 107 #[.int .i64 0,.pointer (some ⟨p6,0,none⟩),.pointer (some ⟨p2,0,none⟩),.pointer (some ⟨p3,0,none⟩)] w (RetE w (urep l s)):=by
 have HT:=Lib.hid ht
 have HV:=Lib.hid hv
 have HPR:=Lib.hid (fun W (h:IsV iv l v W) (ht:WTab W)=>zlW l v s W h hl hb)
 have HC6:=Lib.hid (show w.cell? ⟨p6,0,none⟩=some (.slice (some ⟨g,0,none⟩) 4 4) from h6.cell 0)
 have HC2:=Lib.hid (show w.cell? ⟨p2,0,none⟩=some v from h2.cell 0)
 have HC3:=Lib.hid (show w.cell? ⟨p3,0,none⟩=some (.bool s) from h3.cell 0)
 have HF:=Lib.hid (show w.cell? ⟨g,1,none⟩=some (.func (.func 122) #[] #[]) from hg.cell 1)
 have HL6:=Lib.hid h6.lt
 have HL2:=Lib.hid h2.lt
 have HL3:=Lib.hid h3.lt
 have HLG:=Lib.hid hg.lt
 obtain ⟨pl,px,hE⟩:∃ pl px,urep l s=(pl,px):=⟨_,_,rfl⟩
 rw [hE] at HPR
 have HE:=Lib.hid hE
 clear ht hv hl hb h6 h2 h3 hg hE
 go_enter Tryz.func107,Tryz.ntmps107
 go_wp2_with fail
 refine wp_region_list [.is (.slice (some ⟨g,0,none⟩) 4 4),.is (.int .i64 0),.is (.pointer (some ⟨g,0,none⟩)),.is (.pointer (some ⟨g,1,none⟩)),.is (.func (.func 122) #[] #[]),.is (v),.is (.bool s),.putE (pl) (px),.bytes (pl),.is (.int .i64 px),.bytes (pl),.is (.int .i64 px)] [some 7,some 8,some 9,some 10,some 11,some 12,some 13,some 14,some 15,some 16,some 5,some 6] (by kernel_rfl) (by kernel_rfl) (by kernel_rfl) rfl ⟨?_,?_,?_,?_,?_,?_,?_,?_,?_,?_,?_,?_,trivial⟩ ?_
 ·intro ρ W1 hb1 H
  exact ze rfl (H.old 1 _ (by kernel_rfl) rfl) Tryz.underlying139 rfl ((hb1.cell HL6.out).trans HC6.out) ⟨rfl,Below.refl _ _⟩
 ·intro ρ W1 hb1 H
  exact zd rfl (H.old 0 _ (by kernel_rfl) rfl) ⟨rfl,Below.refl _ _⟩
 ·intro ρ W1 hb1 H
  exact zc7 (k:=0) zrM rfl (H.new 7 0 (by kernel_rfl)) (H.new 8 1 (by kernel_rfl)) (by omega) ⟨congrArg (fun q=>Value.pointer (some q)) (by simp [Addr.add]),Below.refl _ _⟩
 ·intro ρ W1 hb1 H
  exact zj rfl (H.new 9 2 (by kernel_rfl)) (fun W=>zgr 0 W _) ⟨rfl,Below.refl _ _⟩
 ·intro ρ W1 hb1 H
  exact ze rfl (H.new 10 3 (by kernel_rfl)) Tryz.underlying50 rfl ((hb1.cell HLG.out).trans HF.out) ⟨rfl,Below.refl _ _⟩
 ·intro ρ W1 hb1 H
  exact ze rfl (H.old 2 _ (by kernel_rfl) rfl) Tryz.underlying47 rfl ((hb1.cell HL2.out).trans HC2.out) ⟨rfl,Below.refl _ _⟩
 ·intro ρ W1 hb1 H
  exact ze rfl (H.old 3 _ (by kernel_rfl) rfl) Tryz.underlying4 rfl ((hb1.cell HL3.out).trans HC3.out) ⟨rfl,Below.refl _ _⟩
 ·intro ρ W1 hb1 H
  have e0:ρ (.tmp 12)=v:=H.new 12 5 (by kernel_rfl)
  have e1:ρ (.tmp 13)=.bool s:=H.new 13 6 (by kernel_rfl)
  refine zdR rfl (fun _ _=>by kernel_rfl) (H.new 11 4 (by kernel_rfl)) (args:=#[v,.bool s]) (by simp [e0,e1]) ?_
  exact (HPR.out W1 (HV.out.below hb1) (HT.out.below hb1 HT.out.lt)).mono fun e w' ⟨b,h1,h2,h3⟩=>⟨_,h1,⟨b,rfl,h2⟩,h3⟩
 ·intro ρ W1 hb1 H
  obtain ⟨b,h1,h2⟩:=(show ∃ b,ρ (.tmp 14)=.tuple #[b,.int .i64 px]∧IsB pl b W1 from H.new 14 7 (by kernel_rfl))
  exact zg rfl h1 rfl ⟨h2,Below.refl _ _⟩
 ·intro ρ W1 hb1 H
  obtain ⟨b,h1,h2⟩:=(show ∃ b,ρ (.tmp 14)=.tuple #[b,.int .i64 px]∧IsB pl b W1 from H.new 14 7 (by kernel_rfl))
  exact zg rfl h1 rfl ⟨rfl,Below.refl _ _⟩
 ·intro ρ W1 hb1 H
  exact zf rfl rfl ⟨H.new 15 8 (by kernel_rfl),Below.refl _ _⟩
 ·intro ρ W1 hb1 H
  exact zf rfl (H.new 16 9 (by kernel_rfl)) ⟨rfl,Below.refl _ _⟩
 ·intro vs W1 hb1 hfs
  have f10:IsB (pl) (vs 10) W1:=hfs 10 (by decide)
  have f11:vs 11=.int .i64 px:=hfs 11 (by decide)
  clear hfs
  simp only [zr,Nat.zero_add,Nat.reduceAdd]
  generalize vs 0=z0
  generalize vs 1=z1
  generalize vs 2=z2
  generalize vs 3=z3
  generalize vs 4=z4
  generalize vs 5=z5
  generalize vs 6=z6
  generalize vs 7=z7
  generalize vs 8=z8
  generalize vs 9=z9
  generalize vs 10=z10 at f10 ⊢
  simp only [f11,Act.put,List.setIfInBounds_toArray,List.set_cons_succ,List.set_cons_zero]
  clear f11
  have HB:=Lib.hid f10
  have HW:=Lib.hid hb1
  clear f10 hb1
  go_wp2
  go_ret2
  rw [HE.out]
  exact ⟨_,rfl,HB.out,HW.out⟩
theorem zsZ (p6 p2 p3 g:Nat) (l:List Int) (v:Value) (s:Bool) (w:World) (ht:WTab w) (hv:IsV iv l v w) (hl:∀ x∈l,inInt x) (hb:l.length≤1000000)
  (h6:Row w p6 139 [.slice (some ⟨g,0,none⟩) 4 4]) (h2:Row w p2 47 [v]) (h3:Row w p3 4 [.bool s]) (hg:Row w g 143 ukcells) :
  Calls Tryz.prog 107 #[.int .i64 1,.pointer (some ⟨p6,0,none⟩),.pointer (some ⟨p2,0,none⟩),.pointer (some ⟨p3,0,none⟩)] w (RetE w (zdH l s)):=by
 have HT:=Lib.hid ht
 have HV:=Lib.hid hv
 have HPD:=Lib.hid (fun W (h:IsV iv l v W) (ht:WTab W)=>zrb l v s W ht h hl hb)
 have HC6:=Lib.hid (show w.cell? ⟨p6,0,none⟩=some (.slice (some ⟨g,0,none⟩) 4 4) from h6.cell 0)
 have HC2:=Lib.hid (show w.cell? ⟨p2,0,none⟩=some v from h2.cell 0)
 have HC3:=Lib.hid (show w.cell? ⟨p3,0,none⟩=some (.bool s) from h3.cell 0)
 have HF:=Lib.hid (show w.cell? ⟨g,4,none⟩=some (.func (.func 124) #[] #[]) from hg.cell 4)
 have HL6:=Lib.hid h6.lt
 have HL2:=Lib.hid h2.lt
 have HL3:=Lib.hid h3.lt
 have HLG:=Lib.hid hg.lt
 obtain ⟨pl,px,hE⟩:∃ pl px,zdH l s=(pl,px):=⟨_,_,rfl⟩
 rw [hE] at HPD
 have HE:=Lib.hid hE
 clear ht hv hl hb h6 h2 h3 hg hE
 go_enter Tryz.func107,Tryz.ntmps107
 go_wp2_with fail
 refine wp_region_list [.is (.slice (some ⟨g,0,none⟩) 4 4),.is (.int .i64 1),.is (.pointer (some ⟨g,3,none⟩)),.is (.pointer (some ⟨g,4,none⟩)),.is (.func (.func 124) #[] #[]),.is (v),.is (.bool s),.putE (pl) (px),.bytes (pl),.is (.int .i64 px),.bytes (pl),.is (.int .i64 px)] [some 7,some 8,some 9,some 10,some 11,some 12,some 13,some 14,some 15,some 16,some 5,some 6] (by kernel_rfl) (by kernel_rfl) (by kernel_rfl) rfl ⟨?_,?_,?_,?_,?_,?_,?_,?_,?_,?_,?_,?_,trivial⟩ ?_
 ·intro ρ W1 hb1 H
  exact ze rfl (H.old 1 _ (by kernel_rfl) rfl) Tryz.underlying139 rfl ((hb1.cell HL6.out).trans HC6.out) ⟨rfl,Below.refl _ _⟩
 ·intro ρ W1 hb1 H
  exact zd rfl (H.old 0 _ (by kernel_rfl) rfl) ⟨rfl,Below.refl _ _⟩
 ·intro ρ W1 hb1 H
  exact zc7 (k:=1) zrM rfl (H.new 7 0 (by kernel_rfl)) (H.new 8 1 (by kernel_rfl)) (by omega) ⟨congrArg (fun q=>Value.pointer (some q)) (by simp [Addr.add]),Below.refl _ _⟩
 ·intro ρ W1 hb1 H
  exact zj rfl (H.new 9 2 (by kernel_rfl)) (fun W=>zgr 3 W _) ⟨rfl,Below.refl _ _⟩
 ·intro ρ W1 hb1 H
  exact ze rfl (H.new 10 3 (by kernel_rfl)) Tryz.underlying50 rfl ((hb1.cell HLG.out).trans HF.out) ⟨rfl,Below.refl _ _⟩
 ·intro ρ W1 hb1 H
  exact ze rfl (H.old 2 _ (by kernel_rfl) rfl) Tryz.underlying47 rfl ((hb1.cell HL2.out).trans HC2.out) ⟨rfl,Below.refl _ _⟩
 ·intro ρ W1 hb1 H
  exact ze rfl (H.old 3 _ (by kernel_rfl) rfl) Tryz.underlying4 rfl ((hb1.cell HL3.out).trans HC3.out) ⟨rfl,Below.refl _ _⟩
 ·intro ρ W1 hb1 H
  have e0:ρ (.tmp 12)=v:=H.new 12 5 (by kernel_rfl)
  have e1:ρ (.tmp 13)=.bool s:=H.new 13 6 (by kernel_rfl)
  refine zdR rfl (fun _ _=>by kernel_rfl) (H.new 11 4 (by kernel_rfl)) (args:=#[v,.bool s]) (by simp [e0,e1]) ?_
  exact (HPD.out W1 (HV.out.below hb1) (HT.out.below hb1 HT.out.lt)).mono fun e w' ⟨b,h1,h2,h3⟩=>⟨_,h1,⟨b,rfl,h2⟩,h3⟩
 ·intro ρ W1 hb1 H
  obtain ⟨b,h1,h2⟩:=(show ∃ b,ρ (.tmp 14)=.tuple #[b,.int .i64 px]∧IsB pl b W1 from H.new 14 7 (by kernel_rfl))
  exact zg rfl h1 rfl ⟨h2,Below.refl _ _⟩
 ·intro ρ W1 hb1 H
  obtain ⟨b,h1,h2⟩:=(show ∃ b,ρ (.tmp 14)=.tuple #[b,.int .i64 px]∧IsB pl b W1 from H.new 14 7 (by kernel_rfl))
  exact zg rfl h1 rfl ⟨rfl,Below.refl _ _⟩
 ·intro ρ W1 hb1 H
  exact zf rfl rfl ⟨H.new 15 8 (by kernel_rfl),Below.refl _ _⟩
 ·intro ρ W1 hb1 H
  exact zf rfl (H.new 16 9 (by kernel_rfl)) ⟨rfl,Below.refl _ _⟩
 ·intro vs W1 hb1 hfs
  have f10:IsB (pl) (vs 10) W1:=hfs 10 (by decide)
  have f11:vs 11=.int .i64 px:=hfs 11 (by decide)
  clear hfs
  simp only [zr,Nat.zero_add,Nat.reduceAdd]
  generalize vs 0=z0
  generalize vs 1=z1
  generalize vs 2=z2
  generalize vs 3=z3
  generalize vs 4=z4
  generalize vs 5=z5
  generalize vs 6=z6
  generalize vs 7=z7
  generalize vs 8=z8
  generalize vs 9=z9
  generalize vs 10=z10 at f10 ⊢
  simp only [f11,Act.put,List.setIfInBounds_toArray,List.set_cons_succ,List.set_cons_zero]
  clear f11
  have HB:=Lib.hid f10
  have HW:=Lib.hid hb1
  clear f10 hb1
  go_wp2
  go_ret2
  rw [HE.out]
  exact ⟨_,rfl,HB.out,HW.out⟩
theorem zs0 (p6 p2 p3 g:Nat) (l:List Int) (v:Value) (s:Bool) (w:World) (ht:WTab w) (hv:IsV iv l v w) (hl:∀ x∈l,inInt x) (hb:l.length≤1000000)
  (h6:Row w p6 139 [.slice (some ⟨g,0,none⟩) 4 4]) (h2:Row w p2 47 [v]) (h3:Row w p3 4 [.bool s]) (hg:Row w g 143 ukcells) :
  Calls Tryz.prog 107 #[.int .i64 2,.pointer (some ⟨p6,0,none⟩),.pointer (some ⟨p2,0,none⟩),.pointer (some ⟨p3,0,none⟩)] w (RetE w (zd9 l s)):=by
 have HT:=Lib.hid ht
 have HV:=Lib.hid hv
 have HPG:=Lib.hid (fun W (h:IsV iv l v W) (ht:WTab W)=>zrl l v s W ht h hl hb)
 have HC6:=Lib.hid (show w.cell? ⟨p6,0,none⟩=some (.slice (some ⟨g,0,none⟩) 4 4) from h6.cell 0)
 have HC2:=Lib.hid (show w.cell? ⟨p2,0,none⟩=some v from h2.cell 0)
 have HC3:=Lib.hid (show w.cell? ⟨p3,0,none⟩=some (.bool s) from h3.cell 0)
 have HF:=Lib.hid (show w.cell? ⟨g,7,none⟩=some (.func (.func 126) #[] #[]) from hg.cell 7)
 have HL6:=Lib.hid h6.lt
 have HL2:=Lib.hid h2.lt
 have HL3:=Lib.hid h3.lt
 have HLG:=Lib.hid hg.lt
 obtain ⟨pl,px,hE⟩:∃ pl px,zd9 l s=(pl,px):=⟨_,_,rfl⟩
 rw [hE] at HPG
 have HE:=Lib.hid hE
 clear ht hv hl hb h6 h2 h3 hg hE
 go_enter Tryz.func107,Tryz.ntmps107
 go_wp2_with fail
 refine wp_region_list [.is (.slice (some ⟨g,0,none⟩) 4 4),.is (.int .i64 2),.is (.pointer (some ⟨g,6,none⟩)),.is (.pointer (some ⟨g,7,none⟩)),.is (.func (.func 126) #[] #[]),.is (v),.is (.bool s),.putE (pl) (px),.bytes (pl),.is (.int .i64 px),.bytes (pl),.is (.int .i64 px)] [some 7,some 8,some 9,some 10,some 11,some 12,some 13,some 14,some 15,some 16,some 5,some 6] (by kernel_rfl) (by kernel_rfl) (by kernel_rfl) rfl ⟨?_,?_,?_,?_,?_,?_,?_,?_,?_,?_,?_,?_,trivial⟩ ?_
 ·intro ρ W1 hb1 H
  exact ze rfl (H.old 1 _ (by kernel_rfl) rfl) Tryz.underlying139 rfl ((hb1.cell HL6.out).trans HC6.out) ⟨rfl,Below.refl _ _⟩
 ·intro ρ W1 hb1 H
  exact zd rfl (H.old 0 _ (by kernel_rfl) rfl) ⟨rfl,Below.refl _ _⟩
 ·intro ρ W1 hb1 H
  exact zc7 (k:=2) zrM rfl (H.new 7 0 (by kernel_rfl)) (H.new 8 1 (by kernel_rfl)) (by omega) ⟨congrArg (fun q=>Value.pointer (some q)) (by simp [Addr.add]),Below.refl _ _⟩
 ·intro ρ W1 hb1 H
  exact zj rfl (H.new 9 2 (by kernel_rfl)) (fun W=>zgr 6 W _) ⟨rfl,Below.refl _ _⟩
 ·intro ρ W1 hb1 H
  exact ze rfl (H.new 10 3 (by kernel_rfl)) Tryz.underlying50 rfl ((hb1.cell HLG.out).trans HF.out) ⟨rfl,Below.refl _ _⟩
 ·intro ρ W1 hb1 H
  exact ze rfl (H.old 2 _ (by kernel_rfl) rfl) Tryz.underlying47 rfl ((hb1.cell HL2.out).trans HC2.out) ⟨rfl,Below.refl _ _⟩
 ·intro ρ W1 hb1 H
  exact ze rfl (H.old 3 _ (by kernel_rfl) rfl) Tryz.underlying4 rfl ((hb1.cell HL3.out).trans HC3.out) ⟨rfl,Below.refl _ _⟩
 ·intro ρ W1 hb1 H
  have e0:ρ (.tmp 12)=v:=H.new 12 5 (by kernel_rfl)
  have e1:ρ (.tmp 13)=.bool s:=H.new 13 6 (by kernel_rfl)
  refine zdR rfl (fun _ _=>by kernel_rfl) (H.new 11 4 (by kernel_rfl)) (args:=#[v,.bool s]) (by simp [e0,e1]) ?_
  exact (HPG.out W1 (HV.out.below hb1) (HT.out.below hb1 HT.out.lt)).mono fun e w' ⟨b,h1,h2,h3⟩=>⟨_,h1,⟨b,rfl,h2⟩,h3⟩
 ·intro ρ W1 hb1 H
  obtain ⟨b,h1,h2⟩:=(show ∃ b,ρ (.tmp 14)=.tuple #[b,.int .i64 px]∧IsB pl b W1 from H.new 14 7 (by kernel_rfl))
  exact zg rfl h1 rfl ⟨h2,Below.refl _ _⟩
 ·intro ρ W1 hb1 H
  obtain ⟨b,h1,h2⟩:=(show ∃ b,ρ (.tmp 14)=.tuple #[b,.int .i64 px]∧IsB pl b W1 from H.new 14 7 (by kernel_rfl))
  exact zg rfl h1 rfl ⟨rfl,Below.refl _ _⟩
 ·intro ρ W1 hb1 H
  exact zf rfl rfl ⟨H.new 15 8 (by kernel_rfl),Below.refl _ _⟩
 ·intro ρ W1 hb1 H
  exact zf rfl (H.new 16 9 (by kernel_rfl)) ⟨rfl,Below.refl _ _⟩
 ·intro vs W1 hb1 hfs
  have f10:IsB (pl) (vs 10) W1:=hfs 10 (by decide)
  have f11:vs 11=.int .i64 px:=hfs 11 (by decide)
  clear hfs
  simp only [zr,Nat.zero_add,Nat.reduceAdd]
  generalize vs 0=z0
  generalize vs 1=z1
  generalize vs 2=z2
  generalize vs 3=z3
  generalize vs 4=z4
  generalize vs 5=z5
  generalize vs 6=z6
  generalize vs 7=z7
  generalize vs 8=z8
  generalize vs 9=z9
  generalize vs 10=z10 at f10 ⊢
  simp only [f11,Act.put,List.setIfInBounds_toArray,List.set_cons_succ,List.set_cons_zero]
  clear f11
  have HB:=Lib.hid f10
  have HW:=Lib.hid hb1
  clear f10 hb1
  go_wp2
  go_ret2
  rw [HE.out]
  exact ⟨_,rfl,HB.out,HW.out⟩
theorem zs1 (p6 p2 p3 g:Nat) (l:List Int) (v:Value) (s:Bool) (w:World) (ht:WTab w) (hv:IsV iv l v w) (hl:∀ x∈l,inInt x) (hb:l.length≤1000000)
  (h6:Row w p6 139 [.slice (some ⟨g,0,none⟩) 4 4]) (h2:Row w p2 47 [v]) (h3:Row w p3 4 [.bool s]) (hg:Row w g 143 ukcells) :
  Calls Tryz.prog 107 #[.int .i64 3,.pointer (some ⟨p6,0,none⟩),.pointer (some ⟨p2,0,none⟩),.pointer (some ⟨p3,0,none⟩)] w (RetE w (upat l s)):=by
 have HT:=Lib.hid ht
 have HV:=Lib.hid hv
 have HPP:=Lib.hid (fun W (h:IsV iv l v W) (ht:WTab W)=>zlX l v s W ht h hl hb)
 have HC6:=Lib.hid (show w.cell? ⟨p6,0,none⟩=some (.slice (some ⟨g,0,none⟩) 4 4) from h6.cell 0)
 have HC2:=Lib.hid (show w.cell? ⟨p2,0,none⟩=some v from h2.cell 0)
 have HC3:=Lib.hid (show w.cell? ⟨p3,0,none⟩=some (.bool s) from h3.cell 0)
 have HF:=Lib.hid (show w.cell? ⟨g,10,none⟩=some (.func (.func 128) #[] #[]) from hg.cell 10)
 have HL6:=Lib.hid h6.lt
 have HL2:=Lib.hid h2.lt
 have HL3:=Lib.hid h3.lt
 have HLG:=Lib.hid hg.lt
 obtain ⟨pl,px,hE⟩:∃ pl px,upat l s=(pl,px):=⟨_,_,rfl⟩
 rw [hE] at HPP
 have HE:=Lib.hid hE
 clear ht hv hl hb h6 h2 h3 hg hE
 go_enter Tryz.func107,Tryz.ntmps107
 go_wp2_with fail
 refine wp_region_list [.is (.slice (some ⟨g,0,none⟩) 4 4),.is (.int .i64 3),.is (.pointer (some ⟨g,9,none⟩)),.is (.pointer (some ⟨g,10,none⟩)),.is (.func (.func 128) #[] #[]),.is (v),.is (.bool s),.putE (pl) (px),.bytes (pl),.is (.int .i64 px),.bytes (pl),.is (.int .i64 px)] [some 7,some 8,some 9,some 10,some 11,some 12,some 13,some 14,some 15,some 16,some 5,some 6] (by kernel_rfl) (by kernel_rfl) (by kernel_rfl) rfl ⟨?_,?_,?_,?_,?_,?_,?_,?_,?_,?_,?_,?_,trivial⟩ ?_
 ·intro ρ W1 hb1 H
  exact ze rfl (H.old 1 _ (by kernel_rfl) rfl) Tryz.underlying139 rfl ((hb1.cell HL6.out).trans HC6.out) ⟨rfl,Below.refl _ _⟩
 ·intro ρ W1 hb1 H
  exact zd rfl (H.old 0 _ (by kernel_rfl) rfl) ⟨rfl,Below.refl _ _⟩
 ·intro ρ W1 hb1 H
  exact zc7 (k:=3) zrM rfl (H.new 7 0 (by kernel_rfl)) (H.new 8 1 (by kernel_rfl)) (by omega) ⟨congrArg (fun q=>Value.pointer (some q)) (by simp [Addr.add]),Below.refl _ _⟩
 ·intro ρ W1 hb1 H
  exact zj rfl (H.new 9 2 (by kernel_rfl)) (fun W=>zgr 9 W _) ⟨rfl,Below.refl _ _⟩
 ·intro ρ W1 hb1 H
  exact ze rfl (H.new 10 3 (by kernel_rfl)) Tryz.underlying50 rfl ((hb1.cell HLG.out).trans HF.out) ⟨rfl,Below.refl _ _⟩
 ·intro ρ W1 hb1 H
  exact ze rfl (H.old 2 _ (by kernel_rfl) rfl) Tryz.underlying47 rfl ((hb1.cell HL2.out).trans HC2.out) ⟨rfl,Below.refl _ _⟩
 ·intro ρ W1 hb1 H
  exact ze rfl (H.old 3 _ (by kernel_rfl) rfl) Tryz.underlying4 rfl ((hb1.cell HL3.out).trans HC3.out) ⟨rfl,Below.refl _ _⟩
 ·intro ρ W1 hb1 H
  have e0:ρ (.tmp 12)=v:=H.new 12 5 (by kernel_rfl)
  have e1:ρ (.tmp 13)=.bool s:=H.new 13 6 (by kernel_rfl)
  refine zdR rfl (fun _ _=>by kernel_rfl) (H.new 11 4 (by kernel_rfl)) (args:=#[v,.bool s]) (by simp [e0,e1]) ?_
  exact (HPP.out W1 (HV.out.below hb1) (HT.out.below hb1 HT.out.lt)).mono fun e w' ⟨b,h1,h2,h3⟩=>⟨_,h1,⟨b,rfl,h2⟩,h3⟩
 ·intro ρ W1 hb1 H
  obtain ⟨b,h1,h2⟩:=(show ∃ b,ρ (.tmp 14)=.tuple #[b,.int .i64 px]∧IsB pl b W1 from H.new 14 7 (by kernel_rfl))
  exact zg rfl h1 rfl ⟨h2,Below.refl _ _⟩
 ·intro ρ W1 hb1 H
  obtain ⟨b,h1,h2⟩:=(show ∃ b,ρ (.tmp 14)=.tuple #[b,.int .i64 px]∧IsB pl b W1 from H.new 14 7 (by kernel_rfl))
  exact zg rfl h1 rfl ⟨rfl,Below.refl _ _⟩
 ·intro ρ W1 hb1 H
  exact zf rfl rfl ⟨H.new 15 8 (by kernel_rfl),Below.refl _ _⟩
 ·intro ρ W1 hb1 H
  exact zf rfl (H.new 16 9 (by kernel_rfl)) ⟨rfl,Below.refl _ _⟩
 ·intro vs W1 hb1 hfs
  have f10:IsB (pl) (vs 10) W1:=hfs 10 (by decide)
  have f11:vs 11=.int .i64 px:=hfs 11 (by decide)
  clear hfs
  simp only [zr,Nat.zero_add,Nat.reduceAdd]
  generalize vs 0=z0
  generalize vs 1=z1
  generalize vs 2=z2
  generalize vs 3=z3
  generalize vs 4=z4
  generalize vs 5=z5
  generalize vs 6=z6
  generalize vs 7=z7
  generalize vs 8=z8
  generalize vs 9=z9
  generalize vs 10=z10 at f10 ⊢
  simp only [f11,Act.put,List.setIfInBounds_toArray,List.set_cons_succ,List.set_cons_zero]
  clear f11
  have HB:=Lib.hid f10
  have HW:=Lib.hid hb1
  clear f10 hb1
  go_wp2
  go_ret2
  rw [HE.out]
  exact ⟨_,rfl,HB.out,HW.out⟩
theorem zrO (l:List Int) (v:Value) (s:Bool) (w:World) (ht:WTab w) (hv:IsV iv l v w) (hl:∀ x∈l,inInt x) (hb:l.length≤1000000):Calls Tryz.prog 71 #[v,.bool s] w (RetE w (zcX l s)):=by
 obtain ⟨A,n,c,rfl⟩:=hv.shape
 obtain ⟨v,hv0⟩:∃ v,v=Value.slice A n c:=⟨_,rfl⟩
 rw [←hv0] at hv
 obtain ⟨w1,hw1⟩:∃ w1,w1=(w.alloc (.cells #[v] 47)).alloc (.cells #[.bool s] 4):=⟨_,rfl⟩
 have hb1:Below w.heap.size w w1:=by rw [hw1];exact ((Below.refl _ _).alloc (Nat.le_refl _) _).alloc (by simp) _
 have r2:Row w1 w.heap.size 47 [v]:=by
  have h0:Row (w.alloc (.cells #[v] 47)) w.heap.size 47 [v]:=heap_alloc_new w _
  rw [hw1];exact h0.alloc _
 have r3:Row w1 (w.heap.size+1) 4 [.bool s]:=by
  rw [hw1]
  have h0:=heap_alloc_new (w.alloc (.cells #[v] 47)) (.cells #[.bool s] 4)
  rw [show (w.alloc (.cells #[v] 47)).heap.size=w.heap.size+1 by simp] at h0
  exact h0
 have hz1:w1.heap.size=w.heap.size+2:=by rw [hw1];simp
 obtain ⟨w2,hw2⟩:∃ w2,w2=w1.alloc (.cells ukcells.toArray 143):=⟨_,rfl⟩
 have rg:Row w2 w1.heap.size 143 ukcells:=by rw [hw2];exact heap_alloc_new w1 _
 have hz2:w2.heap.size=w.heap.size+3:=by rw [hw2];simp [hz1]
 have HKI:=Lib.hid (show Calls Tryz.prog 105 #[] w1 fun e w'=>e=.returned (.slice (some ⟨w1.heap.size,0,none⟩) 4 4)∧w'=w2 from (zkI w1).mono fun e w' ⟨h1,h2⟩=>⟨h1,by rw [h2,hw2]⟩)
 obtain ⟨w3,hw3⟩:∃ w3,w3=w2.alloc (.cells #[.slice (some ⟨w1.heap.size,0,none⟩) 4 4] 139):=⟨_,rfl⟩
 have r6:Row w3 w2.heap.size 139 [.slice (some ⟨w1.heap.size,0,none⟩) 4 4]:=by rw [hw3];exact heap_alloc_new w2 _
 have hb2:Below w1.heap.size w1 w2:=by rw [hw2];exact (Below.refl _ _).alloc (Nat.le_refl _) _
 have hb3:Below w2.heap.size w2 w3:=by rw [hw3];exact (Below.refl _ _).alloc (Nat.le_refl _) _
 have hb13:=za hb2 hb3
 have hbA:=za hb1 hb13
 have q2:=r2.below hb13 r2.lt
 have q3:=r3.below hb13 r3.lt
 have qg:=rg.below hb3 rg.lt
 have HS:=Lib.hid (zjd 4 (fun k=>(zdX l s).getD k ([],1)) w2.heap.size w.heap.size (w.heap.size+1) w3 (by omega)
  (fun k W hk hW=>by
   have t1:=ht.below (za hbA hW) ht.lt
   have t2:=hv.below (za hbA hW)
   have t6:=r6.below hW r6.lt
   have t3:=q2.below hW q2.lt
   have t4:=q3.below hW q3.lt
   have t5:=qg.below hW qg.lt
   rcases (by omega:k=0∨k=1∨k=2∨k=3) with rfl | rfl | rfl | rfl
   ·exact zsY _ _ _ _ l v s W t1 t2 hl hb t6 t3 t4 t5
   ·exact zsZ _ _ _ _ l v s W t1 t2 hl hb t6 t3 t4 t5
   ·exact zs0 _ _ _ _ l v s W t1 t2 hl hb t6 t3 t4 t5
   ·exact zs1 _ _ _ _ l v s W t1 t2 hl hb t6 t3 t4 t5)
  (fun k hk h0=>by
   have hmem:(zdX l s).getD k ([],1)∈zdX l s:=by
    unfold zdX
    rcases (by omega:k=0∨k=1∨k=2∨k=3) with rfl | rfl | rfl | rfl <;> simp
   exact Nat.pos_of_ne_zero (zoh _ hmem h0)))
 have HE:=Lib.hid (show uans (((List.range 4).map fun k=>(zdX l s).getD k ([],1)).foldl zbt none)=zcX l s by rw [zoi];rfl)
 rw [HE.out,show ((4:Nat):Int)=4 from rfl,hz2] at HS
 have HB:=Lib.hid hbA
 rw [hw3,hz1] at HS HB
 rw [hz1,hw1,hv0] at HKI
 clear ht hv hl hb r2 r3 rg r6 hb1 hb2 hb3 hb13 hbA q2 q3 qg hw2 hw3
 go_enter Tryz.func71,Tryz.ntmps71
 go_wp2_with (first | (go_at_call 105;refine HKI.out.mono ?_;rintro e w' ⟨rfl,rfl⟩) | (go_at_call 106;refine HS.out.mono ?_;rintro e w4 ⟨v4,rfl,hv4,hb4⟩;have HV4:=Lib.hid hv4;have HB4:=Lib.hid (za HB.out hb4);clear hv4 hb4))
 go_ret2
 exact ⟨_,rfl,HV4.out,HB4.out⟩
theorem zkJ (l:List UInt8) (v:Value) (s:Bool) (w:World) (hv:IsB l v w) (hb:l.length≤1000000) :
  Calls Tryz.prog 123 #[v,.bool s] w (RetIB w (List.replicate (zC l s).2.1.toNat (zC l s).1,(zC l s).2.2.1,(zC l s).2.2.2)):=by
 have HT:=Lib.hid (zpY l v s w hv hb)
 have hbd:=zi7 (b:=l) (s:=s)
 have hno:=zmU (b:=l) (s:=s)
 obtain ⟨x,t,r,e,he⟩:∃ x t r e,zC l s=(x,t,r,e):=⟨_,_,_,_,rfl⟩
 rw [he] at HT hbd hno ⊢
 dsimp only at hbd hno ⊢
 by_cases h0:e=0
 ·subst h0
  obtain ⟨h3,h10,-⟩:=hbd rfl
  obtain ⟨m,rfl⟩:=Int.eq_ofNat_of_zero_le (show 0≤t by omega)
  have hm3:3≤m:=by omega
  have hm10:m≤10:=by omega
  rw [show ((m:Int)).toNat=m from Int.toNat_natCast m]
  clear hv hb hno he h3 h10 hbd
  go_enter Tryz.func123,Tryz.ntmps123
  go_wp2_with fail
  refine HT.out.mono ?_
  rintro e w1 ⟨rv,rfl,hr,hb1⟩
  have HR:=Lib.hid hr.isB
  have HB:=Lib.hid hb1
  have hbA:Below w1.heap.size w1 (w1.alloc (.cells #[.int .i64 x] 3)):=(Below.refl _ _).alloc (Nat.le_refl _) _
  have HREP:=Lib.hid (zlV x w1.heap.size 1 m (w1.alloc (.cells #[.int .i64 x] 3)) (heap_alloc_new w1 _) (by omega) (by omega))
  have HBA:=Lib.hid hbA
  clear hr hb1 hbA
  go_wp2_with (go_at_call 135;refine HREP.out.mono ?_;rintro e w2 ⟨g,rfl,hg,hrow,hb2⟩)
  have hI:IsV iv (List.replicate m x) (.slice (some ⟨g,0,none⟩) m m) w2:=zcB (by rw [←zsX];exact hrow) (by rw [List.length_replicate]) (by omega)
  have HI:=Lib.hid hI
  have hb3:=za HBA.out hb2
  have HB3:=Lib.hid (za HB.out hb3)
  have HR3:=Lib.hid (IsB.below HR.out hb3)
  clear hI hrow hb2 hb3 hg
  go_wp2
  go_ret3
  exact ⟨_,_,rfl,HI.out,HR3.out,HB3.out⟩
 ·have hE:=hno h0
  injection hE with e1 hE;injection hE with e2 hE;injection hE with e3 e4
  subst e1 e2 e3 e4
  clear hv hb hno he hbd h0
  go_enter Tryz.func123,Tryz.ntmps123
  go_wp2_with fail
  refine HT.out.mono ?_
  rintro e w1 ⟨rv,rfl,hr,hb1⟩
  have HB:=Lib.hid hb1
  clear hr hb1
  go_wp2
  go_ret3
  exact RetIB.nil _ HB.out
def kb:Nat→Nat
 | 0=>0
 | 1=>1
 | 2=>3
 | _=>2
def kf (k:Nat):Value:=(kcs k).getD 1 .nilFunc
def kg (k:Nat):Value:=(kcs k).getD 2 .nilFunc
theorem zsj (k:Nat):kcs k=[.int .u8 (kb k:Int),kf k,kg k]:=by
 rcases k with _ | _ | _ | k <;> rfl
theorem zqg (k:Nat):(kcs k).length=3:=by rw [zsj];rfl
theorem zqh {w:World} {ad:Addr} {k x:Nat} (h:∀ i,i < 3→w.cell? (ad.add (k*3+i))=(kcs x)[i]?) :
  w.cell? (ad.add (k*3))=some (.int .u8 (kb x:Int))∧w.cell? ⟨(ad.add (k*3)).block,(ad.add (k*3)).off+1,none⟩=some (kf x)∧w.cell? ⟨(ad.add (k*3)).block,(ad.add (k*3)).off+2,none⟩=some (kg x):=by
 have h0:=h 0 (by omega)
 have h1:=h 1 (by omega);rw [←add_add] at h1
 have h2:=h 2 (by omega);rw [←add_add] at h2
 rw [zsj] at h0 h1 h2
 exact ⟨h0,h1,h2⟩
theorem zrP (x fv gv:Value) (K:Nat) (b:Nat) (ad:Addr) (n c B q:Nat) (w:World) (hx:x=.agg #[.int .u8 (K:Int),fv,gv]) (_hf:fv.cells = #[fv]) (_hg:gv.cells = #[gv]) (hr:Row w b 38 [.slice (some ad) n c]) (hn:0 < n) (had:ad.block < w.heap.size) (hc:w.cell? ad=some (.int .u8 (B:Int))) (hq:q=B / 64) :
  Calls Tryz.prog 132 #[x,.pointer (some ⟨b,0,none⟩)] w fun e w'=>e=.returned (.bool (decide (K=q)))∧Below w.heap.size w w':=by
 subst hx
 obtain ⟨w1,hw1⟩:∃ w1,w1=w.alloc (.cells #[.int .u8 (K:Int),fv,gv] 143):=⟨_,rfl⟩
 have hb1:Below w.heap.size w w1:=by rw [hw1];exact (Below.refl _ _).alloc (Nat.le_refl _) _
 have r1:Row w1 w.heap.size 143 [.int .u8 (K:Int),fv,gv]:=by rw [hw1];exact heap_alloc_new w _
 have k1:w1.cell? ⟨w.heap.size,0,none⟩=some (.int .u8 (K:Int)):=r1.cell 0
 have r2:=hr.below hb1 hr.lt
 have k2:w1.cell? ⟨b,0,none⟩=some (.slice (some ad) n c):=r2.cell 0
 have k3:w1.cell? ad=some (.int .u8 (B:Int)):=(hb1.cell had).trans hc
 have HB:=Lib.hid hb1
 have HD:=Lib.hid (show decide (K=q)=((K:Int) == (q:Int)) by
  by_cases h:K=q
  ·rw [h];simp
  ·rw [decide_eq_false h];symm;simp;omega)
 have hn0:(0:Int) < (n:Int):=by omega
 have HQ:=Lib.hid hq
 rw [hw1] at k1 k2 k3 HB
 clear hr had hc hb1 r1 r2 hw1 hq
 go_enter Tryz.func132,Tryz.ntmps132
 go_wp2
 go_quiet (fail)
 go_wp2
 go_ret
 refine ⟨?_,below_drewN HB.out nq⟩
 rw [HD.out,show (q:Int)=(B:Int) / 64 from by have:=HQ.out;omega]
 rfl
def ztq (q:Nat) (w:World) (i:Value) (wr:World):Prop:=∃ k:Nat,k≤4∧i=.int .i64 (k:Int)∧(∀ j,j < k→kb j≠q)∧Below w.heap.size w wr
theorem zok (v:Value) (b:Nat) (ad:Addr) (n c B q:Nat) (w:World) (hv:IsR kcs (List.range 4) v w) (hr:Row w b 38 [.slice (some ad) n c]) (hn:0 < n) (had:ad.block < w.heap.size) (hc:w.cell? ad=some (.int .u8 (B:Int))) (hq:q=B / 64) (hq4:q < 4) :
  Calls Tryz.prog 131 #[v,.func (.func 132) #[] #[.pointer (some ⟨b,0,none⟩)]] w
   fun e w'=>(∃ r:Nat,e=.returned (.int .i64 (r:Int))∧r < 4∧kb r=q)∧Below w.heap.size w w':=by
 obtain ⟨A,n4,c4,rfl⟩:=hv.shape
 obtain rfl:n4=4:=by have:=hv.parts.1;simpa using this.symm
 have HV:=Lib.hid hv
 have HR:=Lib.hid hr
 have HC:=Lib.hid hc
 have HAD:=Lib.hid had
 have HQ:=Lib.hid hq
 have HS:=Lib.hid (show ztq q w (.int .i64 0) w from ⟨0,Nat.zero_le _,rfl,fun j h=>absurd h (Nat.not_lt_zero _),Below.refl _ _⟩)
 clear hv hr hc had hq
 go_enter Tryz.func131,Tryz.ntmps131
 go_wp2
 go_loopw [8] (ztq q w) (fun i _=>4 - (intOf i).toNat)
 case atStart=>exact HS.out
 case round =>
  obtain ⟨k,hk,rfl,hs,hbw⟩:=hrel
  have HSM:=Lib.hid hs
  have HB:=Lib.hid hbw
  clear hs HS
  by_cases hlt:k < 4
  ·have hkl:k < (List.range 4).length:=by simpa using hlt
   have hlti:(k:Int) < 4:=by omega
   obtain ⟨adk,rfl,hadk,hcell⟩:=(HV.out.below hbw).at (m:=3) zqg (by omega) hkl
   rw [List.getElem_range] at hcell
   obtain ⟨k1,k2,k3⟩:=zqh hcell
   obtain ⟨K,hK⟩:∃ K,K=kb k:=⟨_,rfl⟩
   obtain ⟨fv,hfv⟩:∃ fv,fv=kf k:=⟨_,rfl⟩
   obtain ⟨gv,hgv⟩:∃ gv,gv=kg k:=⟨_,rfl⟩
   rw [←hK] at k1
   rw [←hfv] at k2
   rw [←hgv] at k3
   have hf1:fv.cells = #[fv]:=by rw [hfv];rcases k with _ | _ | _ | k <;> rfl
   have hg1:gv.cells = #[gv]:=by rw [hgv];rcases k with _ | _ | _ | k <;> rfl
   have HL:=Lib.hid (zrP (.agg #[.int .u8 (K:Int),fv,gv]) fv gv K b ad n c B q wr rfl hf1 hg1 (HR.out.below hbw HR.out.lt) hn (Nat.lt_of_lt_of_le HAD.out hbw.size) ((hbw.cell HAD.out).trans HC.out) HQ.out)
   have HK:=Lib.hid hK
   obtain ⟨t,ht⟩:∃ t,t=decide (K=q):=⟨_,rfl⟩
   rw [←ht] at HL
   have HTT:=Lib.hid ht
   clear hcell hbw hK hfv hgv ht
   cases t with
   | true =>
    have HKQ:=Lib.hid (show kb k=q by have:=HTT.out;rw [←HK.out];exact of_decide_eq_true this.symm)
    go_wp2_with (go_at_call 132;refine HL.out.mono ?_;rintro e w1 ⟨rfl,hb1⟩)
    go_ret
    exact ⟨⟨_,rfl,hlt,HKQ.out⟩,za HB.out hb1⟩
   | false =>
    have HKQ:=Lib.hid (show kb k≠q by have:=HTT.out;rw [←HK.out];exact of_decide_eq_false this.symm)
    go_wp2_with (go_at_call 132;refine HL.out.mono ?_;rintro e w1 ⟨rfl,hb1⟩)
    go_roundw
    case rel=>exact ⟨k+1,hlt,by go_num,fun j hj=>(by
     by_cases h:j < k
     ·exact HSM.out j h
     ·obtain rfl:j=k:=by omega
      exact HKQ.out),za HB.out hb1⟩
    case measure=>simp [intOf];omega
  ·exfalso
   obtain rfl:k=4:=by omega
   have h0:=HSM.out 0 (by omega)
   have h1:=HSM.out 1 (by omega)
   have h2:=HSM.out 2 (by omega)
   have h3:=HSM.out 3 (by omega)
   simp only [kb] at h0 h1 h2 h3
   omega
def ztr (l:List UInt8) (v:Value) (w:World) (p:List Int × List UInt8 × Int) (e:Ending) (w':World):Prop:=
 (p.2.2≠0∧e=.returned (.tuple #[.slice none 0 0,.slice none 0 0,.bool false])∧Below w.heap.size w w') ∨
 (p.2.2=0∧∃ u r,e=.returned (.tuple #[u,r,.bool true])∧IsV iv p.1 u w'∧(∀ W,IsB l v W→IsB p.2.1 r W)∧Below w.heap.size w w')
theorem zkK (l:List UInt8) (v:Value) (s:Bool) (w:World) (ht:WTab w) (hv:IsB l v w) (hb:l.length≤1000000) :
  Calls Tryz.prog 117 #[v,.bool s] w (ztr l v w (uone l s)):=by
 obtain ⟨A,n,c,rfl⟩:=IsV.shape (f:=bv) hv
 have HV:Hid (IsV bv l (.slice A n c) w):=Lib.hid hv
 have hp:=HV.out.parts
 have HN:=Lib.hid hp.1
 have hnc:n≤c:=hp.2.2.1
 have hci:(c:Int)≤9223372036854775807:=by have:=hp.2.2.2.1;unfold maxLen at this;omega
 have hn6:n≤1000000:=by have:=HN.out;omega
 by_cases h0:n=0
 ·subst h0
  have HE:Hid ((uone l s).2.2≠0):=Lib.hid (by
   rw [show l=[] from List.eq_nil_of_length_eq_zero HN.out,zrI];simp)
  have HB:=Lib.hid ((Below.refl w.heap.size w).alloc (Nat.le_refl _) (.cells #[.slice A 0 c] 38))
  clear hv hb hp ht
  go_enter Tryz.func117,Tryz.ntmps117
  go_wp2
  go_ret3
  exact .inl ⟨HE.out,rfl,HB.out⟩
 ·have h0i:((n:Int) == 0)=false:=by simp;omega
  have hn0:0 < n:=by omega
  have hkl:0 < l.length:=by have:=HN.out;omega
  obtain ⟨ad,rfl,had,hcell⟩:=HV.out.at hkl
  obtain ⟨b0,hb0⟩:∃ b0,b0=l[0].toNat:=⟨_,rfl⟩
  have hc0:w.cell? ad=some (.int .u8 (b0:Int)):=by
   rw [←zkH ad,hcell,hb0];rfl
  have hb8:b0 < 256:=by rw [hb0];exact UInt8.toNat_lt _
  obtain ⟨q,hq⟩:∃ q,q=b0 / 64:=⟨_,rfl⟩
  have hq4:q < 4:=by omega
  obtain ⟨m,hm⟩:∃ m,m=min n 4356:=⟨_,rfl⟩
  have hmn:m≤n:=by omega
  have hmc:m≤c:=by omega
  have hm6:m≤1000000:=by omega
  have hmin:∀ (ts:Array TypeId) (t:TypeId) (W:World),(Builtin.min_ ts t #[.int .i64 (n:Int),.int .i64 4356]).run Tryz.prog W=.ok (.int .i64 (m:Int)) W:=fun ts t W=>by
   rw [run_min_int2]
   congr 2
   split <;> omega
  obtain ⟨sh,hsh⟩:∃ sh,sh=l.take 4356:=⟨_,rfl⟩
  have hshm:sh=l.take m:=by
   rw [hsh,hm]
   by_cases h:n≤4356
   ·rw [Nat.min_eq_left h,List.take_of_length_le (by have:=HN.out;omega),List.take_of_length_le (by have:=HN.out;omega)]
   ·rw [Nat.min_eq_right (by omega)]
  have HSL:=Lib.hid (show sh.length=m by rw [hshm,List.length_take];have:=HN.out;omega)
  have hs0:0 < sh.length:=by have:=HSL.out;omega
  have HK:=Lib.hid (zkz (s:=s) (q:=q) hs0 (by
   rw [hq,hb0]
   congr 2
   simp [hsh]))
  have hsn:=zob (b:=l) (sh:=sh) (s:=s) hsh
  obtain ⟨px4,pr,px,hpx⟩:∃ a b c,uone sh s=(a,b,c):=⟨_,_,_,rfl⟩
  rw [hpx] at hsn
  have HP:=Lib.hid hpx
  have HNO:=Lib.hid hsn.1
  have HOK:=Lib.hid hsn.2
  obtain ⟨w1,hw1⟩:∃ w1,w1=w.alloc (.cells #[.slice (some ad) n c] 38):=⟨_,rfl⟩
  have hb1:Below w.heap.size w w1:=by rw [hw1];exact (Below.refl _ _).alloc (Nat.le_refl _) _
  have r1:Row w1 w.heap.size 38 [.slice (some ad) n c]:=by rw [hw1];exact heap_alloc_new w _
  have hz1:w1.heap.size=w.heap.size+1:=by rw [hw1];simp
  obtain ⟨w2,hw2⟩:∃ w2,w2=w1.alloc (.cells ukcells.toArray 143):=⟨_,rfl⟩
  have hb2':Below w1.heap.size w1 w2:=by rw [hw2];exact (Below.refl _ _).alloc (Nat.le_refl _) _
  have hb2:=za hb1 hb2'
  have r2:Row w2 w1.heap.size 143 ((List.range 4).flatMap kcs):=by rw [hw2];exact heap_alloc_new w1 _
  have hI2:IsR kcs (List.range 4) (.slice (some ⟨w1.heap.size,0,none⟩) 4 4) w2:=ziT r2 (by simp) (by omega)
  have HKI:=Lib.hid (show Calls Tryz.prog 105 #[] w1 fun e w'=>e=.returned (.slice (some ⟨w1.heap.size,0,none⟩) 4 4)∧w'=w2 from (zkI w1).mono fun e w' ⟨h1,h2⟩=>⟨h1,by rw [h2,hw2]⟩)
  have HIX:=Lib.hid (zok _ w.heap.size ad n c b0 q w2 hI2 (r1.below hb2' r1.lt) hn0 (Nat.lt_of_lt_of_le had hb2.size) ((hb2.cell had).trans hc0) hq hq4)
  have HI2:=Lib.hid hI2
  have HR1:=Lib.hid (r1.below hb2' r1.lt)
  have HB2:=Lib.hid hb2
  have HT:=Lib.hid ht
  have HSV0:Hid (IsB sh (.slice (some ad) m c) w):=Lib.hid (by rw [hshm];exact HV.out.take hmn)
  have hz2:w.heap.size < w2.heap.size:=by have:=hb2'.size;omega
  clear hv hb hp ht hcell hb0 hc0 hq hm hsh hshm hs0 hsn hpx hb1 r1 hb2' hb2 r2 hI2 hw2 hkl h0
  rw [hz1,hw1] at HKI
  rw [hz1] at HIX HI2
  clear hw1 hz1
  go_enter Tryz.func117,Tryz.ntmps117
  go_wp2_with (first | (go_at_call 105;refine HKI.out.mono ?_;rintro e w' ⟨rfl,rfl⟩) | (go_at_call 131;refine HIX.out.mono ?_))
  rintro e w3 ⟨⟨r,rfl,hr,hkb⟩,hb3⟩
  have hrl:r < (List.range 4).length:=by simpa using hr
  obtain ⟨adk,hadk,hadl,hcell⟩:=(HI2.out.below hb3).at (m:=3) zqg (by omega) hrl
  rw [List.getElem_range] at hcell
  obtain ⟨_,_,k3⟩:=zqh hcell
  have HC2:=Lib.hid k3
  have HB3:=Lib.hid (za HB2.out hb3)
  have r3:=HR1.out.below hb3 HR1.out.lt
  have HCB3:=Lib.hid (show w3.cell? ⟨w.heap.size,0,none⟩=some (.slice (some ad) n c) from r3.cell 0)
  have hcb3:=HCB3.out
  have HLB3:=Lib.hid (Nat.lt_of_lt_of_le hz2 hb3.size)
  have HSV:=Lib.hid (IsB.below HSV0.out HB3.out)
  have HT3:=Lib.hid (HT.out.below HB3.out HT.out.lt)
  injection hadk with hadk
  clear hcell k3 r3 hb3 hrl hadl
  rw [hadk]
  clear hadk
  have hr4:(r:Int) < 4:=by omega
  rcases (by omega:r=0∨r=1∨r=2∨r=3) with h | h | h | h
  ·obtain rfl:q=0:=by rw [h] at hkb;simpa [kb] using hkb.symm
   have HE:Hid (uone sh s=(List.replicate (zC sh s).2.1.toNat (zC sh s).1,(zC sh s).2.2.1,(zC sh s).2.2.2)):=Lib.hid (by rw [HK.out,if_neg (by decide),if_neg (by decide),if_neg (by decide)])
   have HTK:=Lib.hid (fun W (h:IsB sh (.slice (some ad) m c) W) (ht:WTab W)=>(show Calls Tryz.prog 123 #[.slice (some ad) m c,.bool s] W (RetIB W ((List.replicate (zC sh s).2.1.toNat (zC sh s).1,(zC sh s).2.2.1,(zC sh s).2.2.2))) from zkJ sh _ s W h (by have:=HSL.out;omega)))
   rw [←HE.out,HP.out] at HTK
   have hc2:w3.cell? ⟨(adk.add (r*3)).block,(adk.add (r*3)).off+2,none⟩=some (.func (.func 123) #[] #[]):=by rw [HC2.out,h];rfl
   clear HE HK hkb hr h
   go_wp2_with fail
   refine (HTK.out _ HSV.out HT3.out).mono ?_
   rintro e4 w4 ⟨u4,r4,rfl,hu4,hr4,hb4⟩
   have HU4:=Lib.hid hu4
   have HR4:=Lib.hid hr4
   have HB4:=Lib.hid (za HB3.out hb4)
   have HCB4:=Lib.hid ((hb4.cell HLB3.out).trans HCB3.out)
   have HLB4:=Lib.hid (Nat.lt_of_lt_of_le HLB3.out hb4.size)
   clear hu4 hr4 hb4
   by_cases hx:px=0
   ·subst hx
    have d1:((0:Int) != 0)=false:=rfl
    obtain ⟨hr1,hr2⟩:=HOK.out rfl
    obtain ⟨A5,k5,c5,rfl⟩:=IsV.shape (f:=bv) HR4.out
    have hk5:=(IsV.parts (f:=bv) (show IsV bv pr _ _ from HR4.out)).1
    obtain ⟨j,hj⟩:∃ j,j=m - k5:=⟨_,rfl⟩
    have hk5m:k5≤m:=by rw [←hk5];have:=HSL.out;omega
    have hjn:j≤n:=by omega
    have HJ:=Lib.hid (show (m:Int) - (k5:Int)=(j:Int) by omega)
    have HSH:Hid (uone l s=(px4,l.drop j,0)):=Lib.hid (by rw [hr2,hj,←hk5,HSL.out])
    obtain ⟨v6,hv6,hI6⟩:=zbp (P:=Tryz.prog) (f:=bv) elemB (k:=j) hjn HV.out
    have HV6:=Lib.hid hv6
    have HI6:Hid (∀ W,IsB l (.slice (some ad) n c) W→IsB (l.drop j) v6 W):=Lib.hid (fun W hW=>by
     obtain ⟨v7,hv7,hI7⟩:=zbp (P:=Tryz.prog) (f:=bv) elemB (k:=j) hjn hW
     have h:=(hv6 w).symm.trans (hv7 w)
     injection h with h _
     rw [h]
     exact hI7)
    clear hr1 hr2 hk5 hj hv6 hI6 HR4 hjn
    go_wp2_with fail
    refine wp_region_list [.is (u4),.is (.slice (some ad) n c),.is (.slice (some ad) m c),.is (.int .i64 (m:Int)),.is (.slice A5 k5 c5),.is (.int .i64 (k5:Int)),.is (.int .i64 (j:Int)),.is (v6),.is (u4),.is (v6),.is (.bool true)] [some 39,some 40,some 41,some 42,some 43,some 44,some 45,some 46,some 4,some 5,some 6] (by kernel_rfl) (by kernel_rfl) (by kernel_rfl) rfl ⟨?_,?_,?_,?_,?_,?_,?_,?_,?_,?_,?_,trivial⟩ ?_
    ·intro ρ W1 hb1 H
     exact zd rfl (H.old 10 _ (by kernel_rfl) rfl) ⟨rfl,Below.refl _ _⟩
    ·intro ρ W1 hb1 H
     exact ze rfl (H.old 2 _ (by kernel_rfl) rfl) Tryz.underlying38 rfl ((hb1.cell HLB4.out).trans HCB4.out) ⟨rfl,Below.refl _ _⟩
    ·intro ρ W1 hb1 H
     exact zd rfl (H.old 9 _ (by kernel_rfl) rfl) ⟨rfl,Below.refl _ _⟩
    ·intro ρ W1 hb1 H
     exact zbF Tryz.underlying38 rfl (H.new 41 2 (by kernel_rfl)) ⟨rfl,Below.refl _ _⟩
    ·intro ρ W1 hb1 H
     exact zd rfl (H.old 11 _ (by kernel_rfl) rfl) ⟨rfl,Below.refl _ _⟩
    ·intro ρ W1 hb1 H
     exact zbF Tryz.underlying38 rfl (H.new 43 4 (by kernel_rfl)) ⟨rfl,Below.refl _ _⟩
    ·intro ρ W1 hb1 H
     exact zdi rfl (H.new 42 3 (by kernel_rfl)) (H.new 44 5 (by kernel_rfl)) (by omega) (by omega) ⟨congrArg (Value.int .i64) HJ.out,Below.refl _ _⟩
    ·intro ρ W1 hb1 H
     have e1:ρ (.tmp 45)=.int .i64 (j:Int):=(H.new 45 6 (by kernel_rfl))
     exact zL rfl (H.new 40 1 (by kernel_rfl)) (by simp only [Option.map_some];rw [e1]) rfl rfl (HV6.out W1) ⟨rfl,Below.refl _ _⟩
    ·intro ρ W1 hb1 H
     exact zf rfl (H.new 39 0 (by kernel_rfl)) ⟨rfl,Below.refl _ _⟩
    ·intro ρ W1 hb1 H
     exact zf rfl (H.new 46 7 (by kernel_rfl)) ⟨rfl,Below.refl _ _⟩
    ·intro ρ W1 hb1 H
     exact zf rfl (H.const _) ⟨rfl,Below.refl _ _⟩
    ·intro vs W1 hb1 hfs
     have f8:vs 8=u4:=hfs 8 (by decide)
     have f9:vs 9=v6:=hfs 9 (by decide)
     have f10:vs 10=.bool true:=hfs 10 (by decide)
     clear hfs
     simp only [zr,Nat.zero_add,Nat.reduceAdd]
     generalize vs 0=z0
     generalize vs 1=z1
     generalize vs 2=z2
     generalize vs 3=z3
     generalize vs 4=z4
     generalize vs 5=z5
     generalize vs 6=z6
     generalize vs 7=z7
     simp only [f8,f9,f10,Act.put,List.setIfInBounds_toArray,List.set_cons_succ,List.set_cons_zero]
     clear f8 f9 f10
     have HB6:=Lib.hid (za HB4.out hb1)
     have HU6:=Lib.hid (HU4.out.below hb1)
     clear hb1
     go_wp2
     go_ret3
     exact .inr ⟨by rw [HSH.out],_,_,rfl,by rw [HSH.out];exact HU6.out,by rw [HSH.out];exact HI6.out,HB6.out⟩
   ·have d1:(px != 0)=true:=by simpa using hx
    have HX:Hid ((uone l s).2.2≠0):=Lib.hid (HNO.out hx)
    clear hx HU4 HR4
    go_wp2
    go_ret3
    exact .inl ⟨HX.out,rfl,HB4.out⟩
  ·obtain rfl:q=1:=by rw [h] at hkb;simpa [kb] using hkb.symm
   have HE:Hid (uone sh s=zbg sh s):=Lib.hid (by rw [HK.out,if_pos rfl])
   have HTK:=Lib.hid (fun W (h:IsB sh (.slice (some ad) m c) W) (ht:WTab W)=>(show Calls Tryz.prog 125 #[.slice (some ad) m c,.bool s] W (RetIB W (zbg sh s)) from (zo7 sh _ s W ht h (by have:=HSL.out;omega)).mono fun _ _ h=>h.ib))
   rw [←HE.out,HP.out] at HTK
   have hc2:w3.cell? ⟨(adk.add (r*3)).block,(adk.add (r*3)).off+2,none⟩=some (.func (.func 125) #[] #[]):=by rw [HC2.out,h];rfl
   clear HE HK hkb hr h
   go_wp2_with fail
   refine (HTK.out _ HSV.out HT3.out).mono ?_
   rintro e4 w4 ⟨u4,r4,rfl,hu4,hr4,hb4⟩
   have HU4:=Lib.hid hu4
   have HR4:=Lib.hid hr4
   have HB4:=Lib.hid (za HB3.out hb4)
   have HCB4:=Lib.hid ((hb4.cell HLB3.out).trans HCB3.out)
   have HLB4:=Lib.hid (Nat.lt_of_lt_of_le HLB3.out hb4.size)
   clear hu4 hr4 hb4
   by_cases hx:px=0
   ·subst hx
    have d1:((0:Int) != 0)=false:=rfl
    obtain ⟨hr1,hr2⟩:=HOK.out rfl
    obtain ⟨A5,k5,c5,rfl⟩:=IsV.shape (f:=bv) HR4.out
    have hk5:=(IsV.parts (f:=bv) (show IsV bv pr _ _ from HR4.out)).1
    obtain ⟨j,hj⟩:∃ j,j=m - k5:=⟨_,rfl⟩
    have hk5m:k5≤m:=by rw [←hk5];have:=HSL.out;omega
    have hjn:j≤n:=by omega
    have HJ:=Lib.hid (show (m:Int) - (k5:Int)=(j:Int) by omega)
    have HSH:Hid (uone l s=(px4,l.drop j,0)):=Lib.hid (by rw [hr2,hj,←hk5,HSL.out])
    obtain ⟨v6,hv6,hI6⟩:=zbp (P:=Tryz.prog) (f:=bv) elemB (k:=j) hjn HV.out
    have HV6:=Lib.hid hv6
    have HI6:Hid (∀ W,IsB l (.slice (some ad) n c) W→IsB (l.drop j) v6 W):=Lib.hid (fun W hW=>by
     obtain ⟨v7,hv7,hI7⟩:=zbp (P:=Tryz.prog) (f:=bv) elemB (k:=j) hjn hW
     have h:=(hv6 w).symm.trans (hv7 w)
     injection h with h _
     rw [h]
     exact hI7)
    clear hr1 hr2 hk5 hj hv6 hI6 HR4 hjn
    go_wp2_with fail
    refine wp_region_list [.is (u4),.is (.slice (some ad) n c),.is (.slice (some ad) m c),.is (.int .i64 (m:Int)),.is (.slice A5 k5 c5),.is (.int .i64 (k5:Int)),.is (.int .i64 (j:Int)),.is (v6),.is (u4),.is (v6),.is (.bool true)] [some 39,some 40,some 41,some 42,some 43,some 44,some 45,some 46,some 4,some 5,some 6] (by kernel_rfl) (by kernel_rfl) (by kernel_rfl) rfl ⟨?_,?_,?_,?_,?_,?_,?_,?_,?_,?_,?_,trivial⟩ ?_
    ·intro ρ W1 hb1 H
     exact zd rfl (H.old 10 _ (by kernel_rfl) rfl) ⟨rfl,Below.refl _ _⟩
    ·intro ρ W1 hb1 H
     exact ze rfl (H.old 2 _ (by kernel_rfl) rfl) Tryz.underlying38 rfl ((hb1.cell HLB4.out).trans HCB4.out) ⟨rfl,Below.refl _ _⟩
    ·intro ρ W1 hb1 H
     exact zd rfl (H.old 9 _ (by kernel_rfl) rfl) ⟨rfl,Below.refl _ _⟩
    ·intro ρ W1 hb1 H
     exact zbF Tryz.underlying38 rfl (H.new 41 2 (by kernel_rfl)) ⟨rfl,Below.refl _ _⟩
    ·intro ρ W1 hb1 H
     exact zd rfl (H.old 11 _ (by kernel_rfl) rfl) ⟨rfl,Below.refl _ _⟩
    ·intro ρ W1 hb1 H
     exact zbF Tryz.underlying38 rfl (H.new 43 4 (by kernel_rfl)) ⟨rfl,Below.refl _ _⟩
    ·intro ρ W1 hb1 H
     exact zdi rfl (H.new 42 3 (by kernel_rfl)) (H.new 44 5 (by kernel_rfl)) (by omega) (by omega) ⟨congrArg (Value.int .i64) HJ.out,Below.refl _ _⟩
    ·intro ρ W1 hb1 H
     have e1:ρ (.tmp 45)=.int .i64 (j:Int):=(H.new 45 6 (by kernel_rfl))
     exact zL rfl (H.new 40 1 (by kernel_rfl)) (by simp only [Option.map_some];rw [e1]) rfl rfl (HV6.out W1) ⟨rfl,Below.refl _ _⟩
    ·intro ρ W1 hb1 H
     exact zf rfl (H.new 39 0 (by kernel_rfl)) ⟨rfl,Below.refl _ _⟩
    ·intro ρ W1 hb1 H
     exact zf rfl (H.new 46 7 (by kernel_rfl)) ⟨rfl,Below.refl _ _⟩
    ·intro ρ W1 hb1 H
     exact zf rfl (H.const _) ⟨rfl,Below.refl _ _⟩
    ·intro vs W1 hb1 hfs
     have f8:vs 8=u4:=hfs 8 (by decide)
     have f9:vs 9=v6:=hfs 9 (by decide)
     have f10:vs 10=.bool true:=hfs 10 (by decide)
     clear hfs
     simp only [zr,Nat.zero_add,Nat.reduceAdd]
     generalize vs 0=z0
     generalize vs 1=z1
     generalize vs 2=z2
     generalize vs 3=z3
     generalize vs 4=z4
     generalize vs 5=z5
     generalize vs 6=z6
     generalize vs 7=z7
     simp only [f8,f9,f10,Act.put,List.setIfInBounds_toArray,List.set_cons_succ,List.set_cons_zero]
     clear f8 f9 f10
     have HB6:=Lib.hid (za HB4.out hb1)
     have HU6:=Lib.hid (HU4.out.below hb1)
     clear hb1
     go_wp2
     go_ret3
     exact .inr ⟨by rw [HSH.out],_,_,rfl,by rw [HSH.out];exact HU6.out,by rw [HSH.out];exact HI6.out,HB6.out⟩
   ·have d1:(px != 0)=true:=by simpa using hx
    have HX:Hid ((uone l s).2.2≠0):=Lib.hid (HNO.out hx)
    clear hx HU4 HR4
    go_wp2
    go_ret3
    exact .inl ⟨HX.out,rfl,HB4.out⟩
  ·obtain rfl:q=3:=by rw [h] at hkb;simpa [kb] using hkb.symm
   have HE:Hid (uone sh s=zR sh s):=Lib.hid (by rw [HK.out,if_neg (by decide),if_neg (by decide),if_pos rfl])
   have HTK:=Lib.hid (fun W (h:IsB sh (.slice (some ad) m c) W) (ht:WTab W)=>(show Calls Tryz.prog 127 #[.slice (some ad) m c,.bool s] W (RetIB W (zR sh s)) from (zpr sh _ s W ht h (by have:=HSL.out;omega)).mono fun _ _ h=>h.ib))
   rw [←HE.out,HP.out] at HTK
   have hc2:w3.cell? ⟨(adk.add (r*3)).block,(adk.add (r*3)).off+2,none⟩=some (.func (.func 127) #[] #[]):=by rw [HC2.out,h];rfl
   clear HE HK hkb hr h
   go_wp2_with fail
   refine (HTK.out _ HSV.out HT3.out).mono ?_
   rintro e4 w4 ⟨u4,r4,rfl,hu4,hr4,hb4⟩
   have HU4:=Lib.hid hu4
   have HR4:=Lib.hid hr4
   have HB4:=Lib.hid (za HB3.out hb4)
   have HCB4:=Lib.hid ((hb4.cell HLB3.out).trans HCB3.out)
   have HLB4:=Lib.hid (Nat.lt_of_lt_of_le HLB3.out hb4.size)
   clear hu4 hr4 hb4
   by_cases hx:px=0
   ·subst hx
    have d1:((0:Int) != 0)=false:=rfl
    obtain ⟨hr1,hr2⟩:=HOK.out rfl
    obtain ⟨A5,k5,c5,rfl⟩:=IsV.shape (f:=bv) HR4.out
    have hk5:=(IsV.parts (f:=bv) (show IsV bv pr _ _ from HR4.out)).1
    obtain ⟨j,hj⟩:∃ j,j=m - k5:=⟨_,rfl⟩
    have hk5m:k5≤m:=by rw [←hk5];have:=HSL.out;omega
    have hjn:j≤n:=by omega
    have HJ:=Lib.hid (show (m:Int) - (k5:Int)=(j:Int) by omega)
    have HSH:Hid (uone l s=(px4,l.drop j,0)):=Lib.hid (by rw [hr2,hj,←hk5,HSL.out])
    obtain ⟨v6,hv6,hI6⟩:=zbp (P:=Tryz.prog) (f:=bv) elemB (k:=j) hjn HV.out
    have HV6:=Lib.hid hv6
    have HI6:Hid (∀ W,IsB l (.slice (some ad) n c) W→IsB (l.drop j) v6 W):=Lib.hid (fun W hW=>by
     obtain ⟨v7,hv7,hI7⟩:=zbp (P:=Tryz.prog) (f:=bv) elemB (k:=j) hjn hW
     have h:=(hv6 w).symm.trans (hv7 w)
     injection h with h _
     rw [h]
     exact hI7)
    clear hr1 hr2 hk5 hj hv6 hI6 HR4 hjn
    go_wp2_with fail
    refine wp_region_list [.is (u4),.is (.slice (some ad) n c),.is (.slice (some ad) m c),.is (.int .i64 (m:Int)),.is (.slice A5 k5 c5),.is (.int .i64 (k5:Int)),.is (.int .i64 (j:Int)),.is (v6),.is (u4),.is (v6),.is (.bool true)] [some 39,some 40,some 41,some 42,some 43,some 44,some 45,some 46,some 4,some 5,some 6] (by kernel_rfl) (by kernel_rfl) (by kernel_rfl) rfl ⟨?_,?_,?_,?_,?_,?_,?_,?_,?_,?_,?_,trivial⟩ ?_
    ·intro ρ W1 hb1 H
     exact zd rfl (H.old 10 _ (by kernel_rfl) rfl) ⟨rfl,Below.refl _ _⟩
    ·intro ρ W1 hb1 H
     exact ze rfl (H.old 2 _ (by kernel_rfl) rfl) Tryz.underlying38 rfl ((hb1.cell HLB4.out).trans HCB4.out) ⟨rfl,Below.refl _ _⟩
    ·intro ρ W1 hb1 H
     exact zd rfl (H.old 9 _ (by kernel_rfl) rfl) ⟨rfl,Below.refl _ _⟩
    ·intro ρ W1 hb1 H
     exact zbF Tryz.underlying38 rfl (H.new 41 2 (by kernel_rfl)) ⟨rfl,Below.refl _ _⟩
    ·intro ρ W1 hb1 H
     exact zd rfl (H.old 11 _ (by kernel_rfl) rfl) ⟨rfl,Below.refl _ _⟩
    ·intro ρ W1 hb1 H
     exact zbF Tryz.underlying38 rfl (H.new 43 4 (by kernel_rfl)) ⟨rfl,Below.refl _ _⟩
    ·intro ρ W1 hb1 H
     exact zdi rfl (H.new 42 3 (by kernel_rfl)) (H.new 44 5 (by kernel_rfl)) (by omega) (by omega) ⟨congrArg (Value.int .i64) HJ.out,Below.refl _ _⟩
    ·intro ρ W1 hb1 H
     have e1:ρ (.tmp 45)=.int .i64 (j:Int):=(H.new 45 6 (by kernel_rfl))
     exact zL rfl (H.new 40 1 (by kernel_rfl)) (by simp only [Option.map_some];rw [e1]) rfl rfl (HV6.out W1) ⟨rfl,Below.refl _ _⟩
    ·intro ρ W1 hb1 H
     exact zf rfl (H.new 39 0 (by kernel_rfl)) ⟨rfl,Below.refl _ _⟩
    ·intro ρ W1 hb1 H
     exact zf rfl (H.new 46 7 (by kernel_rfl)) ⟨rfl,Below.refl _ _⟩
    ·intro ρ W1 hb1 H
     exact zf rfl (H.const _) ⟨rfl,Below.refl _ _⟩
    ·intro vs W1 hb1 hfs
     have f8:vs 8=u4:=hfs 8 (by decide)
     have f9:vs 9=v6:=hfs 9 (by decide)
     have f10:vs 10=.bool true:=hfs 10 (by decide)
     clear hfs
     simp only [zr,Nat.zero_add,Nat.reduceAdd]
     generalize vs 0=z0
     generalize vs 1=z1
     generalize vs 2=z2
     generalize vs 3=z3
     generalize vs 4=z4
     generalize vs 5=z5
     generalize vs 6=z6
     generalize vs 7=z7
     simp only [f8,f9,f10,Act.put,List.setIfInBounds_toArray,List.set_cons_succ,List.set_cons_zero]
     clear f8 f9 f10
     have HB6:=Lib.hid (za HB4.out hb1)
     have HU6:=Lib.hid (HU4.out.below hb1)
     clear hb1
     go_wp2
     go_ret3
     exact .inr ⟨by rw [HSH.out],_,_,rfl,by rw [HSH.out];exact HU6.out,by rw [HSH.out];exact HI6.out,HB6.out⟩
   ·have d1:(px != 0)=true:=by simpa using hx
    have HX:Hid ((uone l s).2.2≠0):=Lib.hid (HNO.out hx)
    clear hx HU4 HR4
    go_wp2
    go_ret3
    exact .inl ⟨HX.out,rfl,HB4.out⟩
  ·obtain rfl:q=2:=by rw [h] at hkb;simpa [kb] using hkb.symm
   have HE:Hid (uone sh s=zy sh s):=Lib.hid (by rw [HK.out,if_neg (by decide),if_pos rfl])
   have HTK:=Lib.hid (fun W (h:IsB sh (.slice (some ad) m c) W) (ht:WTab W)=>(show Calls Tryz.prog 129 #[.slice (some ad) m c,.bool s] W (RetIB W (zy sh s)) from (zpT sh _ s W ht h (by have:=HSL.out;omega)).mono fun _ _ h=>h.ib))
   rw [←HE.out,HP.out] at HTK
   have hc2:w3.cell? ⟨(adk.add (r*3)).block,(adk.add (r*3)).off+2,none⟩=some (.func (.func 129) #[] #[]):=by rw [HC2.out,h];rfl
   clear HE HK hkb hr h
   go_wp2_with fail
   refine (HTK.out _ HSV.out HT3.out).mono ?_
   rintro e4 w4 ⟨u4,r4,rfl,hu4,hr4,hb4⟩
   have HU4:=Lib.hid hu4
   have HR4:=Lib.hid hr4
   have HB4:=Lib.hid (za HB3.out hb4)
   have HCB4:=Lib.hid ((hb4.cell HLB3.out).trans HCB3.out)
   have HLB4:=Lib.hid (Nat.lt_of_lt_of_le HLB3.out hb4.size)
   clear hu4 hr4 hb4
   by_cases hx:px=0
   ·subst hx
    have d1:((0:Int) != 0)=false:=rfl
    obtain ⟨hr1,hr2⟩:=HOK.out rfl
    obtain ⟨A5,k5,c5,rfl⟩:=IsV.shape (f:=bv) HR4.out
    have hk5:=(IsV.parts (f:=bv) (show IsV bv pr _ _ from HR4.out)).1
    obtain ⟨j,hj⟩:∃ j,j=m - k5:=⟨_,rfl⟩
    have hk5m:k5≤m:=by rw [←hk5];have:=HSL.out;omega
    have hjn:j≤n:=by omega
    have HJ:=Lib.hid (show (m:Int) - (k5:Int)=(j:Int) by omega)
    have HSH:Hid (uone l s=(px4,l.drop j,0)):=Lib.hid (by rw [hr2,hj,←hk5,HSL.out])
    obtain ⟨v6,hv6,hI6⟩:=zbp (P:=Tryz.prog) (f:=bv) elemB (k:=j) hjn HV.out
    have HV6:=Lib.hid hv6
    have HI6:Hid (∀ W,IsB l (.slice (some ad) n c) W→IsB (l.drop j) v6 W):=Lib.hid (fun W hW=>by
     obtain ⟨v7,hv7,hI7⟩:=zbp (P:=Tryz.prog) (f:=bv) elemB (k:=j) hjn hW
     have h:=(hv6 w).symm.trans (hv7 w)
     injection h with h _
     rw [h]
     exact hI7)
    clear hr1 hr2 hk5 hj hv6 hI6 HR4 hjn
    go_wp2_with fail
    refine wp_region_list [.is (u4),.is (.slice (some ad) n c),.is (.slice (some ad) m c),.is (.int .i64 (m:Int)),.is (.slice A5 k5 c5),.is (.int .i64 (k5:Int)),.is (.int .i64 (j:Int)),.is (v6),.is (u4),.is (v6),.is (.bool true)] [some 39,some 40,some 41,some 42,some 43,some 44,some 45,some 46,some 4,some 5,some 6] (by kernel_rfl) (by kernel_rfl) (by kernel_rfl) rfl ⟨?_,?_,?_,?_,?_,?_,?_,?_,?_,?_,?_,trivial⟩ ?_
    ·intro ρ W1 hb1 H
     exact zd rfl (H.old 10 _ (by kernel_rfl) rfl) ⟨rfl,Below.refl _ _⟩
    ·intro ρ W1 hb1 H
     exact ze rfl (H.old 2 _ (by kernel_rfl) rfl) Tryz.underlying38 rfl ((hb1.cell HLB4.out).trans HCB4.out) ⟨rfl,Below.refl _ _⟩
    ·intro ρ W1 hb1 H
     exact zd rfl (H.old 9 _ (by kernel_rfl) rfl) ⟨rfl,Below.refl _ _⟩
    ·intro ρ W1 hb1 H
     exact zbF Tryz.underlying38 rfl (H.new 41 2 (by kernel_rfl)) ⟨rfl,Below.refl _ _⟩
    ·intro ρ W1 hb1 H
     exact zd rfl (H.old 11 _ (by kernel_rfl) rfl) ⟨rfl,Below.refl _ _⟩
    ·intro ρ W1 hb1 H
     exact zbF Tryz.underlying38 rfl (H.new 43 4 (by kernel_rfl)) ⟨rfl,Below.refl _ _⟩
    ·intro ρ W1 hb1 H
     exact zdi rfl (H.new 42 3 (by kernel_rfl)) (H.new 44 5 (by kernel_rfl)) (by omega) (by omega) ⟨congrArg (Value.int .i64) HJ.out,Below.refl _ _⟩
    ·intro ρ W1 hb1 H
     have e1:ρ (.tmp 45)=.int .i64 (j:Int):=(H.new 45 6 (by kernel_rfl))
     exact zL rfl (H.new 40 1 (by kernel_rfl)) (by simp only [Option.map_some];rw [e1]) rfl rfl (HV6.out W1) ⟨rfl,Below.refl _ _⟩
    ·intro ρ W1 hb1 H
     exact zf rfl (H.new 39 0 (by kernel_rfl)) ⟨rfl,Below.refl _ _⟩
    ·intro ρ W1 hb1 H
     exact zf rfl (H.new 46 7 (by kernel_rfl)) ⟨rfl,Below.refl _ _⟩
    ·intro ρ W1 hb1 H
     exact zf rfl (H.const _) ⟨rfl,Below.refl _ _⟩
    ·intro vs W1 hb1 hfs
     have f8:vs 8=u4:=hfs 8 (by decide)
     have f9:vs 9=v6:=hfs 9 (by decide)
     have f10:vs 10=.bool true:=hfs 10 (by decide)
     clear hfs
     simp only [zr,Nat.zero_add,Nat.reduceAdd]
     generalize vs 0=z0
     generalize vs 1=z1
     generalize vs 2=z2
     generalize vs 3=z3
     generalize vs 4=z4
     generalize vs 5=z5
     generalize vs 6=z6
     generalize vs 7=z7
     simp only [f8,f9,f10,Act.put,List.setIfInBounds_toArray,List.set_cons_succ,List.set_cons_zero]
     clear f8 f9 f10
     have HB6:=Lib.hid (za HB4.out hb1)
     have HU6:=Lib.hid (HU4.out.below hb1)
     clear hb1
     go_wp2
     go_ret3
     exact .inr ⟨by rw [HSH.out],_,_,rfl,by rw [HSH.out];exact HU6.out,by rw [HSH.out];exact HI6.out,HB6.out⟩
   ·have d1:(px != 0)=true:=by simpa using hx
    have HX:Hid ((uone l s).2.2≠0):=Lib.hid (HNO.out hx)
    clear hx HU4 HR4
    go_wp2
    go_ret3
    exact .inl ⟨HX.out,rfl,HB4.out⟩
end Go.Proofs.YtblpkmmhmdpkjaaGreatDoor
