import Derived.WalkKit
import Derived.WalkLawsBesides
import Derived.Outline
import Derived.Lib.Hide
import Derived.Handy
import Derived.Deep.QuietTactic
import Derived.BigQuiet
import Derived.StillTailTactics
import Derived.Deep.DeepMust
import Derived.Lib.BitFns
import Derived.Test.YtblpkmmhmdpkjaaGreatDoorBG1
set_option maxHeartbeats 8000000
set_option maxRecDepth 100000
namespace Go.Proofs.YtblpkmmhmdpkjaaGreatDoor
def bval:List UInt8→Nat
 | []=>0
 | b::r=>b.toNat*256 ^ r.length+bval r
def pval (w:Nat):List Nat→Nat
 | []=>0
 | x::r=>x*2 ^ (w*r.length)+pval w r
def zW (n w:Nat):Nat:=(n*w+7) / 8
def be:Nat→Nat→List UInt8
 | 0,_=>[]
 | m+1,N=>UInt8.ofNat (N / 256 ^ m % 256)::be m N
theorem p256 (k:Nat):256 ^ k=2 ^ (8*k):=by rw [Nat.pow_mul]
theorem zcv (m N:Nat):(be m N).length=m:=by
 induction m with
 | zero=>rfl
 | succ m ih=>simp [be,ih]
theorem zfu (m N:Nat):bval (be m N)=N % 256 ^ m:=by
 induction m with
 | zero=>simp [be,bval];omega
 | succ m ih =>
  rw [be,bval,zcv,ih]
  simp only [UInt8.toNat_ofNat',Nat.reducePow,Nat.mod_mod]
  rw [Nat.pow_succ,Nat.mod_mul,Nat.mul_comm]
  omega
theorem zda (l:List UInt8):bval l < 256 ^ l.length:=by
 induction l with
 | nil=>simp [bval]
 | cons b r ih =>
  have hb:=b.toNat_lt
  have h1:(b.toNat+1)*256 ^ r.length≤256*256 ^ r.length:=Nat.mul_le_mul_right _ (by omega)
  rw [bval,List.length_cons,Nat.pow_succ]
  rw [Nat.add_mul] at h1
  omega
theorem ziH:∀ (l m:List UInt8),l.length=m.length→bval l=bval m→l=m
 | [],[],_,_=>rfl
 | [],_::_,h,_=>by simp at h
 | _::_,[],h,_=>by simp at h
 | b::r,c::s,h,e=>by
  have hl:r.length=s.length:=by simpa using h
  have h1:=zda r
  have h2:=zda s
  rw [bval,bval,hl] at e
  rw [hl] at h1
  have hp:0 < 256 ^ s.length:=Nat.pow_pos (by omega)
  have hd:(b.toNat*256 ^ s.length+bval r) / 256 ^ s.length=b.toNat:=by
   rw [Nat.mul_comm,Nat.mul_add_div hp,Nat.div_eq_of_lt h1];omega
  have hd2:(c.toNat*256 ^ s.length+bval s) / 256 ^ s.length=c.toNat:=by
   rw [Nat.mul_comm,Nat.mul_add_div hp,Nat.div_eq_of_lt h2];omega
  have hbc:b.toNat=c.toNat:=by rw [←hd,←hd2,e]
  have hbe:b=c:=UInt8.toNat_inj.1 hbc
  subst hbe
  rw [ziH r s hl (by omega)]
theorem zoH {l:List UInt8} {m N:Nat} (hl:l.length=m) (h:bval l=N):l=be m N:=by
 refine ziH _ _ (by rw [zcv,hl]) ?_
 rw [zfu,←h,Nat.mod_eq_of_lt]
 rw [←hl]
 exact zda l
theorem zgD (a b:List UInt8):bval (a ++ b)=bval a*256 ^ b.length+bval b:=by
 induction a with
 | nil=>simp [bval]
 | cons x r ih=>rw [List.cons_append,bval,bval,ih,List.length_append,Nat.pow_add,Nat.add_mul,Nat.mul_assoc];omega
theorem zhN (m:Nat):bval (List.replicate m 0)=0:=by
 induction m with
 | zero=>rfl
 | succ m ih=>rw [List.replicate_succ,bval,ih];simp
theorem ziI:∀ (l:List UInt8) (k:Nat) (h:k < l.length),l[k].toNat=bval l / 256 ^ (l.length - 1 - k) % 256
 | b::r,0,_=>by
  have hp:0 < 256 ^ r.length:=Nat.pow_pos (by omega)
  simp only [List.getElem_cons_zero,bval,List.length_cons,Nat.add_sub_cancel,Nat.sub_zero]
  rw [Nat.mul_comm,Nat.mul_add_div hp,Nat.div_eq_of_lt (zda r),Nat.add_zero,Nat.mod_eq_of_lt b.toNat_lt]
 | b::r,k+1,h=>by
  have hk:k < r.length:=by simpa using h
  have ih:=ziI r k hk
  simp only [List.getElem_cons_succ,bval,List.length_cons,Nat.add_sub_cancel]
  rw [ih]
  have he:r.length - (k+1)=r.length - 1 - k:=by omega
  rw [he]
  have hs:256 ^ r.length=256 ^ (r.length - 1 - k)*(256 ^ k*256):=by
   rw [←Nat.pow_succ,←Nat.pow_add];congr 1;omega
  have hp:0 < 256 ^ (r.length - 1 - k):=Nat.pow_pos (by omega)
  rw [hs,show b.toNat*(256 ^ (r.length - 1 - k)*(256 ^ k*256))=256 ^ (r.length - 1 - k)*(b.toNat*256 ^ k*256) by
   rw [Nat.mul_left_comm,Nat.mul_assoc],Nat.mul_add_div hp]
  omega
theorem ziJ:∀ (l:List UInt8) (k:Nat) (c:UInt8) (h:k < l.length),bval (l.set k c)+l[k].toNat*256 ^ (l.length - 1 - k)=bval l+c.toNat*256 ^ (l.length - 1 - k)
 | b::r,0,c,_=>by
  simp only [List.getElem_cons_zero,List.set_cons_zero,bval,List.length_cons,Nat.add_sub_cancel,Nat.sub_zero]
  omega
 | b::r,k+1,c,h=>by
  have hk:k < r.length:=by simpa using h
  have ih:=ziJ r k c hk
  simp only [List.getElem_cons_succ,List.set_cons_succ,bval,List.length_cons,Nat.add_sub_cancel,List.length_set]
  have he:r.length - (k+1)=r.length - 1 - k:=by omega
  rw [he]
  omega
theorem zoI {out:List UInt8} {m at_ n V piece:Nat} (hm:out.length=m) (hn0:0 < n) (hn:n≤8 - at_ % 8) (hat:at_+n≤8*m) (hp:piece < 2 ^ n) (hv:bval out=V*2 ^ (8*m - at_)) :
  ∃ h:at_ / 8 < out.length,out[at_ / 8].toNat % 2 ^ (8 - at_ % 8)=0∧out[at_ / 8].toNat+piece*2 ^ (8 - at_ % 8 - n) < 256 ∧
   piece*2 ^ (8 - at_ % 8 - n) < 2 ^ (8 - at_ % 8) ∧
   bval (out.set (at_ / 8) (UInt8.ofNat (out[at_ / 8].toNat+piece*2 ^ (8 - at_ % 8 - n))))=(V*2 ^ n+piece)*2 ^ (8*m - (at_+n)):=by
 have hk:at_ / 8 < out.length:=by omega
 refine ⟨hk,?_⟩
 have hg:=ziI out (at_ / 8) hk
 have hs:=ziJ out (at_ / 8) (UInt8.ofNat (out[at_ / 8].toNat+piece*2 ^ (8 - at_ % 8 - n))) hk
 rw [hm] at hg hs
 obtain ⟨r,hr⟩:∃ r,r=8 - at_ % 8:=⟨_,rfl⟩
 rw [←hr] at hn hs ⊢
 have hr8:r≤8:=by omega
 have h1:8*m - at_=8*(m - 1 - at_ / 8)+r:=by omega
 have h2:8*m - (at_+n)=8*(m - 1 - at_ / 8)+(r - n):=by omega
 have hpp:0 < 256 ^ (m - 1 - at_ / 8):=Nat.pow_pos (by omega)
 rw [hv,h1,Nat.pow_add,←p256,show V*(256 ^ (m - 1 - at_ / 8)*2 ^ r)=256 ^ (m - 1 - at_ / 8)*(V*2 ^ r) by rw [Nat.mul_left_comm],Nat.mul_div_cancel_left _ hpp] at hg
 have h256:256=2 ^ (8 - r)*2 ^ r:=by rw [←Nat.pow_add,show 8 - r+r=8 by omega]
 have hb:out[at_ / 8].toNat=V % 2 ^ (8 - r)*2 ^ r:=by rw [hg];conv=>lhs;rw [h256,Nat.mul_mod_mul_right]
 have hpc:piece*2 ^ (r - n) < 2 ^ r:=by
  have h3:2 ^ r=2 ^ n*2 ^ (r - n):=by rw [←Nat.pow_add];congr 1;omega
  rw [h3]
  exact Nat.mul_lt_mul_of_pos_right hp (Nat.pow_pos (by omega))
 have hlt:out[at_ / 8].toNat+piece*2 ^ (r - n) < 256:=by
  have h4:V % 2 ^ (8 - r) < 2 ^ (8 - r):=Nat.mod_lt _ (Nat.pow_pos (by omega))
  have h5:(V % 2 ^ (8 - r)+1)*2 ^ r≤2 ^ (8 - r)*2 ^ r:=Nat.mul_le_mul_right _ h4
  rw [←h256,Nat.add_mul] at h5
  rw [hb]
  omega
 refine ⟨by rw [hb];exact Nat.mul_mod_left _ _,hlt,hpc,?_⟩
 have hc:(UInt8.ofNat (out[at_ / 8].toNat+piece*2 ^ (r - n))).toNat=out[at_ / 8].toNat+piece*2 ^ (r - n):=by
  simp only [UInt8.toNat_ofNat',Nat.reducePow]
  exact Nat.mod_eq_of_lt hlt
 rw [hc,Nat.add_mul,hv] at hs
 rw [h1] at hs
 rw [h2]
 have h6:V*2 ^ (8*(m - 1 - at_ / 8)+r)=V*2 ^ n*2 ^ (8*(m - 1 - at_ / 8)+(r - n)):=by
  rw [Nat.mul_assoc,←Nat.pow_add];congr 2;omega
 have h7:piece*2 ^ (r - n)*256 ^ (m - 1 - at_ / 8)=piece*2 ^ (8*(m - 1 - at_ / 8)+(r - n)):=by
  rw [p256,Nat.mul_assoc,←Nat.pow_add];congr 2;omega
 rw [Nat.add_mul,←h6,←h7]
 omega
theorem zoJ {out:List UInt8} {m at_ n V piece q r d:Nat} (hq:q=at_ / 8) (hr:r=8 - at_ % 8) (hd:d=r - n) (hm:out.length=m) (hn0:0 < n) (hn:n≤r) (hat:at_+n≤8*m) (hp:piece < 2 ^ n) (hv:bval out=V*2 ^ (8*m - at_)) :
  ∃ h:q < out.length,out[q].toNat % 2 ^ r=0∧out[q].toNat+piece*2 ^ d < 256∧piece*2 ^ d < 2 ^ r∧bval (out.set q (UInt8.ofNat (out[q].toNat+piece*2 ^ d)))=(V*2 ^ n+piece)*2 ^ (8*m - (at_+n)):=by
 subst hq hr hd
 exact zoI hm hn0 hn hat hp hv
theorem zfv (V0 x W k n:Nat) (hk:k≤W) (hn:n≤k):(V0*2 ^ (W - k)+x / 2 ^ k)*2 ^ n+x / 2 ^ (k - n) % 2 ^ n=V0*2 ^ (W - (k - n))+x / 2 ^ (k - n):=by
 have h1:x / 2 ^ k=x / 2 ^ (k - n) / 2 ^ n:=by rw [Nat.div_div_eq_div_mul,←Nat.pow_add];congr 2;omega
 have h2:=Nat.div_add_mod (x / 2 ^ (k - n)) (2 ^ n)
 have h3:2 ^ (W - (k - n))=2 ^ (W - k)*2 ^ n:=by rw [←Nat.pow_add];congr 1;omega
 rw [h1,h3,Nat.add_mul,Nat.mul_assoc,Nat.mul_comm (x / 2 ^ (k - n) / 2 ^ n)]
 omega
theorem zgE (w:Nat) (l:List Nat) (x:Nat):pval w (l ++ [x])=pval w l*2 ^ w+x:=by
 induction l with
 | nil=>simp [pval]
 | cons y r ih =>
  rw [List.cons_append,pval,pval,ih,List.length_append,List.length_singleton,Nat.mul_add,Nat.mul_one,Nat.pow_add,Nat.add_mul,Nat.mul_assoc]
  omega
theorem zk5 {w:Nat}:∀ {l:List Nat},(∀ x∈l,x < 2 ^ w)→pval w l < 2 ^ (w*l.length)
 | [],_=>by simp [pval]
 | x::r,h=>by
  have ih:=zk5 (l:=r) fun y hy=>h y (by simp [hy])
  have hx:(x+1)*2 ^ (w*r.length)≤2 ^ w*2 ^ (w*r.length):=Nat.mul_le_mul_right _ (h x (by simp))
  rw [pval,List.length_cons,Nat.mul_add,Nat.mul_one,Nat.pow_add,Nat.mul_comm (2 ^ (w*r.length))]
  rw [Nat.add_mul] at hx
  omega
theorem zmj {w:Nat}:∀ {l:List Nat} (k:Nat) (hk:k < l.length),(∀ x∈l,x < 2 ^ w)→pval w l / 2 ^ (w*(l.length - 1 - k)) % 2 ^ w=l[k]
 | x::r,0,_,h=>by
  have ih:=zk5 (l:=r) fun y hy=>h y (by simp [hy])
  have hp:0 < 2 ^ (w*r.length):=Nat.pow_pos (by omega)
  simp only [List.getElem_cons_zero,pval,List.length_cons,Nat.add_sub_cancel,Nat.sub_zero]
  rw [Nat.mul_comm x,Nat.mul_add_div hp,Nat.div_eq_of_lt ih,Nat.add_zero,Nat.mod_eq_of_lt (h x (by simp))]
 | x::r,k+1,hk,h=>by
  have hk':k < r.length:=by simpa using hk
  have ih:=zmj (l:=r) k hk' fun y hy=>h y (by simp [hy])
  simp only [List.getElem_cons_succ,pval,List.length_cons,Nat.add_sub_cancel]
  have he:r.length - (k+1)=r.length - 1 - k:=by omega
  rw [he]
  have hs:2 ^ (w*r.length)=2 ^ (w*(r.length - 1 - k))*(2 ^ (w*k)*2 ^ w):=by
   rw [←Nat.pow_add,←Nat.pow_add];congr 1
   rw [←Nat.mul_succ,←Nat.mul_add];congr 1;omega
  have hp:0 < 2 ^ (w*(r.length - 1 - k)):=Nat.pow_pos (by omega)
  rw [hs,show x*(2 ^ (w*(r.length - 1 - k))*(2 ^ (w*k)*2 ^ w))=2 ^ (w*(r.length - 1 - k))*(2 ^ w*(x*2 ^ (w*k))) by
   rw [Nat.mul_left_comm,←Nat.mul_assoc x,Nat.mul_comm (2 ^ w)],Nat.mul_add_div hp,Nat.mul_add_mod]
  exact ih
def zby (l:List Nat) (w:Nat):List UInt8:=be (zW l.length w) (pval w l*2 ^ (8*zW l.length w - w*l.length))
theorem zdC (n w:Nat):w*n≤8*zW n w:=by unfold zW;rw [Nat.mul_comm];omega
theorem zk6 (n w:Nat):8*zW n w - w*n≤7:=by unfold zW;rw [Nat.mul_comm w];omega
theorem zcL (l:List Nat) (w:Nat):(zby l w).length=zW l.length w:=zcv _ _
theorem zfw {l:List Nat} {w:Nat} (h:∀ x∈l,x < 2 ^ w):bval (zby l w)=pval w l*2 ^ (8*zW l.length w - w*l.length):=by
 rw [zby,zfu,Nat.mod_eq_of_lt]
 have h1:=zk5 h
 have h2:=zdC l.length w
 rw [p256,show 2 ^ (8*zW l.length w)=2 ^ (w*l.length)*2 ^ (8*zW l.length w - w*l.length) by rw [←Nat.pow_add];congr 1;omega]
 exact Nat.mul_lt_mul_of_pos_right h1 (Nat.pow_pos (by omega))
def zcg (B M at_ w:Nat):Nat:=B / 2 ^ (M - (at_+w)) % 2 ^ w
theorem ziK (B M at_ w:Nat):zcg B M at_ w < 2 ^ w:=Nat.mod_lt _ (Nat.pow_pos (by omega))
theorem zhO (B M at_:Nat):zcg B M at_ 0=0:=by simp [zcg,Nat.mod_one]
theorem zjv {B M at_ a n:Nat} (h:at_+a+n≤M):zcg B M at_ a*2 ^ n+zcg B M (at_+a) n=zcg B M at_ (a+n):=by
 unfold zcg
 have h1:B / 2 ^ (M - (at_+a))=B / 2 ^ (M - (at_+a+n)) / 2 ^ n:=by rw [Nat.div_div_eq_div_mul,←Nat.pow_add];congr 2;omega
 rw [h1,show at_+(a+n)=at_+a+n by omega]
 generalize B / 2 ^ (M - (at_+a+n))=Y
 rw [show 2 ^ (a+n)=2 ^ n*2 ^ a by rw [←Nat.pow_add,Nat.add_comm],Nat.mod_mul,Nat.mul_comm]
 omega
theorem zna {l:List UInt8} {m at_ n:Nat} (hm:l.length=m) (hn:n≤8 - at_ % 8) (hn0:0 < n) (hat:at_+n≤8*m) :
  ∃ h:at_ / 8 < l.length,l[at_ / 8].toNat / 2 ^ (8 - at_ % 8 - n) % 2 ^ n=zcg (bval l) (8*m) at_ n:=by
 have hk:at_ / 8 < l.length:=by omega
 refine ⟨hk,?_⟩
 rw [ziI l (at_ / 8) hk,hm]
 unfold zcg
 obtain ⟨r,hr⟩:∃ r,r=8 - at_ % 8:=⟨_,rfl⟩
 rw [←hr] at hn ⊢
 have h2:8*m - (at_+n)=8*(m - 1 - at_ / 8)+(r - n):=by omega
 rw [h2,Nat.pow_add,←p256,←Nat.div_div_eq_div_mul]
 generalize bval l / 256 ^ (m - 1 - at_ / 8)=Y
 have h256:256=2 ^ (r - n)*(2 ^ n*2 ^ (8 - r)):=by rw [←Nat.pow_add,←Nat.pow_add,show r - n+(n+(8 - r))=8 by omega]
 conv=>lhs;rw [h256,Nat.mod_mul_right_div_self,Nat.mod_mul_right_mod]
def zcA (B M w n:Nat):List Nat:=(List.range n).map fun i=>zcg B M (w*i) w
theorem zbH (B M w n:Nat):(zcA B M w n).length=n:=by simp [zcA]
theorem zfx (B M w n:Nat):zcA B M w (n+1)=zcA B M w n ++ [zcg B M (w*n) w]:=by simp [zcA,List.range_succ]
theorem ziL {B M w n:Nat}:∀ x∈zcA B M w n,x < 2 ^ w:=by
 intro x hx
 obtain ⟨i,_,rfl⟩:=List.mem_map.1 hx
 exact ziK _ _ _ _
theorem zhP {B M w:Nat} (hB:B < 2 ^ M):∀ n,w*n≤M→pval w (zcA B M w n)=B / 2 ^ (M - w*n)
 | 0,_=>by simp [zcA,pval];rw [Nat.div_eq_of_lt hB]
 | n+1,h=>by
  rw [Nat.mul_add,Nat.mul_one] at h
  rw [zfx,zgE,zhP hB n (by omega)]
  unfold zcg
  rw [Nat.mul_add,Nat.mul_one]
  have h1:B / 2 ^ (M - w*n)=B / 2 ^ (M - (w*n+w)) / 2 ^ w:=by rw [Nat.div_div_eq_div_mul,←Nat.pow_add];congr 2;omega
  rw [h1,Nat.mul_comm]
  exact Nat.div_add_mod _ _
theorem zk7 {l:List UInt8} {w n:Nat} (hl:l.length=zW n w):zby (zcA (bval l) (8*zW n w) w n) w=l↔bval l % 2 ^ (8*zW n w - w*n)=0:=by
 have hB:bval l < 2 ^ (8*zW n w):=by rw [←p256,←hl];exact zda l
 have hv:=zfw (l:=zcA (bval l) (8*zW n w) w n) (w:=w) ziL
 rw [zbH,zhP hB n (zdC n w)] at hv
 have hd:=Nat.div_add_mod (bval l) (2 ^ (8*zW n w - w*n))
 rw [Nat.mul_comm] at hd
 constructor
 ·intro h
  rw [h] at hv
  omega
 ·intro h
  refine ziH _ _ (by rw [zcL,zbH,hl]) ?_
  omega
theorem zk8 {l:List Nat} {w:Nat} (h:∀ x∈l,x < 2 ^ w):zcA (bval (zby l w)) (8*zW l.length w) w l.length=l:=by
 refine List.ext_getElem (zbH _ _ _ _) fun i h1 h2=>?_
 simp only [zcA,List.getElem_map,List.getElem_range]
 rw [zfw h]
 unfold zcg
 have hg:=zmj i h2 h
 have hs:=zdC l.length w
 have hi:w*i+w≤w*l.length:=by rw [←Nat.mul_succ];exact Nat.mul_le_mul_left _ h2
 have he:8*zW l.length w - (w*i+w)=(8*zW l.length w - w*l.length)+w*(l.length - 1 - i):=by
  have:w*(l.length - 1 - i)+(w*i+w)=w*l.length:=by rw [←Nat.mul_succ,←Nat.mul_add];congr 1;omega
  omega
 rw [he,Nat.pow_add,←Nat.div_div_eq_div_mul,Nat.mul_div_cancel _ (Nat.pow_pos (by omega)),hg]
theorem zk9 {l:List Nat} {w:Nat} (h:∀ x∈l,x < 2 ^ w):bval (zby l w) % 2 ^ (8*zW l.length w - w*l.length)=0:=by
 rw [zfw h];exact Nat.mul_mod_left _ _
theorem zla {B M n:Nat} (h:n≤M):zcg B M n (M - n)=B % 2 ^ (M - n):=by
 unfold zcg
 rw [show M - (n+(M - n))=0 by omega]
 simp
end Go.Proofs.YtblpkmmhmdpkjaaGreatDoor
namespace Go.Proofs.YtblpkmmhmdpkjaaGreatDoor
open Go.RowKit
theorem zs6 (e:Nat) (h:e < 8):(128:Int) / 2 ^ e=((2 ^ (7 - e):Nat):Int):=by
 have:∀ e:Fin 8,(128:Int) / 2 ^ e.val=((2 ^ (7 - e.val):Nat):Int):=by decide
 exact this ⟨e,h⟩
theorem zlb {w:World} {g:Nat} {t:TypeId} {out:List UInt8} (h:Row w g t (out.map bv)) (q C:Nat) (hC:C < 256):Row (w.setCell ⟨g,q,none⟩ (.int .u8 (C:Int))) g t ((out.set q (UInt8.ofNat C)).map bv):=by
 have h1:=h.set_ q (.int .u8 (C:Int))
 have h2:Value.int .u8 (C:Int)=bv (UInt8.ofNat C):=by
  unfold bv
  congr 1
  simp only [UInt8.toNat_ofNat',Nat.reducePow]
  omega
 rw [List.map_set,←h2]
 exact h1
theorem zoK (V m T:Nat) (h:T+1≤8*m):V*2 ^ (8*m - T)=(V*2 ^ 1+0)*2 ^ (8*m - (T+1)):=by
 rw [Nat.add_zero,Nat.mul_assoc,←Nat.pow_add]
 congr 2
 omega
theorem zmk {l:List UInt8} {m at_ n q r d:Nat} (hq:q=at_ / 8) (hr:r=8 - at_ % 8) (hd:d=r - n) (hm:l.length=m) (hn:n≤r) (hn0:0 < n) (hat:at_+n≤8*m) :
  ∃ h:q < l.length,l[q].toNat / 2 ^ d % 2 ^ n=zcg (bval l) (8*m) at_ n:=by
 subst hq hr hd
 exact zna hm hn hn0 hat
theorem zlc (n Y P:Nat) (h0:Y % 2 ^ n=0) (h1:P < 2 ^ n) (h2:Y+P < 2 ^ 64):bits .or .u64 (Y:Int) (P:Int)=((Y+P:Nat):Int):=by
 rw [u64_or _ _ (by omega) (by omega) (by omega) (by omega),Int.toNat_natCast,Int.toNat_natCast,nat_join n Y P h0 h1]
theorem zld (x j n L:Nat) (hx:x < 2 ^ 64) (hn:n≤8) (hL:L=2 ^ n - 1):bits .and .u64 ((x:Int) / 2 ^ j) (L:Int)=((x / 2 ^ j % 2 ^ n:Nat):Int):=by
 have h1:(x:Int) / 2 ^ j=((x / 2 ^ j:Nat):Int):=by simp
 have h2:2 ^ n≤2 ^ 8:=Nat.pow_le_pow_right (by omega) hn
 have h3:=Nat.div_le_self x (2 ^ j)
 rw [h1]
 generalize x / 2 ^ j=y at *
 rw [u64_and _ _ (by omega) (by omega) (by omega) (by omega),Int.toNat_natCast,Int.toNat_natCast,hL,Nat.and_two_pow_sub_one_eq_mod]
theorem Tryz.infoU:(Tryz.prog.info? 101).map (fun i=>(i.zero,i.size,i.bytes))=some (some (uv 0),1,8):=by kernel_rfl
theorem elemU:Elem Tryz.prog 75 101 8 (uv 0):=by
 obtain ⟨i0,hi,hz0,hz1,hz2⟩:=info_parts Tryz.infoU
 exact ⟨Tryz.underlying75,rfl,i0,hi,hz0,hz1,hz2⟩
theorem zdD (n:Int) (w:World) (h0:0≤n) (h1:n≤64):Calls Tryz.prog 172 #[.int .i64 n] w fun e w'=>e=.returned (.bool true)∧w=w':=by
 go_enter Tryz.func172,Tryz.ntmps172
 go_wp2
 go_ret
 exact ⟨rfl,rfl⟩
theorem zhQ (n:Int) (w:World) (h:n < 0∨64 < n):Calls Tryz.prog 172 #[.int .i64 n] w fun e w'=>e=.returned (.bool false)∧w=w':=by
 rcases h with h | h
 ·have h2:decide (0≤n)=false:=by simp;omega
  go_enter Tryz.func172,Tryz.ntmps172
  go_wp2
  go_ret
  exact ⟨rfl,rfl⟩
 ·have h2:decide (n≤64)=false:=by simp;omega
  have h3:decide (0≤n)=true:=by simp;omega
  go_enter Tryz.func172,Tryz.ntmps172
  go_wp2
  go_ret
  exact ⟨rfl,rfl⟩
theorem zcM (n:Int) (w:World) (h0:0≤n) (h1:n≤4096):Calls Tryz.prog 173 #[.int .i64 n] w fun e w'=>e=.returned (.bool true)∧w=w':=by
 go_enter Tryz.func173,Tryz.ntmps173
 go_wp2
 go_ret
 exact ⟨rfl,rfl⟩
theorem znb (n:Int) (w:World) (h:n < 0∨4096 < n):Calls Tryz.prog 173 #[.int .i64 n] w fun e w'=>e=.returned (.bool false)∧w=w':=by
 rcases h with h | h
 ·have h2:decide (0≤n)=false:=by simp;omega
  go_enter Tryz.func173,Tryz.ntmps173
  go_wp2
  go_ret
  exact ⟨rfl,rfl⟩
 ·have h2:decide (n≤4096)=false:=by simp;omega
  have h3:decide (0≤n)=true:=by simp;omega
  go_enter Tryz.func173,Tryz.ntmps173
  go_wp2
  go_ret
  exact ⟨rfl,rfl⟩
theorem znc (n:Nat) (w:World) (h:n≤8):Calls Tryz.prog 202 #[.int .i64 (n:Int)] w fun e w'=>e=.returned (.int .u64 ((2 ^ n - 1:Nat):Int))∧w=w':=by
 have h1:2 ^ n≤2 ^ 8:=Nat.pow_le_pow_right (by omega) h
 have h2:1≤2 ^ n:=Nat.one_le_two_pow
 have h3:((2 ^ n:Nat):Int)=2 ^ n:=by simp
 obtain ⟨p,hp⟩:∃ p,p=2 ^ n:=⟨_,rfl⟩
 have HP:=Lib.hid hp
 have H1:=Lib.hid h1
 have H2:=Lib.hid h2
 have H3:=Lib.hid h3
 clear hp h1 h2 h3
 go_enter Tryz.func202,Tryz.ntmps202
 go_wp2
 go_ret
 refine ⟨zQ ?_,rfl⟩
 have h1:=H1.out
 have h2:=H2.out
 rw [←H3.out,←HP.out,IntKind.wrap_u64,IntKind.wrap_u64]
 rw [←HP.out] at h1 h2
 omega
theorem zeE {m w:Nat} (hm:m≤4096) (hw:w≤64):m*w≤262144:=Nat.mul_le_mul hm hw
theorem zoL (m w:Nat) (W:World) (hm:m≤4096) (hw:w≤64):Calls Tryz.prog 174 #[.int .i64 (m:Int),.int .i64 (w:Int)] W fun e w'=>e=.returned (.int .i64 (zW m w:Int))∧W=w':=by
 obtain ⟨p,hp⟩:∃ p:Int,p=(m:Int)*(w:Int):=⟨_,rfl⟩
 have hp0:0≤(m:Int)*(w:Int):=by rw [←Int.natCast_mul];omega
 have hp1:(m:Int)*(w:Int)≤262144:=by rw [←Int.natCast_mul];have:=zeE hm hw;omega
 have HB:Hid ((zW m w:Int)=((m:Int)*(w:Int)+7) / 8):=Lib.hid (by unfold zW;simp)
 clear hp p
 go_enter Tryz.func174,Tryz.ntmps174
 go_wp2_with (first | (go_at_call 173;refine (zcM _ _ (by omega) (by omega)).mono ?_;rintro e w' ⟨rfl,rfl⟩) | (go_at_call 172;refine (zdD _ _ (by omega) (by omega)).mono ?_;rintro e w' ⟨rfl,rfl⟩))
 go_ret
 refine ⟨zQ ?_,rfl⟩
 rw [HB.out]
 first | rfl | (congr 1;omega)
theorem zml (m w:Nat) (W:World) (hm:m≤4096) (hw:w≤64):Calls Tryz.prog 109 #[.int .i64 (m:Int),.int .i64 (w:Int)] W fun e w'=>e=.returned (.int .i64 (zW m w:Int))∧W=w':=by
 have hp0:0≤(m:Int)*(w:Int):=by rw [←Int.natCast_mul];omega
 have hp1:(m:Int)*(w:Int)≤262144:=by rw [←Int.natCast_mul];have:=zeE hm hw;omega
 have HB:Hid ((zW m w:Int)=((m:Int)*(w:Int)+7) / 8):=Lib.hid (by unfold zW;simp)
 have d1:decide ((4096:Int) < (m:Int))=false:=by simp;omega
 have d2:decide ((64:Int) < (w:Int))=false:=by simp;omega
 go_enter Tryz.func109,Tryz.ntmps109
 go_wp2
 go_ret
 exact ⟨zQ HB.out.symm,rfl⟩
def IsU (l:List Nat) (v:Value) (w:World):Prop:=∃ A c,v=.slice A l.length c∧(A=none→l.length=0)∧l.length≤c∧c≤maxLen∧Lies w A (l.map uv)
theorem IsU.below {l:List Nat} {v:Value} {w w':World} (h:IsU l v w) (hb:Below w.heap.size w w'):IsU l v w':=by
 obtain ⟨A,c,h1,h2,h3,h4,h5⟩:=h
 exact ⟨A,c,h1,h2,h3,h4,h5.below hb⟩
theorem zs7 (l:List Nat):∀ u∈l.map uv,u.oneCell'=true:=by
 intro u hu
 obtain ⟨b,_,rfl⟩:=List.mem_map.1 hu
 rfl
structure Putter (g b a m t:Nat) (out:List UInt8) (w:World):Prop where
 gb:g < b
 ba:b < a
 len:out.length=m
 row:Row w g 5 (out.map bv)
 box:Row w b 38 [.slice (some ⟨g,0,none⟩) m m]
 pos:Row w a 3 [.int .i64 (t:Int)]
theorem Putter.drewN {g b a m t:Nat} {out:List UInt8} {w:World} (h:Putter g b a m t out w) (n:Nat):Putter g b a m t out (w.drewN n):=⟨h.gb,h.ba,h.len,h.row,h.box,h.pos⟩
def zss (g b a m t W V x:Nat) (w:World) (v:Value) (wr:World):Prop:=
 ∃ (k:Nat) (out:List UInt8),v=.int .i64 (k:Int)∧k≤W∧Putter g b a m (t+W - k) out wr∧bval out=(V*2 ^ (W - k)+x / 2 ^ k)*2 ^ (8*m - (t+W - k))∧Below g w wr
def zst (g b a m t V:Nat) (w:World) (e:Ending) (w':World):Prop:=
 ∃ out,e=.returned (.tuple #[])∧Putter g b a m t out w'∧bval out=V*2 ^ (8*m - t)∧Below g w w'
theorem Putter.step {g b a m t:Nat} {out:List UInt8} {w:World} (h:Putter g b a m t out w) (q t' C:Nat) (hC:C < 256) :
  Putter g b a m t' (out.set q (UInt8.ofNat C)) ((w.setCell ⟨g,q,none⟩ (.int .u8 (C:Int))).setCell ⟨a,0,none⟩ (.int .i64 (t':Int))):=by
 have hga:g≠a:=by have:=h.gb;have:=h.ba;omega
 have hba:b≠a:=by have:=h.ba;omega
 have hbg:b≠g:=by have:=h.gb;omega
 refine ⟨h.gb,h.ba,by rw [List.length_set];exact h.len,?_,?_,?_⟩
 ·refine Row.far ?_ hga _
  have h1:=h.row.set_ q (.int .u8 (C:Int))
  have h2:Value.int .u8 (C:Int)=bv (UInt8.ofNat C):=by
   unfold bv
   congr 1
   simp only [UInt8.toNat_ofNat',Nat.reducePow]
   omega
  rw [List.map_set,←h2]
  exact h1
 ·exact Row.far (Row.far h.box hbg _) hba _
 ·exact (Row.far h.pos (Ne.symm hga) _).set_ 0 (.int .i64 (t':Int))
theorem zmm (n L:Nat) (w:World) (h:n≤8) (hL:L=2 ^ n - 1):Calls Tryz.prog 202 #[.int .i64 (n:Int)] w fun e w'=>e=.returned (.int .u64 (L:Int))∧w'=w:=by
 subst hL
 exact (znc n w h).mono fun _ _ ⟨h1,h2⟩=>⟨h1,h2.symm⟩
theorem zqR (g b a m t W V x:Nat) (out:List UInt8) (w:World) (hp:Putter g b a m t out w) (hv:bval out=V*2 ^ (8*m - t)) (hW:W≤64) (ht:t+W≤8*m) (hm:m≤100000) (hx:x < 2 ^ W) :
  Calls Tryz.prog 201 #[.int .u64 (x:Int),.int .i64 (W:Int),.pointer (some ⟨a,0,none⟩),.pointer (some ⟨b,0,none⟩)] w (zst g b a m (t+W) (V*2 ^ W+x) w):=by
 have HX:=Lib.hid hx
 have HV:=Lib.hid hv
 clear hx hv
 go_enter Tryz.func201,Tryz.ntmps201
 go_wp2
 go_loopw [1] (zss g b a m t W V x w) (fun v _=>(intOf v).toNat)
 case atStart =>
  refine ⟨W,out,rfl,Nat.le_refl _,by rw [Nat.add_sub_cancel];exact hp,?_,Below.refl _ _⟩
  rw [Nat.add_sub_cancel,Nat.sub_self,Nat.pow_zero,Nat.mul_one,Nat.div_eq_of_lt HX.out,Nat.add_zero]
  exact HV.out
 case round =>
  obtain ⟨k,o,rfl,hk,hP,hval,hb⟩:=hrel
  have HVal:=Lib.hid hval
  clear hval
  obtain ⟨T,hT⟩:∃ T,T=t+W - k:=⟨_,rfl⟩
  rw [←hT] at hP
  have HT:=Lib.hid hT
  clear hT
  have hc1:=hP.pos.cell 0
  have hc2:=hP.box.cell 0
  have hf1:=hP.pos.free 0
  by_cases hk0:0 < k
  ·have hT8:T+k≤8*m:=by have:=HT.out;omega
   obtain ⟨r,hr⟩:∃ r,r=8 - T % 8:=⟨_,rfl⟩
   obtain ⟨n,hn⟩:∃ n,n=min r k:=⟨_,rfl⟩
   obtain ⟨j,hj⟩:∃ j,j=k - n:=⟨_,rfl⟩
   obtain ⟨d,hd⟩:∃ d,d=r - n:=⟨_,rfl⟩
   obtain ⟨q,hq⟩:∃ q,q=T / 8:=⟨_,rfl⟩
   have hri:IntKind.i64.wrap (8 - (T:Int) % 8)=(r:Int):=by rw [IntKind.wrap_i64];omega
   have hmin:∀ (ts:Array TypeId) (t:TypeId) (W:World),(Builtin.min_ ts t #[.int .i64 (r:Int),.int .i64 (k:Int)]).run Tryz.prog W=.ok (.int .i64 (n:Int)) W:=fun ts t W=>by
    rw [run_min_int2]
    congr 2
    split <;> omega
   have hki:IntKind.i64.wrap ((k:Int) - (n:Int))=(j:Int):=by rw [IntKind.wrap_i64];omega
   have hdi:IntKind.i64.wrap ((r:Int) - (n:Int))=(d:Int):=by rw [IntKind.wrap_i64];omega
   have hwq:IntKind.i64.wrap (q:Int)=(q:Int):=by rw [IntKind.wrap_i64];omega
   have hqi:(T:Int) / 8=(q:Int):=by omega
   have hqm:(q:Int) < (m:Int):=by omega
   have hr8:r≤8:=by omega
   have hn8:n≤8:=by omega
   have hd8:d≤8:=by omega
   have hj64:j≤64:=by omega
   have hn0:0 < n:=by omega
   have hnk:n≤k:=by omega
   have HR:=Lib.hid hr
   have HN:=Lib.hid hn
   have HJ:=Lib.hid hj
   have HD:=Lib.hid hd
   have HQ:=Lib.hid hq
   clear hr hn hj hd hq
   obtain ⟨L,hL⟩:∃ L,L=2 ^ n - 1:=⟨_,rfl⟩
   have HL:=Lib.hid hL
   obtain ⟨P,hP0⟩:∃ P,P=x / 2 ^ j % 2 ^ n:=⟨_,rfl⟩
   have hand:=zld x j n L (by have:=HX.out;have:2 ^ W≤2 ^ 64:=Nat.pow_le_pow_right (by omega) hW;omega) hn8 hL
   rw [←hP0] at hand
   have HP0:=Lib.hid hP0
   clear hL hP0
   go_wp2
   go_quiet ((go_at_call 202;exact Calls.quiet_of_same (zmm _ L _ (by omega) HL.out)))
   go_wp2
   refine zeB 13 (by kernel_rfl) (by kernel_rfl) ?_
   have hP2:=hP.drewN (nq+1)
   have hb2:=below_drewN hb (nq+1)
   rw [World.drew_drewN]
   clear hc1 hc2 hf1 hP hb hand
   generalize wr.drewN (nq+1)=w2 at *
   have hc1:=hP2.pos.cell 0
   have hc2:=hP2.box.cell 0
   have hf1:=hP2.pos.free 0
   have hqo:q < o.length:=by have:=hP2.len;omega
   obtain ⟨B,hB⟩:∃ B,B=o[q].toNat:=⟨_,rfl⟩
   have hcB:w2.cell? ⟨g,q,none⟩=some (.int .u8 (B:Int)):=by
    rw [hP2.row.cell,List.getElem?_map,List.getElem?_eq_getElem hqo,hB];rfl
   have hfB:=hP2.row.free q
   obtain ⟨hk2,hl1,hl2,hl3,hl4⟩:=zoJ (piece:=P) HQ.out HR.out HD.out hP2.len hn0 (by have:=HN.out;omega) (by omega) (by rw [HP0.out];exact Nat.mod_lt _ (Nat.pow_pos (by omega))) (by rw [HT.out];exact HVal.out)
   rw [←hB] at hl1 hl2 hl4
   obtain ⟨S,hS⟩:∃ S,S=P*2 ^ d:=⟨_,rfl⟩
   rw [←hS] at hl2 hl3 hl4
   have hsh:IntKind.u64.wrap ((P:Int)*2 ^ d)=(S:Int):=by
    rw [IntKind.wrap_u64,show (P:Int)*2 ^ d=(S:Int) by rw [hS];simp];omega
   have hs8:IntKind.u8.wrap (S:Int)=(S:Int):=by rw [IntKind.wrap_u8];omega
   have hs9:(S:Int) % 256=(S:Int):=by omega
   obtain ⟨C,hC⟩:∃ C,C=B+S:=⟨_,rfl⟩
   have hor:=zso r B S hl1 hl3 hl2
   rw [←hC] at hor hl2 hl4
   have hga:g≠a:=by have:=hP2.gb;have:=hP2.ba;omega
   have hc3:(w2.setCell ⟨g,q,none⟩ (.int .u8 (C:Int))).cell? ⟨a,0,none⟩=some (.int .i64 (T:Int)):=(Row.far hP2.pos (Ne.symm hga) _).cell 0
   have hf3:(w2.setCell ⟨g,q,none⟩ (.int .u8 (C:Int))).frozen? ⟨a,0,none⟩=false:=(Row.far hP2.pos (Ne.symm hga) _).free 0
   have HL4:=Lib.hid hl4
   have HL2:=Lib.hid hl2
   clear hS hC hl1 hl2 hl3 hl4 hB
   simp only [List.take_succ_cons,List.take_zero,List.drop_succ_cons,List.drop_zero]
   repeat still_step
   refine wpStill_nil ?_
   go_wp2
   go_roundw
   case rel =>
    have hT2:T+n=t+W - j:=by have:=HT.out;have:=HJ.out;omega
    have hjk:j=k - n:=HJ.out
    refine ⟨j,o.set q (UInt8.ofNat C),rfl,by omega,?_,?_,(hb2.setCell (Nat.le_refl _) _).setCell (by have:=hP2.gb;have:=hP2.ba;show g≤a;omega) _⟩
    ·have h5:=hP2.step q (T+n) C HL2.out
     rw [Int.natCast_add] at h5
     rw [←hT2]
     exact h5
    ·rw [HL4.out,←hT2,HP0.out,hjk,zfv V x W k n hk hnk]
   case measure=>simp [intOf];have:=HJ.out;omega
  ·obtain rfl:k=0:=by omega
   go_wp2
   go_end0
   refine ⟨o,rfl,?_,?_,hb⟩
   ·have:=HT.out
    rw [show t+W=T by omega]
    exact hP
   ·have:=HVal.out
    rw [Nat.sub_zero,Nat.sub_zero,Nat.pow_zero,Nat.div_one] at this
    exact this
def znd (g m:Nat) (out:List UInt8) (w:World) (e:Ending) (w':World):Prop:=
 e=.returned (.func (.func 201) #[] #[.pointer (some ⟨w.heap.size+1,0,none⟩),.pointer (some ⟨w.heap.size,0,none⟩)])∧Putter g w.heap.size (w.heap.size+1) m 0 out w'∧Below w.heap.size w w'
theorem zne (g m:Nat) (out:List UInt8) (w:World) (hr:Row w g 5 (out.map bv)) (hl:out.length=m) :
  Calls Tryz.prog 175 #[.slice (some ⟨g,0,none⟩) m m] w (znd g m out w):=by
 have HL:=Lib.hid hl
 clear hl
 go_enter Tryz.func175,Tryz.ntmps175
 go_wp2
 go_ret
 have hg:=hr.lt
 have h1:Row (w.alloc (.cells #[.slice (some ⟨g,0,none⟩) m m] 38)) w.heap.size 38 [.slice (some ⟨g,0,none⟩) m m]:=heap_alloc_new w _
 refine ⟨rfl,⟨hg,by omega,HL.out,(hr.alloc _).alloc _,h1.alloc _,?_⟩,((Below.refl _ _).alloc (Nat.le_refl _) _).alloc (by simp) _⟩
 have h2:=heap_alloc_new (w.alloc (.cells #[.slice (some ⟨g,0,none⟩) m m] 38)) (.cells #[.int .i64 0] 3)
 have h3:(w.alloc (.cells #[.slice (some ⟨g,0,none⟩) m m] 38)).heap.size=w.heap.size+1:=by simp
 rw [h3] at h2
 exact h2
def zjw (l:List Nat) (W:Nat):List UInt8 × Int:=if l.all (fun x=>decide (x < 2 ^ W)) then (zby l W,0) else ([],1)
theorem zdE {l:List Nat} {W:Nat} (h:∀ x∈l,x < 2 ^ W):zjw l W=(zby l W,0):=by
 unfold zjw;rw [if_pos (by simpa using h)]
theorem zmn {l:List Nat} {W x:Nat} (hx:x∈l) (h:¬x < 2 ^ W):zjw l W=([],1):=by
 unfold zjw;rw [if_neg (by simp;exact ⟨x,hx,by omega⟩)]
def zsu (l:List Nat) (g b a m W:Nat) (w:World) (i:Value) (wr:World):Prop:=
 ∃ (k:Nat) (out:List UInt8),i=.int .i64 (k:Int)∧k≤l.length∧Putter g b a m (W*k) out wr∧bval out=pval W (l.take k)*2 ^ (8*m - W*k)∧(∀ x∈l.take k,x < 2 ^ W)∧Below w.heap.size w wr
theorem zqS (A:Option Addr) (n c:Nat) (l:List Nat) (W:Nat) (w:World) (hn:l.length=n) (hn4:n≤4096) (hW:W≤64) (hl:Lies w A (l.map uv)) (h64:∀ x∈l,x < 2 ^ 64) :
  Calls Tryz.prog 140 #[.slice A n c,.int .i64 (W:Int)] w (RetEO w (zjw l W)):=by
 have HN:=Lib.hid hn
 have H64:=Lib.hid h64
 clear hn h64
 obtain ⟨m,hm⟩:∃ m,m=zW n W:=⟨_,rfl⟩
 have hmW:W*n≤8*m:=by rw [hm];exact zdC n W
 have hm4:m≤32768:=by have:=zeE hn4 hW;unfold zW at hm;omega
 have hsz:=fun w=>zoL n W w hn4 hW
 rw [←hm] at hsz
 have HS:=Lib.hid hsz
 have HM:=Lib.hid hm
 have HMW:=Lib.hid hmW
 clear hsz hm hmW
 go_enter Tryz.func140,Tryz.ntmps140
 go_wp2_with (first | (go_at_call 173;refine (zcM _ _ (by omega) (by omega)).mono ?_;rintro e w' ⟨rfl,rfl⟩) | (go_at_call 172;refine (zdD _ _ (by omega) (by omega)).mono ?_;rintro e w' ⟨rfl,rfl⟩) | (go_at_call 174;refine (HS.out _).mono ?_;rintro e w' ⟨rfl,rfl⟩) | (refine zA elemB rfl _ _ rfl _ _ _ _ m w w.heap.size rfl rfl ?_ ?_ (by omega) (by omega) (Below.refl _ _) (Nat.le_refl _) ?_))
 ·rfl
 ·rfl
 intro w1 hr1 hb1
 have hr2:Row w1 w.heap.size 5 ((List.replicate m (0:UInt8)).map bv):=by simpa using hr1
 go_wp2_with fail
 refine (zne w.heap.size m (List.replicate m 0) w1 hr2 (by simp)).mono ?_
 rintro e w2 ⟨rfl,hP,hb2⟩
 obtain ⟨b,hbz⟩:∃ b,b=w1.heap.size:=⟨_,rfl⟩
 rw [←hbz] at hP ⊢
 have hbb:Below w.heap.size w w2:=hb1.trans (hb2.mono hb1.size)
 clear hr1 hr2 hb1 hb2 hbz
 go_wp2
 go_loopw [26] (zsu l w.heap.size b (b+1) m W w) (fun i _=>n - (intOf i).toNat)
 case atStart=>exact ⟨0,List.replicate m 0,rfl,by omega,by rw [Nat.mul_zero];exact hP,by rw [zhN];simp [pval],by simp,hbb⟩
 case round =>
  obtain ⟨k,out,rfl,hk,hP,hval,hall,hb⟩:=hrel
  have HV:=Lib.hid hval
  have HA:=Lib.hid hall
  clear hval hall
  have hk':k≤n:=by have:=HN.out;omega
  by_cases hlt:k < n
  ·have hkl:k < l.length:=by have:=HN.out;omega
   obtain ⟨ad,rfl,_,hcell⟩:=(hl.below hb).cell (k:=k) (by simpa using hkl)
   obtain ⟨x,hx⟩:∃ x:Nat,x=l[k]:=⟨_,rfl⟩
   have hcx:wr.cell? (ad.add k)=some (.int .u64 (x:Int)):=by rw [hcell,List.getElem_map,hx];rfl
   have hxm:x∈l:=by rw [hx];exact List.getElem_mem hkl
   have HX:=Lib.hid hx
   clear hx hcell
   by_cases hx2:x < 2 ^ W
   ·have hz:(x:Int) / 2 ^ W=0:=by
     have:((x / 2 ^ W:Nat):Int)=0:=by rw [Nat.div_eq_of_lt hx2];rfl
     simpa using this
    have hstep:W*k+W≤8*m:=by
     have h1:W*(k+1)≤W*n:=Nat.mul_le_mul_left _ hlt
     have:=HMW.out
     rw [Nat.mul_add,Nat.mul_one] at h1
     omega
    have HX2:=Lib.hid hx2
    clear hx2
    go_wp2_with (go_at_call 201;refine (zqR _ _ _ m _ W _ x out _ hP HV.out hW hstep (by omega) HX2.out).mono ?_;rintro e w3 ⟨out',rfl,hP',hv',hb'⟩)
    go_roundw
    case rel =>
     refine ⟨k+1,out',by go_num,by omega,by rw [Nat.mul_add,Nat.mul_one];exact hP',?_,?_,hb.trans hb'⟩
     ·rw [hv',List.take_succ_eq_append_getElem hkl,zgE,←HX.out,Nat.mul_add,Nat.mul_one]
     ·intro y hy
      rw [List.take_succ_eq_append_getElem hkl,List.mem_append] at hy
      rcases hy with hy | hy
      ·exact HA.out y hy
      ·rw [List.mem_singleton.1 hy,←HX.out];exact HX2.out
    case measure=>simp [intOf];omega
   ·obtain ⟨y,hy⟩:∃ y,y=x / 2 ^ W:=⟨_,rfl⟩
    have hz:(x:Int) / 2 ^ W=(y:Int):=by rw [hy];simp
    have hy0:y≠0:=by
     rw [hy]
     intro h
     rcases Nat.div_eq_zero_iff.1 h with h | h
     ·have:=Nat.two_pow_pos W;omega
     ·exact hx2 h
    have d1:((y:Int) != 0)=true:=by simpa using hy0
    have HNo:=Lib.hid (zmn hxm hx2)
    clear hx2 hy hy0
    go_wp2
    go_ret2
    rw [HNo.out]
    exact RetEO.nil _ hb
  ·obtain rfl:k=n:=by omega
   have hall:∀ x∈l,x < 2 ^ W:=by
    have:=HA.out
    rw [List.take_of_length_le (by have:=HN.out;omega)] at this
    exact this
   have HAll:=Lib.hid hall
   clear hall
   go_wp2
   go_ret2
   rw [zdE HAll.out]
   have hv:=HV.out
   rw [List.take_of_length_le (by have:=HN.out;omega)] at hv
   have hob:out=zby l W:=by
    unfold zby
    rw [HN.out,←HM.out]
    exact zoH hP.len hv
   exact ⟨_,rfl,by rw [←hob,hP.len];exact zcI hP.row (by rw [List.length_map];exact hP.len) (Nat.le_refl _) (by omega),hb⟩
theorem zqT (A:Option Addr) (n c:Nat) (W:Int) (w:World) (hW:W < 0∨64 < W) :
  Calls Tryz.prog 140 #[.slice A n c,.int .i64 W] w (RetEO w ([],1)):=by
 go_enter Tryz.func140,Tryz.ntmps140
 go_wp2_with (go_at_call 172;refine (zhQ _ _ (by omega)).mono ?_;rintro e w' ⟨rfl,rfl⟩)
 go_ret2
 exact RetEO.nil _ (Below.refl _ _)
def zcF (l:List Nat) (W:Int):List UInt8 × Int:=if W < 0∨64 < W then ([],1) else zjw l W.toNat
theorem zb6 (l:List Nat) (W:Nat) (h:W≤64):zcF l W=zjw l W:=by unfold zcF;rw [if_neg (by omega),Int.toNat_natCast]
theorem zmo {l:List Nat} {v:Value} {w:World} (W:Int) (hl:IsU l v w) (h4:l.length≤4096) (h64:∀ x∈l,x < 2 ^ 64) :
  Calls Tryz.prog 140 #[v,.int .i64 W] w (RetEO w (zcF l W)):=by
 obtain ⟨A,c,rfl,_,_,_,h3⟩:=hl
 by_cases h:W < 0∨64 < W
 ·unfold zcF
  rw [if_pos h]
  exact zqT _ _ _ _ _ h
 ·obtain ⟨K,rfl⟩:=Int.eq_ofNat_of_zero_le (show 0≤W by omega)
  rw [zb6 _ _ (by omega)]
  exact zqS A _ c l K w rfl h4 (by omega) h3 h64
theorem zle {l:List Nat} {v:Value} {w:World} (W:Int) (hl:IsU l v w) (h4:l.length≤4096) (h64:∀ x∈l,x < 2 ^ 64) :
  Calls Tryz.prog 140 #[v,.int .i64 W] w (RetE w (zcF l W)):=(zmo W hl h4 h64).mono fun _ _ h=>h.e
structure Taker (z b a m c t:Nat) (A:Option Addr) (l:List UInt8) (w:World):Prop where
 zb:z≤b
 ba:b < a
 len:l.length=m
 old:∃ w0,Lies w0 A (l.map bv)∧w0.heap.size≤z∧Below w0.heap.size w0 w
 box:Row w b 38 [.slice A m c]
 pos:Row w a 3 [.int .i64 (t:Int)]
theorem Taker.drewN {z b a m c t:Nat} {A:Option Addr} {l:List UInt8} {w:World} (h:Taker z b a m c t A l w) (n:Nat):Taker z b a m c t A l (w.drewN n):=
 ⟨h.zb,h.ba,h.len,h.old.elim fun w0 ⟨h1,h2,h3⟩=>⟨w0,h1,h2,below_drewN h3 n⟩,h.box,h.pos⟩
theorem Taker.lies {z b a m c t:Nat} {A:Option Addr} {l:List UInt8} {w:World} (h:Taker z b a m c t A l w):Lies w A (l.map bv):=
 h.old.elim fun _ ⟨h1,_,h3⟩=>h1.below h3
theorem Taker.step {z b a m c t:Nat} {A:Option Addr} {l:List UInt8} {w:World} (h:Taker z b a m c t A l w) (t':Nat):Taker z b a m c t' A l (w.setCell ⟨a,0,none⟩ (.int .i64 (t':Int))):=by
 refine ⟨h.zb,h.ba,h.len,?_,?_,h.pos.set_ 0 _⟩
 ·obtain ⟨w0,h1,h2,h3⟩:=h.old
  have:=h.ba
  have:=h.zb
  exact ⟨w0,h1,h2,h3.setCell (show w0.heap.size≤a by omega) _⟩
 ·exact Row.far h.box (show b≠a by have:=h.ba;omega) _
theorem Taker.far {z b a m c t:Nat} {A:Option Addr} {l:List UInt8} {w:World} (h:Taker z b a m c t A l w) {g:Nat} (hg:z≤g) (hgb:g < b) (k:Nat) (u:Value):Taker z b a m c t A l (w.setCell ⟨g,k,none⟩ u):=by
 have:=h.ba
 refine ⟨h.zb,h.ba,h.len,?_,Row.far h.box (show b≠g by omega) _,Row.far h.pos (show a≠g by omega) _⟩
 obtain ⟨w0,h1,h2,h3⟩:=h.old
 exact ⟨w0,h1,h2,h3.setCell (show w0.heap.size≤g by omega) _⟩
def zqU (z b a m c t W:Nat) (A:Option Addr) (l:List UInt8) (w:World) (v x:Value) (wr:World):Prop:=
 ∃ k:Nat,v=.int .i64 (k:Int)∧k≤W∧x=.int .u64 ((zcg (bval l) (8*m) t (W - k):Nat):Int)∧Taker z b a m c (t+W - k) A l wr∧Below a w wr
def zqV (z b a m c t W:Nat) (A:Option Addr) (l:List UInt8) (w:World) (e:Ending) (w':World):Prop:=
 e=.returned (.int .u64 ((zcg (bval l) (8*m) t W:Nat):Int))∧Taker z b a m c (t+W) A l w'∧Below a w w'
theorem zjx (z b a m c t W:Nat) (A:Option Addr) (l:List UInt8) (w:World) (hp:Taker z b a m c t A l w) (hW:W≤64) (ht:t+W≤8*m) (hm:m≤100000) :
  Calls Tryz.prog 203 #[.int .i64 (W:Int),.pointer (some ⟨a,0,none⟩),.pointer (some ⟨b,0,none⟩)] w (zqV z b a m c t W A l w):=by
 go_enter Tryz.func203,Tryz.ntmps203
 go_wp2
 go_loopw [0,5] (zqU z b a m c t W A l w) (fun v _ _=>(intOf v).toNat)
 case atStart=>exact ⟨W,rfl,Nat.le_refl _,by rw [Nat.sub_self,zhO];rfl,by rw [Nat.add_sub_cancel];exact hp,Below.refl _ _⟩
 case round =>
  obtain ⟨k,rfl,hk,rfl,hP,hb⟩:=hrel
  obtain ⟨T,hT⟩:∃ T,T=t+W - k:=⟨_,rfl⟩
  rw [←hT] at hP
  obtain ⟨X,hX⟩:∃ X,X=zcg (bval l) (8*m) t (W - k):=⟨_,rfl⟩
  rw [←hX]
  have HT:=Lib.hid hT
  have HX:=Lib.hid hX
  clear hT hX
  have hc1:=hP.pos.cell 0
  have hc2:=hP.box.cell 0
  have hf1:=hP.pos.free 0
  by_cases hk0:0 < k
  ·have hT8:T+k≤8*m:=by have:=HT.out;omega
   obtain ⟨r,hr⟩:∃ r,r=8 - T % 8:=⟨_,rfl⟩
   obtain ⟨n,hn⟩:∃ n,n=min r k:=⟨_,rfl⟩
   obtain ⟨j,hj⟩:∃ j,j=k - n:=⟨_,rfl⟩
   obtain ⟨d,hd⟩:∃ d,d=r - n:=⟨_,rfl⟩
   obtain ⟨q,hq⟩:∃ q,q=T / 8:=⟨_,rfl⟩
   have hri:IntKind.i64.wrap (8 - (T:Int) % 8)=(r:Int):=by rw [IntKind.wrap_i64];omega
   have hmin:∀ (ts:Array TypeId) (t:TypeId) (W:World),(Builtin.min_ ts t #[.int .i64 (r:Int),.int .i64 (k:Int)]).run Tryz.prog W=.ok (.int .i64 (n:Int)) W:=fun ts t W=>by
    rw [run_min_int2]
    congr 2
    split <;> omega
   have hki:IntKind.i64.wrap ((k:Int) - (n:Int))=(j:Int):=by rw [IntKind.wrap_i64];omega
   have hdi:IntKind.i64.wrap ((r:Int) - (n:Int))=(d:Int):=by rw [IntKind.wrap_i64];omega
   have hwq:IntKind.i64.wrap (q:Int)=(q:Int):=by rw [IntKind.wrap_i64];omega
   have hqi:(T:Int) / 8=(q:Int):=by omega
   have hqm:(q:Int) < (m:Int):=by omega
   have hr8:r≤8:=by omega
   have hn8:n≤8:=by omega
   have hd8:d≤8:=by omega
   have hn0:0 < n:=by omega
   have hnk:n≤k:=by omega
   have hnr:n≤r:=by omega
   obtain ⟨hql,htb⟩:=zmk hq hr hd hP.len hnr hn0 (show T+n≤8*m by omega)
   have HR:=Lib.hid hr
   have HJ:=Lib.hid hj
   have HD:=Lib.hid hd
   have HQ:=Lib.hid hq
   clear hr hn hj hd hq
   obtain ⟨L,hL⟩:∃ L,L=2 ^ n - 1:=⟨_,rfl⟩
   have HL:=Lib.hid hL
   obtain ⟨ad,rfl,_,hcell⟩:=hP.lies.cell (k:=q) (by simpa using hql)
   obtain ⟨B,hB⟩:∃ B,B=l[q].toNat:=⟨_,rfl⟩
   have hB8:(B:Int) < 256:=by have:=l[q].toNat_lt;omega
   have hcB:wr.cell? (ad.add q)=some (.int .u8 (B:Int)):=by rw [hcell,List.getElem_map,hB];rfl
   obtain ⟨P,hP0⟩:∃ P,P=B / 2 ^ d % 2 ^ n:=⟨_,rfl⟩
   have hand:=zld B d n L (by omega) hn8 hL
   rw [←hP0] at hand
   rw [←hB,←hP0] at htb
   have hPn:P < 2 ^ n:=by rw [hP0];exact Nat.mod_lt _ (Nat.pow_pos (by omega))
   obtain ⟨Y,hY⟩:∃ Y,Y=X*2 ^ n:=⟨_,rfl⟩
   have hsum:Y+P=zcg (bval l) (8*m) t (W - j):=by
    have h1:=zjv (B:=bval l) (M:=8*m) (at_:=t) (a:=W - k) (n:=n) (by have:=HT.out;omega)
    rw [hY,HX.out,htb,HT.out,show t+W - k=t+(W - k) by omega,h1]
    congr 1
    have:=HJ.out
    omega
   have hlt64:Y+P < 2 ^ 64:=by
    rw [hsum]
    have h1:=ziK (bval l) (8*m) t (W - j)
    have h2:2 ^ (W - j)≤2 ^ 64:=Nat.pow_le_pow_right (by omega) (by omega)
    omega
   have hsh:IntKind.u64.wrap ((X:Int)*2 ^ n)=(Y:Int):=by
    rw [IntKind.wrap_u64,show (X:Int)*2 ^ n=(Y:Int) by rw [hY];simp];omega
   have hor:=zlc n Y P (by rw [hY];exact Nat.mul_mod_left _ _) hPn hlt64
   rw [hsum] at hor
   obtain ⟨Z,hZ⟩:∃ Z,Z=zcg (bval l) (8*m) t (W - j):=⟨_,rfl⟩
   rw [←hZ] at hor
   have HZ:=Lib.hid hZ
   have HB8:=Lib.hid hB8
   clear hL hP0 hB hY hZ hsum hlt64 htb hcell hPn
   go_wp2
   go_quiet ((go_at_call 202;exact Calls.quiet_of_same (zmm _ L _ (by omega) HL.out)))
   have hP2:=hP.drewN nq
   have hb2:=below_drewN hb nq
   clear hc1 hc2 hf1 hP hb hand hcB
   generalize wr.drewN nq=w2 at *
   have hc1:=hP2.pos.cell 0
   have hf1:=hP2.pos.free 0
   go_wp2
   go_roundw
   case rel =>
    have hT2:T+n=t+W - j:=by have:=HT.out;have:=HJ.out;omega
    refine ⟨j,rfl,by have:=HJ.out;omega,by rw [HZ.out],?_,hb2.setCell (Nat.le_refl _) _⟩
    have h5:=hP2.step (T+n)
    rw [Int.natCast_add] at h5
    rw [←hT2]
    exact h5
   case measure=>simp [intOf];have:=HJ.out;omega
  ·obtain rfl:k=0:=by omega
   go_wp2
   go_ret
   refine ⟨by rw [←Nat.sub_zero W,←HX.out];rfl,?_,hb⟩
   have:=HT.out
   rw [show t+W=T by omega]
   exact hP
def zoM (z m c:Nat) (A:Option Addr) (l:List UInt8) (w:World) (e:Ending) (w':World):Prop:=
 e=.returned (.func (.func 203) #[] #[.pointer (some ⟨w.heap.size+1,0,none⟩),.pointer (some ⟨w.heap.size,0,none⟩)])∧Taker z w.heap.size (w.heap.size+1) m c 0 A l w'∧Below w.heap.size w w'
theorem zoN (m c:Nat) (A:Option Addr) (l:List UInt8) (w w0:World) (hr:Lies w0 A (l.map bv)) (hb0:Below w0.heap.size w0 w) (hl:l.length=m) :
  Calls Tryz.prog 176 #[.slice A m c] w (zoM w0.heap.size m c A l w):=by
 have HL:=Lib.hid hl
 clear hl
 go_enter Tryz.func176,Tryz.ntmps176
 go_wp2
 go_ret
 have h1:Row (w.alloc (.cells #[.slice A m c] 38)) w.heap.size 38 [.slice A m c]:=heap_alloc_new w _
 have hb:Below w.heap.size w ((w.alloc (.cells #[.slice A m c] 38)).alloc (.cells #[.int .i64 0] 3)):=((Below.refl _ _).alloc (Nat.le_refl _) _).alloc (by simp) _
 refine ⟨rfl,⟨hb0.size,by omega,HL.out,⟨w0,hr,Nat.le_refl _,hb0.trans (hb.mono hb0.size)⟩,h1.alloc _,?_⟩,hb⟩
 have h2:=heap_alloc_new (w.alloc (.cells #[.slice A m c] 38)) (.cells #[.int .i64 0] 3)
 have h3:(w.alloc (.cells #[.slice A m c] 38)).heap.size=w.heap.size+1:=by simp
 rw [h3] at h2
 exact h2
def zbo (l:List UInt8) (M W:Nat):List Nat × List UInt8 × Int:=
 if l.length < zW M W then ([],[],2) else if bval (l.take (zW M W)) % 2 ^ (8*zW M W - W*M)=0 then (zcA (bval (l.take (zW M W))) (8*zW M W) W M,l.drop (zW M W),0) else ([],[],2)
def RetUE (w:World) (p:List Nat × List UInt8 × Int) (e:Ending) (w':World):Prop:=
 ∃ u v,e=.returned (.tuple #[u,v,.int .i64 p.2.2])∧IsU p.1 u w'∧IsB p.2.1 v w'∧Below w.heap.size w w'
theorem zsv (w:World):IsU [] (.slice none 0 0) w:=⟨none,0,rfl,by simp,by simp,by unfold maxLen;omega,Lies.nil⟩
theorem RetUE.nil {w w':World} (n:Int) (hb:Below w.heap.size w w'):RetUE w ([],[],n) (.returned (.tuple #[.slice none 0 0,.slice none 0 0,.int .i64 n])) w':=⟨_,_,rfl,zsv _,zdz _,hb⟩
theorem zsw {w:World} {base:Nat} {e:TypeId} {v:Value} {n:Nat} {l:List Nat} (h:w.ownsRow base e 1 v n (l.map uv)):IsU l v w:=by
 obtain ⟨B,c,rfl,hnc,hcm,_,hl,hlen⟩:=zbd h
 rw [List.length_map] at hlen
 subst hlen
 refine ⟨B,c,rfl,?_,hnc,hcm,hl⟩
 intro hB
 subst hB
 rcases hl with hl | ⟨ad,h,_⟩
 ·simpa using hl
 ·cases h
def RetUO (w:World) (p:List Nat × List UInt8 × Int) (e:Ending) (w':World):Prop:=
 ∃ u v,e=.returned (.tuple #[u,v,.int .i64 p.2.2])∧w'.ownsRow w.heap.size 101 1 u p.1.length (p.1.map uv)∧OwnB w p.2.1 v w'∧Below w.heap.size w w'
theorem RetUO.nil {w w':World} (n:Int) (hb:Below w.heap.size w w'):RetUO w ([],[],n) (.returned (.tuple #[.slice none 0 0,.slice none 0 0,.int .i64 n])) w':=⟨_,_,rfl,World.ownsRow_nil _ _ _ _,⟨0,World.ownsRow_nil _ _ _ _⟩,hb⟩
def zs8 (l:List UInt8) (g b a m c M W:Nat) (A:Option Addr) (w:World) (i:Value) (wr:World):Prop:=
 ∃ k:Nat,i=.int .i64 (k:Int)∧k≤M∧Row wr g 101 ((zcA (bval l) (8*m) W k).map uv ++ List.replicate (M - k) (uv 0))∧Taker g b a m c (W*k) A l wr∧Below w.heap.size w wr
theorem zoO (B m W M k:Nat) (hk:k < M):((zcA B (8*m) W k).map uv ++ List.replicate (M - k) (uv 0)).set k (uv (zcg B (8*m) (W*k) W))=(zcA B (8*m) W (k+1)).map uv ++ List.replicate (M - (k+1)) (uv 0):=by
 have hl:((zcA B (8*m) W k).map uv).length=k:=by rw [List.length_map,zbH]
 rw [List.set_append_right _ _ (by omega),hl,Nat.sub_self,show M - k=M - (k+1)+1 by omega,List.replicate_succ,List.set_cons_zero,zfx,List.map_append,List.append_assoc]
 rfl
theorem znf (A:Option Addr) (n c:Nat) (l:List UInt8) (M W:Nat) (w:World) (hA:A=none→n=0) (hn:l.length=n) (hnc:n≤c) (hnb:n≤1000000) (hM:M≤4096) (hW:W≤64) (hl:Lies w A (l.map bv)) :
  Calls Tryz.prog 144 #[.slice A n c,.int .i64 (M:Int),.int .i64 (W:Int)] w (RetUO w (zbo l M W)):=by
 have HN:=Lib.hid hn
 clear hn
 obtain ⟨m,hm⟩:∃ m,m=zW M W:=⟨_,rfl⟩
 have hmW:W*M≤8*m:=by rw [hm];exact zdC M W
 have hm4:m≤32768:=by have:=zeE hM hW;unfold zW at hm;omega
 obtain ⟨p,hp⟩:∃ p,p=W*M:=⟨_,rfl⟩
 have hp4:p≤262144:=by rw [hp,Nat.mul_comm];exact zeE hM hW
 obtain ⟨s,hs⟩:∃ s,s=8*m - p:=⟨_,rfl⟩
 have hs7:s≤7:=by rw [hs,hp,hm];exact zk6 M W
 have hpm:p+s=8*m:=by omega
 have hmul:(M:Int)*(W:Int)=(p:Int):=by rw [hp,Nat.mul_comm];simp
 have hsz:=fun w=>zoL M W w hM hW
 rw [←hm] at hsz
 have HS:=Lib.hid hsz
 have HM:=Lib.hid hm
 have HMW:=Lib.hid hmW
 have HP:=Lib.hid hp
 have HPM:=Lib.hid hpm
 clear hsz hm hmW hp hs hpm
 by_cases hsh:n < m
 ·have hun:zbo l M W=([],[],2):=by unfold zbo;rw [if_pos (by rw [HN.out,←HM.out];exact hsh)]
  have HU:=Lib.hid hun
  clear hun
  go_enter Tryz.func144,Tryz.ntmps144
  go_wp2_with (first | (go_at_call 173;refine (zcM _ _ (by omega) (by omega)).mono ?_;rintro e w' ⟨rfl,rfl⟩) | (go_at_call 172;refine (zdD _ _ (by omega) (by omega)).mono ?_;rintro e w' ⟨rfl,rfl⟩) | (go_at_call 174;refine (HS.out _).mono ?_;rintro e w' ⟨rfl,rfl⟩))
  go_ret3
  rw [HU.out]
  exact RetUO.nil _ (Below.refl _ _)
 ·have hmn:m≤n:=by omega
  obtain ⟨l',hl'⟩:∃ l',l'=l.take m:=⟨_,rfl⟩
  have hl'm:l'.length=m:=by rw [hl',List.length_take];have:=HN.out;omega
  have hlies':Lies w A (l'.map bv):=by rw [hl',List.map_take];exact hl.take m
  have HL':=Lib.hid hl'
  have HLM:=Lib.hid hl'm
  clear hl' hl'm
  go_enter Tryz.func144,Tryz.ntmps144
  go_wp2_with (first | (go_at_call 173;refine (zcM _ _ (by omega) (by omega)).mono ?_;rintro e w' ⟨rfl,rfl⟩) | (go_at_call 172;refine (zdD _ _ (by omega) (by omega)).mono ?_;rintro e w' ⟨rfl,rfl⟩) | (go_at_call 174;refine (HS.out _).mono ?_;rintro e w' ⟨rfl,rfl⟩) | (refine zA elemU rfl _ _ rfl _ _ _ _ M w w.heap.size rfl rfl ?_ ?_ (by omega) (by omega) (Below.refl _ _) (Nat.le_refl _) ?_))
  ·rfl
  ·rfl
  intro w1 hr1 hb1
  go_wp2_with fail
  refine (zoN m c A l' w1 w hlies' hb1 HLM.out).mono ?_
  rintro e w2 ⟨rfl,hP,hb2⟩
  obtain ⟨b,hbz⟩:∃ b,b=w1.heap.size:=⟨_,rfl⟩
  have hr2:=hr1.below hb2 hr1.lt
  have hgb:w.heap.size < b:=by rw [hbz];exact hr1.lt
  rw [←hbz] at hP ⊢
  have hbb:Below w.heap.size w w2:=hb1.trans (hb2.mono hb1.size)
  clear hr1 hb1 hb2 hbz
  go_wp2
  go_loopw [37] (zs8 l' w.heap.size b (b+1) m c M W A w) (fun i _=>M - (intOf i).toNat)
  case atStart=>exact ⟨0,rfl,by omega,by simpa [zcA] using hr2,by rw [Nat.mul_zero];exact hP,hbb⟩
  case round =>
   obtain ⟨k,rfl,hk,hr,hP,hb⟩:=hrel
   clear hr2 hbb
   by_cases hlt:k < M
   ·have hstep:W*k+W≤8*m:=by
     have h1:W*(k+1)≤W*M:=Nat.mul_le_mul_left _ hlt
     have:=HMW.out
     rw [Nat.mul_add,Nat.mul_one] at h1
     omega
    go_wp2_with fail
    refine (zjx _ _ _ m c _ W A l' _ hP hW hstep (by omega)).mono ?_
    rintro e w3 ⟨rfl,hP',hb'⟩
    obtain ⟨Z,hZ⟩:∃ Z,Z=zcg (bval l') (8*m) (W*k) W:=⟨_,rfl⟩
    have hr3:=hr.below hb' (by omega)
    have hb3:=hb.trans (hb'.mono (by omega))
    have hf3:=hr3.free k
    have hset:=hr3.set_ k (uv Z)
    rw [hZ,zoO _ _ _ _ _ hlt] at hset
    rw [←hZ]
    have hc3:∃ u,w3.cell? ⟨w.heap.size,k,none⟩=some u:=by
     rw [hr3.cell]
     exact ⟨_,List.getElem?_eq_getElem (by simp [zbH];omega)⟩
    obtain ⟨u,hc3⟩:=hc3
    have hP3:=hP'.far (Nat.le_refl w.heap.size) hgb k (uv Z)
    have hb4:=hb3.setCell (p:=⟨w.heap.size,k,none⟩) (Nat.le_refl _) (uv Z)
    have HSet:=Lib.hid hset
    rw [←hZ] at HSet
    clear hset hZ hP hr hb hb' hr3 hb3
    go_wp2
    go_roundw
    case rel=>exact ⟨k+1,by go_num,by omega,HSet.out,by rw [Nat.mul_add,Nat.mul_one];exact hP3,hb4⟩
    case measure=>simp [intOf];omega
   ·obtain rfl:k=M:=by omega
    have hsub:(m:Int)*8 - (p:Int)=(s:Int):=by have:=HPM.out;omega
    have hsub2:IntKind.i64.wrap ((m:Int)*8 - (p:Int))=(s:Int):=by rw [hsub,IntKind.wrap_i64];omega
    have hwp:IntKind.i64.wrap (p:Int)=(p:Int):=by rw [IntKind.wrap_i64];omega
    rw [←HP.out] at hP
    go_wp2_with fail
    refine (zjx _ _ _ m c _ s A l' _ hP (by omega) (by have:=HPM.out;omega) (by omega)).mono ?_
    rintro e w3 ⟨rfl,hP',hb'⟩
    have hr3:=hr.below hb' (by omega)
    have hb3:=hb.trans (hb'.mono (by omega))
    rw [Nat.sub_self,List.replicate_zero,List.append_nil] at hr3
    obtain ⟨Z,hZ⟩:∃ Z,Z=zcg (bval l') (8*m) p s:=⟨_,rfl⟩
    have hZ2:Z=bval l' % 2 ^ s:=by
     have h1:=HPM.out
     rw [hZ,show s=8*m - p by omega]
     exact zla (by omega)
    have hun:zbo l k W=if Z=0 then (zcA (bval l') (8*m) W k,l.drop m,0) else ([],[],2):=by
     have h1:=HPM.out
     have h2:=HP.out
     unfold zbo
     rw [←HM.out,if_neg (by rw [HN.out];omega),←HL'.out,←h2,show 8*m - p=s by omega,←hZ2]
    rw [←hZ]
    clear hZ hZ2 hsub hsub2 hwp hmul hP' hb' hP hr hb
    by_cases hZ0:Z=0
    ·subst hZ0
     rw [if_pos rfl] at hun
     have HU:=Lib.hid hun
     clear hun
     have hl3:=hl.below hb3
     have hml:(l.map bv).length=n:=by rw [List.length_map];exact HN.out
     have HML:=Lib.hid hml
     clear hml
     go_wp2_with (refine zgx elemB rfl _ _ rfl A n c m (l.map bv) rfl rfl hmn hnc HML.out hl3 hA ?_)
     intro B hlB hB
     have hdl:((l.map bv).drop m).length=n - m:=by rw [List.length_drop,HML.out]
     have HDL:=Lib.hid hdl
     clear hdl
     go_wp2_with (at_builtin;refine zo elemB rfl _ _ rfl w3.heap.size _ _ _ _ _ _ ((l.map bv).drop m) w3 rfl rfl hB HDL.out hlB (by rw [←List.map_drop];exact zcb _) (World.ownsRow_nil _ _ _ _) (Below.refl _ _) (Nat.le_refl _) (by omega) (by omega) ?_)
     intro v4 w4 hown4 hb4 _ _
     go_wp2
     go_ret3
     rw [HU.out]
     refine ⟨_,_,rfl,by rw [zbH];exact zcI (hr3.below hb4 hr3.lt) (by rw [List.length_map];exact zbH _ _ _ _) (by omega) (by omega),?_,za hb3 hb4⟩
     rw [←List.map_drop] at hown4
     exact ⟨_,zbR hb3.size hown4⟩
    ·rw [if_neg hZ0] at hun
     have HU:=Lib.hid hun
     have d1:((Z:Int) != 0)=true:=by simpa using hZ0
     clear hun hZ0
     go_wp2
     go_ret3
     rw [HU.out]
     exact RetUO.nil _ hb3
theorem zng (A:Option Addr) (n c:Nat) (M W:Int) (w:World) (h:¬(0≤M∧M≤4096∧0≤W∧W≤64)) :
  Calls Tryz.prog 144 #[.slice A n c,.int .i64 M,.int .i64 W] w (RetUO w ([],[],1)):=by
 rcases (by omega:(M < 0∨4096 < M)∨((0≤M∧M≤4096)∧(W < 0∨64 < W))) with h | ⟨h1,h⟩
 ·go_enter Tryz.func144,Tryz.ntmps144
  go_wp2_with (go_at_call 173;refine (znb _ _ (by omega)).mono ?_;rintro e w' ⟨rfl,rfl⟩)
  go_ret3
  exact RetUO.nil _ (Below.refl _ _)
 ·go_enter Tryz.func144,Tryz.ntmps144
  go_wp2_with (first | (go_at_call 173;refine (zcM _ _ (by omega) (by omega)).mono ?_;rintro e w' ⟨rfl,rfl⟩) | (go_at_call 172;refine (zhQ _ _ (by omega)).mono ?_;rintro e w' ⟨rfl,rfl⟩))
  go_ret3
  exact RetUO.nil _ (Below.refl _ _)
def zh (l:List UInt8) (M W:Int):List Nat × List UInt8 × Int:=if 0≤M∧M≤4096∧0≤W∧W≤64 then zbo l M.toNat W.toNat else ([],[],1)
theorem zbT (l:List UInt8) (M W:Nat) (hM:M≤4096) (hW:W≤64):zh l M W=zbo l M W:=by
 unfold zh
 rw [if_pos (by omega),Int.toNat_natCast,Int.toNat_natCast]
theorem zc2 {l:List Nat} {W:Nat} (h:∀ x∈l,x < 2 ^ W) (b:List UInt8):zbo (zby l W ++ b) l.length W=(l,b,0):=by
 have hlen:=zcL l W
 have ht:(zby l W ++ b).take (zW l.length W)=zby l W:=by rw [←hlen];simp
 have hd:(zby l W ++ b).drop (zW l.length W)=b:=by rw [←hlen];simp
 unfold zbo
 rw [if_neg (by rw [List.length_append,hlen];omega),ht,hd,if_pos (zk9 h),zk8 h]
theorem zej {l:List UInt8} {v:Value} {w:World} (M W:Int) (hl:IsB l v w) (h4:l.length≤1000000) :
  Calls Tryz.prog 144 #[v,.int .i64 M,.int .i64 W] w (RetUO w (zh l M W)):=by
 obtain ⟨A,c,rfl,h1,h2,_,h3⟩:=hl
 by_cases h:0≤M∧M≤4096∧0≤W∧W≤64
 ·obtain ⟨K,rfl⟩:=Int.eq_ofNat_of_zero_le (show 0≤M by omega)
  obtain ⟨J,rfl⟩:=Int.eq_ofNat_of_zero_le (show 0≤W by omega)
  rw [zbT _ _ _ (by omega) (by omega)]
  exact znf A _ c l K J w h1 rfl h2 h4 (by omega) (by omega) h3
 ·unfold zh
  rw [if_neg h]
  exact zng _ _ _ _ _ _ h
def zjy (g m t W V x:Nat) (w:World) (at_ k:Value) (wr:World):Prop:=
 ∃ (j:Nat) (out:List UInt8),at_=.int .i64 ((t+W - j:Nat):Int)∧k=.int .i64 ((j:Int) - 1)∧j≤W∧out.length=m∧Row wr g 5 (out.map bv)∧bval out=(V*2 ^ (W - j)+x / 2 ^ j)*2 ^ (8*m - (t+W - j))∧Below w.heap.size w wr
def zqW (l:List Nat) (g m W:Nat) (w:World) (at_ i:Value) (wr:World):Prop:=
 ∃ (k:Nat) (out:List UInt8),at_=.int .i64 ((W*k:Nat):Int)∧i=.int .i64 (k:Int)∧k≤l.length∧out.length=m∧Row wr g 5 (out.map bv)∧bval out=pval W (l.take k)*2 ^ (8*m - W*k)∧(∀ x∈l.take k,x < 2 ^ W)∧Below w.heap.size w wr
theorem zs9 (x K:Nat) (hx:x < 2 ^ 64):bits .and .u64 ((x:Int) / 2 ^ K) 1=((x / 2 ^ K % 2:Nat):Int):=by
 have h:=zld x K 1 1 hx (by omega) rfl
 simpa using h
theorem zoP (A:Option Addr) (n c:Nat) (l:List Nat) (W:Nat) (w:World) (hn:l.length=n) (hn4:n≤4096) (hW:W≤64) (hl:Lies w A (l.map uv)) (h64:∀ x∈l,x < 2 ^ 64) :
  Calls Tryz.prog 76 #[.slice A n c,.int .i64 (W:Int)] w (RetEO w (zjw l W)):=by
 have HN:=Lib.hid hn
 have H64:=Lib.hid h64
 clear hn h64
 obtain ⟨m,hm⟩:∃ m,m=zW n W:=⟨_,rfl⟩
 have hmW:W*n≤8*m:=by rw [hm];exact zdC n W
 have hm4:m≤32768:=by have:=zeE hn4 hW;unfold zW at hm;omega
 have hsz:=fun w=>zml n W w hn4 hW
 rw [←hm] at hsz
 have HS:=Lib.hid hsz
 have HM:=Lib.hid hm
 have HMW:=Lib.hid hmW
 clear hsz hm hmW
 have d1:decide ((W:Int) < 0)=false:=decide_eq_false (by omega)
 have d2:decide ((64:Int) < (W:Int))=false:=decide_eq_false (by omega)
 have d3:decide ((4096:Int) < (n:Int))=false:=decide_eq_false (by omega)
 go_enter Tryz.func76,Tryz.ntmps76
 go_wp2_with (first | (go_at_call 109;refine (HS.out _).mono ?_;rintro e w' ⟨rfl,rfl⟩) | (refine zA elemB rfl _ _ rfl _ _ _ _ m w w.heap.size rfl rfl ?_ ?_ (by omega) (by omega) (Below.refl _ _) (Nat.le_refl _) ?_))
 ·rfl
 ·rfl
 intro w1 hr1 hb1
 have hr2:Row w1 w.heap.size 5 ((List.replicate m (0:UInt8)).map bv):=by simpa using hr1
 clear hr1
 go_wp2
 go_loopw [7,8] (zqW l w.heap.size m W w) (fun _ i _=>n - (intOf i).toNat)
 case atStart=>exact ⟨0,List.replicate m 0,rfl,rfl,by omega,by simp,hr2,by rw [zhN];simp [pval],by simp,hb1⟩
 case round =>
  obtain ⟨k,out,rfl,rfl,hk,hlen,hr,hval,hall,hb⟩:=hrel
  have HV:=Lib.hid hval
  have HA:=Lib.hid hall
  have HLen:=Lib.hid hlen
  clear hval hall hr2 hb1 hlen
  have hk':k≤n:=by have:=HN.out;omega
  by_cases hlt:k < n
  ·have hkl:k < l.length:=by have:=HN.out;omega
   obtain ⟨ad,rfl,hadlt,hcell⟩:=hl.cell (k:=k) (by simpa using hkl)
   obtain ⟨x,hx⟩:∃ x:Nat,x=l[k]:=⟨_,rfl⟩
   have hcx0:w.cell? (ad.add k)=some (.int .u64 (x:Int)):=by rw [hcell,List.getElem_map,hx];rfl
   have hcx:wr.cell? (ad.add k)=some (.int .u64 (x:Int)):=(hb.cell (by rw [add_block];exact hadlt)).trans hcx0
   have hxm:x∈l:=by rw [hx];exact List.getElem_mem hkl
   have HX:=Lib.hid hx
   clear hx hcell
   by_cases hx2:x < 2 ^ W
   ·have hz:(x:Int) / 2 ^ W=0:=by
     have:((x / 2 ^ W:Nat):Int)=0:=by rw [Nat.div_eq_of_lt hx2];rfl
     simpa using this
    have hstep:W*k+W≤8*m:=by
     have h1:W*(k+1)≤W*n:=Nat.mul_le_mul_left _ hlt
     have:=HMW.out
     rw [Nat.mul_add,Nat.mul_one] at h1
     omega
    have HX2:=Lib.hid hx2
    clear hx2
    obtain ⟨V,hV⟩:∃ V,V=pval W (l.take k):=⟨_,rfl⟩
    obtain ⟨t,ht⟩:∃ t,t=W*k:=⟨_,rfl⟩
    rw [←ht] at hstep ⊢
    have HVV:=Lib.hid hV
    have HTT:=Lib.hid ht
    clear hV ht
    have hst:zjy w.heap.size m t W V x w (.int .i64 (t:Int)) (.int .i64 ((W:Int) - 1)) wr:=by
     refine ⟨W,out,by rw [Nat.add_sub_cancel],rfl,Nat.le_refl _,HLen.out,hr,?_,hb⟩
     rw [Nat.add_sub_cancel,Nat.sub_self,Nat.pow_zero,Nat.mul_one,Nat.div_eq_of_lt HX2.out,Nat.add_zero,HVV.out,HTT.out]
     exact HV.out
    rcases (show decide ((W:Int) < 64)=true∨decide ((W:Int) < 64)=false by cases decide ((W:Int) < 64) <;> simp) with hd64 | hd64
    all_goals
     go_wp2
     go_loopw [7,9] (zjy w.heap.size m t W V x w) (fun _ k _=>(intOf k+1).toNat)
     case atStart=>exact hst
     case round =>
      obtain ⟨j,o,rfl,rfl,hj,hlen,hr,hval,hb⟩:=hrel
      obtain ⟨T,hT⟩:∃ T,T=t+W - j:=⟨_,rfl⟩
      rw [←hT] at hval ⊢
      have HT:=Lib.hid hT
      have HVal:=Lib.hid hval
      have HLe:=Lib.hid hlen
      clear hT hval hlen
      have hcx2:wr.cell? (ad.add k)=some (.int .u64 (x:Int)):=(hb.cell (by rw [add_block];exact hadlt)).trans hcx0
      by_cases hj0:0 < j
      ·obtain ⟨K,rfl⟩:∃ K,j=K+1:=⟨j - 1,by omega⟩
       rw [show ((K+1:Nat):Int) - 1=(K:Int) by omega]
       have hT8:T+1≤8*m:=by have:=HT.out;omega
       obtain ⟨β,hβ⟩:∃ β,β=x / 2 ^ K % 2:=⟨_,rfl⟩
       have hbit:=zs9 x K (H64.out x hxm)
       rw [←hβ] at hbit
       have HBe:=Lib.hid hβ
       rcases (show β=0∨β=1 by omega) with rfl | rfl
       ·clear hβ
        go_wp2
        go_roundw
        case rel =>
         have hT2:T+1=t+W - K:=by have:=HT.out;omega
         refine ⟨K,o,by rw [←hT2];go_num,rfl,by omega,HLe.out,hr,?_,hb⟩
         have h1:=zfv V x W (K+1) 1 hj (by omega)
         rw [Nat.add_sub_cancel,Nat.pow_one,←HBe.out] at h1
         rw [HVal.out,zoK _ m T hT8,←hT2,Nat.pow_one,h1]
        case measure=>simp [intOf]
       ·clear hβ
        go_wp2
        refine zeB 13 (by kernel_rfl) (by kernel_rfl) ?_
        have hr2:Row wr.drew w.heap.size 5 (o.map bv):=hr
        have hb2:Below w.heap.size w wr.drew:=hb.drew
        clear hr hb hcx2
        generalize wr.drew=w2 at *
        obtain ⟨q,hq⟩:∃ q,q=T / 8:=⟨_,rfl⟩
        obtain ⟨e,he⟩:∃ e,e=T % 8:=⟨_,rfl⟩
        obtain ⟨r,hr'⟩:∃ r,r=8 - T % 8:=⟨_,rfl⟩
        obtain ⟨d,hd⟩:∃ d,d=r - 1:=⟨_,rfl⟩
        obtain ⟨hqo,hl1,hl2,hl3,hl4⟩:=zoJ (n:=1) (piece:=1) hq hr' hd HLe.out (by omega) (by omega) hT8 (by omega) HVal.out
        have hqi:(T:Int) / 8=(q:Int):=by omega
        have hei:(T:Int) % 8=(e:Int):=by omega
        have hwq:IntKind.i64.wrap (q:Int)=(q:Int):=by rw [IntKind.wrap_i64];omega
        have htm:(T:Int).tmod 8=(e:Int):=by rw [Int.tmod_eq_emod_of_nonneg (by omega)];exact hei
        have hwe:IntKind.i64.wrap (e:Int)=(e:Int):=by rw [IntKind.wrap_i64];omega
        have hqm:(q:Int) < (m:Int):=by omega
        have he8:e < 8:=by omega
        obtain ⟨D,hD⟩:∃ D,D=2 ^ d:=⟨_,rfl⟩
        have hsr:(128:Int) / 2 ^ e=(D:Int):=by rw [zs6 e he8,hD,show 7 - e=d by omega]
        rw [Nat.one_mul,←hD] at hl2 hl3 hl4
        obtain ⟨B,hB⟩:∃ B,B=o[q].toNat:=⟨_,rfl⟩
        have hcB:w2.cell? ⟨w.heap.size,q,none⟩=some (.int .u8 (B:Int)):=by
         rw [hr2.cell,List.getElem?_map,List.getElem?_eq_getElem hqo,hB];rfl
        have hfB:=hr2.free q
        rw [←hB] at hl2 hl4
        obtain ⟨C,hC⟩:∃ C,C=B+D:=⟨_,rfl⟩
        have hadd:IntKind.u8.wrap ((B:Int)+(D:Int))=(C:Int):=by rw [IntKind.wrap_u8];omega
        have hadd2:((B:Int)+(D:Int)) % 256=(C:Int):=by omega
        rw [←hC] at hl2 hl4
        have HL4:=Lib.hid hl4
        have HL2:=Lib.hid hl2
        clear hq he hr' hd hD hB hC hl1 hl2 hl3 hl4
        simp only [List.take_succ_cons,List.take_zero,List.drop_succ_cons,List.drop_zero]
        repeat still_step
        refine wpStill_nil ?_
        go_wp2
        go_roundw
        case rel =>
         have hT2:T+1=t+W - K:=by have:=HT.out;omega
         refine ⟨K,o.set q (UInt8.ofNat C),by rw [←hT2];go_num,rfl,by omega,by rw [List.length_set];exact HLe.out,zlb hr2 q C HL2.out,?_,hb2.setCell (Nat.le_refl _) _⟩
         have h1:=zfv V x W (K+1) 1 hj (by omega)
         rw [Nat.add_sub_cancel,Nat.pow_one,←HBe.out] at h1
         rw [HL4.out,←hT2,Nat.pow_one,h1]
        case measure=>simp [intOf]
      ·obtain rfl:j=0:=by omega
       go_wp2
       go_roundw
       case rel =>
        have hT2:T=W*(k+1):=by have:=HT.out;rw [Nat.mul_add,Nat.mul_one];have:=HTT.out;omega
        refine ⟨k+1,o,by rw [hT2],by go_num,by omega,HLe.out,hr,?_,?_,hb⟩
        ·rw [HVal.out,Nat.sub_zero,Nat.pow_zero,Nat.div_one,List.take_succ_eq_append_getElem hkl,zgE,←HX.out,←HVV.out,hT2]
        ·intro y hy
         rw [List.take_succ_eq_append_getElem hkl,List.mem_append] at hy
         rcases hy with hy | hy
         ·exact HA.out y hy
         ·rw [List.mem_singleton.1 hy,←HX.out];exact HX2.out
       case measure=>simp [intOf];omega
   ·obtain ⟨y,hy⟩:∃ y,y=x / 2 ^ W:=⟨_,rfl⟩
    have hz:(x:Int) / 2 ^ W=(y:Int):=by rw [hy];simp
    have hy0:y≠0:=by
     rw [hy]
     intro h
     rcases Nat.div_eq_zero_iff.1 h with h | h
     ·have:=Nat.two_pow_pos W;omega
     ·exact hx2 h
    have hW64:(W:Int) < 64:=by
     have h1:=H64.out x hxm
     rcases (show W < 64∨W=64 by omega) with h | h
     ·omega
     ·rw [h] at hx2;exact absurd h1 hx2
    have e1:((y:Int) != 0)=true:=by simpa using hy0
    have HNo:=Lib.hid (zmn hxm hx2)
    clear hx2 hy hy0
    go_wp2
    go_ret2
    rw [HNo.out]
    exact RetEO.nil _ hb
  ·obtain rfl:k=n:=by omega
   have hall:∀ x∈l,x < 2 ^ W:=by
    have:=HA.out
    rw [List.take_of_length_le (by have:=HN.out;omega)] at this
    exact this
   have HAll:=Lib.hid hall
   clear hall
   go_wp2
   go_ret2
   rw [zdE HAll.out]
   have hv:=HV.out
   rw [List.take_of_length_le (by have:=HN.out;omega)] at hv
   have hob:out=zby l W:=by
    unfold zby
    rw [HN.out,←HM.out]
    exact zoH HLen.out hv
   exact ⟨_,rfl,by rw [←hob,HLen.out];exact zcI hr (by rw [List.length_map];exact HLen.out) (Nat.le_refl _) (by omega),hb⟩
theorem zoQ (A:Option Addr) (n c:Nat) (W:Int) (w:World) (hW:W < 0∨64 < W) :
  Calls Tryz.prog 76 #[.slice A n c,.int .i64 W] w (RetEO w ([],1)):=by
 rcases hW with h | h
 ·have d1:decide (W < 0)=true:=decide_eq_true (by omega)
  go_enter Tryz.func76,Tryz.ntmps76
  go_wp2
  go_ret2
  exact RetEO.nil _ (Below.refl _ _)
 ·have d1:decide (W < 0)=false:=decide_eq_false (by omega)
  have d2:decide (64 < W)=true:=decide_eq_true (by omega)
  go_enter Tryz.func76,Tryz.ntmps76
  go_wp2
  go_ret2
  exact RetEO.nil _ (Below.refl _ _)
theorem zoR {l:List Nat} {v:Value} {w:World} (W:Int) (hl:IsU l v w) (h4:l.length≤4096) (h64:∀ x∈l,x < 2 ^ 64) :
  Calls Tryz.prog 76 #[v,.int .i64 W] w (RetEO w (zcF l W)):=by
 obtain ⟨A,c,rfl,_,_,_,h3⟩:=hl
 by_cases h:W < 0∨64 < W
 ·unfold zcF
  rw [if_pos h]
  exact zoQ _ _ _ _ _ h
 ·obtain ⟨K,rfl⟩:=Int.eq_ofNat_of_zero_le (show 0≤W by omega)
  rw [zb6 _ _ (by omega)]
  exact zoP A _ c l K w rfl h4 (by omega) h3 h64
theorem zqX {l:List Nat} {v:Value} {w:World} (W:Int) (hl:IsU l v w) (h4:l.length≤4096) (h64:∀ x∈l,x < 2 ^ 64) :
  Calls Tryz.prog 76 #[v,.int .i64 W] w (RetE w (zcF l W)):=(zoR W hl h4 h64).mono fun _ _ h=>h.e
def zsx (l:List UInt8) (m M W:Nat) (w:World) (v at_ i:Value) (wr:World):Prop:=
 ∃ k:Nat,k≤M∧at_=.int .i64 ((W*k:Nat):Int)∧i=.int .i64 (k:Int)∧wr.ownsRow w.heap.size 101 1 v k ((zcA (bval l) (8*m) W k).map uv)∧Below w.heap.size w wr∧w.heap.size≤wr.heap.size
def zqY (l:List UInt8) (m t W:Nat) (x at_ i:Value):Prop:=
 ∃ j:Nat,at_=.int .i64 ((t+j:Nat):Int)∧i=.int .i64 (j:Int)∧x=.int .u64 ((zcg (bval l) (8*m) t j:Nat):Int)∧j≤W
theorem zlf (A:Option Addr) (n c:Nat) (l:List UInt8) (M W:Nat) (w:World) (hA:A=none→n=0) (hn:l.length=n) (hnc:n≤c) (hcm:c≤maxLen) (hnb:n≤1000000) (hM:M≤4096) (hW:W≤64) (hl:Lies w A (l.map bv)) :
  Calls Tryz.prog 97 #[.slice A n c,.int .i64 (M:Int),.int .i64 (W:Int)] w (RetUO w (zbo l M W)):=by
 have HN:=Lib.hid hn
 have HCM:=Lib.hid hcm
 clear hn hcm
 obtain ⟨m,hm⟩:∃ m,m=zW M W:=⟨_,rfl⟩
 have hmW:W*M≤8*m:=by rw [hm];exact zdC M W
 have hm4:m≤32768:=by have:=zeE hM hW;unfold zW at hm;omega
 have hsz:=fun w=>zml M W w hM hW
 rw [←hm] at hsz
 have HS:=Lib.hid hsz
 have HM:=Lib.hid hm
 have HMW:=Lib.hid hmW
 clear hsz hm hmW
 have d1:decide ((M:Int) < 0)=false:=decide_eq_false (by omega)
 have d2:decide ((4096:Int) < (M:Int))=false:=decide_eq_false (by omega)
 have d3:decide ((W:Int) < 0)=false:=decide_eq_false (by omega)
 have d4:decide ((64:Int) < (W:Int))=false:=decide_eq_false (by omega)
 by_cases hsh:n < m
 ·have hun:zbo l M W=([],[],2):=by unfold zbo;rw [if_pos (by rw [HN.out,←HM.out];exact hsh)]
  have HU:=Lib.hid hun
  clear hun
  go_enter Tryz.func97,Tryz.ntmps97
  go_wp2_with (go_at_call 109;refine (HS.out _).mono ?_;rintro e w' ⟨rfl,rfl⟩)
  go_ret3
  rw [HU.out]
  exact RetUO.nil _ (Below.refl _ _)
 ·have hmn:m≤n:=by omega
  obtain ⟨l',hl'⟩:∃ l',l'=l.take m:=⟨_,rfl⟩
  have hl'm:l'.length=m:=by rw [hl',List.length_take];have:=HN.out;omega
  have hlies':Lies w A (l'.map bv):=by rw [hl',List.map_take];exact hl.take m
  have HL':=Lib.hid hl'
  have HLM:=Lib.hid hl'm
  clear hl' hl'm
  have hb0:Below w.heap.size w (w.alloc (.cells #[] 101)):=(Below.refl _ _).alloc (Nat.le_refl _) _
  have hown0:(w.alloc (.cells #[] 101)).ownsRow w.heap.size 101 1 (.slice (some ⟨w.heap.size,0,none⟩) 0 0) 0 []:=World.ownsRow_made w #[] 0 (Nat.le_refl _) (by unfold maxLen;omega) (by simp)
  go_enter Tryz.func97,Tryz.ntmps97
  go_wp2_with (go_at_call 109;refine (HS.out _).mono ?_;rintro e w' ⟨rfl,rfl⟩)
  go_loopw [10,11,12] (zsx l' m M W w) (fun _ _ i _=>M - (intOf i).toNat)
  case atStart=>exact ⟨0,by omega,rfl,rfl,by simpa [zcA] using hown0,hb0,by simp⟩
  case round =>
   obtain ⟨k,hkM,rfl,rfl,hown,hb,hwz⟩:=hrel
   clear hb0 hown0
   by_cases hlt:k < M
   ·have hstep:W*k+W≤8*m:=by
     have h1:W*(k+1)≤W*M:=Nat.mul_le_mul_left _ hlt
     have:=HMW.out
     rw [Nat.mul_add,Nat.mul_one] at h1
     omega
    obtain ⟨t,ht⟩:∃ t,t=W*k:=⟨_,rfl⟩
    rw [←ht] at hstep ⊢
    have HTT:=Lib.hid ht
    clear ht
    go_wp2
    go_loop [13,11,14] (zqY l' m t W) (fun _ _ i=>W - (intOf i).toNat)
    case atStart=>exact ⟨0,rfl,rfl,by rw [zhO];rfl,by omega⟩
    case round =>
     obtain ⟨j,rfl,rfl,rfl,hj⟩:=hrel
     obtain ⟨X,hX⟩:∃ X,X=zcg (bval l') (8*m) t j:=⟨_,rfl⟩
     rw [←hX]
     by_cases hjW:j < W
     ·obtain ⟨T,hT⟩:∃ T,T=t+j:=⟨_,rfl⟩
      rw [←hT]
      obtain ⟨q,hq⟩:∃ q,q=T / 8:=⟨_,rfl⟩
      obtain ⟨r,hr⟩:∃ r,r=8 - T % 8:=⟨_,rfl⟩
      obtain ⟨d,hd⟩:∃ d,d=r - 1:=⟨_,rfl⟩
      have hqi:(T:Int) / 8=(q:Int):=by omega
      have hdi:7 - (T:Int) % 8=(d:Int):=by omega
      have hd8:d≤7:=by omega
      have hqn:q < n:=by omega
      have hqm:(q:Int) < (n:Int):=by omega
      obtain ⟨hql,htb⟩:=zmk (n:=1) hq hr hd HLM.out (by omega) (by omega) (show T+1≤8*m by omega)
      obtain ⟨ad,rfl,_,hcell⟩:=(hlies'.below hb).cell (k:=q) (by simpa using hql)
      obtain ⟨B,hB⟩:∃ B,B=l'[q].toNat:=⟨_,rfl⟩
      have hB8:B < 256:=by have:=l'[q].toNat_lt;omega
      have hcB:wr.cell? (ad.add q)=some (.int .u8 (B:Int)):=by rw [hcell,List.getElem_map,hB];rfl
      rw [←hB] at htb
      obtain ⟨β,hβ⟩:∃ β,β=zcg (bval l') (8*m) T 1:=⟨_,rfl⟩
      rw [←hβ] at htb
      obtain ⟨E,hE⟩:∃ E,E=B / 2 ^ d:=⟨_,rfl⟩
      have hEi:(B:Int) / 2 ^ d=(E:Int):=by rw [hE];simp
      have hE8:E < 256:=by have:=Nat.div_le_self B (2 ^ d);omega
      have hbit:bits .and .u8 (E:Int) 1=(β:Int):=by
       rw [u8_and _ _ (by omega) (by omega) (by omega) (by omega),←htb,←hE,Int.toNat_natCast,show (1:Int).toNat=1 from rfl,nat_mask1]
      have hsum:X*2 ^ 1+β=zcg (bval l') (8*m) t (j+1):=by rw [hX,hβ,hT];exact zjv (by omega)
      have hlt64:X*2 ^ 1+β < 2 ^ 64:=by
       rw [hsum]
       have h1:=ziK (bval l') (8*m) t (j+1)
       have h2:2 ^ (j+1)≤2 ^ 64:=Nat.pow_le_pow_right (by omega) (by omega)
       omega
      obtain ⟨Y,hY⟩:∃ Y,Y=X*2 ^ 1:=⟨_,rfl⟩
      obtain ⟨Z,hZ⟩:∃ Z,Z=X*2 ^ 1+β:=⟨_,rfl⟩
      have hmu:IntKind.u64.wrap (2*(X:Int))=(Y:Int):=by rw [IntKind.wrap_u64];omega
      have had:IntKind.u64.wrap ((Y:Int)+(β:Int))=(Z:Int):=by rw [IntKind.wrap_u64];omega
      rw [←hZ] at hsum
      have hβ1:(β:Int)≤1:=by omega
      have HSum:=Lib.hid hsum
      have HT:=Lib.hid hT
      have HB8:=Lib.hid hB8
      clear hq hr hd hE hβ hB hX hY hZ hsum hlt64 htb hcell hT hB8
      go_wp2
      go_round
      case rel=>exact ⟨j+1,by rw [HT.out];go_num,by go_num,by rw [HSum.out],by omega⟩
      case measure=>simp [intOf];omega
     ·obtain rfl:j=W:=by omega
      have HX:=Lib.hid hX
      clear hX
      go_wp2_with (at_builtin;go_must (refine zX elemU rfl _ _ rfl w.heap.size _ k _ (.int .u64 (X:Int)) wr w rfl rfl rfl rfl hown hb hwz (by omega) (by omega) ?_))
      intro v5 w5 hown5 hb5 _ _
      have hu:Value.int .u64 (X:Int)=uv X:=rfl
      have hnew:(zcA (bval l') (8*m) j k).map uv ++ [Value.int .u64 (X:Int)]=(zcA (bval l') (8*m) j (k+1)).map uv:=by
       rw [zfx,List.map_append,hu,HX.out,HTT.out];rfl
      rw [hnew] at hown5
      have hz5:=hb5.size
      clear hu hnew
      go_wp2
      go_roundw
      case rel=>exact ⟨k+1,by omega,by rw [Nat.mul_add,Nat.mul_one,←HTT.out];go_num,by go_num,hown5,hb5,hz5⟩
      case measure=>simp [intOf];omega
   ·obtain rfl:k=M:=by omega
    have hU:IsU (zcA (bval l') (8*m) W k) _ wr:=zsw hown
    obtain ⟨L,hL⟩:∃ L,L=zcA (bval l') (8*m) W k:=⟨_,rfl⟩
    rw [←hL] at hU
    have hLl:L.length=k:=by rw [hL];exact zbH _ _ _ _
    have HOWN:=Lib.hid (show wr.ownsRow w.heap.size 101 1 _ L.length (L.map uv) by rw [hL,zbH];exact hown)
    have hLW:∀ x∈L,x < 2 ^ W:=by rw [hL];exact ziL
    have hL64:∀ x∈L,x < 2 ^ 64:=fun x hx=>Nat.lt_of_lt_of_le (hLW x hx) (Nat.pow_le_pow_right (by omega) hW)
    have hpk:=zk7 (l:=l') (w:=W) (n:=k) (by rw [HLM.out,←HM.out])
    rw [←HM.out,←hL] at hpk
    have hun:zbo l k W=if bval l' % 2 ^ (8*m - W*k)=0 then (L,l.drop m,0) else ([],[],2):=by
     unfold zbo
     rw [←HM.out,if_neg (by rw [HN.out];omega),←HL'.out,←hL]
    have hpc:=zqX (W:Int) hU (by omega) hL64
    rw [zb6 _ _ hW,zdE hLW] at hpc
    have HPC:=Lib.hid hpc
    have HPK:=Lib.hid hpk
    have HUN:=Lib.hid hun
    have HU:=Lib.hid hU
    clear hL hLl hLW hL64 hpk hun hpc hU hown
    go_wp2_with (go_at_call 76;refine HPC.out.mono ?_;rintro e w5 ⟨v5,rfl,hv5,hb5⟩)
    have hBl:IsB l' (.slice A m c) wr:=⟨A,c,by rw [HLM.out],fun h=>by rw [HLM.out];have:=hA h;omega,by rw [HLM.out];omega,HCM.out,hlies'.below hb⟩
    have HV5:=Lib.hid hv5
    have HBL:=Lib.hid (hBl.below hb5)
    have HB5:=Lib.hid hb5
    clear hv5 hBl hb5
    refine wp_region_list [.is v5,.is (.string ⟨(zby L W).toArray⟩),.is (.slice A n c),.is (.int .i64 (m:Int)),.is (.slice A m c),.is (.string ⟨l'.toArray⟩),.is (.bool !(zby L W == l'))] [some 75,some 76,some 77,some 78,some 79,some 80,some 81] (by kernel_rfl) (by kernel_rfl) (by kernel_rfl) rfl ⟨?_,?_,?_,?_,?_,?_,?_,trivial⟩ ?_
    ·intro ρ W1 hb1 H
     exact zd rfl (H.old 15 _ (by kernel_rfl) rfl) ⟨rfl,Below.refl _ _⟩
    ·intro ρ W1 hb1 H
     have e:ρ (.tmp 75)=v5:=H.new 75 0 (by kernel_rfl)
     exact zK rfl e ((HV5.out.below hb1).text _ _ _ Tryz.underlying38 Tryz.underlying5 Tryz.underlying9) ⟨rfl,Below.refl _ _⟩
    ·intro ρ W1 hb1 H
     exact zd rfl (H.old 0 _ (by kernel_rfl) rfl) ⟨rfl,Below.refl _ _⟩
    ·intro ρ W1 hb1 H
     exact zd rfl (H.old 9 _ (by kernel_rfl) rfl) ⟨rfl,Below.refl _ _⟩
    ·intro ρ W1 hb1 H
     exact zcH elemB rfl (H.new 77 2 (by kernel_rfl)) (H.new 78 3 (by kernel_rfl)) (show m≤c by omega) ⟨rfl,Below.refl _ _⟩
    ·intro ρ W1 hb1 H
     have e:ρ (.tmp 79)=.slice A m c:=H.new 79 4 (by kernel_rfl)
     exact zK rfl e ((HBL.out.below hb1).text _ _ _ Tryz.underlying38 Tryz.underlying5 Tryz.underlying9) ⟨rfl,Below.refl _ _⟩
    ·intro ρ W1 hb1 H
     exact zcu rfl (H.new 76 1 (by kernel_rfl)) (H.new 80 5 (by kernel_rfl)) ⟨rfl,Below.refl _ _⟩
    intro vs w6 hb6 hfs
    have f6:vs 6=.bool !(zby L W == l'):=hfs 6 (by decide)
    clear hfs
    simp only [zr,Nat.zero_add,Nat.reduceAdd]
    generalize vs 0=z0
    generalize vs 1=z1
    generalize vs 2=z2
    generalize vs 3=z3
    generalize vs 4=z4
    generalize vs 5=z5
    simp only [f6,Act.put,List.setIfInBounds_toArray,List.set_cons_succ,List.set_cons_zero]
    clear f6
    by_cases hz:bval l' % 2 ^ (8*m - W*k)=0
    ·have heq:(zby L W == l')=true:=by rw [beq_iff_eq];exact HPK.out.2 hz
     have hun:=HUN.out
     rw [if_pos hz] at hun
     have HU2:=Lib.hid hun
     clear hun hz
     simp only [heq,Bool.not_true]
     clear heq
     have hb7:Below w6.heap.size w6 (w6.alloc (.cells #[] 5)):=(Below.refl _ _).alloc (Nat.le_refl _) _
     have hown7:(w6.alloc (.cells #[] 5)).ownsRow w6.heap.size 5 1 (.slice (some ⟨w6.heap.size,0,none⟩) 0 0) 0 []:=World.ownsRow_made w6 #[] 0 (Nat.le_refl _) (by unfold maxLen;omega) (by simp)
     have hbw6:=za (za hb HB5.out) hb6
     have hl7:=hl.below (za hbw6 hb7)
     have hz7:w6.heap.size≤(w6.alloc (.cells #[] 5)).heap.size:=by simp
     have hml:(l.map bv).length=n:=by rw [List.length_map];exact HN.out
     have HML:=Lib.hid hml
     clear hml
     go_wp2_with (refine zgx elemB rfl _ _ rfl A n c m (l.map bv) rfl rfl hmn hnc HML.out hl7 hA ?_)
     intro B hlB hB
     have hdl:((l.map bv).drop m).length=n - m:=by rw [List.length_drop,HML.out]
     have HDL:=Lib.hid hdl
     clear hdl
     go_wp2_with (at_builtin;refine zo elemB rfl _ _ rfl w6.heap.size _ _ _ _ _ _ ((l.map bv).drop m) w6 rfl rfl hB HDL.out hlB (by rw [←List.map_drop];exact zcb _) hown7 hb7 hz7 (by omega) (by omega) ?_)
     intro v8 w8 hown8 hb8 _ _
     go_wp2
     go_ret3
     rw [HU2.out]
     refine ⟨_,_,rfl,own_below HOWN.out (za (za HB5.out hb6) hb8),?_,za hbw6 hb8⟩
     rw [←List.map_drop] at hown8
     exact ⟨_,zbR hbw6.size hown8⟩
    ·have heq:(zby L W == l')=false:=by rw [beq_eq_false_iff_ne];exact fun h=>hz (HPK.out.1 h)
     have hun:=HUN.out
     rw [if_neg hz] at hun
     have HU2:=Lib.hid hun
     clear hun hz
     simp only [heq,Bool.not_false]
     clear heq
     go_wp2
     go_ret3
     rw [HU2.out]
     exact RetUO.nil _ (za (za hb HB5.out) hb6)
theorem zlg (A:Option Addr) (n c:Nat) (M W:Int) (w:World) (h:¬(0≤M∧M≤4096∧0≤W∧W≤64)) :
  Calls Tryz.prog 97 #[.slice A n c,.int .i64 M,.int .i64 W] w (RetUO w ([],[],1)):=by
 rcases (by omega:M < 0∨4096 < M∨((0≤M∧M≤4096)∧W < 0)∨((0≤M∧M≤4096)∧64 < W)) with h | h | ⟨⟨h1,h2⟩,h⟩ | ⟨⟨h1,h2⟩,h⟩
 ·have d1:decide (M < 0)=true:=decide_eq_true (by omega)
  go_enter Tryz.func97,Tryz.ntmps97
  go_wp2
  go_ret3
  exact RetUO.nil _ (Below.refl _ _)
 ·have d1:decide (M < 0)=false:=decide_eq_false (by omega)
  have d2:decide (4096 < M)=true:=decide_eq_true (by omega)
  go_enter Tryz.func97,Tryz.ntmps97
  go_wp2
  go_ret3
  exact RetUO.nil _ (Below.refl _ _)
 ·have d1:decide (M < 0)=false:=decide_eq_false (by omega)
  have d2:decide (4096 < M)=false:=decide_eq_false (by omega)
  have d3:decide (W < 0)=true:=decide_eq_true (by omega)
  go_enter Tryz.func97,Tryz.ntmps97
  go_wp2
  go_ret3
  exact RetUO.nil _ (Below.refl _ _)
 ·have d1:decide (M < 0)=false:=decide_eq_false (by omega)
  have d2:decide (4096 < M)=false:=decide_eq_false (by omega)
  have d3:decide (W < 0)=false:=decide_eq_false (by omega)
  have d4:decide (64 < W)=true:=decide_eq_true (by omega)
  go_enter Tryz.func97,Tryz.ntmps97
  go_wp2
  go_ret3
  exact RetUO.nil _ (Below.refl _ _)
theorem zdF {l:List UInt8} {v:Value} {w:World} (M W:Int) (hl:IsB l v w) (h4:l.length≤1000000) :
  Calls Tryz.prog 97 #[v,.int .i64 M,.int .i64 W] w (RetUO w (zh l M W)):=by
 obtain ⟨A,c,rfl,h1,h2,h5,h3⟩:=hl
 by_cases h:0≤M∧M≤4096∧0≤W∧W≤64
 ·obtain ⟨K,rfl⟩:=Int.eq_ofNat_of_zero_le (show 0≤M by omega)
  obtain ⟨J,rfl⟩:=Int.eq_ofNat_of_zero_le (show 0≤W by omega)
  rw [zbT _ _ _ (by omega) (by omega)]
  exact zlf A _ c l K J w h1 rfl h2 h5 h4 (by omega) (by omega) h3
 ·unfold zh
  rw [if_neg h]
  exact zlg _ _ _ _ _ _ h
end Go.Proofs.YtblpkmmhmdpkjaaGreatDoor
namespace Go.Proofs.YtblpkmmhmdpkjaaGreatDoor
def zqZ:Nat→Nat→List UInt8
 | 0,x=>[UInt8.ofNat x]
 | f+1,x=>if x < 128 then [UInt8.ofNat x] else UInt8.ofNat (x % 128+128)::zqZ f (x / 128)
def vput (x:Nat):List UInt8:=zqZ x x
def vend (i c:Nat):Bool:=if i=9 then c == 1 else c != 0 || i == 0
def vgo:Nat→List UInt8→Option (Nat × List UInt8)
 | _,[]=>none
 | i,c::r=>if c.toNat < 128 then (if vend i c.toNat=true then some (c.toNat,r) else none) else if 9≤i then none else (vgo (i+1) r).map fun p=>(c.toNat - 128+128*p.1,p.2)
def zbs (l:List UInt8):Option (Nat × List UInt8):=vgo 0 l
theorem zoS:∀ (f g x:Nat),x≤f→x≤g→zqZ f x=zqZ g x:=by
 intro f
 induction f with
 | zero =>
  intro g x hf _
  obtain rfl:x=0:=by omega
  cases g with
  | zero=>rfl
  | succ g=>show [UInt8.ofNat 0]=if 0 < 128 then _ else _;rw [if_pos (by omega)]
 | succ f ih =>
  intro g x hf hg
  cases g with
  | zero =>
   obtain rfl:x=0:=by omega
   show (if 0 < 128 then _ else _)=[UInt8.ofNat 0];rw [if_pos (by omega)]
  | succ g =>
   show (if x < 128 then _ else _)=(if x < 128 then _ else _)
   by_cases h:x < 128
   ·rw [if_pos h,if_pos h]
   ·rw [if_neg h,if_neg h,ih g (x / 128) (by omega) (by omega)]
theorem zcN {x:Nat} (h:x < 128):vput x=[UInt8.ofNat x]:=by
 unfold vput
 cases x with
 | zero=>rfl
 | succ n=>show (if n+1 < 128 then _ else _)=_;rw [if_pos h]
theorem zdb {x:Nat} (h:128≤x):vput x=UInt8.ofNat (x % 128+128)::vput (x / 128):=by
 unfold vput
 cases x with
 | zero=>omega
 | succ n =>
  show (if n+1 < 128 then _ else _)=_
  rw [if_neg (by omega),zoS n ((n+1) / 128) ((n+1) / 128) (by omega) (by omega)]
theorem zc3 (x:Nat):1≤(vput x).length:=by
 by_cases h:x < 128
 ·rw [zcN h];simp
 ·rw [zdb (by omega)];simp
theorem zlh (n:Nat):∀ x,x < 128 ^ (n+1)→(vput x).length≤n+1:=by
 induction n with
 | zero=>intro x h;rw [zcN (by simpa using h)];simp
 | succ n ih =>
  intro x h
  by_cases hx:x < 128
  ·rw [zcN hx];simp
  ·rw [zdb (by omega),List.length_cons]
   have:=ih (x / 128) (by rw [Nat.pow_succ] at h;omega)
   omega
theorem zbz {x:Nat} (h:x < 18446744073709551616):(vput x).length≤10:=zlh 9 x (by
 have:(128:Nat) ^ 10=1180591620717411303424:=by decide
 show x < 128 ^ 10
 omega)
theorem zjz (k:Nat):∀ x,k < (vput x).length→(vput x).drop k=vput (x / 128 ^ k):=by
 induction k with
 | zero=>intro x _;simp
 | succ k ih =>
  intro x h
  by_cases hx:x < 128
  ·rw [zcN hx] at h;simp at h
  ·rw [zdb (by omega)] at h ⊢
   rw [List.drop_succ_cons,ih _ (by simpa using h),Nat.div_div_eq_div_mul,Nat.pow_succ,Nat.mul_comm]
theorem zfU (k x:Nat) (h:k+1 < (vput x).length):(vput x)[k]'(by omega)=UInt8.ofNat (x / 128 ^ k % 128+128)∧128≤x / 128 ^ k:=by
 have hd:=zjz k x (by omega)
 have hx:128≤x / 128 ^ k:=by
  by_cases hx:x / 128 ^ k < 128
  ·rw [zcN hx] at hd
   have:=congrArg List.length hd
   simp at this
   omega
  ·omega
 refine ⟨?_,hx⟩
 rw [zdb hx,List.drop_eq_getElem_cons (by omega)] at hd
 injection hd
theorem zgF (k x:Nat) (h:k+1=(vput x).length):(vput x)[k]'(by omega)=UInt8.ofNat (x / 128 ^ k)∧x / 128 ^ k < 128:=by
 have hd:=zjz k x (by omega)
 have hx:x / 128 ^ k < 128:=by
  by_cases hx:x / 128 ^ k < 128
  ·exact hx
  ·rw [zdb (x:=x / 128 ^ k) (by omega)] at hd
   have h1:=congrArg List.length hd
   have h2:=zc3 (x / 128 ^ k / 128)
   rw [List.length_drop,List.length_cons] at h1
   omega
 refine ⟨?_,hx⟩
 rw [zcN hx,List.drop_eq_getElem_cons (by omega)] at hd
 injection hd
theorem zhC (j x:Nat) (h:j+1=(vput x).length):(vput x).take j ++ [UInt8.ofNat (x / 128 ^ j)]=vput x:=by
 obtain ⟨h4,_⟩:=zgF j x h
 have h8:=List.take_succ_eq_append_getElem (l:=vput x) (i:=j) (by omega)
 rw [List.take_of_length_le (by omega),h4] at h8
 exact h8.symm
theorem zeZ {y:Nat} (h0:y≠0) (h:y < 2 ^ 64):Lib.bitLen (y ||| 1)=Lib.bitLen y:=by
 have h2:(y ||| 1) / 2=y / 2:=by
  have h3:(y ||| 1) >>> 1=y >>> 1:=by
   rw [Nat.shiftRight_or_distrib];simp
  simpa [Nat.shiftRight_succ] using h3
 have h4:y ||| 1 < 2 ^ 64:=Nat.or_lt_two_pow h (by decide)
 have h5:y ||| 1≠0:=by
  intro h6
  have:=Nat.left_le_or (n:=y) (m:=1)
  omega
 rw [Lib.bitLen_half _ h5 h4,Lib.bitLen_half _ h0 h,h2]
theorem zjA:∀ n:Fin 128,(Lib.bitLen (n.val ||| 1)+6) / 7=1:=by decide +kernel
theorem zli (x:Nat):x < 2 ^ 64→(Lib.bitLen (x ||| 1)+6) / 7=(vput x).length:=by
 induction x using Nat.strongRecOn with
 | ind x ih =>
  intro hx
  by_cases h:x < 128
  ·rw [zcN h];exact zjA ⟨x,h⟩
  ·rw [zdb (by omega),List.length_cons,←ih (x / 128) (by omega) (by omega),zeZ (by omega) hx,zeZ (by omega) (by omega),
    Lib.bitLen_shift 7 x (by omega) hx]
   show (7+Lib.bitLen (x / 128)+6) / 7=_
   omega
def vsum:List UInt8→Nat
 | []=>0
 | c::r=>c.toNat % 128+128*vsum r
theorem zq0 (x:Nat):vsum (vput x)=x:=by
 induction x using Nat.strongRecOn with
 | ind x ih =>
  by_cases h:x < 128
  ·rw [zcN h];simp [vsum];omega
  ·rw [zdb (by omega),vsum,ih (x / 128) (by omega)];simp;omega
theorem zgG (a b:List UInt8):vsum (a ++ b)=vsum a+128 ^ a.length*vsum b:=by
 induction a with
 | nil=>simp [vsum]
 | cons c a ih=>simp only [List.cons_append,vsum,ih,List.length_cons,Nat.pow_succ,Nat.mul_add,Nat.mul_comm (128 ^ a.length) 128,Nat.mul_assoc];omega
theorem zoT (a:List UInt8):vsum a < 128 ^ a.length:=by
 induction a with
 | nil=>simp [vsum]
 | cons c a ih=>simp only [vsum,List.length_cons,Nat.pow_succ];omega
theorem zoU (x k:Nat) (h:k+1 < (vput x).length):128≤((vput x)[k]'(by omega)).toNat:=by
 have h2:=(zfU k x h).1
 rw [h2]
 simp
 omega
theorem zjB {i x:Nat} (h:x*128 ^ i < 18446744073709551616) (hx:128≤x):i≤8:=by
 by_cases hi:9≤i
 ·have h1:(128:Nat) ^ 9≤128 ^ i:=Nat.pow_le_pow_right (by omega) hi
  have h2:(128:Nat) ^ 9=9223372036854775808:=by decide
  have h3:128*9223372036854775808≤x*128 ^ i:=Nat.mul_le_mul hx (by omega)
  omega
 ·omega
theorem zsy (r:List UInt8) (x:Nat):∀ i,i≤9→x*128 ^ i < 18446744073709551616→(i=0∨x≠0)→vgo i (vput x ++ r)=some (x,r):=by
 induction x using Nat.strongRecOn with
 | ind x ih =>
  intro i hi hx h0
  by_cases h:x < 128
  ·rw [zcN h]
   have h1:(UInt8.ofNat x).toNat=x:=by simp;omega
   have h2:vend i x=true:=by
    unfold vend
    by_cases h9:i=9
    ·subst h9
     rw [if_pos rfl]
     have h2:(128:Nat) ^ 9=9223372036854775808:=by decide
     rw [h2] at hx
     have:x=1:=by omega
     simp [this]
    ·rw [if_neg h9]
     simp;omega
   simp only [List.cons_append,List.nil_append,vgo,h1,if_pos h,if_pos h2]
  ·have h8:=zjB hx (by omega)
   rw [zdb (by omega)]
   have h1:(UInt8.ofNat (x % 128+128)).toNat=x % 128+128:=by simp;omega
   have h3:x / 128*128 ^ (i+1) < 18446744073709551616:=by
    rw [Nat.pow_succ,Nat.mul_comm (128 ^ i) 128,←Nat.mul_assoc]
    exact Nat.lt_of_le_of_lt (Nat.mul_le_mul_right _ (by omega)) hx
   simp only [List.cons_append,vgo,h1,if_neg (show ¬x % 128+128 < 128 by omega),if_neg (show ¬9≤i by omega),ih (x / 128) (by omega) (i+1) (by omega) h3 (by omega),Option.map_some]
   congr 2
   omega
theorem zd4 {x:Nat} (h:x < 18446744073709551616) (r:List UInt8):zbs (vput x ++ r)=some (x,r):=zsy r x 0 (by omega) (by simpa using h) (.inl rfl)
theorem zq1:∀ (l:List UInt8) (i x:Nat) (r:List UInt8),i≤9→vgo i l=some (x,r)→l=vput x ++ r∧x*128 ^ i < 18446744073709551616∧(i=0∨x≠0):=by
 intro l
 induction l with
 | nil=>intro i x r _ h;simp [vgo] at h
 | cons c l ih =>
  intro i x r hi h
  rw [vgo] at h
  have hc:=c.toNat_lt
  by_cases h1:c.toNat < 128
  ·rw [if_pos h1] at h
   by_cases h2:vend i c.toNat=true
   ·rw [if_pos h2] at h
    injection h with h
    injection h with hx hr
    subst hx hr
    refine ⟨by rw [zcN h1];simp,?_,?_⟩
    ·unfold vend at h2
     by_cases h9:i=9
     ·subst h9
      rw [if_pos rfl] at h2
      have h3:c.toNat=1:=by simpa using h2
      rw [h3]
      decide
     ·have h4:(128:Nat) ^ i≤128 ^ 8:=Nat.pow_le_pow_right (by omega) (by omega)
      have h5:(128:Nat) ^ 8=72057594037927936:=by decide
      have h6:c.toNat*128 ^ i≤127*72057594037927936:=Nat.mul_le_mul (by omega) (by omega)
      omega
    ·unfold vend at h2
     by_cases h9:i=9
     ·subst h9
      rw [if_pos rfl] at h2
      have h3:c.toNat=1:=by simpa using h2
      omega
     ·rw [if_neg h9] at h2
      simp at h2
      omega
   ·rw [if_neg h2] at h;cases h
  ·rw [if_neg h1] at h
   by_cases h9:9≤i
   ·rw [if_pos h9] at h;cases h
   ·rw [if_neg h9] at h
    cases h3:vgo (i+1) l with
    | none=>rw [h3] at h;simp at h
    | some p =>
     obtain ⟨x',r'⟩:=p
     rw [h3] at h
     simp at h
     obtain ⟨hx,rfl⟩:=h
     obtain ⟨hl,hb,h0⟩:=ih (i+1) x' r' (by omega) h3
     have hx0:x'≠0:=by omega
     refine ⟨?_,?_,by omega⟩
     ·rw [zdb (by omega),show x / 128=x' by omega,List.cons_append,←hl]
      congr 1
      apply UInt8.toNat_inj.1
      simp
      omega
     ·have hp:(128:Nat) ^ (i+1)*128 ^ (8 - i)=9223372036854775808:=by
       rw [←Nat.pow_add,show i+1+(8 - i)=9 by omega]
      have hq:18446744073709551616=128 ^ (i+1)*(128 ^ (8 - i)*2):=by rw [←Nat.mul_assoc,hp]
      have h5:x'+1≤128 ^ (8 - i)*2:=by
       rw [hq,Nat.mul_comm] at hb
       exact Nat.lt_of_mul_lt_mul_left hb
      have h6:x*128 ^ i < (x'+1)*128 ^ (i+1):=by
       rw [Nat.pow_succ,Nat.mul_comm (128 ^ i) 128,←Nat.mul_assoc]
       exact Nat.mul_lt_mul_of_pos_right (by omega) (Nat.pow_pos (by omega))
      have h7:(x'+1)*128 ^ (i+1)≤18446744073709551616:=by
       rw [hq,Nat.mul_comm];exact Nat.mul_le_mul_left _ h5
      omega
theorem zcj {l:List UInt8} {x:Nat} {r:List UInt8} (h:zbs l=some (x,r)):l=vput x ++ r∧x < 18446744073709551616:=by
 obtain ⟨h1,h2,_⟩:=zq1 l 0 x r (by omega) h
 exact ⟨h1,by simpa using h2⟩
def zmp (l:List UInt8) (n:Nat):Prop:=n≤9∧n≤l.length∧(∀ j (h:j < l.length),j < n→128≤l[j].toNat)∧(n=9∨∀ h:n < l.length,l[n].toNat < 128)
theorem zjC {l:List UInt8} {n x:Nat} {r:List UInt8} (hs:zmp l n) (hl:l=vput x ++ r) (hx:x < 18446744073709551616):n+1=(vput x).length:=by
 obtain ⟨h9,hn,hlo,hhi⟩:=hs
 have h10:=zbz hx
 have hp:=zc3 x
 rcases Nat.lt_trichotomy (n+1) (vput x).length with h | h | h
 ·exfalso
  have h1:=zoU x n h
  have hll:n < l.length:=by rw [hl,List.length_append];omega
  have h2:l[n]'hll=(vput x)[n]'(by omega):=by simp only [hl];exact List.getElem_append_left (by omega)
  rcases hhi with hhi | hhi
  ·omega
  ·have:=hhi hll
   rw [h2] at this
   omega
 ·exact h
 ·exfalso
  have hll:(vput x).length - 1 < l.length:=by rw [hl,List.length_append];omega
  have h1:=hlo ((vput x).length - 1) hll (by omega)
  have h2:l[(vput x).length - 1]'hll=(vput x)[(vput x).length - 1]'(by omega):=by simp only [hl];exact List.getElem_append_left (by omega)
  obtain ⟨h3,h4⟩:=zgF ((vput x).length - 1) x (by omega)
  rw [h2,h3] at h1
  generalize x / 128 ^ ((vput x).length - 1)=d at h1 h4
  simp at h1
  omega
theorem zlj {l:List UInt8} {n:Nat} (hs:zmp l n) (hn:l.length≤n):zbs l=none:=by
 cases h:zbs l with
 | none=>rfl
 | some p =>
  obtain ⟨x,r⟩:=p
  obtain ⟨h1,h2⟩:=zcj h
  have h3:=zjC hs h1 h2
  have h4:=congrArg List.length h1
  rw [List.length_append] at h4
  omega
theorem zgH {l:List UInt8} {n:Nat} (hs:zmp l n) (hne:vput (vsum (l.take (n+1)) % 18446744073709551616)≠l.take (n+1)):zbs l=none:=by
 cases h:zbs l with
 | none=>rfl
 | some p =>
  obtain ⟨x,r⟩:=p
  obtain ⟨h1,h2⟩:=zcj h
  have h3:=zjC hs h1 h2
  exfalso
  apply hne
  rw [h1,h3,List.take_left,zq0,Nat.mod_eq_of_lt h2]
theorem zhR {l:List UInt8} {n:Nat} (he:vput (vsum (l.take (n+1)) % 18446744073709551616)=l.take (n+1)) :
  zbs l=some (vsum (l.take (n+1)) % 18446744073709551616,l.drop (n+1)):=by
 have h:=zd4 (x:=vsum (l.take (n+1)) % 18446744073709551616) (Nat.mod_lt _ (by omega)) (l.drop (n+1))
 rw [he,List.take_append_drop] at h
 exact h
theorem zfy:∀ (k:Nat) (l:List UInt8),k≤9→k≤l.length→(∀ j (h:j < l.length),j < k→128≤l[j].toNat) →
  zbs l=(vgo k (l.drop k)).map fun p=>(vsum (l.take k)+128 ^ k*p.1,p.2):=by
 intro k
 induction k with
 | zero=>intro l _ _ _;simp only [List.drop_zero,List.take_zero,vsum,zbs];cases vgo 0 l <;> simp
 | succ k ih =>
  intro l h9 hl hhi
  rw [ih l (by omega) (by omega) (fun j h hj=>hhi j h (by omega))]
  have hk:k < l.length:=by omega
  have h1:=hhi k hk (by omega)
  have hc:=(l[k]).toNat_lt
  rw [List.drop_eq_getElem_cons hk,vgo,if_neg (by omega),if_neg (by omega),List.take_succ_eq_append_getElem hk,zgG,List.length_take,Nat.min_eq_left (by omega)]
  cases vgo (k+1) (l.drop (k+1)) with
  | none=>rfl
  | some p =>
   simp only [Option.map_some,vsum,Option.some.injEq,Prod.mk.injEq,and_true,Nat.pow_succ,Nat.mul_add,Nat.mul_zero,Nat.add_zero]
   rw [show l[k].toNat % 128=l[k].toNat - 128 by omega,←Nat.mul_assoc (128 ^ k)]
   omega
theorem zoV {l:List UInt8} {k:Nat} (h9:k≤9) (hl:k < l.length) (hhi:∀ j (h:j < l.length),j < k→128≤l[j].toNat) (hlo:l[k].toNat < 128) :
  zbs l=if vend k l[k].toNat=true then some (vsum (l.take k)+128 ^ k*l[k].toNat,l.drop (k+1)) else none:=by
 rw [zfy k l h9 (by omega) hhi,List.drop_eq_getElem_cons hl,vgo,if_pos hlo]
 split <;> rfl
theorem znh {l:List UInt8} (hl:10≤l.length) (hhi:∀ j (h:j < l.length),j < 10→128≤l[j].toNat):zbs l=none:=by
 have h1:=hhi 9 (by omega) (by omega)
 rw [zfy 9 l (by omega) (by omega) (fun j h hj=>hhi j h (by omega)),List.drop_eq_getElem_cons (by omega),vgo,if_neg (by omega),if_pos (by omega)]
 rfl
theorem zoW {l:List UInt8} (hl:l.length < 10) (hhi:∀ j (h:j < l.length),128≤l[j].toNat):zbs l=none:=by
 rw [zfy l.length l (by omega) (by omega) (fun j h _=>hhi j h)]
 simp [vgo]
def vzig (x:Int):Int:=if x < 0 then -2*x - 1 else 2*x
def vzag (u:Int):Int:=if u % 2=1 then -(u / 2) - 1 else u / 2
theorem zmq {x:Int} (h:x < 0):vzig x = -2*x - 1:=if_pos h
theorem zmr {x:Int} (h:0≤x):vzig x=2*x:=if_neg (by omega)
theorem zms {u:Int} (h:u % 2=1):vzag u = -(u / 2) - 1:=if_pos h
theorem zjD {u:Int} (h:u % 2=0):vzag u=u / 2:=if_neg (by omega)
theorem zd5 {x:Int} (h0 : -9223372036854775808≤x) (h1:x≤9223372036854775807):0≤vzig x∧vzig x < 18446744073709551616:=by unfold vzig;split <;> omega
theorem zoX {u:Int} (h0:0≤u) (h1:u < 18446744073709551616) : -9223372036854775808≤vzag u∧vzag u≤9223372036854775807:=by unfold vzag;split <;> omega
theorem zjE (x:Int):vzag (vzig x)=x:=by unfold vzag vzig;split <;> split <;> omega
theorem zoY {u:Int} (h:0≤u):vzig (vzag u)=u:=by unfold vzag vzig;split <;> split <;> omega
end Go.Proofs.YtblpkmmhmdpkjaaGreatDoor
namespace Go.Proofs.YtblpkmmhmdpkjaaGreatDoor
open Go.RowKit
theorem zlk (x:Int) (w:World) (h0 : -9223372036854775808≤x) (h1:x≤9223372036854775807) :
  Calls Tryz.prog 165 #[.int .i64 x] w fun e w'=>e=.returned (.int .u64 (vzig x))∧w=w':=by
 by_cases hx:x < 0
 ·have hb:=zsm (IntKind.u64.wrap (IntKind.u64.wrap x*2)) (by rw [IntKind.wrap_u64];omega) (by rw [IntKind.wrap_u64];omega)
  have hs:IntKind.u64.signed=false:=rfl
  go_enter Tryz.func165,Tryz.ntmps165
  go_wp2
  go_ret
  exact ⟨zQ (by rw [zmq hx];simp only [IntKind.wrap_u64];omega),rfl⟩
 ·go_enter Tryz.func165,Tryz.ntmps165
  go_wp2
  go_ret
  exact ⟨zQ (by rw [zmr (by omega)];omega),rfl⟩
theorem zq2 (x:Int) (w:World) (h0 : -9223372036854775808≤x) (h1:x≤9223372036854775807) :
  Calls Tryz.prog 108 #[.int .i64 x] w fun e w'=>e=.returned (.int .u64 (vzig x))∧w=w':=by
 by_cases hx:x < 0
 ·go_enter Tryz.func108,Tryz.ntmps108
  go_wp2
  go_ret
  exact ⟨zQ (by rw [zmq hx];omega),rfl⟩
 ·go_enter Tryz.func108,Tryz.ntmps108
  go_wp2
  go_ret
  exact ⟨zQ (by rw [zmr (by omega)]),rfl⟩
theorem zll (u:Int) (w:World) (h0:0≤u) (h1:u < 18446744073709551616) :
  Calls Tryz.prog 177 #[.int .u64 u] w fun e w'=>e=.returned (.int .i64 (vzag u))∧w=w':=by
 have hb:=i64_not (u / 2) (by omega) (by omega)
 have ha:=u64_and1 u h0 h1
 have hs:IntKind.i64.signed=true:=rfl
 rcases (by omega:u % 2=0∨u % 2=1) with hu | hu
 ·have hz:(u % 2 != 0)=false:=by simp [hu]
  have H:=Lib.hid hu
  clear hu
  go_enter Tryz.func177,Tryz.ntmps177
  go_wp2
  go_ret
  exact ⟨zQ (by rw [zjD H.out]),rfl⟩
 ·have hz:(u % 2 != 0)=true:=by simp [hu]
  have H:=Lib.hid hu
  clear hu
  go_enter Tryz.func177,Tryz.ntmps177
  go_wp2
  go_ret
  exact ⟨zQ (by rw [zms H.out]),rfl⟩
theorem zmt (u:Int) (w:World) (h0:0≤u) (h1:u < 18446744073709551616) :
  Calls Tryz.prog 119 #[.int .u64 u] w fun e w'=>e=.returned (.int .i64 (vzag u))∧w=w':=by
 rcases (by omega:u % 2=0∨u % 2=1) with hu | hu
 ·have hz:(u % 2 == 1)=false:=by simp [hu]
  have H:=Lib.hid hu
  clear hu
  go_enter Tryz.func119,Tryz.ntmps119
  go_wp2
  go_ret
  exact ⟨zQ (by rw [zjD H.out]),rfl⟩
 ·have hz:(u % 2 == 1)=true:=by simp [hu]
  have H:=Lib.hid hu
  clear hu
  go_enter Tryz.func119,Tryz.ntmps119
  go_wp2
  go_ret
  exact ⟨zQ (by rw [zms H.out]),rfl⟩
theorem zoZ (u:Int) (w:World) (h0:0≤u) (h1:u < 18446744073709551616) :
  Calls Tryz.prog 205 #[.int .u64 u] w fun e w'=>e=.returned (.int .i64 ((vput u.toNat).length:Nat))∧w=w':=by
 have ho:=zoB u h0 h1
 have hl:u.toNat ||| 1 < 2 ^ 64:=Nat.or_lt_two_pow (by omega) (by omega)
 have HB:=Lib.hid (zli u.toNat (by omega))
 have hle:=zbz (x:=u.toNat) (by omega)
 generalize (vput u.toNat).length=n at *
 generalize u.toNat ||| 1=m at *
 have hle2:Lib.bitLen m≤70:=by have:=HB.out;omega
 go_enter Tryz.func205,Tryz.ntmps205
 go_wp2_with (go_at_call 94;refine (Tryz.bits_Len64 _ _ (by omega) (by omega)).mono ?_;rintro e w' ⟨rfl,rfl⟩)
 go_ret
 exact ⟨zQ (by have:=HB.out;omega),rfl⟩
theorem zni (i c:Int) (w:World) (h0:0≤i) (h1:i≤1000) (h2:0≤c) (h3:c < 256) :
  Calls Tryz.prog 206 #[.int .i64 i,.int .u8 c] w fun e w'=>e=.returned (.bool (vend i.toNat c.toNat))∧w=w':=by
 by_cases h9:i=9
 ·subst h9
  have hv:vend (9:Int).toNat c.toNat=(c == 1):=by
   show (if 9=9 then c.toNat == 1 else _)=_
   rw [if_pos rfl,Bool.eq_iff_iff];simp;omega
  have HV:=Lib.hid hv
  clear hv
  go_enter Tryz.func206,Tryz.ntmps206
  go_wp2
  go_ret
  exact ⟨zce HV.out.symm,rfl⟩
 ·have h9':(i == 9)=false:=by simpa using h9
  have hv:vend i.toNat c.toNat=(c != 0 || i == 0):=by
   show (if i.toNat=9 then _ else c.toNat != 0 || i.toNat == 0)=_
   rw [if_neg (by omega),Bool.eq_iff_iff];simp;omega
  by_cases hc:c=0
  ·subst hc
   have HV:=Lib.hid hv
   clear hv
   go_enter Tryz.func206,Tryz.ntmps206
   go_wp2
   go_ret
   exact ⟨zce (by rw [HV.out];rfl),rfl⟩
  ·have hc':(c != 0)=true:=by simpa using hc
   have HV:=Lib.hid hv
   clear hv
   go_enter Tryz.func206,Tryz.ntmps206
   go_wp2
   go_ret
   exact ⟨zce (by rw [HV.out,hc'];rfl),rfl⟩
end Go.Proofs.YtblpkmmhmdpkjaaGreatDoor
