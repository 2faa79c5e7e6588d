import Derived.Lib.BitFns
import Derived.Deep.DeepMust
import Derived.Lib.MinMax
import Derived.Deep.RegionWith
import Derived.Deep.RegionLaw
import Derived.BigGuardPart
import Derived.Deep.Grids
import Derived.Test.YtlibofmpnlfelaaGreatDoorBG2
set_option maxHeartbeats 8000000
set_option maxRecDepth 100000
namespace Go.Proofs.YtlibofmpnlfelaaGreatDoor
def zti:Nat→Nat→List UInt8
 | 0,x=>[UInt8.ofNat x]
 | f+1,x=>if x < 128 then [UInt8.ofNat x] else UInt8.ofNat (x % 128+128)::zti f (x / 128)
def vput (x:Nat):List UInt8:=zti x x
def vend (i c:Nat):Bool:=if i=9 then c == 1 else c != 0 || i == 0
def vgo:Nat→List UInt8→Option (Nat × List UInt8)
 | _,[]=>none
 | i,c::r=>if c.toNat < 128 then (if vend i c.toNat=true then some (c.toNat,r) else none) else if 9≤i then none else (vgo (i+1) r).map fun p=>(c.toNat - 128+128*p.1,p.2)
def zby (l:List UInt8):Option (Nat × List UInt8):=vgo 0 l
theorem zqT:∀ (f g x:Nat),x≤f→x≤g→zti f x=zti g x:=by
 intro f
 induction f with
 | zero =>
  intro g x hf _
  obtain rfl:x=0:=by omega
  cases g with
  | zero=>rfl
  | succ g=>show [UInt8.ofNat 0]=if 0 < 128 then _ else _;rw [if_pos (by omega)]
 | succ f ih =>
  intro g x hf hg
  cases g with
  | zero =>
   obtain rfl:x=0:=by omega
   show (if 0 < 128 then _ else _)=[UInt8.ofNat 0];rw [if_pos (by omega)]
  | succ g =>
   show (if x < 128 then _ else _)=(if x < 128 then _ else _)
   by_cases h:x < 128
   ·rw [if_pos h,if_pos h]
   ·rw [if_neg h,if_neg h,ih g (x / 128) (by omega) (by omega)]
theorem zcY {x:Nat} (h:x < 128):vput x=[UInt8.ofNat x]:=by
 unfold vput
 cases x with
 | zero=>rfl
 | succ n=>show (if n+1 < 128 then _ else _)=_;rw [if_pos h]
theorem zdr {x:Nat} (h:128≤x):vput x=UInt8.ofNat (x % 128+128)::vput (x / 128):=by
 unfold vput
 cases x with
 | zero=>omega
 | succ n =>
  show (if n+1 < 128 then _ else _)=_
  rw [if_neg (by omega),zqT n ((n+1) / 128) ((n+1) / 128) (by omega) (by omega)]
theorem zdi (x:Nat):1≤(vput x).length:=by
 by_cases h:x < 128
 ·rw [zcY h];simp
 ·rw [zdr (by omega)];simp
theorem zmr (n:Nat):∀ x,x < 128 ^ (n+1)→(vput x).length≤n+1:=by
 induction n with
 | zero=>intro x h;rw [zcY (by simpa using h)];simp
 | succ n ih =>
  intro x h
  by_cases hx:x < 128
  ·rw [zcY hx];simp
  ·rw [zdr (by omega),List.length_cons]
   have:=ih (x / 128) (by rw [Nat.pow_succ] at h;omega)
   omega
theorem zbE {x:Nat} (h:x < 18446744073709551616):(vput x).length≤10:=zmr 9 x (by
 have:(128:Nat) ^ 10=1180591620717411303424:=by decide
 show x < 128 ^ 10
 omega)
theorem zkp (k:Nat):∀ x,k < (vput x).length→(vput x).drop k=vput (x / 128 ^ k):=by
 induction k with
 | zero=>intro x _;simp
 | succ k ih =>
  intro x h
  by_cases hx:x < 128
  ·rw [zcY hx] at h;simp at h
  ·rw [zdr (by omega)] at h ⊢
   rw [List.drop_succ_cons,ih _ (by simpa using h),Nat.div_div_eq_div_mul,Nat.pow_succ,Nat.mul_comm]
theorem zgv (k x:Nat) (h:k+1 < (vput x).length):(vput x)[k]'(by omega)=UInt8.ofNat (x / 128 ^ k % 128+128)∧128≤x / 128 ^ k:=by
 have hd:=zkp k x (by omega)
 have hx:128≤x / 128 ^ k:=by
  by_cases hx:x / 128 ^ k < 128
  ·rw [zcY hx] at hd
   have:=congrArg List.length hd
   simp at this
   omega
  ·omega
 refine ⟨?_,hx⟩
 rw [zdr hx,List.drop_eq_getElem_cons (by omega)] at hd
 injection hd
theorem zhk (k x:Nat) (h:k+1=(vput x).length):(vput x)[k]'(by omega)=UInt8.ofNat (x / 128 ^ k)∧x / 128 ^ k < 128:=by
 have hd:=zkp k x (by omega)
 have hx:x / 128 ^ k < 128:=by
  by_cases hx:x / 128 ^ k < 128
  ·exact hx
  ·rw [zdr (x:=x / 128 ^ k) (by omega)] at hd
   have h1:=congrArg List.length hd
   have h2:=zdi (x / 128 ^ k / 128)
   rw [List.length_drop,List.length_cons] at h1
   omega
 refine ⟨?_,hx⟩
 rw [zcY hx,List.drop_eq_getElem_cons (by omega)] at hd
 injection hd
theorem zik (j x:Nat) (h:j+1=(vput x).length):(vput x).take j ++ [UInt8.ofNat (x / 128 ^ j)]=vput x:=by
 obtain ⟨h4,_⟩:=zhk j x h
 have h8:=List.take_succ_eq_append_getElem (l:=vput x) (i:=j) (by omega)
 rw [List.take_of_length_le (by omega),h4] at h8
 exact h8.symm
theorem zfq {y:Nat} (h0:y≠0) (h:y < 2 ^ 64):Lib.bitLen (y ||| 1)=Lib.bitLen y:=by
 have h2:(y ||| 1) / 2=y / 2:=by
  have h3:(y ||| 1) >>> 1=y >>> 1:=by
   rw [Nat.shiftRight_or_distrib];simp
  simpa [Nat.shiftRight_succ] using h3
 have h4:y ||| 1 < 2 ^ 64:=Nat.or_lt_two_pow h (by decide)
 have h5:y ||| 1≠0:=by
  intro h6
  have:=Nat.left_le_or (n:=y) (m:=1)
  omega
 rw [Lib.bitLen_half _ h5 h4,Lib.bitLen_half _ h0 h,h2]
theorem zkq:∀ n:Fin 128,(Lib.bitLen (n.val ||| 1)+6) / 7=1:=by decide +kernel
theorem zms (x:Nat):x < 2 ^ 64→(Lib.bitLen (x ||| 1)+6) / 7=(vput x).length:=by
 induction x using Nat.strongRecOn with
 | ind x ih =>
  intro hx
  by_cases h:x < 128
  ·rw [zcY h];exact zkq ⟨x,h⟩
  ·rw [zdr (by omega),List.length_cons,←ih (x / 128) (by omega) (by omega),zfq (by omega) hx,zfq (by omega) (by omega),
    Lib.bitLen_shift 7 x (by omega) hx]
   show (7+Lib.bitLen (x / 128)+6) / 7=_
   omega
def vsum:List UInt8→Nat
 | []=>0
 | c::r=>c.toNat % 128+128*vsum r
theorem ztj (x:Nat):vsum (vput x)=x:=by
 induction x using Nat.strongRecOn with
 | ind x ih =>
  by_cases h:x < 128
  ·rw [zcY h];simp [vsum];omega
  ·rw [zdr (by omega),vsum,ih (x / 128) (by omega)];simp;omega
theorem zhl (a b:List UInt8):vsum (a ++ b)=vsum a+128 ^ a.length*vsum b:=by
 induction a with
 | nil=>simp [vsum]
 | cons c a ih=>simp only [List.cons_append,vsum,ih,List.length_cons,Nat.pow_succ,Nat.mul_add,Nat.mul_comm (128 ^ a.length) 128,Nat.mul_assoc];omega
theorem zqU (a:List UInt8):vsum a < 128 ^ a.length:=by
 induction a with
 | nil=>simp [vsum]
 | cons c a ih=>simp only [vsum,List.length_cons,Nat.pow_succ];omega
theorem zqV (x k:Nat) (h:k+1 < (vput x).length):128≤((vput x)[k]'(by omega)).toNat:=by
 have h2:=(zgv k x h).1
 rw [h2]
 simp
 omega
theorem zkr {i x:Nat} (h:x*128 ^ i < 18446744073709551616) (hx:128≤x):i≤8:=by
 by_cases hi:9≤i
 ·have h1:(128:Nat) ^ 9≤128 ^ i:=Nat.pow_le_pow_right (by omega) hi
  have h2:(128:Nat) ^ 9=9223372036854775808:=by decide
  have h3:128*9223372036854775808≤x*128 ^ i:=Nat.mul_le_mul hx (by omega)
  omega
 ·omega
theorem zuK (r:List UInt8) (x:Nat):∀ i,i≤9→x*128 ^ i < 18446744073709551616→(i=0∨x≠0)→vgo i (vput x ++ r)=some (x,r):=by
 induction x using Nat.strongRecOn with
 | ind x ih =>
  intro i hi hx h0
  by_cases h:x < 128
  ·rw [zcY h]
   have h1:(UInt8.ofNat x).toNat=x:=by simp;omega
   have h2:vend i x=true:=by
    unfold vend
    by_cases h9:i=9
    ·subst h9
     rw [if_pos rfl]
     have h2:(128:Nat) ^ 9=9223372036854775808:=by decide
     rw [h2] at hx
     have:x=1:=by omega
     simp [this]
    ·rw [if_neg h9]
     simp;omega
   simp only [List.cons_append,List.nil_append,vgo,h1,if_pos h,if_pos h2]
  ·have h8:=zkr hx (by omega)
   rw [zdr (by omega)]
   have h1:(UInt8.ofNat (x % 128+128)).toNat=x % 128+128:=by simp;omega
   have h3:x / 128*128 ^ (i+1) < 18446744073709551616:=by
    rw [Nat.pow_succ,Nat.mul_comm (128 ^ i) 128,←Nat.mul_assoc]
    exact Nat.lt_of_le_of_lt (Nat.mul_le_mul_right _ (by omega)) hx
   simp only [List.cons_append,vgo,h1,if_neg (show ¬x % 128+128 < 128 by omega),if_neg (show ¬9≤i by omega),ih (x / 128) (by omega) (i+1) (by omega) h3 (by omega),Option.map_some]
   congr 2
   omega
theorem zek {x:Nat} (h:x < 18446744073709551616) (r:List UInt8):zby (vput x ++ r)=some (x,r):=zuK r x 0 (by omega) (by simpa using h) (.inl rfl)
theorem ztk:∀ (l:List UInt8) (i x:Nat) (r:List UInt8),i≤9→vgo i l=some (x,r)→l=vput x ++ r∧x*128 ^ i < 18446744073709551616∧(i=0∨x≠0):=by
 intro l
 induction l with
 | nil=>intro i x r _ h;simp [vgo] at h
 | cons c l ih =>
  intro i x r hi h
  rw [vgo] at h
  have hc:=c.toNat_lt
  by_cases h1:c.toNat < 128
  ·rw [if_pos h1] at h
   by_cases h2:vend i c.toNat=true
   ·rw [if_pos h2] at h
    injection h with h
    injection h with hx hr
    subst hx hr
    refine ⟨by rw [zcY h1];simp,?_,?_⟩
    ·unfold vend at h2
     by_cases h9:i=9
     ·subst h9
      rw [if_pos rfl] at h2
      have h3:c.toNat=1:=by simpa using h2
      rw [h3]
      decide
     ·have h4:(128:Nat) ^ i≤128 ^ 8:=Nat.pow_le_pow_right (by omega) (by omega)
      have h5:(128:Nat) ^ 8=72057594037927936:=by decide
      have h6:c.toNat*128 ^ i≤127*72057594037927936:=Nat.mul_le_mul (by omega) (by omega)
      omega
    ·unfold vend at h2
     by_cases h9:i=9
     ·subst h9
      rw [if_pos rfl] at h2
      have h3:c.toNat=1:=by simpa using h2
      omega
     ·rw [if_neg h9] at h2
      simp at h2
      omega
   ·rw [if_neg h2] at h;cases h
  ·rw [if_neg h1] at h
   by_cases h9:9≤i
   ·rw [if_pos h9] at h;cases h
   ·rw [if_neg h9] at h
    cases h3:vgo (i+1) l with
    | none=>rw [h3] at h;simp at h
    | some p =>
     obtain ⟨x',r'⟩:=p
     rw [h3] at h
     simp at h
     obtain ⟨hx,rfl⟩:=h
     obtain ⟨hl,hb,h0⟩:=ih (i+1) x' r' (by omega) h3
     have hx0:x'≠0:=by omega
     refine ⟨?_,?_,by omega⟩
     ·rw [zdr (by omega),show x / 128=x' by omega,List.cons_append,←hl]
      congr 1
      apply UInt8.toNat_inj.1
      simp
      omega
     ·have hp:(128:Nat) ^ (i+1)*128 ^ (8 - i)=9223372036854775808:=by
       rw [←Nat.pow_add,show i+1+(8 - i)=9 by omega]
      have hq:18446744073709551616=128 ^ (i+1)*(128 ^ (8 - i)*2):=by rw [←Nat.mul_assoc,hp]
      have h5:x'+1≤128 ^ (8 - i)*2:=by
       rw [hq,Nat.mul_comm] at hb
       exact Nat.lt_of_mul_lt_mul_left hb
      have h6:x*128 ^ i < (x'+1)*128 ^ (i+1):=by
       rw [Nat.pow_succ,Nat.mul_comm (128 ^ i) 128,←Nat.mul_assoc]
       exact Nat.mul_lt_mul_of_pos_right (by omega) (Nat.pow_pos (by omega))
      have h7:(x'+1)*128 ^ (i+1)≤18446744073709551616:=by
       rw [hq,Nat.mul_comm];exact Nat.mul_le_mul_left _ h5
      omega
theorem zcv {l:List UInt8} {x:Nat} {r:List UInt8} (h:zby l=some (x,r)):l=vput x ++ r∧x < 18446744073709551616:=by
 obtain ⟨h1,h2,_⟩:=ztk l 0 x r (by omega) h
 exact ⟨h1,by simpa using h2⟩
def znR (l:List UInt8) (n:Nat):Prop:=n≤9∧n≤l.length∧(∀ j (h:j < l.length),j < n→128≤l[j].toNat)∧(n=9∨∀ h:n < l.length,l[n].toNat < 128)
theorem zks {l:List UInt8} {n x:Nat} {r:List UInt8} (hs:znR l n) (hl:l=vput x ++ r) (hx:x < 18446744073709551616):n+1=(vput x).length:=by
 obtain ⟨h9,hn,hlo,hhi⟩:=hs
 have h10:=zbE hx
 have hp:=zdi x
 rcases Nat.lt_trichotomy (n+1) (vput x).length with h | h | h
 ·exfalso
  have h1:=zqV x n h
  have hll:n < l.length:=by rw [hl,List.length_append];omega
  have h2:l[n]'hll=(vput x)[n]'(by omega):=by simp only [hl];exact List.getElem_append_left (by omega)
  rcases hhi with hhi | hhi
  ·omega
  ·have:=hhi hll
   rw [h2] at this
   omega
 ·exact h
 ·exfalso
  have hll:(vput x).length - 1 < l.length:=by rw [hl,List.length_append];omega
  have h1:=hlo ((vput x).length - 1) hll (by omega)
  have h2:l[(vput x).length - 1]'hll=(vput x)[(vput x).length - 1]'(by omega):=by simp only [hl];exact List.getElem_append_left (by omega)
  obtain ⟨h3,h4⟩:=zhk ((vput x).length - 1) x (by omega)
  rw [h2,h3] at h1
  generalize x / 128 ^ ((vput x).length - 1)=d at h1 h4
  simp at h1
  omega
theorem zmt {l:List UInt8} {n:Nat} (hs:znR l n) (hn:l.length≤n):zby l=none:=by
 cases h:zby l with
 | none=>rfl
 | some p =>
  obtain ⟨x,r⟩:=p
  obtain ⟨h1,h2⟩:=zcv h
  have h3:=zks hs h1 h2
  have h4:=congrArg List.length h1
  rw [List.length_append] at h4
  omega
theorem zhm {l:List UInt8} {n:Nat} (hs:znR l n) (hne:vput (vsum (l.take (n+1)) % 18446744073709551616)≠l.take (n+1)):zby l=none:=by
 cases h:zby l with
 | none=>rfl
 | some p =>
  obtain ⟨x,r⟩:=p
  obtain ⟨h1,h2⟩:=zcv h
  have h3:=zks hs h1 h2
  exfalso
  apply hne
  rw [h1,h3,List.take_left,ztj,Nat.mod_eq_of_lt h2]
theorem ziD {l:List UInt8} {n:Nat} (he:vput (vsum (l.take (n+1)) % 18446744073709551616)=l.take (n+1)) :
  zby l=some (vsum (l.take (n+1)) % 18446744073709551616,l.drop (n+1)):=by
 have h:=zek (x:=vsum (l.take (n+1)) % 18446744073709551616) (Nat.mod_lt _ (by omega)) (l.drop (n+1))
 rw [he,List.take_append_drop] at h
 exact h
theorem zf0:∀ (k:Nat) (l:List UInt8),k≤9→k≤l.length→(∀ j (h:j < l.length),j < k→128≤l[j].toNat) →
  zby l=(vgo k (l.drop k)).map fun p=>(vsum (l.take k)+128 ^ k*p.1,p.2):=by
 intro k
 induction k with
 | zero=>intro l _ _ _;simp only [List.drop_zero,List.take_zero,vsum,zby];cases vgo 0 l <;> simp
 | succ k ih =>
  intro l h9 hl hhi
  rw [ih l (by omega) (by omega) (fun j h hj=>hhi j h (by omega))]
  have hk:k < l.length:=by omega
  have h1:=hhi k hk (by omega)
  have hc:=(l[k]).toNat_lt
  rw [List.drop_eq_getElem_cons hk,vgo,if_neg (by omega),if_neg (by omega),List.take_succ_eq_append_getElem hk,zhl,List.length_take,Nat.min_eq_left (by omega)]
  cases vgo (k+1) (l.drop (k+1)) with
  | none=>rfl
  | some p =>
   simp only [Option.map_some,vsum,Option.some.injEq,Prod.mk.injEq,and_true,Nat.pow_succ,Nat.mul_add,Nat.mul_zero,Nat.add_zero]
   rw [show l[k].toNat % 128=l[k].toNat - 128 by omega,←Nat.mul_assoc (128 ^ k)]
   omega
theorem zqW {l:List UInt8} {k:Nat} (h9:k≤9) (hl:k < l.length) (hhi:∀ j (h:j < l.length),j < k→128≤l[j].toNat) (hlo:l[k].toNat < 128) :
  zby l=if vend k l[k].toNat=true then some (vsum (l.take k)+128 ^ k*l[k].toNat,l.drop (k+1)) else none:=by
 rw [zf0 k l h9 (by omega) hhi,List.drop_eq_getElem_cons hl,vgo,if_pos hlo]
 split <;> rfl
theorem zoS {l:List UInt8} (hl:10≤l.length) (hhi:∀ j (h:j < l.length),j < 10→128≤l[j].toNat):zby l=none:=by
 have h1:=hhi 9 (by omega) (by omega)
 rw [zf0 9 l (by omega) (by omega) (fun j h hj=>hhi j h (by omega)),List.drop_eq_getElem_cons (by omega),vgo,if_neg (by omega),if_pos (by omega)]
 rfl
theorem zqX {l:List UInt8} (hl:l.length < 10) (hhi:∀ j (h:j < l.length),128≤l[j].toNat):zby l=none:=by
 rw [zf0 l.length l (by omega) (by omega) (fun j h _=>hhi j h)]
 simp [vgo]
def vzig (x:Int):Int:=if x < 0 then -2*x - 1 else 2*x
def vzag (u:Int):Int:=if u % 2=1 then -(u / 2) - 1 else u / 2
theorem znS {x:Int} (h:x < 0):vzig x = -2*x - 1:=if_pos h
theorem znT {x:Int} (h:0≤x):vzig x=2*x:=if_neg (by omega)
theorem znU {u:Int} (h:u % 2=1):vzag u = -(u / 2) - 1:=if_pos h
theorem zkt {u:Int} (h:u % 2=0):vzag u=u / 2:=if_neg (by omega)
theorem zel {x:Int} (h0 : -9223372036854775808≤x) (h1:x≤9223372036854775807):0≤vzig x∧vzig x < 18446744073709551616:=by unfold vzig;split <;> omega
theorem zqY {u:Int} (h0:0≤u) (h1:u < 18446744073709551616) : -9223372036854775808≤vzag u∧vzag u≤9223372036854775807:=by unfold vzag;split <;> omega
theorem zku (x:Int):vzag (vzig x)=x:=by unfold vzag vzig;split <;> split <;> omega
theorem zqZ {u:Int} (h:0≤u):vzig (vzag u)=u:=by unfold vzag vzig;split <;> split <;> omega
end Go.Proofs.YtlibofmpnlfelaaGreatDoor
namespace Go.Proofs.YtlibofmpnlfelaaGreatDoor
open Go.RowKit
theorem zmu (x:Int) (w:World) (h0 : -9223372036854775808≤x) (h1:x≤9223372036854775807) :
  Calls Tryz.prog 164 #[.int .i64 x] w fun e w'=>e=.returned (.int .u64 (vzig x))∧w=w':=by
 by_cases hx:x < 0
 ·have hb:=zuA (IntKind.u64.wrap (IntKind.u64.wrap x*2)) (by rw [IntKind.wrap_u64];omega) (by rw [IntKind.wrap_u64];omega)
  have hs:IntKind.u64.signed=false:=rfl
  go_enter Tryz.func164,Tryz.ntmps164
  go_wp2
  go_ret
  exact ⟨zu (by rw [znS hx];simp only [IntKind.wrap_u64];omega),rfl⟩
 ·go_enter Tryz.func164,Tryz.ntmps164
  go_wp2
  go_ret
  exact ⟨zu (by rw [znT (by omega)];omega),rfl⟩
theorem ztl (x:Int) (w:World) (h0 : -9223372036854775808≤x) (h1:x≤9223372036854775807) :
  Calls Tryz.prog 124 #[.int .i64 x] w fun e w'=>e=.returned (.int .u64 (vzig x))∧w=w':=by
 by_cases hx:x < 0
 ·go_enter Tryz.func124,Tryz.ntmps124
  go_wp2
  go_ret
  exact ⟨zu (by rw [znS hx];omega),rfl⟩
 ·go_enter Tryz.func124,Tryz.ntmps124
  go_wp2
  go_ret
  exact ⟨zu (by rw [znT (by omega)]),rfl⟩
theorem zmv (u:Int) (w:World) (h0:0≤u) (h1:u < 18446744073709551616) :
  Calls Tryz.prog 176 #[.int .u64 u] w fun e w'=>e=.returned (.int .i64 (vzag u))∧w=w':=by
 have hb:=i64_not (u / 2) (by omega) (by omega)
 have ha:=u64_and1 u h0 h1
 have hs:IntKind.i64.signed=true:=rfl
 rcases (by omega:u % 2=0∨u % 2=1) with hu | hu
 ·have hz:(u % 2 != 0)=false:=by simp [hu]
  have H:=Lib.hid hu
  clear hu
  go_enter Tryz.func176,Tryz.ntmps176
  go_wp2
  go_ret
  exact ⟨zu (by rw [zkt H.out]),rfl⟩
 ·have hz:(u % 2 != 0)=true:=by simp [hu]
  have H:=Lib.hid hu
  clear hu
  go_enter Tryz.func176,Tryz.ntmps176
  go_wp2
  go_ret
  exact ⟨zu (by rw [znU H.out]),rfl⟩
theorem znV (u:Int) (w:World) (h0:0≤u) (h1:u < 18446744073709551616) :
  Calls Tryz.prog 130 #[.int .u64 u] w fun e w'=>e=.returned (.int .i64 (vzag u))∧w=w':=by
 rcases (by omega:u % 2=0∨u % 2=1) with hu | hu
 ·have hz:(u % 2 == 1)=false:=by simp [hu]
  have H:=Lib.hid hu
  clear hu
  go_enter Tryz.func130,Tryz.ntmps130
  go_wp2
  go_ret
  exact ⟨zu (by rw [zkt H.out]),rfl⟩
 ·have hz:(u % 2 == 1)=true:=by simp [hu]
  have H:=Lib.hid hu
  clear hu
  go_enter Tryz.func130,Tryz.ntmps130
  go_wp2
  go_ret
  exact ⟨zu (by rw [znU H.out]),rfl⟩
theorem zq0 (u:Int) (w:World) (h0:0≤u) (h1:u < 18446744073709551616) :
  Calls Tryz.prog 205 #[.int .u64 u] w fun e w'=>e=.returned (.int .i64 ((vput u.toNat).length:Nat))∧w=w':=by
 have ho:=zqz u h0 h1
 have hl:u.toNat ||| 1 < 2 ^ 64:=Nat.or_lt_two_pow (by omega) (by omega)
 have HB:=Lib.hid (zms u.toNat (by omega))
 have hle:=zbE (x:=u.toNat) (by omega)
 generalize (vput u.toNat).length=n at *
 generalize u.toNat ||| 1=m at *
 have hle2:Lib.bitLen m≤70:=by have:=HB.out;omega
 go_enter Tryz.func205,Tryz.ntmps205
 go_wp2_with (go_at_call 200;refine (Tryz.bits_Len64 _ _ (by omega) (by omega)).mono ?_;rintro e w' ⟨rfl,rfl⟩)
 go_ret
 exact ⟨zu (by have:=HB.out;omega),rfl⟩
theorem zoT (i c:Int) (w:World) (h0:0≤i) (h1:i≤1000) (h2:0≤c) (h3:c < 256) :
  Calls Tryz.prog 206 #[.int .i64 i,.int .u8 c] w fun e w'=>e=.returned (.bool (vend i.toNat c.toNat))∧w=w':=by
 by_cases h9:i=9
 ·subst h9
  have hv:vend (9:Int).toNat c.toNat=(c == 1):=by
   show (if 9=9 then c.toNat == 1 else _)=_
   rw [if_pos rfl,Bool.eq_iff_iff];simp;omega
  have HV:=Lib.hid hv
  clear hv
  go_enter Tryz.func206,Tryz.ntmps206
  go_wp2
  go_ret
  exact ⟨zjx HV.out.symm,rfl⟩
 ·have h9':(i == 9)=false:=by simpa using h9
  have hv:vend i.toNat c.toNat=(c != 0 || i == 0):=by
   show (if i.toNat=9 then _ else c.toNat != 0 || i.toNat == 0)=_
   rw [if_neg (by omega),Bool.eq_iff_iff];simp;omega
  by_cases hc:c=0
  ·subst hc
   have HV:=Lib.hid hv
   clear hv
   go_enter Tryz.func206,Tryz.ntmps206
   go_wp2
   go_ret
   exact ⟨zjx (by rw [HV.out];rfl),rfl⟩
  ·have hc':(c != 0)=true:=by simpa using hc
   have HV:=Lib.hid hv
   clear hv
   go_enter Tryz.func206,Tryz.ntmps206
   go_wp2
   go_ret
   exact ⟨zjx (by rw [HV.out,hc'];rfl),rfl⟩
def zuL (l:List UInt8) (X:Nat) (w:World) (t:TypeId) (x v:Value) (wr:World):Prop:=
 ∃ (y:Nat) (m:List UInt8),x=.int .u64 (y:Int)∧(y:Int) < 18446744073709551616∧m ++ vput y=l ++ vput X∧wr.ownsRow w.heap.size t 1 v m.length (m.map bv)∧Below w.heap.size w wr
theorem znW {y:Nat} (h:y < 256):Value.int .u8 (y:Int)=bv (UInt8.ofNat y):=by unfold bv;congr 1;simp;omega
theorem ztm (A:Option Addr) (n c:Nat) (x:Int) (l:List UInt8) (w:World) (hA:A=none→n=0) (hn:l.length=n) (hnb:n≤1000000) (hl:Lies w A (l.map bv)) (h0:0≤x) (h1:x < 18446744073709551616) :
  Calls Tryz.prog 126 #[.slice A n c,.int .u64 x] w (RetOwn w (l ++ vput x.toNat)):=by
 obtain ⟨X,rfl⟩:=Int.eq_ofNat_of_zero_le h0
 rw [Int.toNat_natCast]
 have hb0:Below w.heap.size w (w.alloc (.cells #[] 5)):=(Below.refl _ _).alloc (Nat.le_refl _) _
 have hl1:Lies (w.alloc (.cells #[] 5)) A (l.map bv):=hl.below hb0
 have hm:(l.map bv).length=n:=by simpa using hn
 have hown0:(w.alloc (.cells #[] 5)).ownsRow w.heap.size 5 1 (.slice (some ⟨w.heap.size,0,none⟩) 0 0) 0 []:=World.ownsRow_made w #[] 0 (Nat.le_refl _) (by unfold maxLen;omega) (by simp)
 have h10:=zbE (x:=X) (by omega)
 have hzz:w.heap.size≤(w.alloc (.cells #[] 5)).heap.size:=by simp
 go_enter Tryz.func126,Tryz.ntmps126
 go_wp2_with (at_builtin;refine zk elemB rfl _ _ rfl w.heap.size _ _ _ _ _ _ _ w rfl rfl hA hm hl1 (zbv l) hown0 hb0 hzz (by omega) (by omega) ?_)
 intro v1 w1 hown1 hb1 _ _
 rw [←hn] at hown1
 clear hown0 hl1 hb0 hzz
 go_wp2
 go_loopw [1,5] (zuL l X w 5) (fun x _ _=>(intOf x).toNat)
 case atStart=>exact ⟨X,l,rfl,by omega,rfl,by simpa using hown1,hb1⟩
 case round =>
  obtain ⟨y,m,rfl,hy,HM,hown,hb⟩:=hrel
  have HE:=Lib.hid HM
  have hlen:m.length≤1000010:=by
   have:=congrArg List.length HM
   have:=zdi y
   simp only [List.length_append] at *
   omega
  have hz:=hb.size
  clear HM hown1 hb1
  by_cases hlt:y < 128
  ·have hq:¬(128:Int)≤(y:Int):=by omega
   go_wp2_with (at_builtin;refine zQ elemB rfl _ _ rfl w.heap.size _ _ _ (.int .u8 (y:Int)) wr w rfl rfl rfl rfl hown hb hz (by omega) (by omega) ?_)
   intro v2 w2 hown2 hb2 _ _
   go_wp2
   go_ret
   rw [znW (by omega)] at hown2
   rw [←HE.out,zcY hlt]
   exact ⟨_,rfl,by simpa using hown2,hb2⟩
  ·have hq:(128:Int)≤(y:Int):=by omega
   go_wp2_with (at_builtin;refine zQ elemB rfl _ _ rfl w.heap.size _ _ _ (.int .u8 ((y:Int) % 128+128)) wr w rfl rfl rfl rfl hown hb hz (by omega) (by omega) ?_)
   intro v2 w2 hown2 hb2 _ _
   go_wp2
   go_roundw
   case rel =>
    refine ⟨y / 128,m ++ [UInt8.ofNat (y % 128+128)],by go_num,by omega,?_,?_,hb2⟩
    ·rw [←HE.out,zdr (x:=y) (by omega)];simp
    ·rw [show (y:Int) % 128+128=((y % 128+128:Nat):Int) by omega,znW (by omega)] at hown2
     simpa using hown2
   case measure=>simp [intOf];omega
theorem znX (A:Option Addr) (n c:Nat) (x:Int) (l:List UInt8) (w:World) (hA:A=none→n=0) (hn:l.length=n) (hnb:n≤1000000) (hl:Lies w A (l.map bv)) (h0:0≤x) (h1:x < 18446744073709551616) :
  Calls Tryz.prog 126 #[.slice A n c,.int .u64 x] w (RetB w (l ++ vput x.toNat)):=(ztm A n c x l w hA hn hnb hl h0 h1).mono fun _ _ h=>h.retB
def zvw (l:List UInt8) (X k:Nat) (w:World) (t:TypeId) (x i:Value) (wr:World):Prop:=
 ∃ j:Nat,i=.int .i64 (j:Int)∧j+1≤k∧x=.int .u64 ((X / 128 ^ j:Nat):Int)∧Row wr w.heap.size t ((l ++ (vput X).take j).map bv ++ List.replicate (k - j) (bv 0))∧Below w.heap.size w wr
theorem zmw (A:Option Addr) (n c:Nat) (x:Int) (l:List UInt8) (w:World) (_hA:A=none→n=0) (hn:l.length=n) (hnb:n≤1000000) (hl:Lies w A (l.map bv)) (h0:0≤x) (h1:x < 18446744073709551616) :
  Calls Tryz.prog 181 #[.slice A n c,.int .u64 x] w (RetOwn w (l ++ vput x.toNat)):=by
 have h10:=zbE (x:=x.toNat) (by omega)
 have hp:=zdi x.toNat
 obtain ⟨k,hk⟩:∃ k,k=(vput x.toNat).length:=⟨_,rfl⟩
 have HK:=Lib.hid hk
 have hsz:=zq0 x w h0 h1
 rw [←hk] at hsz h10 hp
 have HS:=Lib.hid hsz
 clear hk hsz
 have hm:(l.map bv).length=n:=by simpa using hn
 go_enter Tryz.func181,Tryz.ntmps181
 go_wp2_with (first | (go_at_call 205;refine HS.out.mono ?_;rintro e w' ⟨rfl,rfl⟩) | (refine zn elemB rfl _ _ rfl _ _ _ _ (n+k) w w.heap.size rfl rfl ?_ ?_ (by omega) (by omega) (Below.refl _ _) (Nat.le_refl _) ?_))
 ·omega
 ·omega
 intro w1 hr1 hb1
 have hl1:=hl.below hb1
 have hlr:(List.replicate (n+k) (bv 0)).length=n+k:=by simp
 go_wp2_with (refine zij elemB rfl (.tmp 16) (.tmp 17) rfl _ _ _ _ _ _ _ _ (l.map bv) w.heap.size w rfl rfl hr1 hm hl1 (zbv l) (by omega) (by omega) hb1 (Nat.le_refl _) ?_)
 intro w2 hr2 hb2
 have hr2':Row w2 w.heap.size 5 (l.map bv ++ List.replicate k (bv 0)):=by simpa [hn] using hr2
 clear hr2 hr1 hb1 hl1 hlr HS
 go_wp2
 obtain ⟨X,rfl⟩:=Int.eq_ofNat_of_zero_le h0
 rw [Int.toNat_natCast] at *
 go_loopw [1,25] (zvw l X k w 5) (fun _ i _=>k - (intOf i).toNat)
 case atStart=>exact ⟨0,rfl,by omega,by simp,by simpa using hr2',hb2⟩
 case round =>
  obtain ⟨j,rfl,hj,rfl,hr,hb⟩:=hrel
  clear hr2' hb2
  have hll:((l ++ (vput X).take j).map bv).length=n+j:=by
   have:=HK.out
   simp;omega
  have hc0:wr.cell? ⟨w.heap.size,n+j,none⟩=some (bv 0):=by
   rw [hr.cell,List.getElem?_append_right (by omega),hll,List.getElem?_replicate]
   simp;omega
  have hf0:=hr.free (n+j)
  generalize hY:X / 128 ^ j=Y at *
  have HY:=Lib.hid hY
  clear hY
  have hy:(Y:Int) < 18446744073709551616:=by
   have:=Nat.div_le_self X (128 ^ j)
   rw [HY.out] at this
   omega
  have ho:=u8_or128 ((Y:Int) % 256) (by omega) (by omega)
  by_cases hlt:j+1 < k
  ·have hq:((j:Int) < (k:Int) - 1):=by omega
   go_wp2
   go_roundw
   case rel =>
    refine ⟨j+1,by go_num,by omega,?_,?_,hb.setCell (Nat.le_refl _) _⟩
    ·rw [Nat.pow_succ,←Nat.div_div_eq_div_mul,HY.out];go_num
    ·have h2:=hr.set_ (n+j) (.int .u8 ((Y:Int) % 128+128))
     have h3:Value.int .u8 ((Y:Int) % 128+128)=bv (UInt8.ofNat (Y % 128+128)):=by
      rw [show (Y:Int) % 128+128=((Y % 128+128:Nat):Int) by omega,znW (by omega)]
     have h4:=(zgv j X (by have:=HK.out;omega)).1
     rw [h3] at h2 ⊢
     have h5:(List.map bv (l ++ List.take j (vput X)) ++ List.replicate (k - j) (bv 0)).set (n+j) (bv (UInt8.ofNat (Y % 128+128))) =
       List.map bv (l ++ List.take (j+1) (vput X)) ++ List.replicate (k - (j+1)) (bv 0):=by
      rw [List.set_append_right _ _ (by omega),hll,Nat.sub_self,show k - j=k - (j+1)+1 by omega,List.replicate_succ,List.set_cons_zero,
       List.take_succ_eq_append_getElem (by have:=HK.out;omega),h4,HY.out]
      simp
     rw [h5] at h2
     exact h2
   case measure=>simp [intOf];omega
  ·obtain rfl:k=j+1:=by omega
   have hq:¬((j:Int) < ((j+1:Nat):Int) - 1):=by omega
   go_wp2
   go_ret
   have h4:=zik j X HK.out
   have h5:=(zhk j X HK.out).2
   rw [HY.out] at h4 h5
   have h2:=hr.set_ (n+j) (.int .u8 ((Y:Int) % 256))
   have h6:(List.map bv (l ++ List.take j (vput X)) ++ List.replicate (j+1 - j) (bv 0)).set (n+j) (.int .u8 ((Y:Int) % 256))=List.map bv (l ++ vput X):=by
    have h7:Value.int .u8 ((Y:Int) % 256)=bv (UInt8.ofNat Y):=by
     rw [show (Y:Int) % 256=((Y:Nat):Int) by omega,znW (by omega)]
    rw [List.set_append_right _ _ (by omega),hll,Nat.sub_self,show j+1 - j=0+1 by omega,List.replicate_succ,List.set_cons_zero,h7,List.replicate_zero]
    conv=>rhs;rw [←h4]
    simp
   rw [h6] at h2
   have h9:(l ++ vput X).length=n+(j+1):=by have:=HK.out;rw [List.length_append];omega
   exact ⟨.slice (some ⟨w.heap.size,0,none⟩) (n+(j+1)) (n+(j+1)),rfl,by rw [h9];exact zey h2 (by rw [List.length_map];exact h9) (Nat.le_refl _) (by omega),hb.setCell (Nat.le_refl _) _⟩
def RetT (k:IntKind) (w:World) (o:Option (Int × List UInt8)) (e:Ending) (w':World):Prop:=
 match o with
 | none=>e=.returned (.tuple #[.int k 0,.slice none 0 0,.int .i64 2])∧Below w.heap.size w w'
 | some p=>∃ A c,e=.returned (.tuple #[.int k p.1,.slice A p.2.length c,.int .i64 0])∧(A=none→p.2.length=0)∧p.2.length≤c∧c≤maxLen∧OwnB w p.2 (.slice A p.2.length c) w'∧Below w.heap.size w w'
def zuM (l:List UInt8) (x i:Value):Prop:=
 ∃ (k:Nat) (y:Int),i=.int .i64 (k:Int)∧k≤10∧k≤l.length∧x=.int .u64 y∧0≤y∧y < 18446744073709551616∧(k≤9→y=(vsum (l.take k):Nat))∧∀ j (h:j < l.length),j < k→128≤l[j].toNat
theorem zmx (y:Int) (d k:Nat) (h0:0≤y) (h1:y < 18446744073709551616) :
  0≤bits .or .u64 y (IntKind.u64.wrap ((d:Int)*2 ^ (7*k)))∧bits .or .u64 y (IntKind.u64.wrap ((d:Int)*2 ^ (7*k))) < 18446744073709551616:=by
 rw [u64_or y _ h0 h1 (by rw [IntKind.wrap_u64];omega) (by rw [IntKind.wrap_u64];omega)]
 have:y.toNat ||| (IntKind.u64.wrap ((d:Int)*2 ^ (7*k))).toNat < 2 ^ 64:=Nat.or_lt_two_pow (by omega) (by rw [IntKind.wrap_u64];omega)
 omega
theorem zhn (a d k:Nat) (ha:a < 128 ^ k) (hk:k≤9) (hd:128 ^ k*d < 18446744073709551616) :
  bits .or .u64 (a:Int) (IntKind.u64.wrap ((d:Int)*2 ^ (7*k)))=((a+128 ^ k*d:Nat):Int):=by
 have h1:(128:Nat) ^ k=2 ^ (7*k):=by rw [Nat.pow_mul]
 have h2:(128:Nat) ^ k≤128 ^ 9:=Nat.pow_le_pow_right (by omega) hk
 have h3:(128:Nat) ^ 9=9223372036854775808:=by decide
 rw [h1] at ha hd ⊢
 have h4:((d:Int)*2 ^ (7*k))=((d*2 ^ (7*k):Nat):Int):=by push_cast;rfl
 rw [h4,IntKind.wrap_u64,Int.emod_eq_of_lt (by omega) (by rw [Nat.mul_comm];omega),zs3 (7*k) a d ha (by rw [Nat.mul_comm];exact hd) (by omega),Nat.mul_comm d]
theorem zho (i c:Nat) (v:Bool) (w:World) (h1:i≤1000) (h2:c < 256) (hv:vend i c=v) :
  Calls Tryz.prog 206 #[.int .i64 (i:Int),.int .u8 (c:Int)] w fun e w'=>e=.returned (.bool v)∧w=w':=by
 have h:=zoT (i:Int) (c:Int) w (by omega) (by omega) (by omega) (by omega)
 rw [Int.toNat_natCast,Int.toNat_natCast,hv] at h
 exact h
theorem znY (A:Option Addr) (n c:Nat) (l:List UInt8) (w:World) (hA:A=none→n=0) (hn:l.length=n) (hnc:n≤c) (hnb:n≤1000000) (hl:Lies w A (l.map bv)) :
  Calls Tryz.prog 182 #[.slice A n c] w (RetT .u64 w ((zby l).map fun p=>((p.1:Int),p.2))):=by
 go_enter Tryz.func182,Tryz.ntmps182
 go_wp2
 go_loop [5,11] (zuM l) (fun _ i=>10 - (intOf i).toNat)
 case atStart=>exact ⟨0,0,rfl,by omega,by omega,rfl,by omega,by omega,by simp [vsum],by omega⟩
 case round =>
  obtain ⟨k,y,rfl,hk,hkl,rfl,hy0,hy1,hy,hhi⟩:=hrel
  have HY:=Lib.hid hy
  have HH:=Lib.hid hhi
  clear hy hhi
  by_cases hlt:k < min n 10
  ·have hm:(l.map bv).length=n:=by simpa using hn
   obtain ⟨ad,rfl,_,hc⟩:=hl.cell (k:=k) (by omega)
   obtain ⟨b,hb⟩:∃ b:Nat,b=(l[k]'(by omega)).toNat:=⟨_,rfl⟩
   have hcb:w.cell? (ad.add k)=some (.int .u8 (b:Int)):=by rw [hc,List.getElem_map,hb];rfl
   have hb256:b < 256:=by rw [hb];exact UInt8.toNat_lt _
   have HB:=Lib.hid hb
   clear hb hc
   have ha1:=u8_and127 (b:Int) (by omega) (by omega)
   have hlt':(k:Int) < min (n:Int) 10:=by omega
   have hbd:=zmx y (b % 128) k hy0 hy1
   have hZ:bits .or .u64 y (IntKind.u64.wrap ((b:Int) % 128*2 ^ (7*k)))=bits .or .u64 y (IntKind.u64.wrap (((b % 128:Nat):Int)*2 ^ (7*k))):=by push_cast;rfl
   obtain ⟨Z,hzz⟩:∃ Z,Z=bits .or .u64 y (IntKind.u64.wrap (((b % 128:Nat):Int)*2 ^ (7*k))):=⟨_,rfl⟩
   rw [←hzz] at hZ hbd
   have HZ:=Lib.hid hzz
   clear hzz
   obtain ⟨hz0,hz1⟩:=hbd
   have hb9:k≤9:=by omega
   by_cases h128:b < 128
   ·have ha2:bits .and .u8 (b:Int) 128=0:=by rw [zke (b:Int) (by omega) (by omega)];omega
    have hend:zby l=if vend k b=true then some (vsum (l.take k)+128 ^ k*b,l.drop (k+1)) else none:=by
     have:=zqW hb9 (by omega) HH.out (by rw [←HB.out];exact h128)
     rw [←HB.out] at this
     exact this
    cases hv:vend k b with
    | false =>
     have HE:Hid (zby l=none):=by show zby l=none;rw [hend,hv];simp
     have HV:=Lib.hid hv
     clear hend hv
     go_wp2_with (go_at_call 206;refine (zho _ _ false _ (by omega) (by omega) HV.out).mono ?_;rintro e w' ⟨rfl,rfl⟩)
     go_ret3
     rw [HE.out]
     exact ⟨rfl,Below.refl _ _⟩
    | true =>
     have HE:Hid (zby l=some (vsum (l.take k)+128 ^ k*b,l.drop (k+1))):=by show zby l=_;rw [hend,hv];simp
     have HV:=Lib.hid hv
     clear hend hv
     have hdl:((l.drop (k+1)).map bv).length=n - (k+1):=by rw [List.length_map,List.length_drop,hn]
     have hlk:Lies w (some ⟨ad.block,ad.off+(k+1),none⟩) ((l.drop (k+1)).map bv):=by rw [List.map_drop];exact hl.drop_some k
     have hfin:∀ (v:Value) (w1:World),w1.ownsRow w.heap.size 5 1 v (n - (k+1)) ((l.drop (k+1)).map bv)→Below w.heap.size w w1 →
       RetT .u64 w ((zby l).map fun p=>((p.1:Int),p.2)) (.returned (.tuple #[.int .u64 Z,v,.int .i64 0])) w1:=by
      intro v w1 hown hb
      obtain ⟨B,c',hB,h2,h3,h4,_,h6⟩:=zg6 (w0:=w) hown hb
      injection hB with hB
      subst hB
      have hZv:Z=((vsum (l.take k)+128 ^ k*b:Nat):Int):=by
       have h7:=HY.out hb9
       have h8:b % 128=b:=by omega
       have hvs:=zqU (l.take k)
       rw [List.length_take,Nat.min_eq_left (by omega)] at hvs
       have hto:=(zcv HE.out).2
       rw [HZ.out,h7,h8,zhn _ _ _ hvs hb9 (by omega)]
      rw [HE.out]
      exact ⟨B,c',by rw [hZv],h2,h3,h4,⟨_,hown⟩,h6⟩
     have HF:=Lib.hid hfin
     clear hfin
     by_cases hck:c=k+1
     ·obtain rfl:n=k+1:=by omega
      have hd0:(l.drop (k+1)).map bv=[]:=List.eq_nil_of_length_eq_zero (by omega)
      have HD:=Lib.hid hd0
      clear hd0 hdl
      go_wp2_with (first | (go_at_call 206;refine (zho _ _ true _ (by omega) (by omega) HV.out).mono ?_;rintro e w' ⟨rfl,rfl⟩) | (at_builtin;refine zk elemB rfl _ _ rfl w.heap.size _ _ _ _ _ _ [] w rfl rfl (by simp) (by simp) Lies.nil (by simp) (World.ownsRow_nil _ _ _ _) (Below.refl _ _) (Nat.le_refl _) (by omega) (by omega) ?_))
      intro v1 w1 hown1 hb1 _ _
      go_wp2
      go_ret3
      exact HF.out v1 w1 (by rw [HD.out];simpa using hown1) hb1
     ·go_wp2_with (first | (go_at_call 206;refine (zho _ _ true _ (by omega) (by omega) HV.out).mono ?_;rintro e w' ⟨rfl,rfl⟩) | (at_builtin;refine zk elemB rfl _ _ rfl w.heap.size _ _ _ _ _ _ ((l.drop (k+1)).map bv) w rfl rfl (by simp) hdl hlk (zbv _) (World.ownsRow_nil _ _ _ _) (Below.refl _ _) (Nat.le_refl _) (by omega) (by omega) ?_))
      intro v1 w1 hown1 hb1 _ _
      go_wp2
      go_ret3
      exact HF.out v1 w1 (by simpa using hown1) hb1
   ·have ha2:bits .and .u8 (b:Int) 128=128:=by rw [zke (b:Int) (by omega) (by omega)];omega
    go_wp2
    go_round
    case rel =>
     refine ⟨k+1,Z,by go_num,by omega,by omega,rfl,hz0,hz1,?_,?_⟩
     ·intro h9
      have h7:=HY.out hb9
      have hvs:=zqU (l.take k)
      rw [List.length_take,Nat.min_eq_left (by omega)] at hvs
      have h2:(128:Nat) ^ k≤128 ^ 8:=Nat.pow_le_pow_right (by omega) (by omega)
      have h3:(128:Nat) ^ 8=72057594037927936:=by decide
      have h4:128 ^ k*(b % 128)≤72057594037927936*127:=Nat.mul_le_mul (by omega) (by omega)
      rw [HZ.out,h7,zhn _ _ _ hvs hb9 (by omega),List.take_succ_eq_append_getElem (by omega),zhl,List.length_take,Nat.min_eq_left (by omega)]
      simp only [vsum,←HB.out,Nat.mul_zero,Nat.add_zero]
     ·intro j hj hjk
      by_cases hjk':j=k
      ·subst hjk';rw [←HB.out];omega
      ·exact HH.out j hj (by omega)
    case measure=>simp [intOf];omega
  ·have hge:¬(k:Int) < min (n:Int) 10:=by omega
   have hnone:zby l=none:=by
    by_cases h10:n < 10
    ·exact zqX (by omega) fun j hj=>HH.out j hj (by omega)
    ·exact zoS (by omega) fun j hj hj10=>HH.out j hj (by omega)
   have HE:=Lib.hid hnone
   clear hnone
   go_wp2
   go_ret3
   rw [HE.out]
   exact ⟨rfl,Below.refl _ _⟩
theorem zvx (args:Array Value) (w:World):(callFunc 126 args).run Tryz.prog w=.ok (.enter 126 args) w:=by kernel_rfl
def ztn (l:List UInt8) (i:Value):Prop:=
 ∃ k:Nat,i=.int .i64 (k:Int)∧k≤9∧k≤l.length∧∀ j (h:j < l.length),j < k→128≤l[j].toNat
def zkv (l:List UInt8) (n:Nat) (x i:Value):Prop:=
 ∃ m:Nat,i=.int .i64 ((m:Int) - 1)∧m≤n+1∧x=.int .u64 ((vsum ((l.take (n+1)).drop m) % 18446744073709551616:Nat):Int)
theorem znZ (l:List UInt8) (n m:Nat) (h:m < n+1) (hl:n < l.length) :
  (128*(vsum ((l.take (n+1)).drop (m+1)) % 18446744073709551616) % 18446744073709551616+(l[m]'(by omega)).toNat % 128) % 18446744073709551616=vsum ((l.take (n+1)).drop m) % 18446744073709551616:=by
 have hm:m < (l.take (n+1)).length:=by rw [List.length_take];omega
 rw [List.drop_eq_getElem_cons hm,vsum,List.getElem_take]
 omega
theorem zkw (A:Option Addr) (n c:Nat) (l:List UInt8) (w:World) (hA:A=none→n=0) (hn:l.length=n) (hnc:n≤c) (hnb:n≤1000000) (hl:Lies w A (l.map bv)) :
  Calls Tryz.prog 129 #[.slice A n c] w (RetT .u64 w ((zby l).map fun p=>((p.1:Int),p.2))):=by
 go_enter Tryz.func129,Tryz.ntmps129
 go_wp2
 go_loop [5] (ztn l) (fun i=>10 - (intOf i).toNat)
 case atStart=>exact ⟨0,rfl,by omega,by omega,by omega⟩
 case round =>
  obtain ⟨k,rfl,hk,hkl,hhi⟩:=hrel
  have HH:=Lib.hid hhi
  clear hhi
  by_cases hgo:∃ h:k < l.length,k < 9∧128≤l[k].toNat
  ·obtain ⟨hk1,hk2,hk3⟩:=hgo
   obtain ⟨ad,rfl,_,hc⟩:=hl.cell (k:=k) (by rw [List.length_map];omega)
   obtain ⟨b,hb⟩:∃ b:Nat,b=(l[k]'(by omega)).toNat:=⟨_,rfl⟩
   have hcb:w.cell? (ad.add k)=some (.int .u8 (b:Int)):=by rw [hc,List.getElem_map,hb];rfl
   rw [←hb] at hk3
   have HB:=Lib.hid hb
   clear hb hc
   rw [hn] at hk1
   have g1:(k:Int) < (n:Int):=by omega
   have g2:(k:Int) < 9:=by omega
   have g3:(128:Int)≤(b:Int):=by omega
   go_wp2
   go_round
   case rel =>
    refine ⟨k+1,by go_num,by omega,by omega,?_⟩
    intro j hj hjk
    by_cases hjk':j=k
    ·subst hjk';rw [←HB.out];omega
    ·exact HH.out j hj (by omega)
   case measure=>simp [intOf];omega
  ·have hst:znR l k:=by
    refine ⟨hk,hkl,HH.out,?_⟩
    by_cases h9:k=9
    ·exact .inl h9
    ·refine .inr fun h=>?_
     by_cases h128:128≤l[k].toNat
     ·exact absurd ⟨h,by omega,h128⟩ hgo
     ·omega
   have HS:=Lib.hid hst
   clear hst hgo
   by_cases hkn:k < n
   ·obtain ⟨ad,rfl,_,hc⟩:=hl.cell (k:=k) (by rw [List.length_map];omega)
    obtain ⟨b,hb⟩:∃ b:Nat,b=(l[k]'(by omega)).toNat:=⟨_,rfl⟩
    have hcb:w.cell? (ad.add k)=some (.int .u8 (b:Int)):=by rw [hc,List.getElem_map,hb];rfl
    have hb256:b < 256:=by rw [hb];exact UInt8.toNat_lt _
    have HB:=Lib.hid hb
    clear hc hb
    have g1:(k:Int) < (n:Int):=by omega
    by_cases h9:k=9
    ·have g2:¬(k:Int) < 9:=by omega
     have H9:=Lib.hid h9
     clear h9
     go_wp2
     go_loop [6,7] (zkv l k) (fun _ i=>(intOf i+1).toNat)
     case atStart=>exact ⟨k+1,by go_num,by omega,by simp [vsum]⟩
     case round =>
      obtain ⟨m,rfl,hm,rfl⟩:=hrel
      obtain ⟨X,hX⟩:∃ X:Nat,X=vsum (List.drop m (List.take (k+1) l)) % 18446744073709551616:=⟨_,rfl⟩
      rw [←hX]
      have hXb:(X:Int) < 18446744073709551616:=by omega
      by_cases hm0:m=0
      ·subst hm0
       have HX:=Lib.hid hX
       clear hX
       have hlt:Lies w (some ad) ((l.take (k+1)).map bv):=by rw [List.map_take];exact hl.take _
       have htl:(l.take (k+1)).length=k+1:=by rw [List.length_take];omega
       go_wp2
       refine wp_region_list [.is (.int .u64 (X:Int)),.bytes (vput X),.is (.string ⟨(vput X).toArray⟩),.is (.slice (some ad) n c),.is (.int .i64 (k:Int)),.is (.int .i64 ((k:Int)+1)),.is (.slice (some ad) (k+1) c),
        .is (.string ⟨(l.take (k+1)).toArray⟩),.is (.bool !(vput X == l.take (k+1)))] [some 43,some 44,some 45,some 46,some 47,some 48,some 49,some 50,some 51] (by kernel_rfl) (by kernel_rfl) (by kernel_rfl) rfl ⟨?_,?_,?_,?_,?_,?_,?_,?_,?_,trivial⟩ ?_
       ·intro ρ w1 hb1 H
        exact zd rfl (H.old 6 _ (by kernel_rfl) rfl) ⟨rfl,Below.refl _ _⟩
       ·intro ρ w1 hb1 H
        have e0:ρ (.tmp 43)=.int .u64 (X:Int):=H.new 43 0 (by kernel_rfl)
        refine zj rfl zvx (H.func _) (args:=#[.slice none 0 0,.int .u64 (X:Int)]) (by simp [H.const,e0]) ?_
        refine (znX none 0 0 (X:Int) [] _ (by simp) rfl (by omega) Lies.nil (by omega) hXb).mono fun e w2 h=>?_
        exact h.isB
       ·intro ρ w1 hb1 H
        obtain ⟨A1,c1,e1,h1,h2,h3,h4⟩:IsB (vput X) (ρ (.tmp 44)) w1:=H.new 44 1 (by kernel_rfl)
        exact zS rfl e1 (run_text w1 _ _ _ Tryz.underlying25 Tryz.underlying5 Tryz.underlying9 A1 _ c1 _ rfl h4) ⟨rfl,Below.refl _ _⟩
       ·intro ρ w1 hb1 H
        exact zd rfl (H.old 0 _ (by kernel_rfl) rfl) ⟨rfl,Below.refl _ _⟩
       ·intro ρ w1 hb1 H
        exact zd rfl (H.old 5 _ (by kernel_rfl) rfl) ⟨rfl,Below.refl _ _⟩
       ·intro ρ w1 hb1 H
        exact zb4 rfl (H.new 47 4 (by kernel_rfl)) (H.const _) (by omega) (by omega) ⟨rfl,Below.refl _ _⟩
       ·intro ρ w1 hb1 H
        exact zdw elemB rfl (H.new 46 3 (by kernel_rfl)) (h:=k+1) (H.new 48 5 (by kernel_rfl)) (by omega) ⟨rfl,Below.refl _ _⟩
       ·intro ρ w1 hb1 H
        exact zS rfl (H.new 49 6 (by kernel_rfl)) (run_text w1 _ _ _ Tryz.underlying25 Tryz.underlying5 Tryz.underlying9 _ _ _ _ htl (hlt.below hb1)) ⟨rfl,Below.refl _ _⟩
       ·intro ρ w1 hb1 H
        exact zcI rfl (H.new 45 2 (by kernel_rfl)) (H.new 50 7 (by kernel_rfl)) ⟨rfl,Below.refl _ _⟩
       ·intro vs w1 hb1 hfs
        have f8:vs 8=.bool !(vput X == l.take (k+1)):=hfs 8 (by decide)
        clear hfs
        generalize vs 0=v0 at *;generalize vs 1=v1 at *;generalize vs 2=v2 at *;generalize vs 3=v3 at *;generalize vs 4=v4 at *;generalize vs 5=v5 at *;generalize vs 6=v6 at *;generalize vs 7=v7 at *
        by_cases he:vput X=l.take (k+1)
        ·have hb8:(vput X == l.take (k+1))=true:=by simpa using he
         rw [hb8] at f8
         have HE:Hid (zby l=some (X,l.drop (k+1))):=by
          show zby l=_
          have h2:=HX.out
          rw [List.drop_zero] at h2
          have h1:=ziD (l:=l) (n:=k) (by rw [←h2];exact he)
          rw [h1,←h2]
         simp only [zr,f8,Bool.not_true,Act.put,List.setIfInBounds_toArray,List.set_cons_succ,List.set_cons_zero]
         clear he hb8 f8
         have hz1:=hb1.size
         have hbb:Below w.heap.size w (w1.alloc (.cells #[] 5)):=hb1.alloc hb1.size _
         have hown0:(w1.alloc (.cells #[] 5)).ownsRow w.heap.size 5 1 (.slice (some ⟨w1.heap.size,0,none⟩) 0 0) 0 []:=World.ownsRow_made w1 #[] 0 hb1.size (by unfold maxLen;omega) (by simp)
         have hdl:((l.drop (k+1)).map bv).length=n - (k+1):=by rw [List.length_map,List.length_drop,hn]
         have hlk:Lies (w1.alloc (.cells #[] 5)) (some ⟨ad.block,ad.off+(k+1),none⟩) ((l.drop (k+1)).map bv):=by rw [List.map_drop];exact (hl.drop_some k).below hbb
         have hzz:w.heap.size≤(w1.alloc (.cells #[] 5)).heap.size:=by simp;omega
         have HF:Hid (∀ (v:Value) (w2:World),w2.ownsRow w.heap.size 5 1 v (n - (k+1)) ((l.drop (k+1)).map bv)→Below w.heap.size w w2 →
           RetT .u64 w ((zby l).map fun p=>((p.1:Int),p.2)) (.returned (.tuple #[.int .u64 (X:Int),v,.int .i64 0])) w2):=by
          show ∀ (v:Value) (w2:World),_
          intro v w2 hown hb
          obtain ⟨B,c',hB,h2,h3,h4,_,h6⟩:=zg6 (w0:=w) hown hb
          injection hB with hB
          subst hB
          rw [HE.out]
          exact ⟨B,c',rfl,h2,h3,h4,⟨_,hown⟩,h6⟩
         by_cases hck:c=k+1
         ·obtain rfl:n=k+1:=by omega
          have hd0:(l.drop (k+1)).map bv=[]:=List.eq_nil_of_length_eq_zero (by omega)
          have HD:=Lib.hid hd0
          clear hd0 hdl
          go_wp2_with (at_builtin;refine zk elemB rfl _ _ rfl w.heap.size _ _ _ _ _ _ [] w rfl rfl (by simp) (by simp) Lies.nil (by simp) hown0 hbb hzz (by omega) (by omega) ?_)
          intro vv w2 hown2 hb2 _ _
          go_wp2
          go_ret3
          exact HF.out vv w2 (by rw [HD.out];simpa using hown2) hb2
         ·go_wp2_with (at_builtin;refine zk elemB rfl _ _ rfl w.heap.size _ _ _ _ _ _ ((l.drop (k+1)).map bv) w rfl rfl (by simp) hdl hlk (zbv _) hown0 hbb hzz (by omega) (by omega) ?_)
          intro vv w2 hown2 hb2 _ _
          go_wp2
          go_ret3
          exact HF.out vv w2 (by simpa using hown2) hb2
        ·have hb8:(vput X == l.take (k+1))=false:=by simpa using he
         rw [hb8] at f8
         have HE:Hid (zby l=none):=by
          show zby l=none
          refine zhm HS.out ?_
          have h2:=HX.out
          rw [List.drop_zero] at h2
          rw [←h2]
          exact he
         simp only [zr,f8,Bool.not_false,Act.put,List.setIfInBounds_toArray,List.set_cons_succ,List.set_cons_zero]
         clear he hb8 f8
         go_wp2
         go_ret3
         rw [HE.out]
         exact ⟨rfl,hb1⟩
      ·obtain ⟨m,rfl⟩:∃ j,m=j+1:=⟨m - 1,by omega⟩
       have hcut:=znZ l k m (by omega) (by omega)
       rw [←hX] at hcut
       obtain ⟨ad',had,_,hc'⟩:=hl.cell (k:=m) (by rw [List.length_map];omega)
       injection had with had
       subst had
       obtain ⟨b',hb'⟩:∃ b':Nat,b'=(l[m]'(by omega)).toNat:=⟨_,rfl⟩
       have hcb':w.cell? (ad.add m)=some (.int .u8 (b':Int)):=by rw [hc',List.getElem_map,hb'];rfl
       have hb256':b' < 256:=by rw [hb'];exact UInt8.toNat_lt _
       rw [←hb'] at hcut
       have HC:=Lib.hid hcut
       clear hcut hX hc' hb' hcb
       have hmn:(m:Int) < (n:Int):=by omega
       have hmi:((m+1:Nat):Int) - 1=(m:Int):=by omega
       rw [hmi]
       go_wp2
       go_round
       case rel =>
        refine ⟨m,rfl,by omega,?_⟩
        have h3:=HC.out
        rw [←h3]
        congr 1
       case measure=>simp [intOf]
    ·have g3:(b:Int) < 128:=by
      rcases HS.out.2.2.2 with h | h
      ·omega
      ·have:=h (by omega);rw [←HB.out] at this;omega
     have g2:(k:Int) < 9:=by omega
     go_wp2
     go_loop [6,7] (zkv l k) (fun _ i=>(intOf i+1).toNat)
     case atStart=>exact ⟨k+1,by go_num,by omega,by simp [vsum]⟩
     case round =>
      obtain ⟨m,rfl,hm,rfl⟩:=hrel
      obtain ⟨X,hX⟩:∃ X:Nat,X=vsum (List.drop m (List.take (k+1) l)) % 18446744073709551616:=⟨_,rfl⟩
      rw [←hX]
      have hXb:(X:Int) < 18446744073709551616:=by omega
      by_cases hm0:m=0
      ·subst hm0
       have HX:=Lib.hid hX
       clear hX
       have hlt:Lies w (some ad) ((l.take (k+1)).map bv):=by rw [List.map_take];exact hl.take _
       have htl:(l.take (k+1)).length=k+1:=by rw [List.length_take];omega
       go_wp2
       refine wp_region_list [.is (.int .u64 (X:Int)),.bytes (vput X),.is (.string ⟨(vput X).toArray⟩),.is (.slice (some ad) n c),.is (.int .i64 (k:Int)),.is (.int .i64 ((k:Int)+1)),.is (.slice (some ad) (k+1) c),
        .is (.string ⟨(l.take (k+1)).toArray⟩),.is (.bool !(vput X == l.take (k+1)))] [some 43,some 44,some 45,some 46,some 47,some 48,some 49,some 50,some 51] (by kernel_rfl) (by kernel_rfl) (by kernel_rfl) rfl ⟨?_,?_,?_,?_,?_,?_,?_,?_,?_,trivial⟩ ?_
       ·intro ρ w1 hb1 H
        exact zd rfl (H.old 6 _ (by kernel_rfl) rfl) ⟨rfl,Below.refl _ _⟩
       ·intro ρ w1 hb1 H
        have e0:ρ (.tmp 43)=.int .u64 (X:Int):=H.new 43 0 (by kernel_rfl)
        refine zj rfl zvx (H.func _) (args:=#[.slice none 0 0,.int .u64 (X:Int)]) (by simp [H.const,e0]) ?_
        refine (znX none 0 0 (X:Int) [] _ (by simp) rfl (by omega) Lies.nil (by omega) hXb).mono fun e w2 h=>?_
        exact h.isB
       ·intro ρ w1 hb1 H
        obtain ⟨A1,c1,e1,h1,h2,h3,h4⟩:IsB (vput X) (ρ (.tmp 44)) w1:=H.new 44 1 (by kernel_rfl)
        exact zS rfl e1 (run_text w1 _ _ _ Tryz.underlying25 Tryz.underlying5 Tryz.underlying9 A1 _ c1 _ rfl h4) ⟨rfl,Below.refl _ _⟩
       ·intro ρ w1 hb1 H
        exact zd rfl (H.old 0 _ (by kernel_rfl) rfl) ⟨rfl,Below.refl _ _⟩
       ·intro ρ w1 hb1 H
        exact zd rfl (H.old 5 _ (by kernel_rfl) rfl) ⟨rfl,Below.refl _ _⟩
       ·intro ρ w1 hb1 H
        exact zb4 rfl (H.new 47 4 (by kernel_rfl)) (H.const _) (by omega) (by omega) ⟨rfl,Below.refl _ _⟩
       ·intro ρ w1 hb1 H
        exact zdw elemB rfl (H.new 46 3 (by kernel_rfl)) (h:=k+1) (H.new 48 5 (by kernel_rfl)) (by omega) ⟨rfl,Below.refl _ _⟩
       ·intro ρ w1 hb1 H
        exact zS rfl (H.new 49 6 (by kernel_rfl)) (run_text w1 _ _ _ Tryz.underlying25 Tryz.underlying5 Tryz.underlying9 _ _ _ _ htl (hlt.below hb1)) ⟨rfl,Below.refl _ _⟩
       ·intro ρ w1 hb1 H
        exact zcI rfl (H.new 45 2 (by kernel_rfl)) (H.new 50 7 (by kernel_rfl)) ⟨rfl,Below.refl _ _⟩
       ·intro vs w1 hb1 hfs
        have f8:vs 8=.bool !(vput X == l.take (k+1)):=hfs 8 (by decide)
        clear hfs
        generalize vs 0=v0 at *;generalize vs 1=v1 at *;generalize vs 2=v2 at *;generalize vs 3=v3 at *;generalize vs 4=v4 at *;generalize vs 5=v5 at *;generalize vs 6=v6 at *;generalize vs 7=v7 at *
        by_cases he:vput X=l.take (k+1)
        ·have hb8:(vput X == l.take (k+1))=true:=by simpa using he
         rw [hb8] at f8
         have HE:Hid (zby l=some (X,l.drop (k+1))):=by
          show zby l=_
          have h2:=HX.out
          rw [List.drop_zero] at h2
          have h1:=ziD (l:=l) (n:=k) (by rw [←h2];exact he)
          rw [h1,←h2]
         simp only [zr,f8,Bool.not_true,Act.put,List.setIfInBounds_toArray,List.set_cons_succ,List.set_cons_zero]
         clear he hb8 f8
         have hz1:=hb1.size
         have hbb:Below w.heap.size w (w1.alloc (.cells #[] 5)):=hb1.alloc hb1.size _
         have hown0:(w1.alloc (.cells #[] 5)).ownsRow w.heap.size 5 1 (.slice (some ⟨w1.heap.size,0,none⟩) 0 0) 0 []:=World.ownsRow_made w1 #[] 0 hb1.size (by unfold maxLen;omega) (by simp)
         have hdl:((l.drop (k+1)).map bv).length=n - (k+1):=by rw [List.length_map,List.length_drop,hn]
         have hlk:Lies (w1.alloc (.cells #[] 5)) (some ⟨ad.block,ad.off+(k+1),none⟩) ((l.drop (k+1)).map bv):=by rw [List.map_drop];exact (hl.drop_some k).below hbb
         have hzz:w.heap.size≤(w1.alloc (.cells #[] 5)).heap.size:=by simp;omega
         have HF:Hid (∀ (v:Value) (w2:World),w2.ownsRow w.heap.size 5 1 v (n - (k+1)) ((l.drop (k+1)).map bv)→Below w.heap.size w w2 →
           RetT .u64 w ((zby l).map fun p=>((p.1:Int),p.2)) (.returned (.tuple #[.int .u64 (X:Int),v,.int .i64 0])) w2):=by
          show ∀ (v:Value) (w2:World),_
          intro v w2 hown hb
          obtain ⟨B,c',hB,h2,h3,h4,_,h6⟩:=zg6 (w0:=w) hown hb
          injection hB with hB
          subst hB
          rw [HE.out]
          exact ⟨B,c',rfl,h2,h3,h4,⟨_,hown⟩,h6⟩
         by_cases hck:c=k+1
         ·obtain rfl:n=k+1:=by omega
          have hd0:(l.drop (k+1)).map bv=[]:=List.eq_nil_of_length_eq_zero (by omega)
          have HD:=Lib.hid hd0
          clear hd0 hdl
          go_wp2_with (at_builtin;refine zk elemB rfl _ _ rfl w.heap.size _ _ _ _ _ _ [] w rfl rfl (by simp) (by simp) Lies.nil (by simp) hown0 hbb hzz (by omega) (by omega) ?_)
          intro vv w2 hown2 hb2 _ _
          go_wp2
          go_ret3
          exact HF.out vv w2 (by rw [HD.out];simpa using hown2) hb2
         ·go_wp2_with (at_builtin;refine zk elemB rfl _ _ rfl w.heap.size _ _ _ _ _ _ ((l.drop (k+1)).map bv) w rfl rfl (by simp) hdl hlk (zbv _) hown0 hbb hzz (by omega) (by omega) ?_)
          intro vv w2 hown2 hb2 _ _
          go_wp2
          go_ret3
          exact HF.out vv w2 (by simpa using hown2) hb2
        ·have hb8:(vput X == l.take (k+1))=false:=by simpa using he
         rw [hb8] at f8
         have HE:Hid (zby l=none):=by
          show zby l=none
          refine zhm HS.out ?_
          have h2:=HX.out
          rw [List.drop_zero] at h2
          rw [←h2]
          exact he
         simp only [zr,f8,Bool.not_false,Act.put,List.setIfInBounds_toArray,List.set_cons_succ,List.set_cons_zero]
         clear he hb8 f8
         go_wp2
         go_ret3
         rw [HE.out]
         exact ⟨rfl,hb1⟩
      ·obtain ⟨m,rfl⟩:∃ j,m=j+1:=⟨m - 1,by omega⟩
       have hcut:=znZ l k m (by omega) (by omega)
       rw [←hX] at hcut
       obtain ⟨ad',had,_,hc'⟩:=hl.cell (k:=m) (by rw [List.length_map];omega)
       injection had with had
       subst had
       obtain ⟨b',hb'⟩:∃ b':Nat,b'=(l[m]'(by omega)).toNat:=⟨_,rfl⟩
       have hcb':w.cell? (ad.add m)=some (.int .u8 (b':Int)):=by rw [hc',List.getElem_map,hb'];rfl
       have hb256':b' < 256:=by rw [hb'];exact UInt8.toNat_lt _
       rw [←hb'] at hcut
       have HC:=Lib.hid hcut
       clear hcut hX hc' hb' hcb
       have hmn:(m:Int) < (n:Int):=by omega
       have hmi:((m+1:Nat):Int) - 1=(m:Int):=by omega
       rw [hmi]
       go_wp2
       go_round
       case rel =>
        refine ⟨m,rfl,by omega,?_⟩
        have h3:=HC.out
        rw [←h3]
        congr 1
       case measure=>simp [intOf]
   ·have g1:¬(k:Int) < (n:Int):=by omega
    have HE:=Lib.hid (zmt HS.out (by omega))
    go_wp2
    go_ret3
    rw [HE.out]
    exact ⟨rfl,Below.refl _ _⟩
def vint (x:Int) (s:Bool):Nat:=if s=true then (vzig x).toNat else (x % 18446744073709551616).toNat
def zbC (l:List UInt8) (s:Bool):Option (Int × List UInt8):=
 match zby l,s with
 | none,_=>none
 | some p,true=>some (vzag (p.1:Int),p.2)
 | some p,false=>if 9223372036854775808≤(p.1:Int) then none else some ((p.1:Int),p.2)
theorem zf1 {l:List UInt8} (s:Bool) (h:zby l=none):zbC l s=none:=by unfold zbC;rw [h]
theorem zdx {l r:List UInt8} {u:Nat} (h:zby l=some (u,r)):zbC l true=some (vzag (u:Int),r):=by unfold zbC;rw [h]
theorem zcZ {l r:List UInt8} {u:Nat} (h:zby l=some (u,r)) (hu:(u:Int) < 9223372036854775808):zbC l false=some ((u:Int),r):=by
 unfold zbC;rw [h];exact if_neg (by show ¬(9223372036854775808:Int)≤(u:Int);omega)
theorem zhp {l r:List UInt8} {u:Nat} (h:zby l=some (u,r)) (hu:9223372036854775808≤(u:Int)):zbC l false=none:=by
 unfold zbC;rw [h];exact if_pos hu
theorem ziE (A:Option Addr) (n c:Nat) (x:Int) (s:Bool) (l:List UInt8) (w:World) (hA:A=none→n=0) (hn:l.length=n) (hnb:n≤1000000) (hl:Lies w A (l.map bv)) (h0 : -9223372036854775808≤x) (h1:x≤9223372036854775807) :
  Calls Tryz.prog 152 #[.slice A n c,.int .i64 x,.bool s] w (RetOwn w (l ++ vput (vint x s))):=by
 cases s with
 | true =>
  obtain ⟨hz0,hz1⟩:=zel h0 h1
  go_enter Tryz.func152,Tryz.ntmps152
  go_wp2_with (first | (go_at_call 164;refine (zmu _ _ h0 h1).mono ?_;rintro e w' ⟨rfl,rfl⟩) | (go_at_call 181;refine (zmw _ _ _ _ l _ hA hn hnb hl hz0 hz1).mono ?_;intro e w' h;obtain ⟨v,rfl,hv,hb⟩:=h;have HV:=Lib.hid hv;clear hv))
  go_ret
  exact ⟨_,rfl,HV.out,hb⟩
 | false =>
  have hw:IntKind.u64.wrap x=x % 18446744073709551616:=IntKind.wrap_u64 x
  have hu0:0≤x % 18446744073709551616:=by omega
  have hu1:x % 18446744073709551616 < 18446744073709551616:=by omega
  by_cases hx:0≤x
  ·have he:x % 18446744073709551616=x:=by omega
   have HE:=Lib.hid he
   clear he hu0 hu1 hw
   go_enter Tryz.func152,Tryz.ntmps152
   go_wp2_with (go_at_call 181;refine (zmw _ _ _ _ l _ hA hn hnb hl hx (by omega)).mono ?_;intro e w' h;obtain ⟨v,rfl,hv,hb⟩:=h;have HV:=Lib.hid hv;clear hv)
   go_ret
   unfold vint
   rw [if_neg (by decide),HE.out]
   exact ⟨_,rfl,HV.out,hb⟩
  ·have hx':x < 0:=by omega
   go_enter Tryz.func152,Tryz.ntmps152
   go_wp2_with (go_at_call 181;refine (zmw _ _ _ _ l _ hA hn hnb hl hu0 hu1).mono ?_;intro e w' h;obtain ⟨v,rfl,hv,hb⟩:=h;have HV:=Lib.hid hv;clear hv)
   go_ret
   exact ⟨_,rfl,HV.out,hb⟩
theorem zoU (A:Option Addr) (n c:Nat) (x:Int) (s:Bool) (l:List UInt8) (w:World) (hA:A=none→n=0) (hn:l.length=n) (hnb:n≤1000000) (hl:Lies w A (l.map bv)) (h0 : -9223372036854775808≤x) (h1:x≤9223372036854775807) :
  Calls Tryz.prog 152 #[.slice A n c,.int .i64 x,.bool s] w (RetB w (l ++ vput (vint x s))):=(ziE A n c x s l w hA hn hnb hl h0 h1).mono fun _ _ h=>h.retB
theorem zmy (A:Option Addr) (n c:Nat) (s:Bool) (l:List UInt8) (w:World) (hA:A=none→n=0) (hn:l.length=n) (hnc:n≤c) (hnb:n≤1000000) (hl:Lies w A (l.map bv)) :
  Calls Tryz.prog 154 #[.slice A n c,.bool s] w (RetT .i64 w (zbC l s)):=by
 cases ht:zby l with
 | none =>
  have hc:=znY A n c l w hA hn hnc hnb hl
  rw [ht] at hc
  have HC:=Lib.hid hc
  have HT:=Lib.hid ht
  clear hc ht
  go_enter Tryz.func154,Tryz.ntmps154
  go_wp2_with (go_at_call 182;refine HC.out.mono ?_;rintro e w' ⟨rfl,hb⟩)
  go_ret3
  rw [zf1 _ HT.out]
  exact ⟨rfl,hb⟩
 | some p =>
  obtain ⟨u,r⟩:=p
  have hu:=(zcv ht).2
  have hu0:(0:Int)≤(u:Int):=by omega
  have hu1:(u:Int) < 18446744073709551616:=by omega
  have hc:=znY A n c l w hA hn hnc hnb hl
  rw [ht] at hc
  have ht':Option.map (fun p:Nat × List UInt8=>((p.1:Int),p.2)) (some (u,r))=some ((u:Int),r):=rfl
  rw [ht'] at hc
  obtain ⟨U,hU⟩:∃ U:Int,U=(u:Int):=⟨_,rfl⟩
  rw [←hU] at hc hu0 hu1
  have HU:=Lib.hid hU
  have HC:=Lib.hid hc
  have HT:=Lib.hid ht
  clear hc ht hu ht' hU
  cases s with
  | true =>
   go_enter Tryz.func154,Tryz.ntmps154
   go_wp2_with (first | (go_at_call 182;refine HC.out.mono ?_;rintro e w' ⟨A1,c1,rfl,h2⟩;have H2:=Lib.hid h2;clear h2) | (go_at_call 176;refine (zmv _ _ hu0 hu1).mono ?_;rintro e w2 ⟨rfl,rfl⟩))
   go_ret3
   rw [zdx HT.out,←HU.out]
   exact ⟨A1,c1,rfl,H2.out⟩
  | false =>
   by_cases hbig:U < 9223372036854775808
   ·have hb2:¬(9223372036854775807:Int) < U:=by omega
    have hb3:¬(9223372036854775808:Int)≤U:=by omega
    go_enter Tryz.func154,Tryz.ntmps154
    go_wp2_with (go_at_call 182;refine HC.out.mono ?_;rintro e w' ⟨A1,c1,rfl,h2⟩;have H2:=Lib.hid h2;clear h2)
    go_ret3
    rw [zcZ HT.out (by have:=HU.out;omega),←HU.out]
    exact ⟨A1,c1,rfl,H2.out⟩
   ·have hb2:(9223372036854775807:Int) < U:=by omega
    have hb3:(9223372036854775808:Int)≤U:=by omega
    go_enter Tryz.func154,Tryz.ntmps154
    go_wp2_with (go_at_call 182;refine HC.out.mono ?_;rintro e w' ⟨A1,c1,rfl,h2⟩;have H2:=Lib.hid h2;clear h2)
    go_ret3
    rw [zhp HT.out (by have:=HU.out;omega)]
    exact ⟨rfl,H2.out.2.2.2.2⟩
theorem zkx (A:Option Addr) (n c:Nat) (s:Bool) (l:List UInt8) (w:World) (hA:A=none→n=0) (hn:l.length=n) (hnc:n≤c) (hnb:n≤1000000) (hl:Lies w A (l.map bv)) :
  Calls Tryz.prog 112 #[.slice A n c,.bool s] w (RetT .i64 w (zbC l s)):=by
 cases ht:zby l with
 | none =>
  have hc:=zkw A n c l w hA hn hnc hnb hl
  rw [ht] at hc
  have HC:=Lib.hid hc
  have HT:=Lib.hid ht
  clear hc ht
  go_enter Tryz.func112,Tryz.ntmps112
  go_wp2_with (go_at_call 129;refine HC.out.mono ?_;rintro e w' ⟨rfl,hb⟩)
  go_ret3
  rw [zf1 _ HT.out]
  exact ⟨rfl,hb⟩
 | some p =>
  obtain ⟨u,r⟩:=p
  have hu:=(zcv ht).2
  have hu0:(0:Int)≤(u:Int):=by omega
  have hu1:(u:Int) < 18446744073709551616:=by omega
  have hc:=zkw A n c l w hA hn hnc hnb hl
  rw [ht] at hc
  have ht':Option.map (fun p:Nat × List UInt8=>((p.1:Int),p.2)) (some (u,r))=some ((u:Int),r):=rfl
  rw [ht'] at hc
  obtain ⟨U,hU⟩:∃ U:Int,U=(u:Int):=⟨_,rfl⟩
  rw [←hU] at hc hu0 hu1
  have HU:=Lib.hid hU
  have HC:=Lib.hid hc
  have HT:=Lib.hid ht
  clear hc ht hu ht' hU
  cases s with
  | true =>
   go_enter Tryz.func112,Tryz.ntmps112
   go_wp2_with (first | (go_at_call 129;refine HC.out.mono ?_;rintro e w' ⟨A1,c1,rfl,h2⟩;have H2:=Lib.hid h2;clear h2) | (go_at_call 130;refine (znV _ _ hu0 hu1).mono ?_;rintro e w2 ⟨rfl,rfl⟩))
   go_ret3
   rw [zdx HT.out,←HU.out]
   exact ⟨A1,c1,rfl,H2.out⟩
  | false =>
   by_cases hbig:U < 9223372036854775808
   ·have hb2:¬(9223372036854775807:Int) < U:=by omega
    have hb3:¬(9223372036854775808:Int)≤U:=by omega
    go_enter Tryz.func112,Tryz.ntmps112
    go_wp2_with (go_at_call 129;refine HC.out.mono ?_;rintro e w' ⟨A1,c1,rfl,h2⟩;have H2:=Lib.hid h2;clear h2)
    go_ret3
    rw [zcZ HT.out (by have:=HU.out;omega),←HU.out]
    exact ⟨A1,c1,rfl,H2.out⟩
   ·have hb2:(9223372036854775807:Int) < U:=by omega
    have hb3:(9223372036854775808:Int)≤U:=by omega
    go_enter Tryz.func112,Tryz.ntmps112
    go_wp2_with (go_at_call 129;refine HC.out.mono ?_;rintro e w' ⟨A1,c1,rfl,h2⟩;have H2:=Lib.hid h2;clear h2)
    go_ret3
    rw [zhp HT.out (by have:=HU.out;omega)]
    exact ⟨rfl,H2.out.2.2.2.2⟩
def zun (o:Option (Int × List UInt8)):Int:=match o with | none=>0 | some p=>p.1
def zuo (o:Option (Int × List UInt8)):List UInt8:=match o with | none=>[] | some p=>p.2
def zup (o:Option (Int × List UInt8)):Int:=match o with | none=>2 | some _=>0
theorem RetT.parts {k:IntKind} {w w':World} {o:Option (Int × List UInt8)} {e:Ending} (h:RetT k w o e w') :
  ∃ r,e=.returned (.tuple #[.int k (zun o),r,.int .i64 (zup o)])∧IsB (zuo o) r w'∧Below w.heap.size w w':=by
 cases o with
 | none=>exact ⟨_,h.1,zcu _,h.2⟩
 | some p =>
  obtain ⟨A,c,h1,h2,h3,h4,h5,h6⟩:=h
  exact ⟨_,h1,h5.isB,h6⟩
theorem RetT.owned {k:IntKind} {w w':World} {o:Option (Int × List UInt8)} {e:Ending} (h:RetT k w o e w') :
  ∃ r,e=.returned (.tuple #[.int k (zun o),r,.int .i64 (zup o)])∧OwnB w (zuo o) r w'∧Below w.heap.size w w':=by
 cases o with
 | none=>exact ⟨_,h.1,OwnB.nil _ _,h.2⟩
 | some p =>
  obtain ⟨A,c,h1,h2,h3,h4,h5,h6⟩:=h
  exact ⟨_,h1,h5,h6⟩
theorem zhq {l:List UInt8} {v:Value} {w:World} (s:Bool) (h:IsB l v w) (hl:l.length≤1000000):Calls Tryz.prog 154 #[v,.bool s] w (RetT .i64 w (zbC l s)):=by
 obtain ⟨A,c,rfl,h2,h3,h4,h5⟩:=h
 exact zmy A _ c s l w h2 rfl h3 hl h5
theorem zgw {l:List UInt8} {v:Value} {w:World} (s:Bool) (h:IsB l v w) (hl:l.length≤1000000):Calls Tryz.prog 112 #[v,.bool s] w (RetT .i64 w (zbC l s)):=by
 obtain ⟨A,c,rfl,h2,h3,h4,h5⟩:=h
 exact zkx A _ c s l w h2 rfl h3 hl h5
theorem ziF {l:List UInt8} {v:Value} {w:World} (x:Int) (s:Bool) (h:IsB l v w) (hl:l.length≤1000000) (h0 : -9223372036854775808≤x) (h1:x≤9223372036854775807) :
  Calls Tryz.prog 152 #[v,.int .i64 x,.bool s] w fun e w'=>∃ v,e=.returned v∧IsB (l ++ vput (vint x s)) v w'∧Below w.heap.size w w':=by
 obtain ⟨A,c,rfl,h2,h3,h4,h5⟩:=h
 exact (zoU A _ c x s l w h2 rfl hl h5 h0 h1).mono fun _ _ h=>h.isB
theorem ziG {l:List UInt8} {v:Value} {w:World} (x:Int) (s:Bool) (h:IsB l v w) (hl:l.length≤1000000) (h0 : -9223372036854775808≤x) (h1:x≤9223372036854775807) :
  Calls Tryz.prog 152 #[v,.int .i64 x,.bool s] w (RetOwn w (l ++ vput (vint x s))):=by
 obtain ⟨A,c,rfl,h2,h3,h4,h5⟩:=h
 exact ziE A _ c x s l w h2 rfl hl h5 h0 h1
end Go.Proofs.YtlibofmpnlfelaaGreatDoor
namespace Go.Proofs.YtlibofmpnlfelaaGreatDoor
open Go.RowKit Go.ChangeShapes Go.WideShapes Go.ChangeAt
def IsV {α:Type} (f:α→Value) (l:List α) (v:Value) (w:World):Prop:=∃ A c,v=.slice A l.length c∧(A=none→l.length=0)∧l.length≤c∧c≤maxLen∧Lies w A (l.map f)
section
variable {α:Type} {f:α→Value} {l:List α} {v:Value} {w w':World}
theorem IsV.below (h:IsV f l v w) (hb:Below w.heap.size w w'):IsV f l v w':=by
 obtain ⟨A,c,h1,h2,h3,h4,h5⟩:=h
 exact ⟨A,c,h1,h2,h3,h4,h5.below hb⟩
theorem zdW (f:α→Value) (w:World):IsV f [] (.slice none 0 0) w:=⟨none,0,rfl,by simp,by simp,by unfold maxLen;omega,Lies.nil⟩
theorem zbN {g:Nat} {t:TypeId} {m:Nat} (h:Row w g t (l.map f)) (hl:l.length=m) (hm:m≤1000000):IsV f l (.slice (some ⟨g,0,none⟩) m m) w:=by
 subst hl
 exact ⟨_,_,rfl,by simp,Nat.le_refl _,by unfold maxLen;omega,by simpa using h.lies 0⟩
theorem zuN (f:α→Value) (w:World) (t:TypeId) (l:List α) (m:Nat) (hl:l.length=m) (hm:m≤1000000):IsV f l (.slice (some ⟨w.heap.size,0,none⟩) m m) (w.alloc (.cells (l.map f).toArray t)):=by
 have h:Row (w.alloc (.cells (l.map f).toArray t)) w.heap.size t (l.map f):=heap_alloc_new w _
 exact zbN h hl hm
theorem zbk {base:Nat} {e:TypeId} {n:Nat} (h:w.ownsRow base e 1 v n (l.map f)):IsV f l v w:=by
 obtain ⟨B,c,rfl,hnc,hcm,_,hl,hlen⟩:=zz h
 rw [List.length_map] at hlen
 subst hlen
 refine ⟨B,c,rfl,?_,hnc,hcm,hl⟩
 intro hB
 subst hB
 rcases hl with hl | ⟨ad,h,_⟩
 ·simpa using hl
 ·cases h
theorem zuq {f:α→Value} (h:∀ x,(f x).oneCell'=true) (l:List α):∀ u∈l.map f,u.oneCell'=true:=by
 intro u hu
 obtain ⟨b,_,rfl⟩:=List.mem_map.1 hu
 exact h b
theorem IsV.cell (h:IsV f l v w) {k:Nat} (hk:k < l.length):∃ ad c,v=.slice (some ad) l.length c∧ad.block < w.heap.size∧w.cell? (ad.add k)=some (f l[k]):=by
 obtain ⟨A,c,h1,_,_,_,h5⟩:=h
 obtain ⟨ad,rfl,h2,h3⟩:=h5.cell (k:=k) (by rw [List.length_map];exact hk)
 exact ⟨ad,c,h1,h2,by rw [h3,List.getElem_map]⟩
theorem IsV.at {A:Option Addr} {n c:Nat} (h:IsV f l (.slice A n c) w) {k:Nat} (hk:k < l.length):∃ ad,A=some ad∧ad.block < w.heap.size∧w.cell? (ad.add k)=some (f l[k]):=by
 obtain ⟨ad,c',h1,h2,h3⟩:=h.cell hk
 injection h1 with h1 _ _
 exact ⟨ad,h1,h2,h3⟩
theorem IsV.len {A:Option Addr} {n c:Nat} (h:IsV f l (.slice A n c) w):n=l.length:=by
 obtain ⟨A',c',h1,_⟩:=h
 injection h1
theorem IsV.take {A:Option Addr} {n c:Nat} (h:IsV f l (.slice A n c) w) {k:Nat} (hk:k≤n):IsV f (l.take k) (.slice A k c) w:=by
 obtain ⟨A',c',h1,h2,h3,h4,h5⟩:=h
 injection h1 with e1 e2 e3
 subst e1 e2 e3
 have hl:(l.take k).length=k:=by rw [List.length_take];omega
 exact ⟨A,c,by rw [hl],fun h=>by have:=h2 h;omega,by rw [hl];omega,h4,by rw [List.map_take];exact h5.take k⟩
end
theorem IsV.parts {α:Type} {f:α→Value} {l:List α} {w:World} {A:Option Addr} {n c:Nat} (h:IsV f l (.slice A n c) w):l.length=n∧(A=none→n=0)∧n≤c∧c≤maxLen∧Lies w A (l.map f):=by
 obtain ⟨A',c',h1,h2,h3,h4,h5⟩:=h
 injection h1 with e1 e2 e3
 subst e1 e2 e3
 exact ⟨rfl,h2,h3,h4,h5⟩
theorem IsV.shape {α:Type} {f:α→Value} {l:List α} {v:Value} {w:World} (h:IsV f l v w):∃ A n c,v=.slice A n c:=by
 obtain ⟨A',c',h1,_⟩:=h
 exact ⟨_,_,_,h1⟩
theorem isB_iff {l:List UInt8} {v:Value} {w:World}:IsB l v w↔IsV bv l v w:=Iff.rfl
theorem zbe {P:Program} {α:Type} {f:α→Value} {w:World} {t e:TypeId} {bytes:Nat} {z:Value} (E:Elem P t e bytes z) {A:Option Addr} {n c k:Nat} {l:List α} (hk:k≤n) (hI:IsV f l (.slice A n c) w) :
  ∃ v,(∀ W,(Instr.sliceAt t (.slice A n c) (some (.int .i64 (k:Int))) none none).run P W=.ok v W)∧IsV f (l.drop k) v w:=by
 obtain ⟨hxs,hA,hnc,hcm,hl⟩:=hI.parts
 have ht:=E.under
 have he:P.elem t=e:=by simp [Program.elem,ht]
 refine ⟨.slice (if c=k then A else A.map (·.add k)) (n - k) (c - k),fun W=>?_,if c=k then A else A.map (·.add k),c - k,?_,?_,?_,by omega,?_⟩
 ·rw [run_sliceAt_slice W t _ _ _ _ (by rw [he];exact ht),run_slice_l W t A n c (by rw [he];exact ht) .i64 (k:Int) (by omega) (by omega),he,E.size_]
  simp [sliced]
 ·rw [List.length_drop,hxs]
 ·intro hB
  have:A=none:=by
   split at hB
   ·exact hB
   ·cases A with
    | none=>rfl
    | some ad=>simp at hB
  have:=hA this
  rw [List.length_drop,hxs]
  omega
 ·rw [List.length_drop,hxs];omega
 ·rw [List.map_drop];exact hl.drop (by rw [List.length_map];omega)
theorem zmz {H:Type} {enc:TypeId × Value→H} {P:Program} {t e:TypeId} {W:World} {v:Value} {d:DataW H} {ps:List MemPlace} {base:Nat} (ht:P.underlying t=some (.slice e)) (he:P.underlying e=some (.int .u8)) (hc:P.cellsOf e=1)
  (hval:Value.okWide P W .any base t v) (hd:DataW.Trod enc P W 0 (fun _=>true) true t v d ps) (hlt:∀ x∈ps,x.block < W.heap.size):∃ l:List UInt8,IsB l v W:=by
 obtain ⟨A,n,c,l,rfl,hA,hn,hnc,hcm,hl⟩:=zoG ht he hc hval hd hlt
 subst hn
 exact ⟨l,A,c,rfl,hA,hnc,hcm,hl⟩
def iv (x:Int):Value:=.int .i64 x
def inInt (x:Int):Prop:=-9223372036854775808≤x∧x≤9223372036854775807
theorem Tryz.infoL:(Tryz.prog.info? 4).map (fun i=>(i.zero,i.size,i.bytes))=some (some (.bool false),1,1):=by kernel_rfl
theorem zoV:Elem Tryz.prog 45 4 1 (.bool false):=by
 obtain ⟨i0,hi,hz0,hz1,hz2⟩:=info_parts Tryz.infoL
 exact ⟨Tryz.underlying45,rfl,i0,hi,hz0,hz1,hz2⟩
theorem Tryz.infoI:(Tryz.prog.info? 3).map (fun i=>(i.zero,i.size,i.bytes))=some (some (.int .i64 0),1,8):=by kernel_rfl
theorem zck:Elem Tryz.prog 34 3 8 (.int .i64 0):=by
 obtain ⟨i0,hi,hz0,hz1,hz2⟩:=info_parts Tryz.infoI
 exact ⟨Tryz.underlying34,rfl,i0,hi,hz0,hz1,hz2⟩
end Go.Proofs.YtlibofmpnlfelaaGreatDoor
namespace Go.Proofs.YtlibofmpnlfelaaGreatDoor
def zO (u:Nat):Nat:=max 1 ((zY u+7) / 8)
theorem zdy (u:Nat):1≤zO u:=Nat.le_max_left _ _
theorem zfr {u:Nat} (h:u < 2 ^ 64):zO u≤8:=by have:=zcQ h;unfold zO;omega
theorem zmA {u:Nat} (h:u < 2 ^ 64):u < 256 ^ zO u:=by
 rw [p256]
 exact Nat.lt_of_lt_of_le (zdQ h) (Nat.pow_le_pow_right (by omega) (by unfold zO;omega))
def zx (x:Int) (s:Bool):Option Nat:=if s then some (vzig x).toNat else if 0≤x then some x.toNat else none
def zbf (u:Nat) (s:Bool):Option Int:=if s then some (vzag (u:Int)) else if u < 9223372036854775808 then some (u:Int) else none
theorem zhr {x:Int} {s:Bool} {u:Nat} (h0 : -9223372036854775808≤x) (h1:x≤9223372036854775807) (h:zx x s=some u):u < 2 ^ 64:=by
 have:=zel h0 h1
 unfold zx at h
 cases s <;> simp at h
 ·omega
 ·omega
theorem zgx {x:Int} {s:Bool} {u:Nat} (h0 : -9223372036854775808≤x) (h1:x≤9223372036854775807) (h:zx x s=some u):zbf u s=some x:=by
 have hb:=zel h0 h1
 unfold zx at h
 unfold zbf
 cases s with
 | true =>
  simp at h
  rw [if_pos rfl,←h,show (((vzig x).toNat:Nat):Int)=vzig x by omega,zku]
 | false =>
  simp at h
  rw [if_neg (by simp),if_pos (by omega)]
  congr 1
  omega
theorem zky {x:Int} {s:Bool} {u:Nat} (h:zbf u s=some x):zx x s=some u:=by
 unfold zbf at h
 unfold zx
 cases s with
 | true =>
  simp at h
  rw [if_pos rfl,←h,zqZ (by omega)]
  simp
 | false =>
  simp at h
  rw [if_neg (by simp),if_pos (by omega)]
  congr 1
  omega
theorem zto {x:Int} {s:Bool} {u:Nat} (hu:u < 2 ^ 64) (h:zbf u s=some x) : -9223372036854775808≤x∧x≤9223372036854775807:=by
 unfold zbf at h
 cases s with
 | true=>simp at h;have:=zqY (u:=(u:Int)) (by omega) (by omega);omega
 | false=>simp at h;omega
def elay (u t:Nat):List UInt8:=UInt8.ofNat (8*(zO u - 1)+(t - 3))::be (zO u) u
theorem zgQ (u t:Nat):(elay u t).length=zO u+1:=by simp [elay,zcJ]
def eput (x t:Int) (s:Bool):List UInt8 × Int:=
 if t < 3∨10 < t then ([],1) else match zx x s with | none=>([],1) | some u=>(elay u t.toNat,0)
def zG (l:List UInt8) (s:Bool):Int × Int × List UInt8 × Int:=
 match l with
 | []=>(0,0,[],2)
 | b::r =>
  if 64≤b.toNat then (0,0,[],2)
  else if r.length < b.toNat / 8+1 then (0,0,[],2)
  else if zO (bval (r.take (b.toNat / 8+1)))≠b.toNat / 8+1 then (0,0,[],2)
  else match zbf (bval (r.take (b.toNat / 8+1))) s with
   | none=>(0,0,[],2)
   | some x=>(x,((b.toNat % 8+3:Nat):Int),r.drop (b.toNat / 8+1),0)
theorem zoW {u t:Nat} {x:Int} {s:Bool} (hu:u < 2 ^ 64) (h3:3≤t) (h10:t≤10) (hx:zbf u s=some x) (b:List UInt8):zG (elay u t ++ b) s=(x,(t:Int),b,0):=by
 have h1:=zdy u
 have h8:=zfr hu
 have hr:=zmA hu
 have hc:(UInt8.ofNat (8*(zO u - 1)+(t - 3))).toNat=8*(zO u - 1)+(t - 3):=by rw [UInt8.toNat_ofNat'];omega
 have hd:(8*(zO u - 1)+(t - 3)) / 8+1=zO u:=by omega
 have hm:(8*(zO u - 1)+(t - 3)) % 8+3=t:=by omega
 have hl:=zcJ (zO u) u
 have ht:(be (zO u) u ++ b).take (zO u)=be (zO u) u:=by
  conv=>lhs;rw [show zO u=(be (zO u) u).length from hl.symm]
  rw [hl]
  conv=>lhs;arg 1;rw [←hl]
  simp
 have hv:bval (be (zO u) u)=u:=by rw [zfX,Nat.mod_eq_of_lt hr]
 have hdr:(be (zO u) u ++ b).drop (zO u)=b:=by
  have:=List.drop_left (l₁:=be (zO u) u) (l₂:=b)
  rwa [hl] at this
 unfold elay zG
 rw [List.cons_append]
 simp only [hc,hd,hm]
 rw [if_neg (by omega),if_neg (by rw [List.length_append,hl];omega),ht,hv,if_neg (by simp),hx]
 simp only [hdr]
end Go.Proofs.YtlibofmpnlfelaaGreatDoor
namespace Go.Proofs.YtlibofmpnlfelaaGreatDoor
open Go.RowKit
theorem zmB (x:Int) (s:Bool) (w:World) (h0 : -9223372036854775808≤x) (h1:x≤9223372036854775807) :
  Calls Tryz.prog 92 #[.int .i64 x,.bool s] w fun e w'=>e=.returned (.tuple #[.int .u64 (((zx x s).getD 0:Nat):Int),.bool (zx x s).isSome])∧w=w':=by
 cases s with
 | true =>
  have hE:=Lib.hid (show zx x true=some (vzig x).toNat by unfold zx;rw [if_pos rfl])
  have hb:=Lib.hid (zel h0 h1)
  go_enter Tryz.func92,Tryz.ntmps92
  go_wp2_with (go_at_call 124;refine (ztl x _ h0 h1).mono ?_;rintro e w' ⟨rfl,rfl⟩)
  go_ret2
  rw [hE.out]
  exact ⟨by rw [Option.getD_some,Option.isSome_some,Int.toNat_of_nonneg hb.out.1];rfl,rfl⟩
 | false =>
  by_cases hx:0≤x
  ·have hE:=Lib.hid (show zx x false=some x.toNat by unfold zx;rw [if_neg (by simp),if_pos hx])
   have d:decide (0≤x)=true:=decide_eq_true hx
   have hm:∀ (ts:Array TypeId) (t:TypeId) (W:World),(Builtin.max_ ts t #[.int .i64 x,.int .i64 0]).run Tryz.prog W=.ok (.int .i64 x) W:=fun ts t W=>by
    rw [run_max_int2]
    congr 2
    split <;> omega
   go_enter Tryz.func92,Tryz.ntmps92
   go_wp2
   go_ret2
   rw [hE.out]
   exact ⟨by rw [Option.getD_some,Option.isSome_some,Int.toNat_of_nonneg hx];rfl,rfl⟩
  ·have hE:=Lib.hid (show zx x false=none by unfold zx;rw [if_neg (by simp),if_neg hx])
   have d:decide (0≤x)=false:=decide_eq_false hx
   have hm:∀ (ts:Array TypeId) (t:TypeId) (W:World),(Builtin.max_ ts t #[.int .i64 x,.int .i64 0]).run Tryz.prog W=.ok (.int .i64 0) W:=fun ts t W=>by
    rw [run_max_int2]
    congr 2
    split <;> omega
   go_enter Tryz.func92,Tryz.ntmps92
   go_wp2
   go_ret2
   rw [hE.out]
   exact ⟨rfl,rfl⟩
theorem ziH (u:Nat):zbf u true=some (vzag (u:Int)):=by unfold zbf;rw [if_pos rfl]
theorem zkz {U:Int} (h0:0≤U) (h:U < 9223372036854775808):zbf U.toNat false=some U:=by unfold zbf;rw [if_neg (by simp),if_pos (by omega),Int.toNat_of_nonneg h0]
theorem ziI {U:Int} (h:9223372036854775808≤U):zbf U.toNat false=none:=by unfold zbf;rw [if_neg (by simp),if_neg (by omega)]
theorem ziJ (U:Int) (s:Bool) (w:World) (h0:0≤U) (h1:U < 18446744073709551616) :
  Calls Tryz.prog 113 #[.int .u64 U,.bool s] w fun e w'=>e=.returned (.tuple #[.int .i64 ((zbf U.toNat s).getD 0),.bool (zbf U.toNat s).isSome])∧w=w':=by
 cases s with
 | true =>
  have hE:=Lib.hid (ziH U.toNat)
  go_enter Tryz.func113,Tryz.ntmps113
  go_wp2_with (go_at_call 130;refine (znV U _ h0 h1).mono ?_;rintro e w' ⟨rfl,rfl⟩)
  go_ret2
  rw [hE.out,Int.toNat_of_nonneg h0]
  exact ⟨rfl,rfl⟩
 | false =>
  by_cases hx:U < 9223372036854775808
  ·have hE:=Lib.hid (zkz h0 hx)
   have hd:¬(9223372036854775808:Int)≤U:=by omega
   go_enter Tryz.func113,Tryz.ntmps113
   go_wp2
   go_ret2
   rw [hE.out]
   exact ⟨rfl,rfl⟩
  ·have hE:=Lib.hid (ziI (U:=U) (by omega))
   have hd:(9223372036854775808:Int)≤U:=by omega
   go_enter Tryz.func113,Tryz.ntmps113
   go_wp2
   go_ret2
   rw [hE.out]
   exact ⟨rfl,rfl⟩
theorem zem {y:Nat} (h:y < 256):Value.int .u8 (y:Int)=bv (UInt8.ofNat y):=by unfold bv;congr 1;simp;omega
theorem zhs (w:World) (e:TypeId) (u:Value) {base:Nat} (hb:base≤w.heap.size):(w.alloc (.cells #[u] e)).ownsRow base e 1 (.slice (some ⟨w.heap.size,0,none⟩) 1 1) 1 [u]:=
 ⟨by simp,.inr ⟨w.heap.size,1,#[u],rfl,hb,heap_alloc_new w _,Nat.le_refl _,by unfold maxLen;omega,by simp,by simp⟩⟩
theorem zeE {x t:Int} {s:Bool} (h:t < 3∨10 < t):eput x t s=([],1):=by unfold eput;rw [if_pos h]
theorem zn0 {x t:Int} {s:Bool} (h:zx x s=none):eput x t s=([],1):=by unfold eput;split <;> simp [h]
theorem zjE {x:Int} {t u:Nat} {s:Bool} (h3:3≤t) (h10:t≤10) (h:zx x s=some u):eput x t s=(elay u t,0):=by
 unfold eput
 rw [if_neg (by omega),h,Int.toNat_natCast]
def ztp (l:List UInt8) (n u:Nat) (w:World) (v i:Value) (wr:World):Prop:=
 ∃ (k:Nat) (m:List UInt8),k≤n∧i=.int .i64 ((k:Int) - 1)∧m ++ be k u=l∧wr.ownsRow w.heap.size 5 1 v m.length (m.map bv)∧Below w.heap.size w wr
theorem zq1 (x t:Int) (s:Bool) (w:World) (h0 : -9223372036854775808≤x) (h1:x≤9223372036854775807) :
  Calls Tryz.prog 69 #[.int .i64 x,.int .i64 t,.bool s] w (RetE w (eput x t s)):=by
 have HP:=Lib.hid (fun W=>zmB x s W h0 h1)
 have hu64:(zx x s).getD 0 < 2 ^ 64:=by
  cases he:zx x s with
  | none=>simp
  | some u=>exact zhr h0 h1 he
 obtain ⟨u,hu⟩:∃ u,u=(zx x s).getD 0:=⟨_,rfl⟩
 obtain ⟨ok,hok⟩:∃ ok,ok=(zx x s).isSome:=⟨_,rfl⟩
 rw [←hu,←hok] at HP
 rw [←hu] at hu64
 by_cases ht:t < 3
 ·have hE:=Lib.hid (zeE (x:=x) (s:=s) (.inl ht))
  have d1:decide (t < 3)=true:=decide_eq_true ht
  clear hu hok hu64
  go_enter Tryz.func69,Tryz.ntmps69
  go_wp2_with (go_at_call 92;refine (HP.out _).mono ?_;rintro e w' ⟨rfl,rfl⟩)
  go_ret2
  rw [hE.out]
  exact RetE.nil _ (Below.refl _ _)
 ·have d1:decide (t < 3)=false:=decide_eq_false ht
  by_cases ht2:10 < t
  ·have hE:=Lib.hid (zeE (x:=x) (s:=s) (.inr ht2))
   have d2:decide (10 < t)=true:=decide_eq_true ht2
   clear hu hok hu64
   go_enter Tryz.func69,Tryz.ntmps69
   go_wp2_with (go_at_call 92;refine (HP.out _).mono ?_;rintro e w' ⟨rfl,rfl⟩)
   go_ret2
   rw [hE.out]
   exact RetE.nil _ (Below.refl _ _)
  ·have d2:decide (10 < t)=false:=decide_eq_false ht2
   cases ok with
   | false =>
    have hE:=Lib.hid (zn0 (x:=x) (s:=s) (t:=t) (by simpa using hok.symm))
    clear hu hok hu64
    go_enter Tryz.func69,Tryz.ntmps69
    go_wp2_with (go_at_call 92;refine (HP.out _).mono ?_;rintro e w' ⟨rfl,rfl⟩)
    go_ret2
    rw [hE.out]
    exact RetE.nil _ (Below.refl _ _)
   | true =>
    obtain ⟨T,rfl⟩:=Int.eq_ofNat_of_zero_le (show 0≤t by omega)
    have hsome:zx x s=some u:=by
     cases he:zx x s with
     | none=>rw [he] at hok;simp at hok
     | some u'=>rw [he] at hu;simp at hu;rw [hu]
    have hE:=Lib.hid (zjE (t:=T) (by omega) (by omega) hsome)
    obtain ⟨b,hb⟩:∃ b,b=zY u:=⟨_,rfl⟩
    have hb64:b≤64:=by rw [hb];exact zcQ hu64
    obtain ⟨n,hn⟩:∃ n,n=zO u:=⟨_,rfl⟩
    have hn1:1≤n:=by rw [hn];exact zdy u
    have hn8:n≤8:=by rw [hn];exact zfr hu64
    have hnb:n=max 1 ((b+7) / 8):=by rw [hn,hb];rfl
    obtain ⟨c0,hc0⟩:∃ c0,c0=8*(n - 1)+(T - 3):=⟨_,rfl⟩
    have hc64:c0 < 64:=by omega
    obtain ⟨q,hq⟩:∃ q:Nat,q=(b+7) / 8:=⟨_,rfl⟩
    have hqi:((b:Int)+7) / 8=(q:Int):=by omega
    have hm:∀ (ts:Array TypeId) (t:TypeId) (W:World),(Builtin.max_ ts t #[.int .i64 1,.int .i64 (q:Int)]).run Tryz.prog W=.ok (.int .i64 (n:Int)) W:=fun ts t W=>by
     rw [run_max_int2]
     congr 2
     split <;> omega
    have hci:8*((n:Int) - 1)+(T:Int) - 3=(c0:Int):=by omega
    have HB:=Lib.hid (fun W=>zkl u W hu64)
    rw [←hb] at HB
    have HL:=Lib.hid (show elay u T=UInt8.ofNat c0::be n u by unfold elay;rw [←hn,←hc0])
    have HU:=Lib.hid hu64
    clear hu hok hu64 hb hn hnb hc0 hq
    go_enter Tryz.func69,Tryz.ntmps69
    go_wp2_with (first | (go_at_call 92;refine (HP.out _).mono ?_;rintro e w' ⟨rfl,rfl⟩) | (go_at_call 93;refine (HB.out _).mono ?_;rintro e w' ⟨rfl,rfl⟩))
    go_loopw [11,12] (ztp (elay u T) n u w) (fun _ i _=>(intOf i+1).toNat)
    case atStart =>
     refine ⟨n,[UInt8.ofNat c0],Nat.le_refl _,rfl,by rw [HL.out];rfl,?_,(Below.refl _ _).alloc (Nat.le_refl _) _⟩
     have h1:=zhs w 5 (.int .u8 (c0:Int)) (Nat.le_refl _)
     rw [zem (by omega)] at h1 ⊢
     exact h1
    case round =>
     obtain ⟨k,m,hk,rfl,hm',hown,hbw⟩:=hrel
     have HM:=Lib.hid hm'
     have hz:=hbw.size
     have hlen:m.length≤9:=by
      have:=congrArg List.length hm'
      rw [HL.out,List.length_append,List.length_cons,zcJ,zcJ] at this
      omega
     clear hm' hqi hm hci
     cases k with
     | zero =>
      go_wp2
      go_ret2
      have h2:=HM.out
      rw [be,List.append_nil] at h2
      rw [hE.out,←h2]
      exact ⟨_,rfl,zbw hown,hbw⟩
     | succ j =>
      obtain ⟨y,hy⟩:∃ y,y=u / 256 ^ j:=⟨_,rfl⟩
      obtain ⟨d,hd⟩:∃ d,d=8*j:=⟨_,rfl⟩
      have hdi:8*(j:Int)=(d:Int):=by omega
      have hd64:d≤64:=by omega
      have hyi:(u:Int) / 2 ^ d=(y:Int):=by
       rw [hy,p256,←hd];simp
      obtain ⟨z,hz'⟩:∃ z,z=y % 256:=⟨_,rfl⟩
      have hz256:z < 256:=by omega
      have hzi:(y:Int) % 256=(z:Int):=by omega
      have hzw:IntKind.u8.wrap (y:Int)=(z:Int):=by rw [IntKind.wrap_u8];omega
      have hji:((j+1:Nat):Int) - 1=(j:Int):=by omega
      have hbe:=Lib.hid (show be (j+1) u=UInt8.ofNat z::be j u by rw [be,hz',hy])
      clear hy hd hz'
      rw [hji]
      go_wp2_with (at_builtin;refine zQ elemB rfl _ _ rfl w.heap.size _ _ _ (.int .u8 (z:Int)) wr w rfl rfl rfl rfl hown hbw hz (by omega) (by omega) ?_)
      intro v5 w5 hown5 hb5 _ _
      rw [zem (by omega)] at hown5
      go_wp2
      go_roundw
      case rel =>
       refine ⟨j,m ++ [UInt8.ofNat z],by omega,rfl,?_,by simpa using hown5,hb5⟩
       have h2:=HM.out
       rw [hbe.out] at h2
       rw [←h2]
       simp
      case measure=>simp [intOf]
end Go.Proofs.YtlibofmpnlfelaaGreatDoor
