import Derived.Test.YtlibofmpnlfelaaGreatDoorBG12
set_option maxHeartbeats 8000000
set_option maxRecDepth 100000
namespace Go.Proofs.YtlibofmpnlfelaaGreatDoor
def zbu:List UInt8→Nat
 | []=>0
 | x::l=>1+min 129 (l.takeWhile (· == x)).length
theorem zeR (x:UInt8) (l:List UInt8):zbu (x::l)=1+min 129 (l.takeWhile (· == x)).length:=rfl
theorem zd7 {α:Type} (p:α→Bool):∀ l:List α,(l.takeWhile p).length≤l.length
 | []=>by simp
 | x::l=>by
  rw [List.takeWhile_cons]
  split
  ·have:=zd7 p l;simp;omega
  ·simp
theorem zor (l:List UInt8):zbu l≤l.length:=by
 cases l with
 | nil=>simp [zbu]
 | cons x l=>have:=zd7 (· == x) l;rw [zeR,List.length_cons];omega
theorem zh2 (l:List UInt8):zbu l≤130:=by
 cases l with
 | nil=>simp [zbu]
 | cons x l=>rw [zeR];omega
theorem zlA {l:List UInt8} (h:l≠[]):1≤zbu l:=by
 cases l with
 | nil=>exact absurd rfl h
 | cons x l=>rw [zeR];omega
def zca:List UInt8→Nat→Nat
 | [],k=>k
 | x::l,k=>if k < 128∧zbu (x::l) < 3 then zca l (k+1) else k
theorem zos:∀ (l:List UInt8) (k:Nat),k≤zca l k
 | [],_=>Nat.le_refl _
 | x::l,k=>by
  rw [zca]
  split
  ·have:=zos l (k+1);omega
  ·exact Nat.le_refl _
theorem zot:∀ (l:List UInt8) (k:Nat),zca l k≤k+l.length
 | [],_=>by simp [zca]
 | x::l,k=>by
  rw [zca]
  split
  ·have:=zot l (k+1);simp;omega
  ·omega
theorem zh3:∀ (l:List UInt8) (k:Nat),k≤128→zca l k≤128
 | [],_,h=>h
 | x::l,k,h=>by
  rw [zca]
  split
  ·exact zh3 l (k+1) (by omega)
  ·exact h
theorem zh4 {l:List UInt8} (h:l≠[]) (h3:zbu l < 3):1≤zca l 0:=by
 cases l with
 | nil=>exact absurd rfl h
 | cons x l=>rw [zca,if_pos ⟨by omega,h3⟩];exact zos l 1
def zj4:Nat→List UInt8→List UInt8
 | 0,_=>[]
 | _+1,[]=>[]
 | f+1,x::l=>if 3≤zbu (x::l) then UInt8.ofNat (zbu (x::l) - 3)::x::zj4 f ((x::l).drop (zbu (x::l)))
  else UInt8.ofNat (256 - zca (x::l) 0)::((x::l).take (zca (x::l) 0) ++ zj4 f ((x::l).drop (zca (x::l) 0)))
theorem zeS:∀ (f g:Nat) (l:List UInt8),l.length≤f→l.length≤g→zj4 f l=zj4 g l
 | 0,0,_,_,_=>rfl
 | 0,g+1,l,h,_=>by obtain rfl:l=[]:=List.eq_nil_of_length_eq_zero (by omega);rfl
 | f+1,0,l,_,h=>by obtain rfl:l=[]:=List.eq_nil_of_length_eq_zero (by omega);rfl
 | f+1,g+1,[],_,_=>rfl
 | f+1,g+1,x::l,h,h'=>by
  have h1:=zlA (l:=x::l) (by simp)
  rw [zj4,zj4]
  split
  ·rw [zeS f g _ (by rw [List.length_drop];omega) (by rw [List.length_drop];omega)]
  ·rename_i h3
   have h2:=zh4 (l:=x::l) (by simp) (by omega)
   rw [zeS f g _ (by rw [List.length_drop];omega) (by rw [List.length_drop];omega)]
def yput (l:List UInt8):List UInt8:=zj4 l.length l
theorem zt9:yput []=[]:=rfl
theorem zua (x:UInt8) (l:List UInt8) (h:3≤zbu (x::l)):yput (x::l)=UInt8.ofNat (zbu (x::l) - 3)::x::yput ((x::l).drop (zbu (x::l))):=by
 unfold yput
 rw [List.length_cons,zj4,if_pos h,zeS _ _ _ (by rw [List.length_drop,List.length_cons];omega) (Nat.le_refl _)]
theorem zso (x:UInt8) (l:List UInt8) (h:zbu (x::l) < 3):yput (x::l)=UInt8.ofNat (256 - zca (x::l) 0)::((x::l).take (zca (x::l) 0) ++ yput ((x::l).drop (zca (x::l) 0))):=by
 have h2:=zh4 (l:=x::l) (by simp) h
 unfold yput
 rw [List.length_cons,zj4,if_neg (by omega),zeS _ _ _ (by rw [List.length_drop,List.length_cons];omega) (Nat.le_refl _)]
def zeu:Nat→Nat→List UInt8→Option (List UInt8 × List UInt8)
 | _,0,l=>some ([],l)
 | 0,_+1,_=>none
 | _+1,_+1,[]=>none
 | f+1,m+1,c::l =>
  if c.toNat < 128 then
   match l with
   | []=>none
   | x::r=>if m+1 < c.toNat+3 then none else (zeu f (m+1 - (c.toNat+3)) r).map fun p=>(List.replicate (c.toNat+3) x ++ p.1,p.2)
  else if l.length < 256 - c.toNat then none else if m+1 < 256 - c.toNat then none else (zeu f (m+1 - (256 - c.toNat)) (l.drop (256 - c.toNat))).map fun p=>(l.take (256 - c.toNat) ++ p.1,p.2)
theorem zcB (f m:Nat) (c:UInt8) (l:List UInt8):zeu (f+1) (m+1) (c::l) =
  if c.toNat < 128 then
   match l with
   | []=>none
   | x::r=>if m+1 < c.toNat+3 then none else (zeu f (m+1 - (c.toNat+3)) r).map fun p=>(List.replicate (c.toNat+3) x ++ p.1,p.2)
  else if l.length < 256 - c.toNat then none else if m+1 < 256 - c.toNat then none else (zeu f (m+1 - (256 - c.toNat)) (l.drop (256 - c.toNat))).map fun p=>(l.take (256 - c.toNat) ++ p.1,p.2):=rfl
theorem zd8:∀ (f g m:Nat) (l:List UInt8),l.length≤f→l.length≤g→zeu f m l=zeu g m l
 | 0,0,_,_,_,_=>rfl
 | _,_,0,_,_,_=>by simp [zeu]
 | 0,g+1,m+1,l,h,_=>by obtain rfl:l=[]:=List.eq_nil_of_length_eq_zero (by omega);rfl
 | f+1,0,m+1,l,_,h=>by obtain rfl:l=[]:=List.eq_nil_of_length_eq_zero (by omega);rfl
 | f+1,g+1,m+1,[],_,_=>rfl
 | f+1,g+1,m+1,c::l,h,h'=>by
  have hc:=c.toNat_lt
  simp only [List.length_cons] at h h'
  rw [zcB,zcB]
  split
  ·cases l with
   | nil=>rfl
   | cons x r=>simp only [List.length_cons] at h h';simp only [];rw [zd8 f g _ r (by omega) (by omega)]
  ·rw [zd8 f g _ (l.drop (256 - c.toNat)) (by rw [List.length_drop];omega) (by rw [List.length_drop];omega)]
def zcg (m:Nat) (l:List UInt8):Option (List UInt8 × List UInt8):=zeu l.length m l
theorem zpY (l:List UInt8):zcg 0 l=some ([],l):=by unfold zcg;cases l.length <;> rfl
theorem zpZ {m:Nat} (h:0 < m):zcg m []=none:=by
 obtain ⟨k,rfl⟩:∃ k,m=k+1:=⟨m - 1,by omega⟩
 rfl
theorem zsp {m:Nat} (h:0 < m) (c:UInt8):zcg m [c]=none:=by
 obtain ⟨k,rfl⟩:∃ k,m=k+1:=⟨m - 1,by omega⟩
 have hc:=c.toNat_lt
 unfold zcg
 rw [show [c].length=1 from rfl,zcB]
 split
 ·rfl
 ·rw [if_pos (by simp;omega)]
theorem zsq {m:Nat} (h:0 < m) {c:UInt8} (hc:c.toNat < 128) (x:UInt8) (r:List UInt8) :
  zcg m (c::x::r)=if m < c.toNat+3 then none else (zcg (m - (c.toNat+3)) r).map fun p=>(List.replicate (c.toNat+3) x ++ p.1,p.2):=by
 obtain ⟨k,rfl⟩:∃ k,m=k+1:=⟨m - 1,by omega⟩
 unfold zcg
 rw [List.length_cons,zcB,if_pos hc]
 simp only []
 rw [zd8 _ r.length _ r (by simp) (Nat.le_refl _)]
theorem zjh {m:Nat} (h:0 < m) {c:UInt8} (hc:¬c.toNat < 128) (l:List UInt8) :
  zcg m (c::l)=if l.length < 256 - c.toNat then none else if m < 256 - c.toNat then none else (zcg (m - (256 - c.toNat)) (l.drop (256 - c.toNat))).map fun p=>(l.take (256 - c.toNat) ++ p.1,p.2):=by
 obtain ⟨k,rfl⟩:∃ k,m=k+1:=⟨m - 1,by omega⟩
 have:=c.toNat_lt
 unfold zcg
 rw [List.length_cons,zcB,if_neg hc]
 rw [zd8 _ (l.drop (256 - c.toNat)).length _ _ (by rw [List.length_drop];omega) (Nat.le_refl _)]
theorem zgj:∀ (f m:Nat) (l x r:List UInt8),zeu f m l=some (x,r)→x.length=m∧r.length≤l.length
 | _,0,l,x,r,h=>by
  have:zeu ‹Nat› 0 l=some ([],l):=by cases ‹Nat› <;> rfl
  rw [this] at h
  injection h with h
  injection h with h1 h2
  subst h1 h2
  simp
 | 0,m+1,l,x,r,h=>by cases l <;> cases h
 | f+1,m+1,[],x,r,h=>by cases h
 | f+1,m+1,c::l,x,r,h=>by
  have hc:=c.toNat_lt
  rw [zcB] at h
  by_cases h1:c.toNat < 128
  ·rw [if_pos h1] at h
   cases l with
   | nil=>cases h
   | cons y l =>
    simp only [] at h
    by_cases h2:m+1 < c.toNat+3
    ·rw [if_pos h2] at h;cases h
    ·rw [if_neg h2] at h
     obtain ⟨⟨x',r'⟩,h3,h4⟩:=Option.map_eq_some_iff.1 h
     obtain ⟨e1,e2⟩:=zgj f _ l x' r' h3
     injection h4 with h4 h5
     subst h4 h5
     simp only [List.length_append,List.length_replicate,List.length_cons]
     omega
  ·rw [if_neg h1] at h
   by_cases h0:l.length < 256 - c.toNat
   ·rw [if_pos h0] at h;cases h
   ·rw [if_neg h0] at h
    by_cases h2:m+1 < 256 - c.toNat
    ·rw [if_pos h2] at h;cases h
    ·rw [if_neg h2] at h
     obtain ⟨⟨x',r'⟩,h3,h4⟩:=Option.map_eq_some_iff.1 h
     obtain ⟨e1,e2⟩:=zgj f _ _ x' r' h3
     injection h4 with h4 h5
     subst h4 h5
     rw [List.length_drop] at e2
     simp only [List.length_append,List.length_take,List.length_cons]
     omega
theorem zlB {m:Nat} {l x r:List UInt8} (h:zcg m l=some (x,r)):x.length=m∧r.length≤l.length:=zgj _ _ _ _ _ h
end Go.Proofs.YtlibofmpnlfelaaGreatDoor
namespace Go.Proofs.YtlibofmpnlfelaaGreatDoor
open Go.RowKit
theorem zgG {α:Type} (p:α→Bool):∀ (l:List α) (j:Nat) (h:j < l.length),j≤(l.takeWhile p).length→(j < (l.takeWhile p).length↔p l[j]=true)
 | x::l,0,_,_=>by
  rw [List.takeWhile_cons]
  cases hx:p x <;> simp [hx]
 | x::l,j+1,h,hj=>by
  rw [List.takeWhile_cons] at hj ⊢
  cases hx:p x with
  | false=>rw [hx] at hj;simp at hj
  | true =>
   rw [hx] at hj
   simp only [if_true,List.length_cons] at hj ⊢
   have:=zgG p l j (by simpa using h) (by omega)
   rw [List.getElem_cons_succ,←this]
   omega
theorem zp0 {l:List UInt8} {a k:Nat} (ha:a < l.length) (hk:1≤k) (h:k≤zbu (l.drop a)) :
  (a+k=l.length→zbu (l.drop a)=k)∧(k=130→zbu (l.drop a)=k)∧(∀ h':a+k < l.length,k < 130→(l[a+k]=l[a]→k+1≤zbu (l.drop a))∧(l[a+k]≠l[a]→zbu (l.drop a)=k)):=by
 rw [List.drop_eq_getElem_cons ha,zeR] at h ⊢
 have hT:=zd7 (· == l[a]) (l.drop (a+1))
 rw [List.length_drop] at hT
 refine ⟨fun h1=>by omega,fun h1=>by omega,fun h' h130=>?_⟩
 have h2:=zgG (· == l[a]) (l.drop (a+1)) (k - 1) (by rw [List.length_drop];omega) (by omega)
 have h3:(l.drop (a+1))[k - 1]'(by rw [List.length_drop];omega)=l[a+k]:=by
  rw [List.getElem_drop]
  congr 1
  omega
 rw [h3,beq_iff_eq] at h2
 exact ⟨fun h4=>by have:=h2.2 h4;omega,fun h4=>by have h5:=fun h5=>h4 (h2.1 h5);have h6:=Nat.le_of_not_lt h5;omega⟩
def zne (l:List UInt8):List UInt8 × Int:=if l.length≤4096 then (yput l,0) else ([],3)
theorem drop_at {l:List UInt8} {a:Nat} (h:a < l.length):l.drop a=l[a]::l.drop (a+1):=List.drop_eq_getElem_cons h
theorem znf {l:List UInt8} {a:Nat} (h:a < l.length) (h3:3≤zbu (l.drop a)):yput (l.drop a)=[UInt8.ofNat (zbu (l.drop a) - 3),l[a]] ++ yput (l.drop (a+zbu (l.drop a))):=by
 rw [←List.drop_drop]
 conv=>lhs;rw [drop_at h,zua _ _ (by rw [←drop_at h];exact h3),←drop_at h]
 rfl
theorem zlC {l:List UInt8} {a:Nat} (h:a < l.length) (h3:zbu (l.drop a) < 3):yput (l.drop a)=(UInt8.ofNat (256 - zca (l.drop a) 0)::(l.drop a).take (zca (l.drop a) 0)) ++ yput (l.drop (a+zca (l.drop a) 0)):=by
 rw [←List.drop_drop]
 conv=>lhs;rw [drop_at h,zso _ _ (by rw [←drop_at h];exact h3),←drop_at h]
 rfl
theorem zj5 {l:List UInt8} {b k:Nat} (h:b < l.length):zca (l.drop b) k=if k < 128∧zbu (l.drop b) < 3 then zca (l.drop (b+1)) (k+1) else k:=by
 rw [drop_at h,zca]
def RetBB (w:World) (p:List UInt8 × List UInt8 × Int) (e:Ending) (w':World):Prop:=
 ∃ u v,e=.returned (.tuple #[u,v,.int .i64 p.2.2])∧IsB p.1 u w'∧IsB p.2.1 v w'∧Below w.heap.size w w'
theorem RetBB.nil {w w':World} (n:Int) (hb:Below w.heap.size w w'):RetBB w ([],[],n) (.returned (.tuple #[.slice none 0 0,.slice none 0 0,.int .i64 n])) w':=⟨_,_,rfl,zcu _,zcu _,hb⟩
def zgH (l:List UInt8) (many:Int):List UInt8 × List UInt8 × Int:=
 if many < 0∨4096 < many then ([],[],1) else match zcg many.toNat l with | some p=>(p.1,p.2,0) | none=>([],[],2)
theorem zeT {l:List UInt8} {many:Int} (h:many < 0∨4096 < many):zgH l many=([],[],1):=by unfold zgH;rw [if_pos h]
theorem zda {l:List UInt8} {M:Nat} (h:M≤4096) {p q:List UInt8} (hp:zcg M l=some (p,q)):zgH l M=(p,q,0):=by unfold zgH;rw [if_neg (by omega),Int.toNat_natCast,hp]
theorem zch {l:List UInt8} {M:Nat} (h:M≤4096) (hp:zcg M l=none):zgH l M=([],[],2):=by unfold zgH;rw [if_neg (by omega),Int.toNat_natCast,hp]
def YLeft (l:List UInt8) (M a:Nat) (m:List UInt8):Prop:=
 (m.length≤M∧zcg M l=(zcg (M - m.length) (l.drop a)).map fun p=>(m ++ p.1,p.2))∨(M < m.length∧zcg M l=none)
theorem YLeft.start (l:List UInt8) (M:Nat):YLeft l M 0 []:=.inl ⟨by simp,by simp⟩
theorem YLeft.run {l m:List UInt8} {M a c:Nat} (h:YLeft l M a m) (hm:m.length < M) (ha:a+1 < l.length) (hc:c=l[a].toNat) (h128:c < 128):YLeft l M (a+2) (m ++ List.replicate (c+3) l[a+1]):=by
 rcases h with ⟨_,h⟩ | ⟨h,_⟩
 ·rw [drop_at (show a < l.length by omega),drop_at ha,zsq (by omega) (by omega),←hc] at h
  by_cases hM:M - m.length < c+3
  ·rw [if_pos hM] at h
   exact .inr ⟨by rw [List.length_append,List.length_replicate];omega,h⟩
  ·rw [if_neg hM] at h
   refine .inl ⟨by rw [List.length_append,List.length_replicate];omega,?_⟩
   rw [h,Option.map_map,List.length_append,List.length_replicate,show M - (m.length+(c+3))=M - m.length - (c+3) by omega]
   congr 1
   funext p
   simp
 ·omega
theorem YLeft.list {l m:List UInt8} {M a k:Nat} (h:YLeft l M a m) (hm:m.length < M) (ha:a < l.length) (hk:k=256 - l[a].toNat) (h128:¬l[a].toNat < 128) (hl:k≤l.length - (a+1)):YLeft l M (a+1+k) (m ++ (l.drop (a+1)).take k):=by
 have hlen:((l.drop (a+1)).take k).length=k:=by rw [List.length_take,List.length_drop];omega
 rcases h with ⟨_,h⟩ | ⟨h,_⟩
 ·rw [drop_at ha,zjh (by omega) h128,←hk,if_neg (by rw [List.length_drop];omega)] at h
  by_cases hM:M - m.length < k
  ·rw [if_pos hM] at h
   exact .inr ⟨by rw [List.length_append,hlen];omega,h⟩
  ·rw [if_neg hM] at h
   refine .inl ⟨by rw [List.length_append,hlen];omega,?_⟩
   rw [h,Option.map_map,List.length_append,hlen,List.drop_drop,show M - (m.length+k)=M - m.length - k by omega]
   congr 1
   funext p
   simp
 ·omega
theorem YLeft.short {l m:List UInt8} {M a:Nat} (h:YLeft l M a m) (hm:m.length < M) (ha:l.length - a < 2):zcg M l=none:=by
 rcases h with ⟨_,h⟩ | ⟨h,_⟩
 ·rw [h]
  by_cases h1:a < l.length
  ·rw [drop_at h1,List.drop_of_length_le (by omega),zsp (by omega)];rfl
  ·rw [List.drop_of_length_le (by omega),zpZ (by omega)];rfl
 ·omega
theorem YLeft.cut {l m:List UInt8} {M a k:Nat} (h:YLeft l M a m) (hm:m.length < M) (ha:a < l.length) (hk:k=256 - l[a].toNat) (h128:¬l[a].toNat < 128) (hl:l.length - (a+1) < k):zcg M l=none:=by
 rcases h with ⟨_,h⟩ | ⟨h,_⟩
 ·rw [h,drop_at ha,zjh (by omega) h128,←hk,if_pos (by rw [List.length_drop];omega)];rfl
 ·omega
theorem YLeft.done {l m:List UInt8} {a:Nat} (h:YLeft l m.length a m):zcg m.length l=some (m,l.drop a):=by
 rcases h with ⟨_,h⟩ | ⟨h,_⟩
 ·rw [h,Nat.sub_self,zpY];simp
 ·omega
theorem YLeft.over {l m:List UInt8} {M a:Nat} (h:YLeft l M a m) (hm:M < m.length):zcg M l=none:=by
 rcases h with ⟨h1,_⟩ | ⟨_,h⟩
 ·omega
 ·exact h
def zlD (l:List UInt8) (M:Nat) (w:World) (v a:Value) (wr:World):Prop:=
 ∃ (k:Nat) (m:List UInt8),k≤l.length∧a=.int .i64 (k:Int)∧YLeft l M k m∧m.length≤4300∧wr.ownsRow w.heap.size 5 1 v m.length (m.map bv)∧Below w.heap.size w wr∧w.heap.size≤wr.heap.size
def zlE (m:List UInt8) (x:UInt8) (c:Nat) (w:World) (v i:Value) (wr:World):Prop:=
 ∃ k:Nat,k≤c+3∧i=.int .i64 (k:Int)∧wr.ownsRow w.heap.size 5 1 v (m ++ List.replicate k x).length ((m ++ List.replicate k x).map bv)∧Below w.heap.size w wr∧w.heap.size≤wr.heap.size
theorem zp1 (l:List UInt8) (v:Value) (many:Int) (w:World) (hv:IsB l v w) (hb:l.length≤1000000) :
  Calls Tryz.prog 52 #[v,.int .i64 many] w (RetBB w (zgH l many)):=by
 obtain ⟨A,c,rfl,hA,hnc,hcm,hl⟩:=hv
 obtain ⟨n,hn⟩:∃ n,n=l.length:=⟨_,rfl⟩
 rw [←hn] at hA hnc hb ⊢
 have hci:(c:Int)≤9223372036854775807:=by unfold maxLen at hcm;omega
 by_cases h0:many < 0
 ·have hE:=Lib.hid (zeT (l:=l) (Or.inl h0))
  have d1:decide (many < 0)=true:=decide_eq_true h0
  clear hn hl hcm hA hnc
  go_enter Tryz.func52,Tryz.ntmps52
  go_wp2
  go_ret3
  rw [hE.out]
  exact RetBB.nil _ (Below.refl _ _)
 ·have d1:decide (many < 0)=false:=decide_eq_false h0
  by_cases h4:4096 < many
  ·have hE:=Lib.hid (zeT (l:=l) (Or.inr h4))
   have d2:decide ((4096:Int) < many)=true:=decide_eq_true h4
   clear hn hl hcm hA hnc
   go_enter Tryz.func52,Tryz.ntmps52
   go_wp2
   go_ret3
   rw [hE.out]
   exact RetBB.nil _ (Below.refl _ _)
  ·obtain ⟨M,rfl⟩:=Int.eq_ofNat_of_zero_le (show 0≤many by omega)
   have hM:M≤4096:=by omega
   have d2:decide ((4096:Int) < (M:Int))=false:=decide_eq_false (by omega)
   have HP:=Lib.hid fun (i k:Nat) (W:World) (hi:i≤k) (hk:k≤n) (h:Lies W A (l.map bv))=>zhc (P:=Tryz.prog) elemB hi hk hnc hcm hn.symm h hA
   have HF:=Lib.hid fun (k:Nat) (W:World) (hk:k≤n) (h:Lies W A (l.map bv))=>zbm (P:=Tryz.prog) elemB hk hnc hcm hn.symm h hA
   have HLi:=Lib.hid hl
   have HN:=Lib.hid hn
   have hown0:(w.alloc (.cells #[] 5)).ownsRow w.heap.size 5 1 (.slice (some ⟨w.heap.size,0,none⟩) 0 0) 0 []:=World.ownsRow_made w #[] 0 (Nat.le_refl _) (by unfold maxLen;omega) (by simp)
   have hst:zlD l M w (.slice (some ⟨w.heap.size,0,none⟩) 0 0) (.int .i64 0) (w.alloc (.cells #[] 5)):=⟨0,[],by omega,rfl,YLeft.start l M,by simp,by simpa using hown0,(Below.refl _ _).alloc (Nat.le_refl _) _,by simp⟩
   clear hn hl hcm hA hown0
   go_enter Tryz.func52,Tryz.ntmps52
   go_wp2
   go_loopw [7,8] (zlD l M w) (fun _ a _=>n - (intOf a).toNat)
   case atStart=>exact hst
   case round =>
    obtain ⟨a,m,han,rfl,hm,hml,hown,hbw,hzw⟩:=hrel
    have HM:=Lib.hid hm
    clear hst hm
    have ha':a≤n:=by have:=HN.out;omega
    obtain ⟨L,hL⟩:∃ L,L=m.length:=⟨_,rfl⟩
    obtain ⟨B,cb,hvB,hLc,hcb,_,hlm,_⟩:=zz hown
    rw [←hL] at hvB hml hown hLc
    have hcbi:(cb:Int)≤9223372036854775807:=by unfold maxLen at hcb;omega
    have HL:=Lib.hid hL
    subst hvB
    clear hcb hL hlm
    by_cases hlt:L < M
    ·have hlti:(L:Int) < (M:Int):=by omega
     have hmM:m.length < M:=by have:=HL.out;omega
     by_cases h2:n - a < 2
     ·have h2i:(n:Int) - (a:Int) < 2:=by omega
      have hE:=Lib.hid (zch hM (HM.out.short hmM (by have:=HN.out;omega)))
      go_wp2
      go_ret3
      rw [hE.out]
      exact RetBB.nil _ hbw
     ·have h2i:¬(n:Int) - (a:Int) < 2:=by omega
      have hal:a+1 < l.length:=by have:=HN.out;omega
      obtain ⟨cc,hcc⟩:∃ cc:Nat,cc=l[a].toNat:=⟨_,rfl⟩
      have hc8:cc < 256:=by rw [hcc];exact UInt8.toNat_lt _
      obtain ⟨ad,hAd,_,hcell⟩:=(HLi.out.below hbw).cell (k:=a) (by rw [List.length_map];omega)
      obtain ⟨_,hAd2,_,hcell2⟩:=(HLi.out.below hbw).cell (k:=a+1) (by rw [List.length_map];exact hal)
      subst hAd
      injection hAd2 with hAd2
      subst hAd2
      have hcx:wr.cell? (ad.add a)=some (.int .u8 (cc:Int)):=by rw [hcell,List.getElem_map,hcc];rfl
      have HCC:=Lib.hid hcc
      clear hcell hcc
      by_cases h128:cc < 128
      ·have h128i:(cc:Int) < 128:=by omega
       obtain ⟨y,hy⟩:∃ y:Nat,y=l[a+1].toNat:=⟨_,rfl⟩
       have hadw:ad.block < w.heap.size∧w.cell? (ad.add (a+1))=some (.int .u8 (y:Int)):=by
        obtain ⟨_,hAd3,h1,h2⟩:=HLi.out.cell (k:=a+1) (by rw [List.length_map];exact hal)
        injection hAd3 with hAd3
        subst hAd3
        exact ⟨h1,by rw [h2,List.getElem_map,hy];rfl⟩
       have HAD:=Lib.hid hadw
       have HY:=Lib.hid hy
       have hst2:zlE m l[a+1] cc w (.slice B L cb) (.int .i64 0) wr:=⟨0,by omega,rfl,by simpa [←HL.out] using hown,hbw,hzw⟩
       have HST:=Lib.hid hst2
       clear hadw hy hcell2 hst2 hown
       go_wp2
       go_loopw [7,10] (zlE m l[a+1] cc w) (fun _ i _=>cc+3 - (intOf i).toNat)
       case atStart=>exact HST.out
       case round =>
        obtain ⟨k,hk,rfl,hown,hbk,hzk⟩:=hrel
        have hmk:(m ++ List.replicate k l[a+1]).length=L+k:=by rw [List.length_append,List.length_replicate,←HL.out]
        rw [hmk] at hown
        by_cases hlk:k < cc+3
        ·have hlki:(k:Int) < (cc:Int)+3:=by omega
         have hcy:wr.cell? ⟨ad.block,ad.off+(a+1),none⟩=some (.int .u8 (y:Int)):=by
          have h1:=(hbk.cell (by rw [add_block];exact HAD.out.1)).trans HAD.out.2
          simpa [Addr.add] using h1
         have hi1:(a:Int)+1 < (n:Int):=by omega
         clear hmk hbw hzw
         go_wp2_with (at_builtin;refine zQ elemB rfl _ _ rfl w.heap.size _ _ _ (.int .u8 (y:Int)) wr w rfl rfl rfl rfl hown hbk hzk (by omega) (by omega) ?_)
         intro v5 w5 hown5 hb5 _ _
         have hown6:w5.ownsRow w.heap.size 5 1 v5 (m ++ List.replicate (k+1) l[a+1]).length ((m ++ List.replicate (k+1) l[a+1]).map bv):=by
          have e1:(m ++ List.replicate (k+1) l[a+1]).length=L+k+1:=by rw [List.length_append,List.length_replicate,←HL.out];omega
          have e2:Value.int .u8 (y:Int)=bv l[a+1]:=by unfold bv;rw [HY.out]
          rw [e1,List.replicate_succ',←List.append_assoc,List.map_append,List.map_singleton,←e2,List.map_append,List.map_replicate,List.append_assoc]
          exact hown5
         clear hown5 hown
         go_wp2
         go_roundw
         case rel=>exact ⟨k+1,by omega,by go_num,hown6,hb5,hb5.size⟩
         case measure=>simp [intOf];omega
        ·obtain rfl:k=cc+3:=by omega
         have hlki:¬((cc+3:Nat):Int) < (cc:Int)+3:=by omega
         have hrun:=Lib.hid (HM.out.run hmM hal HCC.out h128)
         rw [←hmk] at hown
         have hlen:(m ++ List.replicate (cc+3) l[a+1]).length≤4300:=by rw [hmk];omega
         have HLen:=Lib.hid hlen
         clear hmk hlen hbw hzw
         go_wp2
         go_roundw
         case rel=>exact ⟨a+2,_,by omega,by go_num,hrun.out,HLen.out,hown,hbk,hzk⟩
         case measure=>simp [intOf];omega
      ·have h128i:¬(cc:Int) < 128:=by omega
       obtain ⟨k,hk⟩:∃ k,k=256 - cc:=⟨_,rfl⟩
       have hki:(256:Int) - (cc:Int)=(k:Int):=by omega
       have hk8:k≤128:=by omega
       by_cases hcut:n - (a+1) < k
       ·have hci2:(n:Int) - (a:Int) - 1 < (k:Int):=by omega
        have hE:=Lib.hid (zch hM (HM.out.cut (k:=k) hmM (by omega) (by rw [←HCC.out];exact hk) (by rw [←HCC.out];exact h128) (by have:=HN.out;omega)))
        clear hk
        go_wp2
        go_ret3
        rw [hE.out]
        exact RetBB.nil _ hbw
       ·have hci2:¬(n:Int) - (a:Int) - 1 < (k:Int):=by omega
        have hlist:=Lib.hid (HM.out.list (k:=k) hmM (by omega) (by rw [←HCC.out];exact hk) (by rw [←HCC.out];exact h128) (by have:=HN.out;omega))
        obtain ⟨p,hp⟩:∃ p,p=a+1:=⟨_,rfl⟩
        obtain ⟨r,hr⟩:∃ r,r=a+1+k:=⟨_,rfl⟩
        have hpi:(a:Int)+1=(p:Int):=by omega
        have hri:(a:Int)+257 - (cc:Int)=(r:Int):=by omega
        obtain ⟨vp,hvp,A6,c6,hv6,hA6,hc6,hm6,hl6⟩:=HP.out p r wr (by omega) (by omega) (HLi.out.below hbw)
        have hpl:((l.drop p).take (r - p)).length=k:=by rw [List.length_take,List.length_drop];have:=HN.out;omega
        have hpm:(((l.drop p).take (r - p)).map bv).length=k:=by rw [List.length_map];exact hpl
        have HPM:=Lib.hid hpm
        have HPR:=Lib.hid (show l.drop p=l.drop (a+1)∧r - p=k by rw [hp];exact ⟨rfl,by omega⟩)
        have hrn:r≤n:=by omega
        have har:a < r:=by omega
        have hrr:r=a+1+k:=hr
        have HRR:=Lib.hid hrr
        rw [hpl] at hv6 hA6
        subst hv6
        clear hpl hpm hk hr hrr
        have HPP:=Lib.hid hp
        clear hp
        go_wp2_with (at_builtin;refine zk elemB rfl _ _ rfl w.heap.size _ _ _ _ _ _ (((l.drop p).take (r - p)).map bv) w rfl rfl hA6 HPM.out hl6 (zbv _) hown hbw hzw (by omega) (by omega) ?_)
        intro v7 w7 hown7 hb7 _ _
        have hlen:(m ++ (l.drop (a+1)).take k).length=L+k:=by
         have h1:=HPM.out
         rw [HPR.out.1,HPR.out.2,List.length_map] at h1
         rw [List.length_append,h1,←HL.out]
        have hown8:w7.ownsRow w.heap.size 5 1 v7 (m ++ (l.drop (a+1)).take k).length ((m ++ (l.drop (a+1)).take k).map bv):=by
         rw [hlen,List.map_append,←HPR.out.1,←HPR.out.2]
         have h2:=HPR.out.2
         rw [h2]
         rw [h2] at hown7
         simp only [List.map_take,List.map_drop] at hown7 ⊢
         exact hown7
        have HLen:=Lib.hid (show (m ++ (l.drop (a+1)).take k).length≤4300 by rw [hlen];omega)
        clear hlen hown7 hown hl6 hvp hbw hzw
        go_wp2
        go_roundw
        case rel=>exact ⟨r,_,by have:=HN.out;omega,rfl,by rw [HRR.out];exact hlist.out,HLen.out,hown8,hb7,hb7.size⟩
        case measure=>simp [intOf];omega
    ·by_cases hov:M < L
     ·have hovi:(M:Int) < (L:Int):=by omega
      have hE:=Lib.hid (zch hM (HM.out.over (by have:=HL.out;omega)))
      go_wp2
      go_ret3
      rw [hE.out]
      exact RetBB.nil _ hbw
     ·obtain rfl:L=M:=by omega
      have hdone:=HM.out
      rw [HL.out] at hdone
      have hE:=Lib.hid (zda hM (p:=m) (q:=l.drop a) (by rw [HL.out];exact hdone.done))
      obtain ⟨vf,hvf,A6,c6,hv6,hA6,hc6,hm6,hl6⟩:=HF.out a wr ha' (HLi.out.below hbw)
      have hpl:(l.drop a).length=n - a:=by rw [List.length_drop];have:=HN.out;omega
      have hpm:((l.drop a).map bv).length=n - a:=by rw [List.length_map];exact hpl
      have HPM:=Lib.hid hpm
      rw [hpl] at hv6 hA6
      subst hv6
      have hownN:(wr.alloc (.cells #[] 5)).ownsRow w.heap.size 5 1 (.slice (some ⟨wr.heap.size,0,none⟩) 0 0) 0 []:=World.ownsRow_made wr #[] 0 hzw (by unfold maxLen;omega) (by simp)
      have hbN:=hbw.alloc hzw (.cells #[] 5)
      have hzN:=hbN.size
      have hlN:=hl6.below ((Below.refl _ wr).alloc (Nat.le_refl _) (.cells #[] 5))
      have HU:Hid (IsB m (.slice B L cb) wr):=Lib.hid (zbw hown)
      have HBW:=Lib.hid hbw
      have hbN2:Below wr.heap.size wr (wr.alloc (.cells #[] 5)):=(Below.refl _ wr).alloc (Nat.le_refl _) _
      have hownN2:(wr.alloc (.cells #[] 5)).ownsRow wr.heap.size 5 1 (.slice (some ⟨wr.heap.size,0,none⟩) 0 0) 0 []:=World.ownsRow_made wr #[] 0 (Nat.le_refl _) (by unfold maxLen;omega) (by simp)
      have hzN2:=hbN2.size
      clear hpl hpm hownN hbN hzN hown hbw hdone hl6
      go_wp2_with (at_builtin;refine zk elemB rfl _ _ rfl wr.heap.size _ _ _ _ _ _ ((l.drop a).map bv) wr rfl rfl hA6 HPM.out hlN (zbv _) hownN2 hbN2 hzN2 (by omega) (by omega) ?_)
      intro v7 w7 hown7 hb7 _ _
      have hI7:IsB (l.drop a) v7 w7:=zbw (n:=n - a) (by simpa using hown7)
      have HI7:=Lib.hid hI7
      have HB7:=Lib.hid hb7
      clear hown7 hownN2 hbN2 hzN2 hlN hI7 hb7
      go_wp2
      go_ret3
      rw [hE.out]
      exact ⟨_,_,rfl,HU.out.below HB7.out,HI7.out,za HBW.out HB7.out⟩
theorem zng {l:List UInt8} {k:Nat} (ha:0 < l.length) (hk:1≤k) (h:k≤zbu l) :
  (k=l.length→zbu l=k)∧(k=130→zbu l=k)∧(∀ h':k < l.length,k < 130→(l[k]=l[0]→k+1≤zbu l)∧(l[k]≠l[0]→zbu l=k)):=by
 have:=zp0 (l:=l) (a:=0) ha hk (by simpa using h)
 simpa using this
def zvO (l:List UInt8) (w:World) (v:Value) (wr:World):Prop:=∃ k q:Nat,v=.int .i64 (k:Int)∧1≤k∧k≤zbu l∧wr=w.drewN q
def zvc (l:List UInt8) (w:World) (e:Ending) (w':World):Prop:=e=.returned (.int .i64 (zbu l:Int))∧∃ q,w'=w.drewN q
theorem zh5 (A:Option Addr) (n c:Nat) (l:List UInt8) (w:World) (hn:l.length=n) (hb:n≤1000000) (h0:0 < n) (hl:Lies w A (l.map bv)) :
  Calls Tryz.prog 131 #[.slice A n c] w (zvc l w):=by
 have hal:0 < l.length:=by omega
 obtain ⟨ad,rfl,_,hcell⟩:=hl.cell (k:=0) (by rw [List.length_map];exact hal)
 have HL:=Lib.hid hl
 obtain ⟨x,hx⟩:∃ x:Nat,x=l[0].toNat:=⟨_,rfl⟩
 have hcx:∀ q,(w.drewN q).cell? ad=some (.int .u8 (x:Int)):=fun q=>by
  have e:ad.add 0=ad:=by simp [Addr.add]
  rw [e] at hcell
  show w.cell? _=_
  rw [hcell,List.getElem_map,hx];rfl
 have HC:=Lib.hid hcx
 have HX:=Lib.hid hx
 have HN:=Lib.hid hn
 have hpos:1≤zbu l:=zlA (by intro h;rw [h] at hal;simp at hal)
 have hsl:=zor l
 rw [hn] at hsl
 have hs130:=zh2 l
 obtain ⟨m,hm⟩:∃ m,m=min n 130:=⟨_,rfl⟩
 have hmin:∀ (ts:Array TypeId) (t:TypeId) (W:World),(Builtin.min_ ts t #[.int .i64 (n:Int),.int .i64 130]).run Tryz.prog W=.ok (.int .i64 (m:Int)) W:=fun ts t W=>by
  rw [run_min_int2]
  congr 2
  split <;> omega
 have HM:=Lib.hid hm
 clear hn hl hcell hx hcx hm
 go_enter Tryz.func131,Tryz.ntmps131
 go_wp2
 go_loopw [3] (zvO l w) (fun v _=>131 - (intOf v).toNat)
 case atStart=>exact ⟨1,0,rfl,Nat.le_refl _,hpos,rfl⟩
 case round =>
  obtain ⟨k,q0,rfl,hk1,hk,hw⟩:=hrel
  have HW:=Lib.hid hw
  clear hw
  have hst:=zng (l:=l) (k:=k) hal hk1 hk
  have HST:=Lib.hid hst
  have hcx:wr.cell? ad=some (.int .u8 (x:Int)):=by rw [HW.out];exact HC.out q0
  clear hst hpos
  by_cases h1:k < m
  ·have d1:decide (k < m)=true:=decide_eq_true h1
   have h1n:(k:Int) < (n:Int):=by have:=HM.out;omega
   have h0n:(0:Int) < (n:Int):=by omega
   have h130:k < 130:=by have:=HM.out;omega
   have hkl:k < l.length:=by have:=HN.out;have:=HM.out;omega
   obtain ⟨_,had,_,hcell⟩:=HL.out.cell (k:=k) (by rw [List.length_map];exact hkl)
   injection had with had
   subst had
   obtain ⟨y,hy⟩:∃ y:Nat,y=l[k].toNat:=⟨_,rfl⟩
   have hcy:wr.cell? (ad.add k)=some (.int .u8 (y:Int)):=by
    rw [HW.out]
    show w.cell? _=_
    rw [hcell,List.getElem_map,hy];rfl
   have HY:=Lib.hid hy
   clear hy hcell
   by_cases hxy:y=x
   ·subst hxy
    have d3:((y:Int) == (y:Int))=true:=by simp
    have hnext:k+1≤zbu l:=by
     have h3:=(HST.out.2.2 hkl h130).1
     refine h3 (UInt8.toNat_inj.1 ?_)
     rw [←HX.out,←HY.out]
    go_wp2
    go_quiet (fail)
    go_wp2
    go_roundw
    case rel=>exact ⟨k+1,_,by go_num,by omega,hnext,by rw [HW.out];exact World.drewN_drewN _ _ _⟩
    case measure=>simp [intOf];omega
   ·have d3:((y:Int) == (x:Int))=false:=by simpa using (fun h=>hxy (by omega))
    have hend:zbu l=k:=by
     have h3:=(HST.out.2.2 hkl h130).2
     refine h3 fun h=>hxy ?_
     rw [HX.out,HY.out,h]
    have HE:=Lib.hid hend
    clear hend
    go_wp2
    go_quiet (fail)
    go_wp2
    go_ret
    exact ⟨zu (by rw [HE.out]),_,by rw [HW.out];exact World.drewN_drewN _ _ _⟩
  ·have d1:decide (k < m)=false:=decide_eq_false h1
   have HE:Hid (zbu l=k):=Lib.hid (by
    have:=HM.out
    have:=HN.out
    by_cases h2:k=130
    ·exact HST.out.2.1 h2
    ·exact HST.out.1 (by omega))
   go_wp2
   go_quiet (fail)
   go_wp2
   go_ret
   exact ⟨zu (by rw [HE.out]),_,by rw [HW.out];exact World.drewN_drewN _ _ _⟩
def zit (n t:Nat):Nat:=if 3≤t then t - 3 else 256 - n
theorem zub (A:Option Addr) (n c t:Nat) (w:World) (hn:1≤n) (hn2:n≤256) (ht:t≤200) :
  Calls Tryz.prog 87 #[.agg #[.slice A n c,.int .i64 (t:Int)]] w (fun e w'=>e=.returned (.int .u8 (zit n t:Int))∧Below w.heap.size w w'):=by
 by_cases h3:3≤t
 ·obtain ⟨s,hs⟩:∃ s,s=t - 3:=⟨_,rfl⟩
  have hp:zit n t=s:=by unfold zit;rw [if_pos h3];omega
  have hsw:(t:Int) - 3=(s:Int):=by omega
  have hsu:IntKind.u8.wrap (s:Int)=(s:Int):=by rw [IntKind.wrap_u8];omega
  have HP:=Lib.hid hp
  clear hp hs
  go_enter Tryz.func87,Tryz.ntmps87
  go_wp2
  go_ret
  exact ⟨zu (by rw [HP.out]),(Below.refl _ _).alloc (Nat.le_refl _) _⟩
 ·obtain ⟨s,hs⟩:∃ s,s=256 - n:=⟨_,rfl⟩
  have hp:zit n t=s:=by unfold zit;rw [if_neg h3];omega
  have hsw:256 - (n:Int)=(s:Int):=by omega
  have hsu:IntKind.u8.wrap (s:Int)=(s:Int):=by rw [IntKind.wrap_u8];omega
  have d0:decide ((3:Int)≤(t:Int))=false:=decide_eq_false (by omega)
  have HP:=Lib.hid hp
  clear hp hs
  go_enter Tryz.func87,Tryz.ntmps87
  go_wp2
  go_ret
  exact ⟨zu (by rw [HP.out]),(Below.refl _ _).alloc (Nat.le_refl _) _⟩
theorem zlF (A:Option Addr) (n c:Nat) (t:Value) (w:World) (hn:n≤1000) :
  Calls Tryz.prog 105 #[.agg #[.slice A n c,t]] w (fun e w'=>e=.returned (.int .i64 ((1+n:Nat):Int))∧Below w.heap.size w w'):=by
 go_enter Tryz.func105,Tryz.ntmps105
 go_wp2
 go_ret
 exact ⟨zu (by go_num),(Below.refl _ _).alloc (Nat.le_refl _) _⟩
def plen (l:List UInt8):Nat:=if 3≤zbu l then 1 else zca l 0
def zb2 (l:List UInt8):Nat:=if 3≤zbu l then zbu l else 1
def zlG (A:Option Addr) (l:List UInt8) (c:Nat) (w:World) (e:Ending) (w':World):Prop:=
 e=.returned (.agg #[.slice A (plen l) c,.int .i64 (zb2 l:Int)])∧Below w.heap.size w w'
def zou (l:List UInt8) (w0:World) (v:Value) (wr:World):Prop:=∃ k:Nat,v=.int .i64 (k:Int)∧1≤k∧k≤128∧k≤l.length∧zca (l.drop k) k=zca l 0∧∃ q,wr=w0.drewN q
theorem zsr {l:List UInt8} {k:Nat} (h:k=l.length):zca (l.drop k) k=k:=by
 subst h
 rw [List.drop_length,zca]
theorem zss (A:Option Addr) (n c:Nat) (l:List UInt8) (w:World) (hn:l.length=n) (hb:n≤1000000) (h0:0 < n) (hnc:n≤c) (hcm:c≤maxLen) (hl:Lies w A (l.map bv)) :
  Calls Tryz.prog 115 #[.slice A n c] w (zlG A l c w):=by
 have hci:(c:Int)≤9223372036854775807:=by unfold maxLen at hcm;omega
 have hal:0 < l.length:=by omega
 obtain ⟨ad,hAd,_,_⟩:=hl.cell (k:=0) (by rw [List.length_map];exact hal)
 have HR:=Lib.hid fun (W:World) (h:Lies W A (l.map bv))=>zh5 A n c l W hn hb h0 h
 have HD:=Lib.hid fun (k:Nat) (W:World) (hk:k < n) (h:Lies W (A.map (·.add k)) ((l.drop k).map bv))=>zh5 (A.map (·.add k)) (n - k) (c - k) (l.drop k) W (by rw [List.length_drop];omega) (by omega) (by omega) h
 have HP:=Lib.hid fun (k:Nat) (W:World) (hk:k < n) (h:Lies W A (l.map bv))=>(show Lies W (A.map (·.add k)) ((l.drop k).map bv) by
  have:=h.drop (k:=k) (cap:=c) (by rw [List.length_map];omega)
  rw [if_neg (by omega)] at this
  rw [List.map_drop];exact this)
 have HN:=Lib.hid hn
 have HL:=Lib.hid hl
 obtain ⟨s,hs⟩:∃ s,s=zbu l:=⟨_,rfl⟩
 have HS:=Lib.hid hs
 have hb1:Below w.heap.size w (w.alloc (.cells #[.slice none 0 0,.int .i64 0] 110)):=(Below.refl _ _).alloc (Nat.le_refl _) _
 have hl1:=hl.below hb1
 have HB1:=Lib.hid hb1
 have hcall:=HR.out _ hl1
 have HCL:=Lib.hid hcall
 have HL1:=Lib.hid hl1
 clear hn hl hs hb1 hl1 hcall hAd
 go_enter Tryz.func115,Tryz.ntmps115
 go_wp2_with fail
 refine HCL.out.mono ?_
 rintro e w1 ⟨rfl,q1,hw1⟩
 rw [←HS.out]
 have hr1:Row w1 w.heap.size 110 [.slice none 0 0,.int .i64 0]:=by rw [hw1];exact heap_alloc_new w _
 have hl2:Lies w1 A (l.map bv):=by rw [hw1];exact HL1.out
 have hb2:Below w.heap.size w w1:=by rw [hw1];exact below_drewN HB1.out _
 clear hw1
 by_cases h3:3≤s
 ·have HB2:=Lib.hid hb2
  have HL2:=Lib.hid hl2
  have hc0:=hr1.cell 0
  have hc1:=hr1.cell 1
  have hf0:=hr1.free 0
  have hf1:=hr1.free 1
  simp only [List.getElem?_cons_zero,List.getElem?_cons_succ] at hc0 hc1
  have HR1:=Lib.hid hr1
  clear hb2 hl2 hr1
  have HE:=Lib.hid (show plen l=1∧zb2 l=s by unfold plen zb2;rw [←HS.out,if_pos h3,if_pos h3];exact ⟨rfl,rfl⟩)
  go_wp2
  have hr2:Row ((w1.setCell ⟨w.heap.size,0,none⟩ (.slice A 1 c)).setCell ⟨w.heap.size,1,none⟩ (.int .i64 (s:Int))) w.heap.size 110 [.slice A 1 c,.int .i64 (s:Int)]:=(HR1.out.set_ 0 _).set_ 1 _
  refine bodyPost_ret (results_cell_row rfl _ _ _ _ _ _ _ rfl hr2 Tryz.underlying110 rfl (by kernel_rfl)) rfl ⟨?_,(HB2.out.setCell (Nat.le_refl _) _).setCell (Nat.le_refl _) _⟩
  rw [HE.out.1,HE.out.2]
 ·have d0:decide ((3:Int)≤(s:Int))=false:=decide_eq_false (by omega)
  obtain ⟨m,hm⟩:∃ m,m=min n 128:=⟨_,rfl⟩
  have hmin:∀ (ts:Array TypeId) (t:TypeId) (W:World),(Builtin.min_ ts t #[.int .i64 (n:Int),.int .i64 128]).run Tryz.prog W=.ok (.int .i64 (m:Int)) W:=fun ts t W=>by
   rw [run_min_int2]
   congr 2
   split <;> omega
  have hmn:m≤n:=by omega
  have HM:=Lib.hid hm
  have hr1':zou l w1 (.int .i64 1) w1:=by
   refine ⟨1,rfl,Nat.le_refl _,by omega,by omega,?_,0,rfl⟩
   cases l with
   | nil=>simp at hal
   | cons x l=>rw [zca,if_pos ⟨by omega,by have:=HS.out;omega⟩];rfl
  have HB2:=Lib.hid hb2
  have HL2:=Lib.hid hl2
  have HR1:=Lib.hid hr1
  have HE:=Lib.hid (show plen l=zca l 0∧zb2 l=1 by unfold plen zb2;rw [←HS.out,if_neg h3,if_neg h3];exact ⟨rfl,rfl⟩)
  clear hb2 hl2 hr1 hm
  go_wp2
  go_loopw [4] (zou l w1) (fun v _=>129 - (intOf v).toNat)
  case atStart=>exact hr1'
  case round =>
   obtain ⟨k,rfl,hk1,hk128,hkl,hyl,q,hw⟩:=hrel
   have HY:=Lib.hid hyl
   have hlr:Lies wr A (l.map bv):=by rw [hw];exact HL2.out
   have HW:=Lib.hid hw
   clear hyl hr1' hw
   by_cases h1:k < m
   ·have d1:decide (k < m)=true:=decide_eq_true h1
    have h1n:k < n:=by omega
    have h1i:(k:Int)≤(n:Int):=by omega
    have h1c:(k:Int)≤(c:Int):=by omega
    have hkc:¬c=k:=by omega
    have hcall:=HD.out k wr h1n (HP.out k wr h1n hlr)
    obtain ⟨T,hT⟩:∃ T,T=zbu (l.drop k):=⟨_,rfl⟩
    have HT:=Lib.hid hT
    have HC:=Lib.hid hcall
    clear hlr hcall hT
    by_cases h5:T < 3
    ·have d3:decide ((T:Int) < 3)=true:=decide_eq_true (by omega)
     have HS2:=Lib.hid (show zca (l.drop (k+1)) (k+1)=zca l 0 by
      have h6:=HY.out
      rw [zj5 (by have:=HN.out;omega),if_pos ⟨by have:=HM.out;omega,by rw [←HT.out];exact h5⟩] at h6
      exact h6)
     go_wp2_with fail
     refine HC.out.mono ?_
     rintro e w2 ⟨rfl,q2,hw2⟩
     rw [←HT.out]
     have HW2:=Lib.hid hw2
     clear hw2
     go_wp2
     go_roundw
     case rel=>exact ⟨k+1,by go_num,by omega,by have:=HM.out;omega,by have:=HN.out;omega,HS2.out,q+q2,by rw [HW2.out,HW.out];exact World.drewN_drewN _ _ _⟩
     case measure=>simp [intOf];omega
    ·have d3:decide ((T:Int) < 3)=false:=decide_eq_false (by omega)
     have HS2:=Lib.hid (show plen l=k by
      have h6:=HY.out
      rw [zj5 (by have:=HN.out;omega),if_neg (by rw [←HT.out];omega)] at h6
      rw [HE.out.1,←h6])
     go_wp2_with fail
     refine HC.out.mono ?_
     rintro e w2 ⟨rfl,q2,hw2⟩
     rw [←HT.out]
     have hr2:Row w2 w.heap.size 110 [.slice none 0 0,.int .i64 0]:=by rw [hw2,HW.out];exact HR1.out
     have hc0:=hr2.cell 0
     have hc1:=hr2.cell 1
     have hf0:=hr2.free 0
     have hf1:=hr2.free 1
     simp only [List.getElem?_cons_zero,List.getElem?_cons_succ] at hc0 hc1
     have HR2:=Lib.hid hr2
     have HB3:=Lib.hid (show Below w.heap.size w w2 by rw [hw2,HW.out];exact below_drewN (below_drewN HB2.out _) _)
     clear hw2 hr2
     go_wp2
     have hr4:Row ((w2.setCell ⟨w.heap.size,0,none⟩ (.slice A k c)).setCell ⟨w.heap.size,1,none⟩ (.int .i64 1)) w.heap.size 110 [.slice A k c,.int .i64 1]:=(HR2.out.set_ 0 _).set_ 1 _
     refine bodyPost_ret (results_cell_row rfl _ _ _ _ _ _ _ rfl hr4 Tryz.underlying110 rfl (by kernel_rfl)) rfl ⟨?_,(HB3.out.setCell (Nat.le_refl _) _).setCell (Nat.le_refl _) _⟩
     rw [HS2.out,HE.out.2];rfl
   ·have d1:decide (k < m)=false:=decide_eq_false h1
    have HS2:=Lib.hid (show plen l=k by
     have h6:=HY.out
     rw [HE.out.1,←h6]
     have:=HM.out
     have:=HN.out
     by_cases h7:k=l.length
     ·exact zsr h7
     ·rw [zj5 (by omega),if_neg (by omega)])
    have hr2:Row wr w.heap.size 110 [.slice none 0 0,.int .i64 0]:=by rw [HW.out];exact HR1.out
    have hc0:=hr2.cell 0
    have hc1:=hr2.cell 1
    have hf0:=hr2.free 0
    have hf1:=hr2.free 1
    simp only [List.getElem?_cons_zero,List.getElem?_cons_succ] at hc0 hc1
    have HR2:=Lib.hid hr2
    have HB3:=Lib.hid (show Below w.heap.size w wr by rw [HW.out];exact below_drewN HB2.out _)
    have hkc2:(k:Int)≤(c:Int):=by have:=HN.out;omega
    clear hlr hr2
    go_wp2
    have hr4:Row ((wr.setCell ⟨w.heap.size,0,none⟩ (.slice A k c)).setCell ⟨w.heap.size,1,none⟩ (.int .i64 1)) w.heap.size 110 [.slice A k c,.int .i64 1]:=(HR2.out.set_ 0 _).set_ 1 _
    refine bodyPost_ret (results_cell_row rfl _ _ _ _ _ _ _ rfl hr4 Tryz.underlying110 rfl (by kernel_rfl)) rfl ⟨?_,(HB3.out.setCell (Nat.le_refl _) _).setCell (Nat.le_refl _) _⟩
    rw [HS2.out,HE.out.2];rfl
def slen (x:UInt8):Nat:=if x.toNat < 128 then 1 else 256 - x.toNat
def zcq (x:UInt8):Nat:=if x.toNat < 128 then x.toNat+3 else 1
theorem zh6 (x:UInt8):1≤slen x∧slen x≤128:=by
 have:=x.toNat_lt
 unfold slen
 split <;> omega
theorem zlH (x:UInt8):1≤zcq x∧zcq x≤130:=by
 unfold zcq
 split <;> omega
theorem znh (x:UInt8):slen x*zcq x≤130:=by
 have:=x.toNat_lt
 unfold slen zcq
 split <;> omega
def zlI (A:Option Addr) (l:List UInt8) (c:Nat) (w:World) (e:Ending) (w':World):Prop:=
 (∃ (h:0 < l.length),(slen l[0]≤l.length - 1∧e=.returned (.tuple #[.agg #[.slice (A.map (·.add 1)) (slen l[0]) (c - 1),.int .i64 (zcq l[0]:Int)],.bool true])) ∨
  (l.length - 1 < slen l[0]∧e=.returned (.tuple #[.agg #[.slice none 0 0,.int .i64 0],.bool false])))∧Below w.heap.size w w'
theorem zlJ (A:Option Addr) (n c:Nat) (l:List UInt8) (w:World) (hn:l.length=n) (hb:n≤1000000) (h0:0 < n) (hnc:n≤c) (hcm:c≤maxLen) (hl:Lies w A (l.map bv)) :
  Calls Tryz.prog 128 #[.slice A n c] w (zlI A l c w):=by
 have hci:(c:Int)≤9223372036854775807:=by unfold maxLen at hcm;omega
 have hal:0 < l.length:=by omega
 obtain ⟨x,hx⟩:∃ x:Nat,x=l[0].toNat:=⟨_,rfl⟩
 have hx8:x < 256:=by rw [hx];exact l[0].toNat_lt
 have hb1:Below w.heap.size w (w.alloc (.cells #[.slice none 0 0,.int .i64 0] 110)):=(Below.refl _ _).alloc (Nat.le_refl _) _
 obtain ⟨ad,rfl,hadlt,hcell⟩:=hl.cell (k:=0) (by rw [List.length_map];exact hal)
 have hr1:Row (w.alloc (.cells #[.slice none 0 0,.int .i64 0] 110)) w.heap.size 110 [.slice none 0 0,.int .i64 0]:=heap_alloc_new w _
 have hcx:(w.alloc (.cells #[.slice none 0 0,.int .i64 0] 110)).cell? ad=some (.int .u8 (x:Int)):=by
  have e:ad.add 0=ad:=by simp [Addr.add]
  rw [e] at hcell
  rw [hb1.cell hadlt,hcell,List.getElem_map,hx];rfl
 obtain ⟨w1,hw1⟩:∃ w1,w1=(w.alloc (.cells #[.slice none 0 0,.int .i64 0] 110)).drew:=⟨_,rfl⟩
 have hN0:(0:Int) < (n:Int):=by omega
 have HL:=Lib.hid hn
 have HX:=Lib.hid hx
 have HB:=Lib.hid hb1
 have HR1:=Lib.hid hr1
 clear hn hx hb1 hr1 hl hcell hadlt
 obtain ⟨k,hk⟩:∃ k,k=slen l[0]:=⟨_,rfl⟩
 obtain ⟨t,ht⟩:∃ t,t=zcq l[0]:=⟨_,rfl⟩
 have hk1:1≤k∧k≤128:=by rw [hk];exact zh6 _
 have hk2:1≤k:=hk1.1
 have hk3:k≤128:=hk1.2
 have ht2:t≤130:=by rw [ht];exact (zlH _).2
 have HK:=Lib.hid hk
 have HT:=Lib.hid ht
 have hxw:IntKind.i64.wrap (x:Int)=(x:Int):=by rw [IntKind.wrap_i64];omega
 have hnw:(n:Int) - 1=((n - 1:Nat):Int):=by omega
 have hnn:n - 1≤n:=by omega
 obtain ⟨N,hN⟩:∃ N,N=n - 1:=⟨_,rfl⟩
 rw [←hN] at hnw hnn
 have HNN:=Lib.hid hN
 clear hk ht hk1 hw1 hN
 by_cases h128:x < 128
 ·have d0:decide ((128:Int)≤(x:Int))=false:=decide_eq_false (by omega)
  have e1:k=1:=by rw [HK.out];unfold slen;rw [←HX.out,if_pos h128]
  have hx3:IntKind.i64.wrap ((x:Int)+3)=(t:Int):=by rw [HT.out];unfold zcq;rw [←HX.out,if_pos h128,IntKind.wrap_i64];omega
  subst e1
  by_cases hcut:N < 1
  ·have d1:decide ((N:Int) < 1)=true:=decide_eq_true (by omega)
   go_enter Tryz.func128,Tryz.ntmps128
   go_wp2
   go_quiet (fail)
   go_wp2
   have hr2:Row ((((w.alloc (.cells #[.slice none 0 0,.int .i64 0] 110)).drewN nq).setCell ⟨w.heap.size,0,none⟩ (.slice none 0 0)).setCell ⟨w.heap.size,1,none⟩ (.int .i64 0)) w.heap.size 110 [.slice none 0 0,.int .i64 0]:=((HR1.out.drewN nq).set_ 0 _).set_ 1 _
   refine bodyPost_ret (zbM rfl _ _ _ _ _ _ _ _ rfl hr2 Tryz.underlying110 rfl (by kernel_rfl) rfl) rfl ⟨⟨hal,.inr ⟨?_,rfl⟩⟩,((below_drewN HB.out nq).setCell (Nat.le_refl _) _).setCell (Nat.le_refl _) _⟩
   rw [←HK.out,HL.out,←HNN.out];omega
  ·have d1:decide ((N:Int) < 1)=false:=decide_eq_false (by omega)
   have hn2:(2:Int)≤(n:Int):=by have:=HNN.out;omega
   have hc1:¬c=1:=by omega
   have hc2:(2:Int)≤(c:Int):=by omega
   go_enter Tryz.func128,Tryz.ntmps128
   go_wp2
   go_quiet (fail)
   go_wp2
   have hr2:Row ((((w.alloc (.cells #[.slice none 0 0,.int .i64 0] 110)).drewN nq).setCell ⟨w.heap.size,0,none⟩ (.slice (some ⟨ad.block,ad.off+1,none⟩) 1 (c - 1))).setCell ⟨w.heap.size,1,none⟩ (.int .i64 (t:Int))) w.heap.size 110 [.slice (some ⟨ad.block,ad.off+1,none⟩) 1 (c - 1),.int .i64 (t:Int)]:=((HR1.out.drewN nq).set_ 0 _).set_ 1 _
   refine bodyPost_ret (zbM rfl _ _ _ _ _ _ _ _ rfl hr2 Tryz.underlying110 rfl (by kernel_rfl) rfl) rfl ⟨⟨hal,.inl ⟨?_,?_⟩⟩,((below_drewN HB.out nq).setCell (Nat.le_refl _) _).setCell (Nat.le_refl _) _⟩
   ·rw [←HK.out,HL.out,←HNN.out];omega
   ·rw [←HK.out,←HT.out];simp [Addr.add]
 ·have d0:decide ((128:Int)≤(x:Int))=true:=decide_eq_true (by omega)
  have hx3:IntKind.i64.wrap ((x:Int)+3)=((x+3:Nat):Int):=by rw [IntKind.wrap_i64];omega
  have e1:(256:Int) - (x:Int)=(k:Int):=by rw [HK.out];unfold slen;rw [←HX.out,if_neg h128];omega
  have e2:t=1:=by rw [HT.out];unfold zcq;rw [←HX.out,if_neg h128]
  subst e2
  by_cases hcut:N < k
  ·have d1:decide (N < k)=true:=decide_eq_true hcut
   go_enter Tryz.func128,Tryz.ntmps128
   go_wp2
   go_quiet (fail)
   go_wp2
   have hr2:Row ((((w.alloc (.cells #[.slice none 0 0,.int .i64 0] 110)).drewN nq).setCell ⟨w.heap.size,0,none⟩ (.slice none 0 0)).setCell ⟨w.heap.size,1,none⟩ (.int .i64 0)) w.heap.size 110 [.slice none 0 0,.int .i64 0]:=((HR1.out.drewN nq).set_ 0 _).set_ 1 _
   refine bodyPost_ret (zbM rfl _ _ _ _ _ _ _ _ rfl hr2 Tryz.underlying110 rfl (by kernel_rfl) rfl) rfl ⟨⟨hal,.inr ⟨?_,rfl⟩⟩,((below_drewN HB.out nq).setCell (Nat.le_refl _) _).setCell (Nat.le_refl _) _⟩
   rw [←HK.out,HL.out,←HNN.out];omega
  ·have d1:decide (N < k)=false:=decide_eq_false hcut
   obtain ⟨e,he⟩:∃ e,e=1+k:=⟨_,rfl⟩
   have hei:1+(k:Int)=(e:Int):=by omega
   have he1:(1:Int)≤(e:Int):=by omega
   have hen:(e:Int)≤(n:Int):=by have:=HNN.out;omega
   have hec:(e:Int)≤(c:Int):=by have:=HNN.out;omega
   have hek:(e:Int) - 1=(k:Int):=by omega
   have hek2:e - 1=k:=by omega
   have hc1:¬c=1:=by have:=HNN.out;omega
   have hE:=Lib.hid he
   clear he
   go_enter Tryz.func128,Tryz.ntmps128
   go_wp2
   go_quiet (fail)
   go_wp2
   have hr2:Row ((((w.alloc (.cells #[.slice none 0 0,.int .i64 0] 110)).drewN nq).setCell ⟨w.heap.size,0,none⟩ (.slice (some ⟨ad.block,ad.off+1,none⟩) k (c - 1))).setCell ⟨w.heap.size,1,none⟩ (.int .i64 1)) w.heap.size 110 [.slice (some ⟨ad.block,ad.off+1,none⟩) k (c - 1),.int .i64 1]:=((HR1.out.drewN nq).set_ 0 _).set_ 1 _
   refine bodyPost_ret (zbM rfl _ _ _ _ _ _ _ _ rfl hr2 Tryz.underlying110 rfl (by kernel_rfl) rfl) rfl ⟨⟨hal,.inl ⟨?_,?_⟩⟩,((below_drewN HB.out nq).setCell (Nat.le_refl _) _).setCell (Nat.le_refl _) _⟩
   ·rw [←HK.out,HL.out,←HNN.out];omega
   ·rw [←HK.out,←HT.out];simp [Addr.add]
end Go.Proofs.YtlibofmpnlfelaaGreatDoor
namespace Go.Proofs.YtlibofmpnlfelaaGreatDoor
open Go.RowKit Go.Shelf
attribute [local go_sem] Oper.semAt_some
theorem zov {l:List UInt8} (h:l≠[]):1≤plen l:=by
 unfold plen
 split
 ·omega
 ·exact zh4 h (by omega)
theorem zp2 (l:List UInt8):1≤zb2 l:=by unfold zb2;split <;> omega
theorem zow (l:List UInt8):plen l≤128:=by
 unfold plen
 split
 ·omega
 ·exact zh3 l 0 (by omega)
theorem zp3 (l:List UInt8):zb2 l≤130:=by
 have:=zh2 l
 unfold zb2
 split <;> omega
theorem zh7 (l:List UInt8):plen l*zb2 l≤130∧plen l*zb2 l≤l.length∧plen l≤l.length:=by
 have h1:=zh2 l
 have h2:=zor l
 have h3:=zh3 l 0 (by omega)
 have h4:=zot l 0
 unfold plen zb2
 split <;> omega
def padv (l:List UInt8) (a:Nat):Nat:=plen (l.drop a)*zb2 (l.drop a)
theorem zox {l:List UInt8} {a:Nat} (h:a < l.length):1≤padv l a:=
 Nat.mul_pos (zov (by intro e;have:=congrArg List.length e;rw [List.length_drop,List.length_nil] at this;omega)) (zp2 _)
theorem zvd {l:List UInt8} {a:Nat} (h:a < l.length):a+padv l a≤l.length:=by
 have:=(zh7 (l.drop a)).2.1
 rw [List.length_drop] at this
 unfold padv
 omega
def zst (A:Option Addr) (c:Nat) (l:List UInt8) (a:Nat):Value:=.agg #[.slice (A.map (·.add a)) (plen (l.drop a)) (c - a),.int .i64 (zb2 (l.drop a):Int)]
def zj6 (l:List UInt8) (A:Option Addr) (n c Bs:Nat) (w00:World) (J:List {a:Nat // a < n}→World→Prop) (v:Value) (wr:World):Prop:=
 ∃ (pre:List {a:Nat // a < n}) (a:Nat),v=.int .i64 (a:Int)∧a≤n∧Chain (·.1) (fun x=>padv l x.1) pre a∧J pre wr∧Row wr Bs 25 [.slice A n c]∧Below w00.heap.size w00 wr
theorem zni (l:List UInt8) (A:Option Addr) (n c Bs:Nat) (w00 w:World) (hn:l.length=n) (hb:n≤1000000) (hnc:n≤c) (hcm:c≤maxLen) (hl:Lies w00 A (l.map bv))
  (hbw:Below w00.heap.size w00 w) (hBs:Row w Bs 25 [.slice A n c]) (m:Nat) (hm:1≤m) :
  SeqStopsK Fence.wide m Tryz.prog 114 #[.pointer (some ⟨Bs,0,none⟩)] (fun x:{a:Nat // a < n}=>#[zst A c l x.1]) (Kps Bs 110 w00.heap.size)
   (fun xs=>Chain (·.1) (fun x=>padv l x.1) xs n) (fun _=>True) n w:=fun q J Jx W hW hJ hJx hY h0=>by
 have hci:(c:Int)≤9223372036854775807:=by unfold maxLen at hcm;omega
 have hst:zj6 l A n c Bs w00 J (.int .i64 0) W:=⟨[],0,rfl,by omega,.nil,h0,hBs.below hW hBs.lt,hbw.trans (hW.mono hbw.size)⟩
 have HF:=Lib.hid fun (k:Nat) (X:World) (hk:k < n) (h:Below w00.heap.size w00 X)=>(show Calls Tryz.prog 115 #[.slice (A.map (·.add k)) (n - k) (c - k)] X (zlG (A.map (·.add k)) (l.drop k) (c - k) X) by
  refine zss (A.map (·.add k)) (n - k) (c - k) (l.drop k) X (by rw [List.length_drop];omega) (by omega) (by omega) (by omega) (by omega) ?_
  have:=(hl.below h).drop (k:=k) (cap:=c) (by rw [List.length_map];omega)
  rw [if_neg (by omega)] at this
  rw [List.map_drop];exact this)
 have HY:=Lib.hid hY
 have HJ:=Lib.hid hJ
 have HN:=Lib.hid hn
 have hzz:W.heap.size≤W.heap.size:=Nat.le_refl _
 clear hbw hBs hW hJx hY h0 hl hn hJ
 refine callsIn_of_wp Tryz.func114 rfl trivial ?_ rfl
 simp only [Tryz.ntmps114,List.size_toArray,List.length_cons,List.length_nil,Nat.reduceAdd,Nat.reduceSub,Array.replicate_succ,Array.replicate_zero,List.push_toArray,List.append_toArray,List.nil_append,List.cons_append]
 gi_wp2
 gi_loopw [3] (zj6 l A n c Bs w00 J) (fun v _=>n - (intOf v).toNat)
 case atStart=>exact hst
 case round =>
  obtain ⟨pre,a,rfl,han,hch,hj,hbs,hbw⟩:=hrel
  have hcb:=hbs.cell 0
  simp only [List.getElem?_cons_zero] at hcb
  have HCH:=Lib.hid hch
  have HBS:=Lib.hid hbs
  have HBW:=Lib.hid hbw
  have HJP:=Lib.hid hj
  clear hch hbs hbw hj hst
  by_cases hlt:a < n
  ·have hlti:(a:Int) < (n:Int):=by omega
   have hac:(a:Int)≤(c:Int):=by omega
   have hkc:¬c=a:=by omega
   have hcall:=HF.out a wr hlt HBW.out
   have HC:=Lib.hid hcall
   clear hcall
   gi_wp2_with fail
   refine ⟨trivial,(callsIn_wide.2 HC.out).mono ?_⟩
   rintro e w1 ⟨rfl,hb1⟩
   obtain ⟨k,hk⟩:∃ k,k=plen (l.drop a):=⟨_,rfl⟩
   obtain ⟨t,ht⟩:∃ t,t=zb2 (l.drop a):=⟨_,rfl⟩
   rw [←hk,←ht]
   have hz1:wr.heap.size≤w1.heap.size:=hb1.size
   obtain ⟨g,hg⟩:∃ g,g=w1.heap.size:=⟨_,rfl⟩
   have hr2:Row (w1.alloc (.cells #[.slice (A.map (·.add a)) k (c - a),.int .i64 (t:Int)] 110)) g 110 [.slice (A.map (·.add a)) k (c - a),.int .i64 (t:Int)]:=by rw [hg];exact heap_alloc_new w1 _
   have hb2:Below wr.heap.size wr (w1.alloc (.cells #[.slice (A.map (·.add a)) k (c - a),.int .i64 (t:Int)] 110)):=hb1.alloc hz1 _
   have hj2:=HJ.out pre wr _ none HJP.out (below_grown hb2) (fun r e=>by cases e)
   have hlen:=HCH.out.length (fun x:{a:Nat // a < n}=>zox (l:=l) (a:=x.1) (by have:=x.2;have:=HN.out;omega))
   obtain ⟨fn,tmps,assign,body,hy,hR⟩:=HY.out pre ⟨a,hlt⟩ _ hj2 (by omega)
   unfold zst at hy
   dsimp only at hy
   rw [←hk,←ht] at hy
   have hc0:=hr2.cell 0
   have hc1:=hr2.cell 1
   simp only [List.getElem?_cons_zero,List.getElem?_cons_succ] at hc0 hc1
   rw [hg] at hc0 hc1
   have HR:=Lib.hid hR
   have HR2:=Lib.hid hr2
   have HB2:=Lib.hid hb2
   have HK:=Lib.hid hk
   have HT:=Lib.hid ht
   have HG:=Lib.hid hg
   clear hk ht hr2 hb2 hj2 hlen hR hb1 hg
   gi_wp2
   refine HR.out.mono ?_
   clear hc0 hc1 hy
   rintro e W3 (⟨rfl,hJ3,hk3⟩ | ⟨rfl,hJx3⟩)
   ·have hr3:=hk3.row HR2.out
    rw [HG.out] at hr3
    have hc0:=hr3.cell 0
    have hc1:=hr3.cell 1
    simp only [List.getElem?_cons_zero,List.getElem?_cons_succ] at hc0 hc1
    obtain ⟨d,hd⟩:∃ d,d=k*t:=⟨_,rfl⟩
    have hmul:(k:Int)*(t:Int)=(d:Int):=by rw [hd,Int.natCast_mul]
    have hpa:padv l a=d:=by rw [hd,HK.out,HT.out];rfl
    have hle:=zvd (l:=l) (a:=a) (by have:=HN.out;omega)
    have hpos:=zox (l:=l) (a:=a) (by have:=HN.out;omega)
    rw [hpa] at hle hpos
    have hdw:IntKind.i64.wrap (d:Int)=(d:Int):=by rw [IntKind.wrap_i64];have:=HN.out;omega
    have hrel:zj6 l A n c Bs w00 J (.int .i64 ((a+d:Nat):Int)) W3:=
     ⟨pre ++ [⟨a,hlt⟩],a+d,rfl,by have:=HN.out;omega,by have:=HCH.out.snoc ⟨a,hlt⟩ rfl;rw [hpa] at this;exact this,hJ3,hk3.box (HBS.out.below HB2.out HBS.out.lt),(HBW.out.trans (HB2.out.mono HBW.out.size)).trans hk3.1⟩
    have HREL:=Lib.hid hrel
    have HWR:=Lib.hid (show wrap64 ((a:Int)+(d:Int))=((a+d:Nat):Int) by have:=HN.out;unfold wrap64;omega)
    clear hr3 hd hpa hrel hk3 hJ3
    gi_wp2
    go_roundw
    case rel=>rw [HWR.out];exact HREL.out
    case measure=>rw [HWR.out];simp [intOf];have:=HN.out;omega
   ·gi_wp2
    refine bodyPost_ret (results_none rfl _ _ _) rfl ?_
    exact ⟨⟨_,rfl⟩,.inr ⟨_,trivial,hJx3⟩⟩
  ·have hlti:¬(a:Int) < (n:Int):=by omega
   have hend:Chain (·.1) (fun x:{a:Nat // a < n}=>padv l x.1) pre n:=by have:=HCH.out;rwa [show a=n by omega] at this
   have HEND:=Lib.hid hend
   clear hend
   gi_wp2
   go_end0
   exact ⟨⟨_,rfl⟩,.inl ⟨pre,HEND.out,HJP.out⟩⟩
def zbD (l:List UInt8) (a:Nat):Prop:=∃ h:a < l.length,a+1+slen l[a]≤l.length
def sAt (l:List UInt8) (a:Nat):UInt8:=l[a]?.getD 0
theorem zlK {l:List UInt8} {a:Nat} (h:a < l.length):sAt l a=l[a]:=by unfold sAt;rw [List.getElem?_eq_getElem h];rfl
def addrAt (A:Option Addr) (k:Nat):Option Addr:=A.map (·.add k)
def zlL (A:Option Addr) (c:Nat) (l:List UInt8) (a:Nat):Value:=.agg #[.slice (addrAt A (a+1)) (slen (sAt l a)) (c - a - 1),.int .i64 (zcq (sAt l a):Int)]
def zj7 (l:List UInt8) (A:Option Addr) (n c Bs:Nat) (w00:World) (J:List {a:Nat // zbD l a}→World→Prop) (v:Value) (wr:World):Prop:=
 ∃ (pre:List {a:Nat // zbD l a}) (a:Nat),v=.int .i64 (a:Int)∧a≤n∧Chain (·.1) (fun x=>1+slen (sAt l x.1)) pre a∧J pre wr∧Row wr Bs 25 [.slice A n c]∧Below w00.heap.size w00 wr
def zj8 (l:List UInt8) (xs:List {a:Nat // zbD l a}):Prop:=∃ a,Chain (·.1) (fun x=>1+slen (sAt l x.1)) xs a∧a≤l.length∧¬zbD l a
def zsu (l:List UInt8) (s:List {a:Nat // zbD l a}):Prop:=∃ pre x,s=pre ++ [x]∧Chain (·.1) (fun x=>1+slen (sAt l x.1)) pre x.1
theorem znj (A:Option Addr) (a:Nat):(A.map (·.add a)).map (·.add 1)=addrAt A (a+1):=by
 cases A with
 | none=>rfl
 | some ad=>simp [addrAt,add_add]
theorem znk (l:List UInt8) (A:Option Addr) (n c Bs:Nat) (w00 w:World) (hn:l.length=n) (hb:n≤1000000) (hnc:n≤c) (hcm:c≤maxLen) (hl:Lies w00 A (l.map bv))
  (hbw:Below w00.heap.size w00 w) (hBs:Row w Bs 25 [.slice A n c]) (m:Nat) (hm:1≤m) :
  SeqStopsK Fence.wide m Tryz.prog 127 #[.pointer (some ⟨Bs,0,none⟩)] (fun x:{a:Nat // zbD l a}=>#[zlL A c l x.1]) (Kps Bs 110 w00.heap.size)
   (zj8 l) (zsu l) n w:=fun q J Jx W hW hJ hJx hY h0=>by
 have hci:(c:Int)≤9223372036854775807:=by unfold maxLen at hcm;omega
 have hst:zj7 l A n c Bs w00 J (.int .i64 0) W:=⟨[],0,rfl,by omega,.nil,h0,hBs.below hW hBs.lt,hbw.trans (hW.mono hbw.size)⟩
 have HF:=Lib.hid fun (k:Nat) (X:World) (hk:k < n) (h:Below w00.heap.size w00 X)=>(show Calls Tryz.prog 128 #[.slice (A.map (·.add k)) (n - k) (c - k)] X (zlI (A.map (·.add k)) (l.drop k) (c - k) X) by
  refine zlJ (A.map (·.add k)) (n - k) (c - k) (l.drop k) X (by rw [List.length_drop];omega) (by omega) (by omega) (by omega) (by omega) ?_
  have:=(hl.below h).drop (k:=k) (cap:=c) (by rw [List.length_map];omega)
  rw [if_neg (by omega)] at this
  rw [List.map_drop];exact this)
 have HY:=Lib.hid hY
 have HJ:=Lib.hid hJ
 have HN:=Lib.hid hn
 clear hbw hBs hW hJx hY h0 hl hn hJ
 refine callsIn_of_wp Tryz.func127 rfl trivial ?_ rfl
 simp only [Tryz.ntmps127,List.size_toArray,List.length_cons,List.length_nil,Nat.reduceAdd,Nat.reduceSub,Array.replicate_succ,Array.replicate_zero,List.push_toArray,List.append_toArray,List.nil_append,List.cons_append]
 gi_wp2
 gi_loopw [3] (zj7 l A n c Bs w00 J) (fun v _=>n - (intOf v).toNat)
 case atStart=>exact hst
 case round =>
  obtain ⟨pre,a,rfl,han,hch,hj,hbs,hbw⟩:=hrel
  have hcb:=hbs.cell 0
  simp only [List.getElem?_cons_zero] at hcb
  have HCH:=Lib.hid hch
  have HBS:=Lib.hid hbs
  have HBW:=Lib.hid hbw
  have HJP:=Lib.hid hj
  clear hch hbs hbw hj hst
  by_cases hlt:a < n
  ·have hlti:(a:Int) < (n:Int):=by omega
   have hac:(a:Int)≤(c:Int):=by omega
   have hkc:¬c=a:=by omega
   have hall:a < l.length:=by have:=HN.out;omega
   have hcall:=HF.out a wr hlt HBW.out
   have HC:=Lib.hid hcall
   clear hcall
   gi_wp2_with fail
   refine ⟨trivial,(callsIn_wide.2 HC.out).mono ?_⟩
   rintro e w1 ⟨⟨hdl,hor⟩,hb1⟩
   have hg0:(l.drop a)[0]=l[a]:=by simp
   rw [hg0,List.length_drop] at hor
   have hz1:wr.heap.size≤w1.heap.size:=hb1.size
   obtain ⟨g,hg⟩:∃ g,g=w1.heap.size:=⟨_,rfl⟩
   rcases hor with ⟨hk1,rfl⟩ | ⟨hk1,rfl⟩
   ·rw [znj]
    obtain ⟨B,hBB⟩:∃ B,B=addrAt A (a+1):=⟨_,rfl⟩
    rw [←hBB]
    obtain ⟨k,hk⟩:∃ k,k=slen l[a]:=⟨_,rfl⟩
    obtain ⟨t,ht⟩:∃ t,t=zcq l[a]:=⟨_,rfl⟩
    rw [←hk] at hk1
    rw [←hk,←ht]
    have hS:zbD l a:=⟨hall,by rw [←hk];omega⟩
    have hr2:Row (w1.alloc (.cells #[.slice B k (c - a - 1),.int .i64 (t:Int)] 110)) g 110 [.slice B k (c - a - 1),.int .i64 (t:Int)]:=by rw [hg];exact heap_alloc_new w1 _
    have hb2:Below wr.heap.size wr (w1.alloc (.cells #[.slice B k (c - a - 1),.int .i64 (t:Int)] 110)):=hb1.alloc hz1 _
    have hj2:=HJ.out pre wr _ none HJP.out (below_grown hb2) (fun r e=>by cases e)
    have hlen:=HCH.out.length (fun x:{a:Nat // zbD l a}=>by have:=zh6 (sAt l x.1);omega)
    obtain ⟨fn,tmps,assign,body,hy,hR⟩:=HY.out pre ⟨a,hS⟩ _ hj2 (by omega)
    unfold zlL at hy
    dsimp only at hy
    rw [zlK hall,←hk,←ht,←hBB] at hy
    have hc0:=hr2.cell 0
    have hc1:=hr2.cell 1
    simp only [List.getElem?_cons_zero,List.getElem?_cons_succ] at hc0 hc1
    rw [hg] at hc0 hc1
    have HR:=Lib.hid hR
    have HR2:=Lib.hid hr2
    have HB2:=Lib.hid hb2
    have HK:=Lib.hid hk
    have HT:=Lib.hid ht
    have HG:=Lib.hid hg
    have hk128:1≤k∧k≤128:=by rw [hk];exact zh6 _
    clear hk ht hBB hr2 hb2 hj2 hlen hR hb1 hg hg0 hdl
    gi_wp2
    refine HR.out.mono ?_
    clear hc0 hc1 hy
    rintro e W3 (⟨rfl,hJ3,hk3⟩ | ⟨rfl,hJx3⟩)
    ·have hr3:=hk3.row HR2.out
     rw [HG.out] at hr3
     have hc0:=hr3.cell 0
     have hc1:=hr3.cell 1
     simp only [List.getElem?_cons_zero,List.getElem?_cons_succ] at hc0 hc1
     have hpa:1+slen (sAt l a)=1+k:=by rw [zlK hall,HK.out]
     have hrel:∀ w4,Below W3.heap.size W3 w4→zj7 l A n c Bs w00 J (.int .i64 ((a+(1+k):Nat):Int)) w4:=fun w4 hb4 =>
      ⟨pre ++ [⟨a,hS⟩],a+(1+k),rfl,by have:=HN.out;omega,by have:=HCH.out.snoc ⟨a,hS⟩ rfl;rw [hpa] at this;exact this,HJ.out _ W3 w4 none hJ3 (below_grown hb4) (fun r e=>by cases e),
       (hk3.box (HBS.out.below HB2.out HBS.out.lt)).below hb4 (hk3.box (HBS.out.below HB2.out HBS.out.lt)).lt,
       ((HBW.out.trans (HB2.out.mono HBW.out.size)).trans hk3.1).trans (hb4.mono ((HBW.out.trans (HB2.out.mono HBW.out.size)).trans hk3.1).size)⟩
     have HREL:=Lib.hid hrel
     obtain ⟨z,hz⟩:∃ z,z=1+k:=⟨_,rfl⟩
     have hz129:z≤129:=by omega
     have hz1':1≤z:=by omega
     rw [←hz] at hrel
     have HREL:=Lib.hid hrel
     have hzn:a+z≤n:=by have:=HN.out;omega
     have HZ:=Lib.hid hz
     clear hr3 hpa hrel hk3 hJ3 hk1 hz
     gi_wp2_with fail
     refine ⟨trivial,(callsIn_wide.2 (zlF B k (c - a - 1) (.int .i64 (t:Int)) W3 (by omega))).mono ?_⟩
     rintro e w4 ⟨rfl,hb4⟩
     have HB4:=Lib.hid hb4
     rw [←HZ.out]
     clear hb4 hc0 hc1
     gi_wp2
     go_roundw
     case rel=>exact HREL.out _ HB4.out
     case measure=>simp [intOf];omega
    ·gi_wp2
     refine bodyPost_ret (results_none rfl _ _ _) rfl ?_
     exact ⟨⟨_,rfl⟩,.inr ⟨_,⟨pre,⟨a,hS⟩,rfl,HCH.out⟩,hJx3⟩⟩
   ·have hend:zj8 l pre:=⟨a,HCH.out,by omega,fun ⟨_,h⟩=>by omega⟩
    have HEND:=Lib.hid hend
    have hj2:=HJ.out pre wr (w1.alloc (.cells #[.slice none 0 0,.int .i64 0] 110)) none HJP.out (below_grown (hb1.alloc hz1 _)) (fun r e=>by cases e)
    have HJ2:=Lib.hid hj2
    clear hend hj2 hg0 hdl hb1
    gi_wp2
    refine ⟨fun _ h=>(by cases h),?_⟩
    gi_wp2
    refine bodyPost_ret (results_none rfl _ _ _) rfl ?_
    exact ⟨⟨_,rfl⟩,.inl ⟨pre,HEND.out,HJ2.out⟩⟩
  ·have hlti:¬(a:Int) < (n:Int):=by omega
   have hend:zj8 l pre:=⟨a,HCH.out,by have:=HN.out;omega,fun ⟨h,_⟩=>by have:=HN.out;omega⟩
   have HEND:=Lib.hid hend
   clear hend
   gi_wp2
   go_end0
   exact ⟨⟨_,rfl⟩,.inl ⟨pre,HEND.out,HJP.out⟩⟩
end Go.Proofs.YtlibofmpnlfelaaGreatDoor
namespace Go.Proofs.YtlibofmpnlfelaaGreatDoor
open Go.RowKit Go.Shelf
attribute [local go_sem] Oper.semAt_some
def zfR (l:List UInt8) (a:Nat):List UInt8:=UInt8.ofNat (zit (plen (l.drop a)) (zb2 (l.drop a)))::(l.drop a).take (plen (l.drop a))
theorem znl {l:List UInt8} {a:Nat} (h:a < l.length):yput (l.drop a)=zfR l a ++ yput (l.drop (a+padv l a)):=by
 by_cases h3:3≤zbu (l.drop a)
 ·have e1:plen (l.drop a)=1:=by unfold plen;rw [if_pos h3]
  have e2:zb2 (l.drop a)=zbu (l.drop a):=by unfold zb2;rw [if_pos h3]
  have e3:(l.drop a).take 1=[l[a]]:=by rw [drop_at h];rfl
  unfold zfR padv zit
  rw [e1,e2,if_pos h3,e3,Nat.one_mul,znf h h3]
 ·have e1:plen (l.drop a)=zca (l.drop a) 0:=by unfold plen;rw [if_neg h3]
  have e2:zb2 (l.drop a)=1:=by unfold zb2;rw [if_neg h3]
  unfold zfR padv zit
  rw [e1,e2,if_neg (by omega),Nat.mul_one,zlC h (by omega)]
theorem zp4 (l:List UInt8) (a:Nat):(zfR l a).length≤129:=by
 have:=zow (l.drop a)
 unfold zfR
 rw [List.length_cons,List.length_take]
 omega
def ylay {n:Nat} (l:List UInt8) (xs:List {a:Nat // a < n}):List UInt8:=xs.flatMap fun x=>zfR l x.1
theorem zlM {n:Nat} (l:List UInt8) (xs:List {a:Nat // a < n}) (x:{a:Nat // a < n}):ylay l (xs ++ [x])=ylay l xs ++ zfR l x.1:=by simp [ylay]
theorem zoy {n:Nat} (l:List UInt8):∀ (xs:List {a:Nat // a < n}),(ylay l xs).length≤129*xs.length
 | []=>by simp [ylay]
 | x::xs=>by
  have h1:=zoy l xs
  have h2:=zp4 l x.1
  have h3:ylay l (x::xs)=zfR l x.1 ++ ylay l xs:=rfl
  rw [h3,List.length_append,List.length_cons]
  omega
theorem zp5 {n:Nat} {l:List UInt8} (hn:l.length=n) {xs:List {a:Nat // a < n}} {a:Nat} (h:Chain (·.1) (fun x=>padv l x.1) xs a):ylay l xs ++ yput (l.drop a)=yput l:=by
 induction h with
 | nil=>simp [ylay]
 | snoc h x hx ih =>
  subst hx
  rw [zlM,List.append_assoc,←znl (by have:=x.2;omega)]
  exact ih
theorem zsv (v:Value) (w:World) (hv:∃ A n c,v=.slice A n c) :
  Calls Tryz.prog 86 #[v] w (fun e w'=>e=.returned (.func (.func 114) #[] #[.pointer (some ⟨w.heap.size,0,none⟩)])∧w'=w.alloc (.cells #[v] 25)):=by
 obtain ⟨A,n,c,rfl⟩:=hv
 go_enter Tryz.func86,Tryz.ntmps86
 go_wp2
 go_ret
 exact ⟨rfl,rfl⟩
theorem zuc (l:List UInt8) (v:Value) (w:World) (hv:IsB l v w) (hb:l.length≤1000000) :
  Calls Tryz.prog 55 #[v] w (RetE w (zne l)):=by
 obtain ⟨A,c,rfl,hA,hnc,hcm,hl⟩:=hv
 obtain ⟨n,hn⟩:∃ n,n=l.length:=⟨_,rfl⟩
 rw [←hn] at hA hnc hb ⊢
 have hci:(c:Int)≤9223372036854775807:=by unfold maxLen at hcm;omega
 by_cases hbig:n≤4096
 ·have hE:Hid (zne l=(yput l,0)):=Lib.hid (by unfold zne;rw [if_pos (by omega)])
  have hbi:¬(4096:Int) < (n:Int):=by omega
  have HN:=Lib.hid hn
  have HS:=Lib.hid fun (W:World)=>zsv (.slice A n c) W ⟨_,_,_,rfl⟩
  refine (callsIn_wide (n:=9)).1 ?_
  refine callsIn_of_wp_marks Tryz.func55 rfl trivial ?_ rfl
  simp only [Tryz.ntmps55,List.size_toArray,List.length_cons,List.length_nil,Nat.reduceAdd,Nat.reduceSub,Array.replicate_succ,Array.replicate_zero,List.push_toArray,List.append_toArray,List.nil_append,List.cons_append]
  clear hn
  gi_wp2_with fail
  refine ⟨trivial,(callsIn_wide.2 (HS.out _)).mono ?_⟩
  rintro e w' ⟨rfl,rfl⟩
  have bO:=Boxed.new w 25 (.slice none 0 0)
  have bN:=Boxed.new (w.alloc (.cells #[.slice none 0 0] 25)) 25 (.slice A n c)
  rw [World.size_alloc] at bN
  have hB0:Below w.heap.size w ((w.alloc (.cells #[.slice none 0 0] 25)).alloc (.cells #[.slice A n c] 25)):=((Below.refl _ w).alloc (Nat.le_refl _) _).alloc (by simp) _
  gi_wp2_with fail
  refine wpIn_rangeFunc_ownH rfl (by omega) (gf:=114) (lb:=#[.pointer (some ⟨w.heap.size+1,0,none⟩)]) rfl trivial (enters_of Tryz.func114 (by kernel_rfl) rfl)
   (zni l A n c (w.heap.size+1) w _ HN.out.symm hb hnc hcm hl hB0 bN 8 (by omega)) (fun h k=>Kps.trans h k) (Kps.turn (by simp;omega) (by simp)) (Below.refl _ _) (fun _=>rfl)
   (fun pre W=>(∃ v,Boxed W w.heap.size 25 v∧W.ownsRow w.heap.size 5 1 v (ylay l pre).length ((ylay l pre).map bv)∧True)∧(Row W (w.heap.size+1) 25 [.slice A n c]∧Below w.heap.size w W))
   (fun _ _ _=>False)
   (OwnFrom.and (Own.from (holdsRow_own w.heap.size w.heap.size 25 5 1 (fun pre=>(ylay l pre).length) (fun pre=>(ylay l pre).map bv) (fun _ _=>True)) _)
    (OwnFrom.and (Own.from (zgi (w.heap.size+1) 25 (fun _=>[.slice A n c])) _) (ownFrom_below (Nat.le_refl _) (by simp;omega))))
   (fun _ _ _ _ _ hs _ _=>hs)
   ⟨⟨_,bO.alloc _,World.ownsRow_nil _ _ _ _,trivial⟩,bN,hB0⟩
   (fun x a' W=>∃ Bx,w.heap.size+2≤Bx∧Row W Bx 110 [.slice (A.map (·.add x.1)) (plen (l.drop x.1)) (c - x.1),.int .i64 (zb2 (l.drop x.1):Int)] ∧
    a'={ tmps:=#[.slice A n c,undef,.slice none 0 0,.int .i64 0,.pointer (some ⟨w.heap.size,0,none⟩),.pointer (some ⟨Bx,0,none⟩),.slice A n c,.int .i64 (n:Int),.bool false,.slice A n c,.func (.func 114) #[] #[.pointer (some ⟨w.heap.size+1,0,none⟩)],zst A c l x.1,undef,undef,undef,undef,undef,undef,undef,undef,undef,undef],defers:=[] })
   (fun x a' s X Y row hs hg hrow=>by
    obtain ⟨Bx,h1,h2,h3⟩:=hs
    exact ⟨Bx,h1,(Own.from (zgi Bx 110 (fun (_:Unit)=>_)) _) () X Y row h2 hg hrow,h3⟩)
   ?assign ?body ?done ?stop
  case assign =>
   rintro q pre x W K ⟨⟨v,hv,hrow,_⟩,hbs,hB⟩ hK
   unfold zst
   gi_wp2
   have h2:=(show Boxed W (w.heap.size+1) 25 (.slice A n c) from hbs).lt
   exact hK _ _ ((KeepsOthers.alloc _ _).from _) (Kps.of_below ((Below.refl _ W).alloc (Nat.le_refl _) _) hB.size) ⟨⟨v,hv.alloc _,hrow.alloc _,trivial⟩,Row.alloc hbs _,hB.alloc hB.size _⟩ ⟨W.heap.size,by omega,heap_alloc_new W _,rfl⟩
  case body =>
   rintro q pre x a' W _ _ ⟨⟨v,hv,hrow,_⟩,hbs,hB⟩ ⟨Bx,hBx,bX,rfl⟩ hlt
   obtain ⟨a,ha⟩:=x
   dsimp only at bX ⊢
   unfold zst
   obtain ⟨d,hd⟩:∃ d,d=l.drop a:=⟨_,rfl⟩
   obtain ⟨k,hk⟩:∃ k,k=plen d:=⟨_,rfl⟩
   obtain ⟨t,ht⟩:∃ t,t=zb2 d:=⟨_,rfl⟩
   obtain ⟨p,hp⟩:∃ p,p=zit k t:=⟨_,rfl⟩
   rw [←hd,←hk,←ht] at bX ⊢
   have hdn:d≠[]:=by intro e;have h1:=congrArg List.length e;rw [hd,List.length_drop,List.length_nil] at h1;have:=HN.out;omega
   have hk1:1≤k∧k≤128:=⟨by rw [hk];exact zov hdn,by rw [hk];exact zow _⟩
   have ht1:t≤130:=by rw [ht];exact zp3 _
   have hkd:k≤d.length:=by rw [hk];exact (zh7 d).2.2
   have hp8:p < 256:=by rw [hp];unfold zit;split <;> omega
   have hpl:=zoy l pre
   obtain ⟨out,hout⟩:∃ out,out=ylay l pre:=⟨_,rfl⟩
   rw [←hout] at hrow hpl
   have HD:=Lib.hid hd
   have HK:=Lib.hid hk
   have HT:=Lib.hid ht
   have HPH:=Lib.hid hp
   have HV:=Lib.hid hv
   have HROW:=Lib.hid hrow
   have HBS:=Lib.hid hbs
   have HB:=Lib.hid hB
   have HBX:=Lib.hid bX
   have HOUT:=Lib.hid hout
   clear hd hk ht hp hv hrow hbs hB bX hout
   gi_wp2_with fail
   refine ze2 (by kernel_rfl) (by kernel_rfl) ?_
   refine zbJ 4 [.is v,.is (.agg #[.slice (A.map (·.add a)) k (c - a),.int .i64 (t:Int)]),.is (.int .u8 (p:Int)),.bytes [UInt8.ofNat p]] [some 12,some 13,some 14,some 15] (by kernel_rfl) (by kernel_rfl) (by kernel_rfl) rfl ⟨?_,?_,?_,?_,trivial⟩ ?_
   ·intro ρ W1 hb1 H
    exact zf rfl (H.old 4 _ (by kernel_rfl) rfl) Tryz.underlying25 rfl ((hb1.cell HV.out.lt).trans HV.out.cell) ⟨rfl,Below.refl _ _⟩
   ·intro ρ W1 hb1 H
    exact zL rfl (H.old 5 _ (by kernel_rfl) rfl) Tryz.underlying110 rfl (by kernel_rfl) (HBX.out.below hb1 HBX.out.lt) ⟨rfl,Below.refl _ _⟩
   ·intro ρ W1 hb1 H
    have e1:ρ (.tmp 13)=.agg #[.slice (A.map (·.add a)) k (c - a),.int .i64 (t:Int)]:=H.new 13 1 (by kernel_rfl)
    refine zj rfl (fun _ _=>by kernel_rfl) (H.func _) (args:=#[.agg #[.slice (A.map (·.add a)) k (c - a),.int .i64 (t:Int)]]) (by simp [e1]) ?_
    exact (zub _ k _ t W1 hk1.1 (by omega) (by omega)).mono fun _ _ h=>⟨_,h.1,by rw [←HPH.out];rfl,h.2⟩
   ·intro ρ W1 hb1 H
    have e1:ρ (.tmp 14)=.int .u8 (p:Int):=H.new 14 2 (by kernel_rfl)
    have e2:[UInt8.ofNat p].map bv=[.int .u8 (p:Int)]:=by simp [bv,Nat.mod_eq_of_lt hp8]
    refine zqE elemB rfl e1 rfl ⟨?_,(Below.refl _ _).alloc (Nat.le_refl _) _⟩
    have:=zqD W1 5 [UInt8.ofNat p] 1 rfl (by omega)
    rw [e2] at this
    exact this
   ·intro vs W1 hb1 hfs
    have f0:vs 0=v:=hfs 0 (by decide)
    have f1:vs 1=.agg #[.slice (A.map (·.add a)) k (c - a),.int .i64 (t:Int)]:=hfs 1 (by decide)
    have f2:vs 2=.int .u8 (p:Int):=hfs 2 (by decide)
    have f3:IsB [UInt8.ofNat p] (vs 3) W1:=hfs 3 (by decide)
    clear hfs
    simp only [zr,Nat.zero_add,Nat.reduceAdd,List.drop_succ_cons,List.drop_zero]
    rw [f0,f1,f2]
    obtain ⟨A3,c3,e3,h31,h32,h33,h34⟩:=f3
    rw [e3]
    clear f0 f1 f2 e3
    have hown1:=zdL HROW.out hb1
    have hB1:=HB.out.trans (hb1.mono HB.out.size)
    have hz1:=hB1.size
    have HB11:=Lib.hid hb1
    have hA3:A3=none→1=0:=by simpa using h31
    simp only [List.length_singleton]
    clear h31 h32 h33 hb1
    have hlen:out.length≤1000000:=by omega
    go_wp2_with (at_builtin;refine zk elemB rfl _ _ rfl w.heap.size _ _ _ _ _ _ ([UInt8.ofNat p].map bv) w rfl rfl hA3 (by simp) h34 (zbv _) hown1 hB1 hz1 (by omega) (by omega) ?_)
    intro v2 w2 hown2 hb2 hg2 _
    obtain ⟨pb1,pb2,pb3,pb4⟩:=Boxed.put (show Boxed W1 w.heap.size 25 v from Row.below HV.out HB11.out HV.out.lt) (by decide) hown1 hown2 hg2
    have pk:=Kps.append (T:=110) hown1 (Nat.le_refl _) (by decide) (Row.below HBS.out HB11.out (Row.lt HBS.out)) (by decide) hg2 hz1
    obtain ⟨B2,c2,rfl,_,_,_,_,_⟩:=zz hown2
    have hc1:=pb1.cell
    have hf1:=pb1.frozen
    have PB2:=Lib.hid pb2
    have PB3:=Lib.hid pb3
    have PB4:=Lib.hid pb4
    have PK:=Lib.hid pk
    have PB1:=Lib.hid pb1
    have HB2:=Lib.hid hb2
    clear pb2 pb3 pb4 pk pb1 hb2 hown2 hg2 hown1 hB1 hz1 h34 hA3
    go_wp2
    refine zcT ?_
    obtain ⟨w3,hw3⟩:∃ w3,w3=w2.setCell ⟨w.heap.size,0,none⟩ (.slice B2 (out.length+1) c2):=⟨_,rfl⟩
    have hrow3:=PB3.out
    have hv3:=PB2.out
    have hk3:KeepsOthers W w3:=by rw [hw3];exact (zgF HB11.out).trans PB4.out
    have hB3:Below w.heap.size w w3:=by rw [hw3];exact HB2.out.setCell (Nat.le_refl _) _
    have hkp3:Kps (w.heap.size+1) 110 w.heap.size W w3:=by rw [hw3];exact ((Kps.of_below HB11.out HB.out.size).trans PK.out).trans (Kps.set PB1.out (by decide) (by omega) (Nat.le_refl _) _)
    rw [←hw3] at hrow3 hv3 ⊢
    have hbx3:=hkp3.row HBX.out
    have hbs3:=hkp3.box HBS.out
    have hl3:Lies w3 (A.map (·.add a)) ((d.take k).map bv):=by
     have h1:=(hl.below hB3).drop (k:=a) (cap:=c) (by rw [List.length_map];have:=HN.out;omega)
     rw [if_neg (by omega)] at h1
     have h2:=h1.take k
     rw [←List.map_drop,←List.map_take,←HD.out] at h2
     exact h2
    have hz3:=hB3.size
    have hc3:=hv3.cell
    have hx3:=hbx3.cell 0
    simp only [List.getElem?_cons_zero] at hx3
    have hA4:A.map (·.add a)=none→k=0:=by
     intro h
     have:=hA (by simpa using h)
     omega
    have hdl:(d.take k).length=k:=by rw [List.length_take];omega
    have hdm:((d.take k).map bv).length=k:=by rw [List.length_map];exact hdl
    have HDM:=Lib.hid hdm
    have HDL:=Lib.hid hdl
    have HK3:=Lib.hid hk3
    have HB3:=Lib.hid hB3
    have HKP3:=Lib.hid hkp3
    have HV3:=Lib.hid hv3
    have HBS3:=Lib.hid hbs3
    clear hw3 hc1 hf1 hk3 hkp3 hv3 hbx3 hbs3 hdm hdl PB1 PB2 PB3 PB4 PK HB2 HB11
    gi_wp2_with (gi_at_builtin;refine zed (by kernel_rfl) ?_;refine zk elemB rfl _ _ rfl w.heap.size _ _ _ _ _ _ ((d.take k).map bv) w rfl rfl hA4 HDM.out hl3 (zbv _) hrow3 hB3 hz3 (by omega) (by omega) ?_)
    intro v4 w4 hown4 hb4 hg4 _
    obtain ⟨pb1,pb2,pb3,pb4⟩:=Boxed.put HV3.out (by decide) hrow3 hown4 hg4
    have pk:=Kps.append (T:=110) hrow3 (Nat.le_refl _) (by decide) HBS3.out (by decide) hg4 hz3
    obtain ⟨B4,c4,rfl,_,_,_,_,_⟩:=zz hown4
    have hc1:=pb1.cell
    have hf1:=pb1.frozen
    have hx:ylay l (pre ++ [⟨a,ha⟩])=out ++ (UInt8.ofNat p::d.take k):=by
     rw [zlM,←HOUT.out]
     unfold zfR
     rw [←HD.out,←HK.out,←HT.out,←HPH.out]
    have hx1:(ylay l (pre ++ [⟨a,ha⟩])).length=out.length+1+k:=by
     have:=HDL.out
     rw [hx,List.length_append,List.length_cons];omega
    have hx2:(ylay l (pre ++ [⟨a,ha⟩])).map bv=out.map bv ++ bv (UInt8.ofNat p)::(d.map bv).take k:=by
     rw [hx,List.map_append,List.map_cons,List.map_take]
    have hI:(∃ v,Boxed (w4.setCell ⟨w.heap.size,0,none⟩ (.slice B4 (out.length+1+k) c4)) w.heap.size 25 v∧(w4.setCell ⟨w.heap.size,0,none⟩ (.slice B4 (out.length+1+k) c4)).ownsRow w.heap.size 5 1 v (ylay l (pre ++ [⟨a,ha⟩])).length ((ylay l (pre ++ [⟨a,ha⟩])).map bv)∧True):=
     ⟨_,pb2,by rw [hx1,hx2];exact pb3,trivial⟩
    have HI:=Lib.hid hI
    have hkp5:Kps (w.heap.size+1) 110 w.heap.size W (w4.setCell ⟨w.heap.size,0,none⟩ (.slice B4 (out.length+1+k) c4)):=(HKP3.out.trans pk).trans (Kps.set pb1 (by decide) (by omega) (Nat.le_refl _) _)
    have HKP5:=Lib.hid hkp5
    have HKO:=Lib.hid (HK3.out.trans pb4)
    clear pb2 pb3 pb4 pk hown4 hg4 hrow3 hB3 hz3 hl3 hA4 hb4 hx hx1 hx2 hI hkp5 hc3 hx3 pb1
    go_wp2
    refine zcT ?_
    gi_wp2
    exact ⟨HKO.out.from _,HKP5.out,HI.out,HKP5.out.box HBS.out,HB.out.trans HKP5.out.1⟩
  case done =>
   rintro D xs W hD hch ⟨⟨v,hv,hrow,_⟩,hbs,hB⟩ hK
   have hend:ylay l xs=yput l:=by
    have:=zp5 HN.out.symm hch
    rw [List.drop_of_length_le (by have:=HN.out;omega),zt9,List.append_nil] at this
    exact this
   rw [hend] at hrow
   have hc:=hv.cell
   gi_wp2
   refine ⟨by simp,.inl ⟨_,_,rfl,run_takeDeferred hK,?_⟩⟩
   refine ⟨_,results_tmp2 rfl _ _ _,?_⟩
   rw [hE.out]
   exact ⟨v,rfl,zbw (ownsRow_putObj hrow _ hK rfl),hB.trans (belowK_b (w:=w) (Nat.le_refl _) W D _ _ (by simp at hD;omega) hK rfl rfl)⟩
  case stop =>
   rintro D c pre W _ _ h _
   exact h.elim
 ·have hE:Hid (zne l=([],3)):=Lib.hid (by unfold zne;rw [if_neg (by omega)])
  have hbi:(4096:Int) < (n:Int):=by omega
  clear hn hl hcm hA
  go_enter Tryz.func55,Tryz.ntmps55
  go_wp2
  go_ret2
  rw [hE.out]
  exact RetE.nil _ (Below.refl _ _)
end Go.Proofs.YtlibofmpnlfelaaGreatDoor
