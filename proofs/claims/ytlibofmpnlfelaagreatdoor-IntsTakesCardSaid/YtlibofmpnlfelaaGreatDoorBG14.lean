import Derived.Sort.Walk0
import Derived.Laws.Strings
import Derived.WalkKit
import Derived.Lib.Strings
import Derived.Lib.Slices
import Derived.Lib.Small
import Derived.Lib.Bytealg
import Derived.Test.YtlibofmpnlfelaaGreatDoorBG13
set_option maxHeartbeats 8000000
set_option maxRecDepth 100000
namespace Go.Proofs.YtlibofmpnlfelaaGreatDoor
open Go.RowKit Go.Shelf
attribute [local go_sem] Oper.semAt_some
def zji (l:List UInt8) (a:Nat):List UInt8:=(l.drop (a+1)).take (slen (sAt l a))
theorem zp6 {l:List UInt8} {a:Nat} (h:zbD l a):(zji l a).length=slen (sAt l a):=by
 obtain ⟨h1,h2⟩:=h
 unfold zji
 rw [List.length_take,List.length_drop,zlK h1]
 omega
def rep (p:List UInt8):Nat→List UInt8
 | 0=>[]
 | k+1=>rep p k ++ p
theorem zsw (p:List UInt8):∀ k,(rep p k).length=k*p.length
 | 0=>by simp [rep]
 | k+1=>by rw [rep,List.length_append,zsw p k,Nat.succ_mul]
theorem zve (p:List UInt8):rep p 1=p:=by simp [rep]
theorem zjj (x:UInt8):∀ k,rep [x] k=List.replicate k x
 | 0=>rfl
 | k+1=>by rw [rep,zjj x k,List.replicate_succ']
def zd9 {l:List UInt8} (xs:List {a:Nat // zbD l a}):List UInt8:=xs.flatMap fun x=>rep (zji l x.1) (zcq (sAt l x.1))
theorem zjk {l:List UInt8} (xs:List {a:Nat // zbD l a}) (x:{a:Nat // zbD l a}):zd9 (xs ++ [x])=zd9 xs ++ rep (zji l x.1) (zcq (sAt l x.1)):=by simp [zd9]
def spos {l:List UInt8} (xs:List {a:Nat // zbD l a}):Nat:=(xs.map fun x=>1+slen (sAt l x.1)).sum
theorem zlN {l:List UInt8} (xs:List {a:Nat // zbD l a}) (x:{a:Nat // zbD l a}):spos (xs ++ [x])=spos xs+(1+slen (sAt l x.1)):=by simp [spos]
theorem zjl {l:List UInt8} {xs:List {a:Nat // zbD l a}} {a:Nat} (h:Chain (·.1) (fun x=>1+slen (sAt l x.1)) xs a):spos xs=a:=by
 induction h with
 | nil=>rfl
 | snoc h x hx ih=>rw [zlN,ih]
theorem zsx {l:List UInt8}:∀ (xs:List {a:Nat // zbD l a}),spos xs≤129*xs.length
 | []=>by simp [spos]
 | x::xs=>by
  have h1:=zsx xs
  have h2:=(zh6 (sAt l x.1)).2
  have h3:spos (x::xs)=1+slen (sAt l x.1)+spos xs:=by simp [spos]
  rw [h3,List.length_cons]
  omega
def Few (M:Nat) {l:List UInt8} (xs:List {a:Nat // zbD l a}):Prop:=∀ ys zs,xs=ys ++ zs→zs≠[]→(zd9 ys).length < M
theorem Few.snoc {M:Nat} {l:List UInt8} {xs:List {a:Nat // zbD l a}} (h:Few M xs) (hl:(zd9 xs).length < M) (x:{a:Nat // zbD l a}):Few M (xs ++ [x]):=by
 intro ys zs he hz
 rcases List.eq_nil_or_concat zs with rfl | ⟨zs',z,rfl⟩
 ·exact absurd rfl hz
 ·rw [List.concat_eq_append,←List.append_assoc] at he
  have h1:=List.append_inj_left' he rfl
  by_cases h2:zs'=[]
  ·subst h2
   rw [List.append_nil] at h1
   rw [←h1];exact hl
  ·exact h ys zs' h1 h2
theorem Few.left {M:Nat} {l:List UInt8} {xs:List {a:Nat // zbD l a}} {x:{a:Nat // zbD l a}} (h:Few M (xs ++ [x])):Few M xs∧(zd9 xs).length < M:=
 ⟨fun ys zs he hz=>h ys (zs ++ [x]) (by rw [he,List.append_assoc]) (by simp),h xs [x] rfl (by simp)⟩
theorem zjm {l:List UInt8} {M:Nat} {xs:List {a:Nat // zbD l a}} {a:Nat} (h:Chain (·.1) (fun x=>1+slen (sAt l x.1)) xs a):Few M xs→YLeft l M a (zd9 xs):=by
 induction h with
 | nil=>exact fun _=>YLeft.start l M
 | snoc h x hx ih =>
  intro hf
  obtain ⟨hf1,hf2⟩:=hf.left
  have h1:=ih hf1
  obtain ⟨x,h3,h4⟩:=x
  dsimp only at hx
  subst hx
  rw [zjk]
  dsimp only
  unfold zji
  rw [zlK h3]
  by_cases h128:l[x].toNat < 128
  ·have e1:slen l[x]=1:=by unfold slen;rw [if_pos h128]
   have e2:zcq l[x]=l[x].toNat+3:=by unfold zcq;rw [if_pos h128]
   rw [e1] at h4
   have e3:(l.drop (x+1)).take 1=[l[x+1]]:=by rw [drop_at (by omega)];rfl
   rw [e1,e2,e3,zjj]
   exact h1.run hf2 (by omega) rfl h128
  ·have e1:slen l[x]=256 - l[x].toNat:=by unfold slen;rw [if_neg h128]
   have e2:zcq l[x]=1:=by unfold zcq;rw [if_neg h128]
   rw [e1] at h4
   rw [e1,e2,zve,←Nat.add_assoc]
   exact h1.list hf2 h3 rfl h128 (by omega)
theorem zud {l m:List UInt8} {M a:Nat} (h:YLeft l M a m) (hm:m.length < M) (ha:¬zbD l a) (hal:a≤l.length):zcg M l=none:=by
 by_cases h1:a < l.length
 ·by_cases h128:l[a].toNat < 128
  ·refine h.short hm ?_
   have e1:slen l[a]=1:=by unfold slen;rw [if_pos h128]
   have:¬a+1+1≤l.length:=fun h2=>ha ⟨h1,by rw [e1];exact h2⟩
   omega
  ·have e1:slen l[a]=256 - l[a].toNat:=by unfold slen;rw [if_neg h128]
   have:¬a+1+(256 - l[a].toNat)≤l.length:=fun h2=>ha ⟨h1,by rw [e1];exact h2⟩
   exact h.cut hm h1 rfl h128 (by omega)
 ·exact h.short hm (by omega)
theorem zsy (v:Value) (w:World) (hv:∃ A n c,v=.slice A n c) :
  Calls Tryz.prog 104 #[v] w (fun e w'=>e=.returned (.func (.func 127) #[] #[.pointer (some ⟨w.heap.size,0,none⟩)])∧w'=w.alloc (.cells #[v] 25)):=by
 obtain ⟨A,n,c,rfl⟩:=hv
 go_enter Tryz.func104,Tryz.ntmps104
 go_wp2
 go_ret
 exact ⟨rfl,rfl⟩
def zue (l:List UInt8) (M:Nat) (A:Option Addr) (n c g:Nat) (w:World) (pre:List {a:Nat // zbD l a}) (W:World):Prop:=
 (∃ v,Boxed W g 25 v∧W.ownsRow w.heap.size 5 1 v (zd9 pre).length ((zd9 pre).map bv)∧True) ∧
  ((Row W (g+1) 3 [.int .i64 (spos pre:Int)]∧Row W w.heap.size 3 [.int .i64 (M:Int)])∧(Row W (g+2) 25 [.slice A n c]∧Below w.heap.size w W))∧Few M pre
theorem zlO (l:List UInt8) (M:Nat) (A:Option Addr) (n c g B:Nat) (w:World) (hB:w.heap.size≤B):OwnFrom B (zue l M A n c g w):=
 OwnFrom.and (Own.from (holdsRow_own w.heap.size g 25 5 1 (fun pre=>(zd9 pre).length) (fun pre=>(zd9 pre).map bv) (fun _ _=>True)) _)
  (OwnFrom.and (OwnFrom.and (OwnFrom.and (Own.from (zgi (g+1) 3 (fun pre=>[.int .i64 (spos pre:Int)])) _) (Own.from (zgi w.heap.size 3 (fun _=>[.int .i64 (M:Int)])) _))
   (OwnFrom.and (Own.from (zgi (g+2) 25 (fun _=>[.slice A n c])) _) (ownFrom_below (Nat.le_refl _) hB))) (ownFrom_pure _ _))
def zv0 (l:List UInt8) (M:Nat) (A:Option Addr) (n c g:Nat) (w:World) (x:Code) (s:List {a:Nat // zbD l a}) (W:World):Prop:=
 x=.exit 0∧∃ pre y,s=pre ++ [y]∧M≤(zd9 pre).length∧zue l M A n c g w pre W
def zvf (g t:Nat) (M P:Int) (out piece:List UInt8) (w W:World) (v:Value) (wr:World):Prop:=
 ∃ (j:Nat) (u:Value),v=.int .i64 (j:Int)∧j≤t∧Boxed wr g 25 u∧wr.ownsRow w.heap.size 5 1 u (out ++ rep piece j).length ((out ++ rep piece j).map bv) ∧
  Row wr (g+1) 3 [.int .i64 P]∧Row wr w.heap.size 3 [.int .i64 M]∧KeepsOthers W wr∧Kps (g+2) 110 w.heap.size W wr
theorem zsz (l:List UInt8) (v:Value) (many:Int) (w:World) (hv:IsB l v w) (hb:l.length≤1000000) :
  Calls Tryz.prog 75 #[v,.int .i64 many] w (RetBB w (zgH l many)):=by
 obtain ⟨A,c,rfl,hA,hnc,hcm,hl⟩:=hv
 obtain ⟨n,hn⟩:∃ n,n=l.length:=⟨_,rfl⟩
 rw [←hn] at hA hnc hb ⊢
 have hci:(c:Int)≤9223372036854775807:=by unfold maxLen at hcm;omega
 by_cases h0:many < 0
 ·have hE:=Lib.hid (zeT (l:=l) (Or.inl h0))
  have d1:decide (many < 0)=true:=decide_eq_true h0
  clear hn hl hcm hA hnc
  go_enter Tryz.func75,Tryz.ntmps75
  go_wp2
  go_ret3
  rw [hE.out]
  exact RetBB.nil _ ((Below.refl _ _).alloc (Nat.le_refl _) _)
 ·have d1:decide (many < 0)=false:=decide_eq_false h0
  by_cases h4:4096 < many
  ·have hE:=Lib.hid (zeT (l:=l) (Or.inr h4))
   have d2:decide ((4096:Int) < many)=true:=decide_eq_true h4
   clear hn hl hcm hA hnc
   go_enter Tryz.func75,Tryz.ntmps75
   go_wp2
   go_ret3
   rw [hE.out]
   exact RetBB.nil _ ((Below.refl _ _).alloc (Nat.le_refl _) _)
  ·obtain ⟨M,rfl⟩:=Int.eq_ofNat_of_zero_le (show 0≤many by omega)
   have hM:M≤4096:=by omega
   have d2:decide ((4096:Int) < (M:Int))=false:=decide_eq_false (by omega)
   have HN:=Lib.hid hn
   have HS:=Lib.hid fun (W:World)=>zsy (.slice A n c) W ⟨_,_,_,rfl⟩
   have hW0:Below w.heap.size w (w.alloc (.cells #[.int .i64 (M:Int)] 3)):=(Below.refl _ _).alloc (Nat.le_refl _) _
   have hZ0:w.heap.size≤(w.alloc (.cells #[.int .i64 (M:Int)] 3)).heap.size:=hW0.size
   have hR0:Row (w.alloc (.cells #[.int .i64 (M:Int)] 3)) w.heap.size 3 [.int .i64 (M:Int)]:=heap_alloc_new w _
   refine (callsIn_wide (n:=9)).1 ?_
   refine callsIn_of_wp_marks Tryz.func75 rfl trivial ?_ rfl
   simp only [Tryz.ntmps75,List.size_toArray,List.length_cons,List.length_nil,Nat.reduceAdd,Nat.reduceSub,Array.replicate_succ,Array.replicate_zero,List.push_toArray,List.append_toArray,List.nil_append,List.cons_append]
   clear hn
   refine wpIn_wide.2 ?_
   have hZ1:w.heap.size+1≤(w.alloc (.cells #[.int .i64 (M:Int)] 3)).heap.size:=by simp
   go_wp2_with (refine zgu elemB rfl _ _ rfl .i64 .i64 (M:Int) M (w.heap.size+1) (w.alloc (.cells #[.int .i64 (M:Int)] 3)) rfl rfl rfl (by omega) (by omega) (Below.refl _ _) hZ1 ?_)
   intro w1 hown1 hb1 hz1
   have hm1:Row w1 w.heap.size 3 [.int .i64 (M:Int)]:=hR0.below hb1 (by omega)
   have hB1:Below w.heap.size w w1:=hW0.trans (hb1.mono (by omega))
   have hown2:w1.ownsRow w.heap.size 5 1 (.slice (some ⟨w.heap.size+1,0,none⟩) 0 M) 0 []:=zvr hown1 (by omega)
   obtain ⟨g,hg⟩:∃ g,g=w1.heap.size:=⟨_,rfl⟩
   have HG:=Lib.hid hg
   clear hown1 hb1 hW0 hZ0 hR0 hZ1
   go_wp2_with fail
   refine (HS.out _).mono ?_
   rintro e w' ⟨rfl,rfl⟩
   have bO:Boxed (((w1.alloc (.cells #[.slice (some ⟨w.heap.size+1,0,none⟩) 0 M] 25)).alloc (.cells #[.int .i64 0] 3)).alloc (.cells #[.slice A n c] 25)) w1.heap.size 25 (.slice (some ⟨w.heap.size+1,0,none⟩) 0 M):=((Boxed.new w1 _ _).alloc _).alloc _
   have bP:Row (((w1.alloc (.cells #[.slice (some ⟨w.heap.size+1,0,none⟩) 0 M] 25)).alloc (.cells #[.int .i64 0] 3)).alloc (.cells #[.slice A n c] 25)) (w1.heap.size+1) 3 [.int .i64 0]:=by
    have h:=(show Row ((w1.alloc (.cells #[.slice (some ⟨w.heap.size+1,0,none⟩) 0 M] 25)).alloc (.cells #[.int .i64 0] 3)) (w1.alloc (.cells #[.slice (some ⟨w.heap.size+1,0,none⟩) 0 M] 25)).heap.size 3 [.int .i64 0] from heap_alloc_new _ _).alloc (.cells #[.slice A n c] 25)
    rwa [World.size_alloc] at h
   have bN:Row (((w1.alloc (.cells #[.slice (some ⟨w.heap.size+1,0,none⟩) 0 M] 25)).alloc (.cells #[.int .i64 0] 3)).alloc (.cells #[.slice A n c] 25)) (w1.heap.size+2) 25 [.slice A n c]:=by
    have h:=(show Row (((w1.alloc (.cells #[.slice (some ⟨w.heap.size+1,0,none⟩) 0 M] 25)).alloc (.cells #[.int .i64 0] 3)).alloc (.cells #[.slice A n c] 25)) ((w1.alloc (.cells #[.slice (some ⟨w.heap.size+1,0,none⟩) 0 M] 25)).alloc (.cells #[.int .i64 0] 3)).heap.size 25 [.slice A n c] from heap_alloc_new _ _)
    rwa [World.size_alloc,World.size_alloc] at h
   have hb3:Below w1.heap.size w1 (((w1.alloc (.cells #[.slice (some ⟨w.heap.size+1,0,none⟩) 0 M] 25)).alloc (.cells #[.int .i64 0] 3)).alloc (.cells #[.slice A n c] 25)):=(((Below.refl _ w1).alloc (Nat.le_refl _) _).alloc (by simp) _).alloc (by simp;omega) _
   have hm3:Row (((w1.alloc (.cells #[.slice (some ⟨w.heap.size+1,0,none⟩) 0 M] 25)).alloc (.cells #[.int .i64 0] 3)).alloc (.cells #[.slice A n c] 25)) w.heap.size 3 [.int .i64 (M:Int)]:=hm1.below hb3 hm1.lt
   have hB3:Below w.heap.size w (((w1.alloc (.cells #[.slice (some ⟨w.heap.size+1,0,none⟩) 0 M] 25)).alloc (.cells #[.int .i64 0] 3)).alloc (.cells #[.slice A n c] 25)):=hB1.trans (hb3.mono hB1.size)
   have hown3:=zdL hown2 hb3
   have hwg:w.heap.size+2≤w1.heap.size:=by
    have:=(zz hown2)
    have h:=hz1
    have h2:=hown2.lt
    have h3:=(h2 (w.heap.size+1) rfl).2
    omega
   obtain ⟨w3,hw3⟩:∃ w3,w3=(((w1.alloc (.cells #[.slice (some ⟨w.heap.size+1,0,none⟩) 0 M] 25)).alloc (.cells #[.int .i64 0] 3)).alloc (.cells #[.slice A n c] 25)):=⟨_,rfl⟩
   have hs3:w3.heap.size=w1.heap.size+3:=by rw [hw3];simp
   rw [←hw3] at bO bP bN hb3 hm3 hB3 hown3 ⊢
   clear hw3 hb3 hown2 hm1 hB1
   go_wp2_with fail
   refine (wpIn_wide (n:=9)).1 ?_
   refine wpIn_rangeFunc_ownH rfl (by omega) (gf:=127) (lb:=#[.pointer (some ⟨w1.heap.size+2,0,none⟩)]) rfl trivial (enters_of Tryz.func127 (by kernel_rfl) rfl)
    (znk l A n c (w1.heap.size+2) w _ HN.out.symm hb hnc hcm hl hB3 bN 8 (by omega)) (fun h k=>Kps.trans h k) (Kps.turn (by omega) (by omega)) (Below.refl _ _) (fun _=>rfl)
    (zue l M A n c w1.heap.size w) (zv0 l M A n c w1.heap.size w) (zlO l M A n c w1.heap.size _ w (by omega))
    (fun _ s X Y row ⟨h1,pre,y,h2,h3,h4⟩ hg hr=>⟨h1,pre,y,h2,h3,zlO l M A n c w1.heap.size _ w (by omega) pre X Y row h4 hg hr⟩)
    ⟨⟨_,bO,hown3,trivial⟩,⟨⟨bP,hm3⟩,bN,hB3⟩,fun ys zs he hz=>by simp at he;exact absurd he.2 hz⟩
    (fun x a' W=>∃ Bx,Row W Bx 110 [.slice (addrAt A (x.1+1)) (slen (sAt l x.1)) (c - x.1 - 1),.int .i64 (zcq (sAt l x.1):Int)]∧a'={ tmps:=#[.slice A n c,.int .i64 (M:Int),undef,.pointer (some ⟨w.heap.size,0,none⟩),.slice none 0 0,.slice none 0 0,.int .i64 0,.pointer (some ⟨w1.heap.size,0,none⟩),.pointer (some ⟨w1.heap.size+1,0,none⟩),.pointer (some ⟨Bx,0,none⟩),.int .i64 (M:Int),.bool false,.bool false,.int .i64 (M:Int),.bool false,.bool false,.int .i64 (M:Int),.slice (some ⟨w.heap.size+1,0,none⟩) 0 M,.slice A n c,.func (.func 127) #[] #[.pointer (some ⟨w1.heap.size+2,0,none⟩)],zlL A c l x.1,undef,undef,undef,undef,undef,undef,undef,undef,undef,undef,undef,undef,undef,undef,undef,undef,undef,undef,undef,undef,undef,undef,undef,undef,undef,undef],defers:=[] })
    (fun x a' s X Y row hs hg hrow=>by
     obtain ⟨Bx,h2,h3⟩:=hs
     exact ⟨Bx,(Own.from (zgi Bx 110 (fun (_:Unit)=>_)) _) () X Y row h2 hg hrow,h3⟩)
    ?assign ?body ?done ?stop
   case assign =>
    rintro q pre x W K ⟨⟨v,hv,hrow,_⟩,⟨⟨hp,hm⟩,hbs,hB⟩,hf⟩ hK
    unfold zlL
    gi_wp2
    exact hK _ _ ((KeepsOthers.alloc _ _).from _) (Kps.of_below ((Below.refl _ W).alloc (Nat.le_refl _) _) hB.size) ⟨⟨v,hv.alloc _,hrow.alloc _,trivial⟩,⟨⟨Row.alloc hp _,Row.alloc hm _⟩,Row.alloc hbs _,hB.alloc hB.size _⟩,hf⟩ ⟨W.heap.size,heap_alloc_new W _,rfl⟩
   case body =>
    rintro q pre x a' W _ _ ⟨⟨v,hv,hrow,_⟩,⟨⟨hp,hm⟩,hbs,hB⟩,hf⟩ ⟨Bx,bX,rfl⟩ hlt
    have hI:zue l M A n c w1.heap.size w pre W:=⟨⟨v,hv,hrow,trivial⟩,⟨⟨hp,hm⟩,hbs,hB⟩,hf⟩
    have HI:=Lib.hid hI
    obtain ⟨a,hS⟩:=x
    dsimp only at bX ⊢
    unfold zlL
    obtain ⟨B1,hB1⟩:∃ B1,B1=addrAt A (a+1):=⟨_,rfl⟩
    obtain ⟨k,hk⟩:∃ k,k=slen (sAt l a):=⟨_,rfl⟩
    obtain ⟨t,ht⟩:∃ t,t=zcq (sAt l a):=⟨_,rfl⟩
    obtain ⟨P,hP⟩:∃ P,P=spos pre:=⟨_,rfl⟩
    obtain ⟨out,hout⟩:∃ out,out=zd9 pre:=⟨_,rfl⟩
    obtain ⟨piece,hpc⟩:∃ piece,piece=zji l a:=⟨_,rfl⟩
    rw [←hB1,←hk,←ht] at bX ⊢
    rw [←hP] at hp
    rw [←hout] at hrow
    have hal:=hS.2
    rw [←zlK hS.1,←hk] at hal
    have hk1:1≤k∧k≤128:=by rw [hk];exact zh6 _
    have ht1:1≤t∧t≤130:=by rw [ht];exact zlH _
    have hkt:k*t≤130:=by rw [hk,ht];exact znh _
    have hpl:piece.length=k:=by rw [hpc,hk];exact zp6 hS
    have hPle:P≤129*pre.length:=by rw [hP];exact zsx pre
    obtain ⟨L,hL⟩:∃ L,L=out.length:=⟨_,rfl⟩
    rw [←hL] at hrow
    obtain ⟨B,cb,rfl,_,_,_,_,_⟩:=zz hrow
    have HL:=Lib.hid hL
    have HOUT:=Lib.hid hout
    have HPC:=Lib.hid hpc
    have HP:=Lib.hid hP
    have HK:=Lib.hid hk
    have HT:=Lib.hid ht
    have HB1:=Lib.hid hB1
    have HF:=Lib.hid hf
    have hc1:=hv.cell
    have hc2:=hm.cell 0
    simp only [List.getElem?_cons_zero] at hc2
    clear hL hout hpc hP hk ht hB1 hI hf
    by_cases hML:M≤L
    ·have d1:decide (M≤L)=true:=decide_eq_true hML
     have hMo:M≤(zd9 pre).length:=by rw [←HOUT.out,←HL.out];exact hML
     have HMO:=Lib.hid hMo
     clear hMo bX hv hm hp hbs hB hrow hpl
     gi_wp2
     exact ⟨KeepsFrom.refl _ _,rfl,pre,⟨a,hS⟩,rfl,HMO.out,HI.out⟩
    ·have d1:decide (M≤L)=false:=decide_eq_false hML
     have hLM:L < M:=by omega
     have hx1:=bX.cell 1
     simp only [List.getElem?_cons_succ,List.getElem?_cons_zero] at hx1
     have hst:zvf w1.heap.size t (M:Int) (P:Int) out piece w W (.int .i64 0) W:=
      ⟨0,_,rfl,by omega,hv,by rw [rep,List.append_nil,←HL.out];exact hrow,hp,hm,KeepsOthers.refl _,Kps.refl _ _ _ _⟩
     have HST:=Lib.hid hst
     have HBX:=Lib.hid bX
     have HBS:=Lib.hid hbs
     have HB:=Lib.hid hB
     have HV:=Lib.hid hv
     have HPL:=Lib.hid hpl
     clear hv hm hp hbs hB hrow hst bX hpl
     gi_wp2
     gi_loopw [27] (zvf w1.heap.size t (M:Int) (P:Int) out piece w W) (fun v _=>t - (intOf v).toNat)
     case atStart=>exact HST.out
     case round =>
      obtain ⟨j,u,rfl,hj,hbo,hown,hpo,hmo,hko,hkp⟩:=hrel
      have hjk:j*k≤130:=by
       have h1:=Nat.mul_le_mul_right k hj
       rw [Nat.mul_comm t k] at h1
       omega
      obtain ⟨Lj,hLj⟩:∃ Lj,Lj=(out ++ rep piece j).length:=⟨_,rfl⟩
      have hLjb:Lj≤5000:=by rw [hLj,List.length_append,zsw,←HL.out,HPL.out];omega
      have hBr:Below w.heap.size w wr:=HB.out.trans hkp.1
      have hbr:=hkp.row HBX.out
      have hbsr:=hkp.box HBS.out
      have hco:=hbo.cell
      have hx0:=hbr.cell 0
      simp only [List.getElem?_cons_zero] at hx0
      by_cases hjt:j < t
      ·have hjti:(j:Int) < (t:Int):=by omega
       have hlr:Lies wr B1 (piece.map bv):=by
        have h1:=(hl.below hBr).drop (k:=a+1) (cap:=c) (by rw [List.length_map];have:=HN.out;omega)
        have h0:=HN.out
        rw [if_neg (by omega)] at h1
        have h2:=h1.take k
        rw [←List.map_drop,←List.map_take,HK.out] at h2
        rw [HPC.out,HB1.out]
        exact h2
       have hA1:B1=none→k=0:=by
        intro h
        rw [HB1.out] at h
        have:=hA (by simpa [addrAt] using h)
        have:=HN.out
        omega
       have hpm:(piece.map bv).length=k:=by rw [List.length_map];exact HPL.out
       have HPM:=Lib.hid hpm
       have hrow4:(out ++ rep piece (j+1)).length=Lj+k:=by rw [rep,←List.append_assoc,List.length_append,←hLj,HPL.out]
       have hmap4:(out ++ rep piece (j+1)).map bv=(out ++ rep piece j).map bv ++ piece.map bv:=by rw [rep,←List.append_assoc,List.map_append]
       rw [←hLj] at hown
       obtain ⟨ml,hml⟩:∃ ml,ml=(out ++ rep piece j).map bv:=⟨_,rfl⟩
       rw [←hml] at hown hmap4
       obtain ⟨Bu,cu,rfl,_,_,_,_,_⟩:=zz hown
       have HR4:=Lib.hid hrow4
       have HM4:=Lib.hid hmap4
       have HKO:=Lib.hid hko
       have HKP:=Lib.hid hkp
       have HBO:=Lib.hid hbo
       have HBSR:=Lib.hid hbsr
       have HPO:=Lib.hid hpo
       have HMO:=Lib.hid hmo
       clear hLj hrow4 hmap4 hml hpm hko hkp hbo hbr hbsr hpo hmo
       have hz:=hBr.size
       gi_wp2_with (gi_at_builtin;refine zed (by kernel_rfl) ?_;refine zk elemB rfl _ _ rfl w.heap.size _ _ _ _ _ _ (piece.map bv) w rfl rfl hA1 HPM.out hlr (zbv _) hown hBr hz (by omega) (by omega) ?_)
       intro v4 w4 hown4 hb4 hg4 _
       obtain ⟨pb1,pb2,pb3,pb4⟩:=Boxed.put HBO.out (by decide) hown hown4 hg4
       have pk:=Kps.append (T:=110) hown (Nat.le_refl _) (by decide) HBSR.out (by decide) hg4 hz
       have pp:=(Row.kept HPO.out (by decide) hown hg4).far (p:=⟨w1.heap.size,0,none⟩) (show w1.heap.size+1≠w1.heap.size by omega) v4
       have pm:=(Row.kept HMO.out (by decide) hown hg4).far (p:=⟨w1.heap.size,0,none⟩) (show w.heap.size≠w1.heap.size by omega) v4
       obtain ⟨B4,c4,rfl,_,_,_,_,_⟩:=zz hown4
       have hcw:=pb1.cell
       have hfw:=pb1.frozen
       have hrel:zvf w1.heap.size t (M:Int) (P:Int) out piece w W (.int .i64 ((j+1:Nat):Int)) (w4.setCell ⟨w1.heap.size,0,none⟩ (.slice B4 (Lj+k) c4)):=
        ⟨j+1,_,rfl,hjt,pb2,by rw [HR4.out,HM4.out];exact pb3,pp,pm,HKO.out.trans pb4,(HKP.out.trans pk).trans (Kps.set pb1 (by decide) (by omega) (by omega) _)⟩
       have HREL:=Lib.hid hrel
       clear pb1 pb2 pb3 pb4 pk pp pm hown4 hg4 hown hBr hz hlr hA1 hb4 hrel hco hx0
       go_wp2
       refine zcT ?_
       gi_wp2
       go_roundw
       case rel=>exact HREL.out
       case measure=>simp [intOf];omega
      ·obtain rfl:j=t:=by omega
       have hjti:¬(j:Int) < (j:Int):=by omega
       have hcont:zd9 (pre ++ [⟨a,hS⟩])=out ++ rep piece j:=by rw [zjk,←HOUT.out,HPC.out,HT.out]
       have hpos:(spos (pre ++ [⟨a,hS⟩]):Int)=(P:Int)+((1+k:Nat):Int):=by rw [zlN,←HP.out,HK.out];exact Int.natCast_add _ _
       have hfew:Few M (pre ++ [⟨a,hS⟩]):=HF.out.snoc (by rw [←HOUT.out,←HL.out];exact hLM) ⟨a,hS⟩
       have HCT:=Lib.hid hcont
       have HPS:=Lib.hid hpos
       have HFW:=Lib.hid hfew
       have HKO:=Lib.hid hko
       have HKP:=Lib.hid hkp
       have HBO:=Lib.hid hbo
       have HBSR:=Lib.hid hbsr
       have HPO:=Lib.hid hpo
       have HMO:=Lib.hid hmo
       have HBR:=Lib.hid hbr
       have HOWN:=Lib.hid hown
       have HBW:=Lib.hid hBr
       clear hcont hpos hfew hko hkp hbo hbsr hpo hmo hbr hown hBr hLj hco hx0
       gi_wp2_with fail
       refine ze2 (by kernel_rfl) (by kernel_rfl) ?_
       refine zbJ 4 [.is (.int .i64 (P:Int)),.is (.agg #[.slice B1 k (c - a - 1),.int .i64 (j:Int)]),.is (.int .i64 ((1+k:Nat):Int)),.is (.int .i64 ((P:Int)+((1+k:Nat):Int)))] [some 34,some 35,some 36,some 37] (by kernel_rfl) (by kernel_rfl) (by kernel_rfl) rfl ⟨?_,?_,?_,?_,trivial⟩ ?_
       ·intro ρ W1 hb1 H
        exact zf rfl (H.old 8 _ (by kernel_rfl) rfl) Tryz.underlying3 rfl ((HPO.out.below hb1 HPO.out.lt).cell 0) ⟨rfl,Below.refl _ _⟩
       ·intro ρ W1 hb1 H
        exact zL rfl (H.old 9 _ (by kernel_rfl) rfl) Tryz.underlying110 rfl (by kernel_rfl) (HBR.out.below hb1 HBR.out.lt) ⟨rfl,Below.refl _ _⟩
       ·intro ρ W1 hb1 H
        have e1:ρ (.tmp 35)=.agg #[.slice B1 k (c - a - 1),.int .i64 (j:Int)]:=H.new 35 1 (by kernel_rfl)
        refine zj rfl (fun _ _=>by kernel_rfl) (H.func _) (args:=#[.agg #[.slice B1 k (c - a - 1),.int .i64 (j:Int)]]) (by simp [e1]) ?_
        exact (zlF _ k _ (.int .i64 (j:Int)) W1 (by omega)).mono fun _ _ h=>⟨_,h.1,rfl,h.2⟩
       ·intro ρ W1 hb1 H
        have e1:ρ (.tmp 34)=.int .i64 (P:Int):=H.new 34 0 (by kernel_rfl)
        have e2:ρ (.tmp 36)=.int .i64 ((1+k:Nat):Int):=H.new 36 2 (by kernel_rfl)
        exact zb4 rfl e1 e2 (by omega) (by omega) ⟨rfl,Below.refl _ _⟩
       ·intro vs W1 hb1 hfs
        have f0:vs 0=.int .i64 (P:Int):=hfs 0 (by decide)
        have f1:vs 1=.agg #[.slice B1 k (c - a - 1),.int .i64 (j:Int)]:=hfs 1 (by decide)
        have f2:vs 2=.int .i64 ((1+k:Nat):Int):=hfs 2 (by decide)
        have f3:vs 3=.int .i64 ((P:Int)+((1+k:Nat):Int)):=hfs 3 (by decide)
        clear hfs
        simp only [zr,Nat.zero_add,Nat.reduceAdd,List.drop_succ_cons,List.drop_zero]
        rw [f0,f1,f2,f3]
        obtain ⟨S,hS2⟩:∃ S:Nat,(P:Int)+((1+k:Nat):Int)=(S:Int):=⟨P+(1+k),by omega⟩
        rw [hS2]
        have hpo1:=HPO.out.below hb1 HPO.out.lt
        have hcp:=hpo1.cell 0
        have hfp:=hpo1.free 0
        simp only [List.getElem?_cons_zero] at hcp
        have HPO1:=Lib.hid hpo1
        have HS2:=Lib.hid hS2
        have HB11:=Lib.hid hb1
        clear f0 f1 f2 f3 hS2 hpo1 hb1
        go_wp2
        refine zcT ?_
        have hu:=Kps.set (Bs:=w1.heap.size+2) (T:=110) (n₀:=w.heap.size) (show Boxed W1 (w1.heap.size+1) 3 (.int .i64 (P:Int)) from HPO1.out) (by decide) (by omega) (by omega) (.int .i64 (S:Int))
        have hown5:=(zdL HOWN.out HB11.out).kept (grownBy_setCell' W1 (w1.heap.size+1) (.int .i64 (S:Int))) (.inr ((show Boxed W1 (w1.heap.size+1) 3 (.int .i64 (P:Int)) from HPO1.out).not_row (by decide) (zdL HOWN.out HB11.out)).symm)
        have hkps:Kps (w1.heap.size+2) 110 w.heap.size W (W1.setCell ⟨w1.heap.size+1,0,none⟩ (.int .i64 (S:Int))):=(HKP.out.trans (Kps.of_below HB11.out HBW.out.size)).trans hu
        have HU:=Lib.hid hkps
        have HOWN5:=Lib.hid hown5
        clear hu hown5 hkps hcp hfp
        gi_wp2
        refine ⟨((HKO.out.trans (zgF HB11.out)).trans (KeepsOthers.setCell _ _ _)).from _,HU.out,⟨_,(Row.below HBO.out HB11.out (Row.lt HBO.out)).far (p:=⟨w1.heap.size+1,0,none⟩) (show w1.heap.size≠w1.heap.size+1 by omega) _,?_,trivial⟩,⟨⟨?_,(HMO.out.below HB11.out HMO.out.lt).far (p:=⟨w1.heap.size+1,0,none⟩) (show w.heap.size≠w1.heap.size+1 by omega) _⟩,HU.out.box HBS.out,HB.out.trans HU.out.1⟩,HFW.out⟩
        ·rw [HCT.out];exact HOWN5.out
        ·have h:=HPO1.out.set_ 0 (.int .i64 (S:Int))
         rw [HPS.out,HS2.out]
         exact h
   case done =>
    rintro D xs W hD ⟨a,hch,hal,hns⟩ ⟨⟨v,hv,hrow,_⟩,⟨⟨hp,hm⟩,hbs,hB⟩,hf⟩ hK
    have hleft:=zjm hch hf
    have hres:(zd9 xs).length < M→zcg M l=none:=fun h=>zud hleft h hns hal
    clear hns
    have hsp:spos xs=a:=zjl hch
    rw [hsp] at hp
    obtain ⟨m,hmm⟩:∃ m,m=zd9 xs:=⟨_,rfl⟩
    have hrow:=hrow
    rw [←hmm] at hleft hres hrow
    have hal':a≤n:=by have:=HN.out;omega
    obtain ⟨L,hL⟩:∃ L,L=m.length:=⟨_,rfl⟩
    rw [←hL] at hrow hres
    obtain ⟨B,cb,rfl,_,_,_,_,_⟩:=zz hrow
    have HB:=Lib.hid hB
    have HV:=Lib.hid hv
    have HP:=Lib.hid hp
    have HROW:=Lib.hid hrow
    have HLM:=Lib.hid hL
    have HKD:=Lib.hid hK
    have hc1:=hv.cell
    have hc2:=hm.cell 0
    simp only [List.getElem?_cons_zero] at hc2
    have hDw:w3.heap.size≤D:=hD
    by_cases hLM:L=M
    ·subst hLM
     have hE:=Lib.hid (zda hM (p:=m) (q:=l.drop a) (by rw [hL];rw [hL] at hleft;exact hleft.done))
     obtain ⟨v6,hv6,hi6⟩:=zbm (P:=Tryz.prog) (w:=W) elemB (k:=a) hal' hnc hcm HN.out.symm (hl.below hB) hA
     have HV6:=Lib.hid hv6
     have HI6:=Lib.hid hi6
     have d1:((L:Int) != (L:Int))=false:=by simp
     have d2:((L:Int) == (L:Int))=true:=by simp
     clear hmm hleft hres hv hm hp hbs hB hrow hL hK hD hv6 hi6
     go_wp2
     refine wp_region_list [.is (.slice B L cb),.is (.slice A n c),.is (.int .i64 (a:Int)),.is v6,.bytes (l.drop a),.is (.slice B L cb),.bytes (l.drop a),.is (.int .i64 0)] [some 42,some 43,some 44,some 45,some 46,some 4,some 5,some 6] (by kernel_rfl) (by kernel_rfl) (by kernel_rfl) rfl ⟨?_,?_,?_,?_,?_,?_,?_,?_,trivial⟩ ?_
     ·intro ρ W1 hb1 H
      exact zf rfl (H.old 7 _ (by kernel_rfl) rfl) Tryz.underlying25 rfl ((hb1.cell HV.out.lt).trans HV.out.cell) ⟨rfl,Below.refl _ _⟩
     ·intro ρ W1 hb1 H
      exact zd rfl (H.old 0 _ (by kernel_rfl) rfl) ⟨rfl,Below.refl _ _⟩
     ·intro ρ W1 hb1 H
      exact zf rfl (H.old 8 _ (by kernel_rfl) rfl) Tryz.underlying3 rfl ((HP.out.below hb1 HP.out.lt).cell 0) ⟨rfl,Below.refl _ _⟩
     ·intro ρ W1 hb1 H
      have e1:ρ (.tmp 43)=.slice A n c:=H.new 43 1 (by kernel_rfl)
      have e2:ρ (.tmp 44)=.int .i64 (a:Int):=H.new 44 2 (by kernel_rfl)
      exact zI rfl e1 (lo':=some (.int .i64 (a:Int))) (by simp [e2]) (hi':=none) rfl (mx':=none) rfl (HV6.out W1) ⟨rfl,Below.refl _ _⟩
     ·intro ρ W1 hb1 H
      have e1:ρ (.tmp 45)=v6:=H.new 45 3 (by kernel_rfl)
      exact zix elemB rfl (H.const _) e1 (HI6.out.below hb1) (by rw [List.length_drop];have:=HN.out;omega) fun v' w' h1 h2=>⟨h1,h2⟩
     ·intro ρ W1 hb1 H
      exact ze rfl (H.new 42 0 (by kernel_rfl)) ⟨rfl,Below.refl _ _⟩
     ·intro ρ W1 hb1 H
      have e1:IsB (l.drop a) (ρ (.tmp 46)) W1:=H.new 46 4 (by kernel_rfl)
      exact ze rfl rfl ⟨e1,Below.refl _ _⟩
     ·intro ρ W1 hb1 H
      exact ze rfl (H.const _) ⟨rfl,Below.refl _ _⟩
     ·intro vs W1 hb1 hfs
      have f5:vs 5=.slice B L cb:=hfs 5 (by decide)
      have f6:IsB (l.drop a) (vs 6) W1:=hfs 6 (by decide)
      have f7:vs 7=.int .i64 0:=hfs 7 (by decide)
      clear hfs
      simp only [zr,Nat.zero_add,Nat.reduceAdd]
      rw [f5,f7]
      generalize vs 0=z0
      generalize vs 1=z1
      generalize vs 2=z2
      generalize vs 3=z3
      generalize vs 4=z4
      revert f6
      generalize vs 6=z6
      intro f6
      have F6:=Lib.hid f6
      have HB11:=Lib.hid hb1
      have hDlt:=(Array.getElem?_eq_some_iff.1 HKD.out).1
      have hKD1:W1.heap[D]? = some (.deferred (some [])):=(hb1.block D hDlt).trans HKD.out
      have HKD1:=Lib.hid hKD1
      clear f5 f6 f7 hb1 hKD1
      go_wp2
      go_simp
      refine ⟨by simp,.inl ⟨_,_,rfl,run_takeDeferred HKD1.out,?_⟩⟩
      refine ⟨_,results_tmp3 rfl _ _ _,?_⟩
      rw [hE.out]
      exact ⟨_,_,rfl,zg3 (zbw (zdL HROW.out HB11.out)) _ HKD1.out rfl,zg3 F6.out _ HKD1.out rfl,(HB.out.trans (HB11.out.mono HB.out.size)).trans (belowK_b (w:=w) (Nat.le_refl _) W1 D _ _ (by omega) HKD1.out rfl rfl)⟩
    ·have hE:=Lib.hid (zch hM (l:=l) (by
      rcases Nat.lt_or_ge L M with h | h
      ·exact hres h
      ·exact hleft.over (by omega)))
     have d1:((L:Int) != (M:Int))=true:=by simp;omega
     have d2:((L:Int) == (M:Int))=false:=by simp;omega
     clear hmm hleft hres hv hm hp hbs hB hrow hL hK hD
     go_wp2
     refine ⟨by simp,.inl ⟨_,_,rfl,run_takeDeferred HKD.out,?_⟩⟩
     refine ⟨_,results_tmp3 rfl _ _ _,?_⟩
     rw [hE.out]
     exact RetBB.nil _ (HB.out.trans (belowK_b (w:=w) (Nat.le_refl _) W D _ _ (by omega) HKD.out rfl rfl))
   case stop =>
    rintro D x s W hD ⟨pre',y',hs',hch⟩ ⟨rfl,pre,y,hs,hML,⟨v,hv,hrow,_⟩,⟨⟨hp,hm⟩,hbs,hB⟩,hf⟩ hK
    have hpp:pre'=pre:=List.append_inj_left' (hs'.symm.trans hs) rfl
    subst hpp
    have hal:=Nat.le_of_lt y'.2.1
    have hleft:=zjm hch hf
    have hres:(zd9 pre').length < M→zcg M l=none:=fun h=>absurd h (by omega)
    obtain ⟨a,ha⟩:∃ a,a=y'.1:=⟨_,rfl⟩
    rw [←ha] at hch hal hleft
    clear hs hs' hML ha
    have hsp:spos pre'=a:=zjl hch
    rw [hsp] at hp
    obtain ⟨m,hmm⟩:∃ m,m=zd9 pre':=⟨_,rfl⟩
    have hrow:=hrow
    rw [←hmm] at hleft hres hrow
    have hal':a≤n:=by have:=HN.out;omega
    obtain ⟨L,hL⟩:∃ L,L=m.length:=⟨_,rfl⟩
    rw [←hL] at hrow hres
    obtain ⟨B,cb,rfl,_,_,_,_,_⟩:=zz hrow
    have HB:=Lib.hid hB
    have HV:=Lib.hid hv
    have HP:=Lib.hid hp
    have HROW:=Lib.hid hrow
    have HLM:=Lib.hid hL
    have HKD:=Lib.hid hK
    have hc1:=hv.cell
    have hc2:=hm.cell 0
    simp only [List.getElem?_cons_zero] at hc2
    have hDw:w3.heap.size≤D:=hD
    by_cases hLM:L=M
    ·subst hLM
     have hE:=Lib.hid (zda hM (p:=m) (q:=l.drop a) (by rw [hL];rw [hL] at hleft;exact hleft.done))
     obtain ⟨v6,hv6,hi6⟩:=zbm (P:=Tryz.prog) (w:=W) elemB (k:=a) hal' hnc hcm HN.out.symm (hl.below hB) hA
     have HV6:=Lib.hid hv6
     have HI6:=Lib.hid hi6
     have d1:((L:Int) != (L:Int))=false:=by simp
     have d2:((L:Int) == (L:Int))=true:=by simp
     clear hmm hleft hres hv hm hp hbs hB hrow hL hK hD hv6 hi6
     gi_wp2
     go_wp2
     refine wp_region_list [.is (.slice B L cb),.is (.slice A n c),.is (.int .i64 (a:Int)),.is v6,.bytes (l.drop a),.is (.slice B L cb),.bytes (l.drop a),.is (.int .i64 0)] [some 42,some 43,some 44,some 45,some 46,some 4,some 5,some 6] (by kernel_rfl) (by kernel_rfl) (by kernel_rfl) rfl ⟨?_,?_,?_,?_,?_,?_,?_,?_,trivial⟩ ?_
     ·intro ρ W1 hb1 H
      exact zf rfl (H.old 7 _ (by kernel_rfl) rfl) Tryz.underlying25 rfl ((hb1.cell HV.out.lt).trans HV.out.cell) ⟨rfl,Below.refl _ _⟩
     ·intro ρ W1 hb1 H
      exact zd rfl (H.old 0 _ (by kernel_rfl) rfl) ⟨rfl,Below.refl _ _⟩
     ·intro ρ W1 hb1 H
      exact zf rfl (H.old 8 _ (by kernel_rfl) rfl) Tryz.underlying3 rfl ((HP.out.below hb1 HP.out.lt).cell 0) ⟨rfl,Below.refl _ _⟩
     ·intro ρ W1 hb1 H
      have e1:ρ (.tmp 43)=.slice A n c:=H.new 43 1 (by kernel_rfl)
      have e2:ρ (.tmp 44)=.int .i64 (a:Int):=H.new 44 2 (by kernel_rfl)
      exact zI rfl e1 (lo':=some (.int .i64 (a:Int))) (by simp [e2]) (hi':=none) rfl (mx':=none) rfl (HV6.out W1) ⟨rfl,Below.refl _ _⟩
     ·intro ρ W1 hb1 H
      have e1:ρ (.tmp 45)=v6:=H.new 45 3 (by kernel_rfl)
      exact zix elemB rfl (H.const _) e1 (HI6.out.below hb1) (by rw [List.length_drop];have:=HN.out;omega) fun v' w' h1 h2=>⟨h1,h2⟩
     ·intro ρ W1 hb1 H
      exact ze rfl (H.new 42 0 (by kernel_rfl)) ⟨rfl,Below.refl _ _⟩
     ·intro ρ W1 hb1 H
      have e1:IsB (l.drop a) (ρ (.tmp 46)) W1:=H.new 46 4 (by kernel_rfl)
      exact ze rfl rfl ⟨e1,Below.refl _ _⟩
     ·intro ρ W1 hb1 H
      exact ze rfl (H.const _) ⟨rfl,Below.refl _ _⟩
     ·intro vs W1 hb1 hfs
      have f5:vs 5=.slice B L cb:=hfs 5 (by decide)
      have f6:IsB (l.drop a) (vs 6) W1:=hfs 6 (by decide)
      have f7:vs 7=.int .i64 0:=hfs 7 (by decide)
      clear hfs
      simp only [zr,Nat.zero_add,Nat.reduceAdd]
      rw [f5,f7]
      generalize vs 0=z0
      generalize vs 1=z1
      generalize vs 2=z2
      generalize vs 3=z3
      generalize vs 4=z4
      revert f6
      generalize vs 6=z6
      intro f6
      have F6:=Lib.hid f6
      have HB11:=Lib.hid hb1
      have hDlt:=(Array.getElem?_eq_some_iff.1 HKD.out).1
      have hKD1:W1.heap[D]? = some (.deferred (some [])):=(hb1.block D hDlt).trans HKD.out
      have HKD1:=Lib.hid hKD1
      clear f5 f6 f7 hb1 hKD1
      go_wp2
      go_simp
      refine ⟨by simp,.inl ⟨_,_,rfl,run_takeDeferred HKD1.out,?_⟩⟩
      refine ⟨_,results_tmp3 rfl _ _ _,?_⟩
      rw [hE.out]
      exact ⟨_,_,rfl,zg3 (zbw (zdL HROW.out HB11.out)) _ HKD1.out rfl,zg3 F6.out _ HKD1.out rfl,(HB.out.trans (HB11.out.mono HB.out.size)).trans (belowK_b (w:=w) (Nat.le_refl _) W1 D _ _ (by omega) HKD1.out rfl rfl)⟩
    ·have hE:=Lib.hid (zch hM (l:=l) (by
      rcases Nat.lt_or_ge L M with h | h
      ·exact hres h
      ·exact hleft.over (by omega)))
     have d1:((L:Int) != (M:Int))=true:=by simp;omega
     have d2:((L:Int) == (M:Int))=false:=by simp;omega
     clear hmm hleft hres hv hm hp hbs hB hrow hL hK hD
     gi_wp2
     go_wp2
     refine ⟨by simp,.inl ⟨_,_,rfl,run_takeDeferred HKD.out,?_⟩⟩
     refine ⟨_,results_tmp3 rfl _ _ _,?_⟩
     rw [hE.out]
     exact RetBB.nil _ (HB.out.trans (belowK_b (w:=w) (Nat.le_refl _) W D _ _ (by omega) HKD.out rfl rfl))
end Go.Proofs.YtlibofmpnlfelaaGreatDoor
namespace Go.Proofs.YtlibofmpnlfelaaGreatDoor
def qn (l:List Bool):List Nat:=l.map Bool.toNat
theorem zlP (l:List Bool):(qn l).length=l.length:=by simp [qn]
theorem zv1 (l:List Bool):∀ x∈qn l,x < 2 ^ 1:=by
 intro x hx
 obtain ⟨b,_,rfl⟩:=List.mem_map.1 hx
 cases b <;> simp
theorem zvg (l:List Bool) {k:Nat} (h:k < l.length):qn (l.take (k+1))=qn (l.take k) ++ [l[k].toNat]:=by
 rw [List.take_succ_eq_append_getElem h,qn,qn,List.map_append];rfl
def zj9 (l:List Bool):List UInt8:=zbx (qn l) 1
theorem zsA (l:List Bool):(zj9 l).length=(l.length+7) / 8:=by rw [zj9,zcK,zlP,zT];simp
def zcl (x:List UInt8) (M:Nat):List Bool:=(zcj (bval x) (8*x.length) 1 M).map (· == 1)
theorem zbH (x:List UInt8) (M:Nat):(zcl x M).length=M:=by simp [zcl,zbF]
theorem zp7 (x:List UInt8) (M:Nat):zcl x (M+1)=zcl x M ++ [zbs (bval x) (8*x.length) M 1 == 1]:=by
 rw [zcl,zeC,List.map_append,Nat.one_mul];rfl
def zka (l:List Bool):List UInt8 × Int:=if l.length≤4096 then (yput (zj9 l),0) else ([],3)
def ze3 (l:List UInt8) (M:Nat):List Bool × List UInt8 × Int:=
 match zcg ((M+7) / 8) l with
 | none=>([],[],2)
 | some p=>if bval p.1 % 2 ^ (8*p.1.length - M)=0 then (zcl p.1 M,p.2,0) else ([],[],2)
def zct (l:List UInt8) (many:Int):List Bool × List UInt8 × Int:=if many < 0∨4096 < many then ([],[],1) else ze3 l many.toNat
theorem zlQ {l:List UInt8} {M:Nat} (h:M≤4096):zct l M=ze3 l M:=by unfold zct;rw [if_neg (by omega),Int.toNat_natCast]
theorem zeU {l:List UInt8} {many:Int} (h:many < 0∨4096 < many):zct l many=([],[],1):=by unfold zct;rw [if_pos h]
theorem zh8 {l:List UInt8} {M:Nat} (h:zcg ((M+7) / 8) l=none):ze3 l M=([],[],2):=by unfold ze3;rw [h]
theorem zjn {l x r:List UInt8} {M:Nat} (h:zcg ((M+7) / 8) l=some (x,r)) (hs:bval x % 2 ^ (8*x.length - M)=0):ze3 l M=(zcl x M,r,0):=by unfold ze3;rw [h];simp only [];rw [if_pos hs]
theorem zlR {l x r:List UInt8} {M:Nat} (h:zcg ((M+7) / 8) l=some (x,r)) (hs:bval x % 2 ^ (8*x.length - M)≠0):ze3 l M=([],[],2):=by unfold ze3;rw [h];simp only [];rw [if_neg hs]
def zdM (l:List Bool):Nat:=(l.filter fun b=>b).length
theorem zsB (l:List Bool):zdM l≤l.length:=List.length_filter_le _ _
theorem znm (l:List Bool) {k:Nat} (h:k < l.length):zdM (l.take (k+1))=zdM (l.take k)+l[k].toNat:=by
 rw [List.take_succ_eq_append_getElem h,zdM,zdM,List.filter_append,List.length_append]
 cases l[k] <;> rfl
theorem zsC {x:List UInt8} {M k:Nat} (hM:M≤k) (hk:k≤8*x.length) (h:∀ i,M≤i→i < k→zbs (bval x) (8*x.length) i 1=0):zbs (bval x) (8*x.length) M (k - M)=0:=by
 induction k with
 | zero=>rw [show 0 - M=0 by omega];exact zeB _ _ _
 | succ k ih =>
  by_cases hMk:M=k+1
  ·subst hMk;rw [Nat.sub_self];exact zeB _ _ _
  ·have h1:=ih (by omega) (by omega) fun i h1 h2=>h i h1 (by omega)
   have h2:=zhi (B:=bval x) (M:=8*x.length) (at_:=M) (a:=k - M) (n:=1) (by omega)
   rw [h1,show M+(k - M)=k by omega,h k (by omega) (by omega),show k - M+1=k+1 - M by omega] at h2
   omega
theorem zlS {B N M k:Nat} (h:B % 2 ^ (N - M)=0) (hM:M≤k) (hk:k < N):zbs B N k 1=0:=by
 unfold zbs
 obtain ⟨t,rfl⟩:∃ t,B=2 ^ (N - M)*t:=⟨B / 2 ^ (N - M),by have:=Nat.div_add_mod B (2 ^ (N - M));rw [h] at this;omega⟩
 rw [show N - M=(N - (k+1))+((k - M)+1) by omega,Nat.pow_add,Nat.mul_assoc,Nat.mul_div_cancel_left _ (Nat.two_pow_pos _),Nat.pow_succ,Nat.pow_one,Nat.mul_comm (2 ^ (k - M)),Nat.mul_assoc,Nat.mul_mod_right]
theorem zlT {x:List UInt8} {M:Nat} (hM:M≤8*x.length) (h:∀ i,M≤i→i < 8*x.length→zbs (bval x) (8*x.length) i 1=0):bval x % 2 ^ (8*x.length - M)=0:=by
 have h1:=zsC hM (Nat.le_refl _) h
 rw [zhj hM] at h1
 exact h1
end Go.Proofs.YtlibofmpnlfelaaGreatDoor
namespace Go.Proofs.YtlibofmpnlfelaaGreatDoor
open Go.RowKit
def RetLB (w:World) (p:List Bool × List UInt8 × Int) (e:Ending) (w':World):Prop:=
 ∃ u v,e=.returned (.tuple #[u,v,.int .i64 p.2.2])∧IsV Value.bool p.1 u w'∧IsB p.2.1 v w'∧Below w.heap.size w w'
theorem RetLB.nil {w w':World} (n:Int) (hb:Below w.heap.size w w'):RetLB w ([],[],n) (.returned (.tuple #[.slice none 0 0,.slice none 0 0,.int .i64 n])) w':=⟨_,_,rfl,zdW _ _,zcu _,hb⟩
def RetLBO (w:World) (p:List Bool × List UInt8 × Int) (e:Ending) (w':World):Prop:=
 ∃ u v,e=.returned (.tuple #[u,v,.int .i64 p.2.2])∧OwnV Value.bool 4 w p.1 u w'∧IsB p.2.1 v w'∧Below w.heap.size w w'
theorem RetLBO.nil {w w':World} (n:Int) (hb:Below w.heap.size w w'):RetLBO w ([],[],n) (.returned (.tuple #[.slice none 0 0,.slice none 0 0,.int .i64 n])) w':=⟨_,_,rfl,OwnV.nil _ _ _ _,zcu _,hb⟩
theorem RetLBO.lb {w w':World} {p:List Bool × List UInt8 × Int} {e:Ending} (h:RetLBO w p e w'):RetLB w p e w':=by
 obtain ⟨u,v,h1,h2,h3,h4⟩:=h
 exact ⟨u,v,h1,h2.isV,h3,h4⟩
theorem zvh (y:Nat) (h:y < 256):bits .and .u8 (y:Int) 1=((y % 2:Nat):Int):=by
 have:=u8_and_nat y 1 h (by omega)
 rw [nat_mask1] at this
 exact this
def zlU (x:List UInt8) (M:Nat) (w:World) (v i:Value) (wr:World):Prop:=
 ∃ k:Nat,k≤8*x.length∧i=.int .i64 (k:Int)∧wr.ownsRow w.heap.size 4 1 v (min k M) ((zcl x (min k M)).map Value.bool)∧(∀ j,M≤j→j < k→zbs (bval x) (8*x.length) j 1=0)∧Below w.heap.size w wr∧w.heap.size≤wr.heap.size
theorem zp8 (l:List UInt8) (v:Value) (many:Int) (w:World) (hv:IsB l v w) (hb:l.length≤1000000) :
  Calls Tryz.prog 28 #[v,.int .i64 many] w (RetLBO w (zct l many)):=by
 by_cases h0:many < 0
 ·have hE:=Lib.hid (zeU (l:=l) (Or.inl h0))
  have d1:decide (many < 0)=true:=decide_eq_true h0
  go_enter Tryz.func28,Tryz.ntmps28
  go_wp2
  go_ret3
  rw [hE.out]
  exact RetLBO.nil _ (Below.refl _ _)
 ·have d1:decide (many < 0)=false:=decide_eq_false h0
  by_cases h4:4096 < many
  ·have hE:=Lib.hid (zeU (l:=l) (Or.inr h4))
   have d2:decide ((4096:Int) < many)=true:=decide_eq_true h4
   go_enter Tryz.func28,Tryz.ntmps28
   go_wp2
   go_ret3
   rw [hE.out]
   exact RetLBO.nil _ (Below.refl _ _)
  ·obtain ⟨M,rfl⟩:=Int.eq_ofNat_of_zero_le (show 0≤many by omega)
   have hM:M≤4096:=by omega
   have d2:decide ((4096:Int) < (M:Int))=false:=decide_eq_false (by omega)
   rw [zlQ hM]
   obtain ⟨m,hm⟩:∃ m,m=(M+7) / 8:=⟨_,rfl⟩
   have hmi:((M:Int)+7) / 8=(m:Int):=by omega
   have hm5:m≤4096:=by omega
   have hM8:M≤8*m:=by omega
   have HR:=Lib.hid (zp1 l v (m:Int) w hv hb)
   have HMm:=Lib.hid hm
   clear hv hm
   cases hy:zcg m l with
   | none =>
    have hR:=HR.out
    rw [zch hm5 hy] at hR
    have HR2:=Lib.hid hR
    have hE:=Lib.hid (zh8 (l:=l) (M:=M) (by rw [←HMm.out];exact hy))
    clear hR hy
    go_enter Tryz.func28,Tryz.ntmps28
    go_wp2_with fail
    refine HR2.out.mono ?_
    rintro e w2 ⟨u2,v2,rfl,_,_,hb2⟩
    have HB2:=Lib.hid hb2
    clear hb2
    go_wp2
    go_ret3
    rw [hE.out]
    exact RetLBO.nil _ HB2.out
   | some p =>
    obtain ⟨x,r⟩:=p
    have hR:=HR.out
    rw [zda hm5 hy] at hR
    have HR2:=Lib.hid hR
    have HY:=Lib.hid hy
    have hxm:=(zlB hy).1
    have HX:=Lib.hid hxm
    clear hR hy hxm
    go_enter Tryz.func28,Tryz.ntmps28
    go_wp2_with fail
    refine HR2.out.mono ?_
    rintro e w2 ⟨u2,v2,rfl,hu2,hv2,hb2⟩
    have HU2:=Lib.hid hu2
    have HV2:=Lib.hid hv2
    have HB2:=Lib.hid hb2
    obtain ⟨Ax,cx,hux,_,_,_,_⟩:=hu2
    have hux2:u2=.slice Ax m cx:=by rw [hux];simp only [HX.out]
    subst hux2
    have hown0:(w2.alloc (.cells #[] 4)).ownsRow w2.heap.size 4 1 (.slice (some ⟨w2.heap.size,0,none⟩) 0 0) 0 []:=World.ownsRow_made w2 #[] 0 (Nat.le_refl _) (by unfold maxLen;omega) (by simp)
    have hbA2:Below w2.heap.size w2 (w2.alloc (.cells #[] 4)):=(Below.refl _ _).alloc (Nat.le_refl _) _
    have hst:zlU x M w2 (.slice (some ⟨w2.heap.size,0,none⟩) 0 0) (.int .i64 0) (w2.alloc (.cells #[] 4)):=⟨0,by omega,rfl,by simpa [zcl,zcj] using hown0,fun j _ h=>by omega,hbA2,hbA2.size⟩
    have HST:=Lib.hid hst
    clear hux hv2 hb2 hown0 hbA2 hst
    go_wp2
    go_loopw [10,11] (zlU x M w2) (fun _ i _=>8*m - (intOf i).toNat)
    case atStart=>exact HST.out
    case round =>
     obtain ⟨k,hk,rfl,hown,hz,hbk,hzk⟩:=hrel
     have HZ:=Lib.hid hz
     have hkm:k≤8*m:=by have:=HX.out;omega
     clear hz hk
     by_cases hlt:k < 8*m
     ·have hlti:(k:Int) < 8*(m:Int):=by omega
      obtain ⟨q,hq⟩:∃ q,q=k / 8:=⟨_,rfl⟩
      obtain ⟨e,he⟩:∃ e,e=k % 8:=⟨_,rfl⟩
      obtain ⟨r',hr'⟩:∃ r',r'=8 - k % 8:=⟨_,rfl⟩
      obtain ⟨d,hd⟩:∃ d,d=r' - 1:=⟨_,rfl⟩
      obtain ⟨hqx,htb⟩:=zgP (l:=x) (m:=m) (n:=1) hq hr' hd HX.out (by omega) (by omega) (by omega)
      obtain ⟨ad,e1,_,hcell⟩:=IsV.at (f:=bv) (l:=x) (isB_iff.1 (HU2.out.below hbk)) hqx
      subst e1
      obtain ⟨B,hB⟩:∃ B:Nat,B=x[q].toNat:=⟨_,rfl⟩
      have hB8:B < 256:=by rw [hB];exact UInt8.toNat_lt _
      have hcx:wr.cell? (ad.add q)=some (.int .u8 (B:Int)):=by rw [hcell,hB];rfl
      rw [←hB] at htb
      have hqi:(k:Int) / 8=(q:Int):=by omega
      have hei:(k:Int) % 8=(e:Int):=by omega
      have hdi:(7:Int) - (e:Int)=(d:Int):=by omega
      have hd8:d < 8:=by omega
      have hqm:(q:Int) < (m:Int):=by omega
      obtain ⟨β,hβ⟩:∃ β,β=zbs (bval x) (8*m) k 1:=⟨_,rfl⟩
      rw [←hβ] at htb
      obtain ⟨S,hS⟩:∃ S,S=B / 2 ^ d:=⟨_,rfl⟩
      have hsh:(B:Int) / 2 ^ d=(S:Int):=by rw [hS];simp
      have hS8:S < 256:=by rw [hS];exact Nat.lt_of_le_of_lt (Nat.div_le_self _ _) hB8
      have hand:=zvh S hS8
      rw [←hS] at htb
      rw [show S % 2=β by rw [←htb]] at hand
      have hβ2:β < 2:=by rw [hβ];exact zfp _ _ _ _
      have HBe:=Lib.hid hβ
      have hnext:∀ j,M≤j→j < k+1→(k < M∨β=0)→zbs (bval x) (8*x.length) j 1=0:=by
       intro j h1 h2 h3
       rcases Nat.lt_or_ge j k with h4 | h4
       ·exact HZ.out j h1 h4
       ·obtain rfl:j=k:=by omega
        rcases h3 with h3 | h3
        ·omega
        ·rw [HX.out,←HBe.out,h3]
      have HNx:=Lib.hid hnext
      have hqb:=zp7 x k
      rw [HX.out,←HBe.out] at hqb
      have HQb:=Lib.hid hqb
      clear hq he hr' hd hB hβ hS htb hcell hnext hqb hqx
      by_cases hkM:k < M
      ·have hkMi:(k:Int) < (M:Int):=by omega
       have e0:min k M=k:=by omega
       rw [e0] at hown
       clear e0
       rcases (show β=0∨β=1 by omega) with rfl | rfl
       ·go_wp2_with (at_builtin;refine zQ zoV rfl _ _ rfl w2.heap.size _ _ _ (.bool false) wr w2 rfl rfl rfl rfl hown hbk hzk (by omega) (by omega) ?_)
        intro v5 w5 hown5 hb5 _ _
        have hown6:w5.ownsRow w2.heap.size 4 1 v5 (min (k+1) M) ((zcl x (min (k+1) M)).map Value.bool):=by
         rw [show min (k+1) M=k+1 by omega,HQb.out,List.map_append]
         exact hown5
        clear hown5 hown
        go_wp2
        go_roundw
        case rel=>exact ⟨k+1,by have:=HX.out;omega,by go_num,hown6,fun j h1 h2=>HNx.out j h1 h2 (.inl hkM),hb5,hb5.size⟩
        case measure=>simp [intOf];omega
       ·go_wp2_with (at_builtin;refine zQ zoV rfl _ _ rfl w2.heap.size _ _ _ (.bool true) wr w2 rfl rfl rfl rfl hown hbk hzk (by omega) (by omega) ?_)
        intro v5 w5 hown5 hb5 _ _
        have hown6:w5.ownsRow w2.heap.size 4 1 v5 (min (k+1) M) ((zcl x (min (k+1) M)).map Value.bool):=by
         rw [show min (k+1) M=k+1 by omega,HQb.out,List.map_append]
         exact hown5
        clear hown5 hown
        go_wp2
        go_roundw
        case rel=>exact ⟨k+1,by have:=HX.out;omega,by go_num,hown6,fun j h1 h2=>HNx.out j h1 h2 (.inl hkM),hb5,hb5.size⟩
        case measure=>simp [intOf];omega
      ·have hkMi:¬(k:Int) < (M:Int):=by omega
       rcases (show β=0∨β=1 by omega) with rfl | rfl
       ·have hown6:=hown
        rw [show min k M=min (k+1) M by omega] at hown6
        have HO6:=Lib.hid hown6
        clear hown hown6
        go_wp2
        go_roundw
        case rel=>exact ⟨k+1,by have:=HX.out;omega,by go_num,HO6.out,fun j h1 h2=>HNx.out j h1 h2 (.inr rfl),hbk,hzk⟩
        case measure=>simp [intOf];omega
       ·have hne:bval x % 2 ^ (8*x.length - M)≠0:=by
         intro h
         have:=zlS h (show M≤k by omega) (by rw [HX.out];exact hlt)
         rw [HX.out,←HBe.out] at this
         omega
        have hE:=Lib.hid (zlR (l:=l) (M:=M) (by rw [←HMm.out];exact HY.out) hne)
        clear hne
        go_wp2
        go_ret3
        rw [hE.out]
        exact RetLBO.nil _ (za HB2.out hbk)
     ·obtain rfl:k=8*m:=by omega
      have hs0:bval x % 2 ^ (8*x.length - M)=0:=zlT (by rw [HX.out];exact hM8) fun i h1 h2=>HZ.out i h1 (by rw [HX.out] at h2;exact h2)
      have hE:=Lib.hid (zjn (l:=l) (M:=M) (by rw [←HMm.out];exact HY.out) hs0)
      have hlti:¬((8*m:Nat):Int) < 8*(m:Int):=by omega
      rw [show min (8*m) M=M by omega] at hown
      have HO:=Lib.hid (show OwnV Value.bool 4 w (zcl x M) _ _ from OwnV.base HB2.out.size ⟨_,hown⟩)
      have HV:=Lib.hid (HV2.out.below hbk)
      have HBk:=Lib.hid hbk
      clear hs0 hown hbk
      go_wp2
      go_ret3
      rw [hE.out]
      exact ⟨_,_,rfl,HO.out,HV.out,za HB2.out HBk.out⟩
theorem zh9 (n m:Nat) (w:World) (hn:n≤100000) (hm:m=(n+7) / 8):Calls Tryz.prog 57 #[.int .i64 (n:Int)] w fun e w'=>e=.returned (.int .i64 (m:Int))∧w=w':=by
 have hmi:((n:Int)+7) / 8=(m:Int):=by omega
 have hmj:((n:Int)+8 - 1) / 8=(m:Int):=by omega
 have HM:=Lib.hid hm
 clear hm
 go_enter Tryz.func57,Tryz.ntmps57
 go_wp2
 go_ret
 exact ⟨zu (by omega),rfl⟩
def zgk (l:List Bool):Nat:=pval 1 (qn (l.take 8))*2 ^ (8 - min 8 l.length)
theorem znn (l:List Bool):pval 1 (qn l) < 2 ^ l.length:=by
 have:=zjB (w:=1) (l:=qn l) (zv1 l)
 rwa [zlP,Nat.one_mul] at this
theorem zoz (l:List Bool):zgk l < 256:=by
 have h:=znn (l.take 8)
 rw [List.length_take] at h
 unfold zgk
 calc _ < 2 ^ min 8 l.length*2 ^ (8 - min 8 l.length):=Nat.mul_lt_mul_of_pos_right h (Nat.two_pow_pos _)
  _=256:=by rw [←Nat.pow_add,show min 8 l.length+(8 - min 8 l.length)=8 by omega]
def zsD (l:List Bool) (n:Nat) (w:World) (c i:Value) (wr:World):Prop:=
 ∃ k C:Nat,k≤n∧i=.int .i64 (k:Int)∧c=.int .u8 (C:Int)∧C=pval 1 (qn (l.take k))*2 ^ (8 - k)∧C < 256∧wr=w
theorem zp9 (l:List Bool) (v:Value) (w:World) (hl:IsV Value.bool l v w) :
  Calls Tryz.prog 59 #[v] w fun e w'=>e=.returned (.int .u8 (zgk l:Int))∧w=w':=by
 have HLv:=Lib.hid hl
 obtain ⟨A,n,c,rfl⟩:=hl.shape
 obtain ⟨hn,_,hnc,hcm,_⟩:=hl.parts
 obtain ⟨k0,hk0⟩:∃ k,k=min 8 n:=⟨_,rfl⟩
 have hk8:k0≤8:=by omega
 have hkn:k0≤n:=by omega
 have hmin:∀ (ts:Array TypeId) (t:TypeId) (W:World),(Builtin.min_ ts t #[.int .i64 (n:Int),.int .i64 8]).run Tryz.prog W=.ok (.int .i64 (k0:Int)) W:=fun ts t W=>by
  rw [run_min_int2]
  congr 2
  split <;> omega
 have HN:=Lib.hid hn
 have HK:=Lib.hid hk0
 clear hl hn hk0 hcm
 go_enter Tryz.func59,Tryz.ntmps59
 go_wp2
 go_loopw [3,8] (zsD l k0 w) (fun _ i _=>k0 - (intOf i).toNat)
 case atStart=>exact ⟨0,0,by omega,rfl,rfl,by simp [pval,qn],by omega,rfl⟩
 case round =>
  obtain ⟨k,C,hk,rfl,rfl,hC,hC8,rfl⟩:=hrel
  have HC:=Lib.hid hC
  clear hC
  by_cases hlt:k < k0
  ·have hkl:k < l.length:=by have:=HN.out;omega
   have hkn':k < n:=by omega
   obtain ⟨ad,e1,_,hcell⟩:=HLv.out.at hkl
   subst e1
   have hs:=zvg l hkl
   have HS:=Lib.hid hs
   clear hs
   have hk8':k < 8:=by omega
   obtain ⟨D,hD⟩:∃ D,D=2 ^ (7 - k):=⟨_,rfl⟩
   have hsh:(128:Int) / 2 ^ k=(D:Int):=by rw [zqK k hk8',hD]
   have h2:2 ^ (8 - k)=2*2 ^ (7 - k):=by rw [show 8 - k=(7 - k)+1 by omega,Nat.pow_succ,Nat.mul_comm]
   have hV:=znn (l.take k)
   rw [List.length_take,Nat.min_eq_left (by omega)] at hV
   have hCD:C+D < 256:=by
    rw [HC.out,hD,h2]
    have h3:(pval 1 (qn (l.take k))+1)*(2*2 ^ (7 - k))≤2 ^ k*(2*2 ^ (7 - k)):=Nat.mul_le_mul_right _ hV
    rw [←h2,←Nat.pow_add,show k+(8 - k)=8 by omega,h2,Nat.add_mul] at h3
    have:=Nat.two_pow_pos (7 - k)
    omega
   have hor:bits .or .u8 (C:Int) (D:Int)=((C+D:Nat):Int):=by
    refine zqC (8 - k) C D ?_ ?_ hCD
    ·rw [HC.out];exact Nat.mul_mod_left _ _
    ·rw [hD,h2];have:=Nat.two_pow_pos (7 - k);omega
   obtain ⟨E,hE⟩:∃ E,E=C+D:=⟨_,rfl⟩
   rw [←hE] at hor
   have HD:=Lib.hid hD
   have HE:=Lib.hid hE
   clear hD h2 hV hCD hE
   cases hx:l[k] with
   | true =>
    rw [hx] at hcell HS
    clear hx
    have hrel:E=pval 1 (qn (l.take (k+1)))*2 ^ (8 - (k+1)):=by
     rw [HE.out,HC.out,HD.out,HS.out,zej,show 8 - k=(7 - k)+1 by omega,show 8 - (k+1)=7 - k by omega,Nat.pow_succ,Nat.pow_one,Nat.add_mul]
     simp only [Bool.toNat_true,Nat.one_mul,Nat.mul_assoc,Nat.mul_comm,Nat.mul_left_comm]
    have hE8:E < 256:=by
     have h3:=znn (l.take (k+1))
     rw [List.length_take,Nat.min_eq_left (by omega)] at h3
     rw [hrel]
     calc _ < 2 ^ (k+1)*2 ^ (8 - (k+1)):=Nat.mul_lt_mul_of_pos_right h3 (Nat.two_pow_pos _)
      _=256:=by rw [←Nat.pow_add,show k+1+(8 - (k+1))=8 by omega]
    have HRel:=Lib.hid hrel
    clear hrel
    go_wp2
    go_roundw
    case rel=>exact ⟨k+1,E,by omega,by go_num,rfl,HRel.out,hE8,rfl⟩
    case measure=>simp [intOf];omega
   | false =>
    rw [hx] at hcell HS
    clear hx
    have hrel:C=pval 1 (qn (l.take (k+1)))*2 ^ (8 - (k+1)):=by
     rw [HC.out,HS.out,zej,show 8 - k=(7 - k)+1 by omega,show 8 - (k+1)=7 - k by omega,Nat.pow_succ,Nat.pow_one]
     simp only [Bool.toNat_false,Nat.add_zero,Nat.mul_assoc,Nat.mul_comm,Nat.mul_left_comm]
    have HRel:=Lib.hid hrel
    clear hrel
    go_wp2
    go_roundw
    case rel=>exact ⟨k+1,C,by omega,by go_num,rfl,HRel.out,hC8,rfl⟩
    case measure=>simp [intOf];omega
  ·obtain rfl:k=k0:=by omega
   have hE:C=zgk l:=by
    unfold zgk
    have h1:=HK.out
    rw [HN.out,←h1,HC.out]
    congr 3
    rcases Nat.lt_or_ge n 8 with h | h
    ·rw [List.take_of_length_le (by have:=HN.out;omega),List.take_of_length_le (by have:=HN.out;omega)]
    ·rw [show k=8 by omega]
   have HQ:=Lib.hid hE
   clear hE
   go_wp2
   go_ret
   exact ⟨zu (by rw [HQ.out]),rfl⟩
theorem zvi (B d D:Nat) (hB:B < 256) (hd:d < 8) (hD:D=2 ^ d):(bits .and .u8 (B:Int) (D:Int) != 0)=(B / 2 ^ d % 2 ^ 1 == 1):=by
 have h2:2 ^ d≤2 ^ 7:=Nat.pow_le_pow_right (by omega) (by omega)
 rw [u8_and_nat B D hB (by omega),hD,nat_bit,show (2:Nat) ^ 1=2 from rfl]
 have hp:2 ^ d≠0:=Nat.ne_of_gt (Nat.two_pow_pos d)
 generalize 2 ^ d=X at *
 rcases Nat.mod_two_eq_zero_or_one (B / X) with h | h
 ·rw [h];simp
 ·rw [h,Nat.one_mul]
  have h3:(X:Int)≠0:=by omega
  simpa using h3
theorem zsE (x:List UInt8) (v:Value) (i:Nat) (w:World) (hx:IsB x v w) (hi:i < 8*x.length) (hb:x.length≤1000000) :
  Calls Tryz.prog 78 #[v,.int .i64 (i:Int)] w fun e w'=>e=.returned (.bool (zbs (bval x) (8*x.length) i 1 == 1))∧Below w.heap.size w w':=by
 obtain ⟨A,n,c,rfl⟩:=IsV.shape (f:=bv) hx
 obtain ⟨hn,_,hnc,hcm,_⟩:=IsV.parts (f:=bv) hx
 obtain ⟨q,hq⟩:∃ q,q=i / 8:=⟨_,rfl⟩
 obtain ⟨e,he⟩:∃ e,e=i % 8:=⟨_,rfl⟩
 obtain ⟨r,hr⟩:∃ r,r=8 - i % 8:=⟨_,rfl⟩
 obtain ⟨d,hd⟩:∃ d,d=r - 1:=⟨_,rfl⟩
 obtain ⟨hqx,htb⟩:=zgP (l:=x) (m:=x.length) (n:=1) hq hr hd rfl (by omega) (by omega) (by omega)
 obtain ⟨ad,e1,_,hcell⟩:=IsV.at (f:=bv) hx hqx
 subst e1
 obtain ⟨B,hB⟩:∃ B:Nat,B=x[q].toNat:=⟨_,rfl⟩
 have hB8:B < 256:=by rw [hB];exact UInt8.toNat_lt _
 have hcx:w.cell? (ad.add q)=some (.int .u8 (B:Int)):=by rw [hcell,hB];rfl
 rw [←hB] at htb
 obtain ⟨D,hD⟩:∃ D,D=2 ^ d:=⟨_,rfl⟩
 have hand:=zvi B d D hB8 (by omega) hD
 rw [htb] at hand
 have hqi:(i:Int) / 8=(q:Int):=by omega
 have hei:(i:Int) % 8=(e:Int):=by omega
 have htm:(i:Int).tmod 8=(e:Int):=by rw [Int.tmod_eq_emod_of_nonneg (by omega)];exact hei
 have he8:e < 8:=by omega
 have hsr:(128:Int) / 2 ^ e=(D:Int):=by rw [zqK e he8,hD,show 7 - e=d by omega]
 have hqn:(q:Int) < (n:Int):=by omega
 obtain ⟨y,hy⟩:∃ y,y=bits .and .u8 (B:Int) (D:Int):=⟨_,rfl⟩
 rw [←hy] at hand
 have hy':=hy.symm
 obtain ⟨t,ht⟩:∃ t,t=(zbs (bval x) (8*x.length) i 1 == 1):=⟨_,rfl⟩
 rw [←ht] at hand ⊢
 clear hq he hr hd hB hD htb hcell hx hn hcm hy ht hqx
 go_enter Tryz.func78,Tryz.ntmps78
 go_wp2
 go_quiet (fail)
 go_wp2
 go_ret
 exact ⟨rfl,below_drewN (Below.refl _ _) _⟩
def zsF (l:List Bool) (w:World) (c i:Value) (wr:World):Prop:=∃ k:Nat,k≤l.length∧i=.int .i64 (k:Int)∧c=.int .i64 (zdM (l.take k):Int)∧wr=w
theorem zsG (l:List Bool) (v:Value) (w:World) (hl:IsV Value.bool l v w) (hb:l.length≤1000000) :
  Calls Tryz.prog 79 #[v] w fun e w'=>e=.returned (.int .i64 (zdM l:Int))∧w=w':=by
 have HLv:=Lib.hid hl
 obtain ⟨A,c,rfl,_,_,_,_⟩:=hl
 obtain ⟨n,hn⟩:∃ n,n=l.length:=⟨_,rfl⟩
 rw [←hn] at hb HLv ⊢
 have HN:=Lib.hid hn
 clear hn
 go_enter Tryz.func79,Tryz.ntmps79
 go_wp2
 go_loopw [3,8] (zsF l w) (fun _ i _=>n - (intOf i).toNat)
 case atStart=>exact ⟨0,by omega,rfl,by simp [zdM],rfl⟩
 case round =>
  obtain ⟨k,hk,rfl,rfl,rfl⟩:=hrel
  have hk':k≤n:=by have:=HN.out;omega
  obtain ⟨C,hC⟩:∃ C,C=zdM (l.take k):=⟨_,rfl⟩
  rw [←hC]
  have hC6:C≤1000000:=by have:=zsB (l.take k);rw [List.length_take] at this;omega
  have HC:=Lib.hid hC
  clear hC
  by_cases hlt:k < n
  ·have hkl:k < l.length:=by have:=HN.out;omega
   obtain ⟨ad,e1,_,hcell⟩:=HLv.out.at hkl
   subst e1
   have hs:=znm l hkl
   rw [←HC.out] at hs
   have HS:=Lib.hid hs
   clear hs
   cases hx:l[k] with
   | true =>
    rw [hx] at hcell HS
    clear hx
    go_wp2
    go_roundw
    case rel=>exact ⟨k+1,by omega,by go_num,by rw [HS.out];go_num,rfl⟩
    case measure=>simp [intOf];omega
   | false =>
    rw [hx] at hcell HS
    clear hx
    go_wp2
    go_roundw
    case rel=>exact ⟨k+1,by omega,by go_num,by rw [HS.out];go_num,rfl⟩
    case measure=>simp [intOf];omega
  ·obtain rfl:k=n:=by omega
   go_wp2
   go_ret
   exact ⟨zu (by rw [HC.out,List.take_of_length_le (by have:=HN.out;omega)]),rfl⟩
theorem zsH (l:List Bool) (v:Value) (b i:Nat) (w:World) (hbx:Row w b 45 [v]) (hl:IsV Value.bool l v w) (hi:8*i≤l.length) (hb:l.length≤1000000) :
  Calls Tryz.prog 58 #[.int .i64 (i:Int),.pointer (some ⟨b,0,none⟩)] w fun e w'=>e=.returned (.int .u8 (zgk (l.drop (8*i)):Int))∧w=w':=by
 obtain ⟨A,n,c,rfl⟩:=hl.shape
 obtain ⟨hn,_,hnc,hcm,_⟩:=hl.parts
 obtain ⟨k,hk⟩:∃ k,k=8*i:=⟨_,rfl⟩
 rw [←hk]
 have hki:(i:Int)*8=(k:Int):=by omega
 have hkn:k≤n:=by omega
 obtain ⟨u,hu,hU⟩:=zbe zoV hkn hl
 have HU:=Lib.hid hU
 have hc0:=hbx.cell 0
 clear hU hl hn hcm hk
 go_enter Tryz.func58,Tryz.ntmps58
 go_wp2_with (go_at_call 59;refine (zp9 _ u w HU.out).mono ?_;rintro e w' ⟨rfl,rfl⟩)
 go_ret
 exact ⟨rfl,rfl⟩
theorem zqa (x:List UInt8) (v:Value) (b i:Nat) (w:World) (hbx:Row w b 25 [v]) (hx:IsB x v w) (hi:i < 8*x.length) (hb:x.length≤1000000) :
  Calls Tryz.prog 77 #[.int .i64 (i:Int),.pointer (some ⟨b,0,none⟩)] w fun e w'=>e=.returned (.bool (zbs (bval x) (8*x.length) i 1 == 1))∧Below w.heap.size w w':=by
 have HX:=Lib.hid hx
 have hc0:=hbx.cell 0
 have HI:=Lib.hid hi
 clear hx hi
 go_enter Tryz.func77,Tryz.ntmps77
 go_wp2_with (go_at_call 78;refine (zsE x v i w HX.out HI.out hb).mono ?_;rintro e w' ⟨rfl,hb'⟩)
 go_ret
 exact ⟨rfl,hb'⟩
def zdb (l:List Bool) (m:Nat):List UInt8:=(List.range m).map fun i=>UInt8.ofNat (zgk (l.drop (8*i)))
theorem zgl (l:List Bool) (m:Nat):(zdb l m).length=m:=by simp [zdb]
theorem zno (l:List Bool) {k m:Nat} (h:k < m):(zdb l m).take (k+1)=(zdb l m).take k ++ [UInt8.ofNat (zgk (l.drop (8*k)))]:=by
 rw [List.take_succ_eq_append_getElem (by rw [zgl];exact h)]
 congr 2
 simp [zdb]
theorem zdn {α:Type} (o:List α) (k:Nat) (x:α) (h:k < o.length):(o.set k x).take (k+1)=o.take k ++ [x]:=by
 rw [List.take_succ_eq_append_getElem (by simpa using h),List.take_set_of_le (Nat.le_refl _)]
 simp
def zlV (T:List UInt8) (m g:Nat) (w:World) (i:Value) (wr:World):Prop:=
 ∃ (k:Nat) (o:List UInt8),k≤m∧i=.int .i64 (k:Int)∧o.length=m∧o.take k=T.take k∧Row wr g 5 (o.map bv)∧Below g w wr
theorem zqb (l:List Bool) (v:Value) (b m:Nat) (w:World) (hbx:Row w b 45 [v]) (hl:IsV Value.bool l v w) (hm:8*m≤l.length+7) (hb:l.length≤100000) :
  Calls Tryz.prog 56 #[.int .i64 (m:Int),.func (.func 58) #[] #[.pointer (some ⟨b,0,none⟩)]] w
   fun e w'=>∃ u,e=.returned u∧IsB (zdb l m) u w'∧Below w.heap.size w w':=by
 have HL:=Lib.hid hl
 have HB:=Lib.hid hbx
 have hm5:m≤100000:=by omega
 clear hl hbx
 go_enter Tryz.func56,Tryz.ntmps56
 go_wp2_with (refine zn elemB rfl _ _ rfl _ _ _ _ m w w.heap.size rfl rfl rfl rfl (by omega) (by omega) (Below.refl _ _) (Nat.le_refl _) ?_)
 intro w1 hr1 hb1
 have hst:zlV (zdb l m) m w.heap.size w (.int .i64 0) w1:=⟨0,List.replicate m 0,by omega,rfl,by simp,by simp,by simpa using hr1,hb1⟩
 clear hr1 hb1
 go_wp2
 go_loopw [11] (zlV (zdb l m) m w.heap.size w) (fun i _=>m - (intOf i).toNat)
 case atStart=>exact hst
 case round =>
  obtain ⟨k,o,hk,rfl,ho,hok,hr,hbr⟩:=hrel
  have HO:=Lib.hid ho
  have HOK:=Lib.hid hok
  clear ho hok hst
  by_cases hlt:k < m
  ·have hlt2:(k:Int) < (m:Int):=by omega
   obtain ⟨C,hC⟩:∃ C,C=zgk (l.drop (8*k)):=⟨_,rfl⟩
   have hC8:C < 256:=by rw [hC];exact zoz _
   have hcall:=zsH l v b k wr (HB.out.below hbr HB.out.lt) (HL.out.below hbr) (by omega) (by omega)
   rw [←hC] at hcall
   have HCall:=Lib.hid hcall
   have HC:=Lib.hid hC
   have hko:k < o.length:=by have:=HO.out;omega
   have hcx:wr.cell? ⟨w.heap.size,k,none⟩=some (bv o[k]):=by rw [hr.cell,List.getElem?_map,List.getElem?_eq_getElem hko];rfl
   have hfx:=hr.free k
   have hr2:=zjD hr k C hC8
   have HR2:=Lib.hid hr2
   clear hcall hC hr2
   go_wp2_with (go_at_call 58;refine HCall.out.mono ?_;rintro e w' ⟨rfl,rfl⟩)
   go_roundw
   case rel =>
    refine ⟨k+1,o.set k (UInt8.ofNat C),by omega,by go_num,by rw [List.length_set];exact HO.out,?_,HR2.out,hbr.setCell (Nat.le_refl _) _⟩
    rw [zdn _ _ _ hko,HOK.out,zno l hlt,←HC.out]
   case measure=>simp [intOf];omega
  ·obtain rfl:k=m:=by omega
   have hlt2:¬(k:Int) < (k:Int):=by omega
   have hT:o=zdb l k:=by
    have h1:=HOK.out
    rw [List.take_of_length_le (by rw [HO.out];omega),List.take_of_length_le (by rw [zgl];omega)] at h1
    exact h1
   have HT:=Lib.hid hT
   have HR:=Lib.hid hr
   have HBR:=Lib.hid hbr
   clear hT hr hbr
   go_wp2
   go_ret
   refine ⟨_,rfl,?_,HBR.out⟩
   rw [←HT.out]
   exact zme HR.out HO.out (by omega)
theorem znp (w:Nat) (a b:List Nat):pval w (a ++ b)=pval w a*2 ^ (w*b.length)+pval w b:=by
 induction a with
 | nil=>simp [pval]
 | cons x r ih=>rw [List.cons_append,pval,pval,ih,List.length_append,Nat.mul_add,Nat.pow_add,Nat.add_mul,Nat.mul_assoc];omega
theorem zia (l:List Bool):∀ k,8*k≤l.length+7→bval (zdb l k)=pval 1 (qn (l.take (8*k)))*2 ^ (8*k - min (8*k) l.length)
 | 0,_=>by simp [zdb,bval,pval,qn]
 | k+1,h=>by
  have ih:=zia l k (by omega)
  rw [show min (8*k) l.length=8*k by omega,Nat.sub_self,Nat.pow_zero,Nat.mul_one] at ih
  have hs:zdb l (k+1)=zdb l k ++ [UInt8.ofNat (zgk (l.drop (8*k)))]:=by simp [zdb,List.range_succ]
  rw [hs,ze4,ih,show 8*(k+1)=8*k+8 by omega,List.take_add,show qn (l.take (8*k) ++ (l.drop (8*k)).take 8)=qn (l.take (8*k)) ++ qn ((l.drop (8*k)).take 8) from List.map_append,znp]
  have h1:bval [UInt8.ofNat (zgk (l.drop (8*k)))]=zgk (l.drop (8*k)):=by
   simp only [bval,List.length_nil,Nat.pow_zero,Nat.mul_one,Nat.add_zero,UInt8.toNat_ofNat',Nat.reducePow]
   exact Nat.mod_eq_of_lt (zoz _)
  rw [h1]
  unfold zgk
  rw [zlP,List.length_take,List.length_drop,List.length_singleton,Nat.pow_one,Nat.one_mul,show 8*k+8 - min (8*k+8) l.length=8 - min 8 (l.length - 8*k) by omega,Nat.add_mul,Nat.mul_assoc,←Nat.pow_add,
   show min 8 (l.length - 8*k)+(8 - min 8 (l.length - 8*k))=8 by omega]
theorem zlW (l:List Bool) (m:Nat) (hm:m=(l.length+7) / 8):zdb l m=zj9 l:=by
 have hb:zT (qn l).length 1=m:=by rw [zlP,zT,hm,Nat.mul_one]
 unfold zj9 zbx
 rw [hb]
 refine zoK (zgl _ _) ?_
 rw [zia l m (by omega),List.take_of_length_le (by omega),zlP,show min (8*m) l.length=l.length by omega,Nat.one_mul]
theorem zuf (l:List Bool) (v:Value) (w:World) (hl:IsV Value.bool l v w) (hb:l.length≤1000000) :
  Calls Tryz.prog 34 #[v] w (RetE w (zka l)):=by
 have HL:=Lib.hid hl
 obtain ⟨A,n,c,rfl⟩:=hl.shape
 obtain ⟨hn,_,_,_,_⟩:=hl.parts
 have HN:=Lib.hid hn
 have hb2:n≤1000000:=by omega
 clear hl hb hn
 have hbA:Below w.heap.size w (w.alloc (.cells #[.slice A n c] 45)):=(Below.refl _ _).alloc (Nat.le_refl _) _
 have hrow:Row (w.alloc (.cells #[.slice A n c] 45)) w.heap.size 45 [.slice A n c]:=heap_alloc_new w _
 by_cases hbig:n≤4096
 ·have hE:Hid (zka l=(yput (zj9 l),0)):=Lib.hid (by unfold zka;rw [if_pos (by rw [HN.out];exact hbig)])
  have hbi:¬(4096:Int) < (n:Int):=by omega
  obtain ⟨m,hm⟩:∃ m,m=(n+7) / 8:=⟨_,rfl⟩
  have HM:=Lib.hid hm
  have hmade:=zqb l _ w.heap.size m _ hrow (HL.out.below hbA) (by rw [HN.out];omega) (by rw [HN.out];omega)
  rw [zlW l m (by rw [HN.out];exact hm)] at hmade
  have HMade:=Lib.hid hmade
  have hq5:(zj9 l).length≤4096:=by rw [zsA,HN.out];omega
  have HQ:=Lib.hid hq5
  clear hm hmade hq5
  go_enter Tryz.func34,Tryz.ntmps34
  go_wp2_with (first | (go_at_call 57;refine (zh9 n m _ (by omega) HM.out).mono ?_;rintro e w' ⟨rfl,rfl⟩) | (go_at_call 56;refine HMade.out.mono ?_))
  rintro e w2 ⟨u,rfl,hu,hb2'⟩
  have HU:=Lib.hid hu
  have HB2:=Lib.hid (hbA.trans (hb2'.mono (by simp)))
  clear hu hb2' hrow hbA
  go_wp2_with (go_at_call 55;refine (zuc _ u w2 HU.out (by have:=HQ.out;omega)).mono ?_)
  rintro e w3 ⟨v3,rfl,hv3,hb3⟩
  have HV3:=Lib.hid hv3
  have HB3:=Lib.hid (za HB2.out hb3)
  have hy:zne (zj9 l)=(yput (zj9 l),0):=by unfold zne;rw [if_pos HQ.out]
  rw [hy] at HV3
  simp only [hy]
  clear hv3 hb3 hy
  go_wp2
  go_ret2
  rw [hE.out]
  exact ⟨_,rfl,HV3.out,HB3.out⟩
 ·have hE:Hid (zka l=([],3)):=Lib.hid (by unfold zka;rw [if_neg (by rw [HN.out];exact hbig)])
  have hbi:(4096:Int) < (n:Int):=by omega
  go_enter Tryz.func34,Tryz.ntmps34
  go_wp2
  go_ret2
  rw [hE.out]
  exact RetE.nil _ hbA
theorem zqc (x:List UInt8) {k m:Nat} (h:k < m):(zcl x m).take (k+1)=(zcl x m).take k ++ [zbs (bval x) (8*x.length) k 1 == 1]:=by
 rw [List.take_succ_eq_append_getElem (by rw [zbH];exact h)]
 congr 2
 simp [zcl,zcj]
theorem znq (x:List UInt8) {M m:Nat} (h:M≤m):(zcl x m).take M=zcl x M:=by
 unfold zcl zcj
 rw [←List.map_take,←List.map_take,List.take_range,Nat.min_eq_left h]
theorem znr {l:List Bool}:zdM l=0↔∀ b∈l,b=false:=by
 unfold zdM
 rw [List.length_eq_zero_iff,List.filter_eq_nil_iff]
 simp
theorem zqd (x:List UInt8) {M:Nat} (hM:M≤8*x.length):zdM ((zcl x (8*x.length)).drop M)=0↔bval x % 2 ^ (8*x.length - M)=0:=by
 have hg:∀ i,(h:i < 8*x.length)→(zcl x (8*x.length))[i]'(by rw [zbH];exact h)=(zbs (bval x) (8*x.length) i 1 == 1):=by
  intro i h
  simp [zcl,zcj]
 rw [znr]
 constructor
 ·intro h
  refine zlT hM fun i h1 h2=>?_
  have h3:=h ((zcl x (8*x.length))[i]'(by rw [zbH];exact h2)) (List.mem_drop_iff_getElem.2 ⟨i - M,by rw [zbH];omega,by congr 1;omega⟩)
  rw [hg i h2] at h3
  have h4:=zfp (bval x) (8*x.length) i 1
  simp at h3 h4
  omega
 ·intro h b hb
  obtain ⟨j,hj,rfl⟩:=List.mem_drop_iff_getElem.1 hb
  rw [zbH] at hj
  rw [hg _ (show M+j < 8*x.length by omega),zlS h (by omega) (by omega)]
  rfl
def zlX (T:List Bool) (m g:Nat) (w:World) (i:Value) (wr:World):Prop:=
 ∃ (k:Nat) (o:List Bool),k≤m∧i=.int .i64 (k:Int)∧o.length=m∧o.take k=T.take k∧Row wr g 4 (o.map Value.bool)∧Below g w wr
theorem zqe (x:List UInt8) (v:Value) (b m:Nat) (w:World) (hbx:Row w b 25 [v]) (hx:IsB x v w) (hm:m=8*x.length) (hb:x.length≤10000) :
  Calls Tryz.prog 76 #[.int .i64 (m:Int),.func (.func 77) #[] #[.pointer (some ⟨b,0,none⟩)]] w
   fun e w'=>∃ g,e=.returned (.slice (some ⟨g,0,none⟩) m m)∧w.heap.size≤g∧Row w' g 4 ((zcl x m).map Value.bool)∧Below w.heap.size w w':=by
 have HX:=Lib.hid hx
 have HB:=Lib.hid hbx
 have HM:=Lib.hid hm
 have hm5:m≤100000:=by omega
 clear hx hbx hm
 go_enter Tryz.func76,Tryz.ntmps76
 go_wp2_with (refine zn zoV rfl _ _ rfl _ _ _ _ m w w.heap.size rfl rfl rfl rfl (by omega) (by omega) (Below.refl _ _) (Nat.le_refl _) ?_)
 intro w1 hr1 hb1
 have hst:zlX (zcl x m) m w.heap.size w (.int .i64 0) w1:=⟨0,List.replicate m false,by omega,rfl,by simp,by simp,by simpa using hr1,hb1⟩
 clear hr1 hb1
 go_wp2
 go_loopw [11] (zlX (zcl x m) m w.heap.size w) (fun i _=>m - (intOf i).toNat)
 case atStart=>exact hst
 case round =>
  obtain ⟨k,o,hk,rfl,ho,hok,hr,hbr⟩:=hrel
  have HO:=Lib.hid ho
  have HOK:=Lib.hid hok
  clear ho hok hst
  by_cases hlt:k < m
  ·have hlt2:(k:Int) < (m:Int):=by omega
   obtain ⟨t,ht⟩:∃ t,t=(zbs (bval x) (8*x.length) k 1 == 1):=⟨_,rfl⟩
   have hcall:=zqa x v b k wr (HB.out.below hbr HB.out.lt) (IsB.below HX.out hbr) (by rw [←HM.out];exact hlt) (by omega)
   rw [←ht] at hcall
   have HCall:=Lib.hid hcall
   have HT:=Lib.hid ht
   have hko:k < o.length:=by have:=HO.out;omega
   clear hcall ht
   go_wp2_with (go_at_call 77;refine HCall.out.mono ?_)
   rintro e w2 ⟨rfl,hb2⟩
   have hgr:=hr.lt
   have hrw:=hr.below hb2 hgr
   have hbw:=hbr.trans (hb2.mono (by omega))
   have hcx:w2.cell? ⟨w.heap.size,k,none⟩=some (Value.bool o[k]):=by rw [hrw.cell,List.getElem?_map,List.getElem?_eq_getElem hko];rfl
   have hfx:=hrw.free k
   have hr2:=hrw.set_ k (.bool t)
   rw [show (o.map Value.bool).set k (.bool t)=(o.set k t).map Value.bool from List.map_set.symm] at hr2
   have HR2:=Lib.hid hr2
   have HBW:=Lib.hid hbw
   clear hr2 hr hb2 hbr hbw hrw hgr
   go_wp2
   go_roundw
   case rel =>
    refine ⟨k+1,o.set k t,by omega,by go_num,by rw [List.length_set];exact HO.out,?_,HR2.out,HBW.out.setCell (Nat.le_refl _) _⟩
    rw [zdn _ _ _ hko,HOK.out,zqc x hlt,←HT.out]
   case measure=>simp [intOf];omega
  ·obtain rfl:k=m:=by omega
   have hlt2:¬(k:Int) < (k:Int):=by omega
   have hT:o=zcl x k:=by
    have h1:=HOK.out
    rw [List.take_of_length_le (by rw [HO.out];omega),List.take_of_length_le (by rw [zbH];omega)] at h1
    exact h1
   have HT:=Lib.hid hT
   have HR:=Lib.hid hr
   have HBR:=Lib.hid hbr
   clear hT hr hbr
   go_wp2
   go_ret
   refine ⟨_,rfl,Nat.le_refl _,?_,HBR.out⟩
   rw [←HT.out]
   exact HR.out
theorem zsI (l:List UInt8) (v:Value) (many:Int) (w:World) (hv:IsB l v w) (hb:l.length≤1000000) :
  Calls Tryz.prog 46 #[v,.int .i64 many] w (RetLBO w (zct l many)):=by
 by_cases h0:many < 0
 ·have hE:=Lib.hid (zeU (l:=l) (Or.inl h0))
  have d1:decide (many < 0)=true:=decide_eq_true h0
  go_enter Tryz.func46,Tryz.ntmps46
  go_wp2
  go_ret3
  rw [hE.out]
  exact RetLBO.nil _ (Below.refl _ _)
 ·have d1:decide (many < 0)=false:=decide_eq_false h0
  by_cases h4:4096 < many
  ·have hE:=Lib.hid (zeU (l:=l) (Or.inr h4))
   have d2:decide ((4096:Int) < many)=true:=decide_eq_true h4
   go_enter Tryz.func46,Tryz.ntmps46
   go_wp2
   go_ret3
   rw [hE.out]
   exact RetLBO.nil _ (Below.refl _ _)
  ·obtain ⟨M,rfl⟩:=Int.eq_ofNat_of_zero_le (show 0≤many by omega)
   have hM:M≤4096:=by omega
   have d2:decide ((4096:Int) < (M:Int))=false:=decide_eq_false (by omega)
   rw [zlQ hM]
   obtain ⟨m,hm⟩:∃ m,m=(M+7) / 8:=⟨_,rfl⟩
   have hm5:m≤4096:=by omega
   have hM8:M≤8*m:=by omega
   have HR:=Lib.hid (zsz l v (m:Int) w hv hb)
   have HMm:=Lib.hid hm
   clear hv hm
   cases hy:zcg m l with
   | none =>
    have hR:=HR.out
    rw [zch hm5 hy] at hR
    have HR2:=Lib.hid hR
    have hE:=Lib.hid (zh8 (l:=l) (M:=M) (by rw [←HMm.out];exact hy))
    clear hR hy
    go_enter Tryz.func46,Tryz.ntmps46
    go_wp2_with (first | (go_at_call 57;refine (zh9 M m _ (by omega) HMm.out).mono ?_;rintro e w' ⟨rfl,rfl⟩) | (go_at_call 75;refine HR2.out.mono ?_))
    rintro e w2 ⟨u2,v2,rfl,hu2,_,hb2⟩
    have HB2:=Lib.hid (hb2.alloc hb2.size (.cells #[u2] 25))
    obtain ⟨Ax,nx,cx,rfl⟩:=IsV.shape (f:=bv) hu2
    clear hb2 hu2
    go_wp2
    go_ret3
    rw [hE.out]
    exact RetLBO.nil _ HB2.out
   | some p =>
    obtain ⟨x,r⟩:=p
    have hR:=HR.out
    rw [zda hm5 hy] at hR
    have HR2:=Lib.hid hR
    have HY:=Lib.hid hy
    have hxm:=(zlB hy).1
    have HX:=Lib.hid hxm
    clear hR hy hxm
    go_enter Tryz.func46,Tryz.ntmps46
    go_wp2_with (first | (go_at_call 57;refine (zh9 M m _ (by omega) HMm.out).mono ?_;rintro e w' ⟨rfl,rfl⟩) | (go_at_call 75;refine HR2.out.mono ?_))
    rintro e w2 ⟨u2,v2,rfl,hu2,hv2,hb2⟩
    have hbA:Below w2.heap.size w2 (w2.alloc (.cells #[u2] 25)):=(Below.refl _ _).alloc (Nat.le_refl _) _
    have hrow:Row (w2.alloc (.cells #[u2] 25)) w2.heap.size 25 [u2]:=heap_alloc_new w2 _
    obtain ⟨N,hN⟩:∃ N,N=8*m:=⟨_,rfl⟩
    have hNi:(m:Int)*8=(N:Int):=by omega
    have hmade:=zqe x u2 w2.heap.size N _ hrow (IsB.below hu2 hbA) (by rw [HX.out];exact hN) (by rw [HX.out];exact Nat.le_trans hm5 (by omega))
    have HMade:=Lib.hid hmade
    have HV2:=Lib.hid (IsB.below hv2 hbA)
    have HB2:=Lib.hid (za hb2 hbA)
    have HN:=Lib.hid hN
    obtain ⟨Ax,cx,hux,_,_,_,_⟩:=hu2
    have hux2:u2=.slice Ax m cx:=by rw [hux];simp only [HX.out]
    subst hux2
    clear hux hv2 hb2 hbA hrow hmade hN
    go_wp2_with (go_at_call 76;refine HMade.out.mono ?_)
    rintro e w3 ⟨g3,rfl,hg3,hr3,hb3⟩
    have hN5:N≤100000:=by have:=HN.out;omega
    have hMn:M≤N:=by have:=HN.out;omega
    have hu3:IsV Value.bool (zcl x N) (.slice (some ⟨g3,0,none⟩) N N) w3:=zbN hr3 (zbH _ _) (by omega)
    have HV3:=Lib.hid (HV2.out.below hb3)
    have HB3:=Lib.hid (za HB2.out hb3)
    have hci3:(N:Int)≤9223372036854775807:=by omega
    have hMc:(M:Int)≤(N:Int):=by omega
    have HO3:Hid (OwnV Value.bool 4 w (zcl x M) (.slice (some ⟨g3,0,none⟩) M N) w3):=Lib.hid ⟨M,by rw [List.length_map,zbH,Nat.mul_one],.inr ⟨g3,N,_,rfl,Nat.le_trans HB2.out.size hg3,hr3,hMn,by unfold maxLen;omega,by simp [zbH],by
     rw [Nat.mul_one,List.toList_toArray,←List.map_take,znq x hMn]⟩⟩
    obtain ⟨u4,hu4,hU4⟩:=zbe zoV hMn hu3
    have HU4:=Lib.hid hU4
    have hlen4:((zcl x N).drop M).length≤1000000:=by rw [List.length_drop,zbH];have:=HN.out;omega
    have HL4:=Lib.hid hlen4
    have hiff:=zqd x (M:=M) (by rw [HX.out];exact hM8)
    rw [show 8*x.length=N by rw [HX.out];exact HN.out.symm] at hiff
    have HIff:=Lib.hid hiff
    obtain ⟨q,hq⟩:∃ q,q=zdM ((zcl x N).drop M):=⟨_,rfl⟩
    have HCall:=Lib.hid (zsG _ u4 w3 HU4.out HL4.out)
    rw [←hq] at HCall HIff
    clear hu3 hb3 hU4 hlen4 hiff hg3 hr3 hq
    by_cases hs0:q=0
    ·subst hs0
     have hE:=Lib.hid (zjn (l:=l) (M:=M) (by rw [←HMm.out];exact HY.out) (by rw [HX.out,←HN.out];exact HIff.out.1 rfl))
     go_wp2_with (go_at_call 79;refine HCall.out.mono ?_;rintro e w' ⟨rfl,rfl⟩)
     go_ret3
     rw [hE.out]
     exact ⟨_,_,rfl,HO3.out,HV3.out,HB3.out⟩
    ·have hE:=Lib.hid (zlR (l:=l) (M:=M) (by rw [←HMm.out];exact HY.out) (by rw [HX.out,←HN.out];exact fun h=>hs0 (HIff.out.2 h)))
     have hq0:((q:Int) != 0)=true:=by simpa using hs0
     go_wp2_with (go_at_call 79;refine HCall.out.mono ?_;rintro e w' ⟨rfl,rfl⟩)
     go_ret3
     rw [hE.out]
     exact RetLBO.nil _ HB3.out
theorem zsJ (l:List UInt8) (v:Value) (many:Int) (w:World) (hv:IsB l v w) (hb:l.length≤1000000) :
  Calls Tryz.prog 46 #[v,.int .i64 many] w (RetLB w (zct l many)):=(zsI l v many w hv hb).mono fun _ _ h=>h.lb
end Go.Proofs.YtlibofmpnlfelaaGreatDoor
namespace Go.Proofs.YtlibofmpnlfelaaGreatDoor
structure CV where
 null:Bool
 n:Int
 s:ByteArray
def cv (v:CV):Value:=.agg #[.bool v.null,.int .i64 v.n,.string v.s]
def CV.inInt (v:CV):Prop:=-9223372036854775808≤v.n∧v.n≤9223372036854775807
end Go.Proofs.YtlibofmpnlfelaaGreatDoor
namespace Go.Proofs.YtlibofmpnlfelaaGreatDoor
open Go.RowKit
def zZ (v:CV):List Value:=[.bool v.null,.int .i64 v.n,.string v.s]
structure CC where
 s:ByteArray
 kind:Int
theorem zlY (s p:ByteArray) (w:World):Calls Tryz.prog 85 #[.string s,.string p] w fun e w'=>e=.returned (.bool (Lib.hasPrefix s.data.toList p.data.toList))∧w=w':=by
 rw [←Lib.hasPrefix_of_take,←Lib.size_eq,←Lib.size_eq]
 go_enter Tryz.func85,Tryz.ntmps85
 go_wp2
 ·rename_i h
  go_ret
  refine ⟨?_,rfl⟩
  show Ending.returned (Value.bool ((s.extract 0 p.size).toList == p.toList))=_
  rw [Lib.extract_toList,Lib.toList_data]
  simp [h]
 ·rename_i h
  go_ret
  refine ⟨?_,rfl⟩
  show Ending.returned (Value.bool false)=_
  simp [h]
theorem zns (s p:ByteArray) (w:World):Calls Tryz.prog 54 #[.string s,.string p] w fun e w'=>e=.returned (.bool (Lib.hasPrefix s.data.toList p.data.toList))∧w=w':=by
 go_enter Tryz.func54,Tryz.ntmps54
 go_wp2_with (go_at_call 85;refine (zlY _ _ _).mono ?_;rintro e w' ⟨rfl,rfl⟩)
 go_ret
 exact ⟨rfl,rfl⟩
end Go.Proofs.YtlibofmpnlfelaaGreatDoor
