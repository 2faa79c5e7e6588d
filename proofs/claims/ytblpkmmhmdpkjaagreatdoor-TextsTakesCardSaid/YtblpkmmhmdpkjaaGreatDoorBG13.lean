import Derived.Maps.OwnSet
import Derived.Sort.KeysCollected
import Derived.Shelf.SlIter.Nil
import Derived.Shelf.SortM.Plain
import Derived.Shelf.SortM.SortNone
import Derived.Shelf.Strings.OnBuilder
import Derived.Test.YtblpkmmhmdpkjaaGreatDoorProg
import Derived.Lib.ConvBytes
import Derived.Test.YtblpkmmhmdpkjaaGreatDoorBG12
set_option maxHeartbeats 8000000
set_option maxRecDepth 100000
namespace Go.Proofs.YtblpkmmhmdpkjaaGreatDoor
open Go.Maps
open Go.Proofs (encStr)
def jkey (s:ByteArray):Lit:=.string s.data.toList
theorem zl4 (s:ByteArray):WideAt.IsKeyLit (jkey s):=trivial
def jset (l:List ByteArray):DataW Unit:=setOf (.agg []) (l.map jkey)
theorem zqx {l:List ByteArray} {k:Nat} (h:k < l.length):jset (l.take (k+1))=(jset (l.take k)).put (jkey l[k]) (.agg []):=by
 unfold jset
 rw [List.take_succ_eq_append_getElem h,List.map_append,List.map_singleton,setOf_snoc]
theorem zkT (l:List ByteArray):∀ x∈l.map jkey,WideAt.IsKeyLit x:=by
 intro x hx
 obtain ⟨s,_,rfl⟩:=List.mem_map.1 hx
 exact zl4 s
theorem zr0 (l:List ByteArray) (x:List UInt8):has (jset l) (.string x)=true↔∃ s∈l,s.data.toList=x:=by
 unfold jset
 rw [has_setOf _ _ _ (zkT l),List.any_eq_true]
 constructor
 ·rintro ⟨q,hq,hs⟩
  obtain ⟨s,h1,rfl⟩:=List.mem_map.1 hq
  exact ⟨s,h1,by simpa [jkey,Lit.sameKey] using hs⟩
 ·rintro ⟨s,h1,rfl⟩
  exact ⟨jkey s,List.mem_map.2 ⟨s,h1,rfl⟩,WideAt.sameKey_self (zl4 s)⟩
theorem zl5 {H:Type} {es:List (Lit × DataW H)} (hk:∀ p∈es,∃ x,p.1=.string x) (x:List UInt8):x∈strKeys (.map es)↔has (.map es) (.string x)=true:=by
 rw [has_eq,List.any_eq_true]
 show x∈es.map (fun p=>strOf p.1)↔_
 rw [List.mem_map]
 constructor
 ·rintro ⟨p,hp,rfl⟩
  obtain ⟨a,ha⟩:=hk p hp
  exact ⟨p,hp,by rw [ha];simp [Lit.sameKey,strOf]⟩
 ·rintro ⟨p,hp,hs⟩
  obtain ⟨a,ha⟩:=hk p hp
  rw [ha] at hs
  exact ⟨p,hp,by rw [ha];simpa [Lit.sameKey,strOf] using hs⟩
theorem zjg {H:Type} {es:List (Lit × DataW H)} (hp:es.Pairwise (fun p q=>p.1≠q.1)) (hk:∀ p∈es,∃ x,p.1=.string x):(strKeys (.map es)).Nodup:=by
 show (es.map fun p=>strOf p.1).Nodup
 refine List.pairwise_map.2 (hp.imp_of_mem fun {p q} hp' hq' hne e=>hne ?_)
 obtain ⟨a,ha⟩:=hk p hp'
 obtain ⟨b,hb⟩:=hk q hq'
 rw [ha,hb] at e ⊢
 exact congrArg _ e
theorem zqy (ss:List (List UInt8)):(ss.mergeSort leB).Pairwise fun a b=>a≤b:=by
 have tr:∀ a b c:List UInt8,leB a b=true→leB b c=true→leB a c=true:=fun a b c h1 h2=>by simp only [leB,decide_eq_true_eq] at *;exact List.le_trans h1 h2
 have to:∀ a b:List UInt8,(leB a b || leB b a)=true:=fun a b=>by simp only [leB,Bool.or_eq_true,decide_eq_true_eq];exact List.le_total a b
 exact (List.pairwise_mergeSort tr to ss).imp fun h=>of_decide_eq_true h
theorem zkU {l:List ByteArray} {ss:List (List UInt8)} (hn:ss.Nodup) (hm:∀ x,x∈ss↔∃ s∈l,s.data.toList=x):(ss.mergeSort leB).map encStr=(zbw l).map Value.string:=by
 have hp:=List.mergeSort_perm ss leB
 have hn2:(ss.mergeSort leB).Nodup:=hp.nodup_iff.2 hn
 have hs:=zqy ss
 have hr:zeQ ((ss.mergeSort leB).map fun x=>(⟨x.toArray⟩:ByteArray)):=by
  refine List.pairwise_map.2 ?_
  refine (hs.and hn2).imp fun {a b} h=>?_
  rw [zee]
  dsimp only
  rcases Decidable.em (a < b) with h1 | h1
  ·exact h1
  ·exact absurd (List.le_antisymm h.1 (List.not_lt.1 h1)) h.2
 have he:((ss.mergeSort leB).map fun x=>(⟨x.toArray⟩:ByteArray))=zbw l:=by
  refine zmZ hr (zf4 l) fun z=>?_
  rw [jwords_mem,List.mem_map]
  constructor
  ·rintro ⟨x,hx,rfl⟩
   obtain ⟨s,h1,rfl⟩:=(hm x).1 (hp.mem_iff.1 hx)
   exact h1
  ·intro hz
   exact ⟨z.data.toList,hp.mem_iff.2 ((hm _).2 ⟨z,hz,rfl⟩),rfl⟩
 rw [←he,List.map_map]
 rfl
theorem zr1 {l:List ByteArray} {ss:List (List UInt8)} (hp:ss.Perm (strKeys (jset l))) (hk:∃ es,jset l=.map es∧∀ p∈es,∃ x,p.1=.string x):(ss.mergeSort leB).map encStr=(zbw l).map Value.string:=by
 obtain ⟨es,he,hk⟩:=hk
 obtain ⟨es2,he2,ht⟩:=tidy_setOf (.agg []:DataW Unit) (l.map jkey) (zkT l)
 have he3:jset l=.map es2:=he2
 rw [he] at he3
 injection he3 with he3
 subst he3
 rw [he] at hp
 refine zkU (hp.nodup_iff.2 (zjg ht hk)) fun x=>?_
 rw [hp.mem_iff,zl5 hk,←he,zr0]
def jmap (ws:List ByteArray) (k:Nat):DataW Unit:=(List.range k).foldl (fun D i=>D.put (jkey (ws.getD i ⟨#[]⟩)) (.lit (.int .i64 (i:Int)))) (.map [])
theorem zhw (ws:List ByteArray) (k:Nat):jmap ws (k+1)=(jmap ws k).put (jkey (ws.getD k ⟨#[]⟩)) (.lit (.int .i64 (k:Int))):=by
 unfold jmap
 rw [List.range_succ,List.foldl_append]
 rfl
theorem ziy (ws:List ByteArray):∀ k,IsMap (jmap ws k)
 | 0=>isMap_empty
 | k+1=>by rw [zhw];exact (ziy ws k).put _ _
theorem zqz {ws:List ByteArray} (hr:zeQ ws) (z:DataW Unit):∀ {k j:Nat},k≤ws.length→(hj:j < k)→(jmap ws k).atKey (jkey (ws.getD j ⟨#[]⟩)) z=.lit (.int .i64 (j:Int))
 | 0,j,_,hj=>absurd hj (Nat.not_lt_zero _)
 | k+1,j,hk,hj=>by
  rw [zhw]
  by_cases e:j=k
  ·subst e
   exact atKey_put_same (ziy ws _) (zl4 _) _ _
  ·rw [atKey_put_other _ _ _,zqz hr z (by omega) (by omega)]
   intro h
   have h1:=List.pairwise_iff_getElem.1 hr j k (by omega) (by omega) (by omega)
   have e1:ws.getD j ⟨#[]⟩=ws.getD k ⟨#[]⟩:=by
    unfold jkey at h
    injection h with h
    have h2:∀ a b:ByteArray,a.data.toList=b.data.toList→a=b:=fun a b h=>by
     cases a;cases b
     exact congrArg _ (Array.toList_inj.1 h)
    exact h2 _ _ h
   rw [List.getD_eq_getElem?_getD,List.getD_eq_getElem?_getD,List.getElem?_eq_getElem (show j < ws.length by omega),List.getElem?_eq_getElem (show k < ws.length by omega)] at e1
   dsimp only [Option.getD_some] at e1
   rw [e1,zfp] at h1
   cases h1
theorem zos {ws:List ByteArray} (hr:zeQ ws) {s:ByteArray} (hs:s∈ws) (z:DataW Unit):(jmap ws ws.length).atKey (jkey s) z=.lit (.int .i64 (zc8 ws s:Int)):=by
 obtain ⟨h1,h2⟩:=zht hs
 have h:=zqz hr z (Nat.le_refl _) h1
 rw [List.getD_eq_getElem?_getD,List.getElem?_eq_getElem h1] at h
 dsimp only [Option.getD_some] at h
 rw [h2] at h
 exact h
end Go.Proofs.YtblpkmmhmdpkjaaGreatDoor
namespace Go.Proofs
open Go.Shelf
def Tryz.keysA_ren:Go.Shelf.Ren:=⟨fun | 7=>27 | 10=>41 | n=>n,fun | 23=>51 | 26=>9 | 3=>52 | 28=>55 | 0=>0 | 27=>54 | 33=>42 | 4=>4 | n=>n,fun | n=>n⟩
theorem Tryz.keysA:Go.Proofs.SlLaysZ.n7 Tryz.prog Tryz.keysA_ren:={
 mixed:=by kernel_rfl
 f7:=⟨Tryz.f27.name,by decide,Tryz.func27.trans (congrArg some (by kernel_rfl))⟩
 f10:=⟨Tryz.f41.name,by decide,Tryz.func41.trans (congrArg some (by kernel_rfl))⟩
 t0:=Tryz.underlying0
 a0:=Tryz.isAgg0
 z0:=Tryz.sizeOf0
 v0:=Tryz.zeroValue0
 t4:=Tryz.underlying4
 a4:=Tryz.isAgg4
 z4:=Tryz.sizeOf4
 v4:=Tryz.zeroValue4
 t23:=Tryz.underlying51
 a23:=Tryz.isAgg51
 z23:=Tryz.sizeOf51
 v23:=Tryz.zeroValue51
 t26:=Tryz.underlying9
 a26:=Tryz.isAgg9
 z26:=Tryz.sizeOf9
 v26:=Tryz.zeroValue9
 t27:=Tryz.underlying54
 a27:=Tryz.isAgg54
 z27:=Tryz.sizeOf54
 v27:=Tryz.zeroValue54
 t28:=Tryz.underlying55
 a28:=Tryz.isAgg55
 z28:=Tryz.sizeOf55
 v28:=Tryz.zeroValue55
 t33:=Tryz.underlying42
 a33:=Tryz.isAgg42
 z33:=Tryz.sizeOf42
 v33:=Tryz.zeroValue42 }
def Tryz.sortedA_ren:Go.Shelf.Ren:=⟨fun | 6=>26 | 8=>39 | 9=>40 | 11=>57 | 13=>59 | 12=>58 | 23=>93 | 24=>94 | 14=>84 | 15=>85 | 16=>86 | 17=>87 | 18=>88 | 19=>89 | 20=>90 | 21=>91 | 22=>92 | 25=>111 | 26=>112 | 27=>113 | 28=>114 | 29=>115 | 30=>116 | 31=>130 | n=>n,fun | 26=>9 | 28=>55 | 24=>22 | 0=>0 | 3=>3 | 37=>85 | 48=>126 | 50=>101 | 4=>4 | 40=>118 | 39=>117 | 45=>123 | 5=>5 | 9=>9 | 51=>148 | 55=>152 | 57=>160 | 58=>161 | 33=>42 | n=>n,fun | n=>n⟩
theorem Tryz.sortedA:Go.Proofs.SlLaysZ.n6 Tryz.prog Tryz.sortedA_ren:={
 mixed:=by kernel_rfl
 f6:=⟨Tryz.f26.name,by decide,Tryz.func26.trans (congrArg some (by kernel_rfl))⟩
 f8:=⟨Tryz.f39.name,by decide,Tryz.func39.trans (congrArg some (by kernel_rfl))⟩
 f11:=⟨Tryz.f57.name,by decide,Tryz.func57.trans (congrArg some (by kernel_rfl))⟩
 t0:=Tryz.underlying0
 a0:=Tryz.isAgg0
 z0:=Tryz.sizeOf0
 v0:=Tryz.zeroValue0
 t24:=Tryz.underlying22
 a24:=Tryz.isAgg22
 z24:=Tryz.sizeOf22
 v24:=Tryz.zeroValue22
 t26:=Tryz.underlying9
 a26:=Tryz.isAgg9
 z26:=Tryz.sizeOf9
 v26:=Tryz.zeroValue9
 t28:=Tryz.underlying55
 a28:=Tryz.isAgg55
 z28:=Tryz.sizeOf55
 v28:=Tryz.zeroValue55
 i26:=by kernel_rfl }
def Tryz.sortA_ren:Go.Shelf.Ren:=⟨fun | 6=>40 | 8=>59 | 9=>58 | 19=>93 | 20=>94 | 21=>84 | 22=>85 | 23=>86 | 24=>87 | 25=>88 | 26=>89 | 27=>90 | 28=>91 | 29=>92 | 36=>111 | 31=>112 | 32=>113 | 37=>114 | 38=>115 | 39=>116 | 41=>130 | n=>n,fun | 27=>22 | 29=>9 | 3=>3 | 32=>85 | 26=>22 | 0=>0 | 44=>126 | 46=>101 | 4=>4 | 36=>118 | 35=>117 | 41=>123 | 5=>5 | 9=>9 | 53=>148 | 57=>152 | 63=>160 | 64=>161 | n=>n,fun | n=>n⟩
theorem Tryz.sortA:Go.Proofs.SlLaysM.n6 Tryz.prog Tryz.sortA_ren:={
 mixed:=by kernel_rfl
 f6:=⟨Tryz.f40.name,by decide,Tryz.func40.trans (congrArg some (by kernel_rfl))⟩
 f8:=Tryz.func59.trans (congrArg some (by kernel_rfl))
 f9:=⟨Tryz.f58.name,by decide,Tryz.func58.trans (congrArg some (by kernel_rfl))⟩
 f19:=Tryz.func93.trans (congrArg some (by kernel_rfl))
 f20:=Tryz.func94.trans (congrArg some (by kernel_rfl))
 f21:=⟨Tryz.f84.name,by decide,Tryz.func84.trans (congrArg some (by kernel_rfl))⟩
 f22:=⟨Tryz.f85.name,by decide,Tryz.func85.trans (congrArg some (by kernel_rfl))⟩
 f23:=⟨Tryz.f86.name,by decide,Tryz.func86.trans (congrArg some (by kernel_rfl))⟩
 f24:=⟨Tryz.f87.name,by decide,Tryz.func87.trans (congrArg some (by kernel_rfl))⟩
 f25:=⟨Tryz.f88.name,by decide,Tryz.func88.trans (congrArg some (by kernel_rfl))⟩
 f26:=⟨Tryz.f89.name,by decide,Tryz.func89.trans (congrArg some (by kernel_rfl))⟩
 f27:=⟨Tryz.f90.name,by decide,Tryz.func90.trans (congrArg some (by kernel_rfl))⟩
 f28:=⟨Tryz.f91.name,by decide,Tryz.func91.trans (congrArg some (by kernel_rfl))⟩
 f29:=⟨Tryz.f92.name,by decide,Tryz.func92.trans (congrArg some (by kernel_rfl))⟩
 f31:=Tryz.func112.trans (congrArg some (by kernel_rfl))
 f32:=Tryz.func113.trans (congrArg some (by kernel_rfl))
 f36:=⟨Tryz.f111.name,by decide,Tryz.func111.trans (congrArg some (by kernel_rfl))⟩
 f37:=⟨Tryz.f114.name,by decide,Tryz.func114.trans (congrArg some (by kernel_rfl))⟩
 f38:=⟨Tryz.f115.name,by decide,Tryz.func115.trans (congrArg some (by kernel_rfl))⟩
 f39:=⟨Tryz.f116.name,by decide,Tryz.func116.trans (congrArg some (by kernel_rfl))⟩
 f41:=⟨Tryz.f130.name,by decide,Tryz.func130.trans (congrArg some (by kernel_rfl))⟩
 t0:=Tryz.underlying0
 a0:=Tryz.isAgg0
 z0:=Tryz.sizeOf0
 v0:=Tryz.zeroValue0
 t3:=Tryz.underlying3
 a3:=Tryz.isAgg3
 z3:=Tryz.sizeOf3
 v3:=Tryz.zeroValue3
 t4:=Tryz.underlying4
 a4:=Tryz.isAgg4
 z4:=Tryz.sizeOf4
 v4:=Tryz.zeroValue4
 t5:=Tryz.underlying5
 a5:=Tryz.isAgg5
 z5:=Tryz.sizeOf5
 v5:=Tryz.zeroValue5
 t9:=Tryz.underlying9
 a9:=Tryz.isAgg9
 z9:=Tryz.sizeOf9
 v9:=Tryz.zeroValue9
 t26:=Tryz.underlying22
 a26:=Tryz.isAgg22
 z26:=Tryz.sizeOf22
 v26:=Tryz.zeroValue22
 t27:=Tryz.underlying22
 a27:=Tryz.isAgg22
 z27:=Tryz.sizeOf22
 v27:=Tryz.zeroValue22
 t29:=Tryz.underlying9
 a29:=Tryz.isAgg9
 z29:=Tryz.sizeOf9
 v29:=Tryz.zeroValue9
 t32:=Tryz.underlying85
 a32:=Tryz.isAgg85
 z32:=Tryz.sizeOf85
 v32:=Tryz.zeroValue85
 t35:=Tryz.underlying117
 a35:=Tryz.isAgg117
 z35:=Tryz.sizeOf117
 v35:=Tryz.zeroValue117
 t36:=Tryz.underlying118
 a36:=Tryz.isAgg118
 z36:=Tryz.sizeOf118
 v36:=Tryz.zeroValue118
 t41:=Tryz.underlying123
 a41:=Tryz.isAgg123
 z41:=Tryz.sizeOf123
 v41:=Tryz.zeroValue123
 t44:=Tryz.underlying126
 a44:=Tryz.isAgg126
 z44:=Tryz.sizeOf126
 v44:=Tryz.zeroValue126
 t46:=Tryz.underlying101
 a46:=Tryz.isAgg101
 z46:=Tryz.sizeOf101
 v46:=Tryz.zeroValue101
 t53:=Tryz.underlying148
 a53:=Tryz.isAgg148
 z53:=Tryz.sizeOf148
 v53:=Tryz.zeroValue148
 t57:=Tryz.underlying152
 a57:=Tryz.isAgg152
 z57:=Tryz.sizeOf152
 v57:=Tryz.zeroValue152
 t63:=Tryz.underlying160
 a63:=Tryz.isAgg160
 z63:=Tryz.sizeOf160
 v63:=Tryz.zeroValue160
 t64:=Tryz.underlying161
 a64:=Tryz.isAgg161
 z64:=Tryz.sizeOf161
 v64:=Tryz.zeroValue161 }
def Tryz.lays156_ren:Go.Shelf.Ren:=⟨fun | 156=>47 | 165=>67 | 166=>68 | 169=>69 | 240=>102 | 241=>103 | 276=>120 | 277=>121 | n=>n,fun | 31=>22 | 9=>9 | 3=>3 | 4=>4 | 0=>0 | 20=>20 | 72=>94 | 76=>98 | 70=>92 | 37=>38 | 75=>97 | 127=>137 | 164=>158 | 5=>5 | 80=>100 | n=>n,fun | n=>n⟩
theorem Tryz.lays156:Go.Proofs.Lays.n156 Tryz.prog Tryz.lays156_ren:={
 mixed:=by kernel_rfl
 f156:=Tryz.func47.trans (congrArg some (by kernel_rfl))
 f165:=Tryz.func67.trans (congrArg some (by kernel_rfl))
 f166:=Tryz.func68.trans (congrArg some (by kernel_rfl))
 f169:=Tryz.func69.trans (congrArg some (by kernel_rfl))
 f240:=Tryz.func102.trans (congrArg some (by kernel_rfl))
 f241:=Tryz.func103.trans (congrArg some (by kernel_rfl))
 f276:=Tryz.func120.trans (congrArg some (by kernel_rfl))
 f277:=Tryz.func121.trans (congrArg some (by kernel_rfl))
 t0:=Tryz.underlying0
 a0:=Tryz.isAgg0
 z0:=Tryz.sizeOf0
 v0:=Tryz.zeroValue0
 t3:=Tryz.underlying3
 a3:=Tryz.isAgg3
 z3:=Tryz.sizeOf3
 v3:=Tryz.zeroValue3
 t4:=Tryz.underlying4
 a4:=Tryz.isAgg4
 z4:=Tryz.sizeOf4
 v4:=Tryz.zeroValue4
 t9:=Tryz.underlying9
 a9:=Tryz.isAgg9
 z9:=Tryz.sizeOf9
 v9:=Tryz.zeroValue9
 t20:=Tryz.underlying20
 a20:=Tryz.isAgg20
 z20:=Tryz.sizeOf20
 v20:=Tryz.zeroValue20
 t31:=Tryz.underlying22
 a31:=Tryz.isAgg22
 z31:=Tryz.sizeOf22
 v31:=Tryz.zeroValue22
 t37:=Tryz.underlying38
 a37:=Tryz.isAgg38
 z37:=Tryz.sizeOf38
 v37:=Tryz.zeroValue38
 t70:=Tryz.underlying92
 a70:=Tryz.isAgg92
 z70:=Tryz.sizeOf92
 v70:=Tryz.zeroValue92
 t72:=Tryz.underlying94
 a72:=Tryz.isAgg94
 z72:=Tryz.sizeOf94
 v72:=Tryz.zeroValue94
 t75:=Tryz.underlying97
 a75:=Tryz.isAgg97
 z75:=Tryz.sizeOf97
 v75:=Tryz.zeroValue97
 t76:=Tryz.underlying98
 a76:=Tryz.isAgg98
 z76:=Tryz.sizeOf98
 v76:=Tryz.zeroValue98
 t127:=Tryz.underlying137
 a127:=Tryz.isAgg137
 z127:=Tryz.sizeOf137
 v127:=Tryz.zeroValue137
 t164:=Tryz.underlying158
 a164:=Tryz.isAgg158
 z164:=Tryz.sizeOf158
 v164:=Tryz.zeroValue158 }
theorem Tryz.bldExtra:Builder.Extra Tryz.prog Tryz.lays156_ren:={
 sizeBuilder:=by kernel_rfl
 liesBuilder:=by kernel_rfl
 t5:=Tryz.underlying5
 a5:=Tryz.isAgg5
 z5:=Tryz.sizeOf5
 v5:=Tryz.zeroValue5
 infoByte:=by kernel_rfl
 cellsByte:=by kernel_rfl
 sizeByte:=by kernel_rfl
 neB5:=by decide }
end Go.Proofs
namespace Go.Proofs.YtblpkmmhmdpkjaaGreatDoor
open Go.RowKit Go.Maps Go.Sort Go.Shelf
theorem ztt (m:Nat):AnyZ.SortsIn Tryz.prog Tryz.sortedA_ren Fence.wide m:=
 ⟨fun blk off cap ss W hH hblk hsz=>callsIn_wide.2 (AnyM.slices_Sort_string Tryz.sortA blk off cap ss W hH hblk hsz),
  fun p cap W=>callsIn_wide.2 (AnyM.slices_Sort_string_none Tryz.sortA p cap W)⟩
theorem zqA (mb:Option Nat) (W:World):Calls Tryz.prog 27 #[.map mb] W fun e w'=>e=.returned (.func (.func 41) #[] #[.pointer (some ⟨W.heap.size,0,none⟩)])∧w'=W.alloc (.cells #[.map mb] 51):=
 (callsIn_wide (n:=5)).1 (AnyZ.keys_in Tryz.keysA Fence.wide 5 trivial rfl mb W)
theorem Tryz.keyS:Keyed Tryz.prog 9:=string_keyed Tryz.underlying9
theorem zl6 (l:List ByteArray) (b nn:Nat) (w:World) (hown:w.ownsMap Tryz.prog 9 unitElem b nn (jset l)) (hn:nn≤1000000) :
  Calls Tryz.prog 26 #[.func (.func 41) #[] #[.pointer (some ⟨w.heap.size,0,none⟩)]] (w.alloc (.cells #[.map (some b)] 51)) fun e w' =>
   ∃ v n,e=.returned v∧w'.ownsRow w.heap.size 9 1 v n ((zbw l).map Value.string)∧Below w.heap.size w w':=by
 have hbl:=hown.lt
 have hsz:Maps.size (jset l)≤nn:=hown.size_le
 have hkeys:∃ es,jset l=.map es∧∀ p∈es,∃ x,p.1=.string x:=by
  obtain ⟨es,he,hk⟩:=hown.keysOf
  refine ⟨es,he,fun p hp=>?_⟩
  obtain ⟨key,hkey⟩:=hk p hp
  obtain ⟨x,_,hx,_⟩:=Maps.keyOf_str Tryz.underlying9 hkey
  exact ⟨x,hx⟩
 have hseq:SeqGives Fence.wide 2 Tryz.prog 41 #[.pointer (some ⟨w.heap.size,0,none⟩)] encStr (fun ss=>ss.Perm (strKeys (jset l))) (Maps.size (jset l)) (w.alloc (.cells #[.map (some b)] 51)):=
  AnyZ.keys_gives (ρ:=Tryz.keysA_ren) { Tryz.keysA with } Fence.wide _ trivial rfl (by omega) w.heap.size b nn (jset l) _ (by simp) (by simp) (by
   obtain ⟨es,clock,hb,Ft,hs,hD⟩:=hown
   exact ⟨es,clock,(Below.heap_alloc _ _ b hbl).trans hb,Ft,hs,hD⟩)
 have cS:=AnyZ.sorted_in Tryz.sortedA Fence.wide 5 trivial trivial trivial trivial rfl (by omega) (ztt _) (enters_of Tryz.func40 (by kernel_rfl) rfl) 41 #[.pointer (some ⟨w.heap.size,0,none⟩)] trivial (enters_of Tryz.func41 (by kernel_rfl) rfl) _ _ (by unfold maxLen;omega) (by omega) _ hseq
 refine (callsIn_wide.1 cS).mono ?_
 rintro e w' ⟨v,ss,rfl,hS,hrow,_,hb⟩
 rw [zr1 hS hkeys] at hrow
 exact ⟨v,_,rfl,ownsRow_base_a hrow (by simp),((Below.refl _ w).alloc (Nat.le_refl _) _).trans (hb.mono (by simp))⟩
def ztu (l:List ByteArray) (w:World) (i:Value) (wr:World):Prop:=
 ∃ k:Nat,k≤l.length∧i=.int .i64 (k:Int)∧wr.ownsMap Tryz.prog 9 unitElem w.heap.size k (jset (l.take k))∧Below w.heap.size w wr
theorem zot (l:List ByteArray) (v:Value) (w:World) (hv:IsV Value.string l v w) (hs:∀ s∈l,s.size≤maxLen) (hb:l.length≤1000000):Calls Tryz.prog 14 #[v] w (ztF w (zbw l)):=by
 obtain ⟨A,n,c,rfl⟩:=hv.shape
 have HN:=Lib.hid hv.parts.1
 have HV:=Lib.hid hv
 have HS:=Lib.hid hs
 have hn6:n≤1000000:=by have:=HN.out;omega
 have hst:ztu l w (.int .i64 0) (w.alloc (.map #[] 0)):=⟨0,Nat.zero_le _,rfl,World.ownsMap_made _ _ _ _,(Below.refl _ _).alloc (Nat.le_refl _) _⟩
 have HST:=Lib.hid hst
 have hmm:=@run_makeMap Tryz.prog
 clear hv hb hs hst
 go_enter Tryz.func14,Tryz.ntmps14
 go_wp2
 go_loopw [9] (ztu l w) (fun i _=>n - (intOf i).toNat)
 case atStart=>exact HST.out
 case round =>
  obtain ⟨k,hk,rfl,hown,hbw⟩:=hrel
  clear HST hmm
  have hkn:k≤n:=by have:=HN.out;omega
  have hz:=hbw.size
  by_cases hlt:k < n
  ·have hkl:k < l.length:=by have:=HN.out;omega
   have hlti:(k:Int) < (n:Int):=by omega
   obtain ⟨ad,rfl,had,hcell⟩:=(HV.out.below hbw).at hkl
   obtain ⟨x,hx⟩:∃ x,x=l[k]:=⟨_,rfl⟩
   rw [←hx] at hcell
   have hkey:keyOf Tryz.prog 9 (.string x)=some (jkey x):=Go.WideMaps.keyOf_string_mk Tryz.underlying9 (by rw [hx];exact HS.out _ (List.getElem_mem hkl))
   have HNX:=Lib.hid (zqx hkl)
   rw [←hx] at HNX
   clear hx had
   go_wp2_with (first | (at_mapUpdate;refine wpList_mapUpdate_own _ rfl _ _ _ 51 rfl 9 52 Tryz.keyS Tryz.underlying51 unitElem w.heap.size k _ rfl hown (by unfold maxLen;omega) _ _ _ rfl rfl hkey _ [] unitElem_mk ?_) | go_in)
   intro w1 hown1 hgrow1
   have HO:=Lib.hid hown1
   rw [←HNX.out] at HO
   have HB:=Lib.hid (hbw.grown hgrow1 hz (fun j hj=>by cases hj;exact Nat.le_refl _))
   clear hown1 hgrow1 hown hcell
   go_wp2
   go_roundw
   case rel=>exact ⟨k+1,hkl,by go_num,HO.out,HB.out⟩
   case measure=>simp [intOf];omega
  ·obtain rfl:k=n:=by omega
   have hlti:¬(k:Int) < (k:Int):=by omega
   have HT:=Lib.hid (show l.take k=l from List.take_of_length_le (by have:=HN.out;omega))
   rw [HT.out] at hown
   have HSO:=Lib.hid (zl6 l w.heap.size k wr hown hn6)
   have HBW:=Lib.hid hbw
   clear hown hbw
   go_wp2_with fail
   refine (zqA _ _).mono ?_
   rintro e w' ⟨rfl,rfl⟩
   go_wp2_with fail
   refine HSO.out.mono ?_
   rintro e w2 ⟨v2,m,rfl,hrow,hb2⟩
   have HR:=Lib.hid (show OwnV Value.string 9 w (zbw l) v2 w2 from ⟨m,ownsRow_base_a hrow (by omega)⟩)
   have HB2:=Lib.hid (za HBW.out hb2)
   clear hrow hb2
   go_wp2
   go_ret
   exact ⟨_,rfl,HR.out,HB2.out⟩
end Go.Proofs.YtblpkmmhmdpkjaaGreatDoor
namespace Go.Proofs.YtblpkmmhmdpkjaaGreatDoor
open Go.RowKit Go.Maps
theorem zqB (s:ByteArray) (w:World):Calls Tryz.prog 35 #[.string s] w fun e w'=>e=.returned (.int .i64 (s.size:Int))∧w=w':=by
 go_enter Tryz.func35,Tryz.ntmps35
 go_wp2
 go_ret
 exact ⟨rfl,rfl⟩
theorem ztH (w:World):(zeroValue 3).run Tryz.prog w=.ok (.int .i64 0) w:=by kernel_rfl
structure PlaceMap (ws:List ByteArray) (b B:Nat) (w:World):Prop where
 box:Row w b 67 [.map (some B)]
 own:w.ownsMap Tryz.prog 9 (plainElem Tryz.prog 3) B ws.length (jmap ws ws.length)
theorem PlaceMap.below {ws:List ByteArray} {b B:Nat} {w w':World} (h:PlaceMap ws b B w) (hb:Below w.heap.size w w'):PlaceMap ws b B w':=by
 refine ⟨h.box.below hb h.box.lt,?_⟩
 have hlt:=h.own.lt
 obtain ⟨es,clock,h1,r⟩:=h.own
 exact ⟨es,clock,(hb.block B hlt).trans h1,r⟩
theorem zl7 (ws:List ByteArray) (s:ByteArray) (b B:Nat) (w:World) (hm:PlaceMap ws b B w) (hr:zeQ ws) (hs:s∈ws) (hz:s.size≤maxLen) :
  Calls Tryz.prog 36 #[.string s,.pointer (some ⟨b,0,none⟩)] w fun e w'=>e=.returned (.int .i64 (zc8 ws s:Int))∧w=w':=by
 obtain ⟨c,hrun,hat,_⟩:=hm.own.lookup_int Tryz.keyS Tryz.underlying67 Tryz.underlying3 (ztH _) (Go.WideMaps.keyOf_string_mk Tryz.underlying9 hz)
 have hj:=zos hr hs (.lit (.int .i64 0))
 unfold jkey at hj
 rw [hj] at hat
 injection hat with hat
 injection hat with _ hat
 subst hat
 have hc:w.cell? ⟨b,0,none⟩=some (.map (some B)):=hm.box.cell 0
 clear hj hm hr hs hz
 go_enter Tryz.func36,Tryz.ntmps36
 go_wp2
 go_ret
 exact ⟨rfl,rfl⟩
theorem zfr {α:Type} (o:List α) (k:Nat) (x:α) (h:k < o.length):(o.set k x).take (k+1)=o.take k ++ [x]:=by
 rw [List.take_succ_eq_append_getElem (by simpa using h),List.take_set_of_le (Nat.le_refl _)]
 simp
def zjh (T:List Int) (m g:Nat) (w:World) (i:Value) (wr:World):Prop:=
 ∃ (k:Nat) (o:List Int),k≤m∧i=.int .i64 (k:Int)∧o.length=m∧o.take k=T.take k∧Row wr g 3 (o.map iv)∧Below g w wr
theorem zf8 (l:List ByteArray) (v:Value) (w:World) (ht:WTab w) (hv:IsV Value.string l v w) (hb:l.length≤4096) (hs:∀ s∈l,s.size≤300) :
  Calls Tryz.prog 34 #[v,.func (.func 35) #[] #[]] w fun e w'=>∃ u,e=.returned u∧IsB (zbY (zdT l) false).1 u w'∧Below w.heap.size w w':=by
 obtain ⟨A,n,c,rfl⟩:=hv.shape
 have HN:=Lib.hid hv.parts.1
 have HV:=Lib.hid hv
 have HT:=Lib.hid ht
 have HSZ:=Lib.hid hs
 have hn6:n≤4096:=by have:=HN.out;omega
 obtain ⟨T,hT⟩:∃ T,T=(zdT l):=⟨_,rfl⟩
 have HTL:=Lib.hid (show T.length=n by rw [hT,zdT,List.length_map];exact HN.out)
 have HTI:=Lib.hid (show ∀ x∈T,inInt x by
  intro x hx
  rw [hT,zdT] at hx
  obtain ⟨s,h1,rfl⟩:=List.mem_map.1 hx
  have:=hs s h1
  unfold inInt
  omega)
 have HTN:=Lib.hid (show ∀ k,(hk:k < l.length)→T.take (k+1)=T.take k ++ [(l[k].size:Int)] by
  intro k hk
  rw [List.take_succ_eq_append_getElem (by rw [HTL.out,←HN.out];exact hk)]
  simp [hT,zdT])
 rw [←hT]
 clear hv hb ht hs hT
 go_enter Tryz.func34,Tryz.ntmps34
 go_wp2_with (refine zA zdk rfl _ _ rfl _ _ _ _ n w w.heap.size rfl rfl rfl rfl (by omega) (by omega) (Below.refl _ _) (Nat.le_refl _) ?_)
 intro w1 hr1 hb1
 have HST:=Lib.hid (show zjh T n w.heap.size w (.int .i64 0) w1 from ⟨0,List.replicate n 0,by omega,rfl,by simp,by simp,by rw [List.map_replicate];exact hr1,hb1⟩)
 clear hr1 hb1
 go_wp2
 go_loopw [15] (zjh T n w.heap.size w) (fun i _=>n - (intOf i).toNat)
 case atStart=>exact HST.out
 case round =>
  obtain ⟨k,o,hk,rfl,ho,hok,hr,hbr⟩:=hrel
  clear HST
  have HO:=Lib.hid ho
  have HOK:=Lib.hid hok
  clear ho hok
  by_cases hlt:k < n
  ·have hkl:k < l.length:=by have:=HN.out;omega
   have hlti:(k:Int) < (n:Int):=by omega
   obtain ⟨ad,rfl,had,hcell⟩:=(HV.out.below hbr).at hkl
   obtain ⟨x,hx⟩:∃ x,x=l[k]:=⟨_,rfl⟩
   rw [←hx] at hcell
   have hxm:x∈l:=by rw [hx];exact List.getElem_mem hkl
   have HTK:=Lib.hid (HTN.out k hkl)
   rw [←hx] at HTK
   have hko:k < o.length:=by have:=HO.out;omega
   have hcx:wr.cell? ⟨w.heap.size,k,none⟩=some (iv o[k]):=by rw [hr.cell,List.getElem?_map,List.getElem?_eq_getElem hko];rfl
   have hfx:=hr.free k
   have HCL:=Lib.hid (zqB x wr)
   have hr2:=hr.set_ k (iv (x.size:Int))
   rw [show (o.map iv).set k (iv (x.size:Int))=(o.set k (x.size:Int)).map iv from List.map_set.symm] at hr2
   have HR2:=Lib.hid hr2
   have HBR:=Lib.hid hbr
   clear hr2 hr hx hxm had hbr
   go_wp2_with fail
   refine HCL.out.mono ?_
   rintro e w2 ⟨rfl,rfl⟩
   go_wp2
   go_roundw
   case rel =>
    refine ⟨k+1,o.set k (x.size:Int),by omega,by go_num,by rw [List.length_set];exact HO.out,?_,HR2.out,HBR.out.setCell (Nat.le_refl _) _⟩
    rw [zfr _ _ _ hko,HOK.out,HTK.out]
   case measure=>simp [intOf];omega
  ·obtain rfl:k=n:=by omega
   have hlti:¬(k:Int) < (k:Int):=by omega
   have hT2:o=T:=by
    have h1:=HOK.out
    rw [List.take_of_length_le (by rw [HO.out];omega),List.take_of_length_le (by rw [HTL.out];omega)] at h1
    exact h1
   subst hT2
   have HI:=Lib.hid (zcB (f:=iv) hr HO.out (by omega))
   have HBR:=Lib.hid (hbr.mono (Nat.le_refl _))
   have HTT:=Lib.hid (HT.out.below hbr HT.out.lt)
   have HU:=Lib.hid (zmX o _ false wr HTT.out HI.out HTI.out (by rw [HO.out];omega))
   clear hr hbr
   go_wp2_with fail
   refine HU.out.mono ?_
   rintro e w2 ⟨u,rfl,hu,hb2⟩
   have HB:=Lib.hid hu
   have HB2:=Lib.hid (za HBR.out hb2)
   clear hu hb2
   go_wp2
   go_ret
   exact ⟨_,rfl,HB.out,HB2.out⟩
theorem zji (ws l:List ByteArray) (b B:Nat) (v:Value) (w:World) (ht:WTab w) (hv:IsV Value.string l v w) (hb:l.length≤4096) (hs:∀ s∈l,s.size≤300) (hpm:PlaceMap ws b B w) (hri:zeQ ws) (hmm:∀ s∈l,s∈ws) (hwl:ws.length≤4096) :
  Calls Tryz.prog 34 #[v,.func (.func 36) #[] #[.pointer (some ⟨b,0,none⟩)]] w fun e w'=>∃ u,e=.returned u∧IsB (zbY (zcC ws l) false).1 u w'∧Below w.heap.size w w':=by
 obtain ⟨A,n,c,rfl⟩:=hv.shape
 have HN:=Lib.hid hv.parts.1
 have HV:=Lib.hid hv
 have HT:=Lib.hid ht
 have HSZ:=Lib.hid hs
 have hn6:n≤4096:=by have:=HN.out;omega
 have HPM:=Lib.hid hpm
 have HRI:=Lib.hid hri
 have HMM:=Lib.hid hmm
 have HWL:=Lib.hid hwl
 obtain ⟨T,hT⟩:∃ T,T=(zcC ws l):=⟨_,rfl⟩
 have HTL:=Lib.hid (show T.length=n by rw [hT,zcC,List.length_map];exact HN.out)
 have HTI:=Lib.hid (show ∀ x∈T,inInt x by
  intro x hx
  rw [hT,zcC] at hx
  obtain ⟨s,h1,rfl⟩:=List.mem_map.1 hx
  obtain ⟨h3,_⟩:=zht (HMM.out s h1)
  have:=HWL.out
  unfold inInt
  omega)
 have HTN:=Lib.hid (show ∀ k,(hk:k < l.length)→T.take (k+1)=T.take k ++ [(zc8 ws l[k]:Int)] by
  intro k hk
  rw [List.take_succ_eq_append_getElem (by rw [HTL.out,←HN.out];exact hk)]
  simp [hT,zcC])
 rw [←hT]
 clear hv hb ht hs hT hpm hri hmm hwl
 go_enter Tryz.func34,Tryz.ntmps34
 go_wp2_with (refine zA zdk rfl _ _ rfl _ _ _ _ n w w.heap.size rfl rfl rfl rfl (by omega) (by omega) (Below.refl _ _) (Nat.le_refl _) ?_)
 intro w1 hr1 hb1
 have HST:=Lib.hid (show zjh T n w.heap.size w (.int .i64 0) w1 from ⟨0,List.replicate n 0,by omega,rfl,by simp,by simp,by rw [List.map_replicate];exact hr1,hb1⟩)
 clear hr1 hb1
 go_wp2
 go_loopw [15] (zjh T n w.heap.size w) (fun i _=>n - (intOf i).toNat)
 case atStart=>exact HST.out
 case round =>
  obtain ⟨k,o,hk,rfl,ho,hok,hr,hbr⟩:=hrel
  clear HST
  have HO:=Lib.hid ho
  have HOK:=Lib.hid hok
  clear ho hok
  by_cases hlt:k < n
  ·have hkl:k < l.length:=by have:=HN.out;omega
   have hlti:(k:Int) < (n:Int):=by omega
   obtain ⟨ad,rfl,had,hcell⟩:=(HV.out.below hbr).at hkl
   obtain ⟨x,hx⟩:∃ x,x=l[k]:=⟨_,rfl⟩
   rw [←hx] at hcell
   have hxm:x∈l:=by rw [hx];exact List.getElem_mem hkl
   have HTK:=Lib.hid (HTN.out k hkl)
   rw [←hx] at HTK
   have hko:k < o.length:=by have:=HO.out;omega
   have hcx:wr.cell? ⟨w.heap.size,k,none⟩=some (iv o[k]):=by rw [hr.cell,List.getElem?_map,List.getElem?_eq_getElem hko];rfl
   have hfx:=hr.free k
   have HCL:=Lib.hid (zl7 ws x b B wr (HPM.out.below hbr) HRI.out (HMM.out x hxm) (by have:=HSZ.out x hxm;unfold maxLen;omega))
   obtain ⟨p,hp⟩:∃ p,p=zc8 ws x:=⟨_,rfl⟩
   rw [←hp] at HCL HTK
   clear hp
   have hr2:=hr.set_ k (iv (p:Int))
   rw [show (o.map iv).set k (iv (p:Int))=(o.set k (p:Int)).map iv from List.map_set.symm] at hr2
   have HR2:=Lib.hid hr2
   have HBR:=Lib.hid hbr
   clear hr2 hr hx hxm had hbr
   go_wp2_with fail
   refine HCL.out.mono ?_
   rintro e w2 ⟨rfl,rfl⟩
   go_wp2
   go_roundw
   case rel =>
    refine ⟨k+1,o.set k (p:Int),by omega,by go_num,by rw [List.length_set];exact HO.out,?_,HR2.out,HBR.out.setCell (Nat.le_refl _) _⟩
    rw [zfr _ _ _ hko,HOK.out,HTK.out]
   case measure=>simp [intOf];omega
  ·obtain rfl:k=n:=by omega
   have hlti:¬(k:Int) < (k:Int):=by omega
   have hT2:o=T:=by
    have h1:=HOK.out
    rw [List.take_of_length_le (by rw [HO.out];omega),List.take_of_length_le (by rw [HTL.out];omega)] at h1
    exact h1
   subst hT2
   have HI:=Lib.hid (zcB (f:=iv) hr HO.out (by omega))
   have HBR:=Lib.hid (hbr.mono (Nat.le_refl _))
   have HTT:=Lib.hid (HT.out.below hbr HT.out.lt)
   have HU:=Lib.hid (zmX o _ false wr HTT.out HI.out HTI.out (by rw [HO.out];omega))
   clear hr hbr
   go_wp2_with fail
   refine HU.out.mono ?_
   rintro e w2 ⟨u,rfl,hu,hb2⟩
   have HB:=Lib.hid hu
   have HB2:=Lib.hid (za HBR.out hb2)
   clear hu hb2
   go_wp2
   go_ret
   exact ⟨_,rfl,HB.out,HB2.out⟩
theorem ziz:∀ l:List ByteArray,Lib.join (l.map (·.data.toList)) (⟨#[]⟩:ByteArray).data.toList=zbq l
 | []=>rfl
 | x::l=>by
  have h:∀ r:List ByteArray,Lib.joinTail [] (r.map (·.data.toList))=zbq r:=by
   intro r
   unfold Lib.joinTail zbq
   rw [List.flatMap_def,List.map_map]
   congr 1
   refine List.map_congr_left fun y _=>?_
   rw [ByteArray.toList_eq]
   rfl
  show Lib.join (x.data.toList::l.map (·.data.toList)) []=_
  rw [Lib.join_cons,h]
  unfold zbq
  rw [List.flatMap_cons,ByteArray.toList_eq]
theorem zr2 (s:ByteArray) (w:World) (e:TypeId) (hs:s.size≤maxLen):IsB s.data.toList (.slice (some ⟨w.heap.size,0,none⟩) s.size (grownCap w s.size 0 e)) (Lib.bytesWorld w e s):=by
 refine ⟨_,_,rfl,by simp,?_,grownCap_le_maxLen _ _ _ _ hs,.inr ⟨_,rfl,by simp [Lib.bytesWorld_size],fun j u hu=>?_⟩⟩
 ·show s.data.toList.length≤_
  rw [Array.length_toList]
  exact grownCap_ge _ _ _ _
 ·rw [List.getElem?_map,Option.map_eq_some_iff] at hu
  obtain ⟨y,hy,rfl⟩:=hu
  have hj:j < s.size:=by
   have h:=(List.getElem?_eq_some_iff.1 hy).1
   rwa [Array.length_toList] at h
  have he:(⟨w.heap.size,0,none⟩:Addr).add j=⟨w.heap.size,j,none⟩:=by unfold Addr.add;split <;> simp_all
  rw [he,Lib.bytesWorld_cell w e s j hj,List.getD_eq_getElem?_getD,hy]
  rfl
theorem zou (s:ByteArray) (w:World) (e:TypeId):Below w.heap.size w (Lib.bytesWorld w e s):=⟨rfl,rfl,rfl,by rw [Lib.bytesWorld_size];omega,fun k hk=>Lib.bytesWorld_at_old w e s k hk⟩
theorem zhx (l:List ByteArray) (v:Value) (w:World) (hv:IsV Value.string l v w) (hb:l.length≤4096) (hs:∀ s∈l,s.size≤300) :
  Calls Tryz.prog 33 #[v] w fun e w'=>∃ u,e=.returned u∧IsB (zbq l) u w'∧Below w.heap.size w w':=by
 obtain ⟨A,n,c,rfl⟩:=hv.shape
 have hn:=hv.parts.1
 have hjl:(zbq l).length≤300*4096:=Nat.le_trans (ziu hs) (Nat.mul_le_mul_left _ hb)
 have hJ:Calls Tryz.prog 47 #[.slice A n c,.string ⟨#[]⟩] w fun e w'=>e=.returned (.string ⟨(zbq l).toArray⟩)∧Below w.heap.size w w':=by
  subst hn
  rcases Nat.eq_zero_or_pos l.length with h0 | h0
  ·have hl:l=[]:=List.eq_nil_of_length_eq_zero h0
   subst hl
   exact (Any.strings_Join_none Tryz.lays156 Tryz.bldExtra A c ⟨#[]⟩ w).mono fun e w' h=>⟨h.1,h.2 ▸ Below.refl _ _⟩
  ·obtain ⟨ad,rfl,hlt,hc⟩:=hv.at h0
   have hsp:=World.cell?_spot hc
   obtain ⟨g,o,sp⟩:=ad
   have hsp2:sp=none:=by simpa [Addr.add] using hsp
   subst hsp2
   have h:=Any.strings_Join Tryz.lays156 Tryz.bldExtra g o c l ⟨#[]⟩ w (fun j x hx=>by
    obtain ⟨hj,he⟩:=List.getElem?_eq_some_iff.1 hx
    obtain ⟨ad2,h1,_,h2⟩:=hv.at hj
    injection h1 with h1
    subst h1
    rw [←he]
    have e:(⟨g,o,none⟩:Addr).add j=⟨g,o+j,none⟩:=by unfold Addr.add;split <;> simp_all
    rw [←e]
    exact h2) hlt (by omega) hv.parts.2.2.1 (by rw [ziz];omega)
   rw [ziz] at h
   exact h
 have HJ:=Lib.hid hJ
 have hz:(⟨(zbq l).toArray⟩:ByteArray).size≤maxLen:=by
  show (zbq l).toArray.size≤maxLen
  rw [List.size_toArray]
  unfold maxLen
  omega
 obtain ⟨s,hse⟩:∃ s:ByteArray,s=⟨(zbq l).toArray⟩:=⟨_,rfl⟩
 have hsl:s.data.toList=zbq l:=by rw [hse]
 rw [←hse] at HJ hz
 rw [←hsl]
 have HCV:=Lib.hid (fun X:World=>Lib.run_convert_string_bytes (P:=Tryz.prog) X 9 38 5 s Tryz.underlying9 Tryz.underlying38 Tryz.underlying5)
 have HI:=Lib.hid (fun X:World=>zr2 s X 5 hz)
 clear hv hb hs hJ hjl hn hse hsl hz
 go_enter Tryz.func33,Tryz.ntmps33
 go_wp2_with fail
 refine HJ.out.mono ?_
 rintro e w1 ⟨rfl,hb1⟩
 have hcv:=HCV.out w1
 have HI1:=Lib.hid (HI.out w1)
 have HB:=Lib.hid (za hb1 (zou s w1 5))
 obtain ⟨W,hW⟩:∃ W,W=Lib.bytesWorld w1 5 s:=⟨_,rfl⟩
 rw [←hW] at hcv HI1 HB
 clear hb1 hW
 go_wp2
 go_ret
 exact ⟨_,rfl,HI1.out,HB.out⟩
theorem zf9 {P:Program} {fn:Func} {p:Tmp} {ty:TypeId} (h:fn.results = #[.cell p ty]) (tmps:Array Value) (w:World) (g:Nat) (t:TypeId) (cs:Array Value) (fr:Nat × Nat) (d:TypeDesc)
  (hp:tmps.getD p undef=.pointer (some ⟨g,0,none⟩)) (hg:w.heap[g]? = some (.cells cs t fr))
  (hu:P.underlying ty=some d) (hd:(match d with | .struct _ | .array _ _=>true | _=>false)=true) (hi:(P.info? ty).map (·.size)=some cs.size) :
  (results fn tmps).run P w=.ok (.agg cs) w:=by
 have hp':tmps[p]?.getD undef=Value.pointer (some ⟨g,0,none⟩):=by simpa using hp
 simp only [results,h]
 simp [hp',asAddr,run_loadVar_row w g t ty cs fr d hg hu hd hi]
def jbig (s:ByteArray):Bool:=decide (300 < s.size)
theorem zr3 (s:ByteArray) (w:World):Calls Tryz.prog 20 #[.string s] w fun e w'=>e=.returned (.bool (jbig s))∧w=w':=by
 have hd:decide ((300:Int) < (s.size:Int))=jbig s:=by unfold jbig;rw [decide_eq_decide];omega
 obtain ⟨q,hq⟩:∃ q,q=jbig s:=⟨_,rfl⟩
 rw [←hq] at hd ⊢
 clear hq
 go_enter Tryz.func20,Tryz.ntmps20
 go_wp2
 go_ret
 exact ⟨rfl,rfl⟩
def zs3 (l:List ByteArray) (w:World) (i:Value) (wr:World):Prop:=∃ k:Nat,k≤l.length∧i=.int .i64 (k:Int)∧(l.take k).any jbig=false∧wr=w
theorem zov (l:List ByteArray) (v:Value) (w:World) (hv:IsV Value.string l v w) (hb:l.length≤1000000) :
  Calls Tryz.prog 32 #[v,.func (.func 20) #[] #[]] w
   fun e w'=>(∃ r:Int,e=.returned (.int .i64 r)∧decide (0≤r)=l.any jbig)∧w=w':=by
 obtain ⟨A,n,c,rfl⟩:=hv.shape
 have HN:=Lib.hid hv.parts.1
 have HV:=Lib.hid hv
 have hn6:n≤1000000:=by have:=HN.out;omega
 clear hv hb
 go_enter Tryz.func32,Tryz.ntmps32
 go_wp2
 go_loopw [8] (zs3 l w) (fun i _=>n - (intOf i).toNat)
 case atStart=>exact ⟨0,Nat.zero_le _,rfl,rfl,rfl⟩
 case round =>
  obtain ⟨k,hk,rfl,hs,hw⟩:=hrel
  subst hw
  have HSM:=Lib.hid hs
  have hkn:k≤n:=by have:=HN.out;omega
  clear hs hk
  by_cases hlt:k < n
  ·have hkl:k < l.length:=by have:=HN.out;omega
   have hlti:(k:Int) < (n:Int):=by omega
   obtain ⟨ad,rfl,had,hcell⟩:=HV.out.at hkl
   obtain ⟨x,hx⟩:∃ x,x=l[k]:=⟨_,rfl⟩
   rw [←hx] at hcell
   have hxm:x∈l:=by rw [hx];exact List.getElem_mem hkl
   have HL:=Lib.hid (zr3 x wr)
   have HSN:=Lib.hid (show (l.take (k+1)).any jbig=jbig x by rw [List.take_succ_eq_append_getElem hkl,List.any_append,HSM.out,hx];simp)
   have HAL:=Lib.hid (show jbig x=true→l.any jbig=true from fun h=>List.any_eq_true.2 ⟨x,hxm,h⟩)
   clear hx hxm had
   generalize hq:jbig x=p at HL HSN HAL
   clear hq
   cases p with
   | true =>
    have HA:=Lib.hid (HAL.out rfl)
    go_wp2_with fail
    refine HL.out.mono ?_
    rintro e w1 ⟨rfl,rfl⟩
    go_wp2
    go_ret
    exact ⟨⟨_,rfl,by rw [HA.out];exact decide_eq_true (by omega)⟩,rfl⟩
   | false =>
    go_wp2_with fail
    refine HL.out.mono ?_
    rintro e w1 ⟨rfl,rfl⟩
    go_wp2
    go_roundw
    case rel=>exact ⟨k+1,hkl,by go_num,HSN.out,rfl⟩
    case measure=>simp [intOf];omega
  ·obtain rfl:k=n:=by omega
   have hlti:¬(k:Int) < (k:Int):=by omega
   have HA:=Lib.hid HSM.out
   rw [List.take_of_length_le (by have:=HN.out;omega)] at HA
   go_wp2
   go_ret
   exact ⟨⟨_,rfl,by rw [HA.out];rfl⟩,rfl⟩
theorem zjj (l:List ByteArray) (v:Value) (w:World) (hv:IsV Value.string l v w) (hb:l.length≤1000000) :
  Calls Tryz.prog 19 #[v,.func (.func 20) #[] #[]] w
   fun e w'=>e=.returned (.bool (l.any jbig))∧w=w':=by
 have HI:=Lib.hid (zov l v w hv hb)
 clear hv hb
 go_enter Tryz.func19,Tryz.ntmps19
 go_wp2_with fail
 refine HI.out.mono ?_
 rintro e w1 ⟨⟨r,rfl,hr⟩,rfl⟩
 go_wp2
 go_ret
 exact ⟨rfl,rfl⟩
def zsk (w:World) (c:JC) (e:Ending) (w':World):Prop:=∃ k n m,e=.returned (colv c (.slice (some ⟨k,0,none⟩) n m))∧w.heap.size≤k∧IsCol c (colv c (.slice (some ⟨k,0,none⟩) n m)) w'∧Below w.heap.size w w'
theorem IsCol.laid {c:JC} {A:Option Addr} {n k:Nat} {w:World} (h:IsCol c (colv c (.slice A n k)) w):∃ L:List (Int × List UInt8 × Value),IsR zdY L (.slice A n k) w∧(∀ p∈L,IsB p.2.1 p.2.2 w)∧c.streams=L.map (fun p=>(p.1,p.2.1)):=by
 obtain ⟨L,s,h1,h,h3,h2⟩:=h
 unfold colv at h1
 simp only [Value.agg.injEq,Array.mk.injEq,List.cons.injEq] at h1
 have h4:=h1.2.2.2.1
 rw [←h4] at h
 exact ⟨L,h,h3,h2⟩
theorem zjk (l:List ByteArray) (v:Value) (w:World) (ht:WTab w) (hv:IsV Value.string l v w) (hb:l.length≤4096) (hs:∀ s∈l,s.size≤300) :
  Calls Tryz.prog 21 #[v] w (zsk w ⟨(l.length:Int),1,0,[(2,zbq l),(3,(zbY (zdT l) false).1)]⟩):=by
 obtain ⟨w0,hw0⟩:∃ w0,w0=w.alloc (.cells #[.int .i64 0,.int .i64 0,.int .i64 0,.slice none 0 0] 27):=⟨_,rfl⟩
 have HB0:=Lib.hid (show Below w.heap.size w w0 by rw [hw0];exact (Below.refl _ _).alloc (Nat.le_refl _) _)
 have HR0:=Lib.hid (show Row w0 w.heap.size 27 [.int .i64 0,.int .i64 0,.int .i64 0,.slice none 0 0] by rw [hw0];exact heap_alloc_new w _)
 have HJ:=Lib.hid (zhx l v w0 (hv.below HB0.out) hb hs)
 have HW:=Lib.hid (fun X (h:Below w.heap.size w X)=>zf8 l v X (ht.below h ht.lt) (hv.below h) hb hs)
 obtain ⟨A,n,c,rfl⟩:=hv.shape
 have hln:=hv.parts.1
 rw [hln]
 clear hv hb hs ht hln
 go_enter Tryz.func21,Tryz.ntmps21
 go_wp2_with fail
 rw [←hw0]
 clear hw0
 refine HJ.out.mono ?_
 rintro e w1 ⟨u1,rfl,hu1,hb1⟩
 obtain ⟨A1,n1,c1,rfl⟩:=IsV.shape (f:=bv) hu1
 have HB1:=Lib.hid (za HB0.out hb1)
 have HR1:=Lib.hid (HR0.out.below hb1 HR0.out.lt)
 have HU1:=Lib.hid hu1
 clear hu1 hb1
 go_wp2_with fail
 refine (HW.out w1 HB1.out).mono ?_
 rintro e w2 ⟨u2,rfl,hu2,hb2⟩
 obtain ⟨A2,n2,c2,rfl⟩:=IsV.shape (f:=bv) hu2
 have HB2:=Lib.hid (za HB1.out hb2)
 have HR2:=Lib.hid (HR1.out.below hb2 HR1.out.lt)
 have HX1:=Lib.hid (HU1.out.below hb2)
 have HX2:=Lib.hid hu2
 have ha:=(Below.refl w2.heap.size w2).alloc (Nat.le_refl _) (.cells #[.int .i64 2,.slice A1 n1 c1,.int .i64 3,.slice A2 n2 c2] 40)
 have HA:=Lib.hid ha
 have HBA:=Lib.hid (za HB2.out ha)
 have HRA:=Lib.hid (HR2.out.below ha HR2.out.lt)
 have HK2:=Lib.hid (show w2.heap.size≠w.heap.size by have:=HR2.out.lt;omega)
 have HI:=Lib.hid (zs2 w2 (2,zbq l,.slice A1 n1 c1) (3,(zbY (zdT l) false).1,.slice A2 n2 c2))
 clear hu2 hb2 ha
 go_wp2_with (refine zS zdV rfl _ _ rfl w.heap.size _ _ [.int .i64 (n:Int),.int .i64 1,.int .i64 0,.slice (some ⟨w2.heap.size,0,none⟩) 2 2] rfl rfl HRA.out rfl rfl (by simp [Value.oneCell']) w w.heap.size HBA.out (Nat.le_refl _) ?_)
 intro w5 hr5 hb5 hs5
 have HR5:=Lib.hid hr5
 have HB5:=Lib.hid hb5
 have HC:=Lib.hid (zc9 (c:=⟨(n:Int),1,0,[(2,zbq l),(3,(zbY (zdT l) false).1)]⟩) (L:=[(2,zbq l,.slice A1 n1 c1),(3,(zbY (zdT l) false).1,.slice A2 n2 c2)]) hs5 HK2.out HRA.out (zfq _ (fun _ h=>by cases h) _ _ _) HI.out (by intro p hp;simp at hp;rcases hp with rfl | rfl;exact HX1.out.below HA.out;exact HX2.out.below HA.out) rfl)
 clear hr5 hb5 hs5
 go_wp2
 refine bodyPost_ret (zf9 rfl _ _ w.heap.size _ _ (0,0) _ rfl HR5.out Tryz.underlying27 rfl (by kernel_rfl)) rfl ?_
 exact ⟨_,_,_,rfl,by have:=HB2.out.size;omega,HC.out,HB5.out⟩
theorem zgd (n:Int) (w:World):(Instr.makeMap 67 (some (.int .i64 n))).run Tryz.prog w=.ok (.map (some w.heap.size)) (w.alloc (.map #[] 0)):=by
 simp [Instr.makeMap,run_underlying Tryz.underlying67,Result.andThen,asInt,asIntOf]
def ztv (ws:List ByteArray) (w:World) (i:Value) (wr:World):Prop:=
 ∃ k:Nat,k≤ws.length∧i=.int .i64 (k:Int)∧wr.ownsMap Tryz.prog 9 (plainElem Tryz.prog 3) (w.heap.size+1) k (jmap ws k)∧Row wr (w.heap.size+2) 67 [.map (some (w.heap.size+1))] ∧
  Row wr w.heap.size 27 [.int .i64 0,.int .i64 0,.int .i64 0,.slice none 0 0]∧Below w.heap.size w wr
theorem zr4 (ws:List ByteArray) (w:World):ztv ws w (.int .i64 0) (((w.alloc (.cells #[.int .i64 0,.int .i64 0,.int .i64 0,.slice none 0 0] 27)).alloc (.map #[] 0)).alloc (.cells #[.map (some (w.heap.size+1))] 67)):=by
 obtain ⟨w0,hw0⟩:∃ w0,w0=w.alloc (.cells #[.int .i64 0,.int .i64 0,.int .i64 0,.slice none 0 0] 27):=⟨_,rfl⟩
 have h0:w0.heap.size=w.heap.size+1:=by rw [hw0];simp
 have hr:Row w0 w.heap.size 27 [.int .i64 0,.int .i64 0,.int .i64 0,.slice none 0 0]:=by rw [hw0];exact heap_alloc_new w _
 have hb:Below w.heap.size w w0:=by rw [hw0];exact (Below.refl _ _).alloc (Nat.le_refl _) _
 rw [←hw0]
 clear hw0
 have ho:=(World.ownsMap_made w0 Tryz.prog 9 (plainElem (H:=Unit) Tryz.prog 3)).alloc (.cells #[.map (some (w.heap.size+1))] 67)
 rw [h0] at ho
 have hx:Row ((w0.alloc (.map #[] 0)).alloc (.cells #[.map (some (w.heap.size+1))] 67)) (w0.alloc (.map #[] 0)).heap.size 67 [.map (some (w.heap.size+1))]:=heap_alloc_new _ _
 rw [show (w0.alloc (.map #[] 0)).heap.size=w.heap.size+2 by simp [h0]] at hx
 exact ⟨0,Nat.zero_le _,rfl,ho,hx,(hr.alloc _).alloc _,(hb.alloc (by omega) _).alloc (by simp;omega) _⟩
theorem ziA {w w':World} {g b:Nat} {t:TypeId} {cs:List Value} (h:Row w g t cs) (hg:w.grownBy w' (some b)) (hne:g≠b):Row w' g t cs:=(hg.block g h.lt (fun e=>hne (Option.some.inj e))).trans h
theorem zkV (l ws:List ByteArray) (v u:Value) (w:World) (ht:WTab w) (hv:IsV Value.string l v w) (hu:IsV Value.string ws u w) (hb:l.length≤4096) (hs:∀ s∈l,s.size≤300)
  (hwl:ws.length≤4096) (hws:∀ s∈ws,s.size≤300) (hri:zeQ ws) (hmm:∀ s∈l,s∈ws) :
  Calls Tryz.prog 22 #[v,u] w (zsk w ⟨(l.length:Int),2,(ws.length:Int),[(2,(zbY (zcC ws l) false).1),(3,(zbY (zdT ws) false).1),(4,zbq ws)]⟩):=by
 have HJ:=Lib.hid (fun X (h:Below w.heap.size w X)=>zhx ws u X (hu.below h) hwl hws)
 have HW:=Lib.hid (fun X (h:Below w.heap.size w X)=>zf8 ws u X (ht.below h ht.lt) (hu.below h) hwl hws)
 have HP:=Lib.hid (fun X (h:Below w.heap.size w X) b B (hp:PlaceMap ws b B X)=>zji ws l b B v X (ht.below h ht.lt) (hv.below h) hb hs hp hri hmm hwl)
 obtain ⟨A,n,c,rfl⟩:=hv.shape
 obtain ⟨C,m,d,rfl⟩:=hu.shape
 have hln:=hv.parts.1
 have HM:=Lib.hid hu.parts.1
 have HU:=Lib.hid hu
 have HWS:=Lib.hid hws
 have hm6:m≤4096:=by have:=HM.out;omega
 have hmm2:=zgd (m:Int)
 rw [hln,HM.out]
 clear hv hb hs ht hln hu hwl hws hri hmm
 go_enter Tryz.func22,Tryz.ntmps22
 go_wp2
 go_loopw [13] (ztv ws w) (fun i _=>m - (intOf i).toNat)
 case atStart =>
  exact zr4 ws w
 case round =>
  obtain ⟨k,hk,rfl,hown,hbx,hrw,hbw⟩:=hrel
  clear hmm2
  have hkm:k≤m:=by have:=HM.out;omega
  by_cases hlt:k < m
  ·have hkl:k < ws.length:=by have:=HM.out;omega
   have hlti:(k:Int) < (m:Int):=by omega
   obtain ⟨ad,rfl,had,hcell⟩:=(HU.out.below hbw).at hkl
   obtain ⟨x,hx⟩:∃ x,x=ws[k]:=⟨_,rfl⟩
   rw [←hx] at hcell
   have hkey:keyOf Tryz.prog 9 (.string x)=some (jkey x):=Go.WideMaps.keyOf_string_mk Tryz.underlying9 (by rw [hx];have:=HWS.out _ (List.getElem_mem hkl);unfold maxLen;omega)
   have HNX:=Lib.hid (zhw ws k)
   rw [List.getD_eq_getElem?_getD,List.getElem?_eq_getElem hkl,Option.getD_some,←hx] at HNX
   have hc2:wr.cell? ⟨w.heap.size+2,0,none⟩=some (.map (some (w.heap.size+1))):=hbx.cell 0
   have HBX:=Lib.hid hbx
   have HRW:=Lib.hid hrw
   clear hx had hbx hrw
   go_wp2_with (first | (at_mapUpdate;refine wpList_mapUpdate_own _ rfl _ _ _ 67 rfl 9 3 Tryz.keyS Tryz.underlying67 _ (w.heap.size+1) k _ rfl hown (by unfold maxLen;omega) _ _ _ rfl rfl hkey _ [] (plainElem_int Tryz.underlying3 (WalkArith.wf_i64 (by omega))) ?_) | go_in)
   intro w1 hown1 hgrow1
   have HO:=Lib.hid hown1
   rw [←HNX.out] at HO
   have HB:=Lib.hid (hbw.grown hgrow1 hbw.size (fun j hj=>by cases hj;exact Nat.le_succ _))
   have HX:=Lib.hid (ziA HBX.out hgrow1 (by omega))
   have HR:=Lib.hid (ziA HRW.out hgrow1 (by omega))
   clear hown1 hgrow1 hown hcell hc2
   go_wp2
   go_roundw
   case rel=>exact ⟨k+1,hkl,by go_num,HO.out,HX.out,HR.out,HB.out⟩
   case measure=>simp [intOf];omega
  ·obtain rfl:k=m:=by omega
   have hlti:¬(k:Int) < (k:Int):=by omega
   have HPM:=Lib.hid (show PlaceMap ws (w.heap.size+2) (w.heap.size+1) wr from ⟨hbx,by rw [HM.out];exact hown⟩)
   have HC1:=Lib.hid (HP.out wr hbw _ _ HPM.out)
   have HRW:=Lib.hid hrw
   have HB0:=Lib.hid hbw
   clear hown hbx hrw hbw
   go_wp2_with fail
   refine HC1.out.mono ?_
   rintro e w1 ⟨u3,rfl,hu3,hb1⟩
   obtain ⟨A3,n3,c3,rfl⟩:=IsV.shape (f:=bv) hu3
   have HB1:=Lib.hid (za HB0.out hb1)
   have HR1:=Lib.hid (HRW.out.below hb1 HRW.out.lt)
   have HU3:=Lib.hid hu3
   clear hu3 hb1
   go_wp2_with fail
   refine (HW.out w1 HB1.out).mono ?_
   rintro e w2 ⟨u2,rfl,hu2,hb2⟩
   obtain ⟨A2,n2,c2,rfl⟩:=IsV.shape (f:=bv) hu2
   have HB2:=Lib.hid (za HB1.out hb2)
   have HR2:=Lib.hid (HR1.out.below hb2 HR1.out.lt)
   have HV3:=Lib.hid (HU3.out.below hb2)
   have HU2:=Lib.hid hu2
   clear hu2 hb2
   go_wp2_with fail
   refine (HJ.out w2 HB2.out).mono ?_
   rintro e w3 ⟨u1,rfl,hu1,hb3⟩
   obtain ⟨A1,n1,c1,rfl⟩:=IsV.shape (f:=bv) hu1
   have HB3:=Lib.hid (za HB2.out hb3)
   have HR3:=Lib.hid (HR2.out.below hb3 HR2.out.lt)
   have HX3:=Lib.hid (HV3.out.below hb3)
   have HX2:=Lib.hid (HU2.out.below hb3)
   have HX1:=Lib.hid hu1
   have ha:=(Below.refl w3.heap.size w3).alloc (Nat.le_refl _) (.cells #[.int .i64 2,.slice A3 n3 c3,.int .i64 3,.slice A2 n2 c2,.int .i64 4,.slice A1 n1 c1] 40)
   have HA:=Lib.hid ha
   have HBA:=Lib.hid (za HB3.out ha)
   have HRA:=Lib.hid (HR3.out.below ha HR3.out.lt)
   have HK2:=Lib.hid (show w3.heap.size≠w.heap.size by have:=HR3.out.lt;omega)
   have HI:=Lib.hid (zqu w3 (2,(zbY (zcC ws l) false).1,.slice A3 n3 c3) (3,(zbY (zdT ws) false).1,.slice A2 n2 c2) (4,zbq ws,.slice A1 n1 c1))
   clear hu1 hb3 ha
   go_wp2_with (refine zS zdV rfl _ _ rfl w.heap.size _ _ [.int .i64 (n:Int),.int .i64 2,.int .i64 (k:Int),.slice (some ⟨w3.heap.size,0,none⟩) 3 3] rfl rfl HRA.out rfl rfl (by simp [Value.oneCell']) w w.heap.size HBA.out (Nat.le_refl _) ?_)
   intro w5 hr5 hb5 hs5
   have HR5:=Lib.hid hr5
   have HB5:=Lib.hid hb5
   have HC:=Lib.hid (zc9 (c:=⟨(n:Int),2,(k:Int),[(2,(zbY (zcC ws l) false).1),(3,(zbY (zdT ws) false).1),(4,zbq ws)]⟩) (L:=[(2,(zbY (zcC ws l) false).1,.slice A3 n3 c3),(3,(zbY (zdT ws) false).1,.slice A2 n2 c2),(4,zbq ws,.slice A1 n1 c1)]) hs5 HK2.out HRA.out (zfq _ (fun _ h=>by cases h) _ _ _) HI.out (by
    intro p hp
    simp at hp
    rcases hp with rfl | rfl | rfl
    ·exact HX3.out.below HA.out
    ·exact HX2.out.below HA.out
    ·exact HX1.out.below HA.out) rfl)
   clear hr5 hb5 hs5
   go_wp2
   refine bodyPost_ret (zf9 rfl _ _ w.heap.size _ _ (0,0) _ rfl HR5.out Tryz.underlying27 rfl (by kernel_rfl)) rfl ?_
   exact ⟨_,_,_,rfl,by have:=HB3.out.size;omega,HC.out,HB5.out⟩
theorem zm1 (l:List ByteArray) (v:Value) (w:World) (ht:WTab w) (hv:IsV Value.string l v w) (hb:l.length≤1000000):Calls Tryz.prog 10 #[v] w (zts w (zl1 l)):=by
 have HRX:=Lib.hid (show Row (w.alloc (.cells #[.int .i64 0,.int .i64 0,.int .i64 0,.slice none 0 0] 27)) w.heap.size 27 [.int .i64 0,.int .i64 0,.int .i64 0,.slice none 0 0] from heap_alloc_new w _)
 have HBX:=Lib.hid (show Below w.heap.size w (w.alloc (.cells #[.int .i64 0,.int .i64 0,.int .i64 0,.slice none 0 0] 27)) from (Below.refl _ _).alloc (Nat.le_refl _) _)
 obtain ⟨w0,hw0⟩:∃ w0,w0=w.alloc (.cells #[.int .i64 0,.int .i64 0,.int .i64 0,.slice none 0 0] 27):=⟨_,rfl⟩
 have HB0:=HBX
 have HR0:=HRX
 rw [←hw0] at HB0 HR0
 have HV0:=Lib.hid (hv.below HB0.out)
 have HT0:=Lib.hid (ht.below HB0.out ht.lt)
 have HCO:=Lib.hid (zjj l v w0 HV0.out hb)
 obtain ⟨A,n,c,rfl⟩:=hv.shape
 have HN:=Lib.hid hv.parts.1
 clear hv ht hb
 by_cases h4:4096 < n
 ·have HE:=Lib.hid (zkQ (l:=l) (.inl (by have:=HN.out;omega)))
  have d1:decide ((4096:Int) < (n:Int))=true:=decide_eq_true (by omega)
  clear hw0 h4
  go_enter Tryz.func10,Tryz.ntmps10
  go_wp2_with (refine zS zdV rfl _ _ rfl w.heap.size _ _ [.int .i64 0,.int .i64 0,.int .i64 0,.slice none 0 0] rfl rfl HRX.out rfl rfl (by simp [Value.oneCell']) w w.heap.size HBX.out (Nat.le_refl _) ?_)
  intro w5 hr5 hb5 _
  have HR5:=Lib.hid hr5
  have HB5:=Lib.hid hb5
  clear hr5 hb5
  go_wp2
  refine bodyPost_ret (zbG rfl _ _ w.heap.size _ _ (0,0) _ _ rfl HR5.out Tryz.underlying27 rfl (by kernel_rfl) rfl) rfl ?_
  rw [HE.out]
  exact ⟨_,rfl,zkP _,HB5.out⟩
 have d1:decide ((4096:Int) < (n:Int))=false:=decide_eq_false (by omega)
 have hn4:n≤4096:=by omega
 obtain ⟨q,hq⟩:∃ q,q=l.any jbig:=⟨_,rfl⟩
 rw [←hq] at HCO
 cases q with
 | true =>
  obtain ⟨s,h1,h2⟩:=List.any_eq_true.1 hq.symm
  have HE:=Lib.hid (zkQ (l:=l) (.inr ⟨s,h1,of_decide_eq_true h2⟩))
  clear h1 h2 hq h4
  go_enter Tryz.func10,Tryz.ntmps10
  go_wp2_with fail
  rw [←hw0]
  refine HCO.out.mono ?_
  rintro e w' ⟨rfl,rfl⟩
  clear hw0
  go_wp2_with (refine zS zdV rfl _ _ rfl w.heap.size _ _ [.int .i64 0,.int .i64 0,.int .i64 0,.slice none 0 0] rfl rfl HR0.out rfl rfl (by simp [Value.oneCell']) w w.heap.size HB0.out (Nat.le_refl _) ?_)
  intro w5 hr5 hb5 _
  have HR5:=Lib.hid hr5
  have HB5:=Lib.hid hb5
  clear hr5 hb5
  go_wp2
  refine bodyPost_ret (zbG rfl _ _ w.heap.size _ _ (0,0) _ _ rfl HR5.out Tryz.underlying27 rfl (by kernel_rfl) rfl) rfl ?_
  rw [HE.out]
  exact ⟨_,rfl,zkP _,HB5.out⟩
 | false =>
  have HS:=Lib.hid (show ∀ s∈l,s.size≤300 from fun s hs=>by
   have h:=List.any_eq_false.1 hq.symm s hs
   unfold jbig at h
   simp at h
   omega)
  have HWS:=Lib.hid (show ∀ s∈zbw l,s.size≤300 from fun s hs=>HS.out s (jwords_mem.1 hs))
  have HLE:=Lib.hid (zoo l)
  have HEE:=Lib.hid (zrY (l:=l) (by have:=HN.out;omega) HS.out)
  have HWD:=Lib.hid (zot l _ w0 HV0.out (fun s hs=>by have:=HS.out s hs;unfold maxLen;omega) (by have:=HN.out;omega))
  clear hq h4
  go_enter Tryz.func10,Tryz.ntmps10
  go_wp2_with fail
  rw [←hw0]
  refine HCO.out.mono ?_
  rintro e w' ⟨rfl,rfl⟩
  clear hw0
  go_wp2_with fail
  refine HWD.out.mono ?_
  rintro e w1 ⟨wv,rfl,hwv,hb1⟩
  have HB1:=Lib.hid (za HB0.out hb1)
  have HR1:=Lib.hid (HR0.out.below hb1 HR0.out.lt)
  have HV1:=Lib.hid (HV0.out.below hb1)
  have HT1:=Lib.hid (HT0.out.below hb1 HT0.out.lt)
  have HWV:=Lib.hid hwv.isV
  obtain ⟨Bw,m,mc,rfl⟩:=hwv.isV.shape
  have hwn:(zbw l).length=m:=hwv.isV.parts.1
  have hml:m≤n:=by rw [←hwn,←HN.out];exact HLE.out
  have HWN:=Lib.hid hwn
  have hE:=HEE.out
  rw [hwn,HN.out] at hE
  clear hwv hb1 hwn
  by_cases hpl:n < 2*m
  ·rw [if_pos hpl] at hE
   have HE:=Lib.hid hE
   have d2:decide (n < 2*m)=true:=decide_eq_true hpl
   have d3:decide ((n:Int) < 2*(m:Int))=true:=decide_eq_true (by omega)
   have HLP:=zjk l _ w1 HT1.out HV1.out (by have:=HN.out;omega) HS.out
   rw [HN.out] at HLP
   obtain ⟨cc,hcc⟩:∃ cc:JC,cc=⟨(n:Int),1,0,[(2,zbq l),(3,(zbY (zdT l) false).1)]⟩:=⟨_,rfl⟩
   rw [←hcc] at HLP HE
   have HL2:=Lib.hid HLP
   clear hE HLP hcc hpl
   go_wp2_with fail
   refine HL2.out.mono ?_
   rintro e w2 ⟨k,x,y,rfl,hk,hc,hb2⟩
   have HC:=Lib.hid hc
   have HB2:=Lib.hid (za HB1.out hb2)
   have HR2:=Lib.hid (HR1.out.below hb2 HR1.out.lt)
   have HK:=Lib.hid (show k≠w.heap.size by have:=HR1.out.lt;omega)
   clear hc hb2 hk
   unfold colv at HC ⊢
   go_wp2_with (refine zS zdV rfl _ _ rfl w.heap.size _ _ [.int .i64 cc.many,.int .i64 cc.enc,.int .i64 cc.texts,.slice (some ⟨k,0,none⟩) x y] rfl rfl HR2.out rfl rfl (by simp [Value.oneCell']) w w.heap.size HB2.out (Nat.le_refl _) ?_)
   intro w5 hr5 hb5 hs5
   have HR5:=Lib.hid hr5
   have HB5:=Lib.hid hb5
   obtain ⟨L,l1,l2,l3⟩:=IsCol.laid (c:=cc) HC.out
   have HF:=Lib.hid (zc9 (c:=cc) (L:=L) hs5 HK.out HR2.out (zfq _ (fun _ h=>by cases h) _ _ _) l1 l2 l3)
   clear hr5 hb5 hs5 l1 l2 l3
   go_wp2
   refine bodyPost_ret (zbG rfl _ _ w.heap.size _ _ (0,0) _ _ rfl HR5.out Tryz.underlying27 rfl (by kernel_rfl) rfl) rfl ?_
   rw [HE.out]
   exact ⟨_,rfl,HF.out,HB5.out⟩
  ·rw [if_neg hpl] at hE
   have HE:=Lib.hid hE
   have d2:decide (n < 2*m)=false:=decide_eq_false hpl
   have d3:decide ((n:Int) < 2*(m:Int))=false:=decide_eq_false (by omega)
   have HLP:=zkV l (zbw l) _ _ w1 HT1.out HV1.out HWV.out (by have:=HN.out;omega) HS.out (by have:=HWN.out;omega) HWS.out (zf4 l) (fun s hs=>jwords_mem.2 hs)
   rw [HN.out,HWN.out] at HLP
   obtain ⟨cc,hcc⟩:∃ cc:JC,cc=⟨(n:Int),2,(m:Int),[(2,(zbY (zcC (zbw l) l) false).1),(3,(zbY (zdT (zbw l)) false).1),(4,zbq (zbw l))]⟩:=⟨_,rfl⟩
   rw [←hcc] at HLP HE
   have HL2:=Lib.hid HLP
   clear hE HLP hcc hpl
   go_wp2_with fail
   refine HL2.out.mono ?_
   rintro e w2 ⟨k,x,y,rfl,hk,hc,hb2⟩
   have HC:=Lib.hid hc
   have HB2:=Lib.hid (za HB1.out hb2)
   have HR2:=Lib.hid (HR1.out.below hb2 HR1.out.lt)
   have HK:=Lib.hid (show k≠w.heap.size by have:=HR1.out.lt;omega)
   clear hc hb2 hk
   unfold colv at HC ⊢
   go_wp2_with (refine zS zdV rfl _ _ rfl w.heap.size _ _ [.int .i64 cc.many,.int .i64 cc.enc,.int .i64 cc.texts,.slice (some ⟨k,0,none⟩) x y] rfl rfl HR2.out rfl rfl (by simp [Value.oneCell']) w w.heap.size HB2.out (Nat.le_refl _) ?_)
   intro w5 hr5 hb5 hs5
   have HR5:=Lib.hid hr5
   have HB5:=Lib.hid hb5
   obtain ⟨L,l1,l2,l3⟩:=IsCol.laid (c:=cc) HC.out
   have HF:=Lib.hid (zc9 (c:=cc) (L:=L) hs5 HK.out HR2.out (zfq _ (fun _ h=>by cases h) _ _ _) l1 l2 l3)
   clear hr5 hb5 hs5 l1 l2 l3
   go_wp2
   refine bodyPost_ret (zbG rfl _ _ w.heap.size _ _ (0,0) _ _ rfl HR5.out Tryz.underlying27 rfl (by kernel_rfl) rfl) rfl ?_
   rw [HE.out]
   exact ⟨_,rfl,HF.out,HB5.out⟩
end Go.Proofs.YtblpkmmhmdpkjaaGreatDoor
namespace Go.Proofs.YtblpkmmhmdpkjaaGreatDoor
open Go.RowKit
def zca (l:List UInt8) (many:Int):Option (List Int):=if (zO l many false).2.2≠0∨0 < (zO l many false).2.1.length then none else some (zO l many false).1
theorem zqC (b l:List UInt8) (many:Int):jcut b l many=(match zca l many with | none=>none | some ns=>zM b ns):=by
 unfold jcut zca
 split <;> rfl
def ztI (w:World) (o:Option (List Int)) (e:Ending) (w':World):Prop:=∃ v,e=.returned (.tuple #[v,.bool o.isSome])∧IsV iv (o.getD []) v w'∧Below w.heap.size w w'
def RetTB (w:World) (o:Option (List ByteArray)) (e:Ending) (w':World):Prop:=∃ v,e=.returned (.tuple #[v,.bool o.isSome])∧(∀ l,o=some l→OwnV Value.string 9 w l v w')∧Below w.heap.size w w'
theorem RetTB.none {w w':World} (v:Value) (hb:Below w.heap.size w w'):RetTB w none (.returned (.tuple #[v,.bool false])) w':=⟨_,rfl,fun _ h=>(by cases h),hb⟩
theorem zm2 {l:List UInt8} {many:Int} {ns:List Int} (h:zca l many=some ns):((ns.length:Int)=many)∧∀ x∈ns,0≤x:=by
 unfold zca at h
 split at h
 ·cases h
 ·rename_i h2
  injection h with h
  subst h
  obtain ⟨ns,r,y,hu⟩:∃ ns r y,zO l many false=(ns,r,y):=⟨_,_,_,rfl⟩
  rw [hu] at h2 ⊢
  dsimp only at h2 ⊢
  have hy:y=0:=by
   by_cases hy:y=0
   ·exact hy
   ·exact absurd (.inl hy) h2
  subst hy
  by_cases hm:many < 0∨4096 < many
  ·exfalso
   unfold zO at hu
   rw [if_pos hm] at hu
   simp at hu
  ·obtain ⟨M,rfl⟩:=Int.eq_ofNat_of_zero_le (show 0≤many by omega)
   exact ⟨by rw [(zcy hu).1],(zcy hu).2 rfl⟩
theorem zga (l:List UInt8) (v:Value) (many:Int) (w:World) (ht:WTab w) (hv:IsB l v w) (hb:l.length≤1000000) :
  Calls Tryz.prog 62 #[v,.int .i64 many] w (ztI w (zca l many)):=by
 have HU:=Lib.hid ((zqk l v many false w ht hv hb).mono fun _ _ h=>h.io.ib)
 obtain ⟨ns,r,y,hu⟩:∃ ns r y,zO l many false=(ns,r,y):=⟨_,_,_,rfl⟩
 have hE:zca l many=if y≠0∨0 < r.length then none else some ns:=by unfold zca;rw [hu]
 rw [hu] at HU
 have HE:=Lib.hid hE
 clear hu ht hv hb hE
 go_enter Tryz.func62,Tryz.ntmps62
 go_wp2_with fail
 refine HU.out.mono ?_
 rintro e w1 ⟨u,rv,rfl,hns,hr,hb1⟩
 obtain ⟨R,rn,rc,rfl⟩:=IsV.shape (f:=bv) hr
 have hrn:r.length=rn:=(IsV.parts (f:=bv) (show IsV bv r _ _ from hr)).1
 have HB1:=Lib.hid hb1
 have HNS:=Lib.hid hns
 have hE:=HE.out
 rw [hrn] at hE
 clear hr hb1 hns hrn
 by_cases hy:y=0
 case neg =>
  rw [if_pos (.inl hy)] at hE
  have HE2:=Lib.hid hE
  have d4:(y != 0)=true:=by simpa using hy
  clear hE hy
  go_wp2
  go_ret2
  rw [HE2.out]
  exact ⟨_,rfl,zgM _ _,HB1.out⟩
 subst hy
 have d4:((0:Int) != 0)=false:=by decide
 by_cases hr0:0 < rn
 case pos =>
  rw [if_pos (.inr hr0)] at hE
  have HE2:=Lib.hid hE
  have d5:((rn:Int) != 0)=true:=by simp;omega
  clear hE hr0
  go_wp2
  go_ret2
  rw [HE2.out]
  exact ⟨_,rfl,zgM _ _,HB1.out⟩
 obtain rfl:rn=0:=by omega
 rw [if_neg (by simp)] at hE
 have HE2:=Lib.hid hE
 clear hE hr0
 go_wp2
 go_ret2
 rw [HE2.out]
 exact ⟨_,rfl,HNS.out,HB1.out⟩
theorem zs4 {w:World} {ad:Addr} {k:Nat} {p:Int × List UInt8 × Value} (h:∀ i,i < 2→w.cell? (ad.add (k*2+i))=(zdY p)[i]?) :
  w.cell? (ad.add (k*2))=some (.int .i64 p.1)∧w.cell? ⟨(ad.add (k*2)).block,(ad.add (k*2)).off+1,none⟩=some p.2.2:=by
 refine ⟨h 0 (by omega),?_⟩
 have h1:=h 1 (by omega)
 rw [←add_add] at h1
 exact h1
theorem zqD (x k:Int) (A:Option Addr) (n c:Nat) (w:World):Calls Tryz.prog 61 #[.agg #[.int .i64 x,.slice A n c],.int .i64 k] w fun e w'=>e=.returned (.bool (x == k))∧Below w.heap.size w w':=by
 have hA:Row (w.alloc (.cells #[.int .i64 x,.slice A n c] 40)) w.heap.size 40 [.int .i64 x,.slice A n c]:=heap_alloc_new w _
 have a0:=hA.cell 0
 have HB:=Lib.hid (show Below w.heap.size w (w.alloc (.cells #[.int .i64 x,.slice A n c] 40)) from (Below.refl _ _).alloc (Nat.le_refl _) _)
 clear hA
 go_enter Tryz.func61,Tryz.ntmps61
 go_wp2
 go_ret
 exact ⟨rfl,HB.out⟩
theorem zow (L:List (Int × List UInt8 × Value)) (ks:List Int) (sv kv:Value) (w:World) (hs:IsR zdY L sv w) (hk:IsV iv ks kv w) (hb:L.length≤1000000) (hL:∀ p∈L,IsB p.2.1 p.2.2 w) :
  Calls Tryz.prog 60 #[sv,kv,.func (.func 61) #[] #[]] w fun e w'=>e=.returned (.bool (L.map (·.1) == ks))∧Below w.heap.size w w':=by
 obtain ⟨A,n,c,rfl⟩:=hs.shape
 obtain ⟨B,m,d,rfl⟩:=hk.shape
 have HN:=Lib.hid hs.parts.1
 have HM:=Lib.hid hk.parts.1
 have HS:=Lib.hid hs
 have HK:=Lib.hid hk
 have HLB:=Lib.hid hL
 have hn6:n≤1000000:=by have:=HN.out;omega
 obtain ⟨ls,hls⟩:∃ ls,ls=L.map (·.1):=⟨_,rfl⟩
 have HLL:=Lib.hid (show ls.length=n by rw [hls,List.length_map];exact HN.out)
 have HLS:=Lib.hid hls
 rw [←hls]
 clear hs hk hb hls hL
 by_cases hnm:n=m
 ·subst hnm
  have d0:((n:Int) != (n:Int))=false:=by simp
  go_enter Tryz.func60,Tryz.ntmps60
  go_wp2
  go_loopw [17] (zm0 ls ks w) (fun i _=>n - (intOf i).toNat)
  case atStart=>exact ⟨0,Nat.zero_le _,rfl,by simp,Below.refl _ _⟩
  case round =>
   obtain ⟨k,hk,rfl,he,hbw⟩:=hrel
   have hkn:k≤n:=by have:=HLL.out;omega
   have HEQ:=Lib.hid he
   have HBW:=Lib.hid hbw
   clear he hk
   by_cases hlt:k < n
   ·have hkl:k < L.length:=by have:=HN.out;omega
    have hkk:k < ks.length:=by have:=HM.out;omega
    have hkls:k < ls.length:=by have:=HLL.out;omega
    have hlti:(k:Int) < (n:Int):=by omega
    obtain ⟨ad,rfl,had,hcell⟩:=(HS.out.below hbw).at (m:=2) (fun _=>rfl) (by omega) hkl
    obtain ⟨bd,rfl,hbd,hcell2⟩:=(HK.out.below hbw).at hkk
    obtain ⟨k0,k1⟩:=zs4 hcell
    obtain ⟨A3,n3,c3,hsl⟩:=IsV.shape (f:=bv) (HLB.out L[k] (List.getElem_mem hkl))
    rw [hsl] at k1
    have hx0:L[k].1=ls[k]:=by simp [HLS.out]
    rw [hx0] at k0
    obtain ⟨x,hx⟩:∃ x,x=ls[k]:=⟨_,rfl⟩
    obtain ⟨y,hy⟩:∃ y,y=ks[k]:=⟨_,rfl⟩
    rw [←hx] at k0
    rw [←hy] at hcell2
    have HX:=Lib.hid hx
    have HY:=Lib.hid hy
    have hbx:Row (wr.alloc (.cells #[.int .i64 x,.slice A3 n3 c3] 40)) wr.heap.size 40 [.int .i64 x,.slice A3 n3 c3]:=heap_alloc_new wr _
    have b0:=hbx.cell 0
    have b1:=hbx.cell 1
    have hc2:(wr.alloc (.cells #[.int .i64 x,.slice A3 n3 c3] 40)).cell? (bd.add k)=some (iv y):=by
     rw [((Below.refl wr.heap.size wr).alloc (Nat.le_refl _) (.cells #[.int .i64 x,.slice A3 n3 c3] 40)).cell (by rw [add_block];exact hbd)]
     exact hcell2
    have HKI:=Lib.hid (zqD x y A3 n3 c3 (wr.alloc (.cells #[.int .i64 x,.slice A3 n3 c3] 40)))
    have HBA:=Lib.hid (show Below w.heap.size w (wr.alloc (.cells #[.int .i64 x,.slice A3 n3 c3] 40)) from hbw.alloc hbw.size _)
    clear hx hy hcell hcell2 had hbd hbw hx0 hsl hbx
    by_cases e:x=y
    ·subst e
     rw [show (x == x)=true by simp] at HKI
     have HEQ2:=Lib.hid (show ls.take (k+1)=ks.take (k+1) by rw [List.take_succ_eq_append_getElem hkls,List.take_succ_eq_append_getElem hkk,HEQ.out,←HX.out,←HY.out])
     go_wp2_with fail
     refine HKI.out.mono ?_
     rintro e w2 ⟨rfl,hb2⟩
     have HB2:=Lib.hid (za HBA.out hb2)
     clear hb2 k0 k1 b0 b1 hc2
     go_wp2
     go_roundw
     case rel=>exact ⟨k+1,hkls,by go_num,HEQ2.out,HB2.out⟩
     case measure=>simp [intOf];omega
    ·rw [show (x == y)=false by simpa using e] at HKI
     have hF:=Lib.hid (show (ls == ks)=false by
      rw [beq_eq_false_iff_ne]
      intro h
      subst h
      exact e (by rw [HX.out,HY.out]))
     clear e
     go_wp2_with fail
     refine HKI.out.mono ?_
     rintro e w2 ⟨rfl,hb2⟩
     have HB2:=Lib.hid (za HBA.out hb2)
     clear hb2 k0 k1 b0 b1 hc2
     go_wp2
     go_ret
     exact ⟨zce hF.out.symm,HB2.out⟩
   ·obtain rfl:k=n:=by omega
    have hlti:¬(k:Int) < (k:Int):=by omega
    have hT:=Lib.hid (show (ls == ks)=true by
     rw [beq_iff_eq]
     have h:=HEQ.out
     rw [List.take_of_length_le (by rw [HLL.out];exact Nat.le_refl _),List.take_of_length_le (by rw [HM.out];exact Nat.le_refl _)] at h
     exact h)
    clear hbw
    go_wp2
    go_ret
    exact ⟨zce hT.out.symm,HBW.out⟩
 ·have d0:((n:Int) != (m:Int))=true:=by simpa using fun h=>hnm (by omega)
  have hF:=Lib.hid (show (ls == ks)=false by
   rw [beq_eq_false_iff_ne]
   intro h
   have h1:=HLL.out
   rw [h,HM.out] at h1
   exact hnm h1.symm)
  go_enter Tryz.func60,Tryz.ntmps60
  go_wp2
  go_ret
  exact ⟨zce hF.out.symm,Below.refl _ _⟩
theorem zkW (L:List (Int × List UInt8 × Value)) (ks:List Int) (sv kv:Value) (w:World) (hs:IsR zdY L sv w) (hk:IsV iv ks kv w) (hb:L.length≤1000000) (hL:∀ p∈L,IsB p.2.1 p.2.2 w) :
  Calls Tryz.prog 42 #[sv,kv] w fun e w'=>e=.returned (.bool (L.map (·.1) == ks))∧Below w.heap.size w w':=by
 have HE:=Lib.hid (zow L ks sv kv w hs hk hb hL)
 obtain ⟨q,hq⟩:∃ q,q=(L.map (·.1) == ks):=⟨_,rfl⟩
 rw [←hq] at HE ⊢
 clear hs hk hb hL hq
 go_enter Tryz.func42,Tryz.ntmps42
 go_wp2_with fail
 refine HE.out.mono ?_
 rintro e w2 ⟨rfl,hb2⟩
 have HB:=Lib.hid hb2
 clear hb2
 go_wp2
 go_ret
 exact ⟨rfl,HB.out⟩
def zhy (ws:List ByteArray):Bool:=(List.range' 1 (ws.length - 1)).all (fun i=>zcp (ws.getD (i - 1) ⟨#[]⟩) (ws.getD i ⟨#[]⟩))
theorem zr5 {ws:List ByteArray} {j:Nat} (h1:1≤j) (h2:j < ws.length) (h:zcp (ws[j - 1]'(by omega)) ws[j]=false):zhy ws=false:=by
 unfold zhy
 rw [List.all_eq_false]
 refine ⟨j,List.mem_range'_1.2 (by omega),?_⟩
 rw [List.getD_eq_getElem?_getD,List.getD_eq_getElem?_getD,List.getElem?_eq_getElem (show j - 1 < ws.length by omega),List.getElem?_eq_getElem h2]
 dsimp only [Option.getD_some]
 rw [h]
 simp
theorem zqE {ws:List ByteArray} (h:∀ j,1≤j→(hj:j < ws.length)→zcp (ws[j - 1]'(by omega)) ws[j]=true):zhy ws=true:=by
 unfold zhy
 rw [List.all_eq_true]
 intro j hj
 have hj:=List.mem_range'_1.1 hj
 rw [List.getD_eq_getElem?_getD,List.getD_eq_getElem?_getD,List.getElem?_eq_getElem (show j - 1 < ws.length by omega),List.getElem?_eq_getElem (show j < ws.length by omega)]
 exact h j hj.1 (by omega)
theorem zqF (ws:List ByteArray) (v:Value) (w:World) (hv:IsV Value.string ws v w) (hb:ws.length≤1000000) :
  Calls Tryz.prog 44 #[v] w fun e w'=>e=.returned (.bool (zhy ws))∧Below w.heap.size w w':=by
 obtain ⟨Bw,wn,wc,rfl⟩:=hv.shape
 have HWV:=Lib.hid hv
 have HWN:=Lib.hid hv.parts.1
 have hw6:wn≤1000000:=by have:=HWN.out;omega
 have HST:=Lib.hid (show zjf ws w (.int .i64 1) w from ⟨1,Nat.le_refl _,by omega,rfl,fun j h1 h2=>by omega,Below.refl _ _⟩)
 clear hv hb
 go_enter Tryz.func44,Tryz.ntmps44
 go_wp2
 go_loopw [3] (zjf ws w) (fun i _=>wn - (intOf i).toNat)
 case atStart=>exact HST.out
 case round =>
  obtain ⟨k,hk1,hkn,rfl,hris,hbw⟩:=hrel
  clear HST
  have HRS:=Lib.hid hris
  have hkw:k≤wn+1:=by have:=HWN.out;omega
  clear hris hkn
  by_cases hlt:k < wn
  ·have hkl:k < ws.length:=by have:=HWN.out;omega
   have hkm:k - 1 < ws.length:=by omega
   obtain ⟨p,hp⟩:∃ p,p=k - 1:=⟨_,rfl⟩
   have hpl:p < ws.length:=by omega
   have hlti:(k:Int) < (wn:Int):=by omega
   have hp1:(k:Int) - 1=(p:Int):=by omega
   have hpn:(p:Int) < (wn:Int):=by omega
   obtain ⟨bd,hBd,_,hcellk⟩:=(HWV.out.below hbw).at hkl
   obtain ⟨bd',hBd',_,hcellp⟩:=(HWV.out.below hbw).at hpl
   subst hBd
   injection hBd' with hBd'
   subst hBd'
   obtain ⟨x,hx⟩:∃ x,x=ws[p]:=⟨_,rfl⟩
   obtain ⟨z,hz⟩:∃ z,z=ws[k]:=⟨_,rfl⟩
   rw [←hz] at hcellk
   rw [←hx] at hcellp
   have HSL:=Lib.hid (show zcp (ws[k - 1]'hkm) ws[k]=zcp x z by rw [hx,hz];congr 1;simp [hp])
   clear hx hz hp
   cases e:zcp x z with
   | false =>
    have HD:=Lib.hid (zr5 hk1 hkl (by rw [HSL.out];exact e))
    have d7:Op.bytesLess x.toList z.toList=false:=e
    clear e
    go_wp2
    go_quiet (fail)
    go_wp2
    go_ret
    exact ⟨zce HD.out.symm,below_drewN hbw _⟩
   | true =>
    have HRS2:=Lib.hid (show ∀ j,1≤j→j < k+1→(hj:j < ws.length)→zcp (ws[j - 1]'(by omega)) ws[j]=true from fun j h1 h2 hj=>by
     by_cases h:j=k
     ·subst h;rw [HSL.out];exact e
     ·exact HRS.out j h1 (by omega) hj)
    have d7:Op.bytesLess x.toList z.toList=true:=e
    clear e
    go_wp2
    go_quiet (fail)
    go_wp2
    go_roundw
    case rel=>exact ⟨k+1,by omega,by omega,by go_num,HRS2.out,below_drewN hbw _⟩
    case measure=>simp [intOf];omega
  ·have hlti:¬(k:Int) < (wn:Int):=by omega
   have HE3:=Lib.hid (zqE (ws:=ws) fun j h1 hj=>HRS.out j h1 (by have:=HWN.out;omega) hj)
   have HBW:=Lib.hid hbw
   clear hbw
   go_wp2
   go_ret
   exact ⟨zce HE3.out.symm,HBW.out⟩
def zm3 (ws:List ByteArray) (ns:List Int) (m g:Nat) (w:World) (i:Value) (wr:World):Prop:=
 ∃ (k:Nat) (o:List ByteArray),k≤m∧i=.int .i64 (k:Int)∧o.length=m∧zch ws ns=(zch ws (ns.drop k)).map (o.take k ++ ·)∧Row wr g 9 (o.map Value.string)∧Below g w wr
def zbC (ws:List ByteArray) (o:Option (List Int)):Option (List ByteArray):=match o with | none=>none | some ns=>zch ws ns
theorem zl8 (ws:List ByteArray) (places:List UInt8) (u v:Value) (M:Int) (w:World) (ht:WTab w) (hu:IsV Value.string ws u w) (hv:IsB places v w) (hb:ws.length≤1000000) (hb2:places.length≤1000000) :
  Calls Tryz.prog 45 #[u,v,.int .i64 M] w (RetTB w (zbC ws (zca places M))):=by
 have HNU:=Lib.hid (zga places v M w ht hv hb2)
 have HU:=Lib.hid hu
 obtain ⟨Bw,wn,wc,rfl⟩:=hu.shape
 have HWN:=Lib.hid hu.parts.1
 have hw6:wn≤1000000:=by have:=HWN.out;omega
 obtain ⟨o,ho⟩:∃ o,o=zca places M:=⟨_,rfl⟩
 have HO:=Lib.hid ho
 rw [←ho] at HNU ⊢
 have hM4:∀ ns,o=some ns→ns.length≤4096:=by
  intro ns h
  rw [ho] at h
  unfold zca at h
  split at h
  ·cases h
  ·injection h with h
   rw [←h]
   exact ziq _ _ _
 have HM4:=Lib.hid hM4
 clear ht hu hv hb hb2 ho hM4
 cases o with
 | none =>
  go_enter Tryz.func45,Tryz.ntmps45
  go_wp2_with fail
  refine HNU.out.mono ?_
  rintro e w1 ⟨nv,rfl,hns,hb1⟩
  have HB:=Lib.hid hb1
  clear hb1 hns
  dsimp only [Option.isSome]
  go_wp2
  go_ret2
  exact RetTB.none _ HB.out
 | some ns =>
  have HNP:=Lib.hid (zm2 HO.out.symm).2
  have hm4:=HM4.out ns rfl
  go_enter Tryz.func45,Tryz.ntmps45
  go_wp2_with fail
  refine HNU.out.mono ?_
  rintro e w1 ⟨nv,rfl,hns,hb1⟩
  dsimp only [Option.isSome,Option.getD] at hns ⊢
  obtain ⟨Bn,nn,nc,rfl⟩:=hns.shape
  have HNL:=Lib.hid (show ns.length=nn from hns.parts.1)
  have hn4:nn≤4096:=by have:=HNL.out;omega
  have HNS:=Lib.hid hns
  have HB1:=Lib.hid hb1
  have HU1:=Lib.hid (HU.out.below hb1)
  clear hb1 hns hm4
  go_wp2_with (refine zA zqr rfl _ _ rfl _ _ _ _ nn w1 w1.heap.size rfl rfl rfl rfl (by omega) (by omega) (Below.refl _ _) (Nat.le_refl _) ?_)
  intro w2 hr2 hb2
  have HST:=Lib.hid (show zm3 ws ns nn w1.heap.size w1 (.int .i64 0) w2 from ⟨0,List.replicate nn ⟨#[]⟩,by omega,rfl,by simp,by cases h:zch ws ns <;> simp [h],by rw [List.map_replicate];exact hr2,hb2⟩)
  clear hr2 hb2
  go_wp2
  go_loopw [26] (zm3 ws ns nn w1.heap.size w1) (fun i _=>nn - (intOf i).toNat)
  case atStart=>exact HST.out
  case round =>
   obtain ⟨k,o,hk,rfl,hol,hpk,hr,hbr⟩:=hrel
   clear HST
   have HOL:=Lib.hid hol
   have HPK:=Lib.hid hpk
   clear hol hpk
   by_cases hlt:k < nn
   ·have hkl:k < ns.length:=by have:=HNL.out;omega
    have hlti:(k:Int) < (nn:Int):=by omega
    obtain ⟨ad,rfl,had,hcell⟩:=(HNS.out.below hbr).at hkl
    obtain ⟨N,hN⟩:=Int.eq_ofNat_of_zero_le (HNP.out _ (List.getElem_mem hkl))
    have hcn:wr.cell? (ad.add k)=some (.int .i64 (N:Int)):=by rw [hcell,hN];rfl
    have HD:=Lib.hid (show ns.drop k=(N:Int)::ns.drop (k+1) by rw [List.drop_eq_getElem_cons hkl,hN])
    clear hcell hN had
    by_cases hNw:wn≤N
    ·have d8:decide (wn≤N)=true:=decide_eq_true hNw
     have d9:decide ((wn:Int)≤(N:Int))=true:=decide_eq_true (by omega)
     have HE:=Lib.hid (show zbC ws (some ns)=none by show zch ws ns=none;rw [HPK.out,HD.out,zkR (by have:=HWN.out;omega)];rfl)
     have HB:=Lib.hid (za HB1.out (hbr.mono (Nat.le_refl _)))
     clear hr hbr
     go_wp2
     go_ret2
     rw [HE.out]
     exact RetTB.none _ HB.out
    ·have d8:decide (wn≤N)=false:=decide_eq_false hNw
     have d9:decide ((wn:Int)≤(N:Int))=false:=decide_eq_false (by omega)
     have hNl:N < ws.length:=by have:=HWN.out;omega
     have hNi:(N:Int) < (wn:Int):=by omega
     obtain ⟨ad6,rfl,_,hcell6⟩:=(HU1.out.below hbr).at hNl
     obtain ⟨s,hs⟩:∃ s,s=ws[N]:=⟨_,rfl⟩
     rw [←hs] at hcell6
     have hko:k < o.length:=by have:=HOL.out;omega
     have HP2:=Lib.hid (show zch ws ns=(zch ws (ns.drop (k+1))).map ((o.set k s).take (k+1) ++ ·) by
      rw [HPK.out,HD.out,zix hNl,←hs,Option.map_map,zfr _ _ _ hko]
      congr 1
      funext y
      simp)
     have hcx:wr.cell? ⟨w1.heap.size,k,none⟩=some (Value.string o[k]):=by rw [hr.cell,List.getElem?_map,List.getElem?_eq_getElem hko];rfl
     have hfx:=hr.free k
     have hr2:=hr.set_ k (.string s)
     rw [show (o.map Value.string).set k (.string s)=(o.set k s).map Value.string from List.map_set.symm] at hr2
     have HR2:=Lib.hid hr2
     have HBR:=Lib.hid hbr
     clear hr2 hr hbr hs hNw
     go_wp2
     go_roundw
     case rel=>exact ⟨k+1,o.set k s,by omega,by go_num,by rw [List.length_set];exact HOL.out,HP2.out,HR2.out,HBR.out.setCell (Nat.le_refl _) _⟩
     case measure=>simp [intOf];omega
   ·obtain rfl:k=nn:=by omega
    have hlti:¬(k:Int) < (k:Int):=by omega
    have hend:=HPK.out
    rw [List.drop_of_length_le (by have:=HNL.out;omega),zch] at hend
    have HE:=Lib.hid (show zbC ws (some ns)=some o by show zch ws ns=some o;rw [hend,List.take_of_length_le (by rw [HOL.out];exact Nat.le_refl _)];simp)
    have HB:=Lib.hid (za HB1.out (hbr.mono (Nat.le_refl _)))
    have HOW:=Lib.hid (show OwnV Value.string 9 w o (.slice (some ⟨w1.heap.size,0,none⟩) k k) wr from ⟨k,zcI hr (by rw [List.length_map];exact HOL.out) HB1.out.size (by omega)⟩)
    clear hr hbr hend
    go_wp2
    go_ret2
    rw [HE.out]
    exact ⟨_,rfl,fun l h=>by injection h with h;rw [←h];exact HOW.out,HB.out⟩
def zqG (b:List UInt8):Option (List Int)→Option (List ByteArray)
 | none=>none
 | some ns=>zM b ns
theorem zox (b l:List UInt8) (many:Int):jcut b l many=zqG b (zca l many):=by
 rw [zqC]
 cases zca l many <;> rfl
def zl9 (b0:List UInt8) (ns:List Int) (m g:Nat) (w w1:World) (bv_ i:Value) (wr:World):Prop:=
 ∃ (k:Nat) (rest:List UInt8) (o:List ByteArray),k≤m∧i=.int .i64 (k:Int)∧IsB rest bv_ w∧rest.length≤1000000∧o.length=m∧zM b0 ns=(zM rest (ns.drop k)).map (o.take k ++ ·)∧Row wr g 9 (o.map Value.string)∧Below g w1 wr
section
variable {P:Program} {o:Oper} {ρ:Operand→Value} {w:World} {R:Value→World→Prop}
theorem zef {t t':TypeId} {x y:Operand} {g k:Nat} {old:List Value} {s:ByteArray} (ho:o.op=.store t x y) (hx:ρ x=.pointer (some ⟨g,k,none⟩)) (hy:ρ y=.string s) (hr:Row w g t' old)
  (hi:(P.info? t).map (·.size)=some 1) (hk:k < old.length) (hR:R undef (w.setCell ⟨g,k,none⟩ (.string s))):zba P o ρ w R:=by
 have hc:w.cell? ⟨g,k,none⟩=some old[k]:=by rw [hr.cell,List.getElem?_eq_getElem hk]
 have hf:=hr.free k
 have h:(execOp ρ o).run P w=.ok .skip (w.setCell ⟨g,k,none⟩ (.string s)):=by
  unfold execOp
  have hst:(storeVar t ⟨g,k,none⟩ (.string s)).run P w=.ok () (w.setCell ⟨g,k,none⟩ (.string s)):=by
   cases hq:P.info? t with
   | none=>simp [hq] at hi
   | some i =>
    have hs:i.size=1:=by simpa [hq] using hi
    simp [storeVar,sizeOf,typeInfo,hq,Value.cells,hs,Result.andThen,storeCells]
    rw [show (⟨g,k,none⟩:Addr).add 0=⟨g,k,none⟩ by simp [Addr.add],run_store P w _ _ _ rfl]
    simp [hc,hf]
  simp only [ho,hx,hy,Instr.storeAt,Instr.sureAddr,Sem.run_bind,Sem.run_pure,Result.andThen_ok,hst]
 unfold zba
 rw [h]
 exact hR
end
theorem ziB (b lengths:List UInt8) (M:Int) (u v:Value) (w:World) (ht:WTab w) (hu:IsB b u w) (hv:IsB lengths v w) (hb:b.length≤1000000) (hb2:lengths.length≤1000000) :
  Calls Tryz.prog 43 #[u,v,.int .i64 M] w (RetTB w (jcut b lengths M)):=by
 have HNU:=Lib.hid (zga lengths v M w ht hv hb2)
 have HU:=Lib.hid hu
 have HBL:=Lib.hid hb
 obtain ⟨A,n,c,rfl⟩:=IsV.shape (f:=bv) hu
 obtain ⟨o,ho⟩:∃ o,o=zca lengths M:=⟨_,rfl⟩
 have HO:=Lib.hid ho
 have HJ:=Lib.hid (show jcut b lengths M=zqG b o by rw [ho];exact zox b lengths M)
 rw [HJ.out]
 rw [←ho] at HNU
 have hM4:∀ ns,o=some ns→ns.length≤4096:=by
  intro ns h
  rw [ho] at h
  unfold zca at h
  split at h
  ·cases h
  ·injection h with h
   rw [←h]
   exact ziq _ _ _
 have HM4:=Lib.hid hM4
 clear ht hu hv hb hb2 ho hM4 HJ
 cases o with
 | none =>
  go_enter Tryz.func43,Tryz.ntmps43
  go_wp2_with fail
  refine HNU.out.mono ?_
  rintro e w1 ⟨nv,rfl,hns,hb1⟩
  have HB:=Lib.hid hb1
  clear hb1 hns
  dsimp only [Option.isSome]
  go_wp2
  go_ret2
  exact RetTB.none _ HB.out
 | some ns =>
  have HNP:=Lib.hid (zm2 HO.out.symm).2
  have hm4:=HM4.out ns rfl
  go_enter Tryz.func43,Tryz.ntmps43
  go_wp2_with fail
  refine HNU.out.mono ?_
  rintro e w1 ⟨nv,rfl,hns,hb1⟩
  dsimp only [Option.isSome,Option.getD] at hns ⊢
  obtain ⟨Bn,nn,nc,rfl⟩:=hns.shape
  have HNL:=Lib.hid (show ns.length=nn from hns.parts.1)
  have hn4:nn≤4096:=by have:=HNL.out;omega
  have HNS:=Lib.hid hns
  have HB1:=Lib.hid hb1
  clear hb1 hns hm4
  go_wp2_with (refine zA zqr rfl _ _ rfl _ _ _ _ nn w1 w1.heap.size rfl rfl rfl rfl (by omega) (by omega) (Below.refl _ _) (Nat.le_refl _) ?_)
  intro w2 hr2 hb2
  have HST:=Lib.hid (show zl9 b ns nn w1.heap.size w w1 (.slice A n c) (.int .i64 0) w2 from ⟨0,b,List.replicate nn ⟨#[]⟩,by omega,rfl,HU.out,HBL.out,by simp,by cases h:zM b ns <;> simp [h],by rw [List.map_replicate];exact hr2,hb2⟩)
  clear hr2 hb2
  go_wp2
  go_loopw [0,26] (zl9 b ns nn w1.heap.size w w1) (fun _ i _=>nn - (intOf i).toNat)
  case atStart=>exact HST.out
  case round =>
   obtain ⟨k,rest,o,hk,rfl,hrb,hrl,hol,hpk,hr,hbr⟩:=hrel
   clear HST
   have HOL:=Lib.hid hol
   have HPK:=Lib.hid hpk
   have HRB:=Lib.hid hrb
   have HB:=Lib.hid (za HB1.out hbr)
   obtain ⟨R,rl,rc2,rfl⟩:=IsV.shape (f:=bv) hrb
   obtain ⟨hrl2,hR,hrc,hrm,hLI⟩:=IsV.parts (f:=bv) (show IsV bv rest _ _ from hrb)
   have hrci:(rc2:Int)≤9223372036854775807:=by unfold maxLen at hrm;omega
   have HRL:=Lib.hid hrl2
   clear hol hpk hrb
   by_cases hlt:k < nn
   ·have hkl:k < ns.length:=by have:=HNL.out;omega
    have hlti:(k:Int) < (nn:Int):=by omega
    obtain ⟨ad,rfl,had,hcell⟩:=(HNS.out.below hbr).at hkl
    obtain ⟨N,hN⟩:=Int.eq_ofNat_of_zero_le (HNP.out _ (List.getElem_mem hkl))
    have hcn:wr.cell? (ad.add k)=some (.int .i64 (N:Int)):=by rw [hcell,hN];rfl
    have HD:=Lib.hid (show ns.drop k=(N:Int)::ns.drop (k+1) by rw [List.drop_eq_getElem_cons hkl,hN])
    clear hcell hN had
    by_cases h3:300 < N
    ·have HE:=Lib.hid (show zM b ns=none by rw [HPK.out,HD.out,zcY (.inl (by omega))];rfl)
     have d1:decide ((300:Int) < (N:Int))=true:=decide_eq_true (by omega)
     clear hr hbr hR hLI
     go_wp2
     go_ret2
     show RetTB w (zM b ns) _ _
     rw [HE.out]
     exact RetTB.none _ HB.out
    ·have d1:decide ((300:Int) < (N:Int))=false:=decide_eq_false (by omega)
     by_cases h4:rl < N
     ·have HE:=Lib.hid (show zM b ns=none by rw [HPK.out,HD.out,zcY (.inr (by have:=HRL.out;omega))];rfl)
      have d2:decide (rl < N)=true:=decide_eq_true h4
      have d3:decide ((rl:Int) < (N:Int))=true:=decide_eq_true (by omega)
      clear hr hbr hR hLI
      go_wp2
      go_ret2
      show RetTB w (zM b ns) _ _
      rw [HE.out]
      exact RetTB.none _ HB.out
     ·have d2:decide (rl < N)=false:=decide_eq_false h4
      have d3:decide ((rl:Int) < (N:Int))=false:=decide_eq_false (by omega)
      have hNc:N≤rc2:=by omega
      have HTX:=Lib.hid (fun (X:World) (h:Below w.heap.size w X)=>ziG (l:=rest.take N) (v:=.slice R N rc2) (IsV.below (f:=bv) (IsV.take (f:=bv) HRB.out (by omega)) h))
      obtain ⟨v3,hv3,hI3⟩:=zbr (P:=Tryz.prog) (w:=w) elemB (k:=N) (by omega) hrc hrm HRL.out hLI hR
      obtain ⟨t,ht⟩:∃ t:ByteArray,t=⟨(rest.take N).toArray⟩:=⟨_,rfl⟩
      rw [←ht] at HTX
      have hko:k < o.length:=by have:=HOL.out;omega
      have HP2:=Lib.hid (show zM b ns=(zM (rest.drop N) (ns.drop (k+1))).map ((o.set k t).take (k+1) ++ ·) by
       rw [HPK.out,HD.out,zf5 (by omega) (by have:=HRL.out;omega),Option.map_map,ht,zfr _ _ _ hko]
       congr 1
       funext y
       simp)
      have HV3:=Lib.hid hv3
      have HI3:=Lib.hid hI3
      have HDL:=Lib.hid (show (rest.drop N).length≤1000000 by rw [List.length_drop];omega)
      obtain ⟨cur,hcur⟩:∃ cur,cur=o.map Value.string:=⟨_,rfl⟩
      obtain ⟨new,hnew⟩:∃ new,new=(o.set k t).map Value.string:=⟨_,rfl⟩
      have HSC:=Lib.hid (show cur.set k (.string t)=new by rw [hcur,hnew];exact List.map_set.symm)
      have HSN:=Lib.hid (show new.set k (.string t)=new by rw [hnew,List.map_set,List.set_set])
      have HLC:=Lib.hid (show k < cur.length by rw [hcur,List.length_map];exact hko)
      have HLN:=Lib.hid (show k < new.length by rw [hnew,List.length_map,List.length_set];exact hko)
      rw [←hcur] at hr
      have HR:=Lib.hid hr
      have HNEW:=Lib.hid hnew
      have HBR:=Lib.hid hbr
      have HWZ:=Lib.hid HB1.out.size
      clear hI3 hv3 ht h3 h4 hR hLI hr hbr hcur hnew hko
      go_wp2_with fail
      refine zbI (zl w1.heap.size w1.heap.size 9 cur new) [.is (.slice (some ⟨w1.heap.size,0,none⟩) nn nn),.is (.int .i64 (k:Int)),.is (.slice R rl rc2),.is (.int .i64 (N:Int)),.is (.slice R N rc2),.is (.string t),.is (.slice R rl rc2),.is (.int .i64 (N:Int)),.is v3,.is (.pointer (some ⟨w1.heap.size,k,none⟩)),
       .of (fun _ W=>Row W w1.heap.size 9 new) (fun _ W W' h hk=>hk.2.2 h),.is v3]
       [some 39,some 40,some 41,some 42,some 43,some 44,some 45,some 46,some 47,some 48,none,some 0] (by kernel_rfl) (by kernel_rfl) (by kernel_rfl) (by kernel_rfl) rfl ⟨?_,?_,?_,?_,?_,?_,?_,?_,?_,?_,?_,?_,trivial⟩ ?_
      ·intro ρ vs W1 hb1 H
       exact zd rfl (H.old 10 _ (by kernel_rfl) rfl) ⟨zt _ _ _,(zl _ _ _ _ _).refl _⟩
      ·intro ρ vs W1 hb1 H
       exact zd rfl (H.old 11 _ (by kernel_rfl) rfl) ⟨zt _ _ _,(zl _ _ _ _ _).refl _⟩
      ·intro ρ vs W1 hb1 H
       exact zd rfl (H.old 0 _ (by kernel_rfl) rfl) ⟨zt _ _ _,(zl _ _ _ _ _).refl _⟩
      ·intro ρ vs W1 hb1 H
       exact zd rfl (H.old 12 _ (by kernel_rfl) rfl) ⟨zt _ _ _,(zl _ _ _ _ _).refl _⟩
      ·intro ρ vs W1 hb1 H
       exact zcH elemB rfl (H.holds 41 2 (by kernel_rfl)) (H.holds 42 3 (by kernel_rfl)) hNc ⟨zt _ _ _,(zl _ _ _ _ _).refl _⟩
      ·intro ρ vs W1 hb1 H
       exact zK rfl (H.holds 43 4 (by kernel_rfl)) (HTX.out W1 (HB.out.trans (hb1.1.mono HWZ.out))) ⟨zt _ _ _,(zl _ _ _ _ _).refl _⟩
      ·intro ρ vs W1 hb1 H
       exact zd rfl (H.old 0 _ (by kernel_rfl) rfl) ⟨zt _ _ _,(zl _ _ _ _ _).refl _⟩
      ·intro ρ vs W1 hb1 H
       exact zd rfl (H.old 12 _ (by kernel_rfl) rfl) ⟨zt _ _ _,(zl _ _ _ _ _).refl _⟩
      ·intro ρ vs W1 hb1 H
       have e1:ρ (.tmp 46)=.int .i64 (N:Int):=H.holds 46 7 (by kernel_rfl)
       exact zL rfl (H.holds 45 6 (by kernel_rfl)) (by simp only [Option.map_some];rw [e1]) rfl rfl (HV3.out W1) ⟨zt _ _ _,(zl _ _ _ _ _).refl _⟩
      ·intro ρ vs W1 hb1 H
       refine zF zqr (ad:=⟨w1.heap.size,0,none⟩) (k:=k) rfl (H.holds 39 0 (by kernel_rfl)) (H.holds 40 1 (by kernel_rfl)) hlt ?_
       rw [show (⟨w1.heap.size,0,none⟩:Addr).add k=⟨w1.heap.size,k,none⟩ by unfold Addr.add;split <;> simp_all]
       exact ⟨zt _ _ _,(zl _ _ _ _ _).refl _⟩
      ·intro ρ vs W1 hb1 H
       have hto:∀ (l:List Value),l.set k (.string t)=new→Row W1 w1.heap.size 9 l→Row (W1.setCell ⟨w1.heap.size,k,none⟩ (.string t)) w1.heap.size 9 new:=fun l hl hr=>by rw [←hl];exact hr.set_ k _
       have hset:Below w1.heap.size W1 (W1.setCell ⟨w1.heap.size,k,none⟩ (.string t)):=(Below.refl w1.heap.size W1).setCell (p:=⟨w1.heap.size,k,none⟩) (Nat.le_refl _) _
       rcases hb1.2.1 HR.out with h | h
       ·exact zef rfl (H.holds 48 9 (by kernel_rfl)) (H.holds 44 5 (by kernel_rfl)) h (by kernel_rfl) HLC.out ⟨hto _ HSC.out h,hset,fun _=>.inr (hto _ HSC.out h),fun hr=>hto _ HSN.out hr⟩
       ·exact zef rfl (H.holds 48 9 (by kernel_rfl)) (H.holds 44 5 (by kernel_rfl)) h (by kernel_rfl) HLN.out ⟨hto _ HSN.out h,hset,fun _=>.inr (hto _ HSN.out h),fun hr=>hto _ HSN.out hr⟩
      ·intro ρ vs W1 hb1 H
       exact zf rfl (H.holds 47 8 (by kernel_rfl)) ⟨zt _ _ _,(zl _ _ _ _ _).refl _⟩
      ·intro vs W1 hb1 hfs
       have f10:Row W1 w1.heap.size 9 new:=hfs 10 (by decide)
       have f11:vs 11=v3:=hfs 11 (by decide)
       clear hfs
       simp only [zr,Nat.zero_add,Nat.reduceAdd]
       generalize vs 0=z0
       generalize vs 1=z1
       generalize vs 2=z2
       generalize vs 3=z3
       generalize vs 4=z4
       generalize vs 5=z5
       generalize vs 6=z6
       generalize vs 7=z7
       generalize vs 8=z8
       generalize vs 9=z9
       generalize vs 10=z10
       simp only [f11,Act.put,List.setIfInBounds_toArray,List.set_cons_succ,List.set_cons_zero]
       have HREL:=Lib.hid (show zl9 b ns nn w1.heap.size w w1 v3 (.int .i64 ((k+1:Nat):Int)) W1 from ⟨k+1,rest.drop N,o.set k t,by omega,rfl,HI3.out,HDL.out,by rw [List.length_set];exact HOL.out,HP2.out,by rw [←HNEW.out];exact f10,HBR.out.trans (hb1.1)⟩)
       clear f10 f11 hb1
       go_wp2
       go_roundw
       case rel=>exact HREL.out
       case measure=>simp [intOf];omega
   ·obtain rfl:k=nn:=by omega
    have hlti:¬(k:Int) < (k:Int):=by omega
    have hend:=HPK.out
    rw [List.drop_of_length_le (by have:=HNL.out;omega),zeR,HRL.out,List.take_of_length_le (by rw [HOL.out];exact Nat.le_refl _)] at hend
    by_cases h0:rl=0
    ·subst h0
     rw [if_neg (by omega)] at hend
     have HE:=Lib.hid (show zM b ns=some o by rw [hend];simp)
     have HOW:=Lib.hid (show OwnV Value.string 9 w o (.slice (some ⟨w1.heap.size,0,none⟩) k k) wr from ⟨k,zcI hr (by rw [List.length_map];exact HOL.out) HB1.out.size (by omega)⟩)
     clear hr hbr hend hR hLI
     go_wp2
     go_ret2
     show RetTB w (zM b ns) _ _
     rw [HE.out]
     exact ⟨_,rfl,fun l h=>by injection h with h;rw [←h];exact HOW.out,HB.out⟩
    ·rw [if_pos (by omega)] at hend
     have HE:=Lib.hid (show zM b ns=none by rw [hend];rfl)
     have d5:((rl:Int) == 0)=false:=by simpa using h0
     clear hr hbr hend hR hLI h0
     go_wp2
     go_ret2
     show RetTB w (zM b ns) _ _
     rw [HE.out]
     exact RetTB.none _ HB.out
end Go.Proofs.YtblpkmmhmdpkjaaGreatDoor
