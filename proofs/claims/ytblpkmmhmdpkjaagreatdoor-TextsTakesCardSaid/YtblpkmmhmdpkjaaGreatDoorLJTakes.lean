import Derived.StillTailTactics
import Derived.Test.YtblpkmmhmdpkjaaGreatDoorBG14
set_option maxHeartbeats 8000000
set_option maxRecDepth 100000
namespace Go.Proofs.YtblpkmmhmdpkjaaGreatDoor
open Go.RowKit Go.ChangeShapes Go.WideShapes Go.ChangeAt
theorem zkZ {ws:List ByteArray}:∀ {ps:List Int} {l:List ByteArray},zch ws ps=some l→l.length=ps.length
 | [],l,h=>by
  rw [zch] at h
  injection h with h
  rw [←h]
  rfl
 | p::ps,l,h=>by
  rw [zch] at h
  split at h
  ·cases h
  ·rw [Option.map_eq_some_iff] at h
   obtain ⟨l',h1,rfl⟩:=h
   rw [List.length_cons,List.length_cons,zkZ h1]
theorem zoA (c:JC):(zbP c).1.length≤1000000:=by
 unfold zbP
 split
 ·simp
 ·rename_i hm
  obtain ⟨M,hM⟩:=Int.eq_ofNat_of_zero_le (show 0≤c.many by omega)
  split
  ·split
   ·simp
   ·rename_i l h
    rw [hM] at h
    have:=zhv h
    dsimp only
    omega
  ·split
   ·simp
   ·split
    ·simp
    ·rename_i hu
     unfold zhJ
     split
     ·simp
     ·split
      ·split
       ·simp
       ·rename_i l h
        have h1:=zkZ h
        rw [hM] at h1 hu
        obtain ⟨ns,q,y,hq⟩:∃ ns q y,zO (c.streams.getD 0 (0,[])).2 (M:Int) false=(ns,q,y):=⟨_,_,_,rfl⟩
        rw [hq] at h1 hu
        dsimp only at h1 hu
        have hy:y=0:=by
         by_cases hy:y=0
         ·exact hy
         ·exact absurd (.inl hy) hu
        subst hy
        have h2:=(zcy hq).1
        dsimp only
        omega
      ·simp
theorem zhz (w:World) (ht:WTab w) (v0:Value) (l0:JC) (hI0:IsCol l0 v0 w) :
  Calls Tryz.prog 4 #[v0] w fun e w'=>e=.returned (.bool true)∧Below w.heap.size w w':=by
 have ho:=IsCol.shape hI0
 obtain ⟨A0,n0,c0,rfl⟩:=ho
 rw [show colv l0 (.slice A0 n0 c0)=.agg #[.int .i64 l0.many,.int .i64 l0.enc,.int .i64 l0.texts,.slice A0 n0 c0] from rfl]
 obtain ⟨wb,hwb⟩:∃ w',w'=w.alloc (.cells #[.int .i64 l0.many,.int .i64 l0.enc,.int .i64 l0.texts,.slice A0 n0 c0] 27):=⟨_,rfl⟩
 have hrb:Row wb w.heap.size 27 [.int .i64 l0.many,.int .i64 l0.enc,.int .i64 l0.texts,.slice A0 n0 c0]:=by rw [hwb];exact heap_alloc_new w _
 have hbb:Below w.heap.size w wb:=by rw [hwb];exact (Below.refl _ _).alloc (Nat.le_refl _) _
 have HC:=Lib.hid (hI0.below hbb)
 have HT:=Lib.hid (ht.below hbb ht.lt)
 have HRA:=Lib.hid hrb
 have HTB:=Lib.hid (fun (X:World) (h:Below w.heap.size w X)=>ht.below h ht.lt)
 have HB:=Lib.hid hbb
 clear hrb hbb ht hI0
 go_enter Tryz.func4,Tryz.ntmps4
 go_wp2_with fail
 rw [←hwb]
 clear hwb
 refine (zqJ _ HT.out).mono ?_
 rintro e w1 ⟨rfl,hb1⟩
 have HC:=Lib.hid (IsCol.below HC.out hb1)
 have HT:=Lib.hid (WTab.below HT.out hb1 (WTab.lt HT.out))
 have HRA:=Lib.hid (Row.below HRA.out hb1 (Row.lt HRA.out))
 have HB:=Lib.hid (za HB.out hb1)
 clear hb1
 have cHRA0:=HRA.out.cell 0
 have cHRA1:=HRA.out.cell 1
 have cHRA2:=HRA.out.cell 2
 have cHRA3:=HRA.out.cell 3
 simp only [List.getElem?_cons_zero,List.getElem?_cons_succ] at cHRA0 cHRA1 cHRA2 cHRA3
 have HLT:Hid (w.heap.size < w1.heap.size):=Lib.hid (Row.lt HRA.out)
 go_wp2_with fail
 clear cHRA0 cHRA1 cHRA2 cHRA3
 refine (zqK l0 _ _ HC.out).mono ?_
 rintro e w2 ⟨u,rfl,hu,hspare,hb2⟩
 have HT:=Lib.hid (WTab.below HT.out hb2 (WTab.lt HT.out))
 have HRA:=Lib.hid (Row.below HRA.out hb2 (Row.lt HRA.out))
 have HB:=Lib.hid (za HB.out hb2)
 have HSP:=Lib.hid hspare
 clear hspare hb2
 obtain ⟨A1,n1,c1,rfl⟩:=IsCol.shape hu
 have HSM:=Lib.hid (zmb l0)
 obtain ⟨C,hC⟩:∃ C,C=zkX l0:=⟨_,rfl⟩
 rw [←hC] at HSP HSM ⊢
 have HTL:Hid ((zbP C).1.length≤1000000):=Lib.hid (by rw [hC];exact zoA _)
 clear hC hu
 rw [show colv C (.slice A1 n1 c1)=.agg #[.int .i64 C.many,.int .i64 C.enc,.int .i64 C.texts,.slice A1 n1 c1] from rfl]
 go_wp2_with (refine zS zdV rfl _ _ rfl w.heap.size _ _ [.int .i64 C.many,.int .i64 C.enc,.int .i64 C.texts,.slice A1 n1 c1] rfl rfl HRA.out rfl rfl (by simp [Value.oneCell']) w w.heap.size HB.out (Nat.le_refl _) ?_)
 intro w9 hr9 hb9 hs9
 have HC:=Lib.hid (HSP.out _ _ _ _ HLT.out HRA.out (zfq _ (fun _ h=>by cases h) _ _ _) hs9)
 have HT:=Lib.hid (show WTab w9 from HTB.out w9 hb9)
 have HRA:=Lib.hid hr9
 have HB:=Lib.hid hb9
 clear hr9 hb9 hs9 HSP
 have cHRA0:=HRA.out.cell 0
 have cHRA1:=HRA.out.cell 1
 have cHRA2:=HRA.out.cell 2
 have cHRA3:=HRA.out.cell 3
 simp only [List.getElem?_cons_zero,List.getElem?_cons_succ] at cHRA0 cHRA1 cHRA2 cHRA3
 go_wp2_with fail
 refine (zqI C _ _ HT.out HC.out HSM.out.1 HSM.out.2).mono ?_
 rintro e w3 ⟨va,rfl,ha,hb3⟩
 have HC:=Lib.hid (IsCol.below HC.out hb3)
 have HT:=Lib.hid (WTab.below HT.out hb3 (WTab.lt HT.out))
 have HRA:=Lib.hid (Row.below HRA.out hb3 (Row.lt HRA.out))
 have HB:=Lib.hid (za HB.out hb3)
 have HA:=Lib.hid ha
 clear ha hb3 cHRA0 cHRA1 cHRA2 cHRA3
 have cHRA0:=HRA.out.cell 0
 have cHRA1:=HRA.out.cell 1
 have cHRA2:=HRA.out.cell 2
 have cHRA3:=HRA.out.cell 3
 simp only [List.getElem?_cons_zero,List.getElem?_cons_succ] at cHRA0 cHRA1 cHRA2 cHRA3
 go_wp2_with fail
 refine (zor C _ _ HC.out HSM.out.1 HSM.out.2).mono ?_
 rintro e w4 ⟨vb,rfl,hb,hb4⟩
 have HC:=Lib.hid (IsCol.below HC.out hb4)
 have HT:=Lib.hid (WTab.below HT.out hb4 (WTab.lt HT.out))
 have HRA:=Lib.hid (Row.below HRA.out hb4 (Row.lt HRA.out))
 have HA:=Lib.hid (OwnV.below HA.out hb4)
 have HB:=Lib.hid (za HB.out hb4)
 have HB9:=Lib.hid hb
 clear hb hb4 cHRA0 cHRA1 cHRA2 cHRA3
 go_wp2_with fail
 refine (zqs (zbP C).1 va vb _ HA.out.isV HB9.out.isV HTL.out).mono ?_
 rintro e w5 ⟨rfl,hb5⟩
 have HC:=Lib.hid (IsCol.below HC.out hb5)
 have HT:=Lib.hid (WTab.below HT.out hb5 (WTab.lt HT.out))
 have HRA:=Lib.hid (Row.below HRA.out hb5 (Row.lt HRA.out))
 have HA:=Lib.hid (OwnV.below HA.out hb5)
 have HB9:=Lib.hid (OwnV.below HB9.out hb5)
 have HB:=Lib.hid (za HB.out hb5)
 clear hb5
 have hz:((zbP C).2 == (zbP C).2)=true:=by simp
 go_wp2
 go_ret
 exact ⟨rfl,HB.out⟩
theorem zfQ (os:Os) (started:os.Started) (H:Type) (enc:TypeId × Value→H) :
  ReturnsInHanded {} Tryz.checked os 4 .any (fun w args=>(Rows.textsTakesSpec.pre enc Tryz.prog Tryz.f4 [] false w args∧laidMetH Tryz.prog [("pilaster/widths.table",Rows.laid_pilaster_widths_table)] w)∧sizedMet enc Tryz.prog Tryz.f4 (OpenSpec.ofChange Rows.textsTakesSpec) false w args) (Rows.textsTakesSpec.post enc Tryz.prog Tryz.f4 false true false false):=by
 refine returnsInHanded_of_change_and (C:=Tryz.checked) (X:=fun w _=>laidMetH Tryz.prog [("pilaster/widths.table",Rows.laid_pilaster_widths_table)] w) (fun _ _ _ hh h=>h.of_heap hh) own started (by kernel_rfl) Tryz.func4
  (ChangeSpec.witness_shaped (enc:=enc) (C:=Tryz.checked) (os:=os) (X:=fun w _=>laidMetH Tryz.prog [("pilaster/widths.table",Rows.laid_pilaster_widths_table)] w) false (World.doorLaid Tryz.prog 400 os) #[.agg #[.int .i64 0,.int .i64 0,.int .i64 0,.slice none 0 0]] 8 rfl (World.shaped_of_RefB (by kernel_rfl) (by kernel_rfl)) (by kernel_rfl) (by kernel_rfl) (by kernel_rfl) (zq8 os _)) ?_
 intro W base args ds gs before hval0 hW _ _ hL _
 have hT:=ztd hL
 clear hL
 have hval:∀ (j:Nat) t v,Tryz.f4.params[j]? = some t→args[j]? = some v→Value.okWide Tryz.prog W .any base t v:=hval0
 have hW':=hW
 obtain ⟨p,q,hT0,hV,rfl,hfz,hnd⟩:=hW
 have hA:DataW.TrodAll enc Tryz.prog W 0 (fun _=>true) true Tryz.f4.params.toList args.toList ds p:=hT0
 rw [Tryz.params4] at hA hval
 obtain ⟨v0,vs0,d0,ds0,p0,q0,hargs,rfl,rfl,h0,r0⟩:=trodAll_cons hA
 obtain ⟨rfl,rfl,rfl⟩:=trodAll_nil r0
 obtain rfl:args = #[v0]:=by cases args;simp_all
 obtain ⟨rfl,rfl⟩:=trodVars_none hV
 have hlt0:∀ x∈p0,x.block < W.heap.size:=fun x hx=>hW'.lt x (by simp [hx])
 obtain ⟨l0,hl0⟩:=zrZ (hval 0 27 v0 rfl rfl) h0 hlt0
 clear hT0 hval0
 refine (zhz W hT v0 l0 hl0).mono fun e W' ⟨he,hb⟩=>?_
 subst he
 exact ⟨_,rfl,zqN laidOut Tryz.underlying4 (by kernel_rfl) (by kernel_rfl) rfl hW' rfl hb⟩
theorem zhA:Rows.textsTakesRow.holds Tryz.pinned (OpenSpec.ofChange Rows.textsTakesSpec):=
 OpenClaim.holds_of_wide 4 Tryz.f4 rfl rfl rfl rfl rfl rfl rfl ⟨rfl,rfl,rfl,rfl,rfl⟩ rfl rfl rfl rfl rfl (by kernel_rfl) Tryz.func4 (by kernel_rfl)
  (of_decide_eq_true (by kernel_rfl)) (by unfold Func.isWrapper;first | (rw [if_pos (by decide +kernel)];kernel_rfl) | (rw [if_neg (by decide +kernel)];exact ⟨rfl,rfl⟩))
  (fun os started H enc _=>zfQ os started H enc)
theorem TextsTakes_holds:Rows.TextsTakesCardSaid:=
 Claim7.holds_tied_plain_at .later [] _ true _ _ zhA (fun _ h=>by cases h) (by kernel_rfl) (fun _ h=>by cases h) textsTakes_row_tie rfl ⟨rfl,rfl⟩ (by kernel_rfl) rfl
  (fun f fn hf hfn=>by
   obtain rfl:f=4:=Option.some.inj ((show Tryz.prog.funcNamed "pilaster/pilasterlaw15.TextsTakes" = some 4 by kernel_rfl).symm.trans hf) |>.symm
   obtain rfl:fn=Tryz.f4:=(Option.some.inj (Tryz.func4.symm.trans hfn)).symm
   exact ⟨by kernel_rfl,fun j t ht=>zoC (by kernel_rfl) ht⟩)
  (by kernel_rfl)
#print axioms TextsTakes_holds
end Go.Proofs.YtblpkmmhmdpkjaaGreatDoor
