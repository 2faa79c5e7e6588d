import Derived.StillTailTactics
import Derived.Test.YtlibofmpnlfelaaGreatDoorBG16
set_option maxHeartbeats 8000000
set_option maxRecDepth 100000
namespace Go.Proofs.YtlibofmpnlfelaaGreatDoor
open Go.RowKit Go.ChangeShapes Go.WideShapes Go.ChangeAt
theorem ziu (w:World) (hT:WTab w) (k:Int) (_k0 : -9223372036854775808≤k) (_k1:k≤9223372036854775807) (v1:Value) (l1:List UInt8) (hI1:IsB l1 v1 w) (many:Int) (_m0 : -9223372036854775808≤many) (_m1:many≤9223372036854775807) :
  Calls Tryz.prog 4 #[.int .i64 k,v1,.int .i64 many] w fun e w'=>e=.returned (.bool true)∧Below w.heap.size w w':=by
 obtain ⟨A1,n10,c1,rfl⟩:=IsV.shape (f:=bv) hI1
 obtain ⟨hn1,-,hc1,hm1,-⟩:=IsV.parts (f:=bv) hI1
 obtain ⟨n1,hmin1⟩:∃ n,n=min n10 1500:=⟨_,rfl⟩
 have HI:=Lib.hid (IsV.take (f:=bv) hI1 (show n1≤n10 by omega))
 have HIL:=Lib.hid (show (l1.take n1).length=n1 by rw [List.length_take];omega)
 have hci1:(c1:Int)≤9223372036854775807:=by unfold maxLen at hm1;omega
 have hnb1:n1≤1500:=by omega
 have hnc1:n1≤c1:=by omega
 obtain ⟨l1c,hl1c⟩:∃ l,l=l1.take n1:=⟨_,rfl⟩
 rw [←hl1c] at HI HIL
 clear hI1 hn1 hm1 hl1c
 have HIM:=Lib.hid (show (l1c.map bv).length=n1 by rw [List.length_map];exact HIL.out)
 have HT:=Lib.hid hT
 have HK:=Lib.hid (show inInt k from ⟨_k0,_k1⟩)
 have HMM:=Lib.hid (show inInt many from ⟨_m0,_m1⟩)
 clear hT _k0 _k1 _m0 _m1
 rcases (by omega:n10≤1500∧n1=n10∨1500 < n10∧n1=1500) with ⟨h6,rfl⟩ | ⟨h6,rfl⟩
 all_goals
  clear hmin1
  go_enter Tryz.func4,Tryz.ntmps4
  go_wp2_with fail
  refine (zs2 _ HT.out).mono ?_
  rintro e w1 ⟨rfl,hb1⟩
  have HI:=Lib.hid (IsB.below HI.out hb1)
  have HT:=Lib.hid (WTab.below HT.out hb1 (WTab.lt HT.out))
  have HB:=Lib.hid hb1
  clear hb1
  obtain ⟨-,hA2,-,-,hlies2⟩:=IsV.parts (f:=bv) HI.out
  have hown2:=zfx w1 5 1
  have hbA2:Below w1.heap.size w1 (w1.alloc (.cells #[] 5)):=(Below.refl _ _).alloc (Nat.le_refl _) _
  have hlA2:=hlies2.below hbA2
  have hzz2:=hbA2.size
  clear hlies2
  go_wp2_with (at_builtin;refine zk elemB rfl _ _ rfl w1.heap.size _ _ _ _ _ _ (l1c.map bv) w1 rfl rfl hA2 HIM.out hlA2 (zbv l1c) hown2 hbA2 hzz2 (by omega) (by omega) ?_)
  intro v2 w2 hown2' hb2 _ _
  have HC:=Lib.hid (show IsB l1c v2 w2 from zbw (by simpa using hown2'))
  have HI:=Lib.hid (IsB.below HI.out hb2)
  have HT:=Lib.hid (WTab.below HT.out hb2 (WTab.lt HT.out))
  have HB:=Lib.hid (za HB.out hb2)
  clear hown2 hown2' hbA2 hlA2 hzz2 hb2 hA2
  go_wp2_with fail
  refine (zs1 k l1c v2 many _ HT.out HC.out (by have:=HIL.out;omega)).mono ?_
  rintro e w3 ⟨a,rfl,ha,hb3⟩
  have HI:=Lib.hid (IsB.below HI.out hb3)
  have HT:=Lib.hid (WTab.below HT.out hb3 (WTab.lt HT.out))
  have HC:=Lib.hid (IsB.below HC.out hb3)
  have HB:=Lib.hid (za HB.out hb3)
  have HA:=Lib.hid ha
  clear ha hb3
  go_wp2_with fail
  refine (zqm k l1c _ many _ HI.out (by have:=HIL.out;omega)).mono ?_
  rintro e w4 ⟨b,rfl,hb,hb4⟩
  have HI:=Lib.hid (IsB.below HI.out hb4)
  have HT:=Lib.hid (WTab.below HT.out hb4 (WTab.lt HT.out))
  have HC:=Lib.hid (IsB.below HC.out hb4)
  have HA:=Lib.hid (IsR.below HA.out hb4)
  have HB:=Lib.hid (za HB.out hb4)
  have HBB:=Lib.hid hb
  clear hb hb4
  go_wp2_with fail
  refine (zkb (zbj k l1c many).1 a b _ HA.out HBB.out (zqy _ _ _)).mono ?_
  rintro e w5 ⟨rfl,hb5⟩
  have HI:=Lib.hid (IsB.below HI.out hb5)
  have HT:=Lib.hid (WTab.below HT.out hb5 (WTab.lt HT.out))
  have HC:=Lib.hid (IsB.below HC.out hb5)
  have HA:=Lib.hid (IsR.below HA.out hb5)
  have HBB:=Lib.hid (IsR.below HBB.out hb5)
  have HB:=Lib.hid (za HB.out hb5)
  clear hb5
  have hz:((zbj k l1c many).2 == (zbj k l1c many).2)=true:=by simp
  go_wp2
  go_ret
  exact ⟨rfl,HB.out⟩
theorem zgN (os:Os) (started:os.Started) (H:Type) (enc:TypeId × Value→H) :
  ReturnsInHanded {} Tryz.checked os 4 .any (fun w args=>(Rows.intsTakesSpec.pre enc Tryz.prog Tryz.f4 [] false w args∧laidMetH Tryz.prog [("pilaster/widths.table",Rows.laid_pilaster_widths_table)] w)∧sizedMet enc Tryz.prog Tryz.f4 (OpenSpec.ofChange Rows.intsTakesSpec) false w args) (Rows.intsTakesSpec.post enc Tryz.prog Tryz.f4 false true false false):=by
 refine returnsInHanded_of_change_and (C:=Tryz.checked) (X:=fun w _=>laidMetH Tryz.prog [("pilaster/widths.table",Rows.laid_pilaster_widths_table)] w) (fun _ _ _ hh h=>h.of_heap hh) own started (by kernel_rfl) Tryz.func4
  (ChangeSpec.witness_shaped (enc:=enc) (C:=Tryz.checked) (os:=os) (X:=fun w _=>laidMetH Tryz.prog [("pilaster/widths.table",Rows.laid_pilaster_widths_table)] w) false (World.doorLaid Tryz.prog 400 os) #[.int .i64 0,.slice none 0 0,.int .i64 0] 8 rfl (World.shaped_of_RefB (by kernel_rfl) (by kernel_rfl)) (by kernel_rfl) (by kernel_rfl) (by kernel_rfl) (ztr os _)) ?_
 intro W base args ds gs before hval0 hW _ _ hL _
 have hT:=zvz hL
 clear hL
 have hval:∀ (j:Nat) t v,Tryz.f4.params[j]? = some t→args[j]? = some v→Value.okWide Tryz.prog W .any base t v:=hval0
 have hW':=hW
 obtain ⟨p,q,hT0,hV,rfl,hfz,hnd⟩:=hW
 have hA:DataW.TrodAll enc Tryz.prog W 0 (fun _=>true) true Tryz.f4.params.toList args.toList ds p:=hT0
 rw [Tryz.params4] at hA hval
 obtain ⟨v0,vs0,d0,ds0,p0,q0,hargs,rfl,rfl,h0,r0⟩:=trodAll_cons hA
 obtain ⟨v1,vs1,d1,ds1,p1,q1,rfl,rfl,rfl,h1,r1⟩:=trodAll_cons r0
 obtain ⟨v2,vs2,d2,ds2,p2,q2,rfl,rfl,rfl,h2,r2⟩:=trodAll_cons r1
 obtain ⟨rfl,rfl,rfl⟩:=trodAll_nil r2
 obtain rfl:args = #[v0,v1,v2]:=by cases args;simp_all
 obtain ⟨rfl,rfl⟩:=trodVars_none hV
 obtain ⟨a0,rfl,rfl,rfl,w0⟩:=open_int Tryz.underlying3 (hval 0 3 v0 rfl rfl) h0
 have hlt1:∀ x∈p1,x.block < W.heap.size:=fun x hx=>hW'.lt x (by simp [hx])
 obtain ⟨l1,hl1⟩:=zmz Tryz.underlying25 Tryz.underlying5 (by kernel_rfl) (hval 1 25 v1 rfl rfl) h1 hlt1
 obtain ⟨a2,rfl,rfl,rfl,w2⟩:=open_int Tryz.underlying3 (hval 2 3 v2 rfl rfl) h2
 clear hT0 hval0
 refine (ziu W hT a0 (wf_i64 w0).1 (wf_i64 w0).2 v1 l1 hl1 a2 (wf_i64 w2).1 (wf_i64 w2).2).mono fun e W' ⟨he,hb⟩=>?_
 subst he
 exact ⟨_,rfl,zs5 laidOut Tryz.underlying4 (by kernel_rfl) (by kernel_rfl) rfl hW' rfl hb⟩
theorem ziv:Rows.intsTakesRow.holds Tryz.pinned (OpenSpec.ofChange Rows.intsTakesSpec):=
 OpenClaim.holds_of_wide 4 Tryz.f4 rfl rfl rfl rfl rfl rfl rfl ⟨rfl,rfl,rfl,rfl,rfl⟩ rfl rfl rfl rfl rfl (by kernel_rfl) Tryz.func4 (by kernel_rfl)
  (of_decide_eq_true (by kernel_rfl)) (by unfold Func.isWrapper;first | (rw [if_pos (by decide +kernel)];kernel_rfl) | (rw [if_neg (by decide +kernel)];exact ⟨rfl,rfl⟩))
  (fun os started H enc _=>zgN os started H enc)
theorem IntsTakes_holds:Rows.IntsTakesCardSaid:=
 Claim7.holds_tied_plain_at .later [] _ true _ _ ziv (fun _ h=>by cases h) (by kernel_rfl) (fun _ h=>by cases h) intsTakes_row_tie rfl ⟨rfl,rfl⟩ (by kernel_rfl) rfl
  (fun f fn hf hfn=>by
   obtain rfl:f=4:=Option.some.inj ((show Tryz.prog.funcNamed "pilaster/pilasterlaw14.IntsTakes" = some 4 by kernel_rfl).symm.trans hf) |>.symm
   obtain rfl:fn=Tryz.f4:=(Option.some.inj (Tryz.func4.symm.trans hfn)).symm
   exact ⟨by kernel_rfl,fun j t ht=>zqB (by kernel_rfl) ht⟩)
  (by kernel_rfl)
#print axioms IntsTakes_holds
end Go.Proofs.YtlibofmpnlfelaaGreatDoor
