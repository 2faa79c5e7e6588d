import Derived.Shelf.Unicode.ValidAny
import Derived.Lib.LaidU8T
import Derived.PinnedBridge
import Derived.Test.YtlibofmpnlfelaaGreatDoorProg
import Derived.Lib.SmallJoins
import Derived.Test.YtlibofmpnlfelaaGreatDoorTie
import Derived.Test.YtlibofmpnlfelaaGreatDoorCards
import Derived.SevenTiedAt
import Derived.Stop.Joined
import Derived.Lay
import Derived.LaidOnce
import Derived.Lib.ValidLaws
import Derived.Lib.OthersKept
import Derived.Deep.Slices
import Derived.Test.YtlibofmpnlfelaaGreatDoorBG14
set_option maxHeartbeats 8000000
set_option maxRecDepth 100000
namespace Go.Proofs
open Go.Shelf Go.Lib Go.RowKit
end Go.Proofs
namespace Go.Proofs.YtlibofmpnlfelaaGreatDoor
open Go.RowKit
def zN (k:Int):Bool:=decide (1≤k) && decide (k≤5)
def kmay (k:Int) (v:CV):Bool:=
 if (decide (k < 1) || decide (7 < k))=true then false
 else if v.null=true then (v.n == 0) && (v.s.toList == [])
 else if decide (k≤5)=true then (v.s.toList == []) && (((k != 1) || (v.n == 0)) || (v.n == 1))
 else ((v.n == 0) && decide ((v.s.size:Int)≤300)) && ((k == 7) || Lib.validD v.s.data.toList)
def zvj (c1 c2 b n0 s0 c5 k1 n1 len k7 v:Bool):Bool:=
 bif c1 || c2 then false else bif b then n0 && s0 else bif c5 then s0 && ((k1 || n0) || n1) else (n0 && len) && (k7 || v)
theorem zvk (k:Int) (b:Bool) (n:Int) (s:ByteArray):kmay k ⟨b,n,s⟩=zvj (decide (k < 1)) (decide (7 < k)) b (n == 0) (s.toList == []) (decide (k≤5)) (k != 1) (n == 1) (decide ((s.size:Int)≤300)) (k == 7) (Lib.validD s.data.toList):=by
 unfold kmay zvj
 simp only [cond_eq_ite]
theorem zcr (k:Int) (w:World):Calls Tryz.prog 20 #[.int .i64 k] w fun e w'=>e=.returned (.bool (zN k))∧w=w':=by
 have HK:Hid (zN k=(decide (1≤k) && decide (k≤5))):=Lib.hid rfl
 cases c1:decide (1≤k)
 ·rw [c1] at HK
  go_enter Tryz.func20,Tryz.ntmps20
  go_wp2
  go_ret
  exact ⟨by rw [HK.out];rfl,rfl⟩
 ·cases c2:decide (k≤5)
  all_goals
   rw [c1,c2] at HK
   go_enter Tryz.func20,Tryz.ntmps20
   go_wp2
   go_ret
   exact ⟨by rw [HK.out];rfl,rfl⟩
end Go.Proofs.YtlibofmpnlfelaaGreatDoor
namespace Go.Proofs.YtlibofmpnlfelaaGreatDoor
open Go.Lib Go.RowKit Go.ChangeShapes Go.WideShapes Go.ChangeAt
end Go.Proofs.YtlibofmpnlfelaaGreatDoor
namespace Go.Proofs.YtlibofmpnlfelaaGreatDoor
open Go.RowKit
theorem zdc (k:Int) (w:World):Calls Tryz.prog 13 #[.int .i64 k] w fun e w'=>e=.returned (.bool (zN k))∧w=w':=by
 have HK:Hid (zN k=(decide (1≤k) && decide (k≤5))):=Lib.hid rfl
 cases c1:decide (1≤k)
 ·rw [c1] at HK
  go_enter Tryz.func13,Tryz.ntmps13
  go_wp2
  go_ret
  exact ⟨by rw [HK.out];rfl,rfl⟩
 ·cases c2:decide (k≤5)
  all_goals
   rw [c1,c2] at HK
   go_enter Tryz.func13,Tryz.ntmps13
   go_wp2
   go_ret
   exact ⟨by rw [HK.out];rfl,rfl⟩
def zfS (k:Int):Bool:=(zN k || (k == 6)) || (k == 7)
theorem zqf (k:Int):zfS k=true↔1≤k∧k≤7:=by
 unfold zfS zN
 simp only [Bool.or_eq_true,Bool.and_eq_true,decide_eq_true_eq,beq_iff_eq]
 omega
theorem zqg (k:Int) (w:World):Calls Tryz.prog 32 #[.int .i64 k] w fun e w'=>e=.returned (.bool (zfS k))∧w=w':=by
 have HK:Hid (zfS k=((zN k || (k == 6)) || (k == 7))):=Lib.hid rfl
 have HN:=Lib.hid (fun W=>zdc k W)
 cases c1:zN k
 ·rw [c1] at HK HN
  clear c1
  cases c2:(k == 6)
  all_goals
   rw [c2] at HK
   go_enter Tryz.func32,Tryz.ntmps32
   go_wp2_with (go_at_call 13;refine (HN.out _).mono ?_)
   rintro e w' ⟨rfl,rfl⟩
   go_wp2
   go_ret
   exact ⟨by rw [HK.out];rfl,rfl⟩
 ·rw [c1] at HK HN
  clear c1
  go_enter Tryz.func32,Tryz.ntmps32
  go_wp2_with (go_at_call 13;refine (HN.out _).mono ?_)
  rintro e w' ⟨rfl,rfl⟩
  go_wp2
  go_ret
  exact ⟨by rw [HK.out];rfl,rfl⟩
theorem zlZ (n b0 b1 b2 b3:Nat) (h0:b0 < 256) (_h1:b1 < 256) (_h2:b2 < 256) (_h3:b3 < 256) (h:(Lib.decodeN n b0 b1 b2 b3).1=65533) :
  ((Lib.decodeN n b0 b1 b2 b3).2=1∧¬(3≤n∧b0=239∧b1=191∧b2=189))∨((Lib.decodeN n b0 b1 b2 b3).2=3∧3≤n∧b0=239∧b1=191∧b2=189):=by
 unfold Lib.decodeN at h ⊢
 repeat' split at h
 all_goals simp only [] at h
 all_goals first
  | (exfalso;omega)
  | (rw [if_neg (by omega),if_neg (by omega),if_pos (by omega),if_pos (by omega)];right;simp only [];omega)
  | skip
 all_goals
  repeat' split
  all_goals first | (exfalso;omega) | (left;refine ⟨rfl,?_⟩;omega) | (right;refine ⟨rfl,?_⟩;omega)
theorem zsK (l:List UInt8):Lib.hasPrefix l [239,191,189]=true↔3≤l.length∧(l.getD 0 0).toNat=239∧(l.getD 1 0).toNat=191∧(l.getD 2 0).toNat=189:=by
 unfold Lib.hasPrefix
 rcases l with _ | ⟨a,_ | ⟨b,_ | ⟨c,l⟩⟩⟩
 ·simp
 ·simp
 ·simp
 ·simp only [List.isPrefixOf,List.getD_cons_zero,List.getD_cons_succ,List.length_cons,Bool.and_eq_true,beq_iff_eq,and_true]
  constructor
  ·rintro ⟨rfl,rfl,rfl⟩
   exact ⟨by omega,rfl,rfl,rfl⟩
  ·rintro ⟨-,h1,h2,h3⟩
   exact ⟨UInt8.toNat_inj.1 h1.symm,UInt8.toNat_inj.1 h2.symm,UInt8.toNat_inj.1 h3.symm⟩
theorem zqh (l:List UInt8) (hne:l≠[]):Lib.validD l=if (Lib.decodeL l).1=65533∧Lib.hasPrefix l [239,191,189]=false then false else Lib.validD (l.drop (Lib.decodeL l).2):=by
 rw [Lib.validD_step l hne]
 by_cases h:(Lib.decodeL l).1=65533
 ·have hd:=Lib.decodeL_N l
  have h':=h
  rw [hd] at h'
  have key:=zlZ _ _ _ _ _ (UInt8.toNat_lt _) (UInt8.toNat_lt _) (UInt8.toNat_lt _) (UInt8.toNat_lt _) h'
  rw [←hd] at key
  rcases key with ⟨k1,k2⟩ | ⟨k1,k2⟩
  ·have:Lib.hasPrefix l [239,191,189]=false:=by
    rw [←Bool.not_eq_true,zsK]
    exact k2
   rw [if_pos ⟨h,k1⟩,if_pos ⟨h,this⟩]
  ·have:Lib.hasPrefix l [239,191,189]=true:=(zsK l).2 k2
   rw [if_neg (by rw [k1];omega),if_neg (by rw [this];simp)]
 ·rw [if_neg (fun h2=>h h2.1),if_neg (fun h2=>h h2.1)]
def zvl (s:ByteArray) (w wr:World):Prop:=∃ pos:Nat,wr.heap[w.heap.size]? = some (.stringIter s pos)∧Lib.validD (s.data.toList.drop pos)=Lib.validD s.data.toList∧Below w.heap.size w wr
theorem zqi (s:ByteArray) (w:World) (hs:s.size≤maxLen):Calls Tryz.prog 33 #[.string s] w fun e w'=>e=.returned (.bool (Lib.validD s.data.toList))∧Below w.heap.size w w':=by
 have hsi:(s.size:Int)≤9223372036854775807:=by unfold maxLen at hs;omega
 go_enter Tryz.func33,Tryz.ntmps33
 go_wp2
 go_loopw [] (zvl s w) (fun wr=>s.size - wr.iterPos w.heap.size)
 case atStart =>
  refine ⟨0,?_,rfl,(Below.refl _ w).alloc (Nat.le_refl _) _⟩
  exact World.iter_heap w s 0
 case round =>
  obtain ⟨pos,hit,hv,hbw⟩:=hrel
  by_cases hp:pos < s.size
  ·have hnx:∀ ty,(Instr.next (.pointer (some ⟨w.heap.size,0,none⟩)) true ty).run Tryz.prog wr=_:=fun ty=>Lib.run_next_any_at wr w.heap.size s pos ty hit hp
   have hit2:=Lib.iterAt_heap wr w.heap.size s pos (pos+(Utf8.decode s pos).2) hit
   have hbw2:=Lib.below_iterAt hbw (k:=w.heap.size) (Nat.le_refl _) s (pos+(Utf8.decode s pos).2)
   have hwd:=Lib.width_pos s pos
   have hne:s.data.toList.drop pos≠[]:=by
    intro h0
    have h1:=congrArg List.length h0
    rw [List.length_drop,←Lib.size_eq] at h1
    simp at h1
    omega
   have hst:=zqh _ hne
   rw [Lib.decodeL_drop,List.drop_drop] at hst
   have hpi:(pos:Int)≤(s.size:Int):=by omega
   obtain ⟨r,hr⟩:∃ r,r=(Utf8.decode s pos).1:=⟨_,rfl⟩
   obtain ⟨d,hd⟩:∃ d,d=(Utf8.decode s pos).2:=⟨_,rfl⟩
   rw [←hr,←hd] at hst
   rw [←hd] at hit2 hbw2 hwd
   simp only [←hr,←hd] at hnx
   have HIT:=Lib.hid hit
   have HIT2:=Lib.hid hit2
   have HB2:=Lib.hid hbw2
   have HV:=Lib.hid hv
   have HD:=Lib.hid hwd
   clear hr hd hne hit hit2 hbw hbw2 hv hwd
   by_cases h1:r=65533
   ·subst h1
    have HP:=Lib.hid (fun W=>zns (s.extract pos s.size) ⟨#[239,191,189]⟩ W)
    rw [show (s.extract pos s.size).data.toList=s.data.toList.drop pos by rw [Lib.extract_data,List.take_of_length_le (by rw [List.length_drop,←Lib.size_eq];exact Nat.le_refl _)]] at HP
    change Hid (∀ W,Calls Tryz.prog 54 _ W fun e w'=>e=.returned (.bool (Lib.hasPrefix (s.data.toList.drop pos) [239,191,189]))∧W=w') at HP
    cases hp2:Lib.hasPrefix (s.data.toList.drop pos) [239,191,189]
    ·rw [hp2] at HP
     rw [if_pos ⟨rfl,hp2⟩] at hst
     have HX:=Lib.hid (HV.out.symm.trans hst)
     clear hst hp2
     go_wp2_with (go_at_call 54;refine (HP.out _).mono ?_;rintro e w' ⟨rfl,rfl⟩)
     go_ret
     exact ⟨by rw [HX.out];rfl,HB2.out⟩
    ·rw [hp2] at HP
     rw [if_neg (by rw [hp2];simp)] at hst
     have HX:=Lib.hid (hst.symm.trans HV.out)
     clear hst hp2
     go_wp2_with (go_at_call 54;refine (HP.out _).mono ?_;rintro e w' ⟨rfl,rfl⟩)
     go_roundw
     case rel=>exact ⟨pos+d,HIT2.out,HX.out,HB2.out⟩
     case measure =>
      have:=HD.out
      simp only [World.iterPos,HIT.out,HIT2.out]
      omega
   ·have hrf:((r:Int) == 65533)=false:=by simp;omega
    rw [if_neg (fun h=>h1 h.1)] at hst
    have HX:=Lib.hid (hst.symm.trans HV.out)
    clear hst h1
    go_wp2
    go_roundw
    case rel=>exact ⟨pos+d,HIT2.out,HX.out,HB2.out⟩
    case measure =>
     have:=HD.out
     simp only [World.iterPos,HIT.out,HIT2.out]
     omega
  ·have hnx:∀ ty,(Instr.next (.pointer (some ⟨w.heap.size,0,none⟩)) true ty).run Tryz.prog wr=_:=fun ty=>Lib.run_next_end_at wr w.heap.size s pos ty hit hp
   have h0:s.data.toList.drop pos=[]:=List.drop_eq_nil_of_le (by rw [←Lib.size_eq];omega)
   rw [h0] at hv
   have HV:=Lib.hid hv
   have HB:=Lib.hid hbw
   clear hv hbw h0
   go_wp2
   go_ret
   exact ⟨by rw [←HV.out];rfl,HB.out⟩
def zvP (kn b e1 nu n0 s0 n1 len k7 v:Bool):Bool:=
 bif !kn then false else bif b then n0 && s0 else bif e1 then s0 && (n0 || n1) else bif nu then s0 else (n0 && len) && (k7 || v)
theorem zug (k:Int) (b:Bool) (n:Int) (s:ByteArray):kmay k ⟨b,n,s⟩=zvP (zfS k) b (k == 1) (zN k) (n == 0) (s.toList == []) (n == 1) (decide ((s.size:Int)≤300)) (k == 7) (Lib.validD s.data.toList):=by
 rw [zvk]
 unfold zvj zvP
 have h0:=zqf k
 by_cases h1:k < 1
 ·rw [decide_eq_true h1,show zfS k=false by rw [←Bool.not_eq_true,h0];omega];rfl
 ·by_cases h7:7 < k
  ·rw [decide_eq_true h7,show zfS k=false by rw [←Bool.not_eq_true,h0];omega,Bool.or_true];rfl
  ·rw [decide_eq_false h1,decide_eq_false h7,show zfS k=true from h0.2 (by omega)]
   by_cases h5:k≤5
   ·rw [decide_eq_true h5,show zN k=true by unfold zN;rw [decide_eq_true h5,decide_eq_true (by omega)];rfl]
    by_cases e:k=1
    ·subst e;cases b <;> simp
    ·rw [show (k == 1)=false by simpa using e,show (k != 1)=true by simpa using e]
     cases b <;> simp
   ·rw [decide_eq_false h5,show zN k=false by unfold zN;rw [decide_eq_false h5,Bool.and_false],show (k == 1)=false by simp;omega]
    cases b <;> simp
theorem zuh (k:Int) (v:CV) (w:World) (_hk : -9223372036854775808≤k∧k≤9223372036854775807) (_hv:v.inInt) (hs:v.s.size≤maxLen):Calls Tryz.prog 16 #[.int .i64 k,cv v] w fun e w'=>e=.returned (.bool (kmay k v))∧Below w.heap.size w w':=by
 obtain ⟨b,n,s⟩:=v
 dsimp only at hs
 have HVS:=Lib.hid (fun W=>zqi s W hs)
 have hA:Row (w.alloc (.cells #[.bool b,.int .i64 n,.string s] 36)) w.heap.size 36 [.bool b,.int .i64 n,.string s]:=heap_alloc_new w _
 have hb:Below w.heap.size w (w.alloc (.cells #[.bool b,.int .i64 n,.string s] 36)):=(Below.refl _ _).alloc (Nat.le_refl _) _
 have HBE:=Lib.hid hb
 have a0:=hA.cell 0
 have a1:=hA.cell 1
 have a2:=hA.cell 2
 have HK0:=zug k b n s
 have HN1:=Lib.hid (fun W=>zqg k W)
 have HN2:=Lib.hid (fun W=>zdc k W)
 clear hA hb hs _hk _hv
 unfold cv
 cases kn:zfS k
 ·rw [kn] at HK0
  have HK:=Lib.hid HK0
  clear HK0
  rw [kn] at HN1
  clear kn
  go_enter Tryz.func16,Tryz.ntmps16
  go_wp2_with (first | (go_at_call 32;refine (HN1.out _).mono ?_;rintro e w' ⟨rfl,rfl⟩))
  go_ret
  exact ⟨by rw [HK.out];rfl,HBE.out⟩
 ·cases b
  ·cases e1:(k == 1)
   ·cases nu:zN k
    ·cases n0:(n == 0)
     ·rw [kn,e1,nu,n0] at HK0
      have HK:=Lib.hid HK0
      clear HK0
      rw [kn] at HN1
      clear kn
      rw [nu] at HN2
      clear nu
      go_enter Tryz.func16,Tryz.ntmps16
      go_wp2_with (first | (go_at_call 32;refine (HN1.out _).mono ?_;rintro e w' ⟨rfl,rfl⟩) | (go_at_call 13;refine (HN2.out _).mono ?_;rintro e w' ⟨rfl,rfl⟩))
      go_ret
      exact ⟨by rw [HK.out];rfl,HBE.out⟩
     ·cases len:decide ((s.size:Int)≤300)
      ·rw [kn,e1,nu,n0,len] at HK0
       have HK:=Lib.hid HK0
       clear HK0
       rw [kn] at HN1
       clear kn
       rw [nu] at HN2
       clear nu
       go_enter Tryz.func16,Tryz.ntmps16
       go_wp2_with (first | (go_at_call 32;refine (HN1.out _).mono ?_;rintro e w' ⟨rfl,rfl⟩) | (go_at_call 13;refine (HN2.out _).mono ?_;rintro e w' ⟨rfl,rfl⟩))
       go_ret
       exact ⟨by rw [HK.out];rfl,HBE.out⟩
      ·cases k7:(k == 7)
       ·rw [kn,e1,nu,n0,len,k7] at HK0
        have HK:=Lib.hid HK0
        clear HK0
        rw [kn] at HN1
        clear kn
        rw [nu] at HN2
        clear nu
        go_enter Tryz.func16,Tryz.ntmps16
        go_wp2_with (first | (go_at_call 32;refine (HN1.out _).mono ?_;rintro e w' ⟨rfl,rfl⟩) | (go_at_call 13;refine (HN2.out _).mono ?_;rintro e w' ⟨rfl,rfl⟩))
        refine (HVS.out _).mono ?_
        rintro e w2 ⟨rfl,hb2⟩
        have HB2:=Lib.hid (za HBE.out hb2)
        clear hb2
        go_wp2
        go_ret
        exact ⟨by rw [HK.out];rfl,HB2.out⟩
       ·rw [kn,e1,nu,n0,len,k7] at HK0
        have HK:=Lib.hid HK0
        clear HK0
        rw [kn] at HN1
        clear kn
        rw [nu] at HN2
        clear nu
        go_enter Tryz.func16,Tryz.ntmps16
        go_wp2_with (first | (go_at_call 32;refine (HN1.out _).mono ?_;rintro e w' ⟨rfl,rfl⟩) | (go_at_call 13;refine (HN2.out _).mono ?_;rintro e w' ⟨rfl,rfl⟩))
        go_ret
        exact ⟨by rw [HK.out];rfl,HBE.out⟩
    ·cases s0:(s.toList == [])
     ·rw [kn,e1,nu,s0] at HK0
      have HK:=Lib.hid HK0
      clear HK0
      rw [kn] at HN1
      clear kn
      rw [nu] at HN2
      clear nu
      go_enter Tryz.func16,Tryz.ntmps16
      go_wp2_with (first | (go_at_call 32;refine (HN1.out _).mono ?_;rintro e w' ⟨rfl,rfl⟩) | (go_at_call 13;refine (HN2.out _).mono ?_;rintro e w' ⟨rfl,rfl⟩))
      go_ret
      exact ⟨by rw [HK.out];rfl,HBE.out⟩
     ·rw [kn,e1,nu,s0] at HK0
      have HK:=Lib.hid HK0
      clear HK0
      rw [kn] at HN1
      clear kn
      rw [nu] at HN2
      clear nu
      go_enter Tryz.func16,Tryz.ntmps16
      go_wp2_with (first | (go_at_call 32;refine (HN1.out _).mono ?_;rintro e w' ⟨rfl,rfl⟩) | (go_at_call 13;refine (HN2.out _).mono ?_;rintro e w' ⟨rfl,rfl⟩))
      go_ret
      exact ⟨by rw [HK.out];rfl,HBE.out⟩
   ·cases s0:(s.toList == [])
    ·rw [kn,e1,s0] at HK0
     have HK:=Lib.hid HK0
     clear HK0
     rw [kn] at HN1
     clear kn
     go_enter Tryz.func16,Tryz.ntmps16
     go_wp2_with (first | (go_at_call 32;refine (HN1.out _).mono ?_;rintro e w' ⟨rfl,rfl⟩))
     go_ret
     exact ⟨by rw [HK.out];rfl,HBE.out⟩
    ·cases n0:(n == 0)
     ·cases n1:(n == 1)
      ·rw [kn,e1,s0,n0,n1] at HK0
       have HK:=Lib.hid HK0
       clear HK0
       rw [kn] at HN1
       clear kn
       go_enter Tryz.func16,Tryz.ntmps16
       go_wp2_with (first | (go_at_call 32;refine (HN1.out _).mono ?_;rintro e w' ⟨rfl,rfl⟩))
       go_ret
       exact ⟨by rw [HK.out];rfl,HBE.out⟩
      ·rw [kn,e1,s0,n0,n1] at HK0
       have HK:=Lib.hid HK0
       clear HK0
       rw [kn] at HN1
       clear kn
       go_enter Tryz.func16,Tryz.ntmps16
       go_wp2_with (first | (go_at_call 32;refine (HN1.out _).mono ?_;rintro e w' ⟨rfl,rfl⟩))
       go_ret
       exact ⟨by rw [HK.out];rfl,HBE.out⟩
     ·rw [kn,e1,s0,n0] at HK0
      have HK:=Lib.hid HK0
      clear HK0
      rw [kn] at HN1
      clear kn
      go_enter Tryz.func16,Tryz.ntmps16
      go_wp2_with (first | (go_at_call 32;refine (HN1.out _).mono ?_;rintro e w' ⟨rfl,rfl⟩))
      go_ret
      exact ⟨by rw [HK.out];rfl,HBE.out⟩
  ·cases n0:(n == 0)
   ·rw [kn,n0] at HK0
    have HK:=Lib.hid HK0
    clear HK0
    rw [kn] at HN1
    clear kn
    go_enter Tryz.func16,Tryz.ntmps16
    go_wp2_with (first | (go_at_call 32;refine (HN1.out _).mono ?_;rintro e w' ⟨rfl,rfl⟩))
    go_ret
    exact ⟨by rw [HK.out];rfl,HBE.out⟩
   ·cases s0:(s.toList == [])
    ·rw [kn,n0,s0] at HK0
     have HK:=Lib.hid HK0
     clear HK0
     rw [kn] at HN1
     clear kn
     go_enter Tryz.func16,Tryz.ntmps16
     go_wp2_with (first | (go_at_call 32;refine (HN1.out _).mono ?_;rintro e w' ⟨rfl,rfl⟩))
     go_ret
     exact ⟨by rw [HK.out];rfl,HBE.out⟩
    ·rw [kn,n0,s0] at HK0
     have HK:=Lib.hid HK0
     clear HK0
     rw [kn] at HN1
     clear kn
     go_enter Tryz.func16,Tryz.ntmps16
     go_wp2_with (first | (go_at_call 32;refine (HN1.out _).mono ?_;rintro e w' ⟨rfl,rfl⟩))
     go_ret
     exact ⟨by rw [HK.out];rfl,HBE.out⟩
end Go.Proofs.YtlibofmpnlfelaaGreatDoor
namespace Go.Proofs.YtlibofmpnlfelaaGreatDoor
open Go.RowKit Go.ChangeShapes Go.WideShapes Go.Deep
instance:Inhabited CC:=⟨⟨⟨#[]⟩,0⟩⟩
instance:Inhabited CV:=⟨⟨false,0,⟨#[]⟩⟩⟩
section
variable {H:Type} {enc:TypeId × Value→H} {W:World} {v:Value} {d:DataW H} {ps:List MemPlace} {base:Nat}
end
end Go.Proofs.YtlibofmpnlfelaaGreatDoor
namespace Go.Proofs.YtlibofmpnlfelaaGreatDoor
def nv (n:Int):CV:=⟨false,n,⟨#[]⟩⟩
end Go.Proofs.YtlibofmpnlfelaaGreatDoor
namespace Go.Proofs.YtlibofmpnlfelaaGreatDoor
open Go.RowKit
theorem Tryz.infoV:(Tryz.prog.info? 36).map (fun i=>(i.zero,i.size,i.bytes))=some (some (cv ⟨false,0,⟨#[]⟩⟩),3,32):=by kernel_rfl
theorem znt:ElemW Tryz.prog 22 36 32 3 (cv ⟨false,0,⟨#[]⟩⟩):=by
 obtain ⟨i0,hi,hz0,hz1,hz2⟩:=info_parts Tryz.infoV
 exact ⟨Tryz.underlying22,rfl,by omega,i0,hi,hz0,hz1,hz2⟩
theorem zcC (x:CV):∀ u∈zZ x,u.oneCell'=true:=by
 intro u hu
 unfold zZ at hu
 simp at hu
 rcases hu with rfl | rfl | rfl <;> rfl
def RetRE (w:World) (p:List CV × Int) (e:Ending) (w':World):Prop:=∃ v,e=.returned (.tuple #[v,.int .i64 p.2])∧IsR zZ p.1 v w'∧Below w.heap.size w w'
theorem RetRE.nil {w w':World} (n:Int) (hb:Below w.heap.size w w'):RetRE w ([],n) (.returned (.tuple #[.slice none 0 0,.int .i64 n])) w':=⟨_,rfl,zmI _ _,hb⟩
theorem cells3 {w:World} {ad:Addr} {k:Nat} {x:CV} (h:∀ i,i < 3→w.cell? (ad.add (k*3+i))=(zZ x)[i]?) :
  w.cell? (ad.add (k*3))=some (.bool x.null)∧w.cell? ⟨(ad.add (k*3)).block,(ad.add (k*3)).off+1,none⟩=some (.int .i64 x.n)∧w.cell? ⟨(ad.add (k*3)).block,(ad.add (k*3)).off+2,none⟩=some (.string x.s):=by
 refine ⟨h 0 (by omega),?_,?_⟩
 ·have h1:=h 1 (by omega);rw [←add_add] at h1;exact h1
 ·have h1:=h 2 (by omega);rw [←add_add] at h1;exact h1
def zui (w:World) (i:Value) (n:Nat) (wr:World):Prop:=∃ k:Nat,k≤n∧i=.int .i64 (k:Int)∧Below w.heap.size w wr
theorem zkb (l:List CV) (u v:Value) (w:World) (hu:IsR zZ l u w) (hv:IsR zZ l v w) (hb:l.length≤1000000) :
  Calls Tryz.prog 12 #[u,v] w fun e w'=>e=.returned (.bool true)∧Below w.heap.size w w':=by
 obtain ⟨A,n,c,rfl⟩:=hu.shape
 obtain ⟨B,m,d,rfl⟩:=hv.shape
 have hnm:n=m:=by rw [←hu.parts.1,hv.parts.1]
 subst hnm
 have HN:=Lib.hid hu.parts.1
 have HU:=Lib.hid hu
 have HV:=Lib.hid hv
 have hn6:n≤1000000:=by have:=HN.out;omega
 have d0:((n:Int) != (n:Int))=false:=by simp
 clear hu hv hb
 go_enter Tryz.func12,Tryz.ntmps12
 go_wp2
 go_loopw [5] (fun i wr=>zui w i n wr) (fun i _=>n - (intOf i).toNat)
 case atStart=>exact ⟨0,Nat.zero_le _,rfl,Below.refl _ _⟩
 case round =>
  obtain ⟨k,hkn,rfl,hbw⟩:=hrel
  by_cases hlt:k < n
  ·have hkl:k < l.length:=by have:=HN.out;omega
   have hlti:(k:Int) < (n:Int):=by omega
   obtain ⟨ad,rfl,had,hcell⟩:=(HU.out.below hbw).at (m:=3) (fun _=>rfl) (by omega) hkl
   obtain ⟨bd,rfl,hbd,hcell2⟩:=(HV.out.below hbw).at (m:=3) (fun _=>rfl) (by omega) hkl
   obtain ⟨x,hx⟩:∃ x,x=l[k]:=⟨_,rfl⟩
   rw [←hx] at hcell hcell2
   obtain ⟨k0,k1,k2⟩:=cells3 hcell
   obtain ⟨j0,j1,j2⟩:=cells3 hcell2
   clear hx hcell hcell2 had hbd
   obtain ⟨xb,xn,xs⟩:=x
   dsimp only at k0 k1 k2 j0 j1 j2
   go_wp2
   go_quiet (fail)
   go_wp2
   go_roundw
   case rel=>exact ⟨k+1,by omega,by go_num,Go.below_drewN hbw _⟩
   case measure=>simp [intOf];omega
  ·obtain rfl:k=n:=by omega
   have hlti:¬(k:Int) < (k:Int):=by omega
   go_wp2
   go_ret
   exact ⟨rfl,hbw⟩
def RetBR (w:World) (p:List UInt8 × List CV × Int) (e:Ending) (w':World):Prop:=∃ u v,e=.returned (.tuple #[u,v,.int .i64 p.2.2])∧IsB p.1 u w'∧IsR zZ p.2.1 v w'∧Below w.heap.size w w'
theorem RetBR.nil {w w':World} (n:Int) (hb:Below w.heap.size w w'):RetBR w ([],[],n) (.returned (.tuple #[.slice none 0 0,.slice none 0 0,.int .i64 n])) w':=⟨_,_,rfl,zcu _,zmI _ _,hb⟩
def RetVE (w:World) (p:List Bool × Int) (e:Ending) (w':World):Prop:=∃ u,e=.returned (.tuple #[u,.int .i64 p.2])∧IsV Value.bool p.1 u w'∧Below w.heap.size w w'
theorem RetVE.nil {w w':World} (n:Int) (hb:Below w.heap.size w w'):RetVE w ([],n) (.returned (.tuple #[.slice none 0 0,.int .i64 n])) w':=⟨_,rfl,zdW _ _,hb⟩
theorem zib (b:List UInt8) (many:Int):(zct b many).1.length≤1000000:=by
 unfold zct
 split
 ·simp
 ·rename_i h
  unfold ze3
  split
  ·simp
  ·split
   ·rw [zbH];omega
   ·simp
end Go.Proofs.YtlibofmpnlfelaaGreatDoor
namespace Go.Proofs.YtlibofmpnlfelaaGreatDoor
def Alike (a b:List Int × List UInt8 × Int):Prop:=a.2.2=0→b.2.2=0→a.1.length=b.1.length∧a.2.1=b.2.1
theorem Alike.bad (b:List Int × List UInt8 × Int):Alike gbad b:=fun h=>by cases h
theorem zoA {α β:Type} (f:α→β) {l:List α} {j:Nat} (h:j < l.length):(l.take (j+1)).map f=(l.take j).map f ++ [f l[j]]:=by
 rw [List.take_succ_eq_append_getElem h,List.map_append]
 rfl
def Pos (p:List Int × List UInt8 × Int):Prop:=p.2.2=0→∀ x∈p.1,0≤x
theorem Pos.bad:Pos gbad:=fun h=>by cases h
theorem zl0 {u:Nat} {x:Int} (h:zbf u false=some x):0≤x:=by
 unfold zbf at h
 rw [if_neg (by simp)] at h
 split at h
 ·injection h with h;omega
 ·cases h
theorem zsL (b:List UInt8):Pos (zbh b false):=by
 unfold zbh
 split
 ·exact Pos.bad
 ·generalize zg (zp b).2.2.2.1 (zp b).2.2.1 (wof (zp b).2.1)=p
  obtain ⟨u,r,e⟩:=p
  dsimp only
  split
  ·exact Pos.bad
  ·cases h1:zeW u false with
   | none=>exact Pos.bad
   | some m =>
    intro _ x hx
    obtain ⟨y,_,hy⟩:=zfs h1 hx
    exact zl0 hy
theorem zl1 {f:Bool} {a:Int} {u:Nat} {y:Int} (h:zbl false f a u=some y):0≤y:=by
 unfold zbl at h
 split at h
 ·rename_i h2
  injection h with h
  rw [←h]
  exact h2.2.elim (fun h=>nomatch h) id
 ·cases h
theorem zl2 {f:Bool}:∀ {us:List Nat} {x:Int} {ys:List Int},zbp false f x us=some ys→∀ y∈ys,0≤y
 | [],_,_,h=>by
  injection h with h
  subst h
  intro y hy
  cases hy
 | u::us,x,ys,h=>by
  rw [zbp] at h
  cases hg:zbl false f x u with
  | none=>rw [hg] at h;cases h
  | some z =>
   rw [hg] at h
   obtain ⟨zs,hz,rfl⟩:=Option.map_eq_some_iff.1 h
   intro y hy
   rcases List.mem_cons.1 hy with rfl | hy
   ·exact zl1 hg
   ·exact zl2 hz y hy
theorem zoB {f:Bool} {x:Int} {us:List Nat} {q:List UInt8} (hx:0≤x):Pos (gend false f x us q):=by
 unfold gend
 cases h:zbp false f x us with
 | none=>exact Pos.bad
 | some ys =>
  intro _ y hy
  rcases List.mem_cons.1 hy with rfl | hy
  ·exact hx
  ·exact zl2 h y hy
theorem zsM {l r:List UInt8} {x:Int} (h:zbC l false=some (x,r)):0≤x:=by
 unfold zbC at h
 cases hv:zby l with
 | none=>rw [hv] at h;cases h
 | some p =>
  rw [hv] at h
  dsimp only at h
  split at h
  ·cases h
  ·injection h with h
   injection h with h _
   omega
theorem zsN (b:List UInt8):Pos (zU b false):=by
 unfold zU
 split
 ·exact Pos.bad
 ·unfold zio
  cases h1:zbC (zp b).2.2.2.1 false with
  | none=>exact Pos.bad
  | some p =>
   obtain ⟨x,r1⟩:=p
   have hx:=zsM h1
   dsimp only
   cases zbC r1 true with
   | none=>exact Pos.bad
   | some d =>
    obtain ⟨d,r2⟩:=d
    dsimp only
    split
    ·unfold zeX
     split
     ·generalize zg r2 ((zp b).2.2.1 - 2) (wof (zp b).2.1)=p
      obtain ⟨us,q,e⟩:=p
      dsimp only
      split
      ·exact Pos.bad
      ·exact zoB hx
     ·exact zoB hx
    ·exact Pos.bad
theorem zsO (b:List UInt8):Pos (zD b false):=by
 unfold zD
 split
 ·exact Pos.bad
 ·unfold ziq
  split
  ·exact Pos.bad
  ·split
   ·exact Pos.bad
   ·unfold zf9
    generalize zg _ (zp b).2.2.1 (wof (zp b).2.1)=p
    obtain ⟨low,r3,e⟩:=p
    dsimp only
    split
    ·exact Pos.bad
    ·generalize zg r3 _ _=p2
     obtain ⟨both,r4,e⟩:=p2
     dsimp only
     split
     ·exact Pos.bad
     ·unfold pend
      split
      ·exact Pos.bad
      ·cases h1:omap (zbl false false _) _ with
       | none=>exact Pos.bad
       | some xs =>
        intro _ x hx
        obtain ⟨y,_,hy⟩:=zfs h1 hx
        exact zl1 hy
theorem zsP {b:List UInt8} (h:(zG b false).2.2.2=0):0≤(zG b false).1:=by
 cases b with
 | nil=>cases h
 | cons x r =>
  unfold zG at h ⊢
  dsimp only at h ⊢
  split
  ·exact Int.le_refl _
  ·split
   ·exact Int.le_refl _
   ·split
    ·exact Int.le_refl _
    ·cases h1:zbf (bval (r.take (x.toNat / 8+1))) false with
     | none=>exact Int.le_refl _
     | some y=>exact zl0 h1
theorem zuj (b:List UInt8):Pos (uone b false):=by
 unfold uone
 cases b with
 | nil=>exact Pos.bad
 | cons x r =>
  dsimp only
  split
  ·exact zsL _
  ·split
   ·exact zsO _
   ·split
    ·exact zsN _
    ·intro h y hy
     rw [(List.mem_replicate.1 hy).2]
     exact zsP h
theorem zjo {M:Nat}:∀ (k:Nat) (out:List Int) (rest:List UInt8),(∀ x∈out,0≤x)→Pos (zbq false M k out rest)
 | 0,_,_,_=>Pos.bad
 | k+1,out,rest,h=>by
  rw [zbq]
  split
  ·split
   ·exact Pos.bad
   ·exact fun _=>h
  ·split
   ·exact Pos.bad
   ·rename_i h2
    refine zjo k _ _ fun x hx=>?_
    rcases List.mem_append.1 hx with hx | hx
    ·exact h x hx
    ·exact zuj rest (Decidable.not_not.1 h2) x hx
theorem zic {s:Bool} {M:Nat}:∀ (k:Nat) (out:List Int) (rest:List UInt8),(zbq s M k out rest).2.2=0→(zbq s M k out rest).1.length=M
 | 0,_,_,h=>by cases h
 | k+1,out,rest,h=>by
  rw [zbq] at h ⊢
  split at h
  ·rename_i h1
   rw [if_pos h1]
   split at h
   ·cases h
   ·rename_i h2
    rw [if_neg h2]
    dsimp only
    omega
  ·rename_i h1
   rw [if_neg h1]
   split at h
   ·cases h
   ·rename_i h2
    rw [if_neg h2]
    exact zic k _ _ h
theorem zdd {b r:List UInt8} {M:Nat} {s:Bool} {l:List Int} (h:zB b (M:Int) s=(l,r,0)):l.length=M∧(s=false→∀ x∈l,0≤x):=by
 unfold zB at h
 split at h
 ·cases h
 ·rw [Int.toNat_natCast] at h
  have h1:=zic (s:=s) (M:=M) (M+1) [] b (by rw [h])
  rw [h] at h1
  refine ⟨h1,fun hs=>?_⟩
  subst hs
  have h2:=zjo (M:=M) (M+1) [] b (by simp) (by rw [h])
  rw [h] at h2
  exact h2
theorem zl3 {l:List Int} {s:Bool} (h:∀ x∈l,s=true∨0≤x):zy l s≠none:=by
 induction l with
 | nil=>intro h;cases h
 | cons x l ih =>
  intro h0
  have h3:=ih fun y hy=>h y (List.mem_cons_of_mem _ hy)
  obtain ⟨u,hu⟩:∃ u,zx x s=some u:=by
   unfold zx
   rcases h x List.mem_cons_self with h1 | h1
   ·exact ⟨_,if_pos h1⟩
   ·cases s with
    | true=>exact ⟨_,if_pos rfl⟩
    | false=>exact ⟨x.toNat,by rw [if_neg (by simp),if_pos h1]⟩
  unfold zy at h0 h3
  rw [omap,hu] at h0
  cases ho:omap (zx · s) l with
  | none=>exact h3 ho
  | some us=>rw [ho] at h0;cases h0
theorem zsQ {l:List Int} {s:Bool} (h:l.length≤4096) (hl:∀ x∈l,inInt x) (hp:zy l s≠none):zcO l s=((zbZ s l.length l).1,0)∧(zbZ s l.length l).1.length≤40960:=by
 obtain ⟨h0,h1,_⟩:=zjb (s:=s) (r:=[]) l.length l [] (l.length+1) (Nat.le_refl _) (Nat.le_refl _) hl hp
 unfold zcO
 rw [if_neg (by omega)]
 exact ⟨Prod.ext rfl h0,by omega⟩
def imay (k:Int) (l:List CV):Bool:=l.all fun x=>!x.null && kmay k x
def zsR (l:List CV):List Int:=l.map fun x=>x.n / 1000
def znu (l:List CV):List Int:=l.map fun x=>x.n % 1000
def zev (k:Int) (l:List CV):List UInt8 × Int:=
 if zN k=false then ([],1) else if 4096 < l.length then ([],3) else if imay k l=false then ([],21)
 else if k=1 then zka (l.map fun x=>x.n == 1)
 else if k=5 then ((zcO (zsR l) true).1 ++ (zcO (znu l) false).1,0)
 else zcO (l.map (·.n)) true
def ibad (n s:Int):Bool:=decide (999 < s) || (decide (n < -9223372036854776) || (n == -9223372036854776 && decide (s < 192))) || (decide (9223372036854775 < n) || (n == 9223372036854775 && decide (807 < s)))
def zef:List Int→List Int→Option (List CV)
 | n::l,s::m=>if ibad n s then none else (zef l m).map (nv (1000*n+s) :: ·)
 | _,_=>some []
def zjp (p:List Bool × List UInt8 × Int):List CV × Int:=if p.2.2≠0∨0 < p.2.1.length then ([],2) else (p.1.map fun t=>nv (if t then 1 else 0),0)
def zl4 (l:List Int) (p:List Int × List UInt8 × Int):List CV × Int:=if p.2.2≠0∨0 < p.2.1.length then ([],2) else match zef l p.1 with | none=>([],2) | some o=>(o,0)
def zid (k:Int) (many:Int) (p:List Int × List UInt8 × Int):List CV × Int:=
 if p.2.2≠0 then ([],2) else if k=5 then zl4 p.1 (zB p.2.1 many false) else if 0 < p.2.1.length then ([],2) else (p.1.map nv,0)
def zbj (k:Int) (b:List UInt8) (many:Int):List CV × Int:=
 if zN k=false∨many < 0∨4096 < many then ([],1) else if k=1 then zjp (zct b many) else zid k many (zB b many true)
theorem zvm {n:Int} (h:inInt n):ibad (n / 1000) (n % 1000)=false:=by
 unfold inInt at h
 unfold ibad
 simp
 omega
theorem zuk {k n:Int} (h1:1≤k) (h5:k≤5) (hb:k=1→n=0∨n=1):kmay k (nv n)=true:=by
 unfold kmay nv
 rw [if_neg (by simp;omega),if_neg (by simp),if_pos (by simp;omega)]
 dsimp only
 have h0:((⟨#[]⟩:ByteArray).toList == [])=true:=by decide +kernel
 rw [h0]
 by_cases h:k=1
 ·rcases hb h with rfl | rfl <;> simp
 ·simp [h]
theorem zoC {k:Int} {ns:List Int} (h1:1≤k) (h5:k≤5) (hb:k=1→∀ n∈ns,n=0∨n=1):imay k (ns.map nv)=true:=by
 unfold imay
 rw [List.all_eq_true]
 intro x hx
 obtain ⟨n,hn,rfl⟩:=List.mem_map.1 hx
 show (!false && kmay k (nv n))=true
 rw [zuk h1 h5 fun h=>hb h n hn]
 rfl
end Go.Proofs.YtlibofmpnlfelaaGreatDoor
namespace Go.Proofs.YtlibofmpnlfelaaGreatDoor
open Go.RowKit
structure Three (w:World) (B:Nat) (u v x:Value) (n m q:Nat) (xs bs cs:List Value):Prop where
 h1:w.ownsRow B 3 1 u n xs
 h2:w.ownsRow B 3 1 v m bs
 h3:w.ownsRow B 3 1 x q cs
 n1:u.ownBlock≠none
 n2:v.ownBlock≠none
 n3:x.ownBlock≠none
 d12:u.ownBlock≠v.ownBlock
 d13:u.ownBlock≠x.ownBlock
 d23:v.ownBlock≠x.ownBlock
theorem Three.below {w w':World} {B n m q:Nat} {u v x:Value} {xs bs cs:List Value} (h:Three w B u v x n m q xs bs cs) (hb:Below w.heap.size w w'):Three w' B u v x n m q xs bs cs:=
 ⟨own_below h.h1 hb,own_below h.h2 hb,own_below h.h3 hb,h.n1,h.n2,h.n3,h.d12,h.d13,h.d23⟩
theorem Three.other {w w':World} {B B' n m q k s:Nat} {u v x y:Value} {e:TypeId} {xs bs cs ys:List Value} (h:Three w B u v x n m q xs bs cs) (hy:w.ownsRow B' e s y k ys) (hne:3≠e) (hg:w.grownBy w' y.ownBlock):Three w' B u v x n m q xs bs cs:=
 ⟨zeI h.h1 hy hne hg,zeI h.h2 hy hne hg,zeI h.h3 hy hne hg,h.n1,h.n2,h.n3,h.d12,h.d13,h.d23⟩
theorem zul {l:List CV} (h:∀ x∈l,x.inInt):∀ x∈l.map (·.n),inInt x:=by
 intro x hx
 obtain ⟨y,hy,rfl⟩:=List.mem_map.1 hx
 exact h y hy
theorem zl5 {k:Int} {l:List CV} (h:zN k=false):zev k l=([],1):=by unfold zev;rw [if_pos h]
theorem zsS {k:Int} {l:List CV} (h:zN k=true) (h4:4096 < l.length):zev k l=([],3):=by unfold zev;rw [if_neg (by rw [h];simp),if_pos h4]
theorem zqj {k:Int} {l:List CV} (h:zN k=true) (h4:¬4096 < l.length) (hm:imay k l=false):zev k l=([],21):=by unfold zev;rw [if_neg (by rw [h];simp),if_neg h4,if_pos hm]
theorem zkc {k:Int} {l:List CV} (h:zN k=true) (h4:¬4096 < l.length) (hm:imay k l=true):zev k l=if k=1 then zka (l.map fun x=>x.n == 1) else if k=5 then ((zcO (zsR l) true).1 ++ (zcO (znu l) false).1,0) else zcO (l.map (·.n)) true:=by
 unfold zev;rw [if_neg (by rw [h];simp),if_neg h4,if_neg (by rw [hm];simp)]
theorem zoD (n:Int):(n.tmod 1000 < 0→n.tdiv 1000 - 1=n / 1000∧n.tmod 1000+1000=n % 1000)∧(¬n.tmod 1000 < 0→n.tdiv 1000=n / 1000∧n.tmod 1000=n % 1000):=by
 have h1:=Int.mul_tdiv_add_tmod n 1000
 have h2:=Int.tmod_lt_of_pos n (show (0:Int) < 1000 by decide)
 have h3:=Int.lt_tmod_of_pos n (show (0:Int) < 1000 by decide)
 omega
theorem zjq (n:Int) (w:World) (h:inInt n):Calls Tryz.prog 22 #[.int .i64 n] w fun e w'=>e=.returned (.tuple #[.int .i64 (n / 1000),.int .i64 (n % 1000)])∧w=w':=by
 unfold inInt at h
 obtain ⟨h0,h1⟩:=h
 obtain ⟨p1,p2⟩:=zoD n
 obtain ⟨t,ht⟩:∃ t,n.tdiv 1000=t:=⟨_,rfl⟩
 obtain ⟨m,hm⟩:∃ m,n.tmod 1000=m:=⟨_,rfl⟩
 rw [ht,hm] at p1 p2
 have b1 : -9223372036854776≤t∧t≤9223372036854776:=by omega
 have b2 : -1000≤m∧m≤1000:=by omega
 by_cases hneg:m < 0
 ·have d1:decide (m < 0)=true:=decide_eq_true hneg
  obtain ⟨e1,e2⟩:=p1 hneg
  have HE1:=Lib.hid e1
  have HE2:=Lib.hid e2
  have hw1:IntKind.i64.wrap (t - 1)=t - 1:=by rw [IntKind.wrap_i64];omega
  have hw2:IntKind.i64.wrap (m+1000)=m+1000:=by rw [IntKind.wrap_i64];omega
  clear p1 p2 e1 e2 h0 h1
  go_enter Tryz.func22,Tryz.ntmps22
  go_wp2
  go_ret2
  rw [←HE1.out,←HE2.out]
  exact ⟨rfl,rfl⟩
 ·have d1:decide (m < 0)=false:=decide_eq_false hneg
  obtain ⟨e1,e2⟩:=p2 hneg
  have HE1:=Lib.hid e1
  have HE2:=Lib.hid e2
  clear p1 p2 e1 e2 h0 h1
  go_enter Tryz.func22,Tryz.ntmps22
  go_wp2
  go_ret2
  rw [←HE1.out,←HE2.out]
  exact ⟨rfl,rfl⟩
theorem zgm {n s:Int} (h:ibad n s=false) (h0:0≤s):s≤999∧-9223372036854775808≤1000*n+s∧1000*n+s≤9223372036854775807∧-9223372036854776≤n∧n≤9223372036854775:=by
 unfold ibad at h
 simp at h
 omega
theorem zqk (n s:Int) (w:World) (h:ibad n s=false) (h0:0≤s):Calls Tryz.prog 30 #[.int .i64 n,.int .i64 s] w fun e w'=>e=.returned (.int .i64 (1000*n+s))∧w=w':=by
 obtain ⟨h1,h2,h3,h4,h5⟩:=zgm h h0
 clear h
 by_cases hn:n < 0
 ·have d1:decide (n < 0)=true:=decide_eq_true hn
  obtain ⟨m,hm⟩:∃ m,m=n+1:=⟨_,rfl⟩
  obtain ⟨p,hp⟩:∃ p,p=1000*m:=⟨_,rfl⟩
  obtain ⟨q,hq⟩:∃ q,q=s - 1000:=⟨_,rfl⟩
  have HR:Hid (p+q=1000*n+s):=Lib.hid (by omega)
  have e1:IntKind.i64.wrap (n+1)=m:=by rw [IntKind.wrap_i64];omega
  have e2:IntKind.i64.wrap (1000*m)=p:=by rw [IntKind.wrap_i64];omega
  have e3:IntKind.i64.wrap (s - 1000)=q:=by rw [IntKind.wrap_i64];omega
  have e4:IntKind.i64.wrap (p+q)=p+q:=by rw [IntKind.wrap_i64];omega
  go_enter Tryz.func30,Tryz.ntmps30
  go_wp2
  go_ret
  exact ⟨zu (by omega),rfl⟩
 ·have d1:decide (n < 0)=false:=decide_eq_false hn
  obtain ⟨p,hp⟩:∃ p,p=1000*n:=⟨_,rfl⟩
  have e2:IntKind.i64.wrap (1000*n)=p:=by rw [IntKind.wrap_i64];omega
  have e4:IntKind.i64.wrap (p+s)=p+s:=by rw [IntKind.wrap_i64];omega
  go_enter Tryz.func30,Tryz.ntmps30
  go_wp2
  go_ret
  exact ⟨zu (by omega),rfl⟩
theorem zgn:∀ {l m:List Int} {j:Nat} {acc:List CV} (hl:j < l.length) (hm:j < m.length),zef (l.take j) (m.take j)=some acc →
  (ibad l[j] m[j]=true→zef l m=none)∧(ibad l[j] m[j]=false→zef (l.take (j+1)) (m.take (j+1))=some (acc ++ [nv (1000*l[j]+m[j])]))
 | n::l,s::m,0,acc,_,_,h=>by
  injection h with h
  subst h
  refine ⟨fun hb=>?_,fun hb=>?_⟩
  ·have hb:ibad n s=true:=hb
   show (if ibad n s then none else _)=none
   rw [hb,if_pos rfl]
  ·have hb:ibad n s=false:=hb
   show (if ibad n s then none else (zef [] []).map (nv (1000*n+s) :: ·))=_
   rw [hb,if_neg (by simp)]
   rfl
 | n::l,s::m,j+1,acc,hl,hm,h=>by
  have h':(if ibad n s then none else (zef (l.take j) (m.take j)).map (nv (1000*n+s) :: ·))=some acc:=h
  cases hb:ibad n s with
  | true=>rw [hb,if_pos rfl] at h';cases h'
  | false =>
   rw [hb,if_neg (by simp)] at h'
   obtain ⟨a,ha,rfl⟩:=Option.map_eq_some_iff.1 h'
   obtain ⟨i1,i2⟩:=zgn (l:=l) (m:=m) (by simpa using hl) (by simpa using hm) ha
   refine ⟨fun hb2=>?_,fun hb2=>?_⟩
   ·show (if ibad n s then none else (zef l m).map (nv (1000*n+s) :: ·))=none
    rw [hb,if_neg (by simp),i1 hb2]
    rfl
   ·show (if ibad n s then none else (zef (l.take (j+1)) (m.take (j+1))).map (nv (1000*n+s) :: ·))=_
    rw [hb,if_neg (by simp),i2 hb2]
    rfl
theorem znv {b r:List UInt8} {M:Nat} {t:List Bool} (h:zct b (M:Int)=(t,r,0)):t.length=M:=by
 unfold zct at h
 split at h
 ·cases h
 ·rw [Int.toNat_natCast] at h
  unfold ze3 at h
  split at h
  ·cases h
  ·split at h
   ·injection h with h _
    rw [←h,zbH]
   ·cases h
theorem zie {s:Bool} {M:Nat}:∀ (k:Nat) (out:List Int) (rest:List UInt8),(zbq s M k out rest).2.1.length≤rest.length
 | 0,_,_=>by simp [zbq,gbad]
 | k+1,out,rest=>by
  rw [zbq]
  split
  ·split
   ·simp [gbad]
   ·exact Nat.le_refl _
  ·split
   ·simp [gbad]
   ·rename_i h
    exact Nat.le_trans (zie k _ _) (zm4 (Decidable.not_not.1 h)).2.2
theorem zif {b r:List UInt8} {M:Int} {s:Bool} {l:List Int} {x:Int} (h:zB b M s=(l,r,x)):r.length≤b.length:=by
 have h1:r=(zB b M s).2.1:=by rw [h]
 rw [h1]
 unfold zB
 split
 ·simp
 ·exact zie _ _ _
theorem zeV {k:Int} {b:List UInt8} {many:Int} (h:zN k=false∨many < 0∨4096 < many):zbj k b many=([],1):=by unfold zbj;rw [if_pos h]
theorem zig {b:List UInt8} {M:Nat} (h:M≤4096):zbj 1 b (M:Int)=zjp (zct b M):=by
 unfold zbj
 rw [if_neg (by rw [show zN 1=true from rfl];simp;omega),if_pos rfl]
theorem zgo {k:Int} {b:List UInt8} {M:Nat} (h:M≤4096) (hk:zN k=true) (h1:k≠1):zbj k b (M:Int)=zid k M (zB b M true):=by
 unfold zbj
 rw [if_neg (by rw [hk];simp;omega),if_neg h1]
def zg4 (t:List Bool) (tv:Value) (M:Nat) (w:World) (v i:Value) (wr:World):Prop:=
 ∃ (j:Nat) (acc:List CV),j≤M∧i=.int .i64 (j:Int)∧acc=(t.take j).map (fun b=>nv (if b then 1 else 0))∧wr.ownsRow w.heap.size 36 3 v j (acc.flatMap zZ)∧OwnV Value.bool 4 w t tv wr∧Below w.heap.size w wr
def znw (l:List Int) (lv:Value) (M:Nat) (w:World) (v i:Value) (wr:World):Prop:=
 ∃ (j:Nat) (acc:List CV),j≤M∧i=.int .i64 (j:Int)∧acc=(l.take j).map nv∧wr.ownsRow w.heap.size 36 3 v j (acc.flatMap zZ)∧OwnV iv 3 w l lv wr∧Below w.heap.size w wr
def zfT (l m:List Int) (lv mv:Value) (M:Nat) (w:World) (v i:Value) (wr:World):Prop:=
 ∃ (j:Nat) (acc:List CV),j≤M∧i=.int .i64 (j:Int)∧zef (l.take j) (m.take j)=some acc∧wr.ownsRow w.heap.size 36 3 v j (acc.flatMap zZ)∧OwnV iv 3 w l lv wr∧OwnV iv 3 w m mv wr∧Below w.heap.size w wr
theorem zih:∀ {l m:List Int} {o:List CV},zef l m=some o→o.length=min l.length m.length
 | [],m,o,h=>by cases m <;> (injection h with h;subst h;simp)
 | _::_,[],o,h=>by injection h with h;subst h;simp
 | n::l,s::m,o,h=>by
  have h':(if ibad n s then none else (zef l m).map (nv (1000*n+s) :: ·))=some o:=h
  split at h'
  ·cases h'
  ·obtain ⟨a,ha,rfl⟩:=Option.map_eq_some_iff.1 h'
   have:=zih ha
   simp only [List.length_cons]
   omega
theorem znx (b:List UInt8) (v:Value) (M:Nat) (w:World) (hv:IsB b v w) (hb:b.length≤1000000) (hM:M≤4096) :
  Calls Tryz.prog 11 #[.int .i64 1,v,.int .i64 (M:Int)] w (RetRE w (zbj 1 b M)):=by
 have HNU:=Lib.hid (zcr 1 w)
 rw [show zN 1=true from rfl] at HNU
 have HQ:=Lib.hid (fun X (h:Below w.heap.size w X)=>zp8 b v (M:Int) X (hv.below h) hb)
 obtain ⟨A,n,c,rfl⟩:=IsV.shape (f:=bv) hv
 have d1:decide ((M:Int) < 0)=false:=decide_eq_false (by omega)
 have d2:decide ((4096:Int) < (M:Int))=false:=decide_eq_false (by omega)
 obtain ⟨t,r,x,hq⟩:∃ t r x,zct b (M:Int)=(t,r,x):=⟨_,_,_,rfl⟩
 have hE:=zig (b:=b) hM
 rw [hq] at HQ hE
 unfold zjp at hE
 dsimp only at hE
 have HB0:=Lib.hid (show Below w.heap.size w (w.alloc (.cells #[] 36)) from (Below.refl _ _).alloc (Nat.le_refl _) _)
 have HQ0:=Lib.hid (HQ.out _ HB0.out)
 have HO0:=Lib.hid (zfx w 36 3)
 have HQQ:=Lib.hid hq
 have HEE:=Lib.hid hE
 clear hv hq HQ hE
 go_enter Tryz.func11,Tryz.ntmps11
 go_wp2_with (first | (go_at_call 20;refine HNU.out.mono ?_;rintro e w' ⟨rfl,rfl⟩) | (go_at_call 28;refine HQ0.out.mono ?_))
 rintro e w1 ⟨tv,rv,rfl,ht,hr,hb1⟩
 obtain ⟨Br,rn,rc,rfl⟩:=IsV.shape (f:=bv) hr
 have hrn:r.length=rn:=(IsV.parts (f:=bv) (show IsV bv r _ _ from hr)).1
 have HT:=Lib.hid (OwnV.base HB0.out.size ht)
 have HB1:=Lib.hid (za HB0.out hb1)
 have HO1:=Lib.hid (own_below HO0.out hb1)
 clear ht hr hb1
 have hE:=HEE.out
 by_cases hbad:x≠0∨0 < rn
 ·rw [if_pos (by rw [hrn];exact hbad)] at hE
  have HE:=Lib.hid hE
  rcases (by by_cases h:x=0;exact .inr ⟨h,hbad.elim (absurd h) id⟩;exact .inl h:x≠0∨(x=0∧0 < rn)) with h | ⟨rfl,h⟩
  ·have d4:(x != 0)=true:=by simpa using h
   clear hE hbad hrn
   go_wp2
   go_ret2
   rw [HE.out]
   exact RetRE.nil _ HB1.out
  ·have d5:decide ((0:Int) < (rn:Int))=true:=decide_eq_true (by omega)
   clear hE hbad hrn
   go_wp2
   go_ret2
   rw [HE.out]
   exact RetRE.nil _ HB1.out
 ·obtain rfl:x=0:=Decidable.not_not.1 fun h=>hbad (.inl h)
  obtain rfl:rn=0:=by omega
  rw [if_neg (by rw [hrn];exact hbad)] at hE
  have HE:=Lib.hid hE
  have HTL:=Lib.hid (znv HQQ.out)
  obtain ⟨Bt,tn,tc,rfl⟩:=HT.out.isV.shape
  have HTN:=Lib.hid (show tn=M by rw [←HT.out.isV.parts.1];exact HTL.out)
  have HREL0:=Lib.hid (show zg4 t _ M w (.slice (some ⟨w.heap.size,0,none⟩) 0 0) (.int .i64 0) w1 from ⟨0,[],Nat.zero_le _,rfl,rfl,HO1.out,HT.out,HB1.out⟩)
  clear hE hbad hrn
  go_wp2
  go_loopw [9,13] (zg4 t (.slice Bt tn tc) M w) (fun _ i _=>M - (intOf i).toNat)
  case atStart=>exact HREL0.out
  case round =>
   obtain ⟨j,acc,hj,rfl,hacc,hown,hot,hbw⟩:=hrel
   have hz:=hbw.size
   have HACC:=Lib.hid hacc
   have HOT:=Lib.hid hot
   clear hacc hot
   by_cases hlt:j < M
   ·have hlti:(j:Int) < (M:Int):=by omega
    have hjt:j < t.length:=by rw [HTL.out];exact hlt
    have hjn:(j:Int) < (tn:Int):=by have:=HTN.out;omega
    obtain ⟨ad,hAd,_,hcell⟩:=HOT.out.isV.at hjt
    subst hAd
    obtain ⟨y,hy⟩:∃ y,y=t[j]:=⟨_,rfl⟩
    rw [←hy] at hcell
    have HACC2:=Lib.hid (show acc ++ [nv (if y then 1 else 0)]=(t.take (j+1)).map (fun b=>nv (if b then 1 else 0)) by rw [zoA _ hjt,HACC.out,←hy])
    clear hy
    cases y with
    | true =>
     go_wp2_with (at_builtin;refine zci znt rfl _ _ rfl w.heap.size _ _ _ (zZ (nv 1)) wr w rfl rfl rfl rfl (zcC _) hown hbw hz (by omega) (by omega) ?_)
     intro v7 w7 hown7 hb7 hg7 _
     have HREL:=Lib.hid (show zg4 t _ M w v7 (.int .i64 ((j+1:Nat):Int)) w7 from ⟨j+1,_,hlt,rfl,HACC2.out,by rw [zc2];exact hown7,HOT.out.other hown (by decide) hg7,hb7⟩)
     clear hown7 hb7 hg7 hown hbw
     go_wp2
     go_roundw
     case rel=>exact HREL.out
     case measure=>simp [intOf];omega
    | false =>
     go_wp2_with (at_builtin;refine zci znt rfl _ _ rfl w.heap.size _ _ _ (zZ (nv 0)) wr w rfl rfl rfl rfl (zcC _) hown hbw hz (by omega) (by omega) ?_)
     intro v7 w7 hown7 hb7 hg7 _
     have HREL:=Lib.hid (show zg4 t _ M w v7 (.int .i64 ((j+1:Nat):Int)) w7 from ⟨j+1,_,hlt,rfl,HACC2.out,by rw [zc2];exact hown7,HOT.out.other hown (by decide) hg7,hb7⟩)
     clear hown7 hb7 hg7 hown hbw
     go_wp2
     go_roundw
     case rel=>exact HREL.out
     case measure=>simp [intOf];omega
   ·obtain rfl:j=M:=by omega
    have hlti:¬(j:Int) < (j:Int):=by omega
    have HI:=Lib.hid (zmH (m:=3) (fun _=>rfl) (by omega) hown)
    have HF:=Lib.hid (show acc=t.map (fun b=>nv (if b then 1 else 0)) by rw [HACC.out,List.take_of_length_le (by rw [HTL.out];exact Nat.le_refl _)])
    clear hown
    go_wp2
    go_ret2
    rw [HE.out,←HF.out]
    exact ⟨_,rfl,HI.out,hbw⟩
theorem zql (k:Int) (b:List UInt8) (v:Value) (M:Nat) (w:World) (hkn:zN k=true) (hk1:k≠1) (hk5:k≠5) (hv:IsB b v w) (hb:b.length≤1000000) (hM:M≤4096) :
  Calls Tryz.prog 11 #[.int .i64 k,v,.int .i64 (M:Int)] w (RetRE w (zbj k b M)):=by
 have HNU:=Lib.hid (zcr k w)
 rw [hkn] at HNU
 have HQ:=Lib.hid (fun X (h:Below w.heap.size w X)=>zfh b v (M:Int) true X (hv.below h) hb)
 obtain ⟨A,n,c,rfl⟩:=IsV.shape (f:=bv) hv
 have HBL:=Lib.hid (show b.length≤1000000 from hb)
 have d1:decide ((M:Int) < 0)=false:=decide_eq_false (by omega)
 have d2:decide ((4096:Int) < (M:Int))=false:=decide_eq_false (by omega)
 have d3:(k == 1)=false:=by simpa using hk1
 have d6:(k == 5)=false:=by simpa using hk5
 obtain ⟨l,r,x,hq⟩:∃ l r x,zB b (M:Int) true=(l,r,x):=⟨_,_,_,rfl⟩
 have hE:=zgo (b:=b) hM hkn hk1
 rw [hq] at HQ hE
 unfold zid at hE
 dsimp only at hE
 have HB0:=Lib.hid (show Below w.heap.size w (w.alloc (.cells #[] 36)) from (Below.refl _ _).alloc (Nat.le_refl _) _)
 have HQ0:=Lib.hid (HQ.out _ HB0.out)
 have HO0:=Lib.hid (zfx w 36 3)
 have HQQ:=Lib.hid hq
 have HEE:=Lib.hid hE
 clear hv hq HQ hkn hk1 hb hE
 go_enter Tryz.func11,Tryz.ntmps11
 go_wp2_with (first | (go_at_call 20;refine HNU.out.mono ?_;rintro e w' ⟨rfl,rfl⟩) | (go_at_call 29;refine HQ0.out.mono ?_))
 rintro e w1 ⟨lv,rv,rfl,hlv,hrv,hb1⟩
 have HB1:=Lib.hid (za HB0.out hb1)
 have HO1:=Lib.hid (own_below HO0.out hb1)
 have HLV:=Lib.hid (OwnV.base HB0.out.size hlv)
 have HRV:=Lib.hid hrv.isB
 clear hlv hrv hb1
 have hE:=HEE.out
 clear HEE
 by_cases hx:x=0
 case neg =>
  rw [if_pos hx] at hE
  have HE:=Lib.hid hE
  have d4:(x != 0)=true:=by simpa using hx
  clear hE hx
  go_wp2
  go_ret2
  rw [HE.out]
  exact RetRE.nil _ HB1.out
 subst hx
 rw [if_neg (by simp)] at hE
 have HLL:=Lib.hid (zdd HQQ.out).1
 obtain ⟨Bl,ln,lc,rfl⟩:=HLV.out.isV.shape
 have HLN:=Lib.hid (show ln=M by rw [←HLV.out.isV.parts.1];exact HLL.out)
 rw [if_neg hk5] at hE
 obtain ⟨Br,rn,rc,rfl⟩:=IsV.shape (f:=bv) HRV.out
 have hrn:r.length=rn:=(IsV.parts (f:=bv) (show IsV bv r _ _ from HRV.out)).1
 by_cases hr0:0 < rn
 ·rw [if_pos (by rw [hrn];exact hr0)] at hE
  have HE:=Lib.hid hE
  have d5:decide ((0:Int) < (rn:Int))=true:=decide_eq_true (by omega)
  clear hE hrn
  go_wp2_with (refine zn zck rfl _ _ rfl _ _ _ _ M w1 w1.heap.size rfl rfl rfl rfl (by omega) (by omega) (Below.refl _ _) (Nat.le_refl _) ?_)
  intro w2 hr2 hb2
  have HB2:=Lib.hid (za HB1.out hb2)
  clear hr2 hb2
  go_wp2
  go_ret2
  rw [HE.out]
  exact RetRE.nil _ HB2.out
 ·obtain rfl:rn=0:=by omega
  rw [if_neg (by rw [hrn];exact hr0)] at hE
  have HE:=Lib.hid hE
  clear hE hrn hr0
  go_wp2_with (refine zn zck rfl _ _ rfl _ _ _ _ M w1 w1.heap.size rfl rfl rfl rfl (by omega) (by omega) (Below.refl _ _) (Nat.le_refl _) ?_)
  intro w2 hr2 hb2
  have HREL0:=Lib.hid (show znw l _ M w (.slice (some ⟨w.heap.size,0,none⟩) 0 0) (.int .i64 0) w2 from ⟨0,[],Nat.zero_le _,rfl,rfl,own_below HO1.out hb2,HLV.out.below hb2,za HB1.out hb2⟩)
  clear hr2 hb2
  go_wp2
  go_loopw [9,22] (znw l (.slice Bl ln lc) M w) (fun _ i _=>M - (intOf i).toNat)
  case atStart=>exact HREL0.out
  case round =>
   obtain ⟨j,acc,hj,rfl,hacc,hown,hol,hbw⟩:=hrel
   have hz:=hbw.size
   have HACC:=Lib.hid hacc
   have HOL:=Lib.hid hol
   clear hacc hol
   by_cases hlt:j < M
   ·have hlti:(j:Int) < (M:Int):=by omega
    have hjl:j < l.length:=by rw [HLL.out];exact hlt
    have hjn:(j:Int) < (ln:Int):=by have:=HLN.out;omega
    obtain ⟨ad,hAd,_,hcell⟩:=HOL.out.isV.at hjl
    subst hAd
    obtain ⟨y,hy⟩:∃ y,y=l[j]:=⟨_,rfl⟩
    have hcy:wr.cell? (ad.add j)=some (.int .i64 y):=by rw [hcell,←hy];rfl
    have HACC2:=Lib.hid (show acc ++ [nv y]=(l.take (j+1)).map nv by rw [zoA _ hjl,HACC.out,←hy])
    clear hy hcell
    go_wp2_with (at_builtin;refine zci znt rfl _ _ rfl w.heap.size _ _ _ (zZ (nv y)) wr w rfl rfl rfl rfl (zcC _) hown hbw hz (by omega) (by omega) ?_)
    intro v7 w7 hown7 hb7 hg7 _
    have HREL:=Lib.hid (show znw l _ M w v7 (.int .i64 ((j+1:Nat):Int)) w7 from ⟨j+1,_,hlt,rfl,HACC2.out,by rw [zc2];exact hown7,HOL.out.other hown (by decide) hg7,hb7⟩)
    clear hown7 hb7 hg7 hown hbw
    go_wp2
    go_roundw
    case rel=>exact HREL.out
    case measure=>simp [intOf];omega
   ·obtain rfl:j=M:=by omega
    have hlti:¬(j:Int) < (j:Int):=by omega
    have HI:=Lib.hid (zmH (m:=3) (fun _=>rfl) (by omega) hown)
    have HF:=Lib.hid (show acc=l.map nv by rw [HACC.out,List.take_of_length_le (by rw [HLL.out];exact Nat.le_refl _)])
    clear hown
    go_wp2
    go_ret2
    rw [HE.out,←HF.out]
    exact ⟨_,rfl,HI.out,hbw⟩
theorem zny (k:Int) (b:List UInt8) (v:Value) (M:Nat) (w:World) (hkn:zN k=true) (hk1:k≠1) (hk5:k=5) (hv:IsB b v w) (hb:b.length≤1000000) (hM:M≤4096) :
  Calls Tryz.prog 11 #[.int .i64 k,v,.int .i64 (M:Int)] w (RetRE w (zbj k b M)):=by
 have HNU:=Lib.hid (zcr k w)
 rw [hkn] at HNU
 have HQ:=Lib.hid (fun X (h:Below w.heap.size w X)=>zfh b v (M:Int) true X (hv.below h) hb)
 obtain ⟨A,n,c,rfl⟩:=IsV.shape (f:=bv) hv
 have HBL:=Lib.hid (show b.length≤1000000 from hb)
 have d1:decide ((M:Int) < 0)=false:=decide_eq_false (by omega)
 have d2:decide ((4096:Int) < (M:Int))=false:=decide_eq_false (by omega)
 have d3:(k == 1)=false:=by simpa using hk1
 subst hk5
 obtain ⟨l,r,x,hq⟩:∃ l r x,zB b (M:Int) true=(l,r,x):=⟨_,_,_,rfl⟩
 have hE:=zgo (b:=b) hM hkn hk1
 rw [hq] at HQ hE
 unfold zid at hE
 dsimp only at hE
 have HB0:=Lib.hid (show Below w.heap.size w (w.alloc (.cells #[] 36)) from (Below.refl _ _).alloc (Nat.le_refl _) _)
 have HQ0:=Lib.hid (HQ.out _ HB0.out)
 have HO0:=Lib.hid (zfx w 36 3)
 have HQQ:=Lib.hid hq
 have HEE:=Lib.hid hE
 clear hv hq HQ hkn hk1 hb hE
 go_enter Tryz.func11,Tryz.ntmps11
 go_wp2_with (first | (go_at_call 20;refine HNU.out.mono ?_;rintro e w' ⟨rfl,rfl⟩) | (go_at_call 29;refine HQ0.out.mono ?_))
 rintro e w1 ⟨lv,rv,rfl,hlv,hrv,hb1⟩
 have HB1:=Lib.hid (za HB0.out hb1)
 have HO1:=Lib.hid (own_below HO0.out hb1)
 have HLV:=Lib.hid (OwnV.base HB0.out.size hlv)
 have HRV:=Lib.hid hrv.isB
 clear hlv hrv hb1
 have hE:=HEE.out
 clear HEE
 by_cases hx:x=0
 case neg =>
  rw [if_pos hx] at hE
  have HE:=Lib.hid hE
  have d4:(x != 0)=true:=by simpa using hx
  clear hE hx
  go_wp2
  go_ret2
  rw [HE.out]
  exact RetRE.nil _ HB1.out
 subst hx
 rw [if_neg (by simp)] at hE
 have HLL:=Lib.hid (zdd HQQ.out).1
 obtain ⟨Bl,ln,lc,rfl⟩:=HLV.out.isV.shape
 have HLN:=Lib.hid (show ln=M by rw [←HLV.out.isV.parts.1];exact HLL.out)
 simp only [if_true] at hE
 have HQ2:=Lib.hid (fun X (h:Below w1.heap.size w1 X)=>zfh r rv (M:Int) false X (HRV.out.below h) (by have:=zif HQQ.out;have:=HBL.out;omega))
 obtain ⟨m,q,y,hq2⟩:∃ m q y,zB r (M:Int) false=(m,q,y):=⟨_,_,_,rfl⟩
 rw [hq2] at HQ2 hE
 unfold zl4 at hE
 dsimp only at hE
 have HQQ2:=Lib.hid hq2
 have HEE:=Lib.hid hE
 clear hq2 hE
 go_wp2_with (refine zn zck rfl _ _ rfl _ _ _ _ M w1 w1.heap.size rfl rfl rfl rfl (by omega) (by omega) (Below.refl _ _) (Nat.le_refl _) ?_)
 intro w2 hr2 hb2
 have HO2:=Lib.hid (own_below HO1.out hb2)
 have HL2:=Lib.hid (HLV.out.below hb2)
 have HB2:=Lib.hid (za HB1.out hb2)
 have HQ3:=Lib.hid (HQ2.out w2 hb2)
 clear hr2 hb2
 go_wp2_with (go_at_call 29;refine HQ3.out.mono ?_)
 rintro e w3 ⟨mv,qv,rfl,hmv,hqv,hb3⟩
 have HO3:=Lib.hid (own_below HO2.out hb3)
 have HL3:=Lib.hid (HL2.out.below hb3)
 have HM3:=Lib.hid (OwnV.base HB2.out.size hmv)
 have HB3:=Lib.hid (za HB2.out hb3)
 obtain ⟨Bq,qn,qc,rfl⟩:=IsV.shape (f:=bv) hqv.isB
 have hqn:q.length=qn:=(IsV.parts (f:=bv) (show IsV bv q _ _ from hqv.isB)).1
 have hE:=HEE.out
 clear hmv hqv hb3
 by_cases hy:y=0
 case neg =>
  rw [if_pos (.inl hy)] at hE
  have HE:=Lib.hid hE
  have d4:(y != 0)=true:=by simpa using hy
  clear hE hy hqn
  go_wp2
  go_ret2
  rw [HE.out]
  exact RetRE.nil _ HB3.out
 subst hy
 by_cases hq0:0 < qn
 case pos =>
  rw [if_pos (.inr (by rw [hqn];exact hq0))] at hE
  have HE:=Lib.hid hE
  have d5:decide ((0:Int) < (qn:Int))=true:=decide_eq_true (by omega)
  clear hE hqn
  go_wp2
  go_ret2
  rw [HE.out]
  exact RetRE.nil _ HB3.out
 obtain rfl:qn=0:=by omega
 rw [if_neg (by rw [hqn];simp)] at hE
 have HE:=Lib.hid hE
 have HML:=Lib.hid (zdd HQQ2.out).1
 have HMP:=Lib.hid ((zdd HQQ2.out).2 rfl)
 obtain ⟨Bm,mn,mc,rfl⟩:=HM3.out.isV.shape
 have HMN:=Lib.hid (show mn=M by rw [←HM3.out.isV.parts.1];exact HML.out)
 have HREL0:=Lib.hid (show zfT l m _ _ M w (.slice (some ⟨w.heap.size,0,none⟩) 0 0) (.int .i64 0) w3 from ⟨0,[],Nat.zero_le _,rfl,rfl,HO3.out,HL3.out,HM3.out,HB3.out⟩)
 have HP1:=Lib.hid (fun X=>zjq (-9223372036854775808) X (by unfold inInt;omega))
 have HP2:=Lib.hid (fun X=>zjq 9223372036854775807 X (by unfold inInt;omega))
 rw [show (-9223372036854775808:Int) / 1000 = -9223372036854776 by decide,show (-9223372036854775808:Int) % 1000=192 by decide] at HP1
 rw [show (9223372036854775807:Int) / 1000=9223372036854775 by decide,show (9223372036854775807:Int) % 1000=807 by decide] at HP2
 clear hE hqn hq0
 go_wp2
 go_loopw [9,22] (zfT l m (.slice Bl ln lc) (.slice Bm mn mc) M w) (fun _ i _=>M - (intOf i).toNat)
 case atStart=>exact HREL0.out
 case round =>
  obtain ⟨j,acc,hj,rfl,hacc,hown,hol,hom,hbw⟩:=hrel
  have hz:=hbw.size
  have HACC:=Lib.hid hacc
  have HOL:=Lib.hid hol
  have HOM:=Lib.hid hom
  clear hacc hol hom
  by_cases hlt:j < M
  ·have hlti:(j:Int) < (M:Int):=by omega
   have hjl:j < l.length:=by rw [HLL.out];exact hlt
   have hjm:j < m.length:=by rw [HML.out];exact hlt
   have hjn:(j:Int) < (ln:Int):=by have:=HLN.out;omega
   have hjn2:(j:Int) < (mn:Int):=by have:=HMN.out;omega
   obtain ⟨ad,hAd,_,hcell⟩:=HOL.out.isV.at hjl
   obtain ⟨bd,hBd,_,hcell2⟩:=HOM.out.isV.at hjm
   subst hAd hBd
   obtain ⟨y,hy⟩:∃ y,y=l[j]:=⟨_,rfl⟩
   obtain ⟨z,hzz⟩:∃ z,z=m[j]:=⟨_,rfl⟩
   have hcy:wr.cell? (ad.add j)=some (.int .i64 y):=by rw [hcell,←hy];rfl
   have hcz:wr.cell? (bd.add j)=some (.int .i64 z):=by rw [hcell2,←hzz];rfl
   have hzp:0≤z:=by rw [hzz];exact HMP.out _ (List.getElem_mem hjm)
   obtain ⟨i1,i2⟩:=zgn hjl hjm HACC.out
   rw [←hy,←hzz] at i1 i2
   clear hy hzz hcell hcell2
   have HW:=Lib.hid (fun X (h:ibad y z=false)=>zqk y z X h hzp)
   have HI1:=Lib.hid i1
   have HI2:=Lib.hid i2
   clear i1 i2
   go_wp2_with fail
   refine (HP1.out _).mono ?_
   rintro e w' ⟨rfl,rfl⟩
   go_wp2_with fail
   refine (HP2.out _).mono ?_
   rintro e w' ⟨rfl,rfl⟩
   rcases (by omega:(y < -9223372036854776)∨(y = -9223372036854776∧z < 192)∨(y = -9223372036854776∧192≤z)∨(9223372036854775 < y)∨(y=9223372036854775∧807 < z)∨(y=9223372036854775∧z≤807)∨(-9223372036854776 < y∧y < 9223372036854775)) with h | h | h | h | h | h | h
   ·by_cases h0:999 < z
    ·have c1:decide (y < -9223372036854776)=true:=decide_eq_true (by omega)
     have c4:decide (9223372036854775 < y)=false:=decide_eq_false (by omega)
     have c5:(y == 9223372036854775)=false:=by rw [beq_eq_false_iff_ne];omega
     have c0:decide (999 < z)=true:=decide_eq_true (by omega)
     have HBT:=Lib.hid (show zbj 5 b (M:Int)=([],2) by
      rw [HE.out,HI1.out (by unfold ibad;simp;omega)])
     clear h HI1 HI2 HW
     go_wp2
     go_ret2
     rw [HBT.out]
     exact RetRE.nil _ hbw
    ·have c1:decide (y < -9223372036854776)=true:=decide_eq_true (by omega)
     have c4:decide (9223372036854775 < y)=false:=decide_eq_false (by omega)
     have c5:(y == 9223372036854775)=false:=by rw [beq_eq_false_iff_ne];omega
     have c0:decide (999 < z)=false:=decide_eq_false (by omega)
     have HBT:=Lib.hid (show zbj 5 b (M:Int)=([],2) by
      rw [HE.out,HI1.out (by unfold ibad;simp;omega)])
     clear h HI1 HI2 HW
     go_wp2
     go_ret2
     rw [HBT.out]
     exact RetRE.nil _ hbw
   ·by_cases h0:999 < z
    ·exact absurd h0 (by omega)
    ·have c1:decide (y < -9223372036854776)=false:=decide_eq_false (by omega)
     have c2:(y == -9223372036854776)=true:=by rw [beq_iff_eq];omega
     have c3:decide (z < 192)=true:=decide_eq_true (by omega)
     have c4:decide (9223372036854775 < y)=false:=decide_eq_false (by omega)
     have c5:(y == 9223372036854775)=false:=by rw [beq_eq_false_iff_ne];omega
     have c0:decide (999 < z)=false:=decide_eq_false (by omega)
     have HBT:=Lib.hid (show zbj 5 b (M:Int)=([],2) by
      rw [HE.out,HI1.out (by unfold ibad;simp;omega)])
     clear h HI1 HI2 HW
     go_wp2
     go_ret2
     rw [HBT.out]
     exact RetRE.nil _ hbw
   ·by_cases h0:999 < z
    ·have c1:decide (y < -9223372036854776)=false:=decide_eq_false (by omega)
     have c2:(y == -9223372036854776)=true:=by rw [beq_iff_eq];omega
     have c3:decide (z < 192)=false:=decide_eq_false (by omega)
     have c4:decide (9223372036854775 < y)=false:=decide_eq_false (by omega)
     have c5:(y == 9223372036854775)=false:=by rw [beq_eq_false_iff_ne];omega
     have c0:decide (999 < z)=true:=decide_eq_true (by omega)
     have HBT:=Lib.hid (show zbj 5 b (M:Int)=([],2) by
      rw [HE.out,HI1.out (by unfold ibad;simp;omega)])
     clear h HI1 HI2 HW
     go_wp2
     go_ret2
     rw [HBT.out]
     exact RetRE.nil _ hbw
    ·have c1:decide (y < -9223372036854776)=false:=decide_eq_false (by omega)
     have c2:(y == -9223372036854776)=true:=by rw [beq_iff_eq];omega
     have c3:decide (z < 192)=false:=decide_eq_false (by omega)
     have c4:decide (9223372036854775 < y)=false:=decide_eq_false (by omega)
     have c5:(y == 9223372036854775)=false:=by rw [beq_eq_false_iff_ne];omega
     have c0:decide (999 < z)=false:=decide_eq_false (by omega)
     have HGO:=Lib.hid (show ibad y z=false by unfold ibad;simp;omega)
     have HACC2:=Lib.hid (HI2.out HGO.out)
     clear h HI1 HI2
     go_wp2_with (first | (go_at_call 30;refine (HW.out _ HGO.out).mono ?_;rintro e w' ⟨rfl,rfl⟩) | (at_builtin;refine zci znt rfl _ _ rfl w.heap.size _ _ _ (zZ (nv (1000*y+z))) wr w rfl rfl rfl rfl (zcC _) hown hbw hz (by omega) (by omega) ?_))
     intro v7 w7 hown7 hb7 hg7 _
     have HREL:=Lib.hid (show zfT l m _ _ M w v7 (.int .i64 ((j+1:Nat):Int)) w7 from ⟨j+1,_,hlt,rfl,HACC2.out,by rw [zc2];exact hown7,HOL.out.other hown (by decide) hg7,HOM.out.other hown (by decide) hg7,hb7⟩)
     clear hown7 hb7 hg7 hown hbw
     go_wp2
     go_roundw
     case rel=>exact HREL.out
     case measure=>simp [intOf];omega
   ·by_cases h0:999 < z
    ·have c1:decide (y < -9223372036854776)=false:=decide_eq_false (by omega)
     have c2:(y == -9223372036854776)=false:=by rw [beq_eq_false_iff_ne];omega
     have c4:decide (9223372036854775 < y)=true:=decide_eq_true (by omega)
     have c0:decide (999 < z)=true:=decide_eq_true (by omega)
     have HBT:=Lib.hid (show zbj 5 b (M:Int)=([],2) by
      rw [HE.out,HI1.out (by unfold ibad;simp;omega)])
     clear h HI1 HI2 HW
     go_wp2
     go_ret2
     rw [HBT.out]
     exact RetRE.nil _ hbw
    ·have c1:decide (y < -9223372036854776)=false:=decide_eq_false (by omega)
     have c2:(y == -9223372036854776)=false:=by rw [beq_eq_false_iff_ne];omega
     have c4:decide (9223372036854775 < y)=true:=decide_eq_true (by omega)
     have c0:decide (999 < z)=false:=decide_eq_false (by omega)
     have HBT:=Lib.hid (show zbj 5 b (M:Int)=([],2) by
      rw [HE.out,HI1.out (by unfold ibad;simp;omega)])
     clear h HI1 HI2 HW
     go_wp2
     go_ret2
     rw [HBT.out]
     exact RetRE.nil _ hbw
   ·by_cases h0:999 < z
    ·have c1:decide (y < -9223372036854776)=false:=decide_eq_false (by omega)
     have c2:(y == -9223372036854776)=false:=by rw [beq_eq_false_iff_ne];omega
     have c4:decide (9223372036854775 < y)=false:=decide_eq_false (by omega)
     have c5:(y == 9223372036854775)=true:=by rw [beq_iff_eq];omega
     have c6:decide (807 < z)=true:=decide_eq_true (by omega)
     have c0:decide (999 < z)=true:=decide_eq_true (by omega)
     have HBT:=Lib.hid (show zbj 5 b (M:Int)=([],2) by
      rw [HE.out,HI1.out (by unfold ibad;simp;omega)])
     clear h HI1 HI2 HW
     go_wp2
     go_ret2
     rw [HBT.out]
     exact RetRE.nil _ hbw
    ·have c1:decide (y < -9223372036854776)=false:=decide_eq_false (by omega)
     have c2:(y == -9223372036854776)=false:=by rw [beq_eq_false_iff_ne];omega
     have c4:decide (9223372036854775 < y)=false:=decide_eq_false (by omega)
     have c5:(y == 9223372036854775)=true:=by rw [beq_iff_eq];omega
     have c6:decide (807 < z)=true:=decide_eq_true (by omega)
     have c0:decide (999 < z)=false:=decide_eq_false (by omega)
     have HBT:=Lib.hid (show zbj 5 b (M:Int)=([],2) by
      rw [HE.out,HI1.out (by unfold ibad;simp;omega)])
     clear h HI1 HI2 HW
     go_wp2
     go_ret2
     rw [HBT.out]
     exact RetRE.nil _ hbw
   ·by_cases h0:999 < z
    ·exact absurd h0 (by omega)
    ·have c1:decide (y < -9223372036854776)=false:=decide_eq_false (by omega)
     have c2:(y == -9223372036854776)=false:=by rw [beq_eq_false_iff_ne];omega
     have c4:decide (9223372036854775 < y)=false:=decide_eq_false (by omega)
     have c5:(y == 9223372036854775)=true:=by rw [beq_iff_eq];omega
     have c6:decide (807 < z)=false:=decide_eq_false (by omega)
     have c0:decide (999 < z)=false:=decide_eq_false (by omega)
     have HGO:=Lib.hid (show ibad y z=false by unfold ibad;simp;omega)
     have HACC2:=Lib.hid (HI2.out HGO.out)
     clear h HI1 HI2
     go_wp2_with (first | (go_at_call 30;refine (HW.out _ HGO.out).mono ?_;rintro e w' ⟨rfl,rfl⟩) | (at_builtin;refine zci znt rfl _ _ rfl w.heap.size _ _ _ (zZ (nv (1000*y+z))) wr w rfl rfl rfl rfl (zcC _) hown hbw hz (by omega) (by omega) ?_))
     intro v7 w7 hown7 hb7 hg7 _
     have HREL:=Lib.hid (show zfT l m _ _ M w v7 (.int .i64 ((j+1:Nat):Int)) w7 from ⟨j+1,_,hlt,rfl,HACC2.out,by rw [zc2];exact hown7,HOL.out.other hown (by decide) hg7,HOM.out.other hown (by decide) hg7,hb7⟩)
     clear hown7 hb7 hg7 hown hbw
     go_wp2
     go_roundw
     case rel=>exact HREL.out
     case measure=>simp [intOf];omega
   ·by_cases h0:999 < z
    ·have c1:decide (y < -9223372036854776)=false:=decide_eq_false (by omega)
     have c2:(y == -9223372036854776)=false:=by rw [beq_eq_false_iff_ne];omega
     have c4:decide (9223372036854775 < y)=false:=decide_eq_false (by omega)
     have c5:(y == 9223372036854775)=false:=by rw [beq_eq_false_iff_ne];omega
     have c0:decide (999 < z)=true:=decide_eq_true (by omega)
     have HBT:=Lib.hid (show zbj 5 b (M:Int)=([],2) by
      rw [HE.out,HI1.out (by unfold ibad;simp;omega)])
     clear h HI1 HI2 HW
     go_wp2
     go_ret2
     rw [HBT.out]
     exact RetRE.nil _ hbw
    ·have c1:decide (y < -9223372036854776)=false:=decide_eq_false (by omega)
     have c2:(y == -9223372036854776)=false:=by rw [beq_eq_false_iff_ne];omega
     have c4:decide (9223372036854775 < y)=false:=decide_eq_false (by omega)
     have c5:(y == 9223372036854775)=false:=by rw [beq_eq_false_iff_ne];omega
     have c0:decide (999 < z)=false:=decide_eq_false (by omega)
     have HGO:=Lib.hid (show ibad y z=false by unfold ibad;simp;omega)
     have HACC2:=Lib.hid (HI2.out HGO.out)
     clear h HI1 HI2
     go_wp2_with (first | (go_at_call 30;refine (HW.out _ HGO.out).mono ?_;rintro e w' ⟨rfl,rfl⟩) | (at_builtin;refine zci znt rfl _ _ rfl w.heap.size _ _ _ (zZ (nv (1000*y+z))) wr w rfl rfl rfl rfl (zcC _) hown hbw hz (by omega) (by omega) ?_))
     intro v7 w7 hown7 hb7 hg7 _
     have HREL:=Lib.hid (show zfT l m _ _ M w v7 (.int .i64 ((j+1:Nat):Int)) w7 from ⟨j+1,_,hlt,rfl,HACC2.out,by rw [zc2];exact hown7,HOL.out.other hown (by decide) hg7,HOM.out.other hown (by decide) hg7,hb7⟩)
     clear hown7 hb7 hg7 hown hbw
     go_wp2
     go_roundw
     case rel=>exact HREL.out
     case measure=>simp [intOf];omega
  ·obtain rfl:j=M:=by omega
   have hlti:¬(j:Int) < (j:Int):=by omega
   have HI:=Lib.hid (zmH (m:=3) (fun _=>rfl) (by omega) hown)
   have HF:=Lib.hid (show zbj 5 b (j:Int)=(acc,0) by
    have h:=HACC.out
    rw [List.take_of_length_le (by rw [HLL.out];exact Nat.le_refl _),List.take_of_length_le (by rw [HML.out];exact Nat.le_refl _)] at h
    rw [HE.out,h])
   clear hown
   go_wp2
   go_ret2
   rw [HF.out]
   exact ⟨_,rfl,HI.out,hbw⟩
theorem zqm (k:Int) (b:List UInt8) (v:Value) (many:Int) (w:World) (hv:IsB b v w) (hb:b.length≤1000000) :
  Calls Tryz.prog 11 #[.int .i64 k,v,.int .i64 many] w (RetRE w (zbj k b many)):=by
 cases hkn:zN k with
 | false =>
  have HNU:=Lib.hid (zcr k w)
  rw [hkn] at HNU
  have hE:=Lib.hid (zeV (b:=b) (many:=many) (.inl hkn))
  go_enter Tryz.func11,Tryz.ntmps11
  go_wp2_with (go_at_call 20;refine HNU.out.mono ?_;rintro e w' ⟨rfl,rfl⟩)
  go_ret2
  rw [hE.out]
  exact RetRE.nil _ (Below.refl _ _)
 | true =>
  by_cases hm:many < 0∨4096 < many
  ·have HNU:=Lib.hid (zcr k w)
   rw [hkn] at HNU
   have hE:=Lib.hid (zeV (k:=k) (b:=b) (many:=many) (.inr hm))
   have hd:decide (many < 0)=true∨(decide (many < 0)=false∧decide (4096 < many)=true):=by
    by_cases h:many < 0
    ·exact .inl (decide_eq_true h)
    ·exact .inr ⟨decide_eq_false h,decide_eq_true (by omega)⟩
   clear hm hkn
   rcases hd with d1 | ⟨d1,d2⟩
   all_goals
    go_enter Tryz.func11,Tryz.ntmps11
    go_wp2_with (go_at_call 20;refine HNU.out.mono ?_;rintro e w' ⟨rfl,rfl⟩)
    go_ret2
    rw [hE.out]
    exact RetRE.nil _ (Below.refl _ _)
  ·obtain ⟨M,rfl⟩:=Int.eq_ofNat_of_zero_le (show 0≤many by omega)
   by_cases hk1:k=1
   ·subst hk1
    exact znx b v M w hv hb (by omega)
   ·by_cases hk5:k=5
    ·exact zny k b v M w hkn hk1 hk5 hv hb (by omega)
    ·exact zql k b v M w hkn hk1 hk5 hv hb (by omega)
end Go.Proofs.YtlibofmpnlfelaaGreatDoor
namespace Go.Proofs.YtlibofmpnlfelaaGreatDoor
open Go.Lib Go.RowKit Go.ChangeShapes Go.WideShapes Go.ChangeAt
end Go.Proofs.YtlibofmpnlfelaaGreatDoor
namespace Go.Proofs.YtlibofmpnlfelaaGreatDoor
open Go.RowKit
def ipc (p:Int × Int):List Value:=[.int .i64 p.1,.int .i64 p.2]
def ipv (p:Int × Int):Value:=.agg (ipc p).toArray
def zbr (n:Int):Int × Int:=(n / 1000,n % 1000)
theorem znz (p:Int × Int):∀ u∈ipc p,u.oneCell'=true:=by unfold ipc;simp [Value.oneCell']
theorem zdN:(Tryz.prog.info? 66).map (·.size)=some 2:=by kernel_rfl
theorem znA:(Tryz.prog.info? 36).map (·.size)=some 3:=by kernel_rfl
theorem zg5 (x:CV) (w:World):Row (w.alloc (.cells #[.bool x.null,.int .i64 x.n,.string x.s] 36)) w.heap.size 36 [.bool x.null,.int .i64 x.n,.string x.s]:=heap_alloc_new w _
theorem zuz {w:World} {ad:Addr} {k:Nat} {p:Int × Int} (h:∀ i,i < 2→w.cell? (ad.add (k*2+i))=(ipc p)[i]?) :
  w.cell? (ad.add (k*2))=some (.int .i64 p.1)∧w.cell? ⟨(ad.add (k*2)).block,(ad.add (k*2)).off+1,none⟩=some (.int .i64 p.2):=by
 refine ⟨h 0 (by omega),?_⟩
 have h1:=h 1 (by omega);rw [←add_add] at h1;exact h1
theorem zgp (n:Int) (w:World) (h:inInt n):Calls Tryz.prog 39 #[.int .i64 n] w fun e w'=>e=.returned (ipv (zbr n))∧Below w.heap.size w w':=by
 unfold inInt at h
 obtain ⟨h0,h1⟩:=h
 obtain ⟨p1,p2⟩:=zoD n
 obtain ⟨t,ht⟩:∃ t,n.tdiv 1000=t:=⟨_,rfl⟩
 obtain ⟨m,hm⟩:∃ m,n.tmod 1000=m:=⟨_,rfl⟩
 rw [ht,hm] at p1 p2
 have b1 : -9223372036854776≤t∧t≤9223372036854776:=by omega
 have b2 : -1000≤m∧m≤1000:=by omega
 obtain ⟨w1,hw1⟩:∃ w1,w1=w.alloc (.cells #[.int .i64 0,.int .i64 0] 66):=⟨_,rfl⟩
 have z1:w1.heap.size=w.heap.size+1:=by rw [hw1];simp
 have hz1:Row w1 w.heap.size 66 [.int .i64 0,.int .i64 0]:=by rw [hw1];exact heap_alloc_new w _
 have hb1:Below w.heap.size w w1:=by rw [hw1];exact (Below.refl _ _).alloc (Nat.le_refl _) _
 obtain ⟨w2,hw2⟩:∃ w2,w2=w1.alloc (.cells #[.int .i64 t,.int .i64 m] 66):=⟨_,rfl⟩
 have hr2:Row w2 (w.heap.size+1) 66 [.int .i64 t,.int .i64 m]:=by rw [hw2,←z1];exact heap_alloc_new w1 _
 have hz2:Row w2 w.heap.size 66 [.int .i64 0,.int .i64 0]:=by rw [hw2];exact hz1.alloc _
 have hb2:Below w.heap.size w w2:=by rw [hw2];exact hb1.alloc (by omega) _
 by_cases hneg:m < 0
 ·have d1:decide (m < 0)=true:=decide_eq_true hneg
  obtain ⟨e1,e2⟩:=p1 hneg
  obtain ⟨w3,hw3⟩:∃ w3,w3=w2.setCell ⟨w.heap.size+1,0,none⟩ (.int .i64 (t - 1)):=⟨_,rfl⟩
  have hr3:Row w3 (w.heap.size+1) 66 [.int .i64 (t - 1),.int .i64 m]:=by rw [hw3];exact hr2.set_ 0 _
  have hz3:Row w3 w.heap.size 66 [.int .i64 0,.int .i64 0]:=by rw [hw3];exact hz2.far (p:=⟨w.heap.size+1,0,none⟩) (by simp) _
  have hb3:Below w.heap.size w w3:=by rw [hw3];exact hb2.setCell (p:=⟨w.heap.size+1,0,none⟩) (by simp) _
  obtain ⟨w4,hw4⟩:∃ w4,w4=w3.setCell ⟨w.heap.size+1,1,none⟩ (.int .i64 (m+1000)):=⟨_,rfl⟩
  have hr4:Row w4 (w.heap.size+1) 66 [.int .i64 (t - 1),.int .i64 (m+1000)]:=by rw [hw4];exact hr3.set_ 1 _
  have HZ4:Hid (Row w4 w.heap.size 66 [.int .i64 0,.int .i64 0]):=Lib.hid (by rw [hw4];exact hz3.far (p:=⟨w.heap.size+1,1,none⟩) (by simp) _)
  have HB4:Hid (Below w.heap.size w w4):=Lib.hid (by rw [hw4];exact hb3.setCell (p:=⟨w.heap.size+1,1,none⟩) (by simp) _)
  have a20:=hr2.cell 0
  have a21:=hr2.cell 1
  have f20:=hr2.free 0
  have a31:=hr3.cell 1
  have f31:=hr3.free 1
  have a40:=hr4.cell 0
  have a41:=hr4.cell 1
  have HE:Hid (ipc (zbr n)=[.int .i64 (t - 1),.int .i64 (m+1000)]):=Lib.hid (by unfold ipc zbr;rw [e1,e2])
  obtain ⟨res,hres⟩:∃ r,r=ipc (zbr n):=⟨_,rfl⟩
  rw [←hres] at HE
  unfold ipv
  rw [←hres]
  have hw5:IntKind.i64.wrap (t - 1)=t - 1:=by rw [IntKind.wrap_i64];omega
  have hw6:IntKind.i64.wrap (m+1000)=m+1000:=by rw [IntKind.wrap_i64];omega
  clear p1 p2 e1 e2 h0 h1 hr2 hz2 hb2 hr3 hz3 hb3 hr4 hz1 hb1 hres z1
  subst hw4
  subst hw3
  subst hw2
  subst hw1
  go_enter Tryz.func39,Tryz.ntmps39
  have hF1:Row (w.alloc (.cells #[.int .i64 (t - 1),.int .i64 (m+1000)] 66)) w.heap.size 66 [.int .i64 (t - 1),.int .i64 (m+1000)]:=heap_alloc_new w _
  have HR5:=Lib.hid (hF1.alloc (.cells #[.int .i64 (t - 1),.int .i64 (m+1000)] 66))
  have HB5:=Lib.hid (show Below w.heap.size w ((w.alloc (.cells #[.int .i64 (t - 1),.int .i64 (m+1000)] 66)).alloc (.cells #[.int .i64 (t - 1),.int .i64 (m+1000)] 66)) from ((Below.refl _ _).alloc (Nat.le_refl _) _).alloc (by simp) _)
  clear hF1
  go_wp2
  refine bodyPost_ret (v:=.agg #[.int .i64 (t - 1),.int .i64 (m+1000)]) (results_cell_row rfl _ _ w.heap.size _ _ (0,0) _ rfl HR5.out Tryz.underlying66 rfl (by kernel_rfl)) rfl ?_
  rw [HE.out]
  exact ⟨rfl,HB5.out⟩
 ·have d1:decide (m < 0)=false:=decide_eq_false hneg
  obtain ⟨e1,e2⟩:=p2 hneg
  have HZ2:=Lib.hid hz2
  have HB2:=Lib.hid hb2
  have a20:=hr2.cell 0
  have a21:=hr2.cell 1
  have HE:Hid (ipc (zbr n)=[.int .i64 t,.int .i64 m]):=Lib.hid (by unfold ipc zbr;rw [e1,e2])
  obtain ⟨res,hres⟩:∃ r,r=ipc (zbr n):=⟨_,rfl⟩
  rw [←hres] at HE
  unfold ipv
  rw [←hres]
  clear p1 p2 e1 e2 h0 h1 hr2 hz2 hb2 hz1 hb1 hres z1
  subst hw2
  subst hw1
  go_enter Tryz.func39,Tryz.ntmps39
  go_wp2_with (refine zbY rfl _ _ _ rfl w.heap.size 0 66 [.int .i64 0,.int .i64 0] [.int .i64 t,.int .i64 m] [.int .i64 t,.int .i64 m] rfl rfl rfl HZ2.out zdN (Nat.le_refl _) (znz (t,m)) w w.heap.size HB2.out (Nat.le_refl _) ?_)
  intro w5 hr5 hb5 _
  have HR5:=Lib.hid hr5
  have HB5:=Lib.hid hb5
  clear hr5 hb5 a20 a21
  go_wp2
  refine bodyPost_ret (v:=.agg #[.int .i64 t,.int .i64 m]) (results_cell_row rfl _ _ w.heap.size _ _ (0,0) _ rfl HR5.out Tryz.underlying66 rfl (by kernel_rfl)) rfl ?_
  rw [HE.out]
  exact ⟨rfl,HB5.out⟩
theorem zvn (x:CV) (w:World):Calls Tryz.prog 19 #[cv x] w fun e w'=>e=.returned (.int .i64 x.n)∧Below w.heap.size w w':=by
 obtain ⟨xb,xn,xs⟩:=x
 have hA:=zg5 ⟨xb,xn,xs⟩ w
 have a0:=hA.cell 1
 have HBE:=Lib.hid (show Below w.heap.size w (w.alloc (.cells #[.bool xb,.int .i64 xn,.string xs] 36)) from (Below.refl _ _).alloc (Nat.le_refl _) _)
 clear hA
 unfold cv
 go_enter Tryz.func19,Tryz.ntmps19
 go_wp2
 go_ret
 exact ⟨rfl,HBE.out⟩
theorem zvo (n:Int) (w:World):Calls Tryz.prog 36 #[.int .i64 n] w fun e w'=>e=.returned (.bool (n == 1))∧Below w.heap.size w w':=by
 go_enter Tryz.func36,Tryz.ntmps36
 go_wp2
 go_ret
 exact ⟨rfl,Below.refl _ _⟩
theorem zsU (b:Bool) (w:World):Calls Tryz.prog 48 #[.bool b] w fun e w'=>e=.returned (.int .i64 (if b then 1 else 0))∧Below w.heap.size w w':=by
 cases b with
 | true =>
  go_enter Tryz.func48,Tryz.ntmps48
  go_wp2
  go_ret
  exact ⟨rfl,Below.refl _ _⟩
 | false =>
  go_enter Tryz.func48,Tryz.ntmps48
  go_wp2
  go_ret
  exact ⟨rfl,Below.refl _ _⟩
theorem zvp (n:Int) (w:World):Calls Tryz.prog 27 #[.int .i64 n] w fun e w'=>e=.returned (cv (nv n))∧Below w.heap.size w w':=by
 have hA:=zg5 ⟨false,n,⟨#[]⟩⟩ w
 have a0:=hA.cell 0
 have a1:=hA.cell 1
 have a2:=hA.cell 2
 have HB:=Lib.hid (show Below w.heap.size w (w.alloc (.cells #[.bool false,.int .i64 n,.string ⟨#[]⟩] 36)) from (Below.refl _ _).alloc (Nat.le_refl _) _)
 have HA:=Lib.hid hA
 clear hA
 go_enter Tryz.func27,Tryz.ntmps27
 go_wp2
 refine bodyPost_ret (v:=cv (nv n)) (results_cell_row rfl _ _ w.heap.size _ _ (0,0) _ rfl HA.out Tryz.underlying36 rfl (by kernel_rfl)) rfl ?_
 exact ⟨rfl,HB.out⟩
theorem zsV (p:Int × Int) (w:World):Calls Tryz.prog 61 #[ipv p] w fun e w'=>e=.returned (.int .i64 p.1)∧Below w.heap.size w w':=by
 obtain ⟨x,y⟩:=p
 have hA:Row (w.alloc (.cells #[.int .i64 x,.int .i64 y] 66)) w.heap.size 66 [.int .i64 x,.int .i64 y]:=heap_alloc_new w _
 have a0:=hA.cell 0
 have HBE:=Lib.hid (show Below w.heap.size w (w.alloc (.cells #[.int .i64 x,.int .i64 y] 66)) from (Below.refl _ _).alloc (Nat.le_refl _) _)
 clear hA
 unfold ipv ipc
 dsimp only
 go_enter Tryz.func61,Tryz.ntmps61
 go_wp2
 go_ret
 exact ⟨rfl,HBE.out⟩
theorem zqn (p:Int × Int) (w:World):Calls Tryz.prog 62 #[ipv p] w fun e w'=>e=.returned (.int .i64 p.2)∧Below w.heap.size w w':=by
 obtain ⟨x,y⟩:=p
 have hA:Row (w.alloc (.cells #[.int .i64 x,.int .i64 y] 66)) w.heap.size 66 [.int .i64 x,.int .i64 y]:=heap_alloc_new w _
 have a0:=hA.cell 1
 have HBE:=Lib.hid (show Below w.heap.size w (w.alloc (.cells #[.int .i64 x,.int .i64 y] 66)) from (Below.refl _ _).alloc (Nat.le_refl _) _)
 clear hA
 unfold ipv ipc
 dsimp only
 go_enter Tryz.func62,Tryz.ntmps62
 go_wp2
 go_ret
 exact ⟨rfl,HBE.out⟩
def zcG {β:Type} (T:List β) (t:TypeId) (f:β→Value) (m g:Nat) (w:World) (i:Value) (wr:World):Prop:=
 ∃ (k:Nat) (o:List β),k≤m∧i=.int .i64 (k:Int)∧o.length=m∧o.take k=T.take k∧Row wr g t (o.map f)∧Below g w wr
def zfU {β:Type} (T:List β) (t:TypeId) (f:β→List Value) (s m g:Nat) (w:World) (i:Value) (wr:World):Prop:=
 ∃ (k:Nat) (rest:List Value),k≤m∧i=.int .i64 (k:Int)∧rest.length=(m - k)*s∧Row wr g t ((T.take k).flatMap f ++ rest)∧Below g w wr
theorem zii {β:Type} {f:β→List Value} {s:Nat} (hf:∀ x,(f x).length=s) {T:List β} {rest:List Value} (k:Nat) (h:k < T.length) :
  ((T.take k).flatMap f ++ rest).take (k*s) ++ f T[k] ++ ((T.take k).flatMap f ++ rest).drop (k*s+(f T[k]).length)=(T.take (k+1)).flatMap f ++ rest.drop s:=by
 have hl1:((T.take k).flatMap f).length=k*s:=by rw [zcE hf,List.length_take,Nat.min_eq_left (by omega)]
 rw [List.take_append_of_le_length (by omega),List.take_of_length_le (by omega),List.drop_append,hl1,List.drop_of_length_le (by rw [hl1];exact Nat.le_add_right _ _),List.take_succ_eq_append_getElem h,zc2,hf,show k*s+s - k*s=s by omega,List.nil_append]
theorem zvQ:ElemW Tryz.prog 63 66 16 2 (ipv (0,0)):=by
 refine ⟨Tryz.underlying63,rfl,by omega,?_⟩
 have h:(Tryz.prog.info? 66).map (fun i=>(i.zero,i.size,i.bytes))=some (some (ipv (0,0)),2,16):=by kernel_rfl
 cases hi:Tryz.prog.info? 66 with
 | none=>rw [hi] at h;cases h
 | some i =>
  rw [hi] at h
  injection h with h
  injection h with h1 h
  injection h with h2 h3
  exact ⟨i,rfl,h1,h2,h3⟩
theorem zqo (l:List (CV)) (v:Value) (w:World) (hv:IsR zZ l v w) (hb:l.length≤1000000) :
  Calls Tryz.prog 18 #[v,.func (.func 19) #[] #[]] w fun e w'=>∃ u,e=.returned u∧IsV iv (l.map (·.n)) u w'∧Below w.heap.size w w':=by
 obtain ⟨A,n,c,rfl⟩:=hv.shape
 have HN:=Lib.hid hv.parts.1
 have HV:=Lib.hid hv
 have hn6:n≤1000000:=by have:=HN.out;omega
 obtain ⟨T,hT⟩:∃ T:List (Int),T=l.map (·.n):=⟨_,rfl⟩
 have HT:=Lib.hid hT
 have HTL:=Lib.hid (show T.length=n by rw [hT,List.length_map];exact hv.parts.1)
 clear hv hb hT
 rw [←HT.out]
 go_enter Tryz.func18,Tryz.ntmps18
 go_wp2_with (refine zn zck rfl _ _ rfl _ _ _ _ n w w.heap.size rfl rfl rfl rfl (by omega) (by omega) (Below.refl _ _) (Nat.le_refl _) ?_)
 intro w1 hr1 hb1
 have HST:=Lib.hid (show zcG T 3 iv n w.heap.size w (.int .i64 0) w1 from ⟨0,List.replicate n 0,by omega,rfl,by simp,by simp,by simpa [iv] using hr1,hb1⟩)
 clear hr1 hb1
 go_wp2
 go_loopw [13] (zcG T 3 iv n w.heap.size w) (fun i _=>n - (intOf i).toNat)
 case atStart=>exact HST.out
 case round =>
  obtain ⟨k,o,hk,rfl,ho,hok,hr,hbr⟩:=hrel
  have HO:=Lib.hid ho
  have HOK:=Lib.hid hok
  clear ho hok
  by_cases hlt:k < n
  ·have hkl:k < l.length:=by have:=HN.out;omega
   have hlti:(k:Int) < (n:Int):=by omega
   have hkT:k < T.length:=by have:=HTL.out;omega
   obtain ⟨ad,rfl,had,hcell⟩:=(HV.out.below hbr).at (m:=3) (fun _=>rfl) (by omega) hkl
   obtain ⟨x,hx⟩:∃ x,x=l[k]:=⟨_,rfl⟩
   rw [←hx] at hcell
   have HTK:Hid (T[k]=(·.n) x):=Lib.hid (by simp only [HT.out,List.getElem_map,←hx])
   obtain ⟨k0,k1,k2⟩:=cells3 hcell
   obtain ⟨xb,xn,xs⟩:=x
   dsimp only at k0 k1 k2
   have hbx:=zg5 ⟨xb,xn,xs⟩ wr
   have b0:=hbx.cell 0
   have b1:=hbx.cell 1
   have b2:=hbx.cell 2
   have HR:=Lib.hid hr
   have HBR:=Lib.hid hbr
   have HS:=Lib.hid (zvn ⟨xb,xn,xs⟩ (wr.alloc (.cells #[.bool xb,.int .i64 xn,.string xs] 36)))
   have hko:k < o.length:=by have:=HO.out;omega
   clear hcell had hx hr hbr
   go_wp2_with fail
   refine HS.out.mono ?_
   rintro e w2 ⟨rfl,hb2⟩
   have hrw:=(HR.out.alloc (.cells #[.bool xb,.int .i64 xn,.string xs] 36)).below hb2 (HR.out.alloc _).lt
   have hbw:=(HBR.out.alloc (by have:=HR.out.lt;omega) (.cells #[.bool xb,.int .i64 xn,.string xs] 36)).trans (hb2.mono (by simp;have:=HR.out.lt;omega))
   have hcx:w2.cell? ⟨w.heap.size,k,none⟩=some (iv o[k]):=by rw [hrw.cell,List.getElem?_map,List.getElem?_eq_getElem hko];rfl
   have hfx:=hrw.free k
   have hr2:=hrw.set_ k (.int .i64 xn)
   rw [show (o.map iv).set k (.int .i64 xn)=(o.set k xn).map iv from List.map_set.symm] at hr2
   have HR2:=Lib.hid hr2
   have HBW:=Lib.hid hbw
   clear hr2 hb2 hbw hrw hbx b0 b1 b2 k0 k1 k2
   go_wp2
   go_roundw
   case rel =>
    refine ⟨k+1,o.set k xn,by omega,by go_num,by rw [List.length_set];exact HO.out,?_,HR2.out,HBW.out.setCell (Nat.le_refl _) _⟩
    rw [zdn _ _ _ hko,HOK.out,List.take_succ_eq_append_getElem hkT,HTK.out]
   case measure=>simp [intOf];omega
  ·obtain rfl:k=n:=by omega
   have hlti:¬(k:Int) < (k:Int):=by omega
   have HTO:Hid (o=T):=Lib.hid (by
    have h1:=HOK.out
    rw [List.take_of_length_le (by rw [HO.out];omega),List.take_of_length_le (by rw [HTL.out];omega)] at h1
    exact h1)
   have HR:=Lib.hid hr
   have HBR:=Lib.hid hbr
   clear hr hbr
   go_wp2
   go_ret
   refine ⟨_,rfl,?_,HBR.out⟩
   rw [←HTO.out]
   exact zbN HR.out HO.out (by omega)
theorem zqp (l:List (Int)) (v:Value) (w:World) (hv:IsV iv l v w) (hb:l.length≤1000000) :
  Calls Tryz.prog 35 #[v,.func (.func 36) #[] #[]] w fun e w'=>∃ u,e=.returned u∧IsV Value.bool (l.map (· == 1)) u w'∧Below w.heap.size w w':=by
 obtain ⟨A,n,c,rfl⟩:=hv.shape
 have HN:=Lib.hid hv.parts.1
 have HV:=Lib.hid hv
 have hn6:n≤1000000:=by have:=HN.out;omega
 obtain ⟨T,hT⟩:∃ T:List (Bool),T=l.map (· == 1):=⟨_,rfl⟩
 have HT:=Lib.hid hT
 have HTL:=Lib.hid (show T.length=n by rw [hT,List.length_map];exact hv.parts.1)
 clear hv hb hT
 rw [←HT.out]
 go_enter Tryz.func35,Tryz.ntmps35
 go_wp2_with (refine zn zoV rfl _ _ rfl _ _ _ _ n w w.heap.size rfl rfl rfl rfl (by omega) (by omega) (Below.refl _ _) (Nat.le_refl _) ?_)
 intro w1 hr1 hb1
 have HST:=Lib.hid (show zcG T 4 Value.bool n w.heap.size w (.int .i64 0) w1 from ⟨0,List.replicate n false,by omega,rfl,by simp,by simp,by simpa [iv] using hr1,hb1⟩)
 clear hr1 hb1
 go_wp2
 go_loopw [13] (zcG T 4 Value.bool n w.heap.size w) (fun i _=>n - (intOf i).toNat)
 case atStart=>exact HST.out
 case round =>
  obtain ⟨k,o,hk,rfl,ho,hok,hr,hbr⟩:=hrel
  have HO:=Lib.hid ho
  have HOK:=Lib.hid hok
  clear ho hok
  by_cases hlt:k < n
  ·have hkl:k < l.length:=by have:=HN.out;omega
   have hlti:(k:Int) < (n:Int):=by omega
   have hkT:k < T.length:=by have:=HTL.out;omega
   obtain ⟨ad,rfl,had,hcell⟩:=(HV.out.below hbr).at hkl
   obtain ⟨x,hx⟩:∃ x,x=l[k]:=⟨_,rfl⟩
   rw [←hx] at hcell
   have HTK:Hid (T[k]=(· == 1) x):=Lib.hid (by simp only [HT.out,List.getElem_map,←hx])
   have hcell2:wr.cell? (ad.add k)=some (.int .i64 x):=hcell
   have HR:=Lib.hid hr
   have HBR:=Lib.hid hbr
   have HS:=Lib.hid (zvo x wr)
   have hko:k < o.length:=by have:=HO.out;omega
   clear hcell had hx hr hbr
   go_wp2_with fail
   refine HS.out.mono ?_
   rintro e w2 ⟨rfl,hb2⟩
   have hrw:=HR.out.below hb2 HR.out.lt
   have hbw:=HBR.out.trans (hb2.mono (by have:=HR.out.lt;omega))
   have hcx:w2.cell? ⟨w.heap.size,k,none⟩=some (Value.bool o[k]):=by rw [hrw.cell,List.getElem?_map,List.getElem?_eq_getElem hko];rfl
   have hfx:=hrw.free k
   have hr2:=hrw.set_ k (.bool (x == 1))
   rw [show (o.map Value.bool).set k (.bool (x == 1))=(o.set k (x == 1)).map Value.bool from List.map_set.symm] at hr2
   have HR2:=Lib.hid hr2
   have HBW:=Lib.hid hbw
   clear hr2 hb2 hbw hrw hcell2
   go_wp2
   go_roundw
   case rel =>
    refine ⟨k+1,o.set k (x == 1),by omega,by go_num,by rw [List.length_set];exact HO.out,?_,HR2.out,HBW.out.setCell (Nat.le_refl _) _⟩
    rw [zdn _ _ _ hko,HOK.out,List.take_succ_eq_append_getElem hkT,HTK.out]
   case measure=>simp [intOf];omega
  ·obtain rfl:k=n:=by omega
   have hlti:¬(k:Int) < (k:Int):=by omega
   have HTO:Hid (o=T):=Lib.hid (by
    have h1:=HOK.out
    rw [List.take_of_length_le (by rw [HO.out];omega),List.take_of_length_le (by rw [HTL.out];omega)] at h1
    exact h1)
   have HR:=Lib.hid hr
   have HBR:=Lib.hid hbr
   clear hr hbr
   go_wp2
   go_ret
   refine ⟨_,rfl,?_,HBR.out⟩
   rw [←HTO.out]
   exact zbN HR.out HO.out (by omega)
theorem znB (l:List (Int)) (v:Value) (w:World) (hv:IsV iv l v w) (hb:l.length≤1000000) (hx:∀ x∈l,inInt x) :
  Calls Tryz.prog 38 #[v,.func (.func 39) #[] #[]] w fun e w'=>∃ u,e=.returned u∧IsR ipc (l.map zbr) u w'∧Below w.heap.size w w':=by
 obtain ⟨A,n,c,rfl⟩:=hv.shape
 have HN:=Lib.hid hv.parts.1
 have HV:=Lib.hid hv
 have hn6:n≤1000000:=by have:=HN.out;omega
 obtain ⟨T,hT⟩:∃ T:List (Int × Int),T=l.map zbr:=⟨_,rfl⟩
 have HT:=Lib.hid hT
 have HTL:=Lib.hid (show T.length=n by rw [hT,List.length_map];exact hv.parts.1)
 have HX0:=Lib.hid hx
 clear hv hb hT hx
 rw [←HT.out]
 go_enter Tryz.func38,Tryz.ntmps38
 go_wp2_with (refine zcL zvQ (ipc (0,0)) rfl rfl _ _ rfl _ _ _ _ n w w.heap.size rfl rfl rfl rfl (by omega) (by omega) (Below.refl _ _) (Nat.le_refl _) ?_)
 intro w1 hr1 hb1
 have hlen:((List.replicate n (ipc (0,0))).flatten).length=n*2:=by rw [←zb6 (f:=ipc) n (0,0),zcE (m:=2) (fun _=>rfl),List.length_replicate]
 have HST:=Lib.hid (show zfU T 66 ipc 2 n w.heap.size w (.int .i64 0) w1 from ⟨0,_,Nat.zero_le _,rfl,by simpa using hlen,hr1,hb1⟩)
 clear hr1 hb1 hlen
 go_wp2
 go_loopw [13] (zfU T 66 ipc 2 n w.heap.size w) (fun i _=>n - (intOf i).toNat)
 case atStart=>exact HST.out
 case round =>
  obtain ⟨k,rest,hk,rfl,hrl,hr,hbr⟩:=hrel
  have HRL:=Lib.hid hrl
  clear hrl
  by_cases hlt:k < n
  ·have hkl:k < l.length:=by have:=HN.out;omega
   have hlti:(k:Int) < (n:Int):=by omega
   have hkT:k < T.length:=by have:=HTL.out;omega
   obtain ⟨ad,rfl,had,hcell⟩:=(HV.out.below hbr).at hkl
   obtain ⟨x,hx⟩:∃ x,x=l[k]:=⟨_,rfl⟩
   rw [←hx] at hcell
   have hxin:=HX0.out x (by rw [hx];exact List.getElem_mem hkl)
   have HTK:Hid (T[k]=zbr x):=Lib.hid (by simp only [HT.out,List.getElem_map,←hx])
   have hcell2:wr.cell? (ad.add k)=some (.int .i64 x):=hcell
   have HR:=Lib.hid hr
   have HBR:=Lib.hid hbr
   have HS:=Lib.hid (zgp x wr hxin)
   clear hcell had hx hr hbr hxin
   go_wp2_with fail
   refine HS.out.mono ?_
   rintro e w2 ⟨rfl,hb2⟩
   have hrw:=HR.out.below hb2 HR.out.lt
   have hbw:=HBR.out.trans (hb2.mono (by have:=HR.out.lt;omega))
   have HFIT:Hid (k*2+(ipc (zbr x)).length≤((T.take k).flatMap ipc ++ rest).length):=Lib.hid (by
    rw [List.length_append,zcE (m:=2) (fun _=>rfl),List.length_take,Nat.min_eq_left (by omega),HRL.out,show (ipc (zbr x)).length=2 from rfl];omega)
   have HNEW:=Lib.hid (zii (f:=ipc) (s:=2) (fun _=>rfl) (rest:=rest) k hkT)
   rw [HTK.out] at HNEW
   have HRD:=Lib.hid (show (rest.drop 2).length=(n - (k+1))*2 by rw [List.length_drop,HRL.out];omega)
   have HBW:=Lib.hid hbw
   clear hb2 hbw hcell2
   go_wp2_with (refine zbY rfl 66 _ _ rfl w.heap.size (k*2) 66 ((T.take k).flatMap ipc ++ rest) (ipc (zbr x)) _ HNEW.out rfl rfl hrw zdN HFIT.out (znz _) w w.heap.size HBW.out (Nat.le_refl _) ?_)
   intro w3 hr3 hb3 _
   have HR3:Hid (Row w3 w.heap.size 66 ((T.take (k+1)).flatMap ipc ++ rest.drop 2)):=Lib.hid (by simpa using hr3)
   have HB3:=Lib.hid hb3
   clear hr3 hb3 hrw
   go_wp2
   go_roundw
   case rel=>exact ⟨k+1,rest.drop 2,hlt,by go_num,HRD.out,HR3.out,HB3.out⟩
   case measure=>simp [intOf];omega
  ·obtain rfl:k=n:=by omega
   have hlti:¬(k:Int) < (k:Int):=by omega
   obtain rfl:rest=[]:=List.eq_nil_of_length_eq_zero (by rw [HRL.out];omega)
   have HR:Hid (Row wr w.heap.size 66 (T.flatMap ipc)):=Lib.hid (by
    have h:=hr
    rw [List.append_nil,List.take_of_length_le (by rw [HTL.out];omega)] at h
    exact h)
   have HBR:=Lib.hid hbr
   clear hr hbr
   go_wp2
   go_ret
   exact ⟨_,rfl,zf6 HR.out HTL.out (by omega),HBR.out⟩
theorem znC (l:List (Int × Int)) (v:Value) (w:World) (hv:IsR ipc l v w) (hb:l.length≤1000000) :
  Calls Tryz.prog 60 #[v,.func (.func 61) #[] #[]] w fun e w'=>∃ u,e=.returned u∧IsV iv (l.map (·.1)) u w'∧Below w.heap.size w w':=by
 obtain ⟨A,n,c,rfl⟩:=hv.shape
 have HN:=Lib.hid hv.parts.1
 have HV:=Lib.hid hv
 have hn6:n≤1000000:=by have:=HN.out;omega
 obtain ⟨T,hT⟩:∃ T:List (Int),T=l.map (·.1):=⟨_,rfl⟩
 have HT:=Lib.hid hT
 have HTL:=Lib.hid (show T.length=n by rw [hT,List.length_map];exact hv.parts.1)
 clear hv hb hT
 rw [←HT.out]
 go_enter Tryz.func60,Tryz.ntmps60
 go_wp2_with (refine zn zck rfl _ _ rfl _ _ _ _ n w w.heap.size rfl rfl rfl rfl (by omega) (by omega) (Below.refl _ _) (Nat.le_refl _) ?_)
 intro w1 hr1 hb1
 have HST:=Lib.hid (show zcG T 3 iv n w.heap.size w (.int .i64 0) w1 from ⟨0,List.replicate n 0,by omega,rfl,by simp,by simp,by simpa [iv] using hr1,hb1⟩)
 clear hr1 hb1
 go_wp2
 go_loopw [13] (zcG T 3 iv n w.heap.size w) (fun i _=>n - (intOf i).toNat)
 case atStart=>exact HST.out
 case round =>
  obtain ⟨k,o,hk,rfl,ho,hok,hr,hbr⟩:=hrel
  have HO:=Lib.hid ho
  have HOK:=Lib.hid hok
  clear ho hok
  by_cases hlt:k < n
  ·have hkl:k < l.length:=by have:=HN.out;omega
   have hlti:(k:Int) < (n:Int):=by omega
   have hkT:k < T.length:=by have:=HTL.out;omega
   obtain ⟨ad,rfl,had,hcell⟩:=(HV.out.below hbr).at (m:=2) (fun _=>rfl) (by omega) hkl
   obtain ⟨x,hx⟩:∃ x,x=l[k]:=⟨_,rfl⟩
   rw [←hx] at hcell
   have HTK:Hid (T[k]=(·.1) x):=Lib.hid (by simp only [HT.out,List.getElem_map,←hx])
   obtain ⟨k0,k1⟩:=zuz hcell
   obtain ⟨xp,xq⟩:=x
   dsimp only at k0 k1
   have hbx:Row (wr.alloc (.cells #[.int .i64 xp,.int .i64 xq] 66)) wr.heap.size 66 [.int .i64 xp,.int .i64 xq]:=heap_alloc_new wr _
   have b0:=hbx.cell 0
   have b1:=hbx.cell 1
   have HR:=Lib.hid hr
   have HBR:=Lib.hid hbr
   have HS:=Lib.hid (zsV (xp,xq) (wr.alloc (.cells #[.int .i64 xp,.int .i64 xq] 66)))
   have hko:k < o.length:=by have:=HO.out;omega
   clear hcell had hx hr hbr
   unfold ipv ipc at HS
   dsimp only at HS
   go_wp2_with fail
   refine HS.out.mono ?_
   rintro e w2 ⟨rfl,hb2⟩
   have hrw:=(HR.out.alloc (.cells #[.int .i64 xp,.int .i64 xq] 66)).below hb2 (HR.out.alloc _).lt
   have hbw:=(HBR.out.alloc (by have:=HR.out.lt;omega) (.cells #[.int .i64 xp,.int .i64 xq] 66)).trans (hb2.mono (by simp;have:=HR.out.lt;omega))
   have hcx:w2.cell? ⟨w.heap.size,k,none⟩=some (iv o[k]):=by rw [hrw.cell,List.getElem?_map,List.getElem?_eq_getElem hko];rfl
   have hfx:=hrw.free k
   have hr2:=hrw.set_ k (.int .i64 xp)
   rw [show (o.map iv).set k (.int .i64 xp)=(o.set k xp).map iv from List.map_set.symm] at hr2
   have HR2:=Lib.hid hr2
   have HBW:=Lib.hid hbw
   clear hr2 hb2 hbw hrw hbx b0 b1 k0 k1
   go_wp2
   go_roundw
   case rel =>
    refine ⟨k+1,o.set k xp,by omega,by go_num,by rw [List.length_set];exact HO.out,?_,HR2.out,HBW.out.setCell (Nat.le_refl _) _⟩
    rw [zdn _ _ _ hko,HOK.out,List.take_succ_eq_append_getElem hkT,HTK.out]
   case measure=>simp [intOf];omega
  ·obtain rfl:k=n:=by omega
   have hlti:¬(k:Int) < (k:Int):=by omega
   have HTO:Hid (o=T):=Lib.hid (by
    have h1:=HOK.out
    rw [List.take_of_length_le (by rw [HO.out];omega),List.take_of_length_le (by rw [HTL.out];omega)] at h1
    exact h1)
   have HR:=Lib.hid hr
   have HBR:=Lib.hid hbr
   clear hr hbr
   go_wp2
   go_ret
   refine ⟨_,rfl,?_,HBR.out⟩
   rw [←HTO.out]
   exact zbN HR.out HO.out (by omega)
theorem zl6 (l:List (Int × Int)) (v:Value) (w:World) (hv:IsR ipc l v w) (hb:l.length≤1000000) :
  Calls Tryz.prog 60 #[v,.func (.func 62) #[] #[]] w fun e w'=>∃ u,e=.returned u∧IsV iv (l.map (·.2)) u w'∧Below w.heap.size w w':=by
 obtain ⟨A,n,c,rfl⟩:=hv.shape
 have HN:=Lib.hid hv.parts.1
 have HV:=Lib.hid hv
 have hn6:n≤1000000:=by have:=HN.out;omega
 obtain ⟨T,hT⟩:∃ T:List (Int),T=l.map (·.2):=⟨_,rfl⟩
 have HT:=Lib.hid hT
 have HTL:=Lib.hid (show T.length=n by rw [hT,List.length_map];exact hv.parts.1)
 clear hv hb hT
 rw [←HT.out]
 go_enter Tryz.func60,Tryz.ntmps60
 go_wp2_with (refine zn zck rfl _ _ rfl _ _ _ _ n w w.heap.size rfl rfl rfl rfl (by omega) (by omega) (Below.refl _ _) (Nat.le_refl _) ?_)
 intro w1 hr1 hb1
 have HST:=Lib.hid (show zcG T 3 iv n w.heap.size w (.int .i64 0) w1 from ⟨0,List.replicate n 0,by omega,rfl,by simp,by simp,by simpa [iv] using hr1,hb1⟩)
 clear hr1 hb1
 go_wp2
 go_loopw [13] (zcG T 3 iv n w.heap.size w) (fun i _=>n - (intOf i).toNat)
 case atStart=>exact HST.out
 case round =>
  obtain ⟨k,o,hk,rfl,ho,hok,hr,hbr⟩:=hrel
  have HO:=Lib.hid ho
  have HOK:=Lib.hid hok
  clear ho hok
  by_cases hlt:k < n
  ·have hkl:k < l.length:=by have:=HN.out;omega
   have hlti:(k:Int) < (n:Int):=by omega
   have hkT:k < T.length:=by have:=HTL.out;omega
   obtain ⟨ad,rfl,had,hcell⟩:=(HV.out.below hbr).at (m:=2) (fun _=>rfl) (by omega) hkl
   obtain ⟨x,hx⟩:∃ x,x=l[k]:=⟨_,rfl⟩
   rw [←hx] at hcell
   have HTK:Hid (T[k]=(·.2) x):=Lib.hid (by simp only [HT.out,List.getElem_map,←hx])
   obtain ⟨k0,k1⟩:=zuz hcell
   obtain ⟨xp,xq⟩:=x
   dsimp only at k0 k1
   have hbx:Row (wr.alloc (.cells #[.int .i64 xp,.int .i64 xq] 66)) wr.heap.size 66 [.int .i64 xp,.int .i64 xq]:=heap_alloc_new wr _
   have b0:=hbx.cell 0
   have b1:=hbx.cell 1
   have HR:=Lib.hid hr
   have HBR:=Lib.hid hbr
   have HS:=Lib.hid (zqn (xp,xq) (wr.alloc (.cells #[.int .i64 xp,.int .i64 xq] 66)))
   have hko:k < o.length:=by have:=HO.out;omega
   clear hcell had hx hr hbr
   unfold ipv ipc at HS
   dsimp only at HS
   go_wp2_with fail
   refine HS.out.mono ?_
   rintro e w2 ⟨rfl,hb2⟩
   have hrw:=(HR.out.alloc (.cells #[.int .i64 xp,.int .i64 xq] 66)).below hb2 (HR.out.alloc _).lt
   have hbw:=(HBR.out.alloc (by have:=HR.out.lt;omega) (.cells #[.int .i64 xp,.int .i64 xq] 66)).trans (hb2.mono (by simp;have:=HR.out.lt;omega))
   have hcx:w2.cell? ⟨w.heap.size,k,none⟩=some (iv o[k]):=by rw [hrw.cell,List.getElem?_map,List.getElem?_eq_getElem hko];rfl
   have hfx:=hrw.free k
   have hr2:=hrw.set_ k (.int .i64 xq)
   rw [show (o.map iv).set k (.int .i64 xq)=(o.set k xq).map iv from List.map_set.symm] at hr2
   have HR2:=Lib.hid hr2
   have HBW:=Lib.hid hbw
   clear hr2 hb2 hbw hrw hbx b0 b1 k0 k1
   go_wp2
   go_roundw
   case rel =>
    refine ⟨k+1,o.set k xq,by omega,by go_num,by rw [List.length_set];exact HO.out,?_,HR2.out,HBW.out.setCell (Nat.le_refl _) _⟩
    rw [zdn _ _ _ hko,HOK.out,List.take_succ_eq_append_getElem hkT,HTK.out]
   case measure=>simp [intOf];omega
  ·obtain rfl:k=n:=by omega
   have hlti:¬(k:Int) < (k:Int):=by omega
   have HTO:Hid (o=T):=Lib.hid (by
    have h1:=HOK.out
    rw [List.take_of_length_le (by rw [HO.out];omega),List.take_of_length_le (by rw [HTL.out];omega)] at h1
    exact h1)
   have HR:=Lib.hid hr
   have HBR:=Lib.hid hbr
   clear hr hbr
   go_wp2
   go_ret
   refine ⟨_,rfl,?_,HBR.out⟩
   rw [←HTO.out]
   exact zbN HR.out HO.out (by omega)
theorem zl7 (l:List (Bool)) (v:Value) (w:World) (hv:IsV Value.bool l v w) (hb:l.length≤1000000) :
  Calls Tryz.prog 47 #[v,.func (.func 48) #[] #[]] w fun e w'=>∃ u,e=.returned u∧IsV iv (l.map (fun t=>if t then 1 else 0)) u w'∧Below w.heap.size w w':=by
 obtain ⟨A,n,c,rfl⟩:=hv.shape
 have HN:=Lib.hid hv.parts.1
 have HV:=Lib.hid hv
 have hn6:n≤1000000:=by have:=HN.out;omega
 obtain ⟨T,hT⟩:∃ T:List (Int),T=l.map (fun t=>if t then 1 else 0):=⟨_,rfl⟩
 have HT:=Lib.hid hT
 have HTL:=Lib.hid (show T.length=n by rw [hT,List.length_map];exact hv.parts.1)
 clear hv hb hT
 rw [←HT.out]
 go_enter Tryz.func47,Tryz.ntmps47
 go_wp2_with (refine zn zck rfl _ _ rfl _ _ _ _ n w w.heap.size rfl rfl rfl rfl (by omega) (by omega) (Below.refl _ _) (Nat.le_refl _) ?_)
 intro w1 hr1 hb1
 have HST:=Lib.hid (show zcG T 3 iv n w.heap.size w (.int .i64 0) w1 from ⟨0,List.replicate n 0,by omega,rfl,by simp,by simp,by simpa [iv] using hr1,hb1⟩)
 clear hr1 hb1
 go_wp2
 go_loopw [13] (zcG T 3 iv n w.heap.size w) (fun i _=>n - (intOf i).toNat)
 case atStart=>exact HST.out
 case round =>
  obtain ⟨k,o,hk,rfl,ho,hok,hr,hbr⟩:=hrel
  have HO:=Lib.hid ho
  have HOK:=Lib.hid hok
  clear ho hok
  by_cases hlt:k < n
  ·have hkl:k < l.length:=by have:=HN.out;omega
   have hlti:(k:Int) < (n:Int):=by omega
   have hkT:k < T.length:=by have:=HTL.out;omega
   obtain ⟨ad,rfl,had,hcell⟩:=(HV.out.below hbr).at hkl
   obtain ⟨x,hx⟩:∃ x,x=l[k]:=⟨_,rfl⟩
   rw [←hx] at hcell
   have HTK:Hid (T[k]=(fun t=>if t then 1 else 0) x):=Lib.hid (by simp only [HT.out,List.getElem_map,←hx])
   have hcell2:wr.cell? (ad.add k)=some (.bool x):=hcell
   have HR:=Lib.hid hr
   have HBR:=Lib.hid hbr
   have HS:=Lib.hid (zsU x wr)
   have hko:k < o.length:=by have:=HO.out;omega
   clear hcell had hx hr hbr
   go_wp2_with fail
   refine HS.out.mono ?_
   rintro e w2 ⟨rfl,hb2⟩
   have hrw:=HR.out.below hb2 HR.out.lt
   have hbw:=HBR.out.trans (hb2.mono (by have:=HR.out.lt;omega))
   have hcx:w2.cell? ⟨w.heap.size,k,none⟩=some (iv o[k]):=by rw [hrw.cell,List.getElem?_map,List.getElem?_eq_getElem hko];rfl
   have hfx:=hrw.free k
   have hr2:=hrw.set_ k (.int .i64 (if x then 1 else 0))
   rw [show (o.map iv).set k (.int .i64 (if x then 1 else 0))=(o.set k (if x then 1 else 0)).map iv from List.map_set.symm] at hr2
   have HR2:=Lib.hid hr2
   have HBW:=Lib.hid hbw
   clear hr2 hb2 hbw hrw hcell2
   go_wp2
   go_roundw
   case rel =>
    refine ⟨k+1,o.set k (if x then 1 else 0),by omega,by go_num,by rw [List.length_set];exact HO.out,?_,HR2.out,HBW.out.setCell (Nat.le_refl _) _⟩
    rw [zdn _ _ _ hko,HOK.out,List.take_succ_eq_append_getElem hkT,HTK.out]
   case measure=>simp [intOf];omega
  ·obtain rfl:k=n:=by omega
   have hlti:¬(k:Int) < (k:Int):=by omega
   have HTO:Hid (o=T):=Lib.hid (by
    have h1:=HOK.out
    rw [List.take_of_length_le (by rw [HO.out];omega),List.take_of_length_le (by rw [HTL.out];omega)] at h1
    exact h1)
   have HR:=Lib.hid hr
   have HBR:=Lib.hid hbr
   clear hr hbr
   go_wp2
   go_ret
   refine ⟨_,rfl,?_,HBR.out⟩
   rw [←HTO.out]
   exact zbN HR.out HO.out (by omega)
theorem zqq (l:List (Int)) (v:Value) (w:World) (hv:IsV iv l v w) (hb:l.length≤1000000) :
  Calls Tryz.prog 26 #[v,.func (.func 27) #[] #[]] w fun e w'=>∃ u,e=.returned u∧IsR zZ (l.map nv) u w'∧Below w.heap.size w w':=by
 obtain ⟨A,n,c,rfl⟩:=hv.shape
 have HN:=Lib.hid hv.parts.1
 have HV:=Lib.hid hv
 have hn6:n≤1000000:=by have:=HN.out;omega
 obtain ⟨T,hT⟩:∃ T:List (CV),T=l.map nv:=⟨_,rfl⟩
 have HT:=Lib.hid hT
 have HTL:=Lib.hid (show T.length=n by rw [hT,List.length_map];exact hv.parts.1)
 clear hv hb hT
 rw [←HT.out]
 go_enter Tryz.func26,Tryz.ntmps26
 go_wp2_with (refine zcL znt (zZ ⟨false,0,⟨#[]⟩⟩) rfl rfl _ _ rfl _ _ _ _ n w w.heap.size rfl rfl rfl rfl (by omega) (by omega) (Below.refl _ _) (Nat.le_refl _) ?_)
 intro w1 hr1 hb1
 have hlen:((List.replicate n (zZ ⟨false,0,⟨#[]⟩⟩)).flatten).length=n*3:=by rw [←zb6 (f:=zZ) n ⟨false,0,⟨#[]⟩⟩,zcE (m:=3) (fun _=>rfl),List.length_replicate]
 have HST:=Lib.hid (show zfU T 36 zZ 3 n w.heap.size w (.int .i64 0) w1 from ⟨0,_,Nat.zero_le _,rfl,by simpa using hlen,hr1,hb1⟩)
 clear hr1 hb1 hlen
 go_wp2
 go_loopw [13] (zfU T 36 zZ 3 n w.heap.size w) (fun i _=>n - (intOf i).toNat)
 case atStart=>exact HST.out
 case round =>
  obtain ⟨k,rest,hk,rfl,hrl,hr,hbr⟩:=hrel
  have HRL:=Lib.hid hrl
  clear hrl
  by_cases hlt:k < n
  ·have hkl:k < l.length:=by have:=HN.out;omega
   have hlti:(k:Int) < (n:Int):=by omega
   have hkT:k < T.length:=by have:=HTL.out;omega
   obtain ⟨ad,rfl,had,hcell⟩:=(HV.out.below hbr).at hkl
   obtain ⟨x,hx⟩:∃ x,x=l[k]:=⟨_,rfl⟩
   rw [←hx] at hcell
   have HTK:Hid (T[k]=nv x):=Lib.hid (by simp only [HT.out,List.getElem_map,←hx])
   have hcell2:wr.cell? (ad.add k)=some (.int .i64 x):=hcell
   have HR:=Lib.hid hr
   have HBR:=Lib.hid hbr
   have HS:=Lib.hid (zvp x wr)
   clear hcell had hx hr hbr
   go_wp2_with fail
   refine HS.out.mono ?_
   rintro e w2 ⟨rfl,hb2⟩
   have hrw:=HR.out.below hb2 HR.out.lt
   have hbw:=HBR.out.trans (hb2.mono (by have:=HR.out.lt;omega))
   have HFIT:Hid (k*3+(zZ (nv x)).length≤((T.take k).flatMap zZ ++ rest).length):=Lib.hid (by
    rw [List.length_append,zcE (m:=3) (fun _=>rfl),List.length_take,Nat.min_eq_left (by omega),HRL.out,show (zZ (nv x)).length=3 from rfl];omega)
   have HNEW:=Lib.hid (zii (f:=zZ) (s:=3) (fun _=>rfl) (rest:=rest) k hkT)
   rw [HTK.out] at HNEW
   have HRD:=Lib.hid (show (rest.drop 3).length=(n - (k+1))*3 by rw [List.length_drop,HRL.out];omega)
   have HBW:=Lib.hid hbw
   clear hb2 hbw hcell2
   go_wp2_with (refine zbY rfl 36 _ _ rfl w.heap.size (k*3) 36 ((T.take k).flatMap zZ ++ rest) (zZ (nv x)) _ HNEW.out rfl rfl hrw znA HFIT.out (zcC _) w w.heap.size HBW.out (Nat.le_refl _) ?_)
   intro w3 hr3 hb3 _
   have HR3:Hid (Row w3 w.heap.size 36 ((T.take (k+1)).flatMap zZ ++ rest.drop 3)):=Lib.hid (by simpa using hr3)
   have HB3:=Lib.hid hb3
   clear hr3 hb3 hrw
   go_wp2
   go_roundw
   case rel=>exact ⟨k+1,rest.drop 3,hlt,by go_num,HRD.out,HR3.out,HB3.out⟩
   case measure=>simp [intOf];omega
  ·obtain rfl:k=n:=by omega
   have hlti:¬(k:Int) < (k:Int):=by omega
   obtain rfl:rest=[]:=List.eq_nil_of_length_eq_zero (by rw [HRL.out];omega)
   have HR:Hid (Row wr w.heap.size 36 (T.flatMap zZ)):=Lib.hid (by
    have h:=hr
    rw [List.append_nil,List.take_of_length_le (by rw [HTL.out];omega)] at h
    exact h)
   have HBR:=Lib.hid hbr
   clear hr hbr
   go_wp2
   go_ret
   exact ⟨_,rfl,zf6 HR.out HTL.out (by omega),HBR.out⟩
end Go.Proofs.YtlibofmpnlfelaaGreatDoor
