
/- The contract of the reference's Take. -/

import Derived.Test.YtocodcceimeiiaaTake

import Derived.Test.YtocodcceimeiiaaOps

import Derived.Deep.RegionWith

import Derived.Deep.RegionLaw

import Derived.BigGuardPart

namespace Go.Proofs.Ytocodcceimeiiaa

open Go.RowKit

theorem ent11 (args : Array Value) (w : World) : (callFunc 15 args).run Try.prog w = .ok (.enter 15 args) w := by kernel_rfl

def RTakeRel (l : List UInt8) (i : Value) : Prop :=
  ∃ k : Nat, i = .int .i64 (k : Int) ∧ k ≤ 9 ∧ k ≤ l.length ∧ ∀ j (h : j < l.length), j < k → 128 ≤ l[j].toNat

def RTakeRel2 (l : List UInt8) (n : Nat) (x i : Value) : Prop :=
  ∃ m : Nat, i = .int .i64 ((m : Int) - 1) ∧ m ≤ n + 1 ∧ x = .int .u64 ((vsum ((l.take (n + 1)).drop m) % 18446744073709551616 : Nat) : Int)

theorem vsum_cut (l : List UInt8) (n m : Nat) (h : m < n + 1) (hl : n < l.length) :
    (128 * (vsum ((l.take (n + 1)).drop (m + 1)) % 18446744073709551616) % 18446744073709551616 + (l[m]'(by omega)).toNat % 128) % 18446744073709551616 = vsum ((l.take (n + 1)).drop m) % 18446744073709551616 := by
  have hm : m < (l.take (n + 1)).length := by rw [List.length_take]; omega
  rw [List.drop_eq_getElem_cons hm, vsum, List.getElem_take]
  omega

end Go.Proofs.Ytocodcceimeiiaa
