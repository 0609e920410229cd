
/-
  The walk of the law NatShifts.
-/
import Derived.Test.YthaehfdjldjdiaaDoorAdds
namespace Go.Proofs.YthaehfdjldjdiaaDoor
open Go.RowKit
set_option linter.unusedVariables false

def RightB (w : World) (x k n : Nat) (bl : Bool) (e : Ending) (w' : World) : Prop :=
  ∃ A m, e = .returned (.tuple #[.slice A m m, .bool bl]) ∧ Res w' A m (x / 2 ^ k) ∧ m ≤ n ∧ Below w.heap.size w w'
theorem right_bl {A : Option Addr} {n c x : Nat} {w : World} (h : Arg w A n c x) (hs : n ≤ 1000000) (i : Int) (hi2 : i ≤ 9223372036854775807) (hT : Tab w) (bl : Bool) (hb : Hid (decide (x % 2 ^ i.toNat ≠ 0) = bl)) :
    Calls Tryd.prog 54 #[.slice A n c, .int .i64 i] w (RightB w x i.toNat n bl) := by
  refine (right_any h hs i hi2 hT).mono ?_
  rintro e w' ⟨A', m, rfl, hr, hm, hb'⟩
  exact ⟨A', m, by rw [hb.out], hr, hm, hb'⟩
def RRightB (w : World) (x k : Nat) (bl : Bool) (e : Ending) (w' : World) : Prop :=
  ∃ A n c, e = .returned (.tuple #[.slice A n c, .bool bl]) ∧ BR w A n c (x / 2 ^ k) ∧ w = w'
theorem rright_bl {A : Option Addr} {n c x : Nat} {w : World} (h : BR w A n c x) (hn : n ≤ 1000000) (i : Int) (bl : Bool) (hb : Hid (decide (x % 2 ^ i.toNat ≠ 0) = bl)) :
    Calls Tryd.prog 55 #[.slice A n c, .int .i64 i] w (RRightB w x i.toNat bl) := by
  refine (rright_any h hn i).mono ?_
  rintro e w' ⟨A', m, c', rfl, hr, rfl⟩
  exact ⟨A', m, c', by rw [hb.out], hr, rfl⟩

end Go.Proofs.YthaehfdjldjdiaaDoor
