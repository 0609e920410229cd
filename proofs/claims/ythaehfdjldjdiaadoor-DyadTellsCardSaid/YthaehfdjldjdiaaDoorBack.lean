
/-
  The walk of the law NatBack.
-/
import Derived.Test.YthaehfdjldjdiaaDoorTurned
namespace Go.Proofs.YthaehfdjldjdiaaDoor
open Go.RowKit
set_option linter.unusedVariables false

theorem right_as (k : Nat) {A : Option Addr} {n c x : Nat} {w : World} (h : Arg w A n c x) (hs : n ≤ 1000000) (hk : k ≤ 1000000) (hT : Tab w) :
    Calls Tryd.prog 54 #[.slice A n c, .int .i64 (k : Int)] w (RightPost w x k n) := by
  have := right_any h hs (k : Int) (by omega) hT
  rwa [Int.toNat_natCast] at this

end Go.Proofs.YthaehfdjldjdiaaDoor
