
/-
  The walk of the law NatAdds.
-/
import Derived.Test.YthaehfdjldjdiaaDoorReff
import Derived.Test.YthaehfdjldjdiaaDoorParts
namespace Go.Proofs.YthaehfdjldjdiaaDoor
open Go.RowKit
set_option linter.unusedVariables false

theorem rof_arg {A : Option Addr} {n c x : Nat} {w : World} (h : Arg w A n c x) (hn : n ≤ 30000) :
    Calls Tryd.prog 68 #[.slice A n c] w (BitsPost w x) := by
  obtain ⟨xs, h1, h2, h3, h4⟩ := h
  have := rof_any (c := c) h1 hn
  rwa [h4] at this

end Go.Proofs.YthaehfdjldjdiaaDoor
