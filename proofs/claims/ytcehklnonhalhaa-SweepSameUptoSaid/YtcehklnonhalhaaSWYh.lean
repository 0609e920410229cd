/-
  What the proofs of SweepTells and SweepCones and SweepSame need: Yh Yi.
-/
import Derived.Test.YtcehklnonhalhaaSWYg
import Derived.Laws.StructEq
namespace Go.Proofs.Ytcehklnonhalhaa
open Go.RowKit
set_option linter.unusedVariables false
set_option maxRecDepth 4000
attribute [local go_sem ↓] node_eql node_neq

theorem Bx.low {w w' : World} {B s : Nat} {vs : List Value} (h : Bx w s vs) (hs : s < B) (hb : Below B w w') : Bx w' s vs := ⟨Nat.lt_of_lt_of_le h.1 hb.size, fun i u hu => (hb.cell (p := ⟨s, i, none⟩) hs).trans (h.2 i u hu)⟩
theorem NAt.low {w w' : World} {B b o : Nat} {x1 x2 x3 x4 : Int} (h : NAt w b o x1 x2 x3 x4) (hs : b < B) (hb : Below B w w') : NAt w' b o x1 x2 x3 x4 :=
  ⟨Nat.lt_of_lt_of_le h.lt hb.size, (hb.cell (p := ⟨b, o, none⟩) hs).trans h.c1, (hb.cell (p := ⟨b, o + 1, none⟩) hs).trans h.c2, (hb.cell (p := ⟨b, o + 2, none⟩) hs).trans h.c3, (hb.cell (p := ⟨b, o + 3, none⟩) hs).trans h.c4⟩
end Go.Proofs.Ytcehklnonhalhaa
namespace Go.Proofs.Ytcehklnonhalhaa
open Go.RowKit
set_option linter.unusedVariables false
set_option maxRecDepth 4000
attribute [local go_sem ↓] node_eql node_neq

end Go.Proofs.Ytcehklnonhalhaa
