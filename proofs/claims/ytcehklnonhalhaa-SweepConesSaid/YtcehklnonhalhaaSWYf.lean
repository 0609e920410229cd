/-
  What the proofs of SweepTells and SweepCones and SweepSame need: Yf.
-/
import Derived.Test.YtcehklnonhalhaaSWYr
import Derived.Test.YtcehklnonhalhaaSWGr
import Derived.Test.YtcehklnonhalhaaSWGaa
import Derived.Test.YtcehklnonhalhaaSWJB
import Derived.Test.YtcehklnonhalhaaSWLexG
import Derived.Laws.StructEq
import Derived.Deep.QuietTactic
import Derived.BigQuiet
namespace Go.Proofs.Ytcehklnonhalhaa
open Go.RowKit
set_option linter.unusedVariables false
set_option maxRecDepth 4000

/-- the folder's nodes and stands, as they are read. -/
structure Fr (w : World) (p : Nat) (M : List Nd) (S : List Int) : Prop where
  ex : ∃ A c A' c', Bx w p [.slice A M.length c, .slice A' M.length c'] ∧ Ns w A M.length M ∧ Is w A' M.length S
theorem Fr.on {w w' : World} {p : Nat} {M : List Nd} {S : List Int} (h : Fr w p M S) (hb : Below w.heap.size w w') : Fr w' p M S := by
  obtain ⟨A, c, A', c', h1, h2, h3⟩ := h.ex
  exact ⟨A, c, A', c', h1.on hb, h2.on hb, h3.on hb⟩
theorem Fr.lt {w : World} {p : Nat} {M : List Nd} {S : List Int} (h : Fr w p M S) : p < w.heap.size := by
  obtain ⟨A, c, A', c', h1, _⟩ := h.ex
  exact h1.1
theorem node_equal (x1 x2 x3 x4 y1 y2 y3 y4 : Int) (w : World) : (Op.equalIn 10000 43 (.agg #[.int .i64 x1, .int .i64 x2, .int .i64 x3, .int .i64 x4]) (.agg #[.int .i64 y1, .int .i64 y2, .int .i64 y3, .int .i64 y4])).run Try.prog w = .ok (sameN ⟨x1, x2, x3, x4⟩ ⟨y1, y2, y3, y4⟩) w := by
  unfold sameN
  cases e1 : (x1 == y1) <;> cases e2 : (x2 == y2) <;> cases e3 : (x3 == y3) <;> cases e4 : (x4 == y4) <;> simp [go_sem, e1, e2, e3, e4]
theorem node_eql (x1 x2 x3 x4 y1 y2 y3 y4 : Int) (w : World) : (binOp .eql 43 (.agg #[.int .i64 x1, .int .i64 x2, .int .i64 x3, .int .i64 x4]) (.agg #[.int .i64 y1, .int .i64 y2, .int .i64 y3, .int .i64 y4])).run Try.prog w = .ok (.bool (sameN ⟨x1, x2, x3, x4⟩ ⟨y1, y2, y3, y4⟩)) w := by
  rw [run_eql_struct, node_equal]
  rfl
theorem node_neq (x1 x2 x3 x4 y1 y2 y3 y4 : Int) (w : World) : (binOp .neq 43 (.agg #[.int .i64 x1, .int .i64 x2, .int .i64 x3, .int .i64 x4]) (.agg #[.int .i64 y1, .int .i64 y2, .int .i64 y3, .int .i64 y4])).run Try.prog w = .ok (.bool (!sameN ⟨x1, x2, x3, x4⟩ ⟨y1, y2, y3, y4⟩)) w := by
  rw [run_neq_struct, node_equal]
  rfl
attribute [local go_sem ↓] node_eql node_neq
theorem Bx.t0 {w : World} {s : Nat} {a : Value} {l : List Value} (h : Bx w s (a :: l)) : w.cell? ⟨s, 0, none⟩ = some a := h.2 0 _ rfl
theorem Bx.t1 {w : World} {s : Nat} {a b : Value} {l : List Value} (h : Bx w s (a :: b :: l)) : w.cell? ⟨s, 1, none⟩ = some b := h.2 1 _ rfl
end Go.Proofs.Ytcehklnonhalhaa
