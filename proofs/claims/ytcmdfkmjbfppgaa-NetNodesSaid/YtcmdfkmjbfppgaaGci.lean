
/-
  A node and a text among the arguments, opened.
-/
import Derived.Test.YtcmdfkmjbfppgaaGcc
namespace Go.Proofs.Ytcmdfkmjbfppgaa
open Go.RowKit Go.ChangeShapes Go.WideShapes
set_option linter.unusedVariables false
set_option maxRecDepth 4000

section
variable {H : Type} {enc : TypeId × Value → H} {w : World}
theorem open_node {v : Value} {d : DataW H} {p : List MemPlace} {b0 : Nat} (hv : Value.okWide Try.prog w .any b0 38 v) (h : DataW.Trod enc Try.prog w 0 (fun _ => true) true 38 v d p) :
    ∃ x1 x2 x3 x4, v = .agg #[.int .i64 x1, .int .i64 x2, .int .i64 x3, .int .i64 x4] := by
  obtain ⟨v0, v1, v2, v3, y0, y1, y2, y3, fu, rfl, rfl, rfl, t0, t1, t2, t3⟩ := Go.Joins.open_agg4 Try.underlying38 (by kernel_rfl) cells_node hv h
  obtain ⟨x0, e0, _⟩ := DataW.trod_int Try.underlying3 t0
  obtain ⟨x1, e1, _⟩ := DataW.trod_int Try.underlying3 t1
  obtain ⟨x2, e2, _⟩ := DataW.trod_int Try.underlying3 t2
  obtain ⟨x3, e3, _⟩ := DataW.trod_int Try.underlying3 t3
  cases e0
  cases e1
  cases e2
  cases e3
  exact ⟨x0, x1, x2, x3, rfl⟩
theorem open_str6 {v : Value} {d : DataW H} {p : List MemPlace} {b0 : Nat} (hv : Value.okWide Try.prog w .any b0 9 v) (h : DataW.Trod enc Try.prog w 0 (fun _ => true) true 9 v d p) (hz : ∀ n ∈ d.weights Try.prog 9, n ≤ RB) :
    ∃ s, v = .string s ∧ s.size ≤ RB := by
  obtain ⟨s, rfl⟩ := okWide_string Try.underlying9 hv
  obtain ⟨fu, hf⟩ := h
  obtain ⟨s', e, hx, _⟩ := DataW.trod_string Try.underlying9 hf
  simp [Value.cells] at e
  subst e
  injection hx with hx _
  subst hx
  exact ⟨s, rfl, hz s.size (by simp [DataW.weights])⟩
end
end Go.Proofs.Ytcmdfkmjbfppgaa
