/-
  What the proofs of SweepTells and SweepCones and SweepSame need: Vf.
-/
import Derived.Test.YtcehklnonhalhaaSWVc
import Derived.Test.YtcehklnonhalhaaSWYl
namespace Go.Proofs.Ytcehklnonhalhaa
open Go.RowKit
open Go.Maps (Keyed)
set_option linter.unusedVariables false
set_option maxRecDepth 4000

attribute [local go_sem] make_ints
theorem ok_wf {n : Nat} {pos : Nat → Nat} {i : Nat} {x : Nd} (h : Ok (Pr n pos i) x) (hn : n ≤ 100000) : wfN x := by
  have pr : ∀ {y : Int}, Pr n pos i y → -1000000 ≤ y ∧ y ≤ 1000000 := fun h => by have h1 := h.1; have h2 := h.2.1; omega
  refine wfN_of fun v hv => ?_
  simp only [List.mem_cons, List.not_mem_nil, or_false] at hv
  rcases h.kd with ⟨e, h1, h2, h3⟩ | ⟨e, h1, h2, h3⟩ | ⟨e, h1, h2, h3⟩ | ⟨e, h1, h2, h3⟩
  · rcases hv with rfl | rfl | rfl | rfl <;> omega
  · rcases hv with rfl | rfl | rfl | rfl
    · omega
    · exact pr h1
    · omega
    · omega
  · rcases hv with rfl | rfl | rfl | rfl
    · omega
    · exact pr h1
    · exact pr h2
    · omega
  · rcases hv with rfl | rfl | rfl | rfl
    · omega
    · exact pr h1
    · exact pr h2
    · exact pr h3
/-- what is known of the node that is looked at. -/
theorem SI.look {N : List Nd} {pos : Nat → Nat} {i : Nat} {M : List Nd} {S : List Int} {F : Nd → Option Nat} (hp : Pos N pos) (h : SI N pos i M S F) {q : Nat} (hq : q < N.length) (hi : pos q = i) (hn : N.length ≤ 100000) : (isIO (M.getD q nd0) ∨ Ok (fun y => ∃ m : Nat, y = (m : Int) ∧ m < M.length) (M.getD q nd0)) ∧ (¬ isIO (M.getD q nd0) → wfN (keyS (usesF (S.set q (q : Int)) (M.getD q nd0)))) := by
  rw [h.old q hq (by omega), h.rw.lm]
  by_cases hio : isIO (N.getD q nd0)
  · exact ⟨.inl hio, fun k => absurd hio k⟩
  · have hok0 := hp.at hq hio
    rw [hi] at hok0
    refine ⟨.inr (hok0.mono fun y hy => ?_), fun _ => ?_⟩
    · obtain ⟨m, e, hm, _⟩ := hy.nat
      exact ⟨m, e, hm⟩
    · rw [usesF_set hok0 (by omega)]
      refine ok_wf (pos := pos) (i := i) (keyS_ok (usesF_ok hok0 fun y hy => ?_)) hn
      obtain ⟨m, rfl, hm, hpm⟩ := (hok0.uses y hy).nat
      obtain ⟨g1, _⟩ := h.rw.st m hm (by omega)
      unfold sA
      rw [Int.toNat_natCast]
      exact g1.le (by omega)
section
variable {w : World} (o0 o1 o2 : Obj)
end
end Go.Proofs.Ytcehklnonhalhaa
