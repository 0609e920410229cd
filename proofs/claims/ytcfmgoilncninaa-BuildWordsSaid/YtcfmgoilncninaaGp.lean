
/-
  net: which ports, and which nets, are the same.
-/
import Derived.Test.YtcfmgoilncninaaGn
namespace Go.Proofs.Ytcfmgoilncninaa
open Go.RowKit
set_option linter.unusedVariables false
set_option maxRecDepth 4000

def sameP (p q : Pt) : Bool := (p.name.toList == q.name.toList) && (p.bits == q.bits)
def sameAt (L M : List Pt) (i : Nat) : Bool := match L[i]?, M[i]? with
  | some p, some q => sameP p q
  | _, _ => false
/-- rows of ports are the same. -/
def sameL (L M : List Pt) : Bool := (L.length == M.length) && (List.range L.length).all (sameAt L M)
theorem sameL_no {L M : List Pt} (h : ¬ L.length = M.length) : sameL L M = false := by unfold sameL; simp [h]
theorem sameL_at {L M : List Pt} {j : Nat} {p q : Pt} (hp : L[j]? = some p) (hq : M[j]? = some q) (h : sameP p q = false) : sameL L M = false := by
  unfold sameL
  rw [Bool.and_eq_false_iff]
  right
  rw [List.all_eq_false]
  exact ⟨j, List.mem_range.2 (List.getElem?_eq_some_iff.1 hp).1, by unfold sameAt; rw [hp, hq]; simpa using h⟩
theorem sameL_end {L M : List Pt} {n : Nat} (hl : L.length = n) (hm : M.length = n) (h : (List.range n).all (sameAt L M) = true) : sameL L M = true := by
  unfold sameL
  rw [hl, hm, h]
  simp
theorem sameAt_succ {L M : List Pt} {j : Nat} {p q : Pt} (hp : L[j]? = some p) (hq : M[j]? = some q) (h : sameP p q = true) (ha : (List.range j).all (sameAt L M) = true) : (List.range (j + 1)).all (sameAt L M) = true := by
  rw [List.range_succ, List.all_append, ha]
  unfold sameAt
  simp [hp, hq, h]
def sameS (N N' : List Nd) (I I' O O' : List Pt) : Bool := (N == N') && (sameL I I' && sameL O O')
end Go.Proofs.Ytcfmgoilncninaa
