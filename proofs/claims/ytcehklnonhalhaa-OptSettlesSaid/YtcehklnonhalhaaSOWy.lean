/-
  What the proofs of OptSweeps and OptSettles need: Wy.
-/
import Derived.Test.YtcehklnonhalhaaSOWx
import Derived.Test.YtcehklnonhalhaaSOHR
import Derived.Test.YtcehklnonhalhaaSOLexG
namespace Go.Proofs.Ytcehklnonhalhaa
open Go.RowKit
set_option linter.unusedVariables false
set_option maxRecDepth 4000

/-- swept again all counts. -/
theorem sw_again {N M : List Nd} {I O : List Pt} {K : List Nat} {P : List Int} (re : Re N M K P) (hI : PK K I) (hO : PK K O) (hf : N.all (formedS N.length) = true) (hr : ∀ q ∈ K, Rch N (fun p => (p : Int) ∈ comesS I ++ comesS O) q) {B : List Bool} (hB : ∀ p, B.getD p false = true ↔ Rch M (fun p => (p : Int) ∈ comesS (I.map (outF P)) ++ comesS (O.map (outF P))) p) : ∀ p, p < M.length → B.getD p false = true := fun p hp => by
  obtain ⟨q, hq, hm⟩ := idx_of (K := K) (j := p) (by rw [← re.len]; exact hp)
  obtain ⟨j, hj, hrj⟩ := re.rch hf (Y := comesS I ++ comesS O) (fun y hy => by
    rcases List.mem_append.1 hy with hy | hy
    · exact hI.comes y hy
    · exact hO.comes y hy) (hr q hm)
  have e1 := re.inv _ _ hq
  have e2 := re.inv _ _ hj
  obtain rfl : p = j := by omega
  rw [hB, comes_mv, comes_mv, ← List.map_append]
  exact hrj

end Go.Proofs.Ytcehklnonhalhaa
