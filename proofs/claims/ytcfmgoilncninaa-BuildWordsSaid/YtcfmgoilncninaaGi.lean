
/-
  net: one step of finding levels.
-/
import Derived.Test.YtcfmgoilncninaaGh
namespace Go.Proofs.Ytcfmgoilncninaa
open Go.RowKit
set_option linter.unusedVariables false
set_option maxRecDepth 4000

theorem over_take (f : Nat → Nat) {L : List Int} {j : Nat} {x : Int} (h : L[j]? = some x) : overS f ((L.take (j + 1)).map Int.toNat) = max (overS f ((L.take j).map Int.toNat)) (f x.toNat + 1) := by
  unfold overS
  rw [List.take_add_one, h, List.map_append, List.foldl_append]
  rfl
theorem row_pop {w : World} {Bw bA c : Nat} {W : List Nat} {q : Nat} (h : w.ownsRow Bw 3 1 (.slice (some ⟨bA, 0, none⟩) (W ++ [q]).length c) (W ++ [q]).length (inN (W ++ [q]))) : w.ownsRow Bw 3 1 (.slice (some ⟨bA, 0, none⟩) W.length c) W.length (inN W) := by
  have hl : (inN W).length = W.length := by unfold inN; rw [flat_len inC 1 inC_len]; simp
  refine ⟨by rw [hl, Nat.mul_one], .inr ?_⟩
  rcases h.2 with ⟨h1, _⟩ | ⟨b, cap, cur, h1, h2, h3, h4, h5, h6, h7⟩
  · cases h1
  · injection h1 with h1 h8 h9
    subst h9
    refine ⟨b, c, cur, by rw [h1], h2, h3, by simp at h4; omega, h5, h6, ?_⟩
    have := congrArg (List.take (W.length * 1)) h7
    rw [List.take_take, inN_snoc, List.take_left' (by rw [hl, Nat.mul_one])] at this
    rw [← this]
    congr 1
    simp
end Go.Proofs.Ytcfmgoilncninaa
