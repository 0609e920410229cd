
/-
  slices.Clone of bytes; sim: look (the closure), value.
-/
import Derived.Test.YtcfmgoilncninaaHd
import Derived.Test.YtcfmgoilncninaaHm
import Derived.Test.YtcfmgoilncninaaGq
import Derived.Deep.QuietTactic
import Derived.BigQuiet
namespace Go.Proofs.Ytcfmgoilncninaa
open Go.RowKit
set_option linter.unusedVariables false
set_option maxRecDepth 4000

theorem elm_u8 : Elm Try.prog 83 5 1 1 := by
  obtain ⟨i, h1, h2, h3, h4⟩ := Go.info_parts (P := Try.prog) (e := 5) (z := .int .u8 0) (size := 1) (bytes := 1) (by kernel_rfl)
  refine ⟨Try.underlying83, i, _, h1, h2, h3, h4, rfl, fun u hu => ?_⟩
  have hu2 : u ∈ (.int .u8 0 : Value).cells.toList := hu
  simp [Value.cells] at hu2
  subst hu2
  rfl
theorem add_plain (b off j : Nat) : (⟨b, off, none⟩ : Addr).add j = ⟨b, off + j, none⟩ := by
  unfold Addr.add
  by_cases h : j = 0
  · simp [h]
  · simp [h]
theorem Rw.cells {w : World} {A : Option Addr} {n : Nat} {vs : List Value} (h : Rw w A n vs) : ∀ ad, A = some ad → ∀ j u, vs[j]? = some u → w.cell? (ad.add j) = some u := by
  intro ad ha j u hu
  obtain ⟨b, off, h1, _, h3⟩ := h.2 j u hu
  rw [ha] at h1
  cases h1
  rw [add_plain]
  exact h3
theorem one_by8 (v : List Int) : ∀ u ∈ by8 v, u.oneCell' = true := by
  intro u hu
  obtain ⟨r, _, h⟩ := List.mem_map.1 hu
  subst h
  rfl
theorem bit8 {x y : Int} (hx : x = 0 ∨ x = 1) (hy : y = 0 ∨ y = 1) : bits .and .u8 x y = min x y ∧ bits .or .u8 x y = max x y ∧ bits .xor .u8 x y = (x + y) % 2 ∧ IntKind.u8.wrap (1 - x) = 1 - x := by
  rcases hx with rfl | rfl <;> rcases hy with rfl | rfl <;> exact ⟨by decide +kernel, by decide +kernel, by decide +kernel, by decide +kernel⟩
end Go.Proofs.Ytcfmgoilncninaa
