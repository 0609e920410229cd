
/-
  Layer 7: the laws' Parts and large; the reference's Same.
-/
import Derived.Test.YtcfmgoilncninaaHi
import Derived.Deep.QuietTactic
import Derived.BigQuiet
namespace Go.Proofs.Ytcfmgoilncninaa
open Go.RowKit
set_option linter.unusedVariables false
set_option maxRecDepth 4000

theorem elm_parts : Elm Try.prog 36 22 1 24 := by
  obtain ⟨i, h1, h2, h3, h4⟩ := Go.info_parts (P := Try.prog) (e := 22) (z := .slice none 0 0) (size := 1) (bytes := 24) (by kernel_rfl)
  refine ⟨Try.underlying36, i, _, h1, h2, h3, h4, rfl, fun u hu => ?_⟩
  have hu2 : u ∈ (.slice none 0 0 : Value).cells.toList := hu
  simp [Value.cells] at hu2
  subst hu2
  rfl
theorem NuT.at {t : TypeId} {w : World} {A : Option Addr} {n : Nat} {xs : List Nat} (h : NuT t w A n xs) {k : Nat} (hk : k < n) : ∃ b off A' m c x, A = some ⟨b, off, none⟩ ∧ Hid (xs[k]? = some x) ∧ w.cell? ⟨b, off + k, none⟩ = some (.slice A' m c) ∧ ResT w A' m x ∧ m ≤ 3200 := by
  obtain ⟨rs, h1, rfl, h3⟩ := h
  obtain ⟨r, hr⟩ := look_ex (by have := h1.1.1; simpa using this) hk
  obtain ⟨b, off, e, hb, hc⟩ := h1.1.2 k (snC r) (by rw [List.getElem?_map, hr]; rfl)
  have g := h3 r (List.mem_of_getElem? hr)
  exact ⟨b, off, r.A, r.m, r.c, r.x, e, Lib.hid (by rw [List.getElem?_map, hr]; rfl), hc, g.1, g.2.1⟩
theorem drewN_more (w : World) (a b : Nat) : (w.drewN a).drewN b = w.drewN (a + b) := World.drewN_drewN ..
end Go.Proofs.Ytcfmgoilncninaa
