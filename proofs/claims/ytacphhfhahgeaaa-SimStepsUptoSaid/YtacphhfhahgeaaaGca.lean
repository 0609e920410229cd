
/-
  Layer 6: the nets that the laws' awake looks at.
-/
import Derived.Test.YtacphhfhahgeaaaGbf
import Derived.Test.YtacphhfhahgeaaaGr
import Derived.Test.YtacphhfhahgeaaaGs
import Derived.Laws.StructEq
import Derived.Laws.Tables
import Derived.Laws.Cover2
namespace Go.Proofs.Ytacphhfhahgeaaa
open Go.RowKit
set_option linter.unusedVariables false
set_option maxRecDepth 4000

def N0 : List Nd := [⟨1, 0, 0, 0⟩, ⟨1, 0, 0, 0⟩, ⟨3, 0, 1, 0⟩, ⟨2, 2, 0, 0⟩, ⟨7, 3, 1, 0⟩]
def N1 : List Nd := [⟨1, 0, 0, 0⟩, ⟨1, 0, 0, 0⟩, ⟨3, 3, 1, 0⟩, ⟨2, 2, 0, 0⟩, ⟨7, 3, 1, 0⟩]
def I0 : List Pt := [⟨⟨#[97]⟩, [0, 1]⟩]
def O0 : List Pt := [⟨⟨#[122]⟩, [4, 2]⟩]
theorem wr_N0 : wrongS N0 I0 O0 = 0 := by decide +kernel
theorem wr_N1 : wrongS N1 I0 O0 = 0 := by decide +kernel
theorem wr_N2 : wrongS [⟨8, 0, 0, 0⟩] [] [] = 2 := by decide +kernel
theorem lv_N0 : levS N0 = some [0, 0, 1, 2, 0] := by
  have h : All N0 (fun i => [0, 0, 1, 2, 0].getD i 0) := by
    intro i hi
    have hi : i < 5 := hi
    rcases (show i = 0 ∨ i = 1 ∨ i = 2 ∨ i = 3 ∨ i = 4 by omega) with rfl | rfl | rfl | rfl | rfl
    all_goals exact ⟨_, rfl, by decide, by decide⟩
  rw [levS_is h]
  rfl
theorem lv_N1 : levS N1 = none := levS_none fun f hf => by
  obtain ⟨x, hx, h1, h2⟩ := hf 2 (by decide)
  obtain ⟨y, hy, h3, h4⟩ := hf 3 (by decide)
  cases hx
  cases hy
  have e2 := over_lt f (show 3 ∈ needS ⟨3, 3, 1, 0⟩ by decide)
  have e3 := over_lt f (show 2 ∈ needS ⟨2, 2, 0, 0⟩ by decide)
  omega
theorem ls_N0 : levelS N0 I0 O0 = (some [0, 0, 1, 2, 0], 0) := by
  unfold levelS
  rw [wr_N0, lv_N0]
  rfl
theorem ls_N1 : levelS N1 I0 O0 = (none, 9) := by
  unfold levelS
  rw [wr_N1, lv_N1]
  rfl
theorem ls_N2 : levelS [⟨8, 0, 0, 0⟩] [] [] = (none, 2) := by
  unfold levelS
  rw [wr_N2]
  rfl
theorem or_N0 : ordO (some [0, 0, 1, 2, 0]) = [0, 1, 4, 2, 3] := by decide +kernel
theorem nm_1 : nameS ⟨#[97, 95, 49]⟩ = true := by decide +kernel
theorem nm_2 : nameS ⟨#[119, 105, 114, 101]⟩ = false := by decide +kernel
theorem nm_3 : nameS ⟨#[95, 97]⟩ = false := by decide +kernel
theorem us_N0 : usesS ⟨3, 0, 1, 0⟩ = [0, 1] := by decide +kernel
theorem sm_N0 : sameS N0 N0 I0 I0 O0 O0 = true := by decide +kernel
theorem mo_N0 : mostS (ints (some [0, 0, 1, 2, 0])) = 2 := by decide +kernel
theorem Bx.ns {w : World} {s : Nat} {L : List Nd} (h : Bx w s (L.flatMap ndC)) : Ns w (some ⟨s, 0, none⟩) L.length L := ⟨rfl, fun k x hx => by
  have key : ∀ i u, i < 4 → (ndC x)[i]? = some u → w.cell? ⟨s, 0 + k * 4 + i, none⟩ = some u := fun i u hi hu => by
    rw [Nat.zero_add]
    exact h.2 _ u (by rw [flat_at ndC 4 ndC_len L k i hi, hx]; exact hu)
  exact ⟨s, 0, rfl, h.1, key 0 _ (by omega) rfl, key 1 _ (by omega) rfl, key 2 _ (by omega) rfl, key 3 _ (by omega) rfl⟩⟩
theorem Bx.is {w : World} {s : Nat} {L : List Int} (h : Bx w s (L.flatMap inC)) : Is w (some ⟨s, 0, none⟩) L.length L := ⟨rfl, fun k x hx => ⟨s, 0, rfl, h.1, by
  rw [Nat.zero_add]
  exact h.2 _ _ (by have := flat_at inC 1 inC_len L k 0 (by omega); rw [Nat.mul_one, Nat.add_zero] at this; rw [this, hx]; rfl)⟩⟩
theorem Bx.ps1 {w : World} {s : Nat} {nm : ByteArray} {A : Option Addr} {m c : Nat} {bs : List Int} (h : Bx w s [.string nm, .slice A m c]) (hi : Is w A m bs) (hc : m ≤ c ∧ (A = none → c = 0)) (hm : c ≤ maxLen) : Ps w (some ⟨s, 0, none⟩) 1 [⟨nm, bs⟩] := ⟨rfl, fun k p hp => by
  cases k with
  | zero =>
    cases hp
    exact ⟨s, 0, A, m, c, rfl, h.1, by simpa using h.2 0 _ rfl, by simpa using h.2 1 _ rfl, hc, hm, hi⟩
  | succ k => simp at hp⟩
theorem Bx.far {w w' : World} {s g : Nat} {vs : List Value} (h : Bx w s vs) (hg : w.grownBy w' (some g)) (hs : s ≠ g) : Bx w' s vs :=
  ⟨Nat.lt_of_lt_of_le h.1 hg.size, fun i u hu => (hg.cell_far ⟨s, i, none⟩ h.1 (fun e => hs (by injection e))).trans (h.2 i u hu)⟩
theorem Sw.one (A : Nat) (n : Nat) (hn : n ≤ 1000) : Sw (some ⟨A, 0, none⟩) n n := ⟨Nat.le_refl _, by unfold maxLen; omega, fun e => by cases e⟩
theorem Sw.nil_ : Sw none 0 0 := ⟨Nat.le_refl _, by unfold maxLen; omega, fun _ => rfl⟩
end Go.Proofs.Ytacphhfhahgeaaa
