
/-
  net: the list of nodes that wait: await, step.
-/
import Derived.Test.YtcfmgoilncninaaGg
namespace Go.Proofs.Ytcfmgoilncninaa
open Go.RowKit
set_option linter.unusedVariables false
set_option maxRecDepth 4000

theorem grown_set (w : World) (a : Addr) (u : Value) : w.grownBy (w.setCell a u) (some a.block) :=
  ⟨rfl, rfl, rfl, by simp [World.setCell], fun k hk hne => Below.heap_setCell w a u k (fun e => hne (by rw [e]))⟩
theorem Own.kept {w w' : World} {g : Nat} {t : TypeId} {cs : List Value} {row : Option Nat} (h : Own w g t cs) (hg : w.grownBy w' row) (hne : some g ≠ row) : Own w' g t cs := (hg.block g h.lt hne).trans h
theorem grown_alloc (w : World) (o : Obj) (row : Option Nat) : w.grownBy (w.alloc o) row := World.grownBy_alloc w o row
/-- what waits, as cells. -/
def inN (W : List Nat) : List Value := (W.map fun i : Nat => (i : Int)).flatMap inC
theorem inN_snoc (W : List Nat) (p : Nat) : inN (W ++ [p]) = inN W ++ [.int .i64 (p : Int)] := by unfold inN; simp [inC]
theorem inN_at {W : List Nat} {k q : Nat} (h : W[k]? = some q) : (inN W)[k]? = some (.int .i64 (q : Int)) := by
  unfold inN
  have := flat_at inC 1 inC_len (W.map fun i : Nat => (i : Int)) k 0 (by omega)
  rw [Nat.mul_one, Nat.add_zero] at this
  rw [this, List.getElem?_map, h]
  rfl
def ivs (lv : List Int) : List Value := lv.map fun x : Int => .int .i64 x
theorem ivs_at {lv : List Int} {k : Nat} {x : Int} (h : lv[k]? = some x) : (ivs lv)[k]? = some (.int .i64 x) := by unfold ivs; rw [List.getElem?_map, h]; rfl
theorem ivs_set (lv : List Int) (k : Nat) (x : Int) : (ivs lv).set k (.int .i64 x) = ivs (lv.set k x) := by unfold ivs; rw [List.map_set]
theorem ivs_len (lv : List Int) : (ivs lv).length = lv.length := by simp [ivs]
theorem row_own {w : World} {B : Nat} {e : TypeId} {s : Nat} {A : Option Addr} {n c : Nat} {xs : List Value} (h : w.ownsRow B e s (.slice A n c) n xs) : A = none ∧ n = 0 ∧ c = 0 ∨ ∃ b, A = some ⟨b, 0, none⟩ ∧ B ≤ b ∧ b < w.heap.size := by
  rcases h.2 with ⟨h1, h2⟩ | ⟨b, cap, cur, h1, h2, h3, h4⟩
  · injection h1 with h1 h3 h4
    exact .inl ⟨h1, h2, h4⟩
  · injection h1 with h1 h5 h6
    exact .inr ⟨b, h1, h2, (Array.getElem?_eq_some_iff.1 h3).1⟩
theorem own_ne {w : World} {B : Nat} {e : TypeId} {s : Nat} {A : Option Addr} {n c g : Nat} {xs : List Value} (h : w.ownsRow B e s (.slice A n c) n xs) (hne : ∀ b, A = some ⟨b, 0, none⟩ → b ≠ g) : some g ≠ (Value.slice A n c).ownBlock := by
  rcases row_own h with ⟨rfl, _⟩ | ⟨b, rfl, _⟩
  · intro e; cases e
  · intro e
    injection e with e
    exact hne b rfl e.symm
theorem own_ne2 {w : World} {B : Nat} {e : TypeId} {s : Nat} {A : Option Addr} {n c g : Nat} {xs : List Value} (h : w.ownsRow B e s (.slice A n c) n xs) (hne : ∀ b, A = some ⟨b, 0, none⟩ → b ≠ g) : (Value.slice A n c).ownBlock = none ∨ (Value.slice A n c).ownBlock ≠ some g := .inr fun e => own_ne h hne e.symm
end Go.Proofs.Ytcfmgoilncninaa
