
/-
  Variables of three cells at a function's start: what holds of the world behind them.
-/
import Derived.Test.YthaehfdjldjdiaaDoorDa
namespace Go.Proofs.YthaehfdjldjdiaaDoor
open Go.RowKit
set_option linter.unusedVariables false

abbrev dob (neg : Bool) (A : Option Addr) (n c : Nat) (e : Int) (t : TypeId) : Obj := .cells #[.bool neg, .slice A n c, .int .i64 e] t
abbrev DB (w : World) (s : Nat) (t : TypeId) (neg : Bool) (A : Option Addr) (n c : Nat) (e : Int) : Prop := Box w s t (.bool neg) (.slice A n c) (.int .i64 e)
theorem DB.made (w : World) {s : Nat} (hs : w.heap.size = s) (t : TypeId) (neg : Bool) (A : Option Addr) (n c : Nat) (e : Int) : DB (w.alloc (dob neg A n c e t)) s t neg A n c e := by
  subst hs; exact Box.made_d w t neg A n c e
theorem Tab.put3 {w : World} (h : Tab w) {s : Nat} (hs : 0 < s) (a b c : Value) : Tab (put3 w s a b c) := fun j hj => by
  have h1 := below_put3 (Below.refl s w) (Nat.le_refl s) a b c
  exact (h1.cell (p := ⟨_, j, none⟩) hs).trans (h j hj)
theorem put3_named (w : World) (s : Nat) (a b c : Value) : ∃ w2, ((w.setCell ⟨s, 0, none⟩ a).setCell ⟨s, 1, none⟩ b).setCell ⟨s, 2, none⟩ c = w2 ∧ put3 w s a b c = w2 := ⟨_, rfl, rfl⟩
theorem frame1 (w : World) (t0 : TypeId) (n0 : Bool) (A0 : Option Addr) (l0 c0 : Nat) (e0 : Int) :
    ∃ W, (w.alloc (dob n0 A0 l0 c0 e0 t0)) = W ∧ DB W w.heap.size t0 n0 A0 l0 c0 e0 ∧ Below w.heap.size w W ∧ W.heap.size = w.heap.size + 1 :=
  ⟨_, rfl, DB.made _ (by simp) t0 n0 A0 l0 c0 e0, (Below.refl _ _).alloc (by simp <;> omega) _, by simp⟩
theorem frame2 (w : World) (t0 t1 : TypeId) (n0 : Bool) (A0 : Option Addr) (l0 c0 : Nat) (e0 : Int) (n1 : Bool) (A1 : Option Addr) (l1 c1 : Nat) (e1 : Int) :
    ∃ W, ((w.alloc (dob n0 A0 l0 c0 e0 t0)).alloc (dob n1 A1 l1 c1 e1 t1)) = W ∧ DB W w.heap.size t0 n0 A0 l0 c0 e0 ∧ DB W (w.heap.size + 1) t1 n1 A1 l1 c1 e1 ∧ Below w.heap.size w W ∧ W.heap.size = w.heap.size + 2 :=
  ⟨_, rfl, (DB.made _ (by simp) t0 n0 A0 l0 c0 e0).alloc _, DB.made _ (by simp) t1 n1 A1 l1 c1 e1, ((Below.refl _ _).alloc (by simp <;> omega) _).alloc (by simp <;> omega) _, by simp⟩
theorem frame3 (w : World) (t0 t1 t2 : TypeId) (n0 : Bool) (A0 : Option Addr) (l0 c0 : Nat) (e0 : Int) (n1 : Bool) (A1 : Option Addr) (l1 c1 : Nat) (e1 : Int) (n2 : Bool) (A2 : Option Addr) (l2 c2 : Nat) (e2 : Int) :
    ∃ W, (((w.alloc (dob n0 A0 l0 c0 e0 t0)).alloc (dob n1 A1 l1 c1 e1 t1)).alloc (dob n2 A2 l2 c2 e2 t2)) = W ∧ DB W w.heap.size t0 n0 A0 l0 c0 e0 ∧ DB W (w.heap.size + 1) t1 n1 A1 l1 c1 e1 ∧ DB W (w.heap.size + 1 + 1) t2 n2 A2 l2 c2 e2 ∧ Below w.heap.size w W ∧ W.heap.size = w.heap.size + 3 :=
  ⟨_, rfl, ((DB.made _ (by simp) t0 n0 A0 l0 c0 e0).alloc _).alloc _, (DB.made _ (by simp) t1 n1 A1 l1 c1 e1).alloc _, DB.made _ (by simp) t2 n2 A2 l2 c2 e2, (((Below.refl _ _).alloc (by simp <;> omega) _).alloc (by simp <;> omega) _).alloc (by simp <;> omega) _, by simp⟩
theorem frame4 (w : World) (t0 t1 t2 t3 : TypeId) (n0 : Bool) (A0 : Option Addr) (l0 c0 : Nat) (e0 : Int) (n1 : Bool) (A1 : Option Addr) (l1 c1 : Nat) (e1 : Int) (n2 : Bool) (A2 : Option Addr) (l2 c2 : Nat) (e2 : Int) (n3 : Bool) (A3 : Option Addr) (l3 c3 : Nat) (e3 : Int) :
    ∃ W, ((((w.alloc (dob n0 A0 l0 c0 e0 t0)).alloc (dob n1 A1 l1 c1 e1 t1)).alloc (dob n2 A2 l2 c2 e2 t2)).alloc (dob n3 A3 l3 c3 e3 t3)) = W ∧ DB W w.heap.size t0 n0 A0 l0 c0 e0 ∧ DB W (w.heap.size + 1) t1 n1 A1 l1 c1 e1 ∧ DB W (w.heap.size + 1 + 1) t2 n2 A2 l2 c2 e2 ∧ DB W (w.heap.size + 1 + 1 + 1) t3 n3 A3 l3 c3 e3 ∧ Below w.heap.size w W ∧ W.heap.size = w.heap.size + 4 :=
  ⟨_, rfl, (((DB.made _ (by simp) t0 n0 A0 l0 c0 e0).alloc _).alloc _).alloc _, ((DB.made _ (by simp) t1 n1 A1 l1 c1 e1).alloc _).alloc _, (DB.made _ (by simp) t2 n2 A2 l2 c2 e2).alloc _, DB.made _ (by simp) t3 n3 A3 l3 c3 e3, ((((Below.refl _ _).alloc (by simp <;> omega) _).alloc (by simp <;> omega) _).alloc (by simp <;> omega) _).alloc (by simp <;> omega) _, by simp⟩
end Go.Proofs.YthaehfdjldjdiaaDoor
