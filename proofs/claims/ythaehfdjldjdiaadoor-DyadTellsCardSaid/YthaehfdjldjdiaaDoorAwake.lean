
/-
  The walk of awake.
-/
import Derived.Test.YthaehfdjldjdiaaDoorNate
import Derived.Test.YthaehfdjldjdiaaDoorSame
namespace Go.Proofs.YthaehfdjldjdiaaDoor
open Go.RowKit
set_option linter.unusedVariables false

theorem Tab.lt {w : World} (h : Tab w) : 0 < w.heap.size := by
  have h0 := h 0 (by omega)
  rcases Nat.lt_or_ge 0 w.heap.size with hlt | hge
  · exact hlt
  · simp only [World.cell?] at h0
    rw [Array.getElem?_eq_none hge] at h0
    cases h0
theorem Tab.on {w w' : World} (h : Tab w) (hb : Below w.heap.size w w') : Tab w' := fun j hj => (hb.cell (p := ⟨_, j, none⟩) h.lt).trans (h j hj)
theorem blen_eq {x : Nat} (k : Nat) (h1 : 2 ^ k ≤ x) (h2 : x < 2 ^ (k + 1)) : blen x = k + 1 := blen_unique h1 h2

/-- a literal list of parts, behind its own block. -/
theorem lit_res (w : World) (t : TypeId) (cs : List Nat) (n x : Nat) (hc : Canon cs) (hn : cs.length = n) (hx : val cs = x) : Res (w.alloc (.cells (U cs).toArray t)) (some ⟨w.heap.size, 0, none⟩) n x := by
  have := (Own.made w t (U cs)).nr hc.1
  rw [hn] at this
  exact ⟨cs, this, hc, hx⟩
theorem below_lit (w : World) (o : Obj) : Below w.heap.size w (w.alloc o) := (Below.refl _ _).alloc (Nat.le_refl _) _
theorem canon1 (a : Nat) (h : a < 4294967296) (h0 : a ≠ 0) : Canon [a] := ⟨Dg.mk h Dg.nil, fun _ => h0⟩
theorem canon2 (a b : Nat) (h : a < 4294967296) (hb : b < 4294967296) (h0 : b ≠ 0) : Canon [a, b] := ⟨Dg.mk h (Dg.mk hb Dg.nil), fun _ => h0⟩

theorem lit_arg (w : World) (t : TypeId) (cs : List Nat) (n x : Nat) (hd : Dg cs) (hn : cs.length = n) (hn2 : n ≤ 1000) (hx : val cs = x) : Arg (w.alloc (.cells (U cs).toArray t)) (some ⟨w.heap.size, 0, none⟩) n n x := by
  have := (Own.made w t (U cs)).nr hd
  rw [hn] at this
  exact ⟨cs, this, Nat.le_refl _, by unfold maxLen; omega, hx⟩
theorem Res.zero_n {w : World} {A : Option Addr} {n : Nat} (h : Res w A n 0) : n = 0 := by
  rcases Nat.eq_zero_or_pos n with e | e
  · exact e
  · exact (h.pos_len (by omega) rfl).elim
theorem len_as {A : Option Addr} {n c x : Nat} {w : World} (k : Nat) (h : Arg w A n c x) (hs : n ≤ 2000000) (hk : blen x = k) :
    Calls Tryd.prog 70 #[.slice A n c] w fun e w' => e = .returned (.int .i64 (k : Int)) ∧ w = w' := by
  have := len_any h hs
  rwa [hk] at this
theorem zeros_as {A : Option Addr} {n c x : Nat} {w : World} (k : Nat) (h : Arg w A n c x) (h4 : n ≤ 1000000) (hT : Tab w) (hk : Ctz x k) :
    Calls Tryd.prog 72 #[.slice A n c] w fun e w' => e = .returned (.int .i64 (k : Int)) ∧ w = w' := by
  refine (zeros_any h h4 hT).mono ?_
  rintro e w' ⟨z, rfl, _, hz, _, rfl⟩
  rw [(hz hk.1).unique hk]
  exact ⟨rfl, rfl⟩
theorem cmp_as {A1 A2 : Option Addr} {n1 c1 n2 c2 x y : Nat} {w : World} (k : Int) (h1 : Arg w A1 n1 c1 x) (h2 : Arg w A2 n2 c2 y) (s1 : n1 ≤ 2000000) (s2 : n2 ≤ 2000000) (hk : cmpI x y = k) :
    Calls Tryd.prog 36 #[.slice A1 n1 c1, .slice A2 n2 c2] w fun e w' => e = .returned (.int .i64 k) ∧ Below w.heap.size w w' := by
  refine (cmp_any h1 h2 s1 s2).mono ?_
  rintro e w' ⟨d, rfl, hw⟩
  rw [hk]
  exact ⟨rfl, (cmp_world hw).1⟩

end Go.Proofs.YthaehfdjldjdiaaDoor
