
/-
  The walks of dyad's Add, Sub.
-/
import Derived.Test.YthaehfdjldjdiaaDoorDmatb
namespace Go.Proofs.YthaehfdjldjdiaaDoor
open Go.RowKit
set_option linter.unusedVariables false

theorem fit_n (x i : Nat) (h : blen x + i ≤ 16384) : blen (x * 2 ^ i) ≤ 32 * 520 := by
  by_cases hx : x = 0
  · subst hx; rw [Nat.zero_mul, blen_zero]; omega
  · rw [blen_shift hx]; omega
def DPx (w : World) (rn : Bool) (rx : Nat) (re err : Int) (e : Ending) (w' : World) : Prop := ∃ A n, e = .returned (.tuple #[.agg #[.bool rn, .slice A n n, .int .i64 re], .int .i64 err]) ∧ Res w' A n rx ∧ Below w.heap.size w w'
theorem told_as {A : Option Addr} {n c x : Nat} {neg : Bool} {e : Int} {w : World} {rn : Bool} {rx : Nat} {re err : Int} (h : Arg w A n c x) (hs : n ≤ 30000) (hT : Tab w) (he : -1000000 ≤ e) (he2 : e ≤ 1000000) (hr : tld (D.pl ⟨neg, x, e⟩) = (⟨rn, rx, re⟩, err)) :
    Calls Tryd.prog 33 #[.agg #[.bool neg, .slice A n c, .int .i64 e]] w (DPx w rn rx re err) := by
  have := told_any (neg := neg) h hs hT he he2
  rw [hr] at this
  exact this
theorem Bx2.other {w : World} {s g : Nat} {A1 A2 : Option Addr} {n1 c1 n2 c2 : Nat} (h : Bx2 w g A1 n1 c1 A2 n2 c2) (hs : s ≠ g) (a b c : Value) : Bx2 (put3 w s a b c) g A1 n1 c1 A2 n2 c2 :=
  ((Own.other h hs a).other hs b).other hs c
theorem sz_sub {an bn : Bool} {X Y : Nat} {m m' : Int} (hn : (an == bn) = false) (h : Y ≤ X) : (⟨an, X - Y, m⟩ : D).sz = (⟨an, X, m⟩ : D).sz + (⟨bn, Y, m'⟩ : D).sz := by
  unfold D.sz
  cases an <;> cases bn <;> simp at hn ⊢ <;> omega
theorem sz_sub2 {an bn : Bool} {X Y : Nat} {m m' : Int} (hn : (an == bn) = false) (h : X ≤ Y) : (⟨bn, Y - X, m⟩ : D).sz = (⟨an, X, m⟩ : D).sz + (⟨bn, Y, m'⟩ : D).sz := by
  unfold D.sz
  cases an <;> cases bn <;> simp at hn ⊢ <;> omega
/-- the first number's variable and that of both sizes. -/
def KA (w : World) (s g : Nat) (an : Bool) (A : Option Addr) (k : Nat) (e : Int) (L1 : Option Addr) (u1 : Nat) (L2 : Option Addr) (u2 : Nat) : Prop := DB w s 25 an A k k e ∧ Bx2 w g L1 u1 u1 L2 u2 u2
theorem KA.on {w w' : World} {s g : Nat} {an : Bool} {A : Option Addr} {k : Nat} {e : Int} {L1 : Option Addr} {u1 : Nat} {L2 : Option Addr} {u2 : Nat} (h : KA w s g an A k e L1 u1 L2 u2) (hb : Below w.heap.size w w') : KA w' s g an A k e L1 u1 L2 u2 := ⟨h.1.on hb, h.2.on hb⟩
theorem KA.put {w : World} {s g s' : Nat} {an : Bool} {A : Option Addr} {k : Nat} {e : Int} {L1 : Option Addr} {u1 : Nat} {L2 : Option Addr} {u2 : Nat} (h : KA w s g an A k e L1 u1 L2 u2) (h1 : s' ≠ s) (h2 : s' ≠ g) (a b c : Value) : KA (put3 w s' a b c) s g an A k e L1 u1 L2 u2 := ⟨h.1.other h1 a b c, h.2.other h2 a b c⟩
theorem KA.cells {w : World} {s g : Nat} {an : Bool} {A : Option Addr} {k : Nat} {e : Int} {L1 : Option Addr} {u1 : Nat} {L2 : Option Addr} {u2 : Nat} (h : KA w s g an A k e L1 u1 L2 u2) :
    w.cell? ⟨s, 0, none⟩ = some (.bool an) ∧ w.cell? ⟨g, 0, none⟩ = some (.slice L1 u1 u1) ∧ w.cell? ⟨g, 1, none⟩ = some (.slice L2 u2 u2) := ⟨h.1.cells.1, h.2.cells.1, h.2.cells.2.1⟩
end Go.Proofs.YthaehfdjldjdiaaDoor
