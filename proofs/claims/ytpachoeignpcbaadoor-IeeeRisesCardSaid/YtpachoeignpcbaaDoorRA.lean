/-
  The reference's Of, May, Turned, Plain, told; the law's own, large.
  The reference's told, at, Top; the law's is.
-/
import Derived.Test.YtpachoeignpcbaaDoorDE
namespace Go.Proofs.YtpachoeignpcbaaDoor
open Go.RowKit
set_option linter.unusedVariables false

theorem BS.put {w : World} {A : Option Addr} {n : Nat} {bs : List Bool} (h : BS w A n bs) {s : Nat} {t : TypeId} {cs : List Value} (ho : Own w s t cs) (ht : t ≠ 4) (i : Nat) (v : Value) : BS (w.setCell ⟨s, i, none⟩ v) A n bs := by
  refine ⟨⟨h.1.1, fun j u hu => ?_⟩, h.2.put s i v⟩
  obtain ⟨b, off, e, hb, hc⟩ := h.1.2 j u hu
  refine ⟨b, off, e, by rw [size_setCell]; exact hb, ?_⟩
  rw [World.cell?_setCell_other]
  · exact hc
  · intro e2
    have hn : 0 < n := by
      rcases Nat.eq_zero_or_pos n with h0 | h0
      · have := h.1.1
        rw [h0] at this
        rw [List.eq_nil_of_length_eq_zero this] at hu
        simp at hu
      · exact h0
    obtain ⟨b', off', cs', f', e3, hc'⟩ := h.2 hn
    rw [e] at e3
    injection e3 with e3
    injection e3 with e4 e5
    injection e2 with e6 e7
    have hst : s = b' := e6.trans e4
    unfold Own at ho
    rw [hst, hc'] at ho
    injection ho with ho
    injection ho with _ ho
    exact ht ho.symm
theorem Box.br {w : World} {s : Nat} {t : TypeId} {a b c : Value} (h : Box w s t a b c) (ht : t ≠ 4) {A : Option Addr} {n k x : Nat} (hr : BR w A n k x) (a' b' c' : Value) : BR (put3 w s a' b' c') A n k x := by
  obtain ⟨bs, h1, h2⟩ := hr
  exact ⟨bs, ((h1.put h.1 ht 0 a').put (h.1.put 0 a') ht 1 b').put ((h.1.put 0 a').put 1 b') ht 2 c', h2⟩
theorem Box.drew_other {w : World} {s g : Nat} {t : TypeId} {a b c : Value} (h : Box w g t a b c) (hs : s ≠ g) (a' b' c' : Value) : Box (put3 w s a' b' c').drew g t a b c := (h.other hs a' b' c').on ((Below.refl _ _).drew)
theorem BR.none_ (w : World) : BR w none 0 0 0 := ⟨[], BS.nil_, Nat.le_refl _, by unfold maxLen; omega, BC.nil, rfl⟩
def RPx (w : World) (rn : Bool) (rx : Nat) (re : Int) (e : Ending) (w' : World) : Prop := ∃ A n c, e = .returned (.agg #[.bool rn, .slice A n c, .int .i64 re]) ∧ BR w' A n c rx ∧ Below w.heap.size w w'
def RDx (w : World) (rn : Bool) (rx : Nat) (re err : Int) (e : Ending) (w' : World) : Prop := ∃ A n c, e = .returned (.tuple #[.agg #[.bool rn, .slice A n c, .int .i64 re], .int .i64 err]) ∧ BR w' A n c rx ∧ Below w.heap.size w w'

end Go.Proofs.YtpachoeignpcbaaDoor

namespace Go.Proofs.YtpachoeignpcbaaDoor
open Go.RowKit
set_option linter.unusedVariables false

theorem BR.le {w : World} {A : Option Addr} {n c x k : Nat} (h : BR w A n c x) (hk : blen x ≤ k) : n ≤ k := by rw [h.size]; exact hk

end Go.Proofs.YtpachoeignpcbaaDoor
