
/-
  slices.Concat of ports; net's wrong.
-/
import Derived.Test.YtcfmgoilncninaaGf
namespace Go.Proofs.Ytcfmgoilncninaa
open Go.RowKit
set_option linter.unusedVariables false
set_option maxRecDepth 4000

/-- a slice is told that reads as these ports. -/
def PsX (w : World) (n : Nat) (L : List Pt) (en : Ending) (w' : World) : Prop := ∃ A c, en = .returned (.slice A n c) ∧ Ps w' A n L ∧ Sw A n c ∧ Below w.heap.size w w'
theorem row_low {w : World} {base base2 : Nat} {e : TypeId} {size : Nat} {v : Value} {n : Nat} {xs : List Value} (h : w.ownsRow base e size v n xs) (hb : base2 ≤ base) : w.ownsRow base2 e size v n xs := by
  refine ⟨h.1, ?_⟩
  rcases h.2 with h1 | ⟨g, cap, cur, h1, h2, h3⟩
  · exact .inl h1
  · exact .inr ⟨g, cap, cur, h1, Nat.le_trans hb h2, h3⟩
theorem PsR.on {w w' : World} {A : Option Addr} {n : Nat} {R : List Rp} (h : PsR w A n R) (hb : Below w.heap.size w w') : PsR w' A n R :=
  ⟨h.1, fun k r hr => by
    obtain ⟨b, off, h1, h2, h3, h4⟩ := h.2 k r hr
    exact ⟨b, off, h1, Nat.lt_of_lt_of_le h2 hb.size, (hb.cell (p := ⟨b, off + k * 2, none⟩) h2).trans h3, (hb.cell (p := ⟨b, off + k * 2 + 1, none⟩) h2).trans h4⟩⟩
/-- the first error of a net but that of rings. -/
def wrongS (N : List Nd) (I O : List Pt) : Int := if 64 < I.length + O.length then 4 else if N.all (formedS N.length) && (I ++ O).all (bitsS N.length) then (if (I ++ O).all (fun p => nameS p.name) then (if dupS (I ++ O) then 8 else if fedS N I then 0 else 10) else 7) else 2
end Go.Proofs.Ytcfmgoilncninaa
