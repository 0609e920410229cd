/-
  What the proofs of OptSweeps and OptSettles need: Gbq Gbc.
-/
import Derived.Test.YtcehklnonhalhaaSOGz
import Derived.Deep.RegionLaw
import Derived.Test.YtcehklnonhalhaaSOGa
namespace Go.Proofs.Ytcehklnonhalhaa
open Go.RowKit
set_option linter.unusedVariables false
set_option maxRecDepth 4000

theorem Bx.t3 {w : World} {s : Nat} {a b c : Value} (h : Bx w s [a, b, c]) : w.cell? ⟨s, 0, none⟩ = some a ∧ w.cell? ⟨s, 1, none⟩ = some b ∧ w.cell? ⟨s, 2, none⟩ = some c := ⟨h.2 0 _ rfl, h.2 1 _ rfl, h.2 2 _ rfl⟩
/-- a node that lies so. -/
structure NAt (w : World) (b o : Nat) (x1 x2 x3 x4 : Int) : Prop where
  lt : b < w.heap.size
  c1 : w.cell? ⟨b, o, none⟩ = some (.int .i64 x1)
  c2 : w.cell? ⟨b, o + 1, none⟩ = some (.int .i64 x2)
  c3 : w.cell? ⟨b, o + 2, none⟩ = some (.int .i64 x3)
  c4 : w.cell? ⟨b, o + 3, none⟩ = some (.int .i64 x4)
theorem NAt.on {w w' : World} {b o : Nat} {x1 x2 x3 x4 : Int} (h : NAt w b o x1 x2 x3 x4) (hb : Below w.heap.size w w') : NAt w' b o x1 x2 x3 x4 :=
  ⟨Nat.lt_of_lt_of_le h.lt hb.size, (hb.cell (p := ⟨b, o, none⟩) h.lt).trans h.c1, (hb.cell (p := ⟨b, o + 1, none⟩) h.lt).trans h.c2, (hb.cell (p := ⟨b, o + 2, none⟩) h.lt).trans h.c3, (hb.cell (p := ⟨b, o + 3, none⟩) h.lt).trans h.c4⟩
theorem Ns.nat {w : World} {A : Option Addr} {n : Nat} {L : List Nd} (h : Ns w A n L) {k : Nat} (hk : k < n) : ∃ b off x1 x2 x3 x4, A = some ⟨b, off, none⟩ ∧ Hid (L[k]? = some ⟨x1, x2, x3, x4⟩) ∧ NAt w b (off + k * 4) x1 x2 x3 x4 := by
  obtain ⟨⟨x1, x2, x3, x4⟩, hx⟩ := look_ex h.1 hk
  obtain ⟨b, off, h1, h2, h3, h4, h5, h6⟩ := h.2 k _ hx
  exact ⟨b, off, x1, x2, x3, x4, h1, Lib.hid hx, h2, h3, h4, h5, h6⟩
end Go.Proofs.Ytcehklnonhalhaa
namespace Go.Proofs.Ytcehklnonhalhaa
set_option linter.unusedVariables false
set_option maxRecDepth 4000

theorem getD_some {lv : List Int} {p : Nat} {v : Int} (h : lv[p]? = some v) : lv.getD p 0 = v := by rw [List.getD_eq_getElem?_getD, h]; rfl
end Go.Proofs.Ytcehklnonhalhaa
