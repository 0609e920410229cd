
/-
  What the frames of layer 2's statements share: a number that came in, opened.
-/
import Derived.Test.YtpachoeignpcbaaGreatDoorOpen
import Derived.Test.YtpachoeignpcbaaGreatDoorDj
import Derived.Lib.SmallJoins
namespace Go.Proofs.YtpachoeignpcbaaGreatDoor
open Go.ChangeShapes Go.WideShapes Go.ChangeAt Go.RowKit Go.Joins
set_option linter.unusedVariables false

theorem cellsDyad : Tryz.prog.cellsOf 48 = 3 := by kernel_rfl
set_option maxRecDepth 100000 in
theorem open_dyad {H : Type} {enc : TypeId × Value → H} {W : World} {r : Reach} {b0 : Nat} {v : Value} {d : DataW H} {p : List MemPlace} (hv : Value.okWide Tryz.prog W r b0 48 v)
    (h : DataW.Trod enc Tryz.prog W 0 (fun _ => true) true 48 v d p) : ∃ (neg : Bool) (A : Option Addr) (n c : Nat) (e : Int) (x : Nat), v = .agg #[.bool neg, .slice A n c, .int .i64 e] ∧ Arg W A n c x ∧ (Lit.int .i64 e).wf = true := by
  obtain ⟨c0, c1, c2, y0, y1, y2, m, rfl, rfl, rfl, hy0, hy1, hy2⟩ := open_agg3 Tryz.underlying48 (by kernel_rfl) cellsDyad hv h
  obtain ⟨neg, e0, _⟩ := DataW.trod_bool Tryz.underlying4 hy0
  obtain ⟨e, e2, _, we⟩ := DataW.trod_int Tryz.underlying3 hy2
  simp only [List.cons.injEq, and_true] at e0 e2
  subst e0 e2
  rcases open_ints Tryz.underlying46 Tryz.underlying144 (by kernel_rfl) hy1 with ⟨hcs, _⟩ | ⟨x, l, c, zs, hcs, _, hl, hm, hz, _, hcell, hwz⟩
  · simp only [List.cons.injEq, and_true] at hcs
    subst hcs
    exact ⟨neg, none, 0, 0, e, 0, rfl, (Res.none_ W).arg (by omega), we⟩
  · simp only [List.cons.injEq, and_true] at hcs
    subst hcs
    obtain ⟨v, hv⟩ := row_arg hl hm (by simpa using hz) hcell hwz
    exact ⟨neg, some x, l, c, e, v, rfl, hv, we⟩
end Go.Proofs.YtpachoeignpcbaaGreatDoor
