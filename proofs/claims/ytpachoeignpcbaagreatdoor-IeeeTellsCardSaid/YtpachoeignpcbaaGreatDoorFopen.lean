
/-
  What the frames of layer 3's laws share: the tables as the program's text lays them, arguments opened, a world for the witness.
-/
import Derived.Test.YtpachoeignpcbaaGreatDoorOpen
import Derived.Test.YtpachoeignpcbaaGreatDoorDopen
import Derived.Test.YtpachoeignpcbaaGreatDoorFA
import Derived.Deep.Strs
namespace Go.Proofs.YtpachoeignpcbaaGreatDoor
open Go.ChangeShapes Go.WideShapes Go.ChangeAt Go.RowKit
set_option linter.unusedVariables false

abbrev laid3 : List (String × DataW Unit) := [("math/bits.deBruijn32tab", Rows.laid_math_bits_deBruijn32tab), ("slipstick/format.forms", Rows.laid_slipstick_format_forms)]
theorem tab_of3 {W : World} (h : laidMetH Tryz.prog laid3 W) : Tab W := by
  have ht : Lib.TabIs Tryz.prog W "math/bits.deBruijn32tab" .u8 tabInts := Lib.tabIs_of_head (rest := [("slipstick/format.forms", Rows.laid_slipstick_format_forms)]) gTab gTabType Tryz.underlying170 Tryz.underlying5 cellsByte cellsTab h
  intro j hj
  rw [ht.cell gTab j hj, tab_same j hj]
theorem gFrm : Tryz.prog.globalNamed "slipstick/format.forms" = some 0 := by kernel_rfl
theorem gFrmType : (Tryz.prog.globals[0]?).map (·.type) = some 40 := by kernel_rfl
theorem cellsForms : Tryz.prog.cellsOf 40 = 9 := by kernel_rfl
theorem cellsForm : Tryz.prog.cellsOf 25 = 3 := by kernel_rfl
theorem cellsInt : Tryz.prog.cellsOf 3 = 1 := by kernel_rfl
theorem list3 {α : Type} {l : List α} (h : l.length = 3) : ∃ a b c, l = [a, b, c] := by
  match l, h with
  | [a, b, c], _ => exact ⟨a, b, c, rfl⟩
/-- a form as it is laid. -/
theorem trod_form {W : World} {fuel : Nat} {cs : List Value} {x y z : Int} {p : List MemPlace} {base : Nat} {sp : Nat → Bool} {held : Bool} {enc : TypeId × Value → Unit}
    (h : DataW.trod enc Tryz.prog W base sp held fuel 25 cs = some (.agg [.lit (.int .i64 x), .lit (.int .i64 y), .lit (.int .i64 z)], p)) :
    cs = [.int .i64 x, .int .i64 y, .int .i64 z] := by
  obtain ⟨y0, y1, y2, n, hx, hl, h0, h1, h2⟩ := Go.Deep.trod_struct3 Tryz.underlying25 h
  rw [cellsForm] at hl
  obtain ⟨a, b, c, rfl⟩ := list3 hl
  simp only [Prod.mk.injEq, DataW.agg.injEq, List.cons.injEq, and_true] at hx
  obtain ⟨⟨e0, e1, e2⟩, _⟩ := hx
  rw [show Tryz.prog.cellsOf (3 : TypeId) = 1 from cellsInt] at h0 h1 h2
  obtain ⟨_, k0, g0, _⟩ := DataW.trod_int Tryz.underlying3 h0
  obtain ⟨_, k1, g1, _⟩ := DataW.trod_int Tryz.underlying3 h1
  obtain ⟨_, k2, g2, _⟩ := DataW.trod_int Tryz.underlying3 h2
  subst g0 g1 g2
  simp at e0 e1 e2 k0 k1 k2
  rw [k0, k1, k2, e0, e1, e2]
set_option maxRecDepth 100000 in
theorem forms_of {W : World} (h : laidMetH Tryz.prog laid3 W) : Frm W := by
  obtain ⟨ps, ⟨_, _, _, _, _, q, _, _, _, _, hrest, _⟩, _⟩ := (show laidMet Tryz.prog laid3 W from h)
  obtain ⟨g', t', cs, fuel, p, q', hg', ht', hvar, hd, _, _⟩ := hrest
  obtain ⟨l⟩ := cs
  obtain rfl := Option.some.inj (gFrm.symm.trans hg')
  obtain rfl := Option.some.inj (gFrmType.symm.trans ht')
  obtain ⟨xs, m, _, hx, hl, hn, hi⟩ := DataW.trod_array Tryz.underlying40 hd
  obtain ⟨y0, y1, y2, rfl⟩ := list3 hn
  simp only [Rows.laid_slipstick_format_forms, List.map_cons, List.map_nil, Prod.mk.injEq, DataW.agg.injEq, List.cons.injEq, and_true] at hx
  obtain ⟨⟨e0, e1, e2⟩, _⟩ := hx
  have i0 := hi 0 (by omega)
  have i1 := hi 1 (by omega)
  have i2 := hi 2 (by omega)
  rw [cellsForm] at i0 i1 i2
  simp only [List.getElem?_cons_zero, List.getElem?_cons_succ] at i0 i1 i2
  obtain ⟨y0a, y0b⟩ := y0
  obtain ⟨y1a, y1b⟩ := y1
  obtain ⟨y2a, y2b⟩ := y2
  simp only at e0 e1 e2
  subst e0 e1 e2
  have j0 := trod_form i0
  have j1 := trod_form i1
  have j2 := trod_form i2
  rw [cellsForms] at hl
  have hcs : l = [.int .i64 16, .int .i64 11, .int .i64 5, .int .i64 32, .int .i64 24, .int .i64 8, .int .i64 64, .int .i64 53, .int .i64 11] := by
    have h9 : l = (l.drop (0 * 3)).take 3 ++ ((l.drop (1 * 3)).take 3 ++ (l.drop (2 * 3)).take 3) := by
      match l, hl with
      | [a, b, c, d, e, f, g, h, i], _ => rfl
    rw [h9, show List.take 3 (List.drop (0 * 3) l) = _ from j0, show List.take 3 (List.drop (1 * 3) l) = _ from j1, show List.take 3 (List.drop (2 * 3) l) = _ from j2]
    rfl
  subst hcs
  intro j hj
  have hc := World.var?_cell gFrm hvar j
  rw [hc]
  match j, hj with
  | 0, _ => rfl
  | 1, _ => rfl
  | 2, _ => rfl
  | 3, _ => rfl
  | 4, _ => rfl
  | 5, _ => rfl
  | 6, _ => rfl
  | 7, _ => rfl
  | 8, _ => rfl
theorem fm_of (n : Int) : (∃ (B P W M E H : Nat) (low : Int), Fm B P W M E H low ∧ n = (B : Int)) ∨ (n ≠ 16 ∧ n ≠ 32 ∧ n ≠ 64) := by
  by_cases h1 : n = 16
  · exact .inl ⟨16, 11, 5, 1024, 31, 32768, -24, .inl ⟨rfl, rfl, rfl, rfl, rfl, rfl, rfl⟩, h1⟩
  · by_cases h2 : n = 32
    · exact .inl ⟨32, 24, 8, 8388608, 255, 2147483648, -149, .inr (.inl ⟨rfl, rfl, rfl, rfl, rfl, rfl, rfl⟩), h2⟩
    · by_cases h3 : n = 64
      · exact .inl ⟨64, 53, 11, 4503599627370496, 2047, 9223372036854775808, -1074, .inr (.inr ⟨rfl, rfl, rfl, rfl, rfl, rfl, rfl⟩), h3⟩
      · exact .inr ⟨h1, h2, h3⟩
theorem u64_nat {n : Int} (h : (Lit.int .u64 n).wf = true) : ∃ k : Nat, n = (k : Int) ∧ k < 18446744073709551616 := by
  simp [Lit.wf, IntKind.min, IntKind.max, IntKind.signed, IntKind.bits] at h
  exact ⟨n.toNat, by omega, by omega⟩
/-- a world for the witness: the settled one, the tables holding what their initialisers lay. -/
noncomputable def laidWorld3 (os : Os) : World :=
  { laidWorld os with heap := (laidWorld os).heap.modify 0 fun
      | .cells _ t frozen => .cells (frmL.map fun z => Value.int .i64 z).toArray t frozen
      | o => o }
end Go.Proofs.YtpachoeignpcbaaGreatDoor
