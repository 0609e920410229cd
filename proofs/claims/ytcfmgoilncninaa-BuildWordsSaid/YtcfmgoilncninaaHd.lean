
/-
  sim: Reset, State.
-/
import Derived.Test.YtcfmgoilncninaaHc
namespace Go.Proofs.Ytcfmgoilncninaa
open Go.RowKit
set_option linter.unusedVariables false
set_option maxRecDepth 4000

theorem Gb.trans {w w1 w2 : World} {r : Option Nat} (h : w.grownBy w1 r) (k : w1.grownBy w2 r) : w.grownBy w2 r :=
  ⟨k.os.trans h.os, k.tape.trans h.tape, k.output.trans h.output, Nat.le_trans h.size k.size, fun b hb hr => (k.block b (Nat.lt_of_lt_of_le hb h.size) hr).trans (h.block b hb hr)⟩
theorem Gb.below {w w1 w2 : World} {r : Option Nat} {B : Nat} (h : w.grownBy w1 r) (k : Below B w1 w2) (hB : w.heap.size ≤ B) : w.grownBy w2 r :=
  ⟨k.os.trans h.os, k.tape.trans h.tape, k.output.trans h.output, Nat.le_trans h.size k.size, fun b hb hr => (k.block b (Nat.lt_of_lt_of_le hb hB)).trans (h.block b hb hr)⟩
theorem Gb.refl (w : World) (r : Option Nat) : w.grownBy w r := ⟨rfl, rfl, rfl, Nat.le_refl _, fun _ _ _ => rfl⟩
theorem Gb.of {w w1 : World} (r : Option Nat) (b : Below w.heap.size w w1) : w.grownBy w1 r := Gb.below (Gb.refl w r) b (Nat.le_refl _)
/-- what Reset has done behind j nodes. -/
def rstL (N : List Nd) (nn j : Nat) : List Int := now0 (N.take j) ++ List.replicate (nn - j) 0
theorem rst_set {N : List Nd} {nn j : Nat} {x : Nd} (hn : N.length = nn) (hx : N[j]? = some x) : (rstL N nn j).set j (startS x) = rstL N nn (j + 1) := by
  have hj := (List.getElem?_eq_some_iff.1 hx).1
  unfold rstL now0
  rw [List.take_add_one, hx, show nn - j = (nn - (j + 1)) + 1 by omega, List.replicate_succ]
  have hl : (List.map startS (N.take j)).length = j := by simp; omega
  rw [List.set_append_right _ _ (by omega), hl, Nat.sub_self, List.set_cons_zero]
  simp
theorem rst_skip {N : List Nd} {nn j : Nat} {x : Nd} (hn : N.length = nn) (hx : N[j]? = some x) (h0 : startS x = 0) : rstL N nn j = rstL N nn (j + 1) := by
  rw [← rst_set hn hx, h0]
  unfold rstL
  have hj := (List.getElem?_eq_some_iff.1 hx).1
  have hl : (now0 (N.take j)).length = j := by simp [now0]; omega
  rw [List.set_append_right _ _ (by omega), hl, Nat.sub_self, show nn - j = (nn - (j + 1)) + 1 by omega, List.replicate_succ, List.set_cons_zero]
theorem rst_end {N : List Nd} {nn : Nat} (hn : N.length = nn) : rstL N nn nn = now0 N := by unfold rstL; rw [List.take_of_length_le (by omega)]; simp
theorem rst_0 {N : List Nd} {nn : Nat} : by8 (rstL N nn 0) = List.replicate nn (.int .u8 0) := by simp [rstL, now0, by8]
theorem formed_start {N : List Nd} {n : Int} (hf : N.all (formedS n) = true) {j : Nat} {x : Nd} (hx : N[j]? = some x) : startS x = 0 ∨ startS x = 1 := by
  have := v01_now hf (startS x) (List.mem_map.2 ⟨x, List.mem_of_getElem? hx, rfl⟩)
  exact this
theorem u8_info : (Try.prog.info? 5).map (fun i => (i.zero, i.size, i.bytes)) = some (some (.int .u8 0), 1, 1) := by kernel_rfl
theorem wrap_01 {a : Int} (h : a = 0 ∨ a = 1) : IntKind.u8.wrap a = a := by rcases h with rfl | rfl <;> rfl
end Go.Proofs.Ytcfmgoilncninaa
