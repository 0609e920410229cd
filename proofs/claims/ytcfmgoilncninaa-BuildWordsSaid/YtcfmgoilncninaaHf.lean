
/-
  sim: values.
-/
import Derived.Test.YtcfmgoilncninaaHe
namespace Go.Proofs.Ytcfmgoilncninaa
open Go.RowKit
set_option linter.unusedVariables false
set_option maxRecDepth 4000

/-- the values as they are being found. -/
structure Vx (w0 : World) (sV : Nat) (A : Option Addr) (n c : Nat) (vv : List Int) (w : World) : Prop where
  bw : Below w0.heap.size w0 w
  z : Bx w sV [.slice A n c]
  row : w.ownsRow w0.heap.size 5 1 (.slice A n c) n (by8 vv)
  ne : ∀ b off, A = some ⟨b, off, none⟩ → b ≠ sV
section
variable {w0 w w' : World} {sV n c : Nat} {A : Option Addr} {vv : List Int}
theorem Vx.on (h : Vx w0 sV A n c vv w) (hb : Below w.heap.size w w') : Vx w0 sV A n c vv w' := ⟨Below.step h.bw hb, h.z.on hb, row_on h.row hb, h.ne⟩
theorem Vx.len (h : Vx w0 sV A n c vv w) : vv.length = n := by have := h.row.1; rwa [Nat.mul_one, by8_len] at this
theorem Vx.sw (h : Vx w0 sV A n c vv w) : Sw A n c := by
  obtain ⟨A', c', e, s, _⟩ := row_rw h.row
  cases e
  exact s
theorem Vx.rw_ (h : Vx w0 sV A n c vv w) : Rw w A n (by8 vv) ∧ ∀ b off, A = some ⟨b, off, none⟩ → w0.heap.size ≤ b ∧ off = 0 := by
  obtain ⟨A', c', e, s, h1, h2⟩ := row_rw h.row
  cases e
  exact ⟨h2, h1⟩
theorem Vx.at (h : Vx w0 sV A n c vv w) {q : Nat} (hq : q < n) : ∃ gg, A = some ⟨gg, 0, none⟩ ∧ w0.heap.size ≤ gg ∧ gg ≠ sV := by
  obtain ⟨h1, h2⟩ := h.rw_
  obtain ⟨b, off, x, e, _⟩ := h1.b8 hq
  obtain ⟨h3, h4⟩ := h2 b off e
  subst h4
  exact ⟨b, e, h3, h.ne b 0 e⟩
theorem Vx.put {gg : Nat} (h : Vx w0 sV (some ⟨gg, 0, none⟩) n c vv w) (q : Nat) (y : Int) : Vx w0 sV (some ⟨gg, 0, none⟩) n c (vv.set q y) (w.setCell ⟨gg, q, none⟩ (.int .u8 y)) := by
  have h1 := (h.rw_.2 gg 0 rfl).1
  have h2 := h.ne gg 0 rfl
  have hs := (h.row.stored q (.int .u8 y)).1
  rw [by8_set] at hs
  exact ⟨h.bw.setCell h1 _, h.z.apart h2.symm q _, hs, h.ne⟩
theorem Vx.drew (h : Vx w0 sV A n c vv w) : Vx w0 sV A n c vv w.drew := h.on (Below.refl _ _).drew
/-- what a drawn store reads. -/
theorem Vx.s {gg : Nat} (h : Vx w0 sV (some ⟨gg, 0, none⟩) n c vv w) {q : Nat} (hq : q < n) : w.cell? ⟨sV, 0, none⟩ = some (.slice (some ⟨gg, 0, none⟩) n c) ∧ w.cell? ⟨gg, q, none⟩ = some (valAt w gg q) ∧ w.frozen? ⟨gg, q, none⟩ = false := by
  refine ⟨h.z.2 0 _ rfl, ?_, h.row.frozenAt q⟩
  obtain ⟨b, off, x, e, _, hc⟩ := h.rw_.1.b8 hq
  cases e
  rw [Nat.zero_add] at hc
  exact valAt_of hc
end
theorem set_in (I : List Pt) (xs : List Nat) (v : List Int) (i : Nat) {p : Pt} {x : Nat} (hp : I[i]? = some p) (hx : xs[i]? = some x) : setS p.bits x (insS I xs v i) p.bits.length = insS I xs v (i + 1) := by
  rw [insS, getD_of hp, getD_of hx]
end Go.Proofs.Ytcfmgoilncninaa
