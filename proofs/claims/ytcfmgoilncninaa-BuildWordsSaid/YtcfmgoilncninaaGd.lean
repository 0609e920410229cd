
/-
  net: names, bits of ports.
-/
import Derived.Test.YtcfmgoilncninaaGc
namespace Go.Proofs.Ytcfmgoilncninaa
open Go.RowKit
set_option linter.unusedVariables false
set_option maxRecDepth 4000

def letterS (c : Int) : Bool := decide (97 ≤ c) && decide (c ≤ 122)
def digitS (c : Int) : Bool := decide (48 ≤ c) && decide (c ≤ 57)
/-- a letter of a text. -/
def byS (s : ByteArray) (j : Nat) : Int := if h : j < s.size then (s[j].toNat : Int) else 0
theorem byS_at {s : ByteArray} {j : Nat} (h : j < s.size) : byS s j = (s[j].toNat : Int) := dif_pos h
def otherS (c : Int) : Bool := digitS c || c == 95
def okS (s : ByteArray) (j : Nat) : Bool := letterS (byS s j) || otherS (byS s j)
def resS (s : ByteArray) : Bool := s.toList == [109, 111, 100, 117, 108, 101] || s.toList == [101, 110, 100, 109, 111, 100, 117, 108, 101] || s.toList == [105, 110, 112, 117, 116] || s.toList == [111, 117, 116, 112, 117, 116] || s.toList == [119, 105, 114, 101] || s.toList == [97, 115, 115, 105, 103, 110] || s.toList == [99, 108, 107] || s.toList == [114, 115, 116]
def nameS (s : ByteArray) : Bool := (decide (0 < s.size) && decide (s.size ≤ 20)) && (letterS (byS s 0) && ((List.range s.size).all (okS s) && !resS s))
theorem range_snoc {p : Nat → Bool} {j : Nat} (h : (List.range j).all p = true) (hx : p j = true) : (List.range (j + 1)).all p = true := by
  rw [List.range_succ, List.all_append, h]
  simp [hx]
theorem range_not {p : Nat → Bool} {j n : Nat} (hj : j < n) (hx : p j = false) : (List.range n).all p = false := by
  rw [List.all_eq_false]
  exact ⟨j, List.mem_range.2 hj, by rw [hx]; decide⟩
theorem Ps.at {w : World} {A : Option Addr} {n : Nat} {L : List Pt} (h : Ps w A n L) {k : Nat} (hk : k < n) : ∃ b off nm A' m c' bs, A = some ⟨b, off, none⟩ ∧ Hid (L[k]? = some ⟨nm, bs⟩) ∧ w.cell? ⟨b, off + k * 2, none⟩ = some (.string nm) ∧ w.cell? ⟨b, off + k * 2 + 1, none⟩ = some (.slice A' m c') ∧ Is w A' m bs := by
  obtain ⟨⟨nm, bs⟩, hx⟩ := look_ex h.1 hk
  obtain ⟨b, off, A', m, c, h1, h2, h3, h4, h5, h6, h7⟩ := h.2 k _ hx
  exact ⟨b, off, nm, A', m, c, bs, h1, Lib.hid hx, h3, h4, h7⟩
def bitsS (n : Int) (p : Pt) : Bool := decide (p.bits ≠ []) && p.bits.all (placeS n)
theorem Is.at {w : World} {A : Option Addr} {n : Nat} {L : List Int} (h : Is w A n L) {k : Nat} (hk : k < n) : ∃ b off x, A = some ⟨b, off, none⟩ ∧ Hid (L[k]? = some x) ∧ w.cell? ⟨b, off + k, none⟩ = some (.int .i64 x) := by
  obtain ⟨x, hx⟩ := look_ex h.1 hk
  obtain ⟨b, off, h1, h2, h3⟩ := h.2 k _ hx
  exact ⟨b, off, x, h1, Lib.hid hx, h3⟩
end Go.Proofs.Ytcfmgoilncninaa
