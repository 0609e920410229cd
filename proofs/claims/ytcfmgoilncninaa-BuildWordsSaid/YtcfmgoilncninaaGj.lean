
/-
  slices.Repeat of one place; net's climb.
-/
import Derived.Test.YtcfmgoilncninaaGi
import Derived.Laws.CopyOwn
import Derived.Deep.RegionLaw
namespace Go.Proofs.Ytcfmgoilncninaa
open Go.RowKit
set_option linter.unusedVariables false
set_option maxRecDepth 4000

theorem and_u64' (a b : Nat) (ha : a < 18446744073709551616) (hb : b < 18446744073709551616) : bits .and .u64 (a : Int) (b : Int) = ((a &&& b : Nat) : Int) := by
  have hx : a &&& b < 2 ^ 64 := Nat.and_lt_two_pow a (by omega)
  have h1 : ∀ a : Nat, a < 18446744073709551616 → (BitVec.ofInt 64 (a : Int)).toNat = a := fun a ha => by
    rw [BitVec.ofInt_natCast, BitVec.toNat_ofNat]; exact Nat.mod_eq_of_lt (by omega)
  show IntKind.u64.wrap ((BitVec.ofInt 64 (a : Int) &&& BitVec.ofInt 64 (b : Int)).toNat : Int) = _
  rw [BitVec.toNat_and, h1 a ha, h1 b hb, IntKind.wrap_u64]
  omega
theorem int_info : (Try.prog.info? 3).map (fun i => (i.zero, i.size, i.bytes)) = some (some (.int .i64 0), 1, 8) := by kernel_rfl
theorem int_size : (Try.prog.info? 3).map (·.size) = some 1 := by kernel_rfl
/-- a row whose first k cells are filled. -/
def filled (k n : Nat) : List Value := List.replicate k (.int .i64 (-2)) ++ List.replicate (n - k) (.int .i64 0)
theorem filled_len {k n : Nat} (h : k ≤ n) : (filled k n).length = n := by unfold filled; simp; omega
theorem filled_at {k n j : Nat} (h : j < k) : (filled k n)[j]? = some (.int .i64 (-2)) := by
  unfold filled
  rw [List.getElem?_append_left (by simpa using h), List.getElem?_replicate, if_pos h]
theorem splice_filled {k n m : Nat} (h : k + m ≤ n) : splice (filled k n) k (List.replicate m (.int .i64 (-2))) = filled (k + m) n := by
  unfold splice filled
  rw [List.take_left' (by simp), List.length_replicate, List.drop_append, List.drop_eq_nil_of_le (by simp), List.length_replicate, List.nil_append, List.drop_replicate, ← List.append_assoc, List.replicate_append_replicate]
  congr 2
  omega
theorem snoc_cases (W : List Nat) : W = [] ∨ ∃ V q, W = V ++ [q] := by
  rcases List.eq_nil_or_concat W with h | ⟨V, q, h⟩
  · exact .inl h
  · exact .inr ⟨V, q, by rw [h, List.concat_eq_append]⟩
def isM2 : Value → Bool
  | .int _ x => decide (x = -2)
  | _ => false
/-- what is left to do, as the memory has it. -/
def leftW (l g : Nat) (w : World) : Nat := 2 * (match w.heap[l]? with | some (.cells cs _ _) => cs.toList.countP isM2 | _ => 0) + (match w.cell? ⟨g, 2, none⟩ with | some (.slice _ n _) => n | _ => 0)
theorem count_ivs (lv : List Int) : (ivs lv).countP isM2 = lv.count (-2) := by
  unfold ivs
  rw [List.countP_map]
  unfold List.count
  refine List.countP_congr fun x _ => ?_
  simp [isM2]
theorem ivs_inC (lv : List Int) : ivs lv = lv.flatMap inC := by unfold ivs; induction lv with | nil => rfl | cons a L ih => simp [inC] at ih ⊢; exact ih
/-- what climb tells: levels, if all nodes have one. -/
def ClX (w : World) (n : Nat) (N : List Nd) (en : Ending) (w' : World) : Prop := (∃ l d, en = .returned (.tuple #[.slice (some ⟨l, 0, none⟩) n n, .bool true]) ∧ levS N = some d ∧ d.length = n ∧ Is w' (some ⟨l, 0, none⟩) n (d.map fun x : Nat => (x : Int)) ∧ Below w.heap.size w w') ∨ (en = .returned (.tuple #[.slice none 0 0, .bool false]) ∧ levS N = none ∧ Below w.heap.size w w')
/-- a net lies so. -/
structure Nt (w : World) (An : Option Addr) (nn cn : Nat) (Ai : Option Addr) (ni ci : Nat) (Ao : Option Addr) (no co : Nat) (N : List Nd) (I O : List Pt) : Prop where
  n : Ns w An nn N
  i : Ps w Ai ni I
  o : Ps w Ao no O
  si : Sw Ai ni ci
  so : Sw Ao no co
  hn : nn ≤ 100000
  hs : ni + no ≤ 1000
  hb : ∀ p ∈ I ++ O, p.bits.length ≤ 1000000
theorem Nt.on {w w' : World} {An Ai Ao : Option Addr} {nn cn ni ci no co : Nat} {N : List Nd} {I O : List Pt} (h : Nt w An nn cn Ai ni ci Ao no co N I O) (hb : Below w.heap.size w w') : Nt w' An nn cn Ai ni ci Ao no co N I O :=
  ⟨h.n.on hb, h.i.on hb, h.o.on hb, h.si, h.so, h.hn, h.hs, h.hb⟩
/-- the levels of a net, or why there are none. -/
noncomputable def levelS (N : List Nd) (I O : List Pt) : Option (List Nat) × Int := if wrongS N I O ≠ 0 then (none, wrongS N I O) else match levS N with | some d => (some d, 0) | none => (none, 9)
def ints (d : Option (List Nat)) : List Int := (d.getD []).map fun x : Nat => (x : Int)
/-- levels are told. -/
def LvX (w : World) (d : Option (List Nat)) (e : Int) (en : Ending) (w' : World) : Prop := ∃ A m c, en = .returned (.tuple #[.slice A m c, .int .i64 e]) ∧ Is w' A m (ints d) ∧ m ≤ c ∧ Below w.heap.size w w'
theorem wrong_form {N : List Nd} {I O : List Pt} (h : wrongS N I O = 0) : N.all (formedS N.length) = true := by
  unfold wrongS at h
  split at h
  · cases h
  · split at h
    · rename_i h2
      exact (Bool.and_eq_true_iff.1 h2).1
    · cases h
end Go.Proofs.Ytcfmgoilncninaa
