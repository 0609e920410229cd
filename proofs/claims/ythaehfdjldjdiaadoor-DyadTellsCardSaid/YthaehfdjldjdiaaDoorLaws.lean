
/-
  What the walks of nat lean on: make of a row of zeros; numbers as arguments and as results.
-/
import Derived.Test.YthaehfdjldjdiaaDoorCut
import Derived.Test.YthaehfdjldjdiaaDoorBits
import Derived.OwnWalk
import Derived.Laws.MakeOwn
namespace Go.Proofs.YthaehfdjldjdiaaDoor
open Go.RowKit
set_option linter.unusedVariables false

theorem made_one (z : Value) (n : Nat) : madeCells #[z] n = (List.replicate n z).toArray := by
  apply Array.ext
  · simp [madeCells]
  · intro i h1 h2
    simp [madeCells, Nat.mod_one]

/-- make([]T, n), an element being one cell whose zero is z: a new block of n zeros. -/
theorem wpList_zeros {P : Program} (w : World) {ops : Array Oper} {rest : List Oper} {o : Oper} {a : Act} {Q : Exit → Act → World → Prop}
    (hg : o.guard = none) (l c : Operand) (t : TypeId) (hop : o.op = Op.makeSlice t l c) (e : TypeId) (z : Value) (by_ : Nat)
    (h1 : P.underlying t = some (.slice e)) (h2 : (P.info? e).map (fun i => (i.zero, i.size, i.bytes)) = some (some z, 1, by_)) (hz : z.cells = #[z]) (hb : by_ ≤ 64)
    (L : Int) (n : Nat) (hl : a.eval l = .int .i64 L) (hc : a.eval c = .int .i64 L) (hL : L = (n : Int)) (hn : n ≤ 3000000)
    (hK : ∀ w', Own w' w.heap.size e (List.replicate n z) → Below w.heap.size w w' → w'.heap.size = w.heap.size + 1 → wpList P ops Q rest (a.put o.dst (.slice (some ⟨w.heap.size, 0, none⟩) n n)) w') :
    wpList P ops Q (o :: rest) a w := by
  refine wpList_plain hg fun K hK' => ?_
  obtain ⟨i, hi, i1, i2, i3⟩ := info_parts h2
  subst hL
  have hby : (i.bytes : Int) * (n : Int) ≤ 281474976710656 := by
    have : i.bytes * n ≤ 64 * 3000000 := Nat.mul_le_mul (by omega) hn
    have h : ((i.bytes * n : Nat) : Int) ≤ 281474976710656 := by omega
    rwa [Int.natCast_mul] at h
  have hrun := run_make (P := P) w t e i z h1 hi i1 .i64 .i64 n n (by omega) (by omega) hby (by omega)
  rw [Int.toNat_natCast, i2, Nat.mul_one, hz, made_one] at hrun
  unfold Oper.wp
  simp [execOp, hop, hl, hc, hrun, Result.andThen]
  exact hK' _ _ (hK _ (Own.made w e _) ((Below.refl _ _).alloc (Nat.le_refl _) _) (by simp))

theorem U_zeros (n : Nat) : List.replicate n (Value.int .u32 0) = U (List.replicate n 0) := by simp [U]

/-- The slice at A is an argument: the number x. -/
def Arg (w : World) (A : Option Addr) (n c x : Nat) : Prop := ∃ xs, NR w w.heap.size A n xs ∧ n ≤ c ∧ c ≤ maxLen ∧ val xs = x
/-- The slice at A tells the number x: no part 0 at its end. -/
def Res (w : World) (A : Option Addr) (n x : Nat) : Prop := ∃ xs, NR w w.heap.size A n xs ∧ Canon xs ∧ val xs = x

theorem Res.arg {w : World} {A : Option Addr} {n x : Nat} (h : Res w A n x) (hn : n ≤ 3000000) : Arg w A n n x := by
  obtain ⟨xs, h1, h2, h3⟩ := h
  exact ⟨xs, h1, Nat.le_refl _, by unfold maxLen; omega, h3⟩
theorem Res.on {w w' : World} {A : Option Addr} {n x : Nat} (h : Res w A n x) (hb : Below w.heap.size w w') : Res w' A n x := by
  obtain ⟨xs, h1, h2, h3⟩ := h
  exact ⟨xs, h1.on hb, h2, h3⟩
theorem Arg.on {w w' : World} {A : Option Addr} {n c x : Nat} (h : Arg w A n c x) (hb : Below w.heap.size w w') : Arg w' A n c x := by
  obtain ⟨xs, h1, h2⟩ := h
  exact ⟨xs, h1.on hb, h2⟩
theorem own_arg {w : World} {g n x : Nat} {t : TypeId} {ds : List Nat} (h : Own w g t (U ds)) (hd : Dg ds) (hl : ds.length = n) (hn : n ≤ 3000000) (hv : val ds = x) : Arg w (some ⟨g, 0, none⟩) n n x := by
  have h1 := h.nr hd
  rw [hl] at h1
  exact ⟨ds, h1, Nat.le_refl _, by unfold maxLen; omega, hv⟩
theorem Res.none_ (w : World) : Res w none 0 0 := ⟨[], ⟨⟨rfl, fun i u hu => by simp [U] at hu⟩, Dg.nil⟩, Canon.nil, rfl⟩
theorem Res.size {w : World} {A : Option Addr} {n x k : Nat} (h : Res w A n x) (hk : x < 4294967296 ^ k) : n ≤ k := by
  obtain ⟨xs, h1, h2, h3⟩ := h
  rw [← h1.len]
  exact h2.len_le (by rw [h3]; exact hk)

def CutN (w : World) (A : Option Addr) (n x : Nat) (e : Ending) (w' : World) : Prop := ∃ m, e = .returned (.slice A m m) ∧ Res w A m x ∧ m ≤ n ∧ w = w'
theorem cutN {A : Option Addr} {n c x : Nat} {w : World} (h : Arg w A n c x) :
    Calls Tryd.prog 60 #[.slice A n c] w (CutN w A n x) := by
  obtain ⟨xs, h1, h2, h3, h5⟩ := h
  refine (cut_any A n c _ xs w h1 h2 h3).mono ?_
  rintro e w' ⟨m, hm, hc, rfl, rfl⟩
  obtain ⟨c1, c2⟩ := cut_val h1.2 (by rw [h1.len]; exact hm) hc
  exact ⟨m, rfl, ⟨xs.take m, h1.take hm, c1, by rw [c2, h5]⟩, hm, rfl⟩
def BothN (w : World) (A1 A2 : Option Addr) (n1 n2 x y : Nat) (e : Ending) (w' : World) : Prop :=
  ∃ m1 m2, e = .returned (.tuple #[.slice A1 m1 m1, .slice A2 m2 m2]) ∧ Res w A1 m1 x ∧ Res w A2 m2 y ∧ m1 ≤ n1 ∧ m2 ≤ n2 ∧ w = w'
theorem bothN {A1 A2 : Option Addr} {n1 c1 n2 c2 x y : Nat} {w : World} (h1 : Arg w A1 n1 c1 x) (h2 : Arg w A2 n2 c2 y) :
    Calls Tryd.prog 59 #[.func (.func 60) #[] #[], .slice A1 n1 c1, .slice A2 n2 c2] w (BothN w A1 A2 n1 n2 x y) := by
  obtain ⟨xs, a1, a2, a3, a5⟩ := h1
  obtain ⟨ys, b1, b2, b3, b5⟩ := h2
  refine (both_any A1 A2 n1 c1 n2 c2 _ xs ys w a1 b1 a2 b2 a3 b3).mono ?_
  rintro e w' ⟨m1, m2, hm1, hm2, k1, k2, rfl, rfl⟩
  obtain ⟨p1, p2⟩ := cut_val a1.2 (by rw [a1.len]; exact hm1) k1
  obtain ⟨q1, q2⟩ := cut_val b1.2 (by rw [b1.len]; exact hm2) k2
  exact ⟨m1, m2, rfl, ⟨xs.take m1, a1.take hm1, p1, by rw [p2, a5]⟩, ⟨ys.take m2, b1.take hm2, q1, by rw [q2, b5]⟩, hm1, hm2, rfl⟩

/-- a function that answers a number, in at most k parts. -/
def NatPost (w : World) (v k : Nat) (e : Ending) (w' : World) : Prop := ∃ A n, e = .returned (.slice A n n) ∧ Res w' A n v ∧ n ≤ k ∧ Below w.heap.size w w'
/-- a function that answers a number and OK. -/
def NatOk (w : World) (v k : Nat) (e : Ending) (w' : World) : Prop := ∃ A n, e = .returned (.tuple #[.slice A n n, .int .i64 0]) ∧ Res w' A n v ∧ n ≤ k ∧ Below w.heap.size w w'
/-- a function that answers an error and nothing. -/
def NatErr (w : World) (err : Int) (e : Ending) (w' : World) : Prop := e = .returned (.tuple #[.slice none 0 0, .int .i64 err]) ∧ Below w.heap.size w w'

theorem u32_info : (Tryd.prog.info? 61).map (fun i => (i.zero, i.size, i.bytes)) = some (some (.int .u32 0), 1, 4) := by kernel_rfl
end Go.Proofs.YthaehfdjldjdiaaDoor
