/-
  What the proofs of OptSweeps and OptSettles need: Wk Wt.
-/
import Derived.Test.YtcehklnonhalhaaSOWb
import Derived.Test.YtcehklnonhalhaaSOWj
import Derived.Test.YtcehklnonhalhaaSOWa
import Derived.Test.YtcehklnonhalhaaSOGbq
import Derived.Deep.QuietTactic
import Derived.BigQuiet
import Derived.Test.YtcehklnonhalhaaSOGk
namespace Go.Proofs.Ytcehklnonhalhaa
open Go.RowKit
set_option linter.unusedVariables false
set_option maxRecDepth 4000

/-- a node at the new places of those it uses. -/
def mvN (P : List Int) (x : Nd) : Nd := if x.k = 2 ∨ x.k = 7 then ⟨x.k, sA P x.a, x.b, x.c⟩ else if x.k = 3 ∨ x.k = 4 ∨ x.k = 5 then ⟨x.k, sA P x.a, sA P x.b, x.c⟩ else if x.k = 6 then ⟨x.k, sA P x.a, sA P x.b, sA P x.c⟩ else x
theorem sA_nat (P : List Int) (m : Nat) : sA P (m : Int) = P.getD m 0 := by unfold sA; rw [Int.toNat_natCast]
theorem smoved_as {w : World} {Ap : Option Addr} {n cp : Nat} {P : List Int} (hP : Is w Ap n P) {x y : Nd} (hx : Plc n (usesS x)) (hy : mvN P x = y) : Calls Try.prog 54 #[ndA x, .slice Ap n cp] w fun e w' => e = .returned (ndA y) ∧ Below w.heap.size w w' := by
  subst hy
  obtain ⟨k, a, b, c⟩ := x
  by_cases e2 : k = 2
  · subst e2
    obtain ⟨m, rfl, hm⟩ := hx a (List.mem_singleton.2 rfl)
    obtain ⟨b0, off, e, i⟩ := hP.iat hm
    subst e
    have e : mvN P ⟨2, (m : Int), b, c⟩ = ⟨2, P.getD m 0, b, c⟩ := by unfold mvN; rw [if_pos (by simp), sA_nat]
    rw [e]
    exact moved_2 m b c _ hm i
  by_cases e7 : k = 7
  · subst e7
    obtain ⟨m, rfl, hm⟩ := hx a (List.mem_singleton.2 rfl)
    obtain ⟨b0, off, e, i⟩ := hP.iat hm
    subst e
    have e : mvN P ⟨7, (m : Int), b, c⟩ = ⟨7, P.getD m 0, b, c⟩ := by unfold mvN; rw [if_pos (by simp), sA_nat]
    rw [e]
    exact moved_7 m b c _ hm i
  by_cases e3 : k = 3
  · subst e3
    obtain ⟨m, rfl, hm⟩ := hx a (by simp [usesS, manyS])
    obtain ⟨m2, rfl, hm2⟩ := hx b (by simp [usesS, manyS])
    obtain ⟨b0, off, e, i⟩ := hP.iat hm
    subst e
    obtain ⟨b1, off1, e, i2⟩ := hP.iat hm2
    injection e with e
    injection e with ea eb
    subst ea eb
    have e : mvN P ⟨3, (m : Int), (m2 : Int), c⟩ = ⟨3, P.getD m 0, P.getD m2 0, c⟩ := by unfold mvN; rw [if_neg (by simp), if_pos (by simp), sA_nat, sA_nat]
    rw [e]
    exact moved_3 m m2 c _ _ hm i hm2 i2
  by_cases e4 : k = 4
  · subst e4
    obtain ⟨m, rfl, hm⟩ := hx a (by simp [usesS, manyS])
    obtain ⟨m2, rfl, hm2⟩ := hx b (by simp [usesS, manyS])
    obtain ⟨b0, off, e, i⟩ := hP.iat hm
    subst e
    obtain ⟨b1, off1, e, i2⟩ := hP.iat hm2
    injection e with e
    injection e with ea eb
    subst ea eb
    have e : mvN P ⟨4, (m : Int), (m2 : Int), c⟩ = ⟨4, P.getD m 0, P.getD m2 0, c⟩ := by unfold mvN; rw [if_neg (by simp), if_pos (by simp), sA_nat, sA_nat]
    rw [e]
    exact moved_4 m m2 c _ _ hm i hm2 i2
  by_cases e5 : k = 5
  · subst e5
    obtain ⟨m, rfl, hm⟩ := hx a (by simp [usesS, manyS])
    obtain ⟨m2, rfl, hm2⟩ := hx b (by simp [usesS, manyS])
    obtain ⟨b0, off, e, i⟩ := hP.iat hm
    subst e
    obtain ⟨b1, off1, e, i2⟩ := hP.iat hm2
    injection e with e
    injection e with ea eb
    subst ea eb
    have e : mvN P ⟨5, (m : Int), (m2 : Int), c⟩ = ⟨5, P.getD m 0, P.getD m2 0, c⟩ := by unfold mvN; rw [if_neg (by simp), if_pos (by simp), sA_nat, sA_nat]
    rw [e]
    exact moved_5 m m2 c _ _ hm i hm2 i2
  by_cases e6 : k = 6
  · subst e6
    obtain ⟨m, rfl, hm⟩ := hx a (by simp [usesS, manyS])
    obtain ⟨m2, rfl, hm2⟩ := hx b (by simp [usesS, manyS])
    obtain ⟨b0, off, e, i⟩ := hP.iat hm
    subst e
    obtain ⟨b1, off1, e, i2⟩ := hP.iat hm2
    injection e with e
    injection e with ea eb
    subst ea eb
    obtain ⟨m3, rfl, hm3⟩ := hx c (by simp [usesS, manyS])
    obtain ⟨b2, off2, e, i3⟩ := hP.iat hm3
    injection e with e
    injection e with ea eb
    subst ea eb
    have e : mvN P ⟨6, (m : Int), (m2 : Int), (m3 : Int)⟩ = ⟨6, P.getD m 0, P.getD m2 0, P.getD m3 0⟩ := by unfold mvN; rw [if_neg (by simp), if_neg (by simp), if_pos rfl, sA_nat, sA_nat, sA_nat]
    rw [e]
    exact moved_6 m m2 m3 _ _ _ hm i hm2 i2 hm3 i3
  have e : mvN P ⟨k, a, b, c⟩ = ⟨k, a, b, c⟩ := by
    unfold mvN
    rw [if_neg (by rintro (h | h) <;> contradiction), if_neg (by rintro (h | h | h) <;> contradiction), if_neg e6]
  rw [e]
  exact moved_n a b c k (beq_ff e2) (beq_ff e7) (beq_ff e3) (beq_ff e4) (beq_ff e5) (beq_ff e6)
theorem pdx0 (A1 A2 : Option Addr) (n1 c1 n2 c2 : Nat) (w : World) : (Instr.index 91 (.agg #[.slice A1 n1 c1, .slice A2 n2 c2]) (.int .i64 0)).run Try.prog w = .ok (.slice A1 n1 c1) w := by kernel_rfl
theorem pdx1 (A1 A2 : Option Addr) (n1 c1 n2 c2 : Nat) (w : World) : (Instr.index 91 (.agg #[.slice A1 n1 c1, .slice A2 n2 c2]) (.int .i64 1)).run Try.prog w = .ok (.slice A2 n2 c2) w := by kernel_rfl
end Go.Proofs.Ytcehklnonhalhaa
namespace Go.Proofs.Ytcehklnonhalhaa
open Go.RowKit
set_option linter.unusedVariables false
set_option maxRecDepth 4000

theorem lx_plc {N : List Nd} {I O : List Pt} {dd L : List Nat} (lx : LvN N I O dd L) : Plc N.length (comesS I ++ comesS O) := by
  have := plc_ports (n := N.length) (L := I ++ O) (fun p hp => List.all_eq_true.1 lx.bits p hp)
  unfold comesS at this ⊢
  rw [List.flatMap_append] at this
  exact this
end Go.Proofs.Ytcehklnonhalhaa
