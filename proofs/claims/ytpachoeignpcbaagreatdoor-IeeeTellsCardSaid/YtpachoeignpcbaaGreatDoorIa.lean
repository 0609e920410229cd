
/-
  Plain mathematics of sums and products of a format's bits: what is told, by classes and exact numbers.
-/
import Derived.Test.YtpachoeignpcbaaGreatDoorRM
namespace Go.Proofs.YtpachoeignpcbaaGreatDoor
open Go.RowKit
set_option linter.unusedVariables false

/-- of bits: is it no number, a signalling one, infinite, a zero, of sign 1? -/
def nanB (M E b : Nat) : Bool := decide (4 ≤ clsS M E b)
def sigB (M E b : Nat) : Bool := decide (clsS M E b = 5)
def infB (M E b : Nat) : Bool := decide (clsS M E b = 3)
def zerB (M E b : Nat) : Bool := decide (clsS M E b = 0)
def ngB (H b : Nat) : Bool := decide (b / H % 2 = 1)
/-- bits of the other sign. -/
def trnS (H b : Nat) : Nat := sgn H (!ngB H b) (b % H)
/-- the error of a mode and operands. -/
def wrongS (H : Nat) (mode : Int) (L : List Nat) : Int := if mode < 0 ∨ 4 < mode then 1 else if L.all (fun b => decide (b < 2 * H)) then 0 else 3
/-- of operands of which one is no number. -/
def nonStep (M E H : Nat) (s : Nat × Int × Bool) (b : Nat) : Nat × Int × Bool :=
  (if nanB M E b && !s.2.2 then qtS M H b else s.1, if sigB M E b then 16 else s.2.1, s.2.2 || nanB M E b)
def nonS (M E H : Nat) (L : List Nat) : Nat × Int × Bool := L.foldl (nonStep M E H) (0, 0, false)
theorem nonS_snoc (M E H : Nat) (L : List Nat) (b : Nat) : nonS M E H (L ++ [b]) = nonStep M E H (nonS M E H L) b := by
  unfold nonS; rw [List.foldl_append]; rfl
/-- an infinite one and a zero. -/
def vainB (M E a b : Nat) : Bool := (infB M E a && zerB M E b) || (zerB M E a && infB M E b)
/-- one of those that are put together. -/
structure Tm where
  neg : Bool
  inf : Bool
  d : D
def tmS (M E H : Nat) (low : Int) (b : Nat) : Tm := ⟨ngB H b, infB M E b, (valS M E H low b).1⟩
def ntS (mode : Int) (x y : Bool) : Bool := if x = y then x else decide (mode = 2)
def bitsS (P M E H : Nat) (low : Int) (mode : Int) (x : Tm) : Nat × Int × Int := if x.inf then (sgn H x.neg (M * E), 0, 0) else roundS P M E H low mode x.d x.neg
def sumT (P M E H : Nat) (low : Int) (mode : Int) (x y : Tm) : Nat × Int × Int :=
  if x.inf && y.inf && (x.neg != y.neg) then (M * E + M / 2, 16, 0) else if x.inf then bitsS P M E H low mode x else if y.inf then bitsS P M E H low mode y
  else bitsS P M E H low mode ⟨ntS mode x.neg y.neg, false, x.d.add y.d⟩
def prodT (x y : Tm) : Tm := ⟨x.neg != y.neg, x.inf || y.inf, x.d.mul y.d⟩
def addI (P M E H : Nat) (low : Int) (mode : Int) (a b : Nat) : Nat × Int × Int :=
  if wrongS H mode [a, b] ≠ 0 then (0, 0, wrongS H mode [a, b]) else if (nonS M E H [a, b]).2.2 then ((nonS M E H [a, b]).1, (nonS M E H [a, b]).2.1, 0)
  else sumT P M E H low mode (tmS M E H low a) (tmS M E H low b)
def subI (P M E H : Nat) (low : Int) (mode : Int) (a b : Nat) : Nat × Int × Int := addI P M E H low mode a (if decide (b < 2 * H) && !nanB M E b then trnS H b else b)
def mulI (P M E H : Nat) (low : Int) (mode : Int) (a b : Nat) : Nat × Int × Int :=
  if wrongS H mode [a, b] ≠ 0 then (0, 0, wrongS H mode [a, b]) else if (nonS M E H [a, b]).2.2 then ((nonS M E H [a, b]).1, (nonS M E H [a, b]).2.1, 0)
  else if vainB M E a b then (M * E + M / 2, 16, 0) else bitsS P M E H low mode (prodT (tmS M E H low a) (tmS M E H low b))
def fmaI (P M E H : Nat) (low : Int) (mode : Int) (a b c : Nat) : Nat × Int × Int :=
  if wrongS H mode [a, b, c] ≠ 0 then (0, 0, wrongS H mode [a, b, c]) else if (nonS M E H [a, b, c]).2.2 then ((nonS M E H [a, b, c]).1, if vainB M E a b then 16 else (nonS M E H [a, b, c]).2.1, 0)
  else if vainB M E a b then (M * E + M / 2, 16, 0) else sumT P M E H low mode (prodT (tmS M E H low a) (tmS M E H low b)) (tmS M E H low c)

section
variable {B P W M E H : Nat} {low : Int}
theorem wrongS_ok {mode : Int} {L : List Nat} (h : wrongS H mode L = 0) : (0 ≤ mode ∧ mode ≤ 4) ∧ ∀ b ∈ L, b < 2 * H := by
  unfold wrongS at h
  split at h
  · cases h
  · rename_i h1
    split at h
    · rename_i h2
      refine ⟨by omega, fun b hb => ?_⟩
      have := (List.all_eq_true.1 h2) b hb
      exact of_decide_eq_true this
    · cases h
theorem wrongS_is {mode : Int} {L : List Nat} (hm : 0 ≤ mode ∧ mode ≤ 4) (h : ∀ b ∈ L, b < 2 * H) : wrongS H mode L = 0 := by
  unfold wrongS
  rw [if_neg (by omega), if_pos (List.all_eq_true.2 fun b hb => decide_eq_true (h b hb))]
theorem cls_bd (M E b : Nat) : 0 ≤ clsS M E b ∧ clsS M E b ≤ 5 := by
  unfold clsS
  repeat' split
  all_goals omega
/-- bits of a number are finite or infinite. -/
theorem cls_fin (hf : Fm B P W M E H low) (b : Nat) : (clsS M E b ≤ 2 ↔ b / M % (E + 1) ≠ E) := by
  obtain ⟨b1, b2, b3, b4, b5, b6, b7, b8, b9, b10, b11, b12, b13, b14, b15⟩ := hf.bd
  by_cases h : b / M % (E + 1) = E
  · have := cls_inf (M := M) (b := b) h (by omega)
    omega
  · by_cases h0 : b / M % (E + 1) = 0
    · have := cls_sub (M := M) (E := E) (b := b) h0
      omega
    · have := cls_norm (M := M) (E := E) (b := b) h0 h
      omega
/-- the number of finite bits: may be taken, lies so. -/
theorem val_fin (hf : Fm B P W M E H low) {b : Nat} (hb : b < 2 * H) (hc : clsS M E b ≤ 2) : valS M E H low b = (D.pl ⟨ngB H b, valN M E b, valP M E low b⟩, 0) := by
  unfold valS ngB
  rw [if_pos hb, if_neg ((cls_fin hf b).1 hc)]
theorem val_non (hf : Fm B P W M E H low) {b : Nat} (hc : ¬ clsS M E b ≤ 2) : (valS M E H low b).1 = ⟨false, 0, 0⟩ := by
  have h : b / M % (E + 1) = E := by
    refine Classical.byContradiction fun h => hc ((cls_fin hf b).2 h)
  unfold valS
  rw [if_pos h]
  split <;> rfl
theorem val_in (hf : Fm B P W M E H low) (b : Nat) : (valS M E H low b).1.may = true ∧ (valS M E H low b).1.inn (-1074) 1024 53 ∧ -1074 ≤ (valS M E H low b).1.e ∧ (valS M E H low b).1.plain ∧ blen (valS M E H low b).1.x ≤ 53 := by
  obtain ⟨b1, b2, b3, b4, b5, b6, b7, b8, b9, b10, b11, b12, b13, b14, b15⟩ := hf.bd
  have hz : D.may ⟨false, 0, 0⟩ = true ∧ D.inn (-1074) 1024 53 ⟨false, 0, 0⟩ ∧ (-1074 : Int) ≤ (⟨false, 0, 0⟩ : D).e ∧ D.plain ⟨false, 0, 0⟩ ∧ blen (⟨false, 0, 0⟩ : D).x ≤ 53 :=
    ⟨(D.may_iff _).2 ⟨by show blen 0 ≤ 4096; rw [blen_zero]; omega, by show (-8192 : Int) ≤ 0; omega, by show (0 : Int) ≤ 8192; omega⟩, fun h => absurd rfl h, by show (-1074 : Int) ≤ 0; omega, D.plain_zero, by show blen 0 ≤ 53; rw [blen_zero]; omega⟩
  by_cases hb : b < 2 * H
  · by_cases hc : clsS M E b ≤ 2
    · rw [val_fin hf hb hc]
      have hm := (val_may hf b (ngB H b)).2
      have hn := valN_lt hf b
      have hN : blen (valN M E b) ≤ P := blen_lt_pow (by rw [show P = P - 1 + 1 by omega, Nat.pow_succ, hf.pP]; omega)
      have hx := (cls_fin hf b).1 hc
      have hx2 : b / M % (E + 1) < E + 1 := Nat.mod_lt _ (by omega)
      obtain ⟨p1, p2⟩ := valP_bd hf b
      have hP : valP M E low b + (P : Int) ≤ 1024 := by
        unfold valP
        rcases hf with ⟨rfl, rfl, rfl, rfl, rfl, rfl, rfl⟩ | ⟨rfl, rfl, rfl, rfl, rfl, rfl, rfl⟩ | ⟨rfl, rfl, rfl, rfl, rfl, rfl, rfl⟩ <;> split <;> omega
      have hi : (⟨ngB H b, valN M E b, valP M E low b⟩ : D).inn (-1074) 1024 53 := fun _ => ⟨p1, by show (blen (valN M E b) : Int) + valP M E low b ≤ 1024; omega, by show blen (valN M E b) ≤ 53; omega⟩
      have hj := inn_pl hi
      refine ⟨hm, hj, D.pl_low p1 (by omega), D.pl_plain _, ?_⟩
      by_cases h0 : (D.pl ⟨ngB H b, valN M E b, valP M E low b⟩).x = 0
      · rw [h0, blen_zero]; omega
      · exact (hj h0).2.2
    · rw [val_non hf hc]; exact hz
  · have : (valS M E H low b).1 = ⟨false, 0, 0⟩ := by unfold valS; rw [if_neg hb]
    rw [this]; exact hz
end
end Go.Proofs.YtpachoeignpcbaaGreatDoor
