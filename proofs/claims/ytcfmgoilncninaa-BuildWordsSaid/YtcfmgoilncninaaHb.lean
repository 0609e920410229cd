
/-
  sim: isGate, number.
-/
import Derived.Test.YtcfmgoilncninaaHa
namespace Go.Proofs.Ytcfmgoilncninaa
open Go.RowKit
set_option linter.unusedVariables false
set_option maxRecDepth 4000

def isG (k : Int) : Bool := decide (k ≠ 0) && (decide (k ≠ 1) && decide (k ≠ 7))
theorem u_zero (xs : List Nat) : U xs ++ [Value.int .u32 0] = U (xs ++ [0]) := by simp [U]
theorem own_of_row {w : World} {base : Nat} {e : TypeId} {g n c : Nat} {xs : List Value} (h : w.ownsRow base e 1 (.slice (some ⟨g, 0, none⟩) n c) n xs) : base ≤ g ∧ g < w.heap.size := by
  rcases h.2 with ⟨h1, _⟩ | ⟨g', cap, cur, h1, h2, h3, _⟩
  · cases h1
  · injection h1 with h1
    injection h1 with h1
    injection h1 with h1
    subst h1
    exact ⟨h2, (Array.getElem?_eq_some_iff.1 h3).1⟩
/-- one bit more. -/
theorem num_step {xs : List Nat} {k q j : Nat} (hc : Canon xs) (hv : val xs < 2 ^ k) (hq : k / 32 = q) (hj : xs.length + j = q + 1) (d : Nat) (hd : (xs ++ List.replicate j 0).getD q 0 = d) :
    d < 2 ^ (k % 32) ∧ d ||| 2 ^ (k % 32) = d + 2 ^ (k % 32) ∧ Canon ((xs ++ List.replicate j 0).set q (d + 2 ^ (k % 32))) ∧ val ((xs ++ List.replicate j 0).set q (d + 2 ^ (k % 32))) = val xs + 2 ^ k := by
  have hdg : Dg (xs ++ List.replicate j 0) := hc.1.append (Dg.replicate j)
  have hval : val (xs ++ List.replicate j 0) = val xs := by rw [val_append, val_replicate, Nat.mul_zero, Nat.add_zero]
  have hk : 2 ^ k = 4294967296 ^ q * 2 ^ (k % 32) := by
    rw [show (4294967296 : Nat) = 2 ^ 32 by decide, ← Nat.pow_mul, ← Nat.pow_add]
    congr 1
    omega
  have hlen : (xs ++ List.replicate j 0).length = q + 1 := by simp [hj]
  have h1 : d < 2 ^ (k % 32) := by
    rw [← hd, ← val_at _ hdg q, hval]
    refine Nat.lt_of_le_of_lt (Nat.mod_le _ _) ?_
    refine (Nat.div_lt_iff_lt_mul (Nat.pow_pos (by decide))).2 ?_
    rw [Nat.mul_comm, ← hk]
    exact hv
  have hr : k % 32 < 32 := Nat.mod_lt _ (by decide)
  have h2 : d + 2 ^ (k % 32) < 4294967296 := by
    have : 2 ^ (k % 32) ≤ 2 ^ 31 := Nat.pow_le_pow_right (by decide) (by omega)
    have e : (2 : Nat) ^ 31 = 2147483648 := by decide
    omega
  have h3 : d ||| 2 ^ (k % 32) = d + 2 ^ (k % 32) := by
    have := (or_low d 1 (k % 32) hr h1).1
    rw [Nat.one_mul, Nat.mod_eq_of_lt (by omega)] at this
    exact this
  refine ⟨h1, h3, ⟨hdg.set _ h2, fun _ => ?_⟩, ?_⟩
  · rw [List.length_set, hlen, Nat.add_sub_cancel, List.getD_eq_getElem?_getD, List.getElem?_set_self (by omega)]
    show d + 2 ^ (k % 32) ≠ 0
    have := Nat.pow_pos (n := k % 32) (show 0 < 2 by decide)
    omega
  · have := val_set (xs ++ List.replicate j 0) q (d + 2 ^ (k % 32)) (by omega)
    rw [hd, hval, Nat.mul_add, ← hk] at this
    omega
theorem num_len {xs : List Nat} {k q : Nat} (hc : Canon xs) (hv : val xs < 2 ^ k) (hq : k / 32 = q) : xs.length ≤ q + 1 := by
  refine hc.len_le (Nat.lt_of_lt_of_le hv ?_)
  rw [show (4294967296 : Nat) = 2 ^ 32 by decide, ← Nat.pow_mul]
  exact Nat.pow_le_pow_right (by decide) (by omega)
def lenV : Value → Nat | .slice _ n _ => n | _ => 0
theorem Grow.at {w : World} {base : Nat} {t : TypeId} {v : Value} {vs : List Value} {n : Nat} (h : Grow w base t v vs) (hn : vs.length = n) : ∃ A c, v = .slice A n c ∧ Sw A n c ∧ (∀ b off, A = some ⟨b, off, none⟩ → base ≤ b ∧ off = 0) ∧ Rw w A n vs := by
  subst hn
  exact row_rw h
end Go.Proofs.Ytcfmgoilncninaa
