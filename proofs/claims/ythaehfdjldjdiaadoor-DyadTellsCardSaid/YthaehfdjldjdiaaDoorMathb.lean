
/-
  Plain mathematics of nat's loops: sums and differences, part by part.
-/
import Derived.Test.YthaehfdjldjdiaaDoorMath
namespace Go.Proofs.YthaehfdjldjdiaaDoor
set_option linter.unusedVariables false

/-- a sum, as far as k parts. -/
structure AddInv (xs ys ds : List Nat) (n k cy : Nat) : Prop where
  len : ds.length = n + 1
  dg : Dg ds
  low : cy < 2
  sum : val (ds.take k) + 4294967296 ^ k * cy = val (xs.take k) + val (ys.take k)
theorem AddInv.zero (xs ys : List Nat) (n : Nat) : AddInv xs ys (List.replicate (n + 1) 0) n 0 0 :=
  ⟨by simp, Dg.replicate _, by omega, by simp [val]⟩
theorem AddInv.step {xs ys ds : List Nat} {n k cy x y s c' : Nat} (h : AddInv xs ys ds n k cy) (hk : k < n) (hx : xs.getD k 0 = x) (hy : ys.getD k 0 = y) (lx : x < 4294967296) (ly : y < 4294967296) (hs : s < 4294967296) (he : x + y + cy = s + 4294967296 * c') :
    AddInv xs ys (ds.set k s) n (k + 1) c' := by
  have hc := h.low
  refine ⟨by rw [List.length_set, h.len], h.dg.set k hs, by omega, ?_⟩
  rw [set_take_val ds k s (by rw [h.len]; omega), take_succ_val xs, take_succ_val ys, hx, hy, pw_succ]
  have h1 := h.sum
  have h2 : 4294967296 ^ k * (x + y + cy) = 4294967296 ^ k * (s + 4294967296 * c') := by rw [he]
  rw [Nat.mul_add, Nat.mul_add, Nat.mul_add, ← Nat.mul_assoc, Nat.mul_comm _ 4294967296] at h2
  omega
theorem AddInv.last {xs ys ds : List Nat} {n cy : Nat} (h : AddInv xs ys ds n n cy) (hx : xs.length = n) (hy : ys.length ≤ n) : val (ds.set n cy) = val xs + val ys ∧ Dg (ds.set n cy) := by
  have hc := h.low
  have h1 := set_take_val ds n cy (by rw [h.len]; omega)
  rw [List.take_of_length_le (by rw [List.length_set, h.len]; omega)] at h1
  have h2 := h.sum
  rw [List.take_of_length_le (l := xs) (by omega), List.take_of_length_le (l := ys) (by omega)] at h2
  exact ⟨by omega, h.dg.set n (by omega)⟩

/-- a difference, as far as k parts. -/
structure SubInv (xs ys ds : List Nat) (n k bw : Nat) : Prop where
  len : ds.length = n
  dg : Dg ds
  low : bw < 2
  sum : val (xs.take k) + 4294967296 ^ k * bw = val (ds.take k) + val (ys.take k)
theorem SubInv.zero (xs ys : List Nat) (n : Nat) : SubInv xs ys (List.replicate n 0) n 0 0 :=
  ⟨by simp, Dg.replicate _, by omega, by simp [val]⟩
theorem SubInv.step {xs ys ds : List Nat} {n k bw x y d b : Nat} (h : SubInv xs ys ds n k bw) (hk : k < n) (hx : xs.getD k 0 = x) (hy : ys.getD k 0 = y) (hd : d < 4294967296) (hb : b < 2) (he : x + 4294967296 * b = y + bw + d) :
    SubInv xs ys (ds.set k d) n (k + 1) b := by
  refine ⟨by rw [List.length_set, h.len], h.dg.set k hd, hb, ?_⟩
  rw [set_take_val ds k d (by rw [h.len]; omega), take_succ_val xs, take_succ_val ys, hx, hy, pw_succ]
  have h1 := h.sum
  have h2 : 4294967296 ^ k * (x + 4294967296 * b) = 4294967296 ^ k * (y + bw + d) := by rw [he]
  rw [Nat.mul_add, Nat.mul_add, Nat.mul_add, ← Nat.mul_assoc, Nat.mul_comm _ 4294967296] at h2
  omega
theorem SubInv.last {xs ys ds : List Nat} {n bw : Nat} (h : SubInv xs ys ds n n bw) (hx : xs.length = n) (hy : ys.length ≤ n) (hle : val ys ≤ val xs) : val ds + val ys = val xs := by
  have h1 := h.sum
  rw [List.take_of_length_le (l := xs) (by omega), List.take_of_length_le (l := ys) (by omega), List.take_of_length_le (l := ds) (by rw [h.len]; omega)] at h1
  have h2 := val_lt ds h.dg
  rw [h.len] at h2
  have hb := h.low
  rcases Nat.eq_zero_or_pos bw with e | e
  · rw [e] at h1; omega
  · have : bw = 1 := by omega
    rw [this] at h1; omega
end Go.Proofs.YthaehfdjldjdiaaDoor
