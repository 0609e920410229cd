
/-
  Plain mathematics of nat's loops: products, row by row.
-/
import Derived.Test.YthaehfdjldjdiaaDoorMath
namespace Go.Proofs.YthaehfdjldjdiaaDoor
set_option linter.unusedVariables false

theorem val_set (ds : List Nat) (j d : Nat) (hj : j < ds.length) : val (ds.set j d) + 4294967296 ^ j * ds.getD j 0 = val ds + 4294967296 ^ j * d := by
  have h1 := val_split (ds.set j d) (j + 1) (by rw [List.length_set]; omega)
  have h2 := val_split ds (j + 1) (by omega)
  rw [set_take_val ds j d hj, List.drop_set_of_lt (by omega)] at h1
  rw [take_succ_val] at h2
  omega
theorem getD_set_ne (ds : List Nat) (j i d : Nat) (h : i ≠ j) : (ds.set j d).getD i 0 = ds.getD i 0 := by
  rw [List.getD_eq_getElem?_getD, List.getD_eq_getElem?_getD, List.getElem?_set_ne (by omega)]

/-- one row, as far as k parts: ds is what was there, es what is there now. -/
structure RowInv (ds es ys : List Nat) (o t k cy : Nat) : Prop where
  len : es.length = ds.length
  dg : Dg es
  low : cy < 4294967296
  sum : val es + 4294967296 ^ (o + k) * cy = val ds + 4294967296 ^ o * (val (ys.take k) * t)
  far : ∀ j, o + k ≤ j → es.getD j 0 = ds.getD j 0
theorem RowInv.zero (ds ys : List Nat) (h : Dg ds) (o t : Nat) : RowInv ds ds ys o t 0 0 :=
  ⟨rfl, h, by omega, by simp [val], fun _ _ => rfl⟩
theorem RowInv.step {ds es ys : List Nat} {o t k cy y e d c' : Nat} (h : RowInv ds es ys o t k cy) (hk : o + k < ds.length) (hy : ys.getD k 0 = y) (he : es.getD (o + k) 0 = e) (hd : d < 4294967296) (hc' : c' < 4294967296)
    (hs : cy + (y * t + e) = d + 4294967296 * c') : RowInv ds (es.set (o + k) d) ys o t (k + 1) c' := by
  refine ⟨by rw [List.length_set, h.len], h.dg.set _ hd, hc', ?_, fun j hj => ?_⟩
  · have h1 := val_set es (o + k) d (by rw [h.len]; exact hk)
    have h2 := h.sum
    rw [he] at h1
    rw [take_succ_val, hy, show o + (k + 1) = o + k + 1 from by omega, pw_succ, Nat.add_mul, Nat.mul_add, ← Nat.add_assoc, ← h2]
    have h3 : 4294967296 ^ (o + k) * (cy + (y * t + e)) = 4294967296 ^ (o + k) * (d + 4294967296 * c') := by rw [hs]
    have h4 : 4294967296 ^ o * (4294967296 ^ k * y * t) = 4294967296 ^ (o + k) * (y * t) := by rw [Nat.pow_add]; ac_rfl
    have h5 : 4294967296 ^ (o + k) * (4294967296 * c') = 4294967296 * 4294967296 ^ (o + k) * c' := by ac_rfl
    rw [Nat.mul_add, Nat.mul_add, Nat.mul_add, h5] at h3
    rw [h4]
    omega
  · rw [getD_set_ne _ _ _ _ (by omega)]
    exact h.far j (by omega)

/-- the rows of the first i parts. -/
structure MulInv (xs ys ds : List Nat) (n i : Nat) : Prop where
  len : ds.length = n
  dg : Dg ds
  sum : val ds = val (xs.take i) * val ys
theorem MulInv.zero (xs ys : List Nat) (n : Nat) : MulInv xs ys (List.replicate n 0) n 0 :=
  ⟨by simp, Dg.replicate _, by simp [val, val_replicate]⟩
theorem MulInv.step {xs ys ds es : List Nat} {n i x cy m : Nat} (h : MulInv xs ys ds n i) (hx : xs.getD i 0 = x) (hxs : Dg xs) (hys : Dg ys) (hm : ys.length = m) (hl : i + m < n) (hr : RowInv ds es ys i x m cy) : MulInv xs ys (es.set (i + m) cy) n (i + 1) := by
  have h0 : es.getD (i + m) 0 = 0 := by
    rw [hr.far _ (Nat.le_refl _), ← val_at ds h.dg]
    have h1 := val_take_lt hxs i
    have h2 := val_lt ys hys
    rw [hm] at h2
    have h3 : val ds < 4294967296 ^ (i + m) := by
      rw [h.sum, Nat.pow_add]
      exact Nat.mul_lt_mul'' h1 h2
    rw [Nat.div_eq_of_lt h3]
  refine ⟨by rw [List.length_set, hr.len, h.len], hr.dg.set _ hr.low, ?_⟩
  have h1 := val_set es (i + m) cy (by rw [hr.len, h.len]; exact hl)
  have h2 := hr.sum
  rw [h0] at h1
  rw [List.take_of_length_le (by omega)] at h2
  have h3 := h.sum
  rw [take_succ_val, hx, Nat.add_mul]
  have h4 : 4294967296 ^ i * (val ys * x) = 4294967296 ^ i * x * val ys := by ac_rfl
  omega
end Go.Proofs.YthaehfdjldjdiaaDoor
