
/-
  Plain mathematics of nat's loops: shifts.
-/
import Derived.Test.YthaehfdjldjdiaaDoorMathc
namespace Go.Proofs.YthaehfdjldjdiaaDoor
set_option linter.unusedVariables false

/-- shifted to the left, as far as i parts. -/
structure LeftInv (xs ds : List Nat) (n q r i : Nat) : Prop where
  len : ds.length = n
  dg : Dg ds
  sum : val ds = 4294967296 ^ q * (2 ^ r * val (xs.take i))
theorem LeftInv.zero (xs : List Nat) (n q r : Nat) : LeftInv xs (List.replicate n 0) n q r 0 :=
  ⟨by simp, Dg.replicate _, by simp [val, val_replicate]⟩

theorem or_low (e x r : Nat) (hr : r < 32) (he : e < 2 ^ r) : e ||| (x * 2 ^ r % 4294967296) = e + x * 2 ^ r % 4294967296 ∧ e + x * 2 ^ r % 4294967296 < 4294967296 := by
  obtain ⟨d, hd⟩ : ∃ d, 32 = r + d := ⟨32 - r, by omega⟩
  have e3 : (4294967296 : Nat) = 2 ^ r * 2 ^ d := by rw [← Nat.pow_add, ← hd]
  have e4 : x * 2 ^ r % 4294967296 = 2 ^ r * (x % 2 ^ d) := by rw [e3, Nat.mul_comm x, Nat.mul_mod_mul_left]
  rw [e4]
  constructor
  · rw [Nat.or_comm, ← Nat.two_pow_add_eq_or_of_lt he, Nat.add_comm]
  · have h1 : x % 2 ^ d < 2 ^ d := Nat.mod_lt _ (Nat.two_pow_pos d)
    have h2 : 2 ^ r * (x % 2 ^ d + 1) ≤ 2 ^ r * 2 ^ d := Nat.mul_le_mul_left _ h1
    rw [Nat.mul_add, Nat.mul_one, ← e3] at h2
    omega

theorem LeftInv.old {xs ds : List Nat} {n q r i : Nat} (h : LeftInv xs ds n q r i) (hx : Dg xs) (hr : r < 32) : ds.getD (q + i) 0 < 2 ^ r ∧ ds.getD (q + i + 1) 0 = 0 := by
  have h1 := val_take_lt hx i
  have hp := Nat.two_pow_pos r
  have h2 : 2 ^ r * val (xs.take i) < 2 ^ r * 4294967296 ^ i := Nat.mul_lt_mul_of_pos_left h1 hp
  have h3 : 2 ^ r ≤ 4294967296 := by
    have : 2 ^ r ≤ 2 ^ 32 := Nat.pow_le_pow_right (by omega) (by omega)
    omega
  constructor
  · rw [← val_at ds h.dg, h.sum, Nat.pow_add, ← Nat.div_div_eq_div_mul, Nat.mul_div_cancel_left _ (pw_pos q)]
    have h4 : 2 ^ r * val (xs.take i) / 4294967296 ^ i < 2 ^ r := by
      rw [Nat.div_lt_iff_lt_mul (pw_pos i)]
      exact h2
    exact Nat.lt_of_le_of_lt (Nat.mod_le _ _) h4
  · rw [← val_at ds h.dg, h.sum]
    have h4 : 4294967296 ^ q * (2 ^ r * val (xs.take i)) < 4294967296 ^ (q + i + 1) := by
      rw [show q + i + 1 = q + (i + 1) from by omega, Nat.pow_add, pw_succ]
      refine Nat.mul_lt_mul_of_pos_left ?_ (pw_pos q)
      have : 2 ^ r * 4294967296 ^ i ≤ 4294967296 * 4294967296 ^ i := Nat.mul_le_mul_right _ h3
      omega
    rw [Nat.div_eq_of_lt h4]

theorem LeftInv.step {xs ds : List Nat} {n q r i x e : Nat} (h : LeftInv xs ds n q r i) (hx : Dg xs) (hr : r < 32) (hi : q + i + 1 < n) (hxi : xs.getD i 0 = x) (lx : x < 4294967296) (he : ds.getD (q + i) 0 = e) :
    LeftInv xs ((ds.set (q + i) (e + x * 2 ^ r % 4294967296)).set (q + i + 1) (x * 2 ^ r / 4294967296)) n q r (i + 1) := by
  obtain ⟨o1, o2⟩ := h.old hx hr
  rw [he] at o1
  obtain ⟨_, p2⟩ := or_low e x r hr o1
  have h3 : 2 ^ r ≤ 4294967296 := by
    have : 2 ^ r ≤ 2 ^ 32 := Nat.pow_le_pow_right (by omega) (by omega)
    omega
  have h4 : x * 2 ^ r / 4294967296 < 4294967296 := by
    rw [Nat.div_lt_iff_lt_mul (by omega)]
    have : x * 2 ^ r ≤ 4294967295 * 4294967296 := Nat.mul_le_mul (by omega) h3
    omega
  refine ⟨by rw [List.length_set, List.length_set, h.len], (h.dg.set _ p2).set _ h4, ?_⟩
  have v1 := val_set ds (q + i) (e + x * 2 ^ r % 4294967296) (by rw [h.len]; omega)
  have v2 := val_set (ds.set (q + i) (e + x * 2 ^ r % 4294967296)) (q + i + 1) (x * 2 ^ r / 4294967296) (by rw [List.length_set, h.len]; omega)
  rw [getD_set_ne _ _ _ _ (by omega), o2] at v2
  rw [he] at v1
  have h5 := h.sum
  rw [take_succ_val, hxi]
  have h6 : 4294967296 ^ q * (2 ^ r * (val (xs.take i) + 4294967296 ^ i * x)) = 4294967296 ^ q * (2 ^ r * val (xs.take i)) + 4294967296 ^ (q + i) * (x * 2 ^ r) := by
    rw [Nat.mul_add, Nat.mul_add, Nat.pow_add]
    congr 1
    ac_rfl
  rw [h6, ← h5]
  have h7 : 4294967296 ^ (q + i) * (x * 2 ^ r) = 4294967296 ^ (q + i) * (x * 2 ^ r % 4294967296) + 4294967296 ^ (q + i + 1) * (x * 2 ^ r / 4294967296) := by
    rw [pw_succ, Nat.mul_comm 4294967296, Nat.mul_assoc, ← Nat.mul_add]
    congr 1
    omega
  rw [Nat.mul_add] at v1
  omega

/-- shifted to the right: a part. -/
theorem right_at (xs : List Nat) (h : Dg xs) (q r i a b : Nat) (hr : r < 32) (ha : xs.getD (q + i) 0 = a) (hb : xs.getD (q + i + 1) 0 = b) :
    val xs / 2 ^ (32 * q + r) / 4294967296 ^ i % 4294967296 = (b * 4294967296 + a) / 2 ^ r % 4294967296 := by
  have e1 : val xs / 2 ^ (32 * q + r) / 4294967296 ^ i = val xs / 4294967296 ^ (q + i) / 2 ^ r := by
    rw [Nat.pow_add 2, ← pw_two, Nat.pow_add, Nat.div_div_eq_div_mul, Nat.div_div_eq_div_mul]
    congr 1
    ac_rfl
  have ha' := val_at xs h (q + i)
  have hb' := val_at xs h (q + i + 1)
  rw [pw_succ, Nat.mul_comm, ← Nat.div_div_eq_div_mul, hb] at hb'
  rw [ha] at ha'
  rw [e1]
  generalize val xs / 4294967296 ^ (q + i) = y at *
  obtain ⟨d, hd⟩ : ∃ d, 32 = r + d := ⟨32 - r, by omega⟩
  have e3 : (4294967296 : Nat) = 2 ^ r * 2 ^ d := by rw [← Nat.pow_add, ← hd]
  have e4 : y = y / 4294967296 / 4294967296 * (4294967296 * 4294967296) + (b * 4294967296 + a) := by omega
  rw [e4]
  generalize y / 4294967296 / 4294967296 = z
  have e5 : z * (4294967296 * 4294967296) = 2 ^ r * (z * 4294967296 * 2 ^ d) := by
    rw [show z * (4294967296 * 4294967296) = 4294967296 * (z * 4294967296) by ac_rfl]
    conv => lhs; lhs; rw [e3]
    ac_rfl
  rw [e5, Nat.mul_add_div (Nat.two_pow_pos r), show z * 4294967296 * 2 ^ d = z * 2 ^ d * 4294967296 by ac_rfl, Nat.mul_comm (z * 2 ^ d), Nat.mul_add_mod]

theorem val_build : ∀ (ds : List Nat) (x : Nat), (∀ i, i < ds.length → ds.getD i 0 = x / 4294967296 ^ i % 4294967296) → val ds = x % 4294967296 ^ ds.length
  | [], x, _ => by simp [val, Nat.mod_one]
  | d :: ds, x, h => by
    have h0 := h 0 (by simp)
    simp only [List.getD_cons_zero, Nat.pow_zero, Nat.div_one] at h0
    have h1 := val_build ds (x / 4294967296) (fun i hi => by
      have := h (i + 1) (by simpa using hi)
      rw [List.getD_cons_succ, pw_succ, ← Nat.div_div_eq_div_mul] at this
      exact this)
    simp only [val, List.length_cons, h0, h1]
    rw [pw_succ, Nat.mod_mul]

/-- shifted to the right, as far as i parts. -/
structure RightInv (ds : List Nat) (n y i : Nat) : Prop where
  len : ds.length = n
  dg : Dg ds
  at_ : ∀ j, j < i → ds.getD j 0 = y / 4294967296 ^ j % 4294967296
theorem RightInv.zero (n y : Nat) : RightInv (List.replicate n 0) n y 0 := ⟨by simp, Dg.replicate _, fun j hj => by omega⟩
theorem getD_set_self (ds : List Nat) (j d : Nat) (h : j < ds.length) : (ds.set j d).getD j 0 = d := by
  rw [List.getD_eq_getElem?_getD, List.getElem?_set_self (by omega)]; rfl
theorem RightInv.step {ds : List Nat} {n y i d : Nat} (h : RightInv ds n y i) (hi : i < n) (hd : y / 4294967296 ^ i % 4294967296 = d) : RightInv (ds.set i d) n y (i + 1) :=
  ⟨by rw [List.length_set, h.len], h.dg.set _ (by rw [← hd]; exact Nat.mod_lt _ (by omega)), fun j hj => by
    by_cases e : j = i
    · subst e
      rw [getD_set_self _ _ _ (by rw [h.len]; exact hi), hd]
    · rw [getD_set_ne _ _ _ _ e]
      exact h.at_ j (by omega)⟩
theorem RightInv.last {ds : List Nat} {n y : Nat} (h : RightInv ds n y n) (hy : y < 4294967296 ^ n) : val ds = y := by
  rw [val_build ds y (fun i hi => h.at_ i (by rw [← h.len]; exact hi)), h.len, Nat.mod_eq_of_lt hy]
theorem right_lt (xs : List Nat) (h : Dg xs) (q r : Nat) (hq : q ≤ xs.length) : val xs / 2 ^ (32 * q + r) < 4294967296 ^ (xs.length - q) := by
  have h1 := val_lt xs h
  rw [Nat.pow_add, ← pw_two, ← Nat.div_div_eq_div_mul]
  have h2 : val xs / 4294967296 ^ q < 4294967296 ^ (xs.length - q) := by
    rw [Nat.div_lt_iff_lt_mul (pw_pos q), ← Nat.pow_add, Nat.sub_add_cancel hq]
    exact h1
  exact Nat.lt_of_le_of_lt (Nat.div_le_self _ _) h2
theorem right_none (xs : List Nat) (h : Dg xs) (q r : Nat) (hq : xs.length ≤ q) : val xs / 2 ^ (32 * q + r) = 0 := by
  have h1 := val_lt xs h
  rw [Nat.pow_add, ← pw_two, ← Nat.div_div_eq_div_mul]
  have h2 : 4294967296 ^ xs.length ≤ 4294967296 ^ q := Nat.pow_le_pow_right (by omega) hq
  rw [Nat.div_eq_of_lt (show val xs < 4294967296 ^ q by omega), Nat.zero_div]
end Go.Proofs.YthaehfdjldjdiaaDoor
