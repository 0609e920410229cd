
/-
  Plain mathematics of numbers as lists of bits, as the reference has them.
-/
import Derived.Test.YthaehfdjldjdiaaDoorMathd
namespace Go.Proofs.YthaehfdjldjdiaaDoor
set_option linter.unusedVariables false

/-- The number of a list of bits, the lowest one first. -/
def bval : List Bool → Nat
  | [] => 0
  | b :: bs => b.toNat + 2 * bval bs

theorem bval_append : ∀ as bs : List Bool, bval (as ++ bs) = bval as + 2 ^ as.length * bval bs
  | [], bs => by simp [bval]
  | a :: as, bs => by
    simp only [List.cons_append, bval, List.length_cons, bval_append as bs, Nat.pow_succ, Nat.mul_add]
    have : 2 ^ as.length * 2 * bval bs = 2 * (2 ^ as.length * bval bs) := by ac_rfl
    omega
theorem bval_snoc (bs : List Bool) (b : Bool) : bval (bs ++ [b]) = bval bs + 2 ^ bs.length * b.toNat := by
  rw [bval_append]; simp [bval]
theorem toNat_le (b : Bool) : b.toNat ≤ 1 := by cases b <;> decide
theorem bval_lt : ∀ bs : List Bool, bval bs < 2 ^ bs.length
  | [] => by simp [bval]
  | b :: bs => by
    have h1 := toNat_le b
    have h2 := bval_lt bs
    simp only [bval, List.length_cons, Nat.pow_succ]
    omega
theorem bval_replicate : ∀ n : Nat, bval (List.replicate n false) = 0
  | 0 => rfl
  | n + 1 => by simp [List.replicate_succ, bval, bval_replicate n]
theorem bval_split (bs : List Bool) (k : Nat) (hk : k ≤ bs.length) : bval bs = bval (bs.take k) + 2 ^ k * bval (bs.drop k) := by
  have h := bval_append (bs.take k) (bs.drop k)
  rw [List.take_append_drop, List.length_take, Nat.min_eq_left hk] at h
  exact h
theorem bval_take_lt (bs : List Bool) (k : Nat) : bval (bs.take k) < 2 ^ k := by
  refine Nat.lt_of_lt_of_le (bval_lt _) (Nat.pow_le_pow_right (by omega) ?_)
  rw [List.length_take]; omega
theorem bval_div (bs : List Bool) (k : Nat) : bval bs / 2 ^ k = bval (bs.drop k) := by
  by_cases hk : k ≤ bs.length
  · rw [bval_split bs k hk, Nat.add_mul_div_left _ _ (Nat.two_pow_pos k), Nat.div_eq_of_lt (bval_take_lt bs k), Nat.zero_add]
  · rw [List.drop_of_length_le (by omega)]
    have h1 := bval_lt bs
    have h2 : 2 ^ bs.length ≤ 2 ^ k := Nat.pow_le_pow_right (by omega) (by omega)
    exact Nat.div_eq_of_lt (by omega)
theorem bval_mod (bs : List Bool) (k : Nat) : bval bs % 2 ^ k = bval (bs.take k) := by
  by_cases hk : k ≤ bs.length
  · rw [bval_split bs k hk, Nat.add_mul_mod_self_left, Nat.mod_eq_of_lt (bval_take_lt bs k)]
  · rw [List.take_of_length_le (by omega)]
    have h1 := bval_lt bs
    have h2 : 2 ^ bs.length ≤ 2 ^ k := Nat.pow_le_pow_right (by omega) (by omega)
    exact Nat.mod_eq_of_lt (by omega)
theorem bgetD_drop (bs : List Bool) (k j : Nat) : (bs.drop k).getD j false = bs.getD (k + j) false := by
  rw [List.getD_eq_getElem?_getD, List.getD_eq_getElem?_getD, List.getElem?_drop]
theorem bgetD_ge {bs : List Bool} {n j : Nat} (h : bs.length = n) (hj : n ≤ j) : bs.getD j false = false := by
  rw [List.getD_eq_getElem?_getD, List.getElem?_eq_none (by omega)]; rfl
theorem bval_head (bs : List Bool) : bval bs % 2 = (bs.getD 0 false).toNat := by
  cases bs with
  | nil => rfl
  | cons b bs =>
    have := toNat_le b
    simp only [bval, List.getD_cons_zero]
    omega
/-- a bit, by its number. -/
theorem bval_at (bs : List Bool) (k : Nat) : bval bs / 2 ^ k % 2 = (bs.getD k false).toNat := by
  rw [bval_div, bval_head, bgetD_drop, Nat.add_zero]
theorem bval_bit (bs : List Bool) (k : Nat) (b : Bool) (h : bs.getD k false = b) : bval bs / 2 ^ k % 2 = b.toNat := by rw [bval_at, h]

/-- no bit 0 at the end. -/
def BC (bs : List Bool) : Prop := bs.length = blen (bval bs)
theorem BC.nil : BC [] := rfl
theorem BC.of_low {bs : List Bool} (h : 0 < bs.length → 2 ^ (bs.length - 1) ≤ bval bs) : BC bs := by
  unfold BC
  rcases Nat.eq_zero_or_pos bs.length with e | e
  · rw [List.eq_nil_of_length_eq_zero e]; rfl
  · have h1 := h e
    have h2 := bval_lt bs
    obtain ⟨m, hm⟩ : ∃ m, bs.length = m + 1 := ⟨bs.length - 1, by omega⟩
    rw [hm] at h1 h2 ⊢
    exact (blen_unique h1 h2).symm
theorem BC.zero {bs : List Bool} (h : BC bs) (h0 : bval bs = 0) : bs = [] := by
  unfold BC at h
  rw [h0, blen_zero] at h
  exact List.eq_nil_of_length_eq_zero h

/-- what cut tells: the first m bits; those behind are 0, and the last one kept is 1. -/
def BCutAt (bs : List Bool) (m : Nat) : Prop := (∀ j, m ≤ j → bs.getD j false = false) ∧ (0 < m → bs.getD (m - 1) false = true)
theorem bval_eq_zero : ∀ bs : List Bool, (∀ j, bs.getD j false = false) → bval bs = 0
  | [], _ => rfl
  | b :: bs, h => by
    have h0 : b = false := h 0
    have h1 := bval_eq_zero bs (fun j => h (j + 1))
    simp [bval, h0, h1]
theorem bcut_val {bs : List Bool} {m : Nat} (hm : m ≤ bs.length) (hc : BCutAt bs m) : BC (bs.take m) ∧ bval (bs.take m) = bval bs := by
  have hz : bval (bs.drop m) = 0 := bval_eq_zero _ (fun j => by rw [bgetD_drop]; exact hc.1 _ (by omega))
  have hv : bval (bs.take m) = bval bs := by rw [bval_split bs m hm, hz]; omega
  have hl : (bs.take m).length = m := by rw [List.length_take]; omega
  refine ⟨BC.of_low (fun h0 => ?_), hv⟩
  rw [hl] at h0 ⊢
  rw [hv]
  have h1 := bval_at bs (m - 1)
  rw [hc.2 h0] at h1
  rcases Nat.lt_or_ge (bval bs) (2 ^ (m - 1)) with h2 | h2
  · rw [Nat.div_eq_of_lt h2] at h1; simp at h1
  · exact h2

/-- the bits of a number, one more. -/
theorem mod_succ (x k : Nat) : x % 2 ^ (k + 1) = x % 2 ^ k + 2 ^ k * (x / 2 ^ k % 2) := Nat.mod_pow_succ
theorem div_succ (x k : Nat) : x / 2 ^ (k + 1) = x / 2 ^ k / 2 := by rw [Nat.pow_succ, Nat.div_div_eq_div_mul]
theorem div_two (x k : Nat) : x / 2 ^ k = 2 * (x / 2 ^ (k + 1)) + x / 2 ^ k % 2 := by rw [div_succ]; omega
theorem decide_toNat (n : Nat) : (decide (n % 2 = 1)).toNat = n % 2 := by
  rcases Nat.mod_two_eq_zero_or_one n with h | h <;> simp [h]

/-- the bits of the parts: i parts, and k bits more. -/
structure OfInv (xs : List Nat) (bs : List Bool) (i k : Nat) (x : Nat) : Prop where
  len : bs.length = 32 * i + k
  sum : bval bs = val (xs.take i) + 4294967296 ^ i * (x % 2 ^ k)
theorem OfInv.zero (xs : List Nat) (i x : Nat) (bs : List Bool) (hl : bs.length = 32 * i) (hs : bval bs = val (xs.take i)) : OfInv xs bs i 0 x := ⟨by omega, by simp [hs, Nat.mod_one]⟩
theorem OfInv.step {xs : List Nat} {bs : List Bool} {i k x : Nat} (h : OfInv xs bs i k x) (b : Bool) (hb : b.toNat = x / 2 ^ k % 2) : OfInv xs (bs ++ [b]) i (k + 1) x := by
  refine ⟨by rw [List.length_append, h.len]; simp; omega, ?_⟩
  rw [bval_snoc, h.sum, h.len, hb, mod_succ, Nat.mul_add, Nat.pow_add, ← pw_two, Nat.add_assoc]
  congr 2
  ac_rfl
theorem OfInv.last {xs : List Nat} {bs : List Bool} {i x : Nat} (h : OfInv xs bs i 32 x) (hx : xs.getD i 0 = x) (hlt : x < 4294967296) : bs.length = 32 * (i + 1) ∧ bval bs = val (xs.take (i + 1)) := by
  refine ⟨by rw [h.len]; omega, ?_⟩
  rw [h.sum, take_succ_val, hx, Nat.mod_eq_of_lt (show x < 2 ^ 32 by omega)]

/-- one part out of bits, from above: k bits are left. -/
def Part (x i : Nat) : Nat := x / 2 ^ (32 * i) % 4294967296
theorem Part.lt (x i : Nat) : Part x i < 4294967296 := Nat.mod_lt _ (by omega)
theorem Part.bit (x i k : Nat) (hk : k < 32) : Part x i / 2 ^ k % 2 = x / 2 ^ (32 * i + k) % 2 := by
  unfold Part
  rw [Nat.pow_add, ← Nat.div_div_eq_div_mul]
  generalize x / 2 ^ (32 * i) = y
  obtain ⟨d, hd⟩ : ∃ d, 32 = k + (d + 1) := ⟨32 - k - 1, by omega⟩
  have e3 : (4294967296 : Nat) = 2 ^ k * (2 * 2 ^ d) := by rw [Nat.mul_comm 2, ← Nat.pow_succ, ← Nat.pow_add, ← hd]
  rw [e3, Nat.mod_mul_right_div_self, Nat.mod_mul_right_mod]
theorem Part.top (x i : Nat) : Part x i / 2 ^ 32 = 0 := Nat.div_eq_of_lt (by have := Part.lt x i; omega)
structure PartsInv (x : Nat) (ds : List Nat) (q : Nat) : Prop where
  len : ds.length = q
  dg : Dg ds
  sum : val ds = x % 2 ^ (32 * q)
theorem PartsInv.zero (x : Nat) : PartsInv x [] 0 := ⟨rfl, Dg.nil, by simp [val, Nat.mod_one]⟩
theorem PartsInv.step {x : Nat} {ds : List Nat} {q : Nat} (h : PartsInv x ds q) : PartsInv x (ds ++ [Part x q]) (q + 1) := by
  refine ⟨by rw [List.length_append, h.len]; rfl, h.dg.append (Dg.mk (Part.lt x q) Dg.nil), ?_⟩
  rw [val_append, val_one, h.sum, h.len, pw_two, show 32 * (q + 1) = 32 * q + 32 from by omega, Nat.pow_add, Nat.mod_mul]
  rfl
theorem PartsInv.last {x : Nat} {ds : List Nat} {q : Nat} (h : PartsInv x ds q) (hq : blen x ≤ 32 * q) (hq2 : 32 * q < blen x + 32) : Canon ds ∧ val ds = x := by
  have hx : x < 2 ^ (32 * q) := (blen_le x _).1 hq
  have hv : val ds = x := by rw [h.sum, Nat.mod_eq_of_lt hx]
  refine ⟨⟨h.dg, fun h0 => ?_⟩, hv⟩
  intro e0
  rw [h.len] at h0 e0
  have h1 := take_succ_val ds (q - 1)
  rw [show q - 1 + 1 = q from by omega, List.take_of_length_le (by rw [h.len]; exact Nat.le_refl _), e0, Nat.mul_zero, Nat.add_zero] at h1
  have h2 := val_take_lt h.dg (q - 1)
  rw [← h1, hv, pw_two] at h2
  have h3 := (blen_le x _).2 h2
  omega

/-- which is greater, from above: as far as k bits are left. -/
theorem cmp_bit {x y k : Nat} (he : x / 2 ^ (k + 1) = y / 2 ^ (k + 1)) (hx : x / 2 ^ k % 2 = 0) (hy : y / 2 ^ k % 2 = 1) : x < y := by
  have h1 := div_two x k
  have h2 := div_two y k
  rcases Nat.lt_or_ge x y with h | h
  · exact h
  · have := Nat.div_le_div_right (c := 2 ^ k) h
    omega

/-- a sum, bit by bit, as far as k bits. -/
structure BAddInv (x y : Nat) (bs : List Bool) (k : Nat) (c : Bool) : Prop where
  len : bs.length = k
  sum : bval bs + 2 ^ k * c.toNat = x % 2 ^ k + y % 2 ^ k
theorem BAddInv.zero (x y : Nat) : BAddInv x y [] 0 false := ⟨rfl, by simp [bval, Nat.mod_one]⟩
theorem BAddInv.step {x y : Nat} {bs : List Bool} {k : Nat} {c : Bool} (h : BAddInv x y bs k c) (a b : Bool) (ha : x / 2 ^ k % 2 = a.toNat) (hb : y / 2 ^ k % 2 = b.toNat) :
    BAddInv x y (bs ++ [(a != b) != c]) (k + 1) (a && b || c && (a || b)) := by
  refine ⟨by rw [List.length_append, h.len]; rfl, ?_⟩
  rw [bval_snoc, h.len, mod_succ, mod_succ, ha, hb, Nat.pow_succ]
  have h1 := h.sum
  generalize 2 ^ k = p at *
  revert h1
  cases a <;> cases b <;> cases c <;> simp <;> omega
theorem BAddInv.last {x y : Nat} {bs : List Bool} {m : Nat} {c : Bool} (h : BAddInv x y bs (m + 1) c) (hx : blen x ≤ m) (hy : blen y ≤ m) : bval bs = x + y := by
  have h1 := (blen_le x m).1 hx
  have h2 := (blen_le y m).1 hy
  have h3 := h.sum
  rw [Nat.pow_succ, Nat.mod_eq_of_lt (show x < 2 ^ m * 2 by omega), Nat.mod_eq_of_lt (show y < 2 ^ m * 2 by omega)] at h3
  cases c
  · simpa using h3
  · simp at h3; omega

/-- a difference, bit by bit. -/
structure BSubInv (x y : Nat) (bs : List Bool) (k : Nat) (c : Bool) : Prop where
  len : bs.length = k
  sum : x % 2 ^ k + 2 ^ k * c.toNat = bval bs + y % 2 ^ k
theorem BSubInv.zero (x y : Nat) : BSubInv x y [] 0 false := ⟨rfl, by simp [bval, Nat.mod_one]⟩
theorem BSubInv.step {x y : Nat} {bs : List Bool} {k : Nat} {c : Bool} (h : BSubInv x y bs k c) (a b : Bool) (ha : x / 2 ^ k % 2 = a.toNat) (hb : y / 2 ^ k % 2 = b.toNat) :
    BSubInv x y (bs ++ [(a != b) != c]) (k + 1) (!a && (b || c) || b && c) := by
  refine ⟨by rw [List.length_append, h.len]; rfl, ?_⟩
  rw [bval_snoc, h.len, mod_succ, mod_succ, ha, hb, Nat.pow_succ]
  have h1 := h.sum
  generalize 2 ^ k = p at *
  revert h1
  cases a <;> cases b <;> cases c <;> simp <;> omega
theorem BSubInv.last {x y : Nat} {bs : List Bool} {m : Nat} {c : Bool} (h : BSubInv x y bs m c) (hx : blen x ≤ m) (hle : y ≤ x) : bval bs = x - y := by
  have h1 := (blen_le x m).1 hx
  have h3 := h.sum
  have h4 := bval_lt bs
  rw [h.len] at h4
  rw [Nat.mod_eq_of_lt h1, Nat.mod_eq_of_lt (show y < 2 ^ m by omega)] at h3
  cases c
  · simp at h3; omega
  · simp at h3; omega

/-- a product, bit by bit. -/
theorem bmul_step (x y k : Nat) (b : Bool) (hb : y / 2 ^ k % 2 = b.toNat) (z : Nat) (hz : z = x * (y % 2 ^ k)) : (if b then z + x * 2 ^ k else z) = x * (y % 2 ^ (k + 1)) := by
  rw [mod_succ, hb, hz, Nat.mul_add]
  cases b <;> simp

theorem BC.left {bs : List Bool} (h : BC bs) (h0 : bs ≠ []) (n : Nat) : BC (List.replicate n false ++ bs) ∧ bval (List.replicate n false ++ bs) = bval bs * 2 ^ n := by
  have hv : bval (List.replicate n false ++ bs) = bval bs * 2 ^ n := by rw [bval_append, bval_replicate, List.length_replicate]; rw [Nat.mul_comm]; omega
  refine ⟨BC.of_low (fun _ => ?_), hv⟩
  have hl : 0 < bs.length := List.length_pos_iff.2 h0
  have hx : bval bs ≠ 0 := fun e => h0 (h.zero e)
  have h1 := (blen_pos hx).1
  rw [← h] at h1
  rw [hv, List.length_append, List.length_replicate, show n + bs.length - 1 = (bs.length - 1) + n from by omega, Nat.pow_add]
  exact Nat.mul_le_mul_right _ h1
theorem blen_div (x k : Nat) : blen (x / 2 ^ k) = blen x - k := by
  by_cases h : x / 2 ^ k = 0
  · have h1 : x < 2 ^ k := by
      rcases Nat.lt_or_ge x (2 ^ k) with h1 | h1
      · exact h1
      · have := Nat.div_pos h1 (Nat.two_pow_pos k); omega
    have := (blen_le x k).2 h1
    rw [h, blen_zero]; omega
  · obtain ⟨h1, h2⟩ := blen_pos h
    have h3 := (blen_le (x / 2 ^ k) (blen (x / 2 ^ k))).1 (Nat.le_refl _)
    obtain ⟨m, hm⟩ : ∃ m, blen (x / 2 ^ k) = m + 1 := ⟨blen (x / 2 ^ k) - 1, by omega⟩
    rw [hm] at h1 h3 ⊢
    simp only [Nat.add_sub_cancel] at h1
    rw [Nat.le_div_iff_mul_le (Nat.two_pow_pos k), ← Nat.pow_add] at h1
    rw [Nat.div_lt_iff_lt_mul (Nat.two_pow_pos k), ← Nat.pow_add, show m + 1 + k = m + k + 1 from by omega] at h3
    rw [blen_unique h1 h3]; omega
theorem BC.drop {bs : List Bool} (h : BC bs) (n : Nat) : BC (bs.drop n) ∧ bval (bs.drop n) = bval bs / 2 ^ n := by
  have hv := (bval_div bs n).symm
  refine ⟨?_, hv⟩
  unfold BC at h ⊢
  rw [List.length_drop, hv, blen_div, h]
end Go.Proofs.YthaehfdjldjdiaaDoor
