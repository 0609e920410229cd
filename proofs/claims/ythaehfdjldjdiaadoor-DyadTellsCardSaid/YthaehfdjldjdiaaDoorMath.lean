
/-
  Plain mathematics of numbers as lists of parts of 32 bits: nothing of a program.
-/
import Derived.Test.YthaehfdjldjdiaaDoorMem
import Derived.Lib.BitFns
import Derived.Lib.TrailingZeros
namespace Go.Proofs.YthaehfdjldjdiaaDoor
set_option linter.unusedVariables false

/-- The number of a list of parts, the lowest one first. -/
def val : List Nat → Nat
  | [] => 0
  | x :: xs => x + 4294967296 * val xs

abbrev pw (k : Nat) : Nat := 4294967296 ^ k
theorem pw_pos (k : Nat) : 0 < 4294967296 ^ k := Nat.pow_pos (by omega)
theorem pw_succ (k : Nat) : 4294967296 ^ (k + 1) = 4294967296 * 4294967296 ^ k := by rw [Nat.pow_succ, Nat.mul_comm]
theorem pw_two (k : Nat) : 4294967296 ^ k = 2 ^ (32 * k) := by
  rw [Nat.pow_mul]

theorem val_append : ∀ xs ys : List Nat, val (xs ++ ys) = val xs + 4294967296 ^ xs.length * val ys
  | [], ys => by simp [val]
  | x :: xs, ys => by
    simp only [List.cons_append, val, List.length_cons, val_append xs ys, pw_succ, Nat.mul_add, Nat.mul_assoc]
    omega
theorem val_one (x : Nat) : val [x] = x := by simp [val]
theorem val_replicate : ∀ n : Nat, val (List.replicate n 0) = 0
  | 0 => rfl
  | n + 1 => by simp [List.replicate_succ, val, val_replicate n]

theorem Dg.nil : Dg [] := fun x hx => by simp at hx
theorem Dg.cons {x : Nat} {xs : List Nat} (h : Dg (x :: xs)) : x < 4294967296 ∧ Dg xs := ⟨h x (by simp), fun y hy => h y (by simp [hy])⟩
theorem Dg.mk {x : Nat} {xs : List Nat} (h : x < 4294967296) (k : Dg xs) : Dg (x :: xs) := fun y hy => by
  rcases List.mem_cons.1 hy with rfl | hy
  · exact h
  · exact k y hy
theorem Dg.append {xs ys : List Nat} (h : Dg xs) (k : Dg ys) : Dg (xs ++ ys) := fun y hy => by
  rcases List.mem_append.1 hy with hy | hy
  · exact h y hy
  · exact k y hy
theorem Dg.take {xs : List Nat} (h : Dg xs) (m : Nat) : Dg (xs.take m) := fun x hx => h x (List.mem_of_mem_take hx)
theorem Dg.drop {xs : List Nat} (h : Dg xs) (m : Nat) : Dg (xs.drop m) := fun x hx => h x (List.mem_of_mem_drop hx)
theorem Dg.set {xs : List Nat} (h : Dg xs) (i : Nat) {x : Nat} (hx : x < 4294967296) : Dg (xs.set i x) := fun y hy => by
  rcases List.mem_or_eq_of_mem_set hy with hy | rfl
  · exact h y hy
  · exact hx
theorem Dg.replicate (n : Nat) : Dg (List.replicate n 0) := fun x hx => by
  rw [List.eq_of_mem_replicate hx]; omega
theorem Dg.getD {xs : List Nat} (h : Dg xs) (i : Nat) : xs.getD i 0 < 4294967296 := by
  rw [List.getD_eq_getElem?_getD]
  by_cases hi : i < xs.length
  · rw [List.getElem?_eq_getElem hi]; exact h _ (List.getElem_mem hi)
  · rw [List.getElem?_eq_none (by omega)]; simp

theorem val_lt : ∀ xs : List Nat, Dg xs → val xs < 4294967296 ^ xs.length
  | [], _ => by simp [val]
  | x :: xs, h => by
    have h1 := (Dg.cons h).1
    have h2 := val_lt xs (Dg.cons h).2
    simp only [val, List.length_cons, pw_succ]
    omega

/-- one part more. -/
theorem take_succ_val (xs : List Nat) (k : Nat) : val (xs.take (k + 1)) = val (xs.take k) + 4294967296 ^ k * xs.getD k 0 := by
  by_cases hk : k < xs.length
  · rw [List.take_succ_eq_append_getElem hk, val_append, val_one, List.length_take, Nat.min_eq_left (by omega)]
    congr 2
    rw [List.getD_eq_getElem?_getD, List.getElem?_eq_getElem hk]; rfl
  · rw [List.take_of_length_le (by omega), List.take_of_length_le (by omega), List.getD_eq_getElem?_getD, List.getElem?_eq_none (by omega)]
    simp
theorem set_take (ds : List Nat) (k d : Nat) (hk : k < ds.length) : (ds.set k d).take (k + 1) = ds.take k ++ [d] := by
  rw [List.take_succ_eq_append_getElem (by simpa using hk)]
  rw [List.take_set_of_le (by omega)]
  simp
theorem set_take_val (ds : List Nat) (k d : Nat) (hk : k < ds.length) : val ((ds.set k d).take (k + 1)) = val (ds.take k) + 4294967296 ^ k * d := by
  rw [set_take ds k d hk, val_append, val_one, List.length_take, Nat.min_eq_left (by omega)]
theorem val_split (xs : List Nat) (k : Nat) (hk : k ≤ xs.length) : val xs = val (xs.take k) + 4294967296 ^ k * val (xs.drop k) := by
  have h := val_append (xs.take k) (xs.drop k)
  rw [List.take_append_drop, List.length_take, Nat.min_eq_left hk] at h
  exact h
theorem val_take_lt {xs : List Nat} (h : Dg xs) (k : Nat) : val (xs.take k) < 4294967296 ^ k := by
  have h1 := val_lt (xs.take k) (h.take k)
  refine Nat.lt_of_lt_of_le h1 (Nat.pow_le_pow_right (by omega) ?_)
  rw [List.length_take]; omega
/-- a part, by its number. -/
theorem val_div (xs : List Nat) (h : Dg xs) (k : Nat) : val xs / 4294967296 ^ k = val (xs.drop k) := by
  by_cases hk : k ≤ xs.length
  · rw [val_split xs k hk, Nat.add_mul_div_left _ _ (pw_pos k), Nat.div_eq_of_lt (val_take_lt h k), Nat.zero_add]
  · rw [List.drop_of_length_le (by omega)]
    have h1 := val_lt xs h
    have h2 : 4294967296 ^ xs.length ≤ 4294967296 ^ k := Nat.pow_le_pow_right (by omega) (by omega)
    exact Nat.div_eq_of_lt (by omega)
theorem val_head (xs : List Nat) (h : Dg xs) : val xs % 4294967296 = xs.getD 0 0 := by
  cases xs with
  | nil => rfl
  | cons x xs =>
    have := (Dg.cons h).1
    simp only [val, List.getD_cons_zero]
    omega
theorem getD_drop (xs : List Nat) (k j : Nat) : (xs.drop k).getD j 0 = xs.getD (k + j) 0 := by
  rw [List.getD_eq_getElem?_getD, List.getD_eq_getElem?_getD, List.getElem?_drop]
theorem val_at (xs : List Nat) (h : Dg xs) (k : Nat) : val xs / 4294967296 ^ k % 4294967296 = xs.getD k 0 := by
  rw [val_div xs h k, val_head _ (h.drop k), getD_drop, Nat.add_zero]

theorem val_eq_zero : ∀ xs : List Nat, (∀ j, xs.getD j 0 = 0) → val xs = 0
  | [], _ => rfl
  | x :: xs, h => by
    have h0 : x = 0 := h 0
    have h1 := val_eq_zero xs (fun j => h (j + 1))
    simp [val, h0, h1]

/-- no part 0 at the end. -/
def Canon (xs : List Nat) : Prop := Dg xs ∧ (0 < xs.length → xs.getD (xs.length - 1) 0 ≠ 0)

/-- what cut tells: the first m parts; those behind are 0, and the last one kept is not. -/
def CutAt (xs : List Nat) (m : Nat) : Prop := (∀ j, m ≤ j → xs.getD j 0 = 0) ∧ (0 < m → xs.getD (m - 1) 0 ≠ 0)

theorem getD_take (xs : List Nat) (m j : Nat) (h : j < m) : (xs.take m).getD j 0 = xs.getD j 0 := by
  rw [List.getD_eq_getElem?_getD, List.getD_eq_getElem?_getD, List.getElem?_take, if_pos h]
theorem getD_ge {xs : List Nat} {n j : Nat} (h : xs.length = n) (hj : n ≤ j) : xs.getD j 0 = 0 := by
  rw [List.getD_eq_getElem?_getD, List.getElem?_eq_none (by omega)]; rfl

theorem cut_val {xs : List Nat} {m : Nat} (h : Dg xs) (hm : m ≤ xs.length) (hc : CutAt xs m) : Canon (xs.take m) ∧ val (xs.take m) = val xs := by
  have hl : (xs.take m).length = m := by rw [List.length_take]; omega
  refine ⟨⟨h.take m, fun h0 => ?_⟩, ?_⟩
  · rw [hl] at h0 ⊢
    rw [getD_take xs m _ (by omega)]
    exact hc.2 h0
  · have hz : val (xs.drop m) = 0 := val_eq_zero _ (fun j => by rw [getD_drop]; exact hc.1 _ (by omega))
    rw [val_split xs m hm, hz]
    omega

theorem Canon.low {xs : List Nat} (h : Canon xs) (h0 : 0 < xs.length) : 4294967296 ^ (xs.length - 1) ≤ val xs := by
  have h1 := val_split xs (xs.length - 1) (by omega)
  have h2 := val_at xs h.1 (xs.length - 1)
  have h3 := h.2 h0
  rw [val_div xs h.1] at h2
  have h4 : 1 ≤ val (xs.drop (xs.length - 1)) := by
    rcases Nat.eq_zero_or_pos (val (xs.drop (xs.length - 1))) with e | e
    · rw [e] at h2; simp at h2; exact absurd h2.symm h3
    · exact e
  have h5 : 4294967296 ^ (xs.length - 1) * 1 ≤ 4294967296 ^ (xs.length - 1) * val (xs.drop (xs.length - 1)) := Nat.mul_le_mul_left _ h4
  omega
theorem Canon.zero {xs : List Nat} (h : Canon xs) (h0 : val xs = 0) : xs = [] := by
  rcases Nat.eq_zero_or_pos xs.length with e | e
  · exact List.eq_nil_of_length_eq_zero e
  · have := h.low e
    have := pw_pos (xs.length - 1)
    omega
theorem Canon.nil : Canon [] := ⟨Dg.nil, fun h => by simp at h⟩
theorem Canon.tail {x : Nat} {xs : List Nat} (h : Canon (x :: xs)) : Canon xs :=
  ⟨(Dg.cons h.1).2, fun h0 => by
    have := h.2 (by simp)
    simp only [List.length_cons, Nat.add_sub_cancel] at this
    obtain ⟨n, hn⟩ : ∃ n, xs.length = n + 1 := ⟨xs.length - 1, by omega⟩
    rw [hn] at this ⊢
    simpa using this⟩
theorem canon_unique : ∀ xs ys : List Nat, Canon xs → Canon ys → val xs = val ys → xs = ys
  | [], ys, _, hy, he => (hy.zero (by simpa [val] using he.symm)).symm
  | x :: xs, [], hx, _, he => by
    have := hx.zero (by simpa [val] using he)
    cases this
  | x :: xs, y :: ys, hx, hy, he => by
    have h1 := (Dg.cons hx.1).1
    have h2 := (Dg.cons hy.1).1
    simp only [val] at he
    obtain rfl : x = y := by omega
    rw [canon_unique xs ys hx.tail hy.tail (by omega)]
/-- shorter is less. -/
theorem Canon.shorter {xs ys : List Nat} (hx : Dg xs) (hy : Canon ys) (h : xs.length < ys.length) : val xs < val ys := by
  have h1 := val_lt xs hx
  have h2 := hy.low (by omega)
  have h3 : 4294967296 ^ xs.length ≤ 4294967296 ^ (ys.length - 1) := Nat.pow_le_pow_right (by omega) (by omega)
  omega
theorem Canon.len_le {xs : List Nat} (h : Canon xs) {k : Nat} (hk : val xs < 4294967296 ^ k) : xs.length ≤ k := by
  rcases Nat.lt_or_ge k xs.length with hlt | hge
  · have h1 := h.low (by omega)
    have h2 : 4294967296 ^ k ≤ 4294967296 ^ (xs.length - 1) := Nat.pow_le_pow_right (by omega) (by omega)
    omega
  · exact hge
/-- the first parts from above that differ decide. -/
theorem top_less {xs ys : List Nat} (hx : Dg xs) (hy : Dg ys) (k : Nat) (he : val (xs.drop (k + 1)) = val (ys.drop (k + 1))) (hk : k < xs.length) (hk' : k < ys.length) (hlt : xs.getD k 0 < ys.getD k 0) : val xs < val ys := by
  rw [val_split xs (k + 1) (by omega), val_split ys (k + 1) (by omega), he, take_succ_val, take_succ_val]
  have h1 := val_take_lt hx k
  have h2 : 4294967296 ^ k * xs.getD k 0 + 4294967296 ^ k ≤ 4294967296 ^ k * ys.getD k 0 := by
    rw [← Nat.mul_succ]; exact Nat.mul_le_mul_left _ hlt
  omega

/-- how many bits a number has. -/
def blen (x : Nat) : Nat := if x = 0 then 0 else x.log2 + 1
theorem blen_le (x k : Nat) : blen x ≤ k ↔ x < 2 ^ k := by
  unfold blen
  split
  · rename_i h; subst h; simp [Nat.two_pow_pos]
  · rename_i h; rw [Nat.succ_le_iff, Nat.log2_lt h]
theorem blen_zero : blen 0 = 0 := rfl
theorem blen_pos {x : Nat} (h : x ≠ 0) : 2 ^ (blen x - 1) ≤ x ∧ 0 < blen x := by
  have h1 := blen_le x (blen x - 1)
  have h2 : 0 < blen x := by unfold blen; rw [if_neg h]; omega
  refine ⟨?_, h2⟩
  rcases Nat.lt_or_ge x (2 ^ (blen x - 1)) with h3 | h3
  · have := h1.2 h3; omega
  · exact h3
theorem blen_unique {x k : Nat} (h1 : 2 ^ k ≤ x) (h2 : x < 2 ^ (k + 1)) : blen x = k + 1 := by
  have a := (blen_le x (k + 1)).2 h2
  have b := blen_le x k
  rcases Nat.lt_or_ge k (blen x) with h | h
  · omega
  · have := b.1 h; omega
theorem bitLen_blen (x : Nat) (h : x < 18446744073709551616) : Lib.bitLen x = blen x := by
  have aux : ∀ f y : Nat, y < 2 ^ f → Lib.bitLenAux f y = blen y := by
    intro f
    induction f with
    | zero =>
      intro y hy
      obtain rfl : y = 0 := by simpa using hy
      rfl
    | succ f ih =>
      intro y hy
      simp only [Lib.bitLenAux]
      split
      · rename_i e; subst e; rfl
      · rename_i e
        rw [ih (y / 2) (by rw [Nat.pow_succ] at hy; omega)]
        have hy2 := blen_le (y / 2) (blen (y / 2))
        have a1 := hy2.1 (Nat.le_refl _)
        by_cases e2 : y / 2 = 0
        · have : y = 1 := by omega
          subst this
          decide
        · have b := blen_pos e2
          obtain ⟨m, hm⟩ : ∃ m, blen (y / 2) = m + 1 := ⟨blen (y / 2) - 1, by omega⟩
          rw [hm] at a1 b ⊢
          simp only [Nat.add_sub_cancel] at b
          rw [blen_unique (k := m + 1) (by rw [Nat.pow_succ]; omega) (by rw [Nat.pow_succ]; omega)]
          omega
  exact aux 64 x (by omega)
theorem blen_val {xs : List Nat} (h : Canon xs) (h0 : 0 < xs.length) : blen (val xs) = (xs.length - 1) * 32 + blen (xs.getD (xs.length - 1) 0) := by
  have hx := h.2 h0
  generalize hg : xs.getD (xs.length - 1) 0 = t at *
  have hs := take_succ_val xs (xs.length - 1)
  rw [show xs.length - 1 + 1 = xs.length from by omega, List.take_length, hg] at hs
  have hl := val_take_lt h.1 (xs.length - 1)
  generalize val (xs.take (xs.length - 1)) = lo at *
  generalize xs.length - 1 = k at *
  obtain ⟨b1, b2⟩ := blen_pos hx
  obtain ⟨m, hm⟩ : ∃ m, blen t = m + 1 := ⟨blen t - 1, by omega⟩
  have b3 := (blen_le t (m + 1)).1 (by omega)
  rw [hm] at b1 ⊢
  simp only [Nat.add_sub_cancel] at b1
  have e1 : (4294967296 : Nat) ^ k = 2 ^ (k * 32) := by rw [pw_two, Nat.mul_comm]
  rw [e1] at hs hl
  have g1 : 2 ^ (k * 32) * 2 ^ m ≤ 2 ^ (k * 32) * t := Nat.mul_le_mul_left _ b1
  have g2 : 2 ^ (k * 32) * (t + 1) ≤ 2 ^ (k * 32) * 2 ^ (m + 1) := Nat.mul_le_mul_left _ b3
  rw [← Nat.pow_add] at g1 g2
  rw [Nat.mul_add, Nat.mul_one] at g2
  rw [← Nat.add_assoc]
  refine blen_unique (by omega) ?_
  rw [Nat.add_assoc]
  omega

/-- how many bits 0 stand below the lowest 1. -/
def Ctz (x k : Nat) : Prop := x ≠ 0 ∧ ∃ m, x = 2 ^ k * (2 * m + 1)
theorem Ctz.unique {x k l : Nat} (h : Ctz x k) (h' : Ctz x l) : k = l := by
  have aux : ∀ {a b m n : Nat}, 2 ^ a * (2 * m + 1) = 2 ^ b * (2 * n + 1) → a < b → False := by
    intro a b m n e hl
    obtain ⟨d, rfl⟩ : ∃ d, b = a + (d + 1) := ⟨b - a - 1, by omega⟩
    rw [Nat.pow_add, Nat.mul_assoc] at e
    have := Nat.eq_of_mul_eq_mul_left (Nat.two_pow_pos a) e
    rw [Nat.pow_succ, Nat.mul_comm (2 ^ d), Nat.mul_assoc] at this
    omega
  obtain ⟨m, hm⟩ := h.2
  obtain ⟨n, hn⟩ := h'.2
  rcases Nat.lt_trichotomy k l with hl | hl | hl
  · exact (aux (hm.symm.trans hn) hl).elim
  · exact hl
  · exact (aux (hn.symm.trans hm) hl).elim
theorem Ctz.mod {x k : Nat} (h : Ctz x k) (n : Nat) : k < n ↔ x % 2 ^ n ≠ 0 := by
  obtain ⟨m, hm⟩ := h.2
  constructor
  · intro hk e
    obtain ⟨d, rfl⟩ : ∃ d, n = k + (d + 1) := ⟨n - k - 1, by omega⟩
    have hd : 2 ^ (k + (d + 1)) ∣ x := Nat.dvd_of_mod_eq_zero e
    rw [hm, Nat.pow_add] at hd
    have := Nat.dvd_of_mul_dvd_mul_left (Nat.two_pow_pos k) hd
    have h2 : 2 ∣ 2 ^ (d + 1) := by rw [Nat.pow_succ]; exact Nat.dvd_mul_left 2 (2 ^ d)
    have := Nat.dvd_trans h2 this
    omega
  · intro e
    rcases Nat.lt_or_ge k n with h1 | h1
    · exact h1
    · refine (e ?_).elim
      obtain ⟨d, rfl⟩ : ∃ d, k = n + d := ⟨k - n, by omega⟩
      rw [hm, Nat.pow_add, Nat.mul_assoc]
      exact Nat.mul_mod_right _ _
theorem ctz32 (x : Nat) (hx : x < 4294967296) (h0 : x ≠ 0) : Ctz x (Lib.ctz 32 x) := by
  obtain ⟨m, hm, _⟩ := Lib.ctzFrom_spec 32 x (by omega) hx
  refine ⟨h0, m, ?_⟩
  have e : Lib.ctz 32 x = Lib.ctzFrom 32 x := by simp [Lib.ctz, h0]
  rw [e]; exact hm
theorem ctz_val {xs : List Nat} (h : Dg xs) (k c : Nat) (hz : ∀ j, j < k → xs.getD j 0 = 0) (hk : Ctz (xs.getD k 0) c) (hc : c < 32) : Ctz (val xs) (k * 32 + c) := by
  have hkl : k < xs.length := by
    rcases Nat.lt_or_ge k xs.length with h1 | h1
    · exact h1
    · exact (hk.1 (getD_ge rfl h1)).elim
  have e0 : val (xs.take k) = 0 := val_eq_zero _ (fun j => by
    by_cases hj : j < k
    · rw [getD_take xs k j hj]; exact hz j hj
    · exact getD_ge rfl (by rw [List.length_take]; omega))
  have e1 := val_split xs (k + 1) (by omega)
  rw [take_succ_val, e0] at e1
  obtain ⟨m, hm⟩ := hk.2
  rw [hm, pw_succ] at e1
  have e2 : (4294967296 : Nat) ^ k = 2 ^ (k * 32) := by rw [pw_two, Nat.mul_comm]
  obtain ⟨d, hd⟩ : ∃ d, 32 = c + (d + 1) := ⟨32 - c - 1, by omega⟩
  have e3 : (4294967296 : Nat) = 2 ^ c * (2 ^ d * 2) := by rw [← Nat.pow_succ, ← Nat.pow_add, ← hd]
  have e4 : val xs = 2 ^ (k * 32 + c) * (2 * (m + 2 ^ d * val (xs.drop (k + 1))) + 1) := by
    rw [e1, e2, e3, Nat.pow_add]
    generalize val (xs.drop (k + 1)) = v
    generalize 2 ^ (k * 32) = a
    generalize 2 ^ c = b
    generalize 2 ^ d = g
    simp only [Nat.mul_add, Nat.mul_one, Nat.mul_assoc, Nat.zero_add, Nat.add_assoc]
    have x1 : b * (g * (2 * (a * v))) = a * (b * (2 * (g * v))) := by
      rw [show b * (g * (2 * (a * v))) = a * (b * (2 * (g * v))) by ac_rfl]
    omega
  refine ⟨?_, _, e4⟩
  rw [e4]
  have := Nat.two_pow_pos (k * 32 + c)
  exact Nat.mul_ne_zero (by omega) (by omega)
end Go.Proofs.YthaehfdjldjdiaaDoor
