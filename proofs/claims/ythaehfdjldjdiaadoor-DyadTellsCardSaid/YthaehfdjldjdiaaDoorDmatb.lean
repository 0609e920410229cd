
/-
  Plain mathematics of whole numbers times powers of 2: sums and products of plain forms; bounds.
-/
import Derived.Test.YthaehfdjldjdiaaDoorDc
namespace Go.Proofs.YthaehfdjldjdiaaDoor
set_option linter.unusedVariables false

theorem blen_shift {x : Nat} (hx : x ≠ 0) (i : Nat) : blen (x * 2 ^ i) = blen x + i := by
  obtain ⟨h1, h2⟩ := blen_pos hx
  have h3 := (blen_le x (blen x)).1 (Nat.le_refl _)
  obtain ⟨k, hk⟩ : ∃ k, blen x = k + 1 := ⟨blen x - 1, by omega⟩
  rw [hk] at h1 h3 ⊢
  rw [Nat.add_sub_cancel] at h1
  rw [show k + 1 + i = k + i + 1 by omega]
  refine blen_unique ?_ ?_
  · rw [Nat.pow_add]; exact Nat.mul_le_mul_right _ h1
  · rw [show k + i + 1 = k + 1 + i by omega, Nat.pow_add]; exact Nat.mul_lt_mul_of_pos_right h3 (Nat.two_pow_pos i)
theorem blen_div_tz {x : Nat} (hx : x ≠ 0) : blen (x / 2 ^ tz x) + tz x = blen x := by
  obtain ⟨_, h2, h3⟩ := tz_blen hx
  have := blen_shift (x := x / 2 ^ tz x) (by intro e; rw [e] at h3; omega) (tz x)
  rw [Nat.mul_comm, ← h2] at this
  exact this.symm

/-- of a number that may be taken, what holds of its plain form. -/
theorem pl_bounds {a : D} (h : a.may = true) : blen a.pl.x ≤ 4096 ∧ -8192 ≤ a.pl.e ∧ a.pl.e ≤ 12288 ∧ (blen a.pl.x : Int) + a.pl.e ≤ 12288 ∧ (a.pl.x = 0 → a.pl.e = 0) := by
  obtain ⟨h1, h2, h3⟩ := (D.may_iff a).1 h
  by_cases h0 : a.x = 0
  · rw [D.pl_zero h0]
    exact ⟨by simp [blen], by simp, by simp, by simp [blen], fun _ => rfl⟩
  · rw [D.pl_pos h0]
    have h4 := blen_div_tz h0
    have h5 := tz_blen h0
    refine ⟨by show blen (a.x / 2 ^ tz a.x) ≤ 4096; omega, by show -8192 ≤ a.e + (tz a.x : Int); omega, by show a.e + (tz a.x : Int) ≤ 12288; omega, by show (blen (a.x / 2 ^ tz a.x) : Int) + (a.e + (tz a.x : Int)) ≤ 12288; omega, fun e => ?_⟩
    have h6 : a.x / 2 ^ tz a.x = 0 := e
    omega

theorem sz_shift (n : Bool) (x i : Nat) (e e' : Int) : (⟨n, x * 2 ^ i, e⟩ : D).sz = (⟨n, x, e'⟩ : D).sz * 2 ^ i := by
  unfold D.sz
  cases n <;> simp [Int.neg_mul]

/-- a sum, put together at the lower place. -/
theorem add_at_low {a b : D} (ha : a.may = true) (hb : b.may = true) {m : Int} {i j : Nat} (hm : min a.pl.e b.pl.e = m) (hi : a.pl.e - m = (i : Int)) (hj : b.pl.e - m = (j : Int)) {n : Bool} {u : Nat}
    (hu : (⟨n, u, m⟩ : D).sz = (⟨a.pl.neg, a.pl.x * 2 ^ i, m⟩ : D).sz + (⟨b.pl.neg, b.pl.x * 2 ^ j, m⟩ : D).sz) : (⟨n, u, m⟩ : D).pl = a.add b := by
  obtain ⟨_, a2, a3, _⟩ := pl_bounds ha
  obtain ⟨_, b2, b3, _⟩ := pl_bounds hb
  obtain ⟨_, a5, a6⟩ := (D.may_iff a).1 ha
  obtain ⟨_, b5, b6⟩ := (D.may_iff b).1 hb
  refine D.add_of (by omega) (by omega) (D.pl_low (by show -40000 ≤ m; omega) (by omega)) (D.pl_plain _) ?_
  rw [D.pl_vl (by show -40000 ≤ m; omega), ← D.pl_vl (d := a) (by omega), ← D.pl_vl (d := b) (by omega)]
  unfold D.vl
  rw [hu, sz_shift _ _ _ _ a.pl.e, sz_shift _ _ _ _ b.pl.e]
  show (a.pl.sz * 2 ^ i + b.pl.sz * 2 ^ j) * 2 ^ (m + 40000).toNat = a.pl.sz * 2 ^ (a.pl.e + 40000).toNat + b.pl.sz * 2 ^ (b.pl.e + 40000).toNat
  rw [Int.add_mul, Int.mul_assoc, Int.mul_assoc, ← Int.pow_add, ← Int.pow_add, show i + (m + 40000).toNat = (a.pl.e + 40000).toNat by omega, show j + (m + 40000).toNat = (b.pl.e + 40000).toNat by omega]

/-- numbers that are too far apart have no sum that may be told. -/
theorem add_over {a b : D} (ha : a.may = true) (hb : b.may = true) {m : Int} {i j : Nat} (hm : min a.pl.e b.pl.e = m) (hi : a.pl.e - m = (i : Int)) (hj : b.pl.e - m = (j : Int)) (hov : 16384 < blen a.pl.x + i ∨ 16384 < blen b.pl.x + j) :
    a.pl.x ≠ 0 ∧ b.pl.x ≠ 0 ∧ (a.add b).may = false := by
  obtain ⟨a1, a2, a3, a4, a5⟩ := pl_bounds ha
  obtain ⟨b1, b2, b3, b4, b5⟩ := pl_bounds hb
  have hx : a.pl.x ≠ 0 := fun e => by
    have := a5 e
    rw [e] at hov
    rcases hov with h | h
    · rw [blen_zero] at h; omega
    · omega
  have hy : b.pl.x ≠ 0 := fun e => by
    have := b5 e
    rw [e] at hov
    rcases hov with h | h
    · omega
    · rw [blen_zero] at h; omega
  refine ⟨hx, hy, ?_⟩
  have pa : a.pl.x % 2 = 1 := by rcases a.pl_plain with ⟨h, _⟩ | h; exact (hx h).elim; exact h
  have pb : b.pl.x % 2 = 1 := by rcases b.pl_plain with ⟨h, _⟩ | h; exact (hy h).elim; exact h
  obtain ⟨z, hz⟩ : ∃ z, z = (⟨a.pl.neg, a.pl.x * 2 ^ i, m⟩ : D).sz + (⟨b.pl.neg, b.pl.x * 2 ^ j, m⟩ : D).sz := ⟨_, rfl⟩
  have hadd := add_at_low ha hb hm hi hj (n := decide (z < 0)) (u := z.natAbs) (by rw [← hz]; exact D.mkz_sz z m)
  have key : z.natAbs % 2 = 1 ∧ 16384 < blen z.natAbs + 4096 + 1 := by
    have aux : ∀ (X Y : Nat) (n1 n2 : Bool), z = (⟨n1, X, m⟩ : D).sz + (⟨n2, Y, m⟩ : D).sz → X ≤ z.natAbs + Y ∧ Y ≤ z.natAbs + X ∧ z.natAbs % 2 = (X + Y) % 2 := by
      intro X Y n1 n2 h
      unfold D.sz at h
      cases n1 <;> cases n2 <;> simp at h <;> omega
    obtain ⟨k1, k2, k3⟩ := aux _ _ _ _ hz
    rcases hov with h | h
    · have hi0 : 0 < i := by omega
      have hj0 : j = 0 := by omega
      subst hj0
      obtain ⟨i', rfl⟩ : ∃ i', i = i' + 1 := ⟨i - 1, by omega⟩
      have e1 : a.pl.x * 2 ^ (i' + 1) % 2 = 0 := by rw [Nat.pow_succ, ← Nat.mul_assoc]; omega
      have e2 := blen_shift hx (i' + 1)
      have e3 := blen_le_of k1
      have e4 := blen_add z.natAbs (b.pl.x * 2 ^ 0)
      rw [Nat.pow_zero, Nat.mul_one] at *
      exact ⟨by omega, by omega⟩
    · have hj0 : 0 < j := by omega
      have hi0 : i = 0 := by omega
      subst hi0
      obtain ⟨j', rfl⟩ : ∃ j', j = j' + 1 := ⟨j - 1, by omega⟩
      have e1 : b.pl.x * 2 ^ (j' + 1) % 2 = 0 := by rw [Nat.pow_succ, ← Nat.mul_assoc]; omega
      have e2 := blen_shift hy (j' + 1)
      have e3 := blen_le_of k2
      have e4 := blen_add z.natAbs (a.pl.x * 2 ^ 0)
      rw [Nat.pow_zero, Nat.mul_one] at *
      exact ⟨by omega, by omega⟩
  obtain ⟨k1, k2⟩ := key
  have hnz : z.natAbs ≠ 0 := by omega
  have htz : tz z.natAbs = 0 := by rw [tz, dif_neg hnz, if_pos k1]
  rw [← hadd, D.pl_pos hnz]
  show D.may ⟨decide (z < 0), z.natAbs / 2 ^ tz z.natAbs, m + (tz z.natAbs : Int)⟩ = false
  rw [htz, Nat.pow_zero, Nat.div_one]
  unfold D.may
  rw [show decide (blen (D.mk (decide (z < 0)) z.natAbs (m + ((0 : Nat) : Int))).x ≤ 4096) = false from decide_eq_false (by show ¬ blen z.natAbs ≤ 4096; omega)]
  rfl

def addS (a b : D) : D × Int := if a.may && b.may then tld (a.add b) else (⟨false, 0, 0⟩, 3)
theorem addS_ok {a b : D} (ha : a.may = true) (hb : b.may = true) : addS a b = tld (a.add b) := by unfold addS; rw [ha, hb]; rfl
theorem addS_err {a b : D} (h : a.may = false ∨ b.may = false) : addS a b = (⟨false, 0, 0⟩, 3) := by
  unfold addS
  rcases h with h | h <;> rw [h]
  · rfl
  · rw [Bool.and_false]; rfl
theorem tld_over {d : D} (h : d.may = false) : tld d = (⟨false, 0, 0⟩, 6) := by unfold tld; rw [h]; rfl
theorem tld_ok {d : D} (h : d.may = true) : tld d = (d, 0) := by unfold tld; rw [h]; rfl
end Go.Proofs.YthaehfdjldjdiaaDoor
