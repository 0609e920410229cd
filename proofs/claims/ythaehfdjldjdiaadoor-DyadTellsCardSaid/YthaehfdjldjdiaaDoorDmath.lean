
/-
  Plain mathematics of whole numbers times powers of 2: nothing of a program. A number's value is reckoned in units of 2^-40000: then it is a whole number.
-/
import Derived.Test.YthaehfdjldjdiaaDoorMath
namespace Go.Proofs.YthaehfdjldjdiaaDoor
set_option linter.unusedVariables false

/-- how many bits 0 stand below the lowest 1. -/
def tz (x : Nat) : Nat := if h : x = 0 then 0 else if x % 2 = 1 then 0 else tz (x / 2) + 1
termination_by x
decreasing_by omega

theorem tz_ctz : ∀ x : Nat, x ≠ 0 → Ctz x (tz x) := by
  intro x
  induction x using Nat.strongRecOn with
  | _ x ih =>
    intro h
    rw [tz]
    rw [dif_neg h]
    by_cases h1 : x % 2 = 1
    · rw [if_pos h1]
      exact ⟨h, x / 2, by omega⟩
    · rw [if_neg h1]
      obtain ⟨_, m, hm⟩ := ih (x / 2) (by omega) (by omega)
      refine ⟨h, m, ?_⟩
      rw [Nat.pow_succ, Nat.mul_comm (2 ^ tz (x / 2)) 2, Nat.mul_assoc, ← hm]
      omega
theorem Ctz.eq_tz {x k : Nat} (h : Ctz x k) : k = tz x := h.unique (tz_ctz x h.1)
theorem tz_blen {x : Nat} (h : x ≠ 0) : tz x < blen x ∧ x = 2 ^ tz x * (x / 2 ^ tz x) ∧ x / 2 ^ tz x % 2 = 1 := by
  obtain ⟨_, m, hm⟩ := tz_ctz x h
  have hd : x / 2 ^ tz x = 2 * m + 1 := by
    have := Nat.mul_div_cancel_left (2 * m + 1) (Nat.two_pow_pos (tz x))
    rw [← hm] at this
    exact this
  refine ⟨?_, by rw [hd]; exact hm, by rw [hd]; omega⟩
  rcases Nat.lt_or_ge (tz x) (blen x) with h1 | h1
  · exact h1
  · have h2 := (blen_le x (tz x)).1 h1
    have h3 : 2 ^ tz x * 1 ≤ 2 ^ tz x * (2 * m + 1) := Nat.mul_le_mul_left _ (by omega)
    omega

/-- a whole number times a power of 2. -/
structure D where
  neg : Bool
  x : Nat
  e : Int

/-- with its sign. -/
def D.sz (d : D) : Int := if d.neg then -(d.x : Int) else (d.x : Int)
/-- its value, in units of 2^-40000. -/
def D.vl (d : D) : Int := d.sz * 2 ^ (d.e + 40000).toNat
/-- may it be taken? -/
def D.may (d : D) : Bool := decide (blen d.x ≤ 4096) && (decide (-8192 ≤ d.e) && decide (d.e ≤ 8192))
def D.plain (d : D) : Prop := (d.x = 0 ∧ d.neg = false ∧ d.e = 0) ∨ d.x % 2 = 1
def D.zero : D := ⟨false, 0, 0⟩
def D.pl (d : D) : D := if d.x = 0 then ⟨false, 0, 0⟩ else ⟨d.neg, d.x / 2 ^ tz d.x, d.e + tz d.x⟩

theorem D.may_iff (d : D) : d.may = true ↔ blen d.x ≤ 4096 ∧ -8192 ≤ d.e ∧ d.e ≤ 8192 := by
  unfold D.may; simp
theorem D.pl_zero {d : D} (h : d.x = 0) : d.pl = ⟨false, 0, 0⟩ := by unfold D.pl; rw [if_pos h]
theorem D.pl_pos {d : D} (h : d.x ≠ 0) : d.pl = ⟨d.neg, d.x / 2 ^ tz d.x, d.e + tz d.x⟩ := by unfold D.pl; rw [if_neg h]
theorem D.plain_zero : (⟨false, 0, 0⟩ : D).plain := .inl ⟨rfl, rfl, rfl⟩
theorem D.pl_plain (d : D) : d.pl.plain := by
  by_cases h : d.x = 0
  · rw [D.pl_zero h]; exact D.plain_zero
  · rw [D.pl_pos h]; exact .inr (tz_blen h).2.2
theorem sz_mul (n : Bool) (x y : Nat) : (if n then -((x * y : Nat) : Int) else ((x * y : Nat) : Int)) = (if n then -(x : Int) else (x : Int)) * (y : Int) := by
  cases n <;> simp [Int.neg_mul]
theorem two_cast (k : Nat) : ((2 ^ k : Nat) : Int) = (2 : Int) ^ k := by simp
theorem D.pl_vl {d : D} (h : -40000 ≤ d.e) : d.pl.vl = d.vl := by
  by_cases h0 : d.x = 0
  · rw [D.pl_zero h0]
    have e2 : d.sz = 0 := by unfold D.sz; rw [h0]; cases d.neg <;> rfl
    have e3 : d.vl = 0 := by unfold D.vl; rw [e2, Int.zero_mul]
    rw [e3]
    exact Int.zero_mul _
  · rw [D.pl_pos h0]
    obtain ⟨h1, h2, h3⟩ := tz_blen h0
    unfold D.vl D.sz
    simp only
    generalize d.x / 2 ^ tz d.x = q at *
    generalize tz d.x = k at *
    rw [show (d.e + (k : Int) + 40000).toNat = k + (d.e + 40000).toNat from by omega, Int.pow_add, ← Int.mul_assoc, h2, Nat.mul_comm, sz_mul, two_cast]
theorem D.sz_natAbs (d : D) : d.sz.natAbs = d.x := by unfold D.sz; cases d.neg <;> simp
theorem D.vl_natAbs (d : D) : d.vl.natAbs = d.x * 2 ^ (d.e + 40000).toNat := by
  unfold D.vl
  rw [Int.natAbs_mul, D.sz_natAbs, ← two_cast, Int.natAbs_natCast]
theorem pow_pos_int (k : Nat) : (0 : Int) < 2 ^ k := by rw [← two_cast]; have := Nat.two_pow_pos k; omega
theorem D.vl_neg {d : D} : d.vl < 0 ↔ d.neg = true ∧ d.x ≠ 0 := by
  unfold D.vl D.sz
  have hp := pow_pos_int (d.e + 40000).toNat
  generalize (2 : Int) ^ (d.e + 40000).toNat = P at *
  cases d.neg
  · have h1 : 0 ≤ (d.x : Int) * P := Int.mul_nonneg (by omega) (by omega)
    constructor
    · intro h
      rw [if_neg (by decide)] at h
      omega
    · intro h
      cases h.1
  · rw [if_pos rfl, Int.neg_mul]
    constructor
    · intro h
      refine ⟨rfl, fun e => ?_⟩
      rw [e] at h
      simp at h
    · intro h
      have := Int.mul_pos (show (0 : Int) < d.x by omega) hp
      omega
theorem D.vl_zero {d : D} : d.vl = 0 ↔ d.x = 0 := by
  have h := D.vl_natAbs d
  have hp := Nat.two_pow_pos (d.e + 40000).toNat
  constructor
  · intro e
    rw [e] at h
    have := Nat.mul_eq_zero.1 h.symm
    omega
  · intro e
    rw [e, Nat.zero_mul] at h
    omega
theorem D.unique {a b : D} (ha : a.plain) (hb : b.plain) (ea : -40000 ≤ a.e) (eb : -40000 ≤ b.e) (h : a.vl = b.vl) : a = b := by
  have h0 : a.x = 0 ↔ b.x = 0 := by rw [← D.vl_zero, ← D.vl_zero, h]
  obtain ⟨an, ax, ae⟩ := a
  obtain ⟨bn, bx, be⟩ := b
  simp only at h0 ea eb
  rcases ha with ⟨h1, h2, h3⟩ | ha
  · simp only at h1 h2 h3
    rcases hb with ⟨k1, k2, k3⟩ | hb
    · simp only at k1 k2 k3
      rw [h1, h2, h3, k1, k2, k3]
    · simp only at hb
      have := h0.1 h1
      omega
  · simp only at ha
    rcases hb with ⟨k1, k2, k3⟩ | hb
    · simp only at k1
      have := h0.2 k1
      omega
    · simp only at hb
      have hn := D.vl_natAbs ⟨an, ax, ae⟩
      rw [h, D.vl_natAbs] at hn
      simp only at hn
      have hneg : an = bn := by
        have h1 := D.vl_neg (d := ⟨an, ax, ae⟩)
        have h2 := D.vl_neg (d := ⟨bn, bx, be⟩)
        rw [h] at h1
        have h3 := h1.symm.trans h2
        simp only at h3
        cases an <;> cases bn <;> first | rfl | (simp at h3; omega)
      have hc1 : Ctz (ax * 2 ^ (ae + 40000).toNat) (ae + 40000).toNat := ⟨Nat.mul_ne_zero (by omega) (Nat.ne_of_gt (Nat.two_pow_pos _)), ax / 2, by rw [Nat.mul_comm]; congr 1; omega⟩
      have hc2 : Ctz (bx * 2 ^ (be + 40000).toNat) (be + 40000).toNat := ⟨Nat.mul_ne_zero (by omega) (Nat.ne_of_gt (Nat.two_pow_pos _)), bx / 2, by rw [Nat.mul_comm]; congr 1; omega⟩
      rw [hn] at hc2
      have he := hc1.unique hc2
      have hee : ae = be := by omega
      subst hneg hee
      have := Nat.eq_of_mul_eq_mul_right (Nat.two_pow_pos _) hn
      rw [this]

/-- of the other sign. -/
def D.turn (d : D) : D := ⟨!d.neg, d.x, d.e⟩
theorem D.turn_vl (d : D) : d.turn.vl = -d.vl := by
  unfold D.turn D.vl D.sz
  cases d.neg <;> simp [Int.neg_mul]
theorem D.turn_may (d : D) : d.turn.may = d.may := rfl

/-- a number of whole z and e. -/
def D.mkz (z : Int) (e : Int) : D := ⟨decide (z < 0), z.natAbs, e⟩
theorem D.mkz_sz (z e : Int) : (D.mkz z e).sz = z := by
  unfold D.mkz D.sz
  by_cases h : z < 0
  · simp [h]; omega
  · simp [h]; omega
theorem D.mkz_vl (z e : Int) : (D.mkz z e).vl = z * 2 ^ (e + 40000).toNat := by
  unfold D.vl; rw [D.mkz_sz]; rfl

/-- the sum, plain. -/
def D.add (a b : D) : D := (D.mkz (a.sz * 2 ^ (a.e - min a.e b.e).toNat + b.sz * 2 ^ (b.e - min a.e b.e).toNat) (min a.e b.e)).pl
theorem scale (z e m : Int) (h : -40000 ≤ m) (hm : m ≤ e) : z * 2 ^ (e - m).toNat * 2 ^ (m + 40000).toNat = z * 2 ^ (e + 40000).toNat := by
  rw [Int.mul_assoc, ← Int.pow_add, show (e - m).toNat + (m + 40000).toNat = (e + 40000).toNat from by omega]
theorem D.add_vl {a b : D} (ha : -40000 ≤ a.e) (hb : -40000 ≤ b.e) : (a.add b).vl = a.vl + b.vl := by
  unfold D.add
  rw [D.pl_vl (by show -40000 ≤ min a.e b.e; omega), D.mkz_vl, Int.add_mul, scale _ _ _ (by omega) (by omega), scale _ _ _ (by omega) (by omega)]
  rfl
theorem D.add_plain (a b : D) : (a.add b).plain := D.pl_plain _
theorem D.pl_e (d : D) : (d.x = 0 → d.pl.e = 0) ∧ (d.x ≠ 0 → d.e ≤ d.pl.e) := by
  refine ⟨fun h => by rw [D.pl_zero h], fun h => ?_⟩
  rw [D.pl_pos h]
  show d.e ≤ d.e + (tz d.x : Int)
  omega
theorem D.pl_low {d : D} {m : Int} (h : m ≤ d.e) (hm : m ≤ 0) : m ≤ d.pl.e := by
  by_cases h0 : d.x = 0
  · rw [(D.pl_e d).1 h0]; exact hm
  · have := (D.pl_e d).2 h0; omega
theorem D.add_low {a b : D} {m : Int} (ha : m ≤ a.e) (hb : m ≤ b.e) (hm : m ≤ 0) : m ≤ (a.add b).e := by
  refine D.pl_low ?_ hm
  show m ≤ min a.e b.e
  omega
/-- what has the value of a sum, and is plain, is the sum. -/
theorem D.add_of {a b c : D} (ha : -40000 ≤ a.e) (hb : -40000 ≤ b.e) (hc : -40000 ≤ c.e) (hp : c.plain) (h : c.vl = a.vl + b.vl) : c = a.add b :=
  D.unique hp (D.add_plain a b) hc (D.add_low ha hb (by omega)) (by rw [h, D.add_vl ha hb])

/-- the product, plain. -/
def D.mul (a b : D) : D := (⟨a.neg != b.neg, a.x * b.x, a.e + b.e⟩ : D).pl
theorem D.mul_vl {a b : D} (ha : -20000 ≤ a.e) (hb : -20000 ≤ b.e) : (a.mul b).vl * 2 ^ 40000 = a.vl * b.vl := by
  have h1 : (a.mul b).vl = (⟨a.neg != b.neg, a.x * b.x, a.e + b.e⟩ : D).vl := D.pl_vl (by show -40000 ≤ a.e + b.e; omega)
  rw [h1]
  have hs : (⟨a.neg != b.neg, a.x * b.x, a.e + b.e⟩ : D).sz = a.sz * b.sz := by
    unfold D.sz
    cases a.neg <;> cases b.neg <;> simp [Int.neg_mul, Int.mul_neg]
  unfold D.vl
  rw [hs]
  have he : (2 : Int) ^ (a.e + b.e + 40000).toNat * 2 ^ 40000 = 2 ^ (a.e + 40000).toNat * 2 ^ (b.e + 40000).toNat := by
    rw [← Int.pow_add, ← Int.pow_add]
    congr 1
    omega
  rw [Int.mul_assoc, he]
  generalize (2 : Int) ^ (a.e + 40000).toNat = p
  generalize (2 : Int) ^ (b.e + 40000).toNat = q
  rw [Int.mul_assoc, Int.mul_assoc]
  congr 1
  rw [← Int.mul_assoc, ← Int.mul_assoc, Int.mul_comm b.sz p]
theorem D.mul_plain (a b : D) : (a.mul b).plain := D.pl_plain _
theorem D.mul_low {a b : D} {m : Int} (h : m ≤ a.e + b.e) (hm : m ≤ 0) : m ≤ (a.mul b).e := D.pl_low h hm
theorem D.mul_of {a b c : D} (ha : -20000 ≤ a.e) (hb : -20000 ≤ b.e) (hc : -40000 ≤ c.e) (hp : c.plain) (h : c.vl * 2 ^ 40000 = a.vl * b.vl) : c = a.mul b :=
  D.unique hp (D.mul_plain a b) hc (D.mul_low (by omega) (by omega)) (by
    rw [← D.mul_vl ha hb] at h
    exact Int.eq_of_mul_eq_mul_right (Int.ne_of_gt (pow_pos_int 40000)) h)
end Go.Proofs.YthaehfdjldjdiaaDoor
