/-
  Plain mathematics of whole numbers times powers of 2: nothing of a program. A number's value is reckoned in units of 2^-40000: then it is a whole number.
  The walks of dyad's isPlace, mayBeTaken, plain, sign, top.
  Variables of three cells at a function's start: what holds of the world behind them.
  The walks of dyad's bothPlain, told, aligned.
  The walks of dyad's aLessB, bLessA, aligned.
  Plain mathematics of whole numbers times powers of 2: sums and products of plain forms; bounds.
  The walks of dyad's Add, Sub.
-/
import Derived.Test.YtpachoeignpcbaaGreatDoorMA
import Derived.Test.YtpachoeignpcbaaGreatDoorND
import Derived.Deep.RegionHeld3
namespace Go.Proofs.YtpachoeignpcbaaGreatDoor
set_option linter.unusedVariables false

/-- how many bits 0 stand below the lowest 1. -/
def tz (x : Nat) : Nat := if h : x = 0 then 0 else if x % 2 = 1 then 0 else tz (x / 2) + 1
termination_by x
decreasing_by omega

theorem tz_ctz : ∀ x : Nat, x ≠ 0 → Ctz x (tz x) := by
  intro x
  induction x using Nat.strongRecOn with
  | _ x ih =>
    intro h
    rw [tz]
    rw [dif_neg h]
    by_cases h1 : x % 2 = 1
    · rw [if_pos h1]
      exact ⟨h, x / 2, by omega⟩
    · rw [if_neg h1]
      obtain ⟨_, m, hm⟩ := ih (x / 2) (by omega) (by omega)
      refine ⟨h, m, ?_⟩
      rw [Nat.pow_succ, Nat.mul_comm (2 ^ tz (x / 2)) 2, Nat.mul_assoc, ← hm]
      omega
theorem Ctz.eq_tz {x k : Nat} (h : Ctz x k) : k = tz x := h.unique (tz_ctz x h.1)
theorem tz_blen {x : Nat} (h : x ≠ 0) : tz x < blen x ∧ x = 2 ^ tz x * (x / 2 ^ tz x) ∧ x / 2 ^ tz x % 2 = 1 := by
  obtain ⟨_, m, hm⟩ := tz_ctz x h
  have hd : x / 2 ^ tz x = 2 * m + 1 := by
    have := Nat.mul_div_cancel_left (2 * m + 1) (Nat.two_pow_pos (tz x))
    rw [← hm] at this
    exact this
  refine ⟨?_, by rw [hd]; exact hm, by rw [hd]; omega⟩
  rcases Nat.lt_or_ge (tz x) (blen x) with h1 | h1
  · exact h1
  · have h2 := (blen_le x (tz x)).1 h1
    have h3 : 2 ^ tz x * 1 ≤ 2 ^ tz x * (2 * m + 1) := Nat.mul_le_mul_left _ (by omega)
    omega

/-- a whole number times a power of 2. -/
structure D where
  neg : Bool
  x : Nat
  e : Int

/-- with its sign. -/
def D.sz (d : D) : Int := if d.neg then -(d.x : Int) else (d.x : Int)
/-- its value, in units of 2^-40000. -/
def D.vl (d : D) : Int := d.sz * 2 ^ (d.e + 40000).toNat
/-- may it be taken? -/
def D.may (d : D) : Bool := decide (blen d.x ≤ 4096) && (decide (-8192 ≤ d.e) && decide (d.e ≤ 8192))
def D.plain (d : D) : Prop := (d.x = 0 ∧ d.neg = false ∧ d.e = 0) ∨ d.x % 2 = 1
def D.zero : D := ⟨false, 0, 0⟩
def D.pl (d : D) : D := if d.x = 0 then ⟨false, 0, 0⟩ else ⟨d.neg, d.x / 2 ^ tz d.x, d.e + tz d.x⟩

theorem D.may_iff (d : D) : d.may = true ↔ blen d.x ≤ 4096 ∧ -8192 ≤ d.e ∧ d.e ≤ 8192 := by
  unfold D.may; simp
theorem D.pl_zero {d : D} (h : d.x = 0) : d.pl = ⟨false, 0, 0⟩ := by unfold D.pl; rw [if_pos h]
theorem D.pl_pos {d : D} (h : d.x ≠ 0) : d.pl = ⟨d.neg, d.x / 2 ^ tz d.x, d.e + tz d.x⟩ := by unfold D.pl; rw [if_neg h]
theorem D.plain_zero : (⟨false, 0, 0⟩ : D).plain := .inl ⟨rfl, rfl, rfl⟩
theorem D.pl_plain (d : D) : d.pl.plain := by
  by_cases h : d.x = 0
  · rw [D.pl_zero h]; exact D.plain_zero
  · rw [D.pl_pos h]; exact .inr (tz_blen h).2.2
theorem sz_mul (n : Bool) (x y : Nat) : (if n then -((x * y : Nat) : Int) else ((x * y : Nat) : Int)) = (if n then -(x : Int) else (x : Int)) * (y : Int) := by
  cases n <;> simp [Int.neg_mul]
theorem two_cast (k : Nat) : ((2 ^ k : Nat) : Int) = (2 : Int) ^ k := by simp
theorem D.pl_vl {d : D} (h : -40000 ≤ d.e) : d.pl.vl = d.vl := by
  by_cases h0 : d.x = 0
  · rw [D.pl_zero h0]
    have e2 : d.sz = 0 := by unfold D.sz; rw [h0]; cases d.neg <;> rfl
    have e3 : d.vl = 0 := by unfold D.vl; rw [e2, Int.zero_mul]
    rw [e3]
    exact Int.zero_mul _
  · rw [D.pl_pos h0]
    obtain ⟨h1, h2, h3⟩ := tz_blen h0
    unfold D.vl D.sz
    simp only
    generalize d.x / 2 ^ tz d.x = q at *
    generalize tz d.x = k at *
    rw [show (d.e + (k : Int) + 40000).toNat = k + (d.e + 40000).toNat from by omega, Int.pow_add, ← Int.mul_assoc, h2, Nat.mul_comm, sz_mul, two_cast]
theorem D.sz_natAbs (d : D) : d.sz.natAbs = d.x := by unfold D.sz; cases d.neg <;> simp
theorem D.vl_natAbs (d : D) : d.vl.natAbs = d.x * 2 ^ (d.e + 40000).toNat := by
  unfold D.vl
  rw [Int.natAbs_mul, D.sz_natAbs, ← two_cast, Int.natAbs_natCast]
theorem pow_pos_int (k : Nat) : (0 : Int) < 2 ^ k := by rw [← two_cast]; have := Nat.two_pow_pos k; omega
theorem D.vl_neg {d : D} : d.vl < 0 ↔ d.neg = true ∧ d.x ≠ 0 := by
  unfold D.vl D.sz
  have hp := pow_pos_int (d.e + 40000).toNat
  generalize (2 : Int) ^ (d.e + 40000).toNat = P at *
  cases d.neg
  · have h1 : 0 ≤ (d.x : Int) * P := Int.mul_nonneg (by omega) (by omega)
    constructor
    · intro h
      rw [if_neg (by decide)] at h
      omega
    · intro h
      cases h.1
  · rw [if_pos rfl, Int.neg_mul]
    constructor
    · intro h
      refine ⟨rfl, fun e => ?_⟩
      rw [e] at h
      simp at h
    · intro h
      have := Int.mul_pos (show (0 : Int) < d.x by omega) hp
      omega
theorem D.vl_zero {d : D} : d.vl = 0 ↔ d.x = 0 := by
  have h := D.vl_natAbs d
  have hp := Nat.two_pow_pos (d.e + 40000).toNat
  constructor
  · intro e
    rw [e] at h
    have := Nat.mul_eq_zero.1 h.symm
    omega
  · intro e
    rw [e, Nat.zero_mul] at h
    omega
theorem D.unique {a b : D} (ha : a.plain) (hb : b.plain) (ea : -40000 ≤ a.e) (eb : -40000 ≤ b.e) (h : a.vl = b.vl) : a = b := by
  have h0 : a.x = 0 ↔ b.x = 0 := by rw [← D.vl_zero, ← D.vl_zero, h]
  obtain ⟨an, ax, ae⟩ := a
  obtain ⟨bn, bx, be⟩ := b
  simp only at h0 ea eb
  rcases ha with ⟨h1, h2, h3⟩ | ha
  · simp only at h1 h2 h3
    rcases hb with ⟨k1, k2, k3⟩ | hb
    · simp only at k1 k2 k3
      rw [h1, h2, h3, k1, k2, k3]
    · simp only at hb
      have := h0.1 h1
      omega
  · simp only at ha
    rcases hb with ⟨k1, k2, k3⟩ | hb
    · simp only at k1
      have := h0.2 k1
      omega
    · simp only at hb
      have hn := D.vl_natAbs ⟨an, ax, ae⟩
      rw [h, D.vl_natAbs] at hn
      simp only at hn
      have hneg : an = bn := by
        have h1 := D.vl_neg (d := ⟨an, ax, ae⟩)
        have h2 := D.vl_neg (d := ⟨bn, bx, be⟩)
        rw [h] at h1
        have h3 := h1.symm.trans h2
        simp only at h3
        cases an <;> cases bn <;> first | rfl | (simp at h3; omega)
      have hc1 : Ctz (ax * 2 ^ (ae + 40000).toNat) (ae + 40000).toNat := ⟨Nat.mul_ne_zero (by omega) (Nat.ne_of_gt (Nat.two_pow_pos _)), ax / 2, by rw [Nat.mul_comm]; congr 1; omega⟩
      have hc2 : Ctz (bx * 2 ^ (be + 40000).toNat) (be + 40000).toNat := ⟨Nat.mul_ne_zero (by omega) (Nat.ne_of_gt (Nat.two_pow_pos _)), bx / 2, by rw [Nat.mul_comm]; congr 1; omega⟩
      rw [hn] at hc2
      have he := hc1.unique hc2
      have hee : ae = be := by omega
      subst hneg hee
      have := Nat.eq_of_mul_eq_mul_right (Nat.two_pow_pos _) hn
      rw [this]

/-- of the other sign. -/
def D.turn (d : D) : D := ⟨!d.neg, d.x, d.e⟩
theorem D.turn_vl (d : D) : d.turn.vl = -d.vl := by
  unfold D.turn D.vl D.sz
  cases d.neg <;> simp [Int.neg_mul]
theorem D.turn_may (d : D) : d.turn.may = d.may := rfl

/-- a number of whole z and e. -/
def D.mkz (z : Int) (e : Int) : D := ⟨decide (z < 0), z.natAbs, e⟩
theorem D.mkz_sz (z e : Int) : (D.mkz z e).sz = z := by
  unfold D.mkz D.sz
  by_cases h : z < 0
  · simp [h]; omega
  · simp [h]; omega
theorem D.mkz_vl (z e : Int) : (D.mkz z e).vl = z * 2 ^ (e + 40000).toNat := by
  unfold D.vl; rw [D.mkz_sz]; rfl

/-- the sum, plain. -/
def D.add (a b : D) : D := (D.mkz (a.sz * 2 ^ (a.e - min a.e b.e).toNat + b.sz * 2 ^ (b.e - min a.e b.e).toNat) (min a.e b.e)).pl
theorem scale (z e m : Int) (h : -40000 ≤ m) (hm : m ≤ e) : z * 2 ^ (e - m).toNat * 2 ^ (m + 40000).toNat = z * 2 ^ (e + 40000).toNat := by
  rw [Int.mul_assoc, ← Int.pow_add, show (e - m).toNat + (m + 40000).toNat = (e + 40000).toNat from by omega]
theorem D.add_vl {a b : D} (ha : -40000 ≤ a.e) (hb : -40000 ≤ b.e) : (a.add b).vl = a.vl + b.vl := by
  unfold D.add
  rw [D.pl_vl (by show -40000 ≤ min a.e b.e; omega), D.mkz_vl, Int.add_mul, scale _ _ _ (by omega) (by omega), scale _ _ _ (by omega) (by omega)]
  rfl
theorem D.add_plain (a b : D) : (a.add b).plain := D.pl_plain _
theorem D.pl_e (d : D) : (d.x = 0 → d.pl.e = 0) ∧ (d.x ≠ 0 → d.e ≤ d.pl.e) := by
  refine ⟨fun h => by rw [D.pl_zero h], fun h => ?_⟩
  rw [D.pl_pos h]
  show d.e ≤ d.e + (tz d.x : Int)
  omega
theorem D.pl_low {d : D} {m : Int} (h : m ≤ d.e) (hm : m ≤ 0) : m ≤ d.pl.e := by
  by_cases h0 : d.x = 0
  · rw [(D.pl_e d).1 h0]; exact hm
  · have := (D.pl_e d).2 h0; omega
theorem D.add_low {a b : D} {m : Int} (ha : m ≤ a.e) (hb : m ≤ b.e) (hm : m ≤ 0) : m ≤ (a.add b).e := by
  refine D.pl_low ?_ hm
  show m ≤ min a.e b.e
  omega
/-- what has the value of a sum, and is plain, is the sum. -/
theorem D.add_of {a b c : D} (ha : -40000 ≤ a.e) (hb : -40000 ≤ b.e) (hc : -40000 ≤ c.e) (hp : c.plain) (h : c.vl = a.vl + b.vl) : c = a.add b :=
  D.unique hp (D.add_plain a b) hc (D.add_low ha hb (by omega)) (by rw [h, D.add_vl ha hb])

/-- the product, plain. -/
def D.mul (a b : D) : D := (⟨a.neg != b.neg, a.x * b.x, a.e + b.e⟩ : D).pl
theorem D.mul_vl {a b : D} (ha : -20000 ≤ a.e) (hb : -20000 ≤ b.e) : (a.mul b).vl * 2 ^ 40000 = a.vl * b.vl := by
  have h1 : (a.mul b).vl = (⟨a.neg != b.neg, a.x * b.x, a.e + b.e⟩ : D).vl := D.pl_vl (by show -40000 ≤ a.e + b.e; omega)
  rw [h1]
  have hs : (⟨a.neg != b.neg, a.x * b.x, a.e + b.e⟩ : D).sz = a.sz * b.sz := by
    unfold D.sz
    cases a.neg <;> cases b.neg <;> simp [Int.neg_mul, Int.mul_neg]
  unfold D.vl
  rw [hs]
  have he : (2 : Int) ^ (a.e + b.e + 40000).toNat * 2 ^ 40000 = 2 ^ (a.e + 40000).toNat * 2 ^ (b.e + 40000).toNat := by
    rw [← Int.pow_add, ← Int.pow_add]
    congr 1
    omega
  rw [Int.mul_assoc, he]
  generalize (2 : Int) ^ (a.e + 40000).toNat = p
  generalize (2 : Int) ^ (b.e + 40000).toNat = q
  rw [Int.mul_assoc, Int.mul_assoc]
  congr 1
  rw [← Int.mul_assoc, ← Int.mul_assoc, Int.mul_comm b.sz p]
theorem D.mul_plain (a b : D) : (a.mul b).plain := D.pl_plain _
theorem D.mul_low {a b : D} {m : Int} (h : m ≤ a.e + b.e) (hm : m ≤ 0) : m ≤ (a.mul b).e := D.pl_low h hm
theorem D.mul_of {a b c : D} (ha : -20000 ≤ a.e) (hb : -20000 ≤ b.e) (hc : -40000 ≤ c.e) (hp : c.plain) (h : c.vl * 2 ^ 40000 = a.vl * b.vl) : c = a.mul b :=
  D.unique hp (D.mul_plain a b) hc (D.mul_low (by omega) (by omega)) (by
    rw [← D.mul_vl ha hb] at h
    exact Int.eq_of_mul_eq_mul_right (Int.ne_of_gt (pow_pos_int 40000)) h)
end Go.Proofs.YtpachoeignpcbaaGreatDoor

namespace Go.Proofs.YtpachoeignpcbaaGreatDoor
open Go.RowKit
set_option linter.unusedVariables false

theorem bcell {W w1 : World} (hb : Below W.heap.size W w1) : (∀ b o, b < W.heap.size → w1.cell? ⟨b, o, none⟩ = W.cell? ⟨b, o, none⟩) ∧ (∀ b o, b < W.heap.size → w1.frozen? ⟨b, o, none⟩ = W.frozen? ⟨b, o, none⟩) :=
  ⟨fun b o h => hb.cell (p := ⟨b, o, none⟩) h, fun b o h => hb.frozen (p := ⟨b, o, none⟩) h⟩

def plB (e : Int) : Bool := decide (-8192 ≤ e) && decide (e ≤ 8192)
theorem plB_iff (e : Int) : plB e = true ↔ -8192 ≤ e ∧ e ≤ 8192 := by unfold plB; simp
theorem isPlace_any (e : Int) (w : World) :
    Calls Tryz.prog 129 #[.int .i64 e] w fun en w' => en = .returned (.bool (plB e)) ∧ w = w' := by
  obtain ⟨b, hb⟩ : ∃ b, plB e = b := ⟨_, rfl⟩
  rw [hb]
  have HB := Lib.hid hb
  clear hb
  by_cases h1 : -8192 ≤ e
  · by_cases h2 : e ≤ 8192
    · obtain rfl : b = true := by rw [← HB.out]; simp [plB, h1, h2]
      have d1 : decide (-8192 ≤ e) = true := decide_eq_true h1
      have d2 : decide (e ≤ 8192) = true := decide_eq_true h2
      go_enter Tryz.func129, Tryz.ntmps129
      go_wp2
      go_ret
      exact ⟨rfl, rfl⟩
    · obtain rfl : b = false := by rw [← HB.out]; simp [plB, h2]
      have d1 : decide (-8192 ≤ e) = true := decide_eq_true h1
      have d2 : decide (e ≤ 8192) = false := decide_eq_false h2
      go_enter Tryz.func129, Tryz.ntmps129
      go_wp2
      go_ret
      exact ⟨rfl, rfl⟩
  · obtain rfl : b = false := by rw [← HB.out]; simp [plB, h1]
    have d1 : decide (-8192 ≤ e) = false := decide_eq_false h1
    go_enter Tryz.func129, Tryz.ntmps129
    go_wp2
    go_ret
    exact ⟨rfl, rfl⟩

theorem ret_bool {a b : Bool} (h : a = b) : Ending.returned (.bool a) = .returned (.bool b) := by rw [h]
theorem Arg.alloc {w : World} {A : Option Addr} {n c x : Nat} (h : Arg w A n c x) (o : Obj) : Arg (w.alloc o) A n c x := h.on (below_lit w o)

theorem may_any {A : Option Addr} {n c x : Nat} {neg : Bool} {e : Int} {w : World} (h : Arg w A n c x) (hs : n ≤ 2000000) :
    Calls Tryz.prog 105 #[.agg #[.bool neg, .slice A n c, .int .i64 e]] w fun en w' => en = .returned (.bool (D.may ⟨neg, x, e⟩)) ∧ Below w.heap.size w w' := by
  have HM := Lib.hid (show D.may ⟨neg, x, e⟩ = (decide (blen x ≤ 4096) && plB e) from rfl)
  have HA := Lib.hid (fun o => len_any (h.alloc o) hs)
  generalize D.may ⟨neg, x, e⟩ = b at *
  generalize blen x = l at *
  obtain ⟨q, hq⟩ : ∃ q, plB e = q := ⟨_, rfl⟩
  rw [hq] at HM
  have HP := Lib.hid (fun W => isPlace_any e W)
  rw [hq] at HP
  clear hq h
  cases q
  · obtain rfl : b = false := by rw [HM.out]; simp
    go_enter Tryz.func105, Tryz.ntmps105
    go_wp2_with (go_at_call 129; refine (HP.out _).mono ?_; rintro e w' ⟨rfl, rfl⟩)
    go_ret
    exact ⟨rfl, below_lit _ _⟩
  · by_cases hl : l ≤ 4096
    · obtain rfl : b = true := by rw [HM.out]; simp [hl]
      go_enter Tryz.func105, Tryz.ntmps105
      go_wp2_with (first
        | (go_at_call 129; refine (HP.out _).mono ?_; rintro e w' ⟨rfl, rfl⟩)
        | (go_at_call 116; refine (HA.out _).mono ?_; rintro e w' ⟨rfl, rfl⟩))
      go_ret
      exact ⟨ret_bool (decide_eq_true (by omega)), below_lit _ _⟩
    · obtain rfl : b = false := by rw [HM.out]; simp [hl]
      go_enter Tryz.func105, Tryz.ntmps105
      go_wp2_with (first
        | (go_at_call 129; refine (HP.out _).mono ?_; rintro e w' ⟨rfl, rfl⟩)
        | (go_at_call 116; refine (HA.out _).mono ?_; rintro e w' ⟨rfl, rfl⟩))
      go_ret
      exact ⟨ret_bool (decide_eq_false (by omega)), below_lit _ _⟩

/-- no part of 32 bits. -/
def NotU (v : Value) : Prop := ∀ z, v ≠ .int .u32 z
theorem notU_bool (b : Bool) : NotU (.bool b) := fun z h => by cases h
theorem notU_slice (A : Option Addr) (n c : Nat) : NotU (.slice A n c) := fun z h => by cases h
theorem notU_int (e : Int) : NotU (.int .i64 e) := fun z h => by injection h with h1 h2; cases h1
theorem NR.put {w : World} {B n : Nat} {A : Option Addr} {xs : List Nat} (h : NR w B A n xs) {p : Addr} {u : Value} (hp : w.cell? p = some u) (hu : NotU u) (v : Value) : NR (w.setCell p v) B A n xs := by
  refine ⟨⟨h.1.1, fun i y hy => ?_⟩, h.2⟩
  obtain ⟨b, off, e, hb, hc⟩ := h.1.2 i y hy
  refine ⟨b, off, e, hb, ?_⟩
  rw [World.cell?_setCell_other]
  · exact hc
  · intro e
    rw [e, hc] at hp
    injection hp with hp
    rw [U_at] at hy
    cases hx : xs[i]? with
    | none => rw [hx] at hy; cases hy
    | some x =>
      rw [hx] at hy
      injection hy with hy
      exact hu _ (hp.symm.trans hy.symm)
theorem size_setCell (w : World) (p : Addr) (v : Value) : (w.setCell p v).heap.size = w.heap.size := by simp [World.setCell]
theorem Res.put {w : World} {A : Option Addr} {n x : Nat} (h : Res w A n x) {p : Addr} {u : Value} (hp : w.cell? p = some u) (hu : NotU u) (v : Value) : Res (w.setCell p v) A n x := by
  obtain ⟨xs, h1, h2, h3⟩ := h
  exact ⟨xs, by rw [size_setCell]; exact h1.put hp hu v, h2, h3⟩
theorem Arg.put {w : World} {A : Option Addr} {n c x : Nat} (h : Arg w A n c x) {p : Addr} {u : Value} (hp : w.cell? p = some u) (hu : NotU u) (v : Value) : Arg (w.setCell p v) A n c x := by
  obtain ⟨xs, h1, h2⟩ := h
  exact ⟨xs, by rw [size_setCell]; exact h1.put hp hu v, h2⟩

/-- block s is a variable of three cells, no part of 32 bits among them. -/
def Box (w : World) (s : Nat) (t : TypeId) (a b c : Value) : Prop := Own w s t [a, b, c] ∧ NotU a ∧ NotU b ∧ NotU c
/-- the variable is written. -/
abbrev put3 (w : World) (s : Nat) (a b c : Value) : World := ((w.setCell ⟨s, 0, none⟩ a).setCell ⟨s, 1, none⟩ b).setCell ⟨s, 2, none⟩ c
theorem Box.cells {w : World} {s : Nat} {t : TypeId} {a b c : Value} (h : Box w s t a b c) :
    w.cell? ⟨s, 0, none⟩ = some a ∧ w.cell? ⟨s, 1, none⟩ = some b ∧ w.cell? ⟨s, 2, none⟩ = some c ∧ w.frozen? ⟨s, 0, none⟩ = false ∧ w.frozen? ⟨s, 1, none⟩ = false ∧ w.frozen? ⟨s, 2, none⟩ = false ∧ s < w.heap.size :=
  ⟨h.1.cell 0, h.1.cell 1, h.1.cell 2, h.1.free 0, h.1.free 1, h.1.free 2, h.1.lt⟩
theorem Box.put {w : World} {s : Nat} {t : TypeId} {a b c : Value} (h : Box w s t a b c) {a' b' c' : Value} (ha : NotU a') (hb : NotU b') (hc : NotU c') : Box (put3 w s a' b' c') s t a' b' c' :=
  ⟨((h.1.put 0 a').put 1 b').put 2 c', ha, hb, hc⟩
theorem Box.below {w w' : World} {B s : Nat} {t : TypeId} {a b c : Value} (h : Box w s t a b c) (hb : Below B w w') (hs : s < B) : Box w' s t a b c := ⟨h.1.below hb hs, h.2⟩
theorem Box.on {w w' : World} {s : Nat} {t : TypeId} {a b c : Value} (h : Box w s t a b c) (hb : Below w.heap.size w w') : Box w' s t a b c := h.below hb h.1.lt
theorem Own.other {w : World} {g s i : Nat} {t : TypeId} {cs : List Value} (h : Own w g t cs) (hs : s ≠ g) (v : Value) : Own (w.setCell ⟨s, i, none⟩ v) g t cs := (Below.heap_setCell w ⟨s, i, none⟩ v g (fun e => hs e.symm)).trans h
theorem Box.other {w : World} {s g : Nat} {t : TypeId} {a b c : Value} (h : Box w g t a b c) (hs : s ≠ g) (a' b' c' : Value) : Box (put3 w s a' b' c') g t a b c :=
  ⟨((h.1.other hs _).other hs _).other hs _, h.2⟩
theorem Box.res {w : World} {s : Nat} {t : TypeId} {a b c : Value} (h : Box w s t a b c) {A : Option Addr} {n x : Nat} (hr : Res w A n x) (a' b' c' : Value) : Res (put3 w s a' b' c') A n x :=
  ((hr.put (h.1.cell 0) h.2.1 a').put ((h.1.put 0 a').cell 1) h.2.2.1 b').put (((h.1.put 0 a').put 1 b').cell 2) h.2.2.2 c'
theorem Box.arg {w : World} {s : Nat} {t : TypeId} {a b c : Value} (h : Box w s t a b c) {A : Option Addr} {n k x : Nat} (hr : Arg w A n k x) (a' b' c' : Value) : Arg (put3 w s a' b' c') A n k x :=
  ((hr.put (h.1.cell 0) h.2.1 a').put ((h.1.put 0 a').cell 1) h.2.2.1 b').put (((h.1.put 0 a').put 1 b').cell 2) h.2.2.2 c'
theorem put3_size (w : World) (s : Nat) (a b c : Value) : (put3 w s a b c).heap.size = w.heap.size := by simp [put3, World.setCell]
theorem below_put3 {B : Nat} {v w : World} (h : Below B v w) {s : Nat} (hs : B ≤ s) (a b c : Value) : Below B v (put3 w s a b c) := ((h.setCell (p := ⟨s, 0, none⟩) hs a).setCell (p := ⟨s, 1, none⟩) hs b).setCell (p := ⟨s, 2, none⟩) hs c
/-- a new variable. -/
theorem Box.made (w : World) (t : TypeId) {a b c : Value} (ha : NotU a) (hb : NotU b) (hc : NotU c) : Box (w.alloc (.cells #[a, b, c] t)) w.heap.size t a b c := ⟨Own.made w t [a, b, c], ha, hb, hc⟩
theorem Box.made_d (w : World) (t : TypeId) (neg : Bool) (A : Option Addr) (n c : Nat) (e : Int) : Box (w.alloc (.cells #[.bool neg, .slice A n c, .int .i64 e] t)) w.heap.size t (.bool neg) (.slice A n c) (.int .i64 e) :=
  Box.made w t (notU_bool _) (notU_slice _ _ _) (notU_int _)
theorem Box.made_d2 (w : World) (o : Obj) (t : TypeId) (neg : Bool) (A : Option Addr) (n c : Nat) (e : Int) : Box ((w.alloc o).alloc (.cells #[.bool neg, .slice A n c, .int .i64 e] t)) (w.heap.size + 1) t (.bool neg) (.slice A n c) (.int .i64 e) := by
  have := Box.made_d (w.alloc o) t neg A n c e
  rwa [show (w.alloc o).heap.size = w.heap.size + 1 by simp] at this
theorem Box.alloc {w : World} {s : Nat} {t : TypeId} {a b c : Value} (h : Box w s t a b c) (o : Obj) : Box (w.alloc o) s t a b c := h.on (below_lit w o)
theorem Box.put_d {w : World} {s : Nat} {t : TypeId} {a b c : Value} (h : Box w s t a b c) (neg : Bool) (A : Option Addr) (n k : Nat) (e : Int) : Box (put3 w s (.bool neg) (.slice A n k) (.int .i64 e)) s t (.bool neg) (.slice A n k) (.int .i64 e) :=
  h.put (notU_bool _) (notU_slice _ _ _) (notU_int _)

/-- a function that answers a number. -/
def PlPost (w : World) (d : D) (e : Ending) (w' : World) : Prop := ∃ A n, e = .returned (.agg #[.bool d.neg, .slice A n n, .int .i64 d.e]) ∧ Res w' A n d.x ∧ Below w.heap.size w w'

set_option maxHeartbeats 1000000 in
theorem plain_any {A : Option Addr} {n c x : Nat} {neg : Bool} {e : Int} {w : World} (h : Arg w A n c x) (hs : n ≤ 30000) (hT : Tab w) (he : -1000000 ≤ e) (he2 : e ≤ 1000000) :
    Calls Tryz.prog 106 #[.agg #[.bool neg, .slice A n c, .int .i64 e]] w (PlPost w (D.pl ⟨neg, x, e⟩)) := by
  have HA := Lib.hid (fun o o' => (h.alloc o).alloc o')
  have HT := Lib.hid (fun o o' => (hT.on (below_lit w o)).on (below_lit _ o'))
  by_cases h0 : x = 0
  · subst h0
    go_enter Tryz.func106, Tryz.ntmps106
    go_wp2_with fail
    refine (len_as 0 (HA.out _ _) (by omega) rfl).mono ?_
    rintro e w' ⟨rfl, rfl⟩
    go_wp2_with fail
    refine bodyPost_ret (v := .agg #[.bool false, .slice none 0 0, .int .i64 0]) (by simp [results, Tryz.results106, go_sem]) rfl ?_
    rw [D.pl_zero rfl]
    exact ⟨none, 0, rfl, Res.none_ _, ((Below.refl _ _).alloc (Nat.le_refl _) _).alloc (by simp) _⟩
  · have HB0 := Lib.hid (fun o => (Box.made_d w 48 neg A n c e).alloc o)
    have HB1 := Lib.hid (fun o => Box.made_d2 w o 48 false none 0 0 0)
    have HZ := Lib.hid (tz_ctz x h0)
    have HP := Lib.hid (D.pl_pos (d := ⟨neg, x, e⟩) h0)
    have hbl := h.blen
    have hb1 := (tz_blen h0).1
    have hbz : ((blen x : Int) == 0) = false := by simp; omega
    have HL := Lib.hid (fun o o' => len_any (HA.out o o') (by omega))
    have HD := Lib.hid (HZ.out.mod (tz x))
    generalize blen x = l at *
    obtain ⟨z, ez⟩ : ∃ z, tz x = z := ⟨_, rfl⟩
    rw [ez] at HZ hb1 HD
    have HEZ := Lib.hid ez
    clear ez h hT
    go_enter Tryz.func106, Tryz.ntmps106
    go_wp2_with fail
    refine (HL.out _ _).mono ?_
    rintro e w' ⟨rfl, rfl⟩
    go_wp2_with fail
    refine (zeros_as z (HA.out _ _) (by omega) (HT.out _ _) HZ.out).mono ?_
    rintro e w' ⟨rfl, rfl⟩
    go_wp2_with fail
    refine (right_as z (HA.out _ _) (by omega) (by omega) (HT.out _ _)).mono ?_
    rintro e w1 ⟨A', m, rfl, hr, hm, hb⟩
    have hbx := (HB1.out _).on hb
    obtain ⟨c0, c1, c2, f0, f1, f2, hlt⟩ := ((HB0.out _).on hb).cells
    obtain ⟨d0, d1, d2, g0, g1, g2, hlt2⟩ := hbx.cells
    have HR := Lib.hid (hbx.res hr)
    have HBB := Lib.hid hb
    clear hr hb hbx
    go_wp2_with fail
    refine bodyPost_ret (v := .agg #[.bool neg, .slice A' m m, .int .i64 (e + z)]) (by simp [results, Tryz.results106, go_sem, d0, d1, d2]) rfl ?_
    rw [HP.out, HEZ.out]
    exact ⟨A', m, rfl, HR.out _ _ _, below_put3 ((((Below.refl _ _).alloc (Nat.le_refl _) _).alloc (by simp) _).trans (HBB.out.mono (by simp; omega))) (by omega) _ _ _⟩

/-- -1, 0, 1 of a plain number. -/
def sg (neg : Bool) (x : Nat) : Int := if neg then -1 else if x = 0 then 0 else 1
theorem sign_any {A : Option Addr} {n c x : Nat} {neg : Bool} {e : Int} {w : World} (h : Res w A n x) (hn : n ≤ 1000000) :
    Calls Tryz.prog 136 #[.agg #[.bool neg, .slice A n c, .int .i64 e]] w fun en w' => en = .returned (.int .i64 (sg neg x)) ∧ Below w.heap.size w w' := by
  cases neg
  · by_cases h0 : n = 0
    · subst h0
      have hx := h.zero_len
      subst hx
      go_enter Tryz.func136, Tryz.ntmps136
      go_wp2
      go_ret
      exact ⟨rfl, below_lit _ _⟩
    · have hx := h.pos_len h0
      have e1 : sg false x = 1 := by unfold sg; simp [hx]
      rw [e1]
      clear e1
      have e2 : min (n : Int) 1 = 1 := by omega
      have E2 := Lib.hid e2
      clear e2
      go_enter Tryz.func136, Tryz.ntmps136
      go_wp2
      go_ret
      exact ⟨ret_int E2.out, below_lit _ _⟩
  · go_enter Tryz.func136, Tryz.ntmps136
    go_wp2
    go_ret
    exact ⟨rfl, below_lit _ _⟩

theorem top_any {A : Option Addr} {n c x : Nat} {neg : Bool} {e : Int} {w : World} (h : Arg w A n c x) (hs : n ≤ 30000) (he : -1000000 ≤ e) (he2 : e ≤ 1000000) :
    Calls Tryz.prog 137 #[.agg #[.bool neg, .slice A n c, .int .i64 e]] w fun en w' => en = .returned (.int .i64 ((blen x : Int) - 1 + e)) ∧ Below w.heap.size w w' := by
  have hbl := h.blen
  have HL := Lib.hid (fun o (m : Nat) => len_any (((h.alloc o).on (below_drewN (Below.refl _ _) m))) (by omega))
  generalize blen x = l at *
  have q1 : IntKind.i64.wrap ((l : Int) - 1) = (l : Int) - 1 := IntWalk.i64_in _ (by omega)
  have q2 : IntKind.i64.wrap ((l : Int) - 1 + e) = (l : Int) - 1 + e := IntWalk.i64_in _ (by omega)
  clear h
  go_enter Tryz.func137, Tryz.ntmps137
  go_wp2_with fail
  go_quiet ((go_at_call 116; exact quiet_at (HL.out _ _) ⟨_, rfl⟩))
  go_wp2_with fail
  go_ret
  exact ⟨rfl, below_drewN (below_lit _ _) _⟩
end Go.Proofs.YtpachoeignpcbaaGreatDoor

namespace Go.Proofs.YtpachoeignpcbaaGreatDoor
open Go.RowKit
set_option linter.unusedVariables false

abbrev dob (neg : Bool) (A : Option Addr) (n c : Nat) (e : Int) (t : TypeId) : Obj := .cells #[.bool neg, .slice A n c, .int .i64 e] t
abbrev DB (w : World) (s : Nat) (t : TypeId) (neg : Bool) (A : Option Addr) (n c : Nat) (e : Int) : Prop := Box w s t (.bool neg) (.slice A n c) (.int .i64 e)
theorem DB.made (w : World) {s : Nat} (hs : w.heap.size = s) (t : TypeId) (neg : Bool) (A : Option Addr) (n c : Nat) (e : Int) : DB (w.alloc (dob neg A n c e t)) s t neg A n c e := by
  subst hs; exact Box.made_d w t neg A n c e
theorem Tab.put3 {w : World} (h : Tab w) {s : Nat} (hs : 1 < s) (a b c : Value) : Tab (put3 w s a b c) := fun j hj => by
  have h1 := below_put3 (Below.refl s w) (Nat.le_refl s) a b c
  exact (h1.cell (p := ⟨_, j, none⟩) hs).trans (h j hj)
theorem put3_named (w : World) (s : Nat) (a b c : Value) : ∃ w2, ((w.setCell ⟨s, 0, none⟩ a).setCell ⟨s, 1, none⟩ b).setCell ⟨s, 2, none⟩ c = w2 ∧ put3 w s a b c = w2 := ⟨_, rfl, rfl⟩
theorem frame1 (w : World) (t0 : TypeId) (n0 : Bool) (A0 : Option Addr) (l0 c0 : Nat) (e0 : Int) :
    ∃ W, (w.alloc (dob n0 A0 l0 c0 e0 t0)) = W ∧ DB W w.heap.size t0 n0 A0 l0 c0 e0 ∧ Below w.heap.size w W ∧ W.heap.size = w.heap.size + 1 :=
  ⟨_, rfl, DB.made _ (by simp) t0 n0 A0 l0 c0 e0, (Below.refl _ _).alloc (by simp <;> omega) _, by simp⟩
theorem frame2 (w : World) (t0 t1 : TypeId) (n0 : Bool) (A0 : Option Addr) (l0 c0 : Nat) (e0 : Int) (n1 : Bool) (A1 : Option Addr) (l1 c1 : Nat) (e1 : Int) :
    ∃ W, ((w.alloc (dob n0 A0 l0 c0 e0 t0)).alloc (dob n1 A1 l1 c1 e1 t1)) = W ∧ DB W w.heap.size t0 n0 A0 l0 c0 e0 ∧ DB W (w.heap.size + 1) t1 n1 A1 l1 c1 e1 ∧ Below w.heap.size w W ∧ W.heap.size = w.heap.size + 2 :=
  ⟨_, rfl, (DB.made _ (by simp) t0 n0 A0 l0 c0 e0).alloc _, DB.made _ (by simp) t1 n1 A1 l1 c1 e1, ((Below.refl _ _).alloc (by simp <;> omega) _).alloc (by simp <;> omega) _, by simp⟩
theorem frame3 (w : World) (t0 t1 t2 : TypeId) (n0 : Bool) (A0 : Option Addr) (l0 c0 : Nat) (e0 : Int) (n1 : Bool) (A1 : Option Addr) (l1 c1 : Nat) (e1 : Int) (n2 : Bool) (A2 : Option Addr) (l2 c2 : Nat) (e2 : Int) :
    ∃ W, (((w.alloc (dob n0 A0 l0 c0 e0 t0)).alloc (dob n1 A1 l1 c1 e1 t1)).alloc (dob n2 A2 l2 c2 e2 t2)) = W ∧ DB W w.heap.size t0 n0 A0 l0 c0 e0 ∧ DB W (w.heap.size + 1) t1 n1 A1 l1 c1 e1 ∧ DB W (w.heap.size + 1 + 1) t2 n2 A2 l2 c2 e2 ∧ Below w.heap.size w W ∧ W.heap.size = w.heap.size + 3 :=
  ⟨_, rfl, ((DB.made _ (by simp) t0 n0 A0 l0 c0 e0).alloc _).alloc _, (DB.made _ (by simp) t1 n1 A1 l1 c1 e1).alloc _, DB.made _ (by simp) t2 n2 A2 l2 c2 e2, (((Below.refl _ _).alloc (by simp <;> omega) _).alloc (by simp <;> omega) _).alloc (by simp <;> omega) _, by simp⟩
theorem frame4 (w : World) (t0 t1 t2 t3 : TypeId) (n0 : Bool) (A0 : Option Addr) (l0 c0 : Nat) (e0 : Int) (n1 : Bool) (A1 : Option Addr) (l1 c1 : Nat) (e1 : Int) (n2 : Bool) (A2 : Option Addr) (l2 c2 : Nat) (e2 : Int) (n3 : Bool) (A3 : Option Addr) (l3 c3 : Nat) (e3 : Int) :
    ∃ W, ((((w.alloc (dob n0 A0 l0 c0 e0 t0)).alloc (dob n1 A1 l1 c1 e1 t1)).alloc (dob n2 A2 l2 c2 e2 t2)).alloc (dob n3 A3 l3 c3 e3 t3)) = W ∧ DB W w.heap.size t0 n0 A0 l0 c0 e0 ∧ DB W (w.heap.size + 1) t1 n1 A1 l1 c1 e1 ∧ DB W (w.heap.size + 1 + 1) t2 n2 A2 l2 c2 e2 ∧ DB W (w.heap.size + 1 + 1 + 1) t3 n3 A3 l3 c3 e3 ∧ Below w.heap.size w W ∧ W.heap.size = w.heap.size + 4 :=
  ⟨_, rfl, (((DB.made _ (by simp) t0 n0 A0 l0 c0 e0).alloc _).alloc _).alloc _, ((DB.made _ (by simp) t1 n1 A1 l1 c1 e1).alloc _).alloc _, (DB.made _ (by simp) t2 n2 A2 l2 c2 e2).alloc _, DB.made _ (by simp) t3 n3 A3 l3 c3 e3, ((((Below.refl _ _).alloc (by simp <;> omega) _).alloc (by simp <;> omega) _).alloc (by simp <;> omega) _).alloc (by simp <;> omega) _, by simp⟩
end Go.Proofs.YtpachoeignpcbaaGreatDoor

namespace Go.Proofs.YtpachoeignpcbaaGreatDoor
open Go.RowKit
set_option linter.unusedVariables false

def BPost (w : World) (a b : D) (e : Ending) (w' : World) : Prop :=
  ∃ A1 n1 A2 n2, e = .returned (.tuple #[.agg #[.bool a.neg, .slice A1 n1 n1, .int .i64 a.e], .agg #[.bool b.neg, .slice A2 n2 n2, .int .i64 b.e], .int .i64 0]) ∧ Res w' A1 n1 a.x ∧ Res w' A2 n2 b.x ∧ Below w.heap.size w w'
def BErr (w : World) (e : Ending) (w' : World) : Prop :=
  e = .returned (.tuple #[.agg #[.bool false, .slice none 0 0, .int .i64 0], .agg #[.bool false, .slice none 0 0, .int .i64 0], .int .i64 3]) ∧ Below w.heap.size w w'

theorem may_as {A : Option Addr} {n c x : Nat} {neg : Bool} {e : Int} {w : World} (b : Bool) (h : Arg w A n c x) (hs : n ≤ 2000000) (hb : D.may ⟨neg, x, e⟩ = b) :
    Calls Tryz.prog 105 #[.agg #[.bool neg, .slice A n c, .int .i64 e]] w fun en w' => en = .returned (.bool b) ∧ Below w.heap.size w w' := by
  subst hb; exact may_any h hs

set_option maxHeartbeats 4000000 in
theorem both_plain {A1 A2 : Option Addr} {n1 c1 n2 c2 x y : Nat} {na nb : Bool} {ea eb : Int} {w : World} (h1 : Arg w A1 n1 c1 x) (h2 : Arg w A2 n2 c2 y) (s1 : n1 ≤ 30000) (s2 : n2 ≤ 30000) (hT : Tab w)
    (ma : D.may ⟨na, x, ea⟩ = true) (mb : D.may ⟨nb, y, eb⟩ = true) :
    Calls Tryz.prog 78 #[.agg #[.bool na, .slice A1 n1 c1, .int .i64 ea], .agg #[.bool nb, .slice A2 n2 c2, .int .i64 eb]] w (BPost w (D.pl ⟨na, x, ea⟩) (D.pl ⟨nb, y, eb⟩)) := by
  have MA := Lib.hid ma
  have MB := Lib.hid mb
  have ha := (D.may_iff _).1 ma
  have hb := (D.may_iff _).1 mb
  simp only at ha hb
  obtain ⟨ha1, ha2, ha3⟩ := ha
  obtain ⟨hb1, hb2, hb3⟩ := hb
  clear ma mb
  go_enter Tryz.func78, Tryz.ntmps78
  go_wp2_with fail
  obtain ⟨W, hW, z0, z1, z2, z3, BW, sW⟩ := frame4 w 48 48 48 48 na A1 n1 c1 ea nb A2 n2 c2 eb false none 0 0 0 false none 0 0 0
  rw [hW]
  clear hW
  refine (may_as true (h1.on BW) (by omega) MA.out).mono ?_
  rintro e w1 ⟨rfl, b⟩
  have z0 := z0.on b
  have z1 := z1.on b
  have z2 := z2.on b
  have z3 := z3.on b
  have BW := Below.step BW b
  have sW : w.heap.size + 4 ≤ w1.heap.size := by have := b.size; omega
  clear b
  obtain ⟨c0, c1', c2', f0, f1, f2, _⟩ := z1.cells
  go_wp2_with fail
  refine (may_as true (h2.on BW) (by omega) MB.out).mono ?_
  rintro e w2 ⟨rfl, b⟩
  clear c0 c1' c2' f0 f1 f2
  have z0 := z0.on b
  have z1 := z1.on b
  have z2 := z2.on b
  have z3 := z3.on b
  have BW := Below.step BW b
  have sW : w.heap.size + 4 ≤ w2.heap.size := by have := b.size; omega
  clear b
  go_wp2_with fail
  have HS : Hid (∀ w', Below (w.heap.size + 1 + 1) w2 w' → w'.cell? ⟨w.heap.size, 0, none⟩ = some (.bool na) ∧ w'.cell? ⟨w.heap.size, 1, none⟩ = some (.slice A1 n1 c1) ∧ w'.cell? ⟨w.heap.size, 2, none⟩ = some (.int .i64 ea) ∧
      w'.cell? ⟨w.heap.size + 1, 0, none⟩ = some (.bool nb) ∧ w'.cell? ⟨w.heap.size + 1, 1, none⟩ = some (.slice A2 n2 c2) ∧ w'.cell? ⟨w.heap.size + 1, 2, none⟩ = some (.int .i64 eb)) := fun w' hb => by
    obtain ⟨p0, p1, p2, _⟩ := (z0.below hb (by omega)).cells
    obtain ⟨q0, q1, q2, _⟩ := (z1.below hb (by omega)).cells
    exact ⟨p0, p1, p2, q0, q1, q2⟩
  have HB := Lib.hid BW
  have Z2 := Lib.hid z2
  have Z3 := Lib.hid z3
  clear BW z0 z1 z2 z3
  have k2 : Below (w.heap.size + 1 + 1) w2 w2.drew := (Below.refl _ _).drew
  go_region_held3 (fun w' => w'.cell? ⟨w.heap.size, 0, none⟩ = some (.bool na) ∧ w'.cell? ⟨w.heap.size, 1, none⟩ = some (.slice A1 n1 c1) ∧ w'.cell? ⟨w.heap.size, 2, none⟩ = some (.int .i64 ea) ∧
      w'.cell? ⟨w.heap.size + 1, 0, none⟩ = some (.bool nb) ∧ w'.cell? ⟨w.heap.size + 1, 1, none⟩ = some (.slice A2 n2 c2) ∧ w'.cell? ⟨w.heap.size + 1, 2, none⟩ = some (.int .i64 eb))
    ((refine HS.out _ ?_; first | (with_reducible assumption) | ((with_reducible refine below_put3 ?_ ?_ _ _ _) <;> first | (with_reducible assumption) | omega | ((with_reducible refine below_put3 ?_ ?_ _ _ _) <;> first | (with_reducible assumption) | omega))))
    (first
      | (go_at_call_of 106 (Value.agg #[.bool na, .slice A1 n1 c1, .int .i64 ea])
         refine (plain_any (h1.on (HB.out.drew)) (by omega) (hT.on (HB.out.drew)) (by omega) (by omega)).mono ?_
         rintro e w3 ⟨B1, m1, rfl, r1, b3⟩
         have b3 := Below.step ((Below.refl _ w2).drew) b3
         have k3 : Below (w.heap.size + 1 + 1) w2 w3 := b3.mono (by omega)
         have R1 := Lib.hid r1
         have K3 := Lib.hid b3
         clear r1 b3)
      | (go_at_call_of 106 (Value.agg #[.bool nb, .slice A2 n2 c2, .int .i64 eb])
         have q3 : Below w.heap.size w w3 := HB.out.trans (k3.mono (by omega))
         have hz3 := K3.out.size
         refine (plain_any (h2.on q3) (by omega) (hT.on q3) (by omega) (by omega)).mono ?_
         rintro e w4 ⟨B2, m2, rfl, r2, b4⟩
         have k4 : Below (w.heap.size + 1 + 1) w2 w4 := k3.trans (b4.mono (by omega))
         have R1 := Lib.hid (R1.out.on b4)
         have R2 := Lib.hid r2
         have Z2 := Lib.hid ((Z2.out.on (K3.out)).on b4)
         have Z3 := Lib.hid ((Z3.out.on (K3.out)).on b4)
         obtain ⟨p0, p1, p2, g0, g1, g2, _⟩ := Z2.out.cells
         obtain ⟨q0, q1, q2, i0, i1, i2, _⟩ := Z3.out.cells
         clear r2 b4 q3))
  go_wp2_with fail
  refine bodyPost_ret (v := .tuple #[.agg #[.bool (D.pl ⟨na, x, ea⟩).neg, .slice B1 m1 m1, .int .i64 (D.pl ⟨na, x, ea⟩).e], .agg #[.bool (D.pl ⟨nb, y, eb⟩).neg, .slice B2 m2 m2, .int .i64 (D.pl ⟨nb, y, eb⟩).e], .int .i64 0]) (by simp [results, Tryz.results78, go_sem, p0, p1, p2, q0, q1, q2]) rfl ?_
  have z3 := Z3.out.other (s := w.heap.size + 1 + 1) (by omega) (.bool (D.pl ⟨na, x, ea⟩).neg) (.slice B1 m1 m1) (.int .i64 (D.pl ⟨na, x, ea⟩).e)
  exact ⟨B1, m1, B2, m2, rfl, z3.res (Z2.out.res R1.out _ _ _) _ _ _, z3.res (Z2.out.res R2.out _ _ _) _ _ _, below_put3 (below_put3 (HB.out.trans (k4.mono (by omega))) (by omega) _ _ _) (by omega) _ _ _⟩

theorem both_err {A1 A2 : Option Addr} {n1 c1 n2 c2 x y : Nat} {na nb : Bool} {ea eb : Int} {w : World} (h1 : Arg w A1 n1 c1 x) (h2 : Arg w A2 n2 c2 y) (s1 : n1 ≤ 30000) (s2 : n2 ≤ 30000)
    (hm : D.may ⟨na, x, ea⟩ = false ∨ D.may ⟨nb, y, eb⟩ = false) :
    Calls Tryz.prog 78 #[.agg #[.bool na, .slice A1 n1 c1, .int .i64 ea], .agg #[.bool nb, .slice A2 n2 c2, .int .i64 eb]] w (BErr w) := by
  obtain ⟨ma, hma⟩ : ∃ b, D.may ⟨na, x, ea⟩ = b := ⟨_, rfl⟩
  obtain ⟨mb, hmb⟩ : ∃ b, D.may ⟨nb, y, eb⟩ = b := ⟨_, rfl⟩
  rw [hma, hmb] at hm
  have MA := Lib.hid hma
  have MB := Lib.hid hmb
  clear hma hmb
  cases ma
  · clear hm
    go_enter Tryz.func78, Tryz.ntmps78
    go_wp2_with fail
    obtain ⟨W, hW, z0, z1, z2, z3, BW, sW⟩ := frame4 w 48 48 48 48 na A1 n1 c1 ea nb A2 n2 c2 eb false none 0 0 0 false none 0 0 0
    rw [hW]
    clear hW
    refine (may_as false (h1.on BW) (by omega) MA.out).mono ?_
    rintro e w1 ⟨rfl, b⟩
    obtain ⟨p0, p1, p2, g0, g1, g2, _⟩ := (z2.on b).cells
    obtain ⟨q0, q1, q2, i0, i1, i2, _⟩ := (z3.on b).cells
    have BW := Below.step BW b
    clear b
    go_wp2_with fail
    refine bodyPost_ret (v := .tuple #[.agg #[.bool false, .slice none 0 0, .int .i64 0], .agg #[.bool false, .slice none 0 0, .int .i64 0], .int .i64 3]) (by simp [results, Tryz.results78, go_sem, p0, p1, p2, q0, q1, q2]) rfl ?_
    exact ⟨rfl, below_put3 (below_put3 BW (by omega) _ _ _) (by omega) _ _ _⟩
  · cases mb
    · clear hm
      go_enter Tryz.func78, Tryz.ntmps78
      go_wp2_with fail
      obtain ⟨W, hW, z0, z1, z2, z3, BW, sW⟩ := frame4 w 48 48 48 48 na A1 n1 c1 ea nb A2 n2 c2 eb false none 0 0 0 false none 0 0 0
      rw [hW]
      clear hW
      refine (may_as true (h1.on BW) (by omega) MA.out).mono ?_
      rintro e w1 ⟨rfl, b⟩
      obtain ⟨c0, c1', c2', f0, f1, f2, _⟩ := (z1.on b).cells
      have z2 := z2.on b
      have z3 := z3.on b
      have BW := Below.step BW b
      clear b
      go_wp2_with fail
      refine (may_as false (h2.on BW) (by omega) MB.out).mono ?_
      rintro e w2 ⟨rfl, b⟩
      clear c0 c1' c2' f0 f1 f2
      obtain ⟨p0, p1, p2, g0, g1, g2, _⟩ := (z2.on b).cells
      obtain ⟨q0, q1, q2, i0, i1, i2, _⟩ := (z3.on b).cells
      have BW := Below.step BW b
      clear b
      go_wp2_with fail
      refine bodyPost_ret (v := .tuple #[.agg #[.bool false, .slice none 0 0, .int .i64 0], .agg #[.bool false, .slice none 0 0, .int .i64 0], .int .i64 3]) (by simp [results, Tryz.results78, go_sem, p0, p1, p2, q0, q1, q2]) rfl ?_
      exact ⟨rfl, below_put3 (below_put3 BW (by omega) _ _ _) (by omega) _ _ _⟩
    · rcases hm with hm | hm <;> cases hm

/-- a function that answers a number and an error. -/
def DPost (w : World) (r : D × Int) (e : Ending) (w' : World) : Prop := ∃ A n, e = .returned (.tuple #[.agg #[.bool r.1.neg, .slice A n n, .int .i64 r.1.e], .int .i64 r.2]) ∧ Res w' A n r.1.x ∧ Below w.heap.size w w'
/-- what is told of a plain number. -/
def tld (d : D) : D × Int := if d.may then (d, 0) else (⟨false, 0, 0⟩, 6)

theorem res_n_le {w : World} {A : Option Addr} {n x k : Nat} (h : Res w A n x) (hk : blen x ≤ 32 * k) : n ≤ k := h.size (by rw [pw_two]; exact (blen_le _ _).1 hk)
theorem pl_blen (d : D) : blen d.pl.x ≤ blen d.x := by
  by_cases h : d.x = 0
  · rw [D.pl_zero h]; exact Nat.zero_le _
  · rw [D.pl_pos h]; exact blen_le_of (Nat.div_le_self _ _)

set_option maxHeartbeats 1000000 in
theorem told_any {A : Option Addr} {n c x : Nat} {neg : Bool} {e : Int} {w : World} (h : Arg w A n c x) (hs : n ≤ 30000) (hT : Tab w) (he : -1000000 ≤ e) (he2 : e ≤ 1000000) :
    Calls Tryz.prog 80 #[.agg #[.bool neg, .slice A n c, .int .i64 e]] w (DPost w (tld (D.pl ⟨neg, x, e⟩))) := by
  have hbl : blen (D.pl ⟨neg, x, e⟩).x ≤ 32 * n := Nat.le_trans (pl_blen _) h.blen
  go_enter Tryz.func80, Tryz.ntmps80
  go_wp2_with fail
  obtain ⟨W, hW, z0, z1, BW, sW⟩ := frame2 w 48 48 neg A n c e false none 0 0 0
  rw [hW]
  clear hW
  refine (plain_any (h.on BW) hs (hT.on BW) he he2).mono ?_
  rintro en w1 ⟨A1, n1, rfl, r1, b⟩
  generalize D.pl ⟨neg, x, e⟩ = d at *
  obtain ⟨dn, dx, de⟩ := d
  simp only at hbl r1
  have hn1 := res_n_le r1 hbl
  have z0 := z0.on b
  have z1 := z1.on b
  have BW := Below.step BW b
  clear b
  obtain ⟨p0, p1, p2, g0, g1, g2, _⟩ := z0.cells
  go_wp2_with fail
  obtain ⟨w2, hw1, hw2⟩ := put3_named w1 w.heap.size (.bool dn) (.slice A1 n1 n1) (.int .i64 de)
  have r1 := z0.res r1 (.bool dn) (.slice A1 n1 n1) (.int .i64 de)
  have z1 := z1.other (s := w.heap.size) (by omega) (.bool dn) (.slice A1 n1 n1) (.int .i64 de)
  have z0 := z0.put_d dn A1 n1 n1 de
  have BW := below_put3 BW (Nat.le_refl _) (.bool dn) (.slice A1 n1 n1) (.int .i64 de)
  clear p0 p1 p2 g0 g1 g2
  rw [hw1]
  rw [hw2] at r1 z0 z1 BW
  clear hw1 hw2
  obtain ⟨m, hm⟩ : ∃ b, D.may ⟨dn, dx, de⟩ = b := ⟨_, rfl⟩
  refine (may_as m (r1.arg (by omega)) (by omega) hm).mono ?_
  rintro en w3 ⟨rfl, b⟩
  have z0 := z0.on b
  have z1 := z1.on b
  have r1 := r1.on b
  have BW := Below.step BW b
  obtain ⟨p0, p1, p2, g0, g1, g2, _⟩ := z0.cells
  obtain ⟨q0, q1, q2, i0, i1, i2, _⟩ := z1.cells
  have HM := Lib.hid hm
  clear b hm
  cases m
  · go_wp2_with fail
    refine bodyPost_ret (v := .tuple #[.agg #[.bool false, .slice none 0 0, .int .i64 0], .int .i64 6]) (by simp [results, Tryz.results80, go_sem, q0, q1, q2]) rfl ?_
    have e1 : tld ⟨dn, dx, de⟩ = (⟨false, 0, 0⟩, 6) := by unfold tld; rw [HM.out]; rfl
    rw [e1]
    exact ⟨none, 0, rfl, Res.none_ _, below_put3 BW (by omega) _ _ _⟩
  · go_wp2_with fail
    refine bodyPost_ret (v := .tuple #[.agg #[.bool dn, .slice A1 n1 n1, .int .i64 de], .int .i64 0]) (by simp [results, Tryz.results80, go_sem, q0, q1, q2]) rfl ?_
    have e1 : tld ⟨dn, dx, de⟩ = (⟨dn, dx, de⟩, 0) := by unfold tld; rw [HM.out]; rfl
    rw [e1]
    exact ⟨A1, n1, rfl, z1.res r1 _ _ _, below_put3 BW (by omega) _ _ _⟩
end Go.Proofs.YtpachoeignpcbaaGreatDoor

namespace Go.Proofs.YtpachoeignpcbaaGreatDoor
open Go.RowKit
set_option linter.unusedVariables false

theorem aless_any {A1 A2 : Option Addr} {n1 c1 n2 c2 x y : Nat} {w : World} (h1 : Arg w A1 n1 c1 x) (h2 : Arg w A2 n2 c2 y) (s1 : n1 ≤ 1000000) (s2 : n2 ≤ 1000000) (hle : y ≤ x) :
    Calls Tryz.prog 82 #[.agg #[.slice A1 n1 c1, .slice A2 n2 c2]] w (NatPost w (x - y) n1) := by
  go_enter Tryz.func82, Tryz.ntmps82
  go_wp2_with fail
  refine (sub_any (h1.alloc _) (h2.alloc _) s1 s2 hle).mono ?_
  rintro e w1 ⟨A, n, rfl, hr, hn, b⟩
  go_wp2_with fail
  go_ret
  exact ⟨A, n, rfl, hr, hn, Below.step (below_lit _ _) b⟩
theorem bless_any {A1 A2 : Option Addr} {n1 c1 n2 c2 x y : Nat} {w : World} (h1 : Arg w A1 n1 c1 x) (h2 : Arg w A2 n2 c2 y) (s1 : n1 ≤ 1000000) (s2 : n2 ≤ 1000000) (hle : x ≤ y) :
    Calls Tryz.prog 84 #[.agg #[.slice A1 n1 c1, .slice A2 n2 c2]] w (NatPost w (y - x) n2) := by
  go_enter Tryz.func84, Tryz.ntmps84
  go_wp2_with fail
  refine (sub_any (h2.alloc _) (h1.alloc _) s2 s1 hle).mono ?_
  rintro e w1 ⟨A, n, rfl, hr, hn, b⟩
  go_wp2_with fail
  go_ret
  exact ⟨A, n, rfl, hr, hn, Below.step (below_lit _ _) b⟩

/-- block s is a variable of two slices. -/
def Bx2 (w : World) (s : Nat) (A1 : Option Addr) (n1 c1 : Nat) (A2 : Option Addr) (n2 c2 : Nat) : Prop := Own w s 107 [.slice A1 n1 c1, .slice A2 n2 c2]
abbrev put2 (w : World) (s : Nat) (a b : Value) : World := (w.setCell ⟨s, 0, none⟩ a).setCell ⟨s, 1, none⟩ b
theorem put2_named (w : World) (s : Nat) (a b : Value) : ∃ w2, (w.setCell ⟨s, 0, none⟩ a).setCell ⟨s, 1, none⟩ b = w2 ∧ put2 w s a b = w2 := ⟨_, rfl, rfl⟩
section
variable {w w' : World} {s : Nat} {A1 A2 : Option Addr} {n1 c1 n2 c2 : Nat}
theorem Bx2.on (h : Bx2 w s A1 n1 c1 A2 n2 c2) (hb : Below w.heap.size w w') : Bx2 w' s A1 n1 c1 A2 n2 c2 := Own.below h hb h.lt
theorem Bx2.cells (h : Bx2 w s A1 n1 c1 A2 n2 c2) : w.cell? ⟨s, 0, none⟩ = some (.slice A1 n1 c1) ∧ w.cell? ⟨s, 1, none⟩ = some (.slice A2 n2 c2) ∧ w.frozen? ⟨s, 0, none⟩ = false ∧ w.frozen? ⟨s, 1, none⟩ = false ∧ s < w.heap.size :=
  ⟨Own.cell h 0, Own.cell h 1, Own.free h 0, Own.free h 1, Own.lt h⟩
theorem Bx2.put (h : Bx2 w s A1 n1 c1 A2 n2 c2) (B1 : Option Addr) (m1 d1 : Nat) (B2 : Option Addr) (m2 d2 : Nat) : Bx2 (put2 w s (.slice B1 m1 d1) (.slice B2 m2 d2)) s B1 m1 d1 B2 m2 d2 := (Own.put h 0 _).put 1 _
theorem Bx2.res (h : Bx2 w s A1 n1 c1 A2 n2 c2) {A : Option Addr} {n x : Nat} (hr : Res w A n x) (a b : Value) : Res (put2 w s a b) A n x :=
  (hr.put (Own.cell h 0) (notU_slice _ _ _) a).put ((Own.put h 0 a).cell 1) (notU_slice _ _ _) b
theorem Bx2.made (w : World) (A1 : Option Addr) (n1 c1 : Nat) (A2 : Option Addr) (n2 c2 : Nat) {s : Nat} (hs : w.heap.size = s) : Bx2 (w.alloc (.cells #[.slice A1 n1 c1, .slice A2 n2 c2] 107)) s A1 n1 c1 A2 n2 c2 := by
  subst hs; exact Own.made w _ [_, _]
end
theorem below_put2 {B : Nat} {v w : World} (h : Below B v w) {s : Nat} (hs : B ≤ s) (a b : Value) : Below B v (put2 w s a b) := (h.setCell (p := ⟨s, 0, none⟩) hs a).setCell (p := ⟨s, 1, none⟩) hs b
theorem frame2s (w : World) (t0 t1 : TypeId) (n0 : Bool) (A0 : Option Addr) (l0 c0 : Nat) (e0 : Int) (n1 : Bool) (A1 : Option Addr) (l1 c1 : Nat) (e1 : Int) :
    ∃ W, (((w.alloc (dob n0 A0 l0 c0 e0 t0)).alloc (dob n1 A1 l1 c1 e1 t1)).alloc (.cells #[.slice none 0 0, .slice none 0 0] 107)) = W ∧ DB W w.heap.size t0 n0 A0 l0 c0 e0 ∧ DB W (w.heap.size + 1) t1 n1 A1 l1 c1 e1 ∧ Bx2 W (w.heap.size + 1 + 1) none 0 0 none 0 0 ∧ Below w.heap.size w W ∧ W.heap.size = w.heap.size + 3 :=
  ⟨_, rfl, ((DB.made _ (by simp) t0 n0 A0 l0 c0 e0).alloc _).alloc _, (DB.made _ (by simp) t1 n1 A1 l1 c1 e1).alloc _, Bx2.made _ _ _ _ _ _ _ (by simp), (((Below.refl _ _).alloc (by simp <;> omega) _).alloc (by simp <;> omega) _).alloc (by simp <;> omega) _, by simp⟩

def AlPost (w : World) (m : Int) (x y : Nat) (e : Ending) (w' : World) : Prop :=
  ∃ A1 n1 A2 n2, e = .returned (.tuple #[.agg #[.slice A1 n1 n1, .slice A2 n2 n2], .int .i64 m, .int .i64 0]) ∧ Res w' A1 n1 x ∧ Res w' A2 n2 y ∧ Below w.heap.size w w'
def AlErr (w : World) (e : Ending) (w' : World) : Prop := e = .returned (.tuple #[.agg #[.slice none 0 0, .slice none 0 0], .int .i64 0, .int .i64 6]) ∧ Below w.heap.size w w'

set_option maxHeartbeats 1000000 in
theorem aligned_ok {A1 A2 : Option Addr} {n1 c1 n2 c2 x y : Nat} {na nb : Bool} {ea eb : Int} {w : World} (h1 : Arg w A1 n1 c1 x) (h2 : Arg w A2 n2 c2 y) (s1 : n1 ≤ 30000) (s2 : n2 ≤ 30000)
    (a1 : -100000 ≤ ea) (a2 : ea ≤ 100000) (b1 : -100000 ≤ eb) (b2 : eb ≤ 100000) (m : Int) (i j : Nat) (hm : min ea eb = m) (hi : ea - m = (i : Int)) (hj : eb - m = (j : Int)) (f1 : blen x + i ≤ 16384) (f2 : blen y + j ≤ 16384) :
    Calls Tryz.prog 79 #[.agg #[.bool na, .slice A1 n1 c1, .int .i64 ea], .agg #[.bool nb, .slice A2 n2 c2, .int .i64 eb]] w (AlPost w m (x * 2 ^ i) (y * 2 ^ j)) := by
  have m1 : -100000 ≤ m := by omega
  have m2 : m ≤ 100000 := by omega
  go_enter Tryz.func79, Tryz.ntmps79
  go_wp2_with fail
  obtain ⟨W, hW, z0, z1, z2, BW, sW⟩ := frame2s w 48 48 na A1 n1 c1 ea nb A2 n2 c2 eb
  rw [hW]
  clear hW
  refine (left_fit (h1.on BW) (by omega) i f1).mono ?_
  rintro e w1 ⟨B1, k1, rfl, r1, l1, b⟩
  have z1 := z1.on b
  have z2 := z2.on b
  have BW := Below.step BW b
  have sW : w.heap.size + 3 ≤ w1.heap.size := by have := b.size; omega
  clear b
  obtain ⟨p0, p1, p2, g0, g1, g2, _⟩ := z1.cells
  go_wp2_with fail
  refine (left_fit (h2.on BW) (by omega) j f2).mono ?_
  rintro e w2 ⟨B2, k2, rfl, r2, l2, b⟩
  clear p0 p1 p2 g0 g1 g2
  have z2 := z2.on b
  have r1 := r1.on b
  have BW := Below.step BW b
  clear b
  obtain ⟨q0, q1, i0, i1, _⟩ := z2.cells
  go_wp2_with fail
  refine bodyPost_ret (v := .tuple #[.agg #[.slice B1 k1 k1, .slice B2 k2 k2], .int .i64 m, .int .i64 0]) (by simp [results, Tryz.results79, go_sem, q0, q1]) rfl ?_
  exact ⟨B1, k1, B2, k2, rfl, z2.res r1 _ _, z2.res r2 _ _, below_put2 BW (by omega) _ _⟩

set_option maxHeartbeats 1000000 in
theorem aligned_err {A1 A2 : Option Addr} {n1 c1 n2 c2 x y : Nat} {na nb : Bool} {ea eb : Int} {w : World} (h1 : Arg w A1 n1 c1 x) (h2 : Arg w A2 n2 c2 y) (s1 : n1 ≤ 30000) (s2 : n2 ≤ 30000)
    (a1 : -100000 ≤ ea) (a2 : ea ≤ 100000) (b1 : -100000 ≤ eb) (b2 : eb ≤ 100000) (m : Int) (i j : Nat) (hm : min ea eb = m) (hi : ea - m = (i : Int)) (hj : eb - m = (j : Int)) (hx : x ≠ 0) (hy : y ≠ 0) (hov : 16384 < blen x + i ∨ 16384 < blen y + j) :
    Calls Tryz.prog 79 #[.agg #[.bool na, .slice A1 n1 c1, .int .i64 ea], .agg #[.bool nb, .slice A2 n2 c2, .int .i64 eb]] w (AlErr w) := by
  have m1 : -100000 ≤ m := by omega
  have m2 : m ≤ 100000 := by omega
  by_cases f1 : blen x + i ≤ 16384
  · have f2 : 16384 < blen y + j := by omega
    clear hov
    go_enter Tryz.func79, Tryz.ntmps79
    go_wp2_with fail
    obtain ⟨W, hW, z0, z1, z2, BW, sW⟩ := frame2s w 48 48 na A1 n1 c1 ea nb A2 n2 c2 eb
    rw [hW]
    clear hW
    refine (left_fit (h1.on BW) (by omega) i f1).mono ?_
    rintro e w1 ⟨B1, k1, rfl, r1, l1, b⟩
    have z1 := z1.on b
    have z2 := z2.on b
    have BW := Below.step BW b
    have sW : w.heap.size + 3 ≤ w1.heap.size := by have := b.size; omega
    clear b
    obtain ⟨p0, p1, p2, g0, g1, g2, _⟩ := z1.cells
    go_wp2_with fail
    refine (left_over (h2.on BW) (by omega) hy (j : Int) (by omega) (by omega) (by omega)).mono ?_
    rintro e w2 ⟨rfl, b⟩
    clear p0 p1 p2 g0 g1 g2
    have z2 := z2.on b
    have BW := Below.step BW b
    clear b
    obtain ⟨q0, q1, i0, i1, _⟩ := z2.cells
    go_wp2_with fail
    refine bodyPost_ret (v := .tuple #[.agg #[.slice none 0 0, .slice none 0 0], .int .i64 0, .int .i64 6]) (by simp [results, Tryz.results79, go_sem, q0, q1]) rfl ?_
    exact ⟨rfl, below_put2 BW (by omega) _ _⟩
  · clear hov
    go_enter Tryz.func79, Tryz.ntmps79
    go_wp2_with fail
    obtain ⟨W, hW, z0, z1, z2, BW, sW⟩ := frame2s w 48 48 na A1 n1 c1 ea nb A2 n2 c2 eb
    rw [hW]
    clear hW
    refine (left_over (h1.on BW) (by omega) hx (i : Int) (by omega) (by omega) (by omega)).mono ?_
    rintro e w2 ⟨rfl, b⟩
    have z2 := z2.on b
    have BW := Below.step BW b
    clear b
    obtain ⟨q0, q1, i0, i1, _⟩ := z2.cells
    go_wp2_with fail
    refine bodyPost_ret (v := .tuple #[.agg #[.slice none 0 0, .slice none 0 0], .int .i64 0, .int .i64 6]) (by simp [results, Tryz.results79, go_sem, q0, q1]) rfl ?_
    exact ⟨rfl, below_put2 BW (by omega) _ _⟩
end Go.Proofs.YtpachoeignpcbaaGreatDoor

namespace Go.Proofs.YtpachoeignpcbaaGreatDoor
set_option linter.unusedVariables false

theorem blen_shift {x : Nat} (hx : x ≠ 0) (i : Nat) : blen (x * 2 ^ i) = blen x + i := by
  obtain ⟨h1, h2⟩ := blen_pos hx
  have h3 := (blen_le x (blen x)).1 (Nat.le_refl _)
  obtain ⟨k, hk⟩ : ∃ k, blen x = k + 1 := ⟨blen x - 1, by omega⟩
  rw [hk] at h1 h3 ⊢
  rw [Nat.add_sub_cancel] at h1
  rw [show k + 1 + i = k + i + 1 by omega]
  refine blen_unique ?_ ?_
  · rw [Nat.pow_add]; exact Nat.mul_le_mul_right _ h1
  · rw [show k + i + 1 = k + 1 + i by omega, Nat.pow_add]; exact Nat.mul_lt_mul_of_pos_right h3 (Nat.two_pow_pos i)
theorem blen_div_tz {x : Nat} (hx : x ≠ 0) : blen (x / 2 ^ tz x) + tz x = blen x := by
  obtain ⟨_, h2, h3⟩ := tz_blen hx
  have := blen_shift (x := x / 2 ^ tz x) (by intro e; rw [e] at h3; omega) (tz x)
  rw [Nat.mul_comm, ← h2] at this
  exact this.symm

/-- of a number that may be taken, what holds of its plain form. -/
theorem pl_bounds {a : D} (h : a.may = true) : blen a.pl.x ≤ 4096 ∧ -8192 ≤ a.pl.e ∧ a.pl.e ≤ 12288 ∧ (blen a.pl.x : Int) + a.pl.e ≤ 12288 ∧ (a.pl.x = 0 → a.pl.e = 0) := by
  obtain ⟨h1, h2, h3⟩ := (D.may_iff a).1 h
  by_cases h0 : a.x = 0
  · rw [D.pl_zero h0]
    exact ⟨by simp [blen], by simp, by simp, by simp [blen], fun _ => rfl⟩
  · rw [D.pl_pos h0]
    have h4 := blen_div_tz h0
    have h5 := tz_blen h0
    refine ⟨by show blen (a.x / 2 ^ tz a.x) ≤ 4096; omega, by show -8192 ≤ a.e + (tz a.x : Int); omega, by show a.e + (tz a.x : Int) ≤ 12288; omega, by show (blen (a.x / 2 ^ tz a.x) : Int) + (a.e + (tz a.x : Int)) ≤ 12288; omega, fun e => ?_⟩
    have h6 : a.x / 2 ^ tz a.x = 0 := e
    omega

theorem sz_shift (n : Bool) (x i : Nat) (e e' : Int) : (⟨n, x * 2 ^ i, e⟩ : D).sz = (⟨n, x, e'⟩ : D).sz * 2 ^ i := by
  unfold D.sz
  cases n <;> simp [Int.neg_mul]

/-- a sum, put together at the lower place. -/
theorem add_at_low {a b : D} (ha : a.may = true) (hb : b.may = true) {m : Int} {i j : Nat} (hm : min a.pl.e b.pl.e = m) (hi : a.pl.e - m = (i : Int)) (hj : b.pl.e - m = (j : Int)) {n : Bool} {u : Nat}
    (hu : (⟨n, u, m⟩ : D).sz = (⟨a.pl.neg, a.pl.x * 2 ^ i, m⟩ : D).sz + (⟨b.pl.neg, b.pl.x * 2 ^ j, m⟩ : D).sz) : (⟨n, u, m⟩ : D).pl = a.add b := by
  obtain ⟨_, a2, a3, _⟩ := pl_bounds ha
  obtain ⟨_, b2, b3, _⟩ := pl_bounds hb
  obtain ⟨_, a5, a6⟩ := (D.may_iff a).1 ha
  obtain ⟨_, b5, b6⟩ := (D.may_iff b).1 hb
  refine D.add_of (by omega) (by omega) (D.pl_low (by show -40000 ≤ m; omega) (by omega)) (D.pl_plain _) ?_
  rw [D.pl_vl (by show -40000 ≤ m; omega), ← D.pl_vl (d := a) (by omega), ← D.pl_vl (d := b) (by omega)]
  unfold D.vl
  rw [hu, sz_shift _ _ _ _ a.pl.e, sz_shift _ _ _ _ b.pl.e]
  show (a.pl.sz * 2 ^ i + b.pl.sz * 2 ^ j) * 2 ^ (m + 40000).toNat = a.pl.sz * 2 ^ (a.pl.e + 40000).toNat + b.pl.sz * 2 ^ (b.pl.e + 40000).toNat
  rw [Int.add_mul, Int.mul_assoc, Int.mul_assoc, ← Int.pow_add, ← Int.pow_add, show i + (m + 40000).toNat = (a.pl.e + 40000).toNat by omega, show j + (m + 40000).toNat = (b.pl.e + 40000).toNat by omega]

/-- numbers that are too far apart have no sum that may be told. -/
theorem add_over {a b : D} (ha : a.may = true) (hb : b.may = true) {m : Int} {i j : Nat} (hm : min a.pl.e b.pl.e = m) (hi : a.pl.e - m = (i : Int)) (hj : b.pl.e - m = (j : Int)) (hov : 16384 < blen a.pl.x + i ∨ 16384 < blen b.pl.x + j) :
    a.pl.x ≠ 0 ∧ b.pl.x ≠ 0 ∧ (a.add b).may = false := by
  obtain ⟨a1, a2, a3, a4, a5⟩ := pl_bounds ha
  obtain ⟨b1, b2, b3, b4, b5⟩ := pl_bounds hb
  have hx : a.pl.x ≠ 0 := fun e => by
    have := a5 e
    rw [e] at hov
    rcases hov with h | h
    · rw [blen_zero] at h; omega
    · omega
  have hy : b.pl.x ≠ 0 := fun e => by
    have := b5 e
    rw [e] at hov
    rcases hov with h | h
    · omega
    · rw [blen_zero] at h; omega
  refine ⟨hx, hy, ?_⟩
  have pa : a.pl.x % 2 = 1 := by rcases a.pl_plain with ⟨h, _⟩ | h; exact (hx h).elim; exact h
  have pb : b.pl.x % 2 = 1 := by rcases b.pl_plain with ⟨h, _⟩ | h; exact (hy h).elim; exact h
  obtain ⟨z, hz⟩ : ∃ z, z = (⟨a.pl.neg, a.pl.x * 2 ^ i, m⟩ : D).sz + (⟨b.pl.neg, b.pl.x * 2 ^ j, m⟩ : D).sz := ⟨_, rfl⟩
  have hadd := add_at_low ha hb hm hi hj (n := decide (z < 0)) (u := z.natAbs) (by rw [← hz]; exact D.mkz_sz z m)
  have key : z.natAbs % 2 = 1 ∧ 16384 < blen z.natAbs + 4096 + 1 := by
    have aux : ∀ (X Y : Nat) (n1 n2 : Bool), z = (⟨n1, X, m⟩ : D).sz + (⟨n2, Y, m⟩ : D).sz → X ≤ z.natAbs + Y ∧ Y ≤ z.natAbs + X ∧ z.natAbs % 2 = (X + Y) % 2 := by
      intro X Y n1 n2 h
      unfold D.sz at h
      cases n1 <;> cases n2 <;> simp at h <;> omega
    obtain ⟨k1, k2, k3⟩ := aux _ _ _ _ hz
    rcases hov with h | h
    · have hi0 : 0 < i := by omega
      have hj0 : j = 0 := by omega
      subst hj0
      obtain ⟨i', rfl⟩ : ∃ i', i = i' + 1 := ⟨i - 1, by omega⟩
      have e1 : a.pl.x * 2 ^ (i' + 1) % 2 = 0 := by rw [Nat.pow_succ, ← Nat.mul_assoc]; omega
      have e2 := blen_shift hx (i' + 1)
      have e3 := blen_le_of k1
      have e4 := blen_add z.natAbs (b.pl.x * 2 ^ 0)
      rw [Nat.pow_zero, Nat.mul_one] at *
      exact ⟨by omega, by omega⟩
    · have hj0 : 0 < j := by omega
      have hi0 : i = 0 := by omega
      subst hi0
      obtain ⟨j', rfl⟩ : ∃ j', j = j' + 1 := ⟨j - 1, by omega⟩
      have e1 : b.pl.x * 2 ^ (j' + 1) % 2 = 0 := by rw [Nat.pow_succ, ← Nat.mul_assoc]; omega
      have e2 := blen_shift hy (j' + 1)
      have e3 := blen_le_of k2
      have e4 := blen_add z.natAbs (a.pl.x * 2 ^ 0)
      rw [Nat.pow_zero, Nat.mul_one] at *
      exact ⟨by omega, by omega⟩
  obtain ⟨k1, k2⟩ := key
  have hnz : z.natAbs ≠ 0 := by omega
  have htz : tz z.natAbs = 0 := by rw [tz, dif_neg hnz, if_pos k1]
  rw [← hadd, D.pl_pos hnz]
  show D.may ⟨decide (z < 0), z.natAbs / 2 ^ tz z.natAbs, m + (tz z.natAbs : Int)⟩ = false
  rw [htz, Nat.pow_zero, Nat.div_one]
  unfold D.may
  rw [show decide (blen (D.mk (decide (z < 0)) z.natAbs (m + ((0 : Nat) : Int))).x ≤ 4096) = false from decide_eq_false (by show ¬ blen z.natAbs ≤ 4096; omega)]
  rfl

def addS (a b : D) : D × Int := if a.may && b.may then tld (a.add b) else (⟨false, 0, 0⟩, 3)
theorem addS_ok {a b : D} (ha : a.may = true) (hb : b.may = true) : addS a b = tld (a.add b) := by unfold addS; rw [ha, hb]; rfl
theorem addS_err {a b : D} (h : a.may = false ∨ b.may = false) : addS a b = (⟨false, 0, 0⟩, 3) := by
  unfold addS
  rcases h with h | h <;> rw [h]
  · rfl
  · rw [Bool.and_false]; rfl
theorem tld_over {d : D} (h : d.may = false) : tld d = (⟨false, 0, 0⟩, 6) := by unfold tld; rw [h]; rfl
theorem tld_ok {d : D} (h : d.may = true) : tld d = (d, 0) := by unfold tld; rw [h]; rfl
end Go.Proofs.YtpachoeignpcbaaGreatDoor

namespace Go.Proofs.YtpachoeignpcbaaGreatDoor
open Go.RowKit
set_option linter.unusedVariables false

theorem fit_n (x i : Nat) (h : blen x + i ≤ 16384) : blen (x * 2 ^ i) ≤ 32 * 520 := by
  by_cases hx : x = 0
  · subst hx; rw [Nat.zero_mul, blen_zero]; omega
  · rw [blen_shift hx]; omega
def DPx (w : World) (rn : Bool) (rx : Nat) (re err : Int) (e : Ending) (w' : World) : Prop := ∃ A n, e = .returned (.tuple #[.agg #[.bool rn, .slice A n n, .int .i64 re], .int .i64 err]) ∧ Res w' A n rx ∧ Below w.heap.size w w'
theorem told_as {A : Option Addr} {n c x : Nat} {neg : Bool} {e : Int} {w : World} {rn : Bool} {rx : Nat} {re err : Int} (h : Arg w A n c x) (hs : n ≤ 30000) (hT : Tab w) (he : -1000000 ≤ e) (he2 : e ≤ 1000000) (hr : tld (D.pl ⟨neg, x, e⟩) = (⟨rn, rx, re⟩, err)) :
    Calls Tryz.prog 80 #[.agg #[.bool neg, .slice A n c, .int .i64 e]] w (DPx w rn rx re err) := by
  have := told_any (neg := neg) h hs hT he he2
  rw [hr] at this
  exact this
theorem Bx2.other {w : World} {s g : Nat} {A1 A2 : Option Addr} {n1 c1 n2 c2 : Nat} (h : Bx2 w g A1 n1 c1 A2 n2 c2) (hs : s ≠ g) (a b c : Value) : Bx2 (put3 w s a b c) g A1 n1 c1 A2 n2 c2 :=
  ((Own.other h hs a).other hs b).other hs c
theorem sz_sub {an bn : Bool} {X Y : Nat} {m m' : Int} (hn : (an == bn) = false) (h : Y ≤ X) : (⟨an, X - Y, m⟩ : D).sz = (⟨an, X, m⟩ : D).sz + (⟨bn, Y, m'⟩ : D).sz := by
  unfold D.sz
  cases an <;> cases bn <;> simp at hn ⊢ <;> omega
theorem sz_sub2 {an bn : Bool} {X Y : Nat} {m m' : Int} (hn : (an == bn) = false) (h : X ≤ Y) : (⟨bn, Y - X, m⟩ : D).sz = (⟨an, X, m⟩ : D).sz + (⟨bn, Y, m'⟩ : D).sz := by
  unfold D.sz
  cases an <;> cases bn <;> simp at hn ⊢ <;> omega
/-- the first number's variable and that of both sizes. -/
def KA (w : World) (s g : Nat) (an : Bool) (A : Option Addr) (k : Nat) (e : Int) (L1 : Option Addr) (u1 : Nat) (L2 : Option Addr) (u2 : Nat) : Prop := DB w s 48 an A k k e ∧ Bx2 w g L1 u1 u1 L2 u2 u2
theorem KA.on {w w' : World} {s g : Nat} {an : Bool} {A : Option Addr} {k : Nat} {e : Int} {L1 : Option Addr} {u1 : Nat} {L2 : Option Addr} {u2 : Nat} (h : KA w s g an A k e L1 u1 L2 u2) (hb : Below w.heap.size w w') : KA w' s g an A k e L1 u1 L2 u2 := ⟨h.1.on hb, h.2.on hb⟩
theorem KA.put {w : World} {s g s' : Nat} {an : Bool} {A : Option Addr} {k : Nat} {e : Int} {L1 : Option Addr} {u1 : Nat} {L2 : Option Addr} {u2 : Nat} (h : KA w s g an A k e L1 u1 L2 u2) (h1 : s' ≠ s) (h2 : s' ≠ g) (a b c : Value) : KA (put3 w s' a b c) s g an A k e L1 u1 L2 u2 := ⟨h.1.other h1 a b c, h.2.other h2 a b c⟩
theorem KA.cells {w : World} {s g : Nat} {an : Bool} {A : Option Addr} {k : Nat} {e : Int} {L1 : Option Addr} {u1 : Nat} {L2 : Option Addr} {u2 : Nat} (h : KA w s g an A k e L1 u1 L2 u2) :
    w.cell? ⟨s, 0, none⟩ = some (.bool an) ∧ w.cell? ⟨g, 0, none⟩ = some (.slice L1 u1 u1) ∧ w.cell? ⟨g, 1, none⟩ = some (.slice L2 u2 u2) := ⟨h.1.cells.1, h.2.cells.1, h.2.cells.2.1⟩
end Go.Proofs.YtpachoeignpcbaaGreatDoor
