
/-
  round's rounded by exact numbers: a multiple of the place and its neighbours, with their sign.
-/
import Derived.Test.YtkjbejdeejpdoaaDoorKe
namespace Go.Proofs.YtkjbejdeejpdoaaDoor
open Go.RowKit
set_option linter.unusedVariables false

theorem pl_sgn (neg : Bool) (n : Nat) (p : Int) : (D.pl ⟨neg, n, p⟩).x = (D.pl ⟨false, n, p⟩).x ∧ (D.pl ⟨neg, n, p⟩).e = (D.pl ⟨false, n, p⟩).e := by
  by_cases h0 : n = 0
  · rw [D.pl_zero (d := ⟨neg, n, p⟩) h0, D.pl_zero (d := ⟨false, n, p⟩) h0]
    exact ⟨rfl, rfl⟩
  · rw [D.pl_pos (d := ⟨neg, n, p⟩) h0, D.pl_pos (d := ⟨false, n, p⟩) h0]
    exact ⟨rfl, rfl⟩
theorem sz_vl (neg : Bool) (n : Nat) (p : Int) : (⟨neg, n, p⟩ : D).vl = if neg then -((n * 2 ^ (p + 40000).toNat : Nat) : Int) else ((n * 2 ^ (p + 40000).toNat : Nat) : Int) := by
  unfold D.vl D.sz
  simp only
  cases neg
  · simp
  · simp [Int.neg_mul]
/-- a multiple of a place, of either sign. -/
theorem ns_may {n : Nat} {p : Int} (neg : Bool) (hn : n ≤ 18446744073709551615) (h1 : -2000 ≤ p) (h2 : p ≤ 8000) : (D.pl ⟨neg, n, p⟩).may = true ∧ (D.pl ⟨neg, n, p⟩).plain ∧ -2000 ≤ (D.pl ⟨neg, n, p⟩).e ∧ blen (D.pl ⟨neg, n, p⟩).x ≤ 64 ∧ (D.pl ⟨neg, n, p⟩).e ≤ 8064 ∧ (D.pl ⟨neg, n, p⟩).vl = (⟨neg, n, p⟩ : D).vl ∧ (D.pl ⟨neg, n, p⟩).vl.natAbs = n * 2 ^ (p + 40000).toNat := by
  obtain ⟨k1, _, k3, _, k5, _, k7⟩ := nb_may (n := n) hn h1 h2
  obtain ⟨e1, e2⟩ := pl_sgn neg n p
  rw [← e1] at k5
  rw [← e2] at k3 k7
  have hv := D.pl_vl (d := ⟨neg, n, p⟩) (by show -40000 ≤ p; omega)
  refine ⟨?_, D.pl_plain _, k3, k5, k7, hv, by rw [hv, D.vl_natAbs]⟩
  rw [D.may_iff] at k1 ⊢
  rw [e1, e2]
  exact k1
/-- the neighbour away from 0. -/
theorem ns_next (neg : Bool) {n : Nat} {p : Int} (hn : n < 18446744073709551615) (h1 : -2000 ≤ p) (h2 : p ≤ 8000) : addS (D.pl ⟨neg, n, p⟩) ⟨neg, 1, p⟩ = (D.pl ⟨neg, n + 1, p⟩, 0) := by
  obtain ⟨m1, m2, m3, m4, m5, m6, m7⟩ := ns_may (n := n) neg (by omega) h1 h2
  obtain ⟨k1, k2, k3, k4, k5, k6, k7⟩ := ns_may (n := n + 1) neg (by omega) h1 h2
  have mo : (⟨neg, 1, p⟩ : D).may = true := may_small (by show 1 < 18446744073709551616; omega) (by show -8192 ≤ p; omega) (by show p ≤ 8192; omega)
  rw [addS_ok m1 mo]
  have h := D.add_of (a := D.pl ⟨neg, n, p⟩) (b := ⟨neg, 1, p⟩) (c := D.pl ⟨neg, n + 1, p⟩) (by omega) (by show -40000 ≤ p; omega) (by omega) k2 (by
    rw [k6, m6, sz_vl, sz_vl, sz_vl]
    generalize 2 ^ (p + 40000).toNat = U
    rw [Nat.add_mul]
    cases neg
    · simp only [Bool.false_eq_true, if_false]; omega
    · simp only [if_true]; omega)
  rw [← h, tld_ok k1]
/-- a number that isn't 0, towards 0 to a place. -/
theorem pl_floor {a : D} (hm : mayR a = true) (h0 : a.x ≠ 0) {p : Int} (h1 : -2000 ≤ p) (h2 : p ≤ 8000) :
    floorS a.pl p = (D.pl ⟨a.neg, a.vl.natAbs / 2 ^ (p + 40000).toNat, p⟩, decide (a.vl.natAbs % 2 ^ (p + 40000).toNat ≠ 0), 0) := by
  obtain ⟨k1, k2, k3, k4⟩ := mayR_bd hm h0
  have h := floor_units k2 ((plB_iff p).2 ⟨by omega, by omega⟩)
  rw [pl_vl_abs (by omega)] at h
  rw [h, D.pl_pos h0]
theorem half_math {A T U : Nat} (hU : 0 < U) (hT : T = 2 * U) (hr : A % T ≠ 0) {near : Int} (hn : cmpI ((2 * (A % T) : Nat) : Int) (T : Int) = near) :
    (if decide (A / U * U = A / T * T) then -1 else if decide (A % U ≠ 0) then 1 else 0) = near := by
  subst hT
  have h1 := Nat.div_add_mod A (2 * U)
  have h2 := Nat.div_add_mod A U
  have h3 := Nat.mod_lt A (show 0 < 2 * U by omega)
  have h4 := Nat.mod_lt A hU
  have h5 : A / (2 * U) = A / U / 2 := by rw [Nat.mul_comm, Nat.div_div_eq_div_mul]
  have hc := cmpI_cases ((2 * (A % (2 * U)) : Nat) : Int) ((2 * U : Nat) : Int)
  rw [hn] at hc
  generalize hq : A / (2 * U) = q at *
  generalize hg : A / U = g at *
  generalize hrr : A % (2 * U) = r at *
  generalize hs : A % U = s at *
  have e1 : 2 * U * q = 2 * (U * q) := Nat.mul_assoc _ _ _
  have e2 : q * (2 * U) = 2 * (U * q) := by rw [Nat.mul_comm, e1]
  have e3 : g * U = U * g := Nat.mul_comm _ _
  rw [e2, e3]
  rw [e1] at h1
  obtain h6 | h6 : g = 2 * q ∨ g = 2 * q + 1 := by omega
  · rw [h6, Nat.mul_left_comm] at h2 ⊢
    rw [if_pos (by simp)]
    omega
  · rw [h6, Nat.mul_add, Nat.mul_left_comm, Nat.mul_one] at h2 ⊢
    rw [if_neg (by simp; omega)]
    by_cases h7 : s = 0
    · rw [if_neg (by simp [h7])]
      omega
    · rw [if_pos (by simp [h7])]
      omega
/-- ROUNDED: the neighbour that the mode has, and whether something is lost. -/
theorem rounded_as {B P W M E H : Nat} {low : Int} (hf : Fm B P W M E H low) {nz : Bool} {A : Option Addr} {n c : Nat} {t : Int} {w : World} {a : D} (hm : mayR a = true) (h0 : a.x ≠ 0) {dn : Bool} {dx : Nat} {de : Int} (hd : D.pl a = ⟨dn, dx, de⟩)
    (h : Arg w A n c dx) (hs : n ≤ 30000) (hT : Tab w) (mode : Int) {p : Int} (hp : plcS P low a = p) {lost : Bool} (hl : decide (a.vl.natAbs % 2 ^ (p + 40000).toNat ≠ 0) = lost) {rn : Bool} {rx : Nat} {re : Int}
    (hr : D.pl ⟨a.neg, a.vl.natAbs / 2 ^ (p + 40000).toNat + (if upB mode a.neg (flC P M low a.vl.natAbs) (a.vl.natAbs - valU M low (flC P M low a.vl.natAbs)) (wid M low (flC P M low a.vl.natAbs)) then 1 else 0), p⟩ = ⟨rn, rx, re⟩) :
    Calls Tryd.prog 53 #[.agg #[.bool dn, .slice A n c, .int .i64 de, .int .i64 t, .bool nz], .int .i64 mode, .int .i64 p] w (RoX w rn rx re lost) := by
  obtain ⟨b1, b2, b3, b4, b5, b6, b7, b8, b9, b10, b11, b12, b13, b14, b15⟩ := hf.bd
  obtain ⟨k1, k2, k3, k4⟩ := mayR_bd hm h0
  obtain ⟨p1, p2⟩ := plc_bd hf hm h0
  have hplc := plc_cell (P := P) (low := low) h0 (by omega)
  rw [hp] at p1 p2 hplc
  obtain ⟨hq, hpar⟩ := flq hf a.vl.natAbs
  obtain ⟨fs1, fs2⟩ := flC_spec hf a.vl.natAbs
  rw [← hplc] at hq hpar fs1 fs2
  rw [fs1, fs2] at hr
  have hdn : dn = a.neg := by
    have := D.pl_pos h0
    rw [hd] at this
    simp only [D.mk.injEq] at this
    exact this.1
  subst hdn
  have hfl := pl_floor hm h0 (p := p) (by omega) (by omega)
  have hfh := pl_floor hm h0 (p := p - 1) (by omega) (by omega)
  rw [hd] at hfl hfh
  obtain ⟨Z, hZ⟩ : ∃ Z, a.vl.natAbs = Z := ⟨_, rfl⟩
  rw [hZ] at hfl hfh hr hq hpar hl
  obtain ⟨T, hT'⟩ : ∃ T, 2 ^ (p + 40000).toNat = T := ⟨_, rfl⟩
  obtain ⟨U, hU⟩ : ∃ U, 2 ^ (p - 1 + 40000).toNat = U := ⟨_, rfl⟩
  have hU0 : 0 < U := by rw [← hU]; exact Nat.two_pow_pos _
  have hTU : T = 2 * U := by rw [← hT', ← hU, show (p + 40000).toNat = (p - 1 + 40000).toNat + 1 by omega, Nat.pow_succ, Nat.mul_comm]
  rw [hT'] at hfl hr hq hpar hl
  rw [hU] at hfh
  obtain ⟨c0, hc0⟩ : ∃ c0, flC P M low Z = c0 := ⟨_, rfl⟩
  rw [hc0] at hr
  rw [hc0] at hpar
  obtain ⟨q, hqq⟩ : ∃ q, Z / T = q := ⟨_, rfl⟩
  have hdm := Nat.div_add_mod Z T
  rw [hqq] at hfl hr hq hpar hdm
  rw [show Z - q * T = Z % T by rw [Nat.mul_comm]; omega] at hr
  obtain ⟨ln, lx, le, hlow⟩ : ∃ ln lx le, D.pl ⟨a.neg, q, p⟩ = ⟨ln, lx, le⟩ := ⟨_, _, _, rfl⟩
  obtain ⟨l1, l2, l3, l4, l5, l6, l7⟩ := ns_may (n := q) a.neg (p := p) (by omega) (by omega) (by omega)
  rw [hlow] at hfl l1 l2 l3 l4 l5 l6 l7
  simp only at l3 l4 l5
  by_cases hz : Z % T = 0
  · rw [show upB mode a.neg c0 (Z % T) T = false by unfold upB; rw [if_pos hz], if_neg (by decide), Nat.add_zero, hlow] at hr
    simp only [D.mk.injEq] at hr
    obtain ⟨rfl, rfl, rfl⟩ := hr
    rw [decide_eq_false (by simpa using hz)] at hfl hl
    subst hl
    exact rounded_same h hs hT mode hfl (by omega)
  · rw [decide_eq_true hz] at hfl hl
    subst hl
    -- odd
    have ho := floor_units l1 ((plB_iff (p + 1)).2 ⟨by omega, by omega⟩)
    rw [l7, hT', show 2 ^ (p + 1 + 40000).toNat = T * 2 by rw [← hT', show (p + 1 + 40000).toNat = (p + 40000).toNat + 1 by omega, Nat.pow_succ]] at ho
    rw [show decide (q * T % (T * 2) ≠ 0) = decide (q % 2 ≠ 0) by
      rw [Nat.mul_comm q T, Nat.mul_mod_mul_left]
      have : 0 < T := by omega
      refine decide_eq_decide.2 ⟨fun h hx => h (by rw [hx, Nat.mul_zero]), fun h hx => h ?_⟩
      rcases Nat.mul_eq_zero.1 hx with h1 | h1
      · omega
      · exact h1] at ho
    obtain ⟨mn, mx, me, hmm⟩ : ∃ mn mx me, D.pl ⟨ln, q * T / (T * 2), p + 1⟩ = ⟨mn, mx, me⟩ := ⟨_, _, _, rfl⟩
    simp only at ho
    rw [hmm] at ho
    -- half
    obtain ⟨g, hg⟩ : ∃ g, Z / U = g := ⟨_, rfl⟩
    have hgq : g ≤ 2 * q + 1 := by
      have h5 : Z / (2 * U) = Z / U / 2 := by rw [Nat.mul_comm, Nat.div_div_eq_div_mul]
      rw [← hTU, hqq, hg] at h5
      omega
    rw [hg] at hfh
    obtain ⟨hn, hx, he, hhh⟩ : ∃ hn hx he, D.pl ⟨a.neg, g, p - 1⟩ = ⟨hn, hx, he⟩ := ⟨_, _, _, rfl⟩
    obtain ⟨g1, g2, g3, g4, g5, g6, g7⟩ := ns_may (n := g) a.neg (p := p - 1) (by omega) (by omega) (by omega)
    rw [hhh] at hfh g1 g2 g3 g4 g5 g6 g7
    simp only at g3 g4 g5
    obtain ⟨near, hne⟩ : ∃ near, cmpI ((2 * (Z % T) : Nat) : Int) (T : Int) = near := ⟨_, rfl⟩
    have hn3 : near = -1 ∨ near = 0 ∨ near = 1 := by
      have := cmpI_cases ((2 * (Z % T) : Nat) : Int) (T : Int)
      rw [hne] at this
      omega
    have hhm := half_math hU0 hTU hz hne
    rw [hg, hqq] at hhm
    have hsame : decide ((⟨hn, hx, he⟩ : D).vl = (⟨ln, lx, le⟩ : D).vl) = decide (g * U = q * T) := by
      rw [g6, l6, sz_vl, sz_vl, hU, hT']
      refine decide_eq_decide.2 ?_
      cases a.neg
      · simp only [Bool.false_eq_true, if_false]; omega
      · simp only [if_true]; omega
    have hup : upR mode a.neg near (!decide (q % 2 ≠ 0)) = upB mode a.neg c0 (Z % T) T := by
      rw [show (!decide (q % 2 ≠ 0)) = decide (q % 2 = 0) by by_cases h : q % 2 = 0 <;> simp [h]]
      exact upR_upB hz hpar hne
    have HH := Lib.hid (fun (V : World) (A2 : Option Addr) (n2 : Nat) (g1' : Arg V A n c dx) (g2' : Arg V A2 n2 n2 lx) (g3' : Tab V) (g4' : n2 ≤ 30000) =>
      half_walk (nz := nz) (t := t) g1' hs g2' g4' g3' (by omega) (by omega) (decide (g * U = q * T)) (decide (Z % U ≠ 0)) near hfh (by omega) hhm g1 l1 hsame)
    cases hu : upB mode a.neg c0 (Z % T) T
    · rw [hu, if_neg (by decide), Nat.add_zero, hlow] at hr
      simp only [D.mk.injEq] at hr
      obtain ⟨rfl, rfl, rfl⟩ := hr
      exact rounded_down h hs hT mode (by omega) (by omega) hfl (by omega) ho HH (Lib.hid fun V => (goesAway_as mode a.neg near _ hn3 false (by rw [hup, hu]) V).mono fun e w' ⟨h1, h2⟩ => ⟨h1, h2 ▸ Below.refl _ _⟩)
    · rw [hu, if_pos rfl] at hr
      have hadd := ns_next a.neg (n := q) (p := p) (by omega) (by omega) (by omega)
      rw [hlow, hr] at hadd
      exact rounded_up h hs hT mode (by omega) (by omega) hfl (by omega) ho HH (Lib.hid fun V => (goesAway_as mode a.neg near _ hn3 true (by rw [hup, hu]) V).mono fun e w' ⟨h1, h2⟩ => ⟨h1, h2 ▸ Below.refl _ _⟩)
        (Lib.hid fun V A2 n2 g1' g2' g3' => away_as g1' g3' g2' hadd)
end Go.Proofs.YtkjbejdeejpdoaaDoor
