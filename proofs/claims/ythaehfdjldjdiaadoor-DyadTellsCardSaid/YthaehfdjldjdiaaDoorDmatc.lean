
/-
  Plain mathematics of whole numbers times powers of 2: how great sums and products are.
-/
import Derived.Test.YthaehfdjldjdiaaDoorDh
namespace Go.Proofs.YthaehfdjldjdiaaDoor
set_option linter.unusedVariables false

/-- if it isn't 0: no bit below the place lo, none from the place hi on, no more than L bits. -/
def D.inn (lo hi : Int) (L : Nat) (d : D) : Prop := d.x ≠ 0 → lo ≤ d.e ∧ (blen d.x : Int) + d.e ≤ hi ∧ blen d.x ≤ L
theorem inn_may {lo hi : Int} {L : Nat} {d : D} (hp : d.plain) (h : d.inn lo hi L) (h1 : -8192 ≤ lo) (h2 : hi ≤ 8192) (h3 : L ≤ 4096) : d.may = true := by
  rw [D.may_iff]
  by_cases h0 : d.x = 0
  · rcases hp with ⟨_, _, he⟩ | hp
    · rw [h0, he, blen_zero]; omega
    · omega
  · obtain ⟨k1, k2, k3⟩ := h h0
    exact ⟨by omega, by omega, by omega⟩
theorem inn_more {lo hi lo' hi' : Int} {L L' : Nat} {d : D} (h : d.inn lo hi L) (h1 : lo' ≤ lo) (h2 : hi ≤ hi') (h3 : L ≤ L') : d.inn lo' hi' L' := fun h0 => by
  obtain ⟨k1, k2, k3⟩ := h h0
  exact ⟨by omega, by omega, by omega⟩
theorem inn_pl {lo hi : Int} {L : Nat} {d : D} (h : d.inn lo hi L) : d.pl.inn lo hi L := fun h0 => by
  by_cases hx : d.x = 0
  · rw [D.pl_zero hx] at h0; exact (h0 rfl).elim
  · obtain ⟨k1, k2, k3⟩ := h hx
    have h4 := blen_div_tz hx
    rw [D.pl_pos hx]
    exact ⟨by show lo ≤ d.e + (tz d.x : Int); omega, by show (blen (d.x / 2 ^ tz d.x) : Int) + (d.e + (tz d.x : Int)) ≤ hi; omega, by show blen (d.x / 2 ^ tz d.x) ≤ L; omega⟩
theorem inn_turn {lo hi : Int} {L : Nat} {d : D} (h : d.inn lo hi L) : d.turn.inn lo hi L := h
theorem inn_mul {lo hi lo' hi' : Int} {L L' : Nat} {a b : D} (ha : a.inn lo hi L) (hb : b.inn lo' hi' L') : (a.mul b).inn (lo + lo') (hi + hi') (L + L') := by
  refine inn_pl (fun h0 => ?_)
  have hx : a.x ≠ 0 := fun e => h0 (by show a.x * b.x = 0; rw [e, Nat.zero_mul])
  have hy : b.x ≠ 0 := fun e => h0 (by show a.x * b.x = 0; rw [e, Nat.mul_zero])
  obtain ⟨a1, a2, a3⟩ := ha hx
  obtain ⟨b1, b2, b3⟩ := hb hy
  have := blen_mul a.x b.x
  exact ⟨by show lo + lo' ≤ a.e + b.e; omega, by show (blen (a.x * b.x) : Int) + (a.e + b.e) ≤ hi + hi'; omega, by show blen (a.x * b.x) ≤ L + L'; omega⟩
theorem blen_sum_le {X Y h : Nat} (h1 : X < 2 ^ h) (h2 : Y < 2 ^ h) : blen (X + Y) ≤ h + 1 := (blen_le _ _).2 (by rw [Nat.pow_succ]; omega)
/-- a whole number that 2^l divides, below 2^h in size. -/
def InV (l h : Nat) (v : Int) : Prop := ((2 ^ l : Nat) : Int) ∣ v ∧ v.natAbs < 2 ^ h
theorem InV.add {l h : Nat} {u v : Int} (hu : InV l h u) (hv : InV l h v) : InV l (h + 1) (u + v) :=
  ⟨Int.dvd_add hu.1 hv.1, by have h1 := hu.2; have h2 := hv.2; have h3 := Int.natAbs_add_le u v; rw [Nat.pow_succ]; omega⟩
theorem InV.neg {l h : Nat} {v : Int} (hv : InV l h v) : InV l h (-v) := ⟨Int.dvd_neg.2 hv.1, by rw [Int.natAbs_neg]; exact hv.2⟩
theorem inV_of {lo hi : Int} {L : Nat} {d : D} (h : d.inn lo hi L) (h1 : -40000 ≤ lo) (h2 : lo ≤ hi) : InV (lo + 40000).toNat (hi + 40000).toNat d.vl := by
  by_cases h0 : d.x = 0
  · rw [D.vl_zero.2 h0]
    exact ⟨⟨0, by simp⟩, Nat.two_pow_pos _⟩
  · obtain ⟨k1, k2, k3⟩ := h h0
    refine ⟨?_, ?_⟩
    · rw [Int.ofNat_dvd_left, D.vl_natAbs]
      refine ⟨d.x * 2 ^ (d.e - lo).toNat, ?_⟩
      rw [show (d.e + 40000).toNat = (lo + 40000).toNat + (d.e - lo).toNat by omega, Nat.pow_add]
      ac_rfl
    · rw [D.vl_natAbs]
      have h3 := (blen_le d.x (blen d.x)).1 (Nat.le_refl _)
      have h4 : d.x * 2 ^ (d.e + 40000).toNat < 2 ^ blen d.x * 2 ^ (d.e + 40000).toNat := Nat.mul_lt_mul_of_pos_right h3 (Nat.two_pow_pos _)
      rw [← Nat.pow_add] at h4
      exact Nat.lt_of_lt_of_le h4 (Nat.pow_le_pow_right (by omega) (by omega))
theorem inn_of {l h : Nat} {d : D} (hp : d.plain) (he : -40000 ≤ d.e) (hv : InV l h d.vl) : d.inn ((l : Int) - 40000) ((h : Int) - 40000) (h - l) := fun h0 => by
  have hx : d.x % 2 = 1 := by
    rcases hp with ⟨h1, _⟩ | h1
    · exact (h0 h1).elim
    · exact h1
  obtain ⟨v1, v2⟩ := hv
  rw [D.vl_natAbs] at v2
  rw [Int.ofNat_dvd_left, D.vl_natAbs] at v1
  generalize hk : (d.e + 40000).toNat = k at *
  have hc : Ctz (d.x * 2 ^ k) k := ⟨Nat.mul_ne_zero h0 (Nat.ne_of_gt (Nat.two_pow_pos _)), d.x / 2, by rw [Nat.mul_comm]; congr 1; omega⟩
  have hl : ¬ k < l := fun e => (hc.mod l).1 e (Nat.mod_eq_zero_of_dvd v1)
  have hb := blen_shift h0 k
  have hb2 := (blen_le _ h).2 v2
  exact ⟨by omega, by omega, by omega⟩
theorem inn_add {lo hi : Int} {L L' : Nat} {a b : D} (ha : a.inn lo hi L) (hb : b.inn lo hi L') (h1 : -40000 ≤ lo) (hl : lo ≤ hi) (ea : -40000 ≤ a.e) (eb : -40000 ≤ b.e) : (a.add b).inn lo (hi + 1) (hi + 1 - lo).toNat := by
  have h2 := (inV_of ha h1 hl).add (inV_of hb h1 hl)
  rw [← D.add_vl ea eb] at h2
  exact inn_more (inn_of (D.add_plain a b) (D.add_low ea eb (by omega)) h2) (by omega) (by omega) (by omega)

theorem addS_to {lo hi hi' : Int} {L L' : Nat} {a b : D} (K : Nat) (ma : a.may = true) (mb : b.may = true) (ha : a.inn lo hi L) (hb : b.inn lo hi L') (h1 : -8192 ≤ lo) (hl : lo ≤ hi) (he : hi + 1 = hi') (h2 : hi' ≤ 8192) (h3 : hi' - lo = (K : Int)) (h4 : K ≤ 4096) : addS a b = (a.add b, 0) ∧ (a.add b).may = true ∧ (a.add b).inn lo hi' K := by
  have ea := ((D.may_iff a).1 ma).2.1
  have eb := ((D.may_iff b).1 mb).2.1
  have h5 : (a.add b).inn lo hi' K := inn_more (inn_add ha hb (by omega) hl (by omega) (by omega)) (Int.le_refl _) (by omega) (by omega)
  have h6 := inn_may (D.add_plain a b) h5 h1 h2 h4
  exact ⟨by rw [addS_ok ma mb, tld_ok h6], h6, h5⟩
theorem addS_in {lo hi : Int} {L L' : Nat} {a b : D} (ma : a.may = true) (mb : b.may = true) (ha : a.inn lo hi L) (hb : b.inn lo hi L') (h1 : -8192 ≤ lo) (hl : lo ≤ hi) (h2 : hi + 1 ≤ 8192) (h3 : hi + 1 - lo ≤ 4096) : addS a b = (a.add b, 0) ∧ (a.add b).may = true ∧ (a.add b).inn lo (hi + 1) (hi + 1 - lo).toNat := by
  have ea := ((D.may_iff a).1 ma).2.1
  have eb := ((D.may_iff b).1 mb).2.1
  have h4 := inn_add ha hb (by omega) hl (by omega) (by omega)
  have h5 := inn_may (D.add_plain a b) h4 h1 h2 (by omega)
  exact ⟨by rw [addS_ok ma mb, tld_ok h5], h5, h4⟩
theorem mulS_in {lo hi lo' hi' : Int} {L L' : Nat} {a b : D} (ma : a.may = true) (mb : b.may = true) (ha : a.inn lo hi L) (hb : b.inn lo' hi' L') (h1 : -8192 ≤ lo + lo') (h2 : hi + hi' ≤ 8192) (h3 : L + L' ≤ 4096) : mulS a b = (a.mul b, 0) ∧ (a.mul b).may = true ∧ (a.mul b).inn (lo + lo') (hi + hi') (L + L') := by
  have h4 := inn_mul ha hb
  have h5 := inn_may (D.mul_plain a b) h4 h1 h2 h3
  exact ⟨by rw [mulS_ok ma mb, tld_ok h5], h5, h4⟩
theorem small_in {d : D} (h1 : blen d.x ≤ 640) (h2 : -1000 ≤ d.e) (h3 : d.e ≤ 1000) : d.may = true ∧ d.inn (-1000) 1640 640 :=
  ⟨(D.may_iff d).2 ⟨by omega, by omega, by omega⟩, fun _ => ⟨h2, by omega, h1⟩⟩
end Go.Proofs.YthaehfdjldjdiaaDoor
