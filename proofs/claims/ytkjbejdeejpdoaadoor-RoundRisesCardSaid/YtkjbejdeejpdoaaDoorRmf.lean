
/-
  What the laws of layer 4 make of rounding: half a place, twice: nothing of a program.
-/
import Derived.Test.YtkjbejdeejpdoaaDoorRme
namespace Go.Proofs.YtkjbejdeejpdoaaDoor
open Go.RowKit
set_option linter.unusedVariables false

section
variable {B P W M E H : Nat} {low : Int}
/-- a number as the laws take it may be rounded. -/
theorem law_may {a : D} (hx : blen a.x ≤ 1280) (h1 : -1200 ≤ a.e) (h2 : a.e ≤ 1100) : a.may = true ∧ mayR a = true ∧ a.inn (-1200) 2380 1280 ∧ a.vl.natAbs ≤ BIG := by
  have hm : a.may = true := (D.may_iff a).2 ⟨by omega, by omega, by omega⟩
  refine ⟨hm, ?_, fun _ => ⟨h1, by omega, hx⟩, big_abs (by omega) (by omega)⟩
  by_cases h0 : a.x = 0
  · unfold mayR
    rw [hm, decide_eq_true h0]
    rfl
  · refine mayR_of hm ?_ (by omega)
    have h5 := blen_div_tz h0
    rw [D.pl_pos h0, D.may_iff]
    show blen (a.x / 2 ^ tz a.x) ≤ 4096 ∧ -8192 ≤ a.e + (tz a.x : Int) ∧ a.e + (tz a.x : Int) ≤ 8192
    omega
/-- the number of bits k and a sign: it may be taken, and where its bits lie. -/
theorem val_inn (hf : Fm B P W M E H low) (s : Bool) (k : Nat) : (D.pl ⟨s, valN M E k, valP M E low k⟩).may = true ∧ (D.pl ⟨s, valN M E k, valP M E low k⟩).inn (-1200) 2380 64 ∧ -1200 ≤ (D.pl ⟨s, valN M E k, valP M E low k⟩).e := by
  obtain ⟨b1, b2, b3, b4, b5, b6, b7, b8, b9, b10, b11, b12, b13, b14, b15⟩ := hf.bd
  obtain ⟨p1, p2⟩ := valP_bd hf k
  have hn := valN_lt hf k
  have hb : blen (valN M E k) ≤ 64 := blen_lt_pow (by omega)
  refine ⟨(val_may hf k s).2, inn_pl (fun _ => ⟨by show -1200 ≤ valP M E low k; omega, by show (blen (valN M E k) : Int) + valP M E low k ≤ 2380; omega, hb⟩), ?_⟩
  exact D.pl_low (m := -1200) (by show -1200 ≤ valP M E low k; omega) (by omega)
/-- how far what is told is from the number. -/
theorem half_sub (hf : Fm B P W M E H low) {a : D} (hx : blen a.x ≤ 1280) (h1 : -1200 ≤ a.e) (h2 : a.e ≤ 1100) (k : Nat) (hk : k < M * E) :
    ∃ d : D, addS a (D.turn (D.pl ⟨a.neg, valN M E k, valP M E low k⟩)) = (d, 0) ∧ blen d.x ≤ 4096 ∧ (⟨false, d.x, d.e⟩ : D).may = true ∧ (⟨false, d.x, d.e⟩ : D).vl = (((a.vl.natAbs : Int) - (valU M low k : Int)).natAbs : Int) := by
  obtain ⟨m1, m2, m3, m4⟩ := law_may hx h1 h2
  obtain ⟨n1, n2, n3⟩ := val_inn hf a.neg k
  have hv := (val_abs hf a.neg k hk).2
  obtain ⟨g1, g2, g3⟩ := addS_to (hi' := 2381) 3581 m1 (show (D.turn (D.pl ⟨a.neg, valN M E k, valP M E low k⟩)).may = true by rw [D.turn_may]; exact n1) m3 (inn_turn n2) (by omega) (by omega) (by omega) (by omega) (by omega) (by omega)
  refine ⟨_, g1, ((D.may_iff _).1 g2).1, ?_, ?_⟩
  · rw [D.may_iff] at g2 ⊢
    exact g2
  · have h3 : (⟨false, (a.add (D.turn (D.pl ⟨a.neg, valN M E k, valP M E low k⟩))).x, (a.add (D.turn (D.pl ⟨a.neg, valN M E k, valP M E low k⟩))).e⟩ : D).vl = ((a.add (D.turn (D.pl ⟨a.neg, valN M E k, valP M E low k⟩))).vl.natAbs : Int) := by
      rw [D.vl_natAbs]
      unfold D.vl D.sz
      simp
    rw [h3, D.add_vl (by omega) (by show -40000 ≤ (D.pl ⟨a.neg, valN M E k, valP M E low k⟩).e; omega), D.turn_vl, hv]
    have h4 : a.vl = if a.neg then -(a.vl.natAbs : Int) else (a.vl.natAbs : Int) := by
      rw [D.vl_natAbs]
      unfold D.vl D.sz
      cases a.neg
      · simp
      · simp [Int.neg_mul]
    generalize a.vl = z at *
    generalize (valU M low k : Int) = v at *
    cases h : a.neg <;> rw [h] at h4 <;> simp at h4 ⊢ <;> omega
/-- LESS THAN A PLACE AWAY, by Even and Away half a place at most. -/
theorem round_half (hf : Fm B P W M E H low) {mode : Int} (hmode : 0 ≤ mode ∧ mode ≤ 4) {a : D} (hx : blen a.x ≤ 1280) (h1 : -1200 ≤ a.e) (h2 : a.e ≤ 1100) (h0 : a.x ≠ 0)
    (hfl : (roundS P M E H low mode a false).2.1 ≠ 5) {p : Int} (hp : plcS P low a = p) :
    ∃ k, k < M * E ∧ (roundS P M E H low mode a false).1 = sgn H a.neg k ∧ (roundS P M E H low mode a false).2.2 = 0 ∧
      cmpI (((a.vl.natAbs : Int) - (valU M low k : Int)).natAbs : Int) (⟨false, 1, p⟩ : D).vl < 0 ∧ (cmpI (((a.vl.natAbs : Int) - (valU M low k : Int)).natAbs : Int) (⟨false, 1, p - 1⟩ : D).vl ≤ 0 ∨ (mode ≠ 0 ∧ mode ≠ 4)) := by
  obtain ⟨b1, b2, b3, b4, b5, b6, b7, b8, b9, b10, b11, b12, b13, b14, b15⟩ := hf.bd
  obtain ⟨m1, m2, m3, m4⟩ := law_may hx h1 h2
  obtain ⟨r1, r2, r3⟩ := roundS_bits (P := P) (M := M) (E := E) (H := H) (low := low) hmode m2 h0 false
  have hk : rC P M low mode a.neg a.vl.natAbs < M * E := by
    refine Classical.byContradiction fun h => ?_
    rw [if_neg h] at r3
    exact hfl r3
  have hrc : rndC P M E low mode a.neg a.vl.natAbs = rC P M low mode a.neg a.vl.natAbs := by unfold rndC capC; rw [if_pos hk]
  rw [hrc] at r1
  have hplc := plc_cell (P := P) (low := low) h0 (show -40000 ≤ a.e by omega)
  have hw := (flC_spec hf a.vl.natAbs).2
  rw [← hplc, hp] at hw
  have hpl : low ≤ p := by rw [← hp]; unfold plcS; omega
  have u1 : (⟨false, 1, p⟩ : D).vl = ((2 ^ (p + 40000).toNat : Nat) : Int) := by
    rw [two_cast]
    unfold D.vl D.sz
    simp
  have u2 : 2 * (⟨false, 1, p - 1⟩ : D).vl = ((2 ^ (p + 40000).toNat : Nat) : Int) := by
    rw [two_cast, show (p + 40000).toNat = (p - 1 + 40000).toNat + 1 by omega, Int.pow_succ]
    unfold D.vl D.sz
    simp [Int.mul_comm]
  obtain ⟨h3, h4, h5⟩ := rC_half hf mode a.neg a.vl.natAbs
  rw [hw] at h3 h4 h5
  refine ⟨_, hk, r1, r2, ?_, ?_⟩
  · rw [u1]
    generalize (2 ^ (p + 40000).toNat : Nat) = U at *
    have := cmpI_cases (((a.vl.natAbs : Int) - (valU M low (rC P M low mode a.neg a.vl.natAbs) : Int)).natAbs : Int) (U : Int)
    omega
  · by_cases hm : mode = 0 ∨ mode = 4
    · left
      have h6 := h5 hm
      generalize (2 ^ (p + 40000).toNat : Nat) = U at *
      generalize (⟨false, 1, p - 1⟩ : D).vl = V at *
      have := cmpI_cases (((a.vl.natAbs : Int) - (valU M low (rC P M low mode a.neg a.vl.natAbs) : Int)).natAbs : Int) V
      omega
    · right
      exact ⟨fun h => hm (.inl h), fun h => hm (.inr h)⟩
/-- TO A WIDER FORMAT FIRST, AND THEN TO THE NARROWER. -/
theorem round_nested {B' P' W' M' E' H' : Nat} {low' : Int} (hf : Fm B P W M E H low) (hg : Fm B' P' W' M' E' H' low') (hP : P ≤ P') (hl : low' ≤ low) {mode : Int} (hmode : mode = 1 ∨ mode = 2 ∨ mode = 3) {a : D} (hm : mayR a = true) (he : -40000 ≤ a.e)
    (hfl : (roundS P' M' E' H' low' mode a false).2.1 ≠ 5) :
    ∃ (s : Bool) (k : Nat), k < M' * E' ∧ (roundS P' M' E' H' low' mode a false).1 = sgn H' s k ∧ (roundS P' M' E' H' low' mode a false).2.2 = 0 ∧
      (roundS P M E H low mode a false).2.2 = 0 ∧ (roundS P M E H low mode (D.pl ⟨s, valN M' E' k, valP M' E' low' k⟩) s).2.2 = 0 ∧
      (roundS P M E H low mode a false).1 = (roundS P M E H low mode (D.pl ⟨s, valN M' E' k, valP M' E' low' k⟩) s).1 := by
  have hmo : 0 ≤ mode ∧ mode ≤ 4 := by omega
  have hME := ME_lt hg
  by_cases h0 : a.x = 0
  · have e := roundS_zero (P := P') (M := M') (E := E') (H := H') (low := low') hmo hm h0 false
    have e2 := roundS_zero (P := P) (M := M) (E := E) (H := H) (low := low) hmo hm h0 false
    have hz : (D.pl ⟨false, valN M' E' 0, valP M' E' low' 0⟩).x = 0 := by
      have : valN M' E' 0 = 0 := by unfold valN; simp
      rw [D.pl_zero (d := ⟨false, valN M' E' 0, valP M' E' low' 0⟩) this]
    have e3 := roundS_zero (P := P) (M := M) (E := E) (H := H) (low := low) hmo (val_mayR hg 0 false) hz false
    exact ⟨false, 0, hME.1, by rw [e], by rw [e], by rw [e2], by rw [e3], by rw [e2, e3]⟩
  · obtain ⟨r1, r2, r3⟩ := roundS_bits (P := P') (M := M') (E := E') (H := H') (low := low') hmo hm h0 false
    obtain ⟨s1, s2, s3⟩ := roundS_bits (P := P) (M := M) (E := E) (H := H) (low := low) hmo hm h0 false
    have hk : rC P' M' low' mode a.neg a.vl.natAbs < M' * E' := by
      refine Classical.byContradiction fun h => ?_
      rw [if_neg h] at r3
      exact hfl r3
    have hrc : rndC P' M' E' low' mode a.neg a.vl.natAbs = rC P' M' low' mode a.neg a.vl.natAbs := by unfold rndC capC; rw [if_pos hk]
    rw [hrc] at r1
    obtain ⟨k, hkk⟩ : ∃ k, rC P' M' low' mode a.neg a.vl.natAbs = k := ⟨_, rfl⟩
    have hn := rndC_nested (E := E) hf hg hP hl a.neg hmode a.vl.natAbs
    rw [hkk] at r1 hk hn
    have hva := (val_abs hg a.neg k hk).2
    have habs : (D.pl ⟨a.neg, valN M' E' k, valP M' E' low' k⟩).vl.natAbs = valU M' low' k := by
      rw [hva]
      cases a.neg <;> simp
    have hvm := val_mayR hg k a.neg
    refine ⟨a.neg, k, hk, r1, r2, s2, ?_, ?_⟩
    · by_cases hz : (D.pl ⟨a.neg, valN M' E' k, valP M' E' low' k⟩).x = 0
      · rw [roundS_zero hmo hvm hz]
      · exact (roundS_bits (P := P) (M := M) (E := E) (H := H) (low := low) hmo hvm hz a.neg).2.1
    · rw [s1, ← hn]
      by_cases hz : (D.pl ⟨a.neg, valN M' E' k, valP M' E' low' k⟩).x = 0
      · rw [roundS_zero hmo hvm hz]
        have h1 : valU M' low' k = 0 := by rw [← habs, D.vl_natAbs, hz, Nat.zero_mul]
        rw [h1, rndC_zero hf]
      · have hneg : (D.pl ⟨a.neg, valN M' E' k, valP M' E' low' k⟩).neg = a.neg := by
          have hn0 : valN M' E' k ≠ 0 := fun h => hz (by rw [D.pl_zero (d := ⟨a.neg, valN M' E' k, valP M' E' low' k⟩) h])
          rw [D.pl_pos (d := ⟨a.neg, valN M' E' k, valP M' E' low' k⟩) hn0]
        have t1 := (roundS_bits (P := P) (M := M) (E := E) (H := H) (low := low) hmo hvm hz a.neg).1
        rw [habs, hneg] at t1
        rw [t1]
end
end Go.Proofs.YtkjbejdeejpdoaaDoor
