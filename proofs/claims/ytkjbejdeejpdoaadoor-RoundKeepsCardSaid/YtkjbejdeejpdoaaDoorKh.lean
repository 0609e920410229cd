
/-
  round's To tells roundS.
-/
import Derived.Test.YtkjbejdeejpdoaaDoorKg
namespace Go.Proofs.YtkjbejdeejpdoaaDoor
open Go.RowKit
set_option linter.unusedVariables false

theorem or_sgn {B P W M E H : Nat} {low : Int} (hf : Fm B P W M E H low) (neg : Bool) (c : Nat) (hc : c < H) : bits BinOp.or IntKind.u64 ((sgn H neg c : Nat) : Int) ((sgn H neg 0 : Nat) : Int) = ((sgn H neg c : Nat) : Int) := by
  obtain ⟨b1, b2, b3, b4, b5, b6, b7, b8, b9, b10, b11, b12, b13, b14, b15⟩ := hf.bd
  have hB := hf.pB
  unfold sgn
  cases neg
  · rw [if_neg (by decide), if_neg (by decide), or_u64 _ _ (by omega) (by omega), Nat.or_zero]
  · rw [if_pos rfl, if_pos rfl, or_u64 _ _ (by omega) (by omega), Nat.add_zero, ← hB, or_one_bit, hB, if_pos]
    rw [show H + c = c + H * 1 by omega, Nat.add_mul_div_left _ _ (by omega), Nat.div_eq_of_lt hc]
theorem tiny_top {B P W M E H : Nat} {low : Int} (hf : Fm B P W M E H low) {a : D} (h0 : a.x ≠ 0) (he : -40000 ≤ a.e) : decide ((blen a.x : Int) - 1 + a.e < low + (P : Int) - 1) = tinyS M low a.vl.natAbs := by
  obtain ⟨b1, b2, b3, b4, b5, b6, b7, b8, b9, b10, b11, b12, b13, b14, b15⟩ := hf.bd
  have hv := vl_blen h0 he
  have hb := blen_le a.vl.natAbs (P - 1 + (low + 40000).toNat)
  rw [Nat.pow_add, hf.pP] at hb
  unfold tinyS
  rw [decide_eq_decide, ← hb]
  omega
theorem flags_flg {B P W M E H : Nat} {low : Int} (hf : Fm B P W M E H low) {a : D} (h0 : a.x ≠ 0) (he : -40000 ≤ a.e) {p : Int} (hp : plcS P low a = p) :
    (if decide (a.vl.natAbs % 2 ^ (p + 40000).toNat ≠ 0) then if decide ((blen a.x : Int) - 1 + a.e < low + (P : Int) - 1) then (3 : Int) else 1 else 0) = flgS P M low a.vl.natAbs := by
  have hplc := plc_cell (P := P) (low := low) h0 he
  rw [hp] at hplc
  have fs1 := (flC_spec hf a.vl.natAbs).1
  rw [← hplc] at fs1
  rw [tiny_top hf h0 he]
  unfold flgS
  rw [fs1]
  have hdm := Nat.div_add_mod a.vl.natAbs (2 ^ (p + 40000).toNat)
  rw [Nat.mul_comm] at hdm
  by_cases hz : a.vl.natAbs % 2 ^ (p + 40000).toNat = 0
  · rw [if_neg (by simpa using hz), if_pos (by omega)]
  · have hne : ¬ (a.vl.natAbs / 2 ^ (p + 40000).toNat * 2 ^ (p + 40000).toNat = a.vl.natAbs) := by omega
    rw [if_pos (by simpa using hz), if_neg hne]
/-- TO: what it tells. -/
theorem to_as {B P W M E H : Nat} {low : Int} (hf : Fm B P W M E H low) {A : Option Addr} {n c x : Nat} {neg : Bool} {e : Int} {w : World} (h : Arg w A n c x) (hs : n ≤ 30000) (hT : Tab w) (mode : Int) (ng : Bool) {v : Nat} {fl err : Int} (hr : roundS P M E H low mode ⟨neg, x, e⟩ ng = (v, fl, err)) :
    Calls Tryd.prog 19 #[.agg #[.int .i64 (B : Int), .int .i64 (P : Int), .int .i64 (W : Int)], .int .i64 mode, .agg #[.bool neg, .slice A n c, .int .i64 e], .bool ng] w (ToX w v fl err) := by
  obtain ⟨b1, b2, b3, b4, b5, b6, b7, b8, b9, b10, b11, b12, b13, b14, b15⟩ := hf.bd
  unfold roundS at hr
  by_cases hmode : mode < 0 ∨ 4 < mode
  · rw [if_pos hmode] at hr
    simp only [Prod.mk.injEq] at hr
    obtain ⟨rfl, rfl, rfl⟩ := hr
    exact to_mode hf h hs hT (Lib.hid fun V => isMode_as mode false (by rw [Bool.and_eq_false_iff, decide_eq_false_iff_not, decide_eq_false_iff_not]; omega) V)
  rw [if_neg hmode] at hr
  have HI := Lib.hid fun V => isMode_as mode true (by rw [Bool.and_eq_true, decide_eq_true_eq, decide_eq_true_eq]; omega) V
  by_cases hm0 : mayR ⟨neg, x, e⟩ = false
  · rw [hm0, if_neg (by decide)] at hr
    simp only [Prod.mk.injEq] at hr
    obtain ⟨rfl, rfl, rfl⟩ := hr
    exact to_range hf h hs hT HI (Lib.hid fun V g1 g2 g3 => take_none g1 g2 g3 hm0)
  have hm : mayR ⟨neg, x, e⟩ = true := by simpa using hm0
  rw [if_pos hm] at hr
  by_cases h0 : x = 0
  · rw [if_pos h0] at hr
    simp only [Prod.mk.injEq] at hr
    obtain ⟨hv, rfl, rfl⟩ := hr
    exact to_zero hf h hs hT HI (Lib.hid fun V g1 g2 g3 => take_nought g1 g2 g3 hm h0) hv
  rw [if_neg h0] at hr
  obtain ⟨k1, k2, k3, k4⟩ := mayR_bd hm h0
  obtain ⟨p, hp⟩ : ∃ p, plcS P low ⟨neg, x, e⟩ = p := ⟨_, rfl⟩
  obtain ⟨p1, p2⟩ := plc_bd hf hm h0
  rw [hp] at p1 p2
  obtain ⟨dn, dx, de, hd⟩ : ∃ dn dx de, D.pl ⟨neg, x, e⟩ = ⟨dn, dx, de⟩ := ⟨_, _, _, rfl⟩
  obtain ⟨j1, j2, j3, j4⟩ := top_of k1 h0 hd
  have hdn : dn = neg := by
    have := D.pl_pos (d := ⟨neg, x, e⟩) h0
    rw [hd] at this
    simp only [D.mk.injEq] at this
    exact this.1
  subst hdn
  obtain ⟨t, ht⟩ : ∃ t : Int, (blen x : Int) - 1 + e = t := ⟨_, rfl⟩
  have hfl := flags_flg hf (a := ⟨dn, x, e⟩) h0 (by omega) hp
  have hplc := plc_cell (P := P) (low := low) (a := ⟨dn, x, e⟩) h0 (by omega)
  rw [hp] at hplc
  have hup := nb_up hf mode dn (⟨dn, x, e⟩ : D).vl.natAbs
  have hq := (flq hf (⟨dn, x, e⟩ : D).vl.natAbs).1
  rw [← hplc] at hup hq
  obtain ⟨lost, hlost⟩ : ∃ b, decide ((⟨dn, x, e⟩ : D).vl.natAbs % 2 ^ (p + 40000).toNat ≠ 0) = b := ⟨_, rfl⟩
  simp only at k3 k4 hfl hr
  rw [hlost, ht] at hfl
  rw [ht] at k3
  -- the neighbour
  obtain ⟨u, hu⟩ : ∃ u, (⟨dn, x, e⟩ : D).vl.natAbs / 2 ^ (p + 40000).toNat + (if upB mode dn (flC P M low (⟨dn, x, e⟩ : D).vl.natAbs) ((⟨dn, x, e⟩ : D).vl.natAbs - valU M low (flC P M low (⟨dn, x, e⟩ : D).vl.natAbs)) (wid M low (flC P M low (⟨dn, x, e⟩ : D).vl.natAbs)) then 1 else 0) = u := ⟨_, rfl⟩
  have hu1 : u ≤ 2 * M := by rw [← hu]; split <;> omega
  rw [hu] at hup
  obtain ⟨rn, rx, re, hpl⟩ : ∃ rn rx re, D.pl ⟨dn, u, p⟩ = ⟨rn, rx, re⟩ := ⟨_, _, _, rfl⟩
  obtain ⟨l1, l2, l3, l4, l5, l6, l7⟩ := ns_may (n := u) dn (p := p) (by omega) (by omega) (by omega)
  rw [hpl] at l1 l2 l3 l4 l5 l6 l7
  rw [hup] at l7
  simp only at l3 l4 l5
  obtain ⟨C, hC⟩ : ∃ C, rC P M low mode dn (⟨dn, x, e⟩ : D).vl.natAbs = C := ⟨_, rfl⟩
  rw [hC] at hr hup l7
  have HK := Lib.hid fun (V : World) (g1 : Arg V A n c x) g2 (g3 : Tab V) => take_num g1 g2 g3 hm h0 hd ht
  have HP := Lib.hid fun (V : World) (A1 : Option Addr) (n1 : Nat) => place_as hf (dn := dn) (nz := false) (A := A1) (n := n1) (c := n1) (de := de) (w := V) (t := t) (by omega) (by omega) (p := p) (by rw [← ht, ← hp]; rfl)
  have HR := Lib.hid fun (V : World) (A1 : Option Addr) (n1 : Nat) (g1 : Arg V A1 n1 n1 dx) (g2 : n1 ≤ 30000) (g3 : Tab V) => rounded_as hf (nz := false) (t := t) hm h0 hd g1 g2 g3 mode hp hlost (rn := rn) (rx := rx) (re := re) (by simp only [hu]; exact hpl)
  have hrn : rx ≠ 0 → rn = dn := fun hx => by
    by_cases hu0 : u = 0
    · rw [D.pl_zero (d := ⟨dn, u, p⟩) hu0] at hpl
      simp only [D.mk.injEq] at hpl
      exact absurd hpl.2.1.symm hx
    · rw [D.pl_pos (d := ⟨dn, u, p⟩) hu0] at hpl
      simp only [D.mk.injEq] at hpl
      exact hpl.1.symm
  have hME := ME_lt hf
  by_cases hlt : C < M * E
  · rw [if_pos hlt] at hr
    simp only [Prod.mk.injEq] at hr
    obtain ⟨hv, hfl2, rfl⟩ := hr
    have hsub : ∃ b, putS P M E H low ⟨rn, rx, re⟩ = (b, 0) ∧ bits BinOp.or IntKind.u64 (b : Int) ((sgn H dn 0 : Nat) : Int) = (v : Int) := by
      by_cases hx : rx = 0
      · have hC0 : C = 0 := by
          rw [D.vl_natAbs] at l7
          simp only [hx, Nat.zero_mul] at l7
          have := (valU_mono hf (a := 0) (b := C)).1
          rw [valU_zero hf] at this
          omega
        refine ⟨0, by unfold putS; rw [l1, if_pos rfl, if_pos hx], ?_⟩
        rw [← hv, hC0]
        have := or_u64 0 (sgn H dn 0) (by omega) (by unfold sgn; split <;> omega)
        rw [Nat.zero_or] at this
        exact this
      · refine ⟨sgn H dn C, ?_, by rw [← hv]; exact or_sgn hf dn C (by omega)⟩
        have := put_mul hf l2 (by show -40000 ≤ re; omega) hx hlt l7
        rw [this]
        simp only [hrn hx]
    obtain ⟨b, hb1, hb2⟩ := hsub
    exact to_within hf h hs hT HI HK j3 HP HR (by omega) (Lib.hid hb1) (by decide) (Lib.hid fun V => nought_as hf dn _ rfl V)
      (Lib.hid fun V A1 n1 => flags_as hf (dn := dn) (nz := false) (A := A1) (n := n1) (c := n1) (de := de) (t := t) (w := V) lost _ rfl fl (by rw [hfl]; exact hfl2)) hb2
  · rw [if_neg hlt] at hr
    simp only [Prod.mk.injEq] at hr
    obtain ⟨hv, rfl, rfl⟩ := hr
    have hx : rx ≠ 0 := by
      intro hx
      rw [D.vl_natAbs] at l7
      simp only [hx, Nat.zero_mul] at l7
      have := (valU_mono hf (a := 0) (b := C)).1
      rw [valU_zero hf] at this
      omega
    have := put_none hf l1 hx (by omega) l7
    exact to_beyond hf h hs hT HI HK j3 HP HR (by omega) (Lib.hid this) (by decide) (Lib.hid fun V => beyond_as hf mode dn v hv V)
end Go.Proofs.YtkjbejdeejpdoaaDoor
