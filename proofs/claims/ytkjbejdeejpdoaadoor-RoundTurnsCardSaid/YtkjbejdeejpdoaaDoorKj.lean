
/-
  What round's Neighbours and Tiny tell.
-/
import Derived.Test.YtkjbejdeejpdoaaDoorKi
import Derived.Test.YtkjbejdeejpdoaaDoorKh
namespace Go.Proofs.YtkjbejdeejpdoaaDoor
open Go.RowKit
set_option linter.unusedVariables false

theorem nk_none {B P W M E H : Nat} {low : Int} (hf : Fm B P W M E H low) {A : Option Addr} {n c x : Nat} {neg : Bool} {e : Int} {w : World} (h : Arg w A n c x) (hs : n ≤ 30000) (hT : Tab w) (hm : mayR ⟨neg, x, e⟩ = false) :
    Calls Tryd.prog 12 #[.agg #[.int .i64 (B : Int), .int .i64 (P : Int), .int .i64 (W : Int)], .agg #[.bool neg, .slice A n c, .int .i64 e]] w (NkX w false 0 0 false 0 0 3) :=
  nk_range hf h hs hT (Lib.hid fun V g1 g2 g3 => take_none g1 g2 g3 hm)
theorem nk_nought {B P W M E H : Nat} {low : Int} (hf : Fm B P W M E H low) {A : Option Addr} {n c x : Nat} {neg : Bool} {e : Int} {w : World} (h : Arg w A n c x) (hs : n ≤ 30000) (hT : Tab w) (hm : mayR ⟨neg, x, e⟩ = true) (h0 : x = 0) :
    Calls Tryd.prog 12 #[.agg #[.int .i64 (B : Int), .int .i64 (P : Int), .int .i64 (W : Int)], .agg #[.bool neg, .slice A n c, .int .i64 e]] w (NkX w false 0 0 false 0 0 0) :=
  nk_zero hf h hs hT (Lib.hid fun V g1 g2 g3 => take_nought g1 g2 g3 hm h0)
/-- THE NEIGHBOURS of a number that isn't 0. -/
theorem nk_num {B P W M E H : Nat} {low : Int} (hf : Fm B P W M E H low) {A : Option Addr} {n c x : Nat} {neg : Bool} {e : Int} {w : World} (h : Arg w A n c x) (hs : n ≤ 30000) (hT : Tab w) (hm : mayR ⟨neg, x, e⟩ = true) (h0 : x ≠ 0)
    {p : Int} (hp : plcS P low ⟨neg, x, e⟩ = p) {ln hn : Bool} {lx hx : Nat} {le he : Int}
    (hlow : D.pl ⟨neg, (⟨neg, x, e⟩ : D).vl.natAbs / 2 ^ (p + 40000).toNat, p⟩ = ⟨ln, lx, le⟩)
    (hhigh : D.pl ⟨neg, (⟨neg, x, e⟩ : D).vl.natAbs / 2 ^ (p + 40000).toNat + (if (⟨neg, x, e⟩ : D).vl.natAbs % 2 ^ (p + 40000).toNat = 0 then 0 else 1), p⟩ = ⟨hn, hx, he⟩) :
    Calls Tryd.prog 12 #[.agg #[.int .i64 (B : Int), .int .i64 (P : Int), .int .i64 (W : Int)], .agg #[.bool neg, .slice A n c, .int .i64 e]] w (NkX w ln lx le hn hx he 0) := by
  obtain ⟨b1, b2, b3, b4, b5, b6, b7, b8, b9, b10, b11, b12, b13, b14, b15⟩ := hf.bd
  obtain ⟨k1, k2, k3, k4⟩ := mayR_bd hm h0
  obtain ⟨p1, p2⟩ := plc_bd hf hm h0
  have hplc := plc_cell (P := P) (low := low) (a := ⟨neg, x, e⟩) h0 (by omega)
  rw [hp] at p1 p2 hplc
  have hq := (flq hf (⟨neg, x, e⟩ : D).vl.natAbs).1
  rw [← hplc] at hq
  obtain ⟨dn, dx, de, hd⟩ : ∃ dn dx de, D.pl ⟨neg, x, e⟩ = ⟨dn, dx, de⟩ := ⟨_, _, _, rfl⟩
  obtain ⟨j1, j2, j3, j4⟩ := top_of k1 h0 hd
  have hdn : dn = neg := by
    have := D.pl_pos (d := ⟨neg, x, e⟩) h0
    rw [hd] at this
    simp only [D.mk.injEq] at this
    exact this.1
  subst hdn
  obtain ⟨t, ht⟩ : ∃ t : Int, (blen x : Int) - 1 + e = t := ⟨_, rfl⟩
  simp only at k3 k4
  rw [ht] at k3
  have hfl := pl_floor hm h0 (p := p) (by omega) (by omega)
  rw [hd] at hfl
  simp only at hfl
  have HK := Lib.hid fun (V : World) (g1 : Arg V A n c x) g2 (g3 : Tab V) => take_num g1 g2 g3 hm h0 hd ht
  have HP := Lib.hid fun (V : World) (A1 : Option Addr) (n1 : Nat) => place_as hf (dn := dn) (nz := false) (A := A1) (n := n1) (c := n1) (de := de) (w := V) (t := t) (by omega) (by omega) (p := p) (by rw [← ht, ← hp]; rfl)
  obtain ⟨q, hqq⟩ : ∃ q, (⟨dn, x, e⟩ : D).vl.natAbs / 2 ^ (p + 40000).toNat = q := ⟨_, rfl⟩
  rw [hqq] at hq hlow hhigh hfl
  obtain ⟨l1, l2, l3, l4, l5, l6, l7⟩ := ns_may (n := q) dn (p := p) (by omega) (by omega) (by omega)
  rw [hlow] at hfl l1 l2 l3 l4 l5 l6 l7
  simp only at l3 l4 l5
  by_cases hz : (⟨dn, x, e⟩ : D).vl.natAbs % 2 ^ (p + 40000).toNat = 0
  · rw [if_pos hz, Nat.add_zero, hlow] at hhigh
    simp only [D.mk.injEq] at hhigh
    obtain ⟨rfl, rfl, rfl⟩ := hhigh
    rw [decide_eq_false (by simpa using hz)] at hfl
    have hun : (⟨ln, lx, le⟩ : D) = ⟨dn, dx, de⟩ := by
      have hple := D.pl_low (d := ⟨dn, x, e⟩) (m := -40000) (by show -40000 ≤ e; omega) (by omega)
      have hpv := D.pl_vl (d := ⟨dn, x, e⟩) (by show -40000 ≤ e; omega)
      have hpp := D.pl_plain ⟨dn, x, e⟩
      rw [hd] at hple hpv hpp
      refine D.unique l2 hpp (by show -40000 ≤ le; omega) hple ?_
      have hdm := Nat.div_add_mod (⟨dn, x, e⟩ : D).vl.natAbs (2 ^ (p + 40000).toNat)
      rw [hqq, hz, Nat.add_zero, Nat.mul_comm, D.vl_natAbs] at hdm
      simp only at hdm
      rw [l6, hpv, sz_vl, sz_vl, hdm]
    simp only [D.mk.injEq] at hun
    obtain ⟨rfl, rfl, rfl⟩ := hun
    exact nk_exact hf h hs hT HK j3 HP (Lib.hid hfl) (by omega) rfl
  · rw [if_neg hz] at hhigh
    rw [decide_eq_true hz] at hfl
    have hadd := ns_next dn (n := q) (p := p) (by omega) (by omega) (by omega)
    rw [hlow, hhigh] at hadd
    exact nk_lost hf h hs hT HK j3 HP (Lib.hid hfl) (by omega) rfl (Lib.hid hadd)
theorem ty_range {B P W M E H : Nat} {low : Int} (hf : Fm B P W M E H low) {A : Option Addr} {n c x : Nat} {neg : Bool} {e : Int} {w : World} (h : Arg w A n c x) (hs : n ≤ 30000) (hT : Tab w) (HK : Hid (∀ (V : World), Arg V A n c x → n ≤ 30000 → Tab V → Calls Tryd.prog 33 #[.agg #[.bool neg, .slice A n c, .int .i64 e]] V (TkX V false 0 0 0 false 3))) : Calls Tryd.prog 31 #[.agg #[.int .i64 (B : Int), .int .i64 (P : Int), .int .i64 (W : Int)], .agg #[.bool neg, .slice A n c, .int .i64 e]] w fun en w' => en = .returned (.bool false) ∧ Below w.heap.size w w' := by
  clear hf
  go_enter Tryd.func31, Tryd.ntmps31
  go_wp2_with fail
  obtain ⟨V, hV, z0, z1, BW, sW⟩ := fframe2 w 28 25 (B : Int) (P : Int) (W : Int) neg A n c e
  rw [hV]
  clear hV sW
  replace hT := hT.on BW
  replace h := h.on BW
  refine (HK.out _ h hs hT).mono ?_
  rintro en w1 ⟨V_rd, v_rd, rfl, rd, b⟩
  replace z0 := z0.on b
  replace z1 := z1.on b
  replace hT := hT.on b
  replace h := h.on b
  replace BW := Below.step BW b
  clear b
  obtain ⟨z0c0, z0c1, z0c2, z0f0, z0f1, z0f2, z0l⟩ := z0.cells
  obtain ⟨z1c0, z1c1, z1c2, z1f0, z1f1, z1f2, z1l⟩ := z1.cells
  go_upto_region 2 with fail
  clear z0c0 z0c1 z0c2 z0f0 z0f1 z0f2 z0l z1c0 z1c1 z1c2 z1f0 z1f1 z1f2 z1l
  obtain ⟨w2, e_w2⟩ : ∃ w', w1.alloc (nob false V_rd v_rd v_rd 0 0 false 73) = w' := ⟨_, rfl⟩
  have b : Below w1.heap.size w1 w2 := e_w2 ▸ below_lit _ _
  have hs_w2 : w2.heap.size = w1.heap.size + 1 := e_w2 ▸ size_lit w1 _ rfl
  have zn : NB w2 w1.heap.size 73 false V_rd v_rd v_rd 0 0 false := e_w2 ▸ NB.made w1 rfl 73 false V_rd v_rd v_rd 0 0 false
  rw [e_w2]
  clear e_w2
  replace z0 := z0.on b
  replace z1 := z1.on b
  replace hT := hT.on b
  replace h := h.on b
  replace rd := rd.on b
  replace BW := Below.step BW b
  clear b
  clear hs_w2
  obtain ⟨z0c0, z0c1, z0c2, z0f0, z0f1, z0f2, z0l⟩ := z0.cells
  obtain ⟨znc0, znc1, znc2, znc3, znc4, znf0, znf1, znf2, znf3, znf4, znl⟩ := zn.cells
  go_wp2_with fail
  refine bodyPost_ret (v := .bool false) (by simp [results, Tryd.results31, go_sem]) rfl ⟨rfl, BW⟩
theorem ty_zero {B P W M E H : Nat} {low : Int} (hf : Fm B P W M E H low) {A : Option Addr} {n c x : Nat} {neg : Bool} {e : Int} {w : World} (h : Arg w A n c x) (hs : n ≤ 30000) (hT : Tab w) (HK : Hid (∀ (V : World), Arg V A n c x → n ≤ 30000 → Tab V → Calls Tryd.prog 33 #[.agg #[.bool neg, .slice A n c, .int .i64 e]] V (TkX V false 0 0 0 true 0))) : Calls Tryd.prog 31 #[.agg #[.int .i64 (B : Int), .int .i64 (P : Int), .int .i64 (W : Int)], .agg #[.bool neg, .slice A n c, .int .i64 e]] w fun en w' => en = .returned (.bool false) ∧ Below w.heap.size w w' := by
  clear hf
  go_enter Tryd.func31, Tryd.ntmps31
  go_wp2_with fail
  obtain ⟨V, hV, z0, z1, BW, sW⟩ := fframe2 w 28 25 (B : Int) (P : Int) (W : Int) neg A n c e
  rw [hV]
  clear hV sW
  replace hT := hT.on BW
  replace h := h.on BW
  refine (HK.out _ h hs hT).mono ?_
  rintro en w1 ⟨V_rd, v_rd, rfl, rd, b⟩
  replace z0 := z0.on b
  replace z1 := z1.on b
  replace hT := hT.on b
  replace h := h.on b
  replace BW := Below.step BW b
  clear b
  obtain ⟨z0c0, z0c1, z0c2, z0f0, z0f1, z0f2, z0l⟩ := z0.cells
  obtain ⟨z1c0, z1c1, z1c2, z1f0, z1f1, z1f2, z1l⟩ := z1.cells
  go_upto_region 2 with fail
  clear z0c0 z0c1 z0c2 z0f0 z0f1 z0f2 z0l z1c0 z1c1 z1c2 z1f0 z1f1 z1f2 z1l
  obtain ⟨w2, e_w2⟩ : ∃ w', w1.alloc (nob false V_rd v_rd v_rd 0 0 true 73) = w' := ⟨_, rfl⟩
  have b : Below w1.heap.size w1 w2 := e_w2 ▸ below_lit _ _
  have hs_w2 : w2.heap.size = w1.heap.size + 1 := e_w2 ▸ size_lit w1 _ rfl
  have zn : NB w2 w1.heap.size 73 false V_rd v_rd v_rd 0 0 true := e_w2 ▸ NB.made w1 rfl 73 false V_rd v_rd v_rd 0 0 true
  rw [e_w2]
  clear e_w2
  replace z0 := z0.on b
  replace z1 := z1.on b
  replace hT := hT.on b
  replace h := h.on b
  replace rd := rd.on b
  replace BW := Below.step BW b
  clear b
  clear hs_w2
  obtain ⟨z0c0, z0c1, z0c2, z0f0, z0f1, z0f2, z0l⟩ := z0.cells
  obtain ⟨znc0, znc1, znc2, znc3, znc4, znf0, znf1, znf2, znf3, znf4, znl⟩ := zn.cells
  go_wp2_with fail
  refine bodyPost_ret (v := .bool false) (by simp [results, Tryd.results31, go_sem]) rfl ⟨rfl, BW⟩
theorem ty_num {B P W M E H : Nat} {low : Int} (hf : Fm B P W M E H low) {A : Option Addr} {n c x : Nat} {neg : Bool} {e : Int} {w : World} (h : Arg w A n c x) (hs : n ≤ 30000) (hT : Tab w) {dx : Nat} {de t : Int} (HK : Hid (∀ (V : World), Arg V A n c x → n ≤ 30000 → Tab V → Calls Tryd.prog 33 #[.agg #[.bool neg, .slice A n c, .int .i64 e]] V (TkX V neg dx de t false 0))) {b : Bool}
    (HY : Hid (∀ (V : World) (A1 : Option Addr) (n1 : Nat), Calls Tryd.prog 68 #[.agg #[.bool neg, .slice A1 n1 n1, .int .i64 de, .int .i64 t, .bool false], .agg #[.int .i64 (B : Int), .int .i64 (P : Int), .int .i64 (W : Int)]] V fun en w' => en = .returned (.bool b) ∧ Below V.heap.size V w')) : Calls Tryd.prog 31 #[.agg #[.int .i64 (B : Int), .int .i64 (P : Int), .int .i64 (W : Int)], .agg #[.bool neg, .slice A n c, .int .i64 e]] w fun en w' => en = .returned (.bool b) ∧ Below w.heap.size w w' := by
  clear hf
  go_enter Tryd.func31, Tryd.ntmps31
  go_wp2_with fail
  obtain ⟨V, hV, z0, z1, BW, sW⟩ := fframe2 w 28 25 (B : Int) (P : Int) (W : Int) neg A n c e
  rw [hV]
  clear hV sW
  replace hT := hT.on BW
  replace h := h.on BW
  refine (HK.out _ h hs hT).mono ?_
  rintro en w1 ⟨V_rd, v_rd, rfl, rd, b⟩
  replace z0 := z0.on b
  replace z1 := z1.on b
  replace hT := hT.on b
  replace h := h.on b
  replace BW := Below.step BW b
  clear b
  obtain ⟨z0c0, z0c1, z0c2, z0f0, z0f1, z0f2, z0l⟩ := z0.cells
  obtain ⟨z1c0, z1c1, z1c2, z1f0, z1f1, z1f2, z1l⟩ := z1.cells
  go_upto_region 2 with fail
  clear z0c0 z0c1 z0c2 z0f0 z0f1 z0f2 z0l z1c0 z1c1 z1c2 z1f0 z1f1 z1f2 z1l
  obtain ⟨w2, e_w2⟩ : ∃ w', w1.alloc (nob neg V_rd v_rd v_rd de t false 73) = w' := ⟨_, rfl⟩
  have b : Below w1.heap.size w1 w2 := e_w2 ▸ below_lit _ _
  have hs_w2 : w2.heap.size = w1.heap.size + 1 := e_w2 ▸ size_lit w1 _ rfl
  have zn : NB w2 w1.heap.size 73 neg V_rd v_rd v_rd de t false := e_w2 ▸ NB.made w1 rfl 73 neg V_rd v_rd v_rd de t false
  rw [e_w2]
  clear e_w2
  replace z0 := z0.on b
  replace z1 := z1.on b
  replace hT := hT.on b
  replace h := h.on b
  replace rd := rd.on b
  replace BW := Below.step BW b
  clear b
  clear hs_w2
  obtain ⟨z0c0, z0c1, z0c2, z0f0, z0f1, z0f2, z0l⟩ := z0.cells
  obtain ⟨znc0, znc1, znc2, znc3, znc4, znf0, znf1, znf2, znf3, znf4, znl⟩ := zn.cells
  go_wp2_with fail
  refine (HY.out _ _ _).mono ?_
  rintro en w3 ⟨rfl, b⟩
  clear z0c0 z0c1 z0c2 z0f0 z0f1 z0f2 z0l znc0 znc1 znc2 znc3 znc4 znf0 znf1 znf2 znf3 znf4 znl
  replace z0 := z0.on b
  replace z1 := z1.on b
  replace hT := hT.on b
  replace h := h.on b
  replace rd := rd.on b
  replace zn := zn.on b
  replace BW := Below.step BW b
  clear b
  go_wp2_with fail
  refine bodyPost_ret (v := .bool b) (by simp [results, Tryd.results31, go_sem]) rfl ⟨rfl, BW⟩
theorem tiny_tells {B P W M E H : Nat} {low : Int} (hf : Fm B P W M E H low) {A : Option Addr} {n c x : Nat} {neg : Bool} {e : Int} {w : World} (h : Arg w A n c x) (hs : n ≤ 30000) (hT : Tab w) (b : Bool) (hb : (mayR ⟨neg, x, e⟩ && (!decide (x = 0) && tinyS M low (⟨neg, x, e⟩ : D).vl.natAbs)) = b) : Calls Tryd.prog 31 #[.agg #[.int .i64 (B : Int), .int .i64 (P : Int), .int .i64 (W : Int)], .agg #[.bool neg, .slice A n c, .int .i64 e]] w fun en w' => en = .returned (.bool b) ∧ Below w.heap.size w w' := by
  by_cases hm0 : mayR ⟨neg, x, e⟩ = false
  · rw [hm0, Bool.false_and] at hb
    subst hb
    exact ty_range hf h hs hT (Lib.hid fun V g1 g2 g3 => take_none g1 g2 g3 hm0)
  have hm : mayR ⟨neg, x, e⟩ = true := by simpa using hm0
  rw [hm, Bool.true_and] at hb
  by_cases h0 : x = 0
  · rw [decide_eq_true h0, Bool.not_true, Bool.false_and] at hb
    subst hb
    exact ty_zero hf h hs hT (Lib.hid fun V g1 g2 g3 => take_nought g1 g2 g3 hm h0)
  · rw [decide_eq_false h0, Bool.not_false, Bool.true_and] at hb
    obtain ⟨k1, k2, k3, k4⟩ := mayR_bd hm h0
    obtain ⟨dn, dx, de, hd⟩ : ∃ dn dx de, D.pl ⟨neg, x, e⟩ = ⟨dn, dx, de⟩ := ⟨_, _, _, rfl⟩
    have hdn : dn = neg := by
      have := D.pl_pos (d := ⟨neg, x, e⟩) h0
      rw [hd] at this
      simp only [D.mk.injEq] at this
      exact this.1
    subst hdn
    obtain ⟨t, ht⟩ : ∃ t : Int, (blen x : Int) - 1 + e = t := ⟨_, rfl⟩
    have htt := tiny_top hf (a := ⟨dn, x, e⟩) h0 (by omega)
    simp only at htt
    rw [hb, ht] at htt
    exact ty_num hf h hs hT (Lib.hid fun V g1 g2 g3 => take_num g1 g2 g3 hm h0 hd ht) (Lib.hid fun V A1 n1 => tiny_as hf (dn := dn) (nz := false) (A := A1) (n := n1) (c := n1) (de := de) (w := V) (t := t) b htt)
end Go.Proofs.YtkjbejdeejpdoaaDoor
