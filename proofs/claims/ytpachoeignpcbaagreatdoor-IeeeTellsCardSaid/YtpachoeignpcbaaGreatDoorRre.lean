
/-
  The reference's To of layer 4 tells roundS.
-/
import Derived.Test.YtpachoeignpcbaaGreatDoorRR
import Derived.Test.YtpachoeignpcbaaGreatDoorKB
namespace Go.Proofs.YtpachoeignpcbaaGreatDoor
open Go.RowKit
set_option linter.unusedVariables false

set_option maxHeartbeats 1000000 in
theorem rto_m1 {B P W M E H : Nat} {low : Int} (hf : Fm B P W M E H low) {A : Option Addr} {n c x : Nat} {neg : Bool} {e : Int} {w : World} (h : BR w A n c x) (hn : n ≤ 100000) (mode : Int) (ng : Bool) (d1 : decide (mode < 0) = true) :
    Calls Tryz.prog 39 #[.agg #[.int .i64 (B : Int), .int .i64 (P : Int), .int .i64 (W : Int)], .int .i64 mode, .agg #[.bool neg, .slice A n c, .int .i64 e], .bool ng] w fun en w' => en = .returned (.tuple #[.int .u64 0, .int .i64 0, .int .i64 1]) ∧ Below w.heap.size w w' := by
  go_enter Tryz.func39, Tryz.ntmps39
  go_wp2_with fail
  obtain ⟨V, hV, z0, z1, BW, sW⟩ := fframe2 w 29 71 (B : Int) (P : Int) (W : Int) neg A n c e
  rw [hV]
  clear hV sW
  replace h := h.on BW
  refine bodyPost_ret (v := .tuple #[.int .u64 0, .int .i64 0, .int .i64 1]) (by simp [results, Tryz.results39, go_sem]) rfl ?_
  exact ⟨rfl, BW⟩
set_option maxHeartbeats 1000000 in
theorem rto_m2 {B P W M E H : Nat} {low : Int} (hf : Fm B P W M E H low) {A : Option Addr} {n c x : Nat} {neg : Bool} {e : Int} {w : World} (h : BR w A n c x) (hn : n ≤ 100000) (mode : Int) (ng : Bool) (d1 : decide (mode < 0) = false) (d2 : decide (4 < mode) = true) :
    Calls Tryz.prog 39 #[.agg #[.int .i64 (B : Int), .int .i64 (P : Int), .int .i64 (W : Int)], .int .i64 mode, .agg #[.bool neg, .slice A n c, .int .i64 e], .bool ng] w fun en w' => en = .returned (.tuple #[.int .u64 0, .int .i64 0, .int .i64 1]) ∧ Below w.heap.size w w' := by
  go_enter Tryz.func39, Tryz.ntmps39
  go_wp2_with fail
  obtain ⟨V, hV, z0, z1, BW, sW⟩ := fframe2 w 29 71 (B : Int) (P : Int) (W : Int) neg A n c e
  rw [hV]
  clear hV sW
  replace h := h.on BW
  refine bodyPost_ret (v := .tuple #[.int .u64 0, .int .i64 0, .int .i64 1]) (by simp [results, Tryz.results39, go_sem]) rfl ?_
  exact ⟨rfl, BW⟩
set_option maxHeartbeats 1000000 in
theorem rto_range {B P W M E H : Nat} {low : Int} (hf : Fm B P W M E H low) {A : Option Addr} {n c x : Nat} {neg : Bool} {e : Int} {w : World} (h : BR w A n c x) (hn : n ≤ 100000) (mode : Int) (ng : Bool) (d1 : decide (mode < 0) = false) (d2 : decide (4 < mode) = false) (HM : Hid (mayR ⟨neg, x, e⟩ = false)) :
    Calls Tryz.prog 39 #[.agg #[.int .i64 (B : Int), .int .i64 (P : Int), .int .i64 (W : Int)], .int .i64 mode, .agg #[.bool neg, .slice A n c, .int .i64 e], .bool ng] w fun en w' => en = .returned (.tuple #[.int .u64 0, .int .i64 0, .int .i64 3]) ∧ Below w.heap.size w w' := by
  go_enter Tryz.func39, Tryz.ntmps39
  go_wp2_with fail
  obtain ⟨V, hV, z0, z1, BW, sW⟩ := fframe2 w 29 71 (B : Int) (P : Int) (W : Int) neg A n c e
  rw [hV]
  clear hV sW
  replace h := h.on BW
  refine (rmayR_as h hn false HM.out).mono ?_
  rintro en w1 ⟨rfl, b⟩
  replace z0 := z0.on b
  replace z1 := z1.on b
  replace h := h.on b
  replace BW := Below.step BW b
  clear b
  obtain ⟨z0c0, z0c1, z0c2, z0f0, z0f1, z0f2, z0l⟩ := z0.cells
  obtain ⟨z1c0, z1c1, z1c2, z1f0, z1f1, z1f2, z1l⟩ := z1.cells
  go_wp2_with fail
  refine bodyPost_ret (v := .tuple #[.int .u64 0, .int .i64 0, .int .i64 3]) (by simp [results, Tryz.results39, go_sem]) rfl ?_
  exact ⟨rfl, BW⟩
set_option maxHeartbeats 1000000 in
theorem rto_zero {B P W M E H : Nat} {low : Int} (hf : Fm B P W M E H low) {A : Option Addr} {n c x : Nat} {neg : Bool} {e : Int} {w : World} (h : BR w A n c x) (hn : n ≤ 100000) (mode : Int) (ng : Bool) (d1 : decide (mode < 0) = false) (d2 : decide (4 < mode) = false) (HM : Hid (mayR ⟨neg, x, e⟩ = true)) (d0 : ((n : Int) == 0) = true) {v : Nat} (HV : Hid (sgn H ng 0 = v)) :
    Calls Tryz.prog 39 #[.agg #[.int .i64 (B : Int), .int .i64 (P : Int), .int .i64 (W : Int)], .int .i64 mode, .agg #[.bool neg, .slice A n c, .int .i64 e], .bool ng] w fun en w' => en = .returned (.tuple #[.int .u64 (v : Int), .int .i64 0, .int .i64 0]) ∧ Below w.heap.size w w' := by
  go_enter Tryz.func39, Tryz.ntmps39
  go_wp2_with fail
  obtain ⟨V, hV, z0, z1, BW, sW⟩ := fframe2 w 29 71 (B : Int) (P : Int) (W : Int) neg A n c e
  rw [hV]
  clear hV sW
  replace h := h.on BW
  refine (rmayR_as h hn true HM.out).mono ?_
  rintro en w1 ⟨rfl, b⟩
  replace z0 := z0.on b
  replace z1 := z1.on b
  replace h := h.on b
  replace BW := Below.step BW b
  clear b
  obtain ⟨z0c0, z0c1, z0c2, z0f0, z0f1, z0f2, z0l⟩ := z0.cells
  obtain ⟨z1c0, z1c1, z1c2, z1f0, z1f1, z1f2, z1l⟩ := z1.cells
  go_wp2_with fail
  refine (build_none hf ng v HV.out _).mono ?_
  rintro en w2 ⟨rfl, b⟩
  clear z0c0 z0c1 z0c2 z0f0 z0f1 z0f2 z0l z1c0 z1c1 z1c2 z1f0 z1f1 z1f2 z1l
  replace z0 := z0.on b
  replace z1 := z1.on b
  replace h := h.on b
  replace BW := Below.step BW b
  clear b
  obtain ⟨z0c0, z0c1, z0c2, z0f0, z0f1, z0f2, z0l⟩ := z0.cells
  obtain ⟨z1c0, z1c1, z1c2, z1f0, z1f1, z1f2, z1l⟩ := z1.cells
  go_wp2_with fail
  refine bodyPost_ret (v := .tuple #[.int .u64 (v : Int), .int .i64 0, .int .i64 0]) (by simp [results, Tryz.results39, go_sem]) rfl ?_
  exact ⟨rfl, BW⟩
theorem pl_pos_sign (x : Nat) (e : Int) : (D.pl ⟨false, x, e⟩).neg = false := by
  unfold D.pl
  split <;> rfl
/-- THE REFERENCE'S TO: what it tells. -/
theorem rto_as {B P W M E H : Nat} {low : Int} (hf : Fm B P W M E H low) {A : Option Addr} {n c x : Nat} {neg : Bool} {e : Int} {w : World} (h : BR w A n c x) (hn : n ≤ 100000) (mode : Int) (ng : Bool) {v : Nat} {fl err : Int} (hr : roundS P M E H low mode ⟨neg, x, e⟩ ng = (v, fl, err)) :
    Calls Tryz.prog 39 #[.agg #[.int .i64 (B : Int), .int .i64 (P : Int), .int .i64 (W : Int)], .int .i64 mode, .agg #[.bool neg, .slice A n c, .int .i64 e], .bool ng] w fun en w' => en = .returned (.tuple #[.int .u64 (v : Int), .int .i64 fl, .int .i64 err]) ∧ Below w.heap.size w w' := by
  obtain ⟨b1, b2, b3, b4, b5, b6, b7, b8, b9, b10, b11, b12, b13, b14, b15⟩ := hf.bd
  unfold roundS at hr
  by_cases m1 : mode < 0
  · rw [if_pos (.inl m1)] at hr
    simp only [Prod.mk.injEq] at hr
    obtain ⟨rfl, rfl, rfl⟩ := hr
    exact rto_m1 hf h hn mode ng (decide_eq_true m1)
  by_cases m2 : 4 < mode
  · rw [if_pos (.inr m2)] at hr
    simp only [Prod.mk.injEq] at hr
    obtain ⟨rfl, rfl, rfl⟩ := hr
    exact rto_m2 hf h hn mode ng (decide_eq_false m1) (decide_eq_true m2)
  have d1 := decide_eq_false m1
  have d2 := decide_eq_false m2
  rw [if_neg (by omega)] at hr
  by_cases hm0 : mayR ⟨neg, x, e⟩ = false
  · rw [hm0, if_neg (by decide)] at hr
    simp only [Prod.mk.injEq] at hr
    obtain ⟨rfl, rfl, rfl⟩ := hr
    exact rto_range hf h hn mode ng d1 d2 (Lib.hid hm0)
  have hm : mayR ⟨neg, x, e⟩ = true := by simpa using hm0
  rw [if_pos hm] at hr
  have hnb := h.size
  by_cases h0 : x = 0
  · rw [if_pos h0] at hr
    simp only [Prod.mk.injEq] at hr
    obtain ⟨hv, rfl, rfl⟩ := hr
    have : n = 0 := by rw [hnb, h0]; rfl
    exact rto_zero hf h hn mode ng d1 d2 (Lib.hid hm) (by rw [this]; rfl) (Lib.hid hv)
  rw [if_neg h0] at hr
  have d0 : ((n : Int) == 0) = false := by
    have := blen_pos h0
    rw [← hnb] at this
    simp only [beq_eq_false_iff_ne, ne_eq]
    omega
  obtain ⟨k1, k2, k3, k4⟩ := mayR_bd hm h0
  obtain ⟨p, hp⟩ : ∃ p, plcS P low ⟨neg, x, e⟩ = p := ⟨_, rfl⟩
  obtain ⟨p1, p2⟩ := plc_bd hf hm h0
  rw [hp] at p1 p2
  have hplc := plc_cell (P := P) (low := low) (a := ⟨neg, x, e⟩) h0 (by show -40000 ≤ e; simp only at k4; omega)
  rw [hp] at hplc
  have hup := nb_up hf mode neg (⟨neg, x, e⟩ : D).vl.natAbs
  have hq := (flq hf (⟨neg, x, e⟩ : D).vl.natAbs).1
  rw [← hplc] at hup hq
  obtain ⟨dn, dx, de, hd⟩ : ∃ dn dx de, D.pl ⟨neg, x, e⟩ = ⟨dn, dx, de⟩ := ⟨_, _, _, rfl⟩
  obtain ⟨j1, j2, j3, j4⟩ := top_of k1 h0 hd
  have hdv : (⟨false, dx, de⟩ : D).vl = ((⟨neg, x, e⟩ : D).vl.natAbs : Int) := by
    have h1 := D.pl_vl (d := ⟨neg, x, e⟩) (by show -40000 ≤ e; simp only at k4; omega)
    rw [hd] at h1
    rw [← h1, D.vl_natAbs]
    unfold D.vl D.sz
    simp
  have hdm : (⟨false, dx, de⟩ : D).may = true := by rw [hd] at k2; exact k2
  -- the neighbour
  obtain ⟨u, hu⟩ : ∃ u, (⟨neg, x, e⟩ : D).vl.natAbs / 2 ^ (p + 40000).toNat + (if upB mode neg (flC P M low (⟨neg, x, e⟩ : D).vl.natAbs) ((⟨neg, x, e⟩ : D).vl.natAbs - valU M low (flC P M low (⟨neg, x, e⟩ : D).vl.natAbs)) (wid M low (flC P M low (⟨neg, x, e⟩ : D).vl.natAbs)) then 1 else 0) = u := ⟨_, rfl⟩
  have hu1 : u ≤ 2 * M := by rw [← hu]; split <;> omega
  rw [hu] at hup
  obtain ⟨rn, rx, re, hpl⟩ : ∃ rn rx re, D.pl ⟨false, u, p⟩ = ⟨rn, rx, re⟩ := ⟨_, _, _, rfl⟩
  obtain rfl : rn = false := by
    by_cases hu0 : u = 0
    · rw [D.pl_zero (d := ⟨false, u, p⟩) hu0] at hpl
      simp only [D.mk.injEq] at hpl
      exact hpl.1.symm
    · rw [D.pl_pos (d := ⟨false, u, p⟩) hu0] at hpl
      simp only [D.mk.injEq] at hpl
      exact hpl.1.symm
  obtain ⟨l1, l2, l3, l4, l5, l6, l7⟩ := ns_may (n := u) false (p := p) (by omega) (by omega) (by omega)
  rw [hpl] at l1 l2 l3 l4 l5 l6 l7
  rw [hup] at l7
  simp only at l3 l4 l5 k3 k4 hr
  obtain ⟨C, hC⟩ : ∃ C, rC P M low mode neg (⟨neg, x, e⟩ : D).vl.natAbs = C := ⟨_, rfl⟩
  have hCv : (⟨false, rx, re⟩ : D).vl = (valU M low C : Int) := by
    rw [← hC, ← l7, D.vl_natAbs]
    unfold D.vl D.sz
    simp
  rw [hC] at hr hup l7
  have HCH := Lib.hid fun (V : World) (g : BR V A n c x) => rchosen_as hf g hn hm h0 mode hp (rx := rx) (re := re) (by rw [hu]; exact hpl)
  -- the greatest number
  have hME := ME_lt hf
  obtain ⟨gn, gx, ge, hg⟩ : ∃ gn gx ge, D.pl ⟨false, valN M E (M * E - 1), valP M E low (M * E - 1)⟩ = ⟨gn, gx, ge⟩ := ⟨_, _, _, rfl⟩
  obtain ⟨v1, v2⟩ := val_abs hf false (M * E - 1) (by omega)
  have vm := (val_may hf (M * E - 1) false).2
  rw [hg] at v1 v2 vm
  obtain rfl : gn = false := by
    have := congrArg D.neg hg
    rw [pl_pos_sign] at this
    exact this.symm
  rw [if_neg (by decide)] at v2
  have hsg : sgn H false (M * E - 1) = M * E - 1 := rfl
  rw [hsg] at v1
  have HGR := Lib.hid fun (V : World) => rgreatest_as hf false (M * E - 1) hsg V
  have HVA := Lib.hid fun (V : World) => rvalue_as hf (w := V) (M * E - 1) (by omega) v1
  have hgl := ((D.may_iff _).1 vm).1
  have hc1 := cmpS_ok l1 vm
  rw [hCv, v2] at hc1
  have hcc := cmpI_cases (valU M low C : Int) (valU M low (M * E - 1) : Int)
  have hmono := (valU_mono hf (a := M * E - 1) (b := C)).1
  have hmono2 := (valU_mono hf (a := C) (b := M * E - 1)).1
  simp only at hgl j3
  by_cases hlt : C < M * E
  · rw [if_pos hlt] at hr
    simp only [Prod.mk.injEq] at hr
    obtain ⟨hv, hfl2, rfl⟩ := hr
    have hq2 : cmpI (valU M low C : Int) (valU M low (M * E - 1) : Int) = -1 ∨ cmpI (valU M low C : Int) (valU M low (M * E - 1) : Int) = 0 := by
      rcases hcc with h1 | h1 | h1
      · exact .inl h1.2
      · have := hmono.1 (by omega)
        omega
      · exact .inr h1.2.2
    have hc2 := cmpS_ok l1 hdm
    rw [hCv, hdv] at hc2
    obtain ⟨s, hs⟩ : ∃ s, cmpI (valU M low C : Int) ((⟨neg, x, e⟩ : D).vl.natAbs : Int) = s := ⟨_, rfl⟩
    have hss := cmpI_cases (valU M low C : Int) ((⟨neg, x, e⟩ : D).vl.natAbs : Int)
    rw [hs] at hc2 hss
    have hsA : s = 0 ↔ valU M low (flC P M low (⟨neg, x, e⟩ : D).vl.natAbs) = (⟨neg, x, e⟩ : D).vl.natAbs := by
      constructor
      · intro hz
        have : valU M low C = (⟨neg, x, e⟩ : D).vl.natAbs := by omega
        rw [← this, fl_val hf]
      · intro hz
        have := rC_val hf mode neg (flC P M low (⟨neg, x, e⟩ : D).vl.natAbs)
        rw [hz, hC] at this
        rw [← this] at hz
        omega
    obtain ⟨ty, hty⟩ : ∃ b, tinyS M low (⟨neg, x, e⟩ : D).vl.natAbs = b := ⟨_, rfl⟩
    have HTY := Lib.hid fun (V : World) (g : BR V A n c x) => rtiny_as hf g hn ty (by rw [hm, decide_eq_false h0, hty]; rfl)
    have hfl3 : (if s = 0 then (0 : Int) else if ty then 3 else 1) = fl := by
      rw [← hfl2]
      unfold flgS
      rw [hty]
      by_cases hz : s = 0
      · rw [if_pos hz, if_pos (hsA.1 hz)]
      · rw [if_neg hz, if_neg (fun h => hz (hsA.2 h))]
    have hput : putS P M E H low ⟨false, rx, re⟩ = (C, 0) := by
      by_cases hx : rx = 0
      · have hC0 : C = 0 := by
          rw [D.vl_natAbs] at l7
          simp only [hx, Nat.zero_mul] at l7
          have := (valU_mono hf (a := 0) (b := C)).1
          rw [valU_zero hf] at this
          omega
        unfold putS
        rw [l1, if_pos rfl, if_pos hx, hC0]
      · exact put_mul hf l2 (by show -40000 ≤ re; omega) hx hlt l7
    have HPU := Lib.hid hput
    rw [← hfl3, ← hv]
    cases neg
    · exact rto_pos hf h hn mode d1 d2 (Lib.hid hm) d0 HCH (by omega) HGR HVA (by omega) (Lib.hid hc1) hq2 (Lib.hid hd) (by omega) (by omega) (by omega) (Lib.hid hc2) HTY HPU
    · have hrt := rto_neg (ng0 := ng) hf h hn mode d1 d2 (Lib.hid hm) d0 HCH (by omega) HGR HVA (by omega) (Lib.hid hc1) hq2 (Lib.hid hd) (by omega) (by omega) (by omega) (Lib.hid hc2) HTY HPU (Lib.hid fun V => build_none hf true H rfl V) (by omega)
      have hsc : ((sgn H true C : Nat) : Int) = (C : Int) + (H : Int) := by
        unfold sgn
        rw [if_pos rfl]
        omega
      rw [hsc]
      exact hrt
  · rw [if_neg hlt] at hr
    simp only [Prod.mk.injEq] at hr
    obtain ⟨hv, rfl, rfl⟩ := hr
    have hq2 : cmpI (valU M low C : Int) (valU M low (M * E - 1) : Int) = 1 := by
      have := hmono.2 (by omega)
      omega
    exact rto_beyond (s := 0) (dn := dn) (dx := dx) (de := de) hf h hn mode d1 d2 (Lib.hid hm) d0 HCH (by omega) HGR HVA (by omega) (Lib.hid hc1) hq2 (Lib.hid hv)
end Go.Proofs.YtpachoeignpcbaaGreatDoor
