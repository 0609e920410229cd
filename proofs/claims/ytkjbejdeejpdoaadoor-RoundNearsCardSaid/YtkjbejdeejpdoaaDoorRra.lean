
/-
  The walks of the reference of layer 4: small functions.
-/
import Derived.Test.YtkjbejdeejpdoaaDoorFr
import Derived.Test.YtkjbejdeejpdoaaDoorRmg
import Derived.Test.YtkjbejdeejpdoaaDoorRA
import Derived.Test.YtkjbejdeejpdoaaDoorRd
namespace Go.Proofs.YtkjbejdeejpdoaaDoor
open Go.RowKit
set_option linter.unusedVariables false

theorem rsize_as {A : Option Addr} {n c : Nat} {neg : Bool} {e : Int} (w : World) :
    Calls Tryd.prog 42 #[.agg #[.bool neg, .slice A n c, .int .i64 e]] w fun en w' => en = .returned (.agg #[.bool false, .slice A n c, .int .i64 e]) ∧ Below w.heap.size w w' := by
  go_enter Tryd.func42, Tryd.ntmps42
  go_wp2_with fail
  refine bodyPost_ret (v := .agg #[.bool false, .slice A n c, .int .i64 e]) (by simp [results, Tryd.results42, go_sem]) rfl ?_
  have BW : Below w.heap.size w ((w.alloc (dob neg A n c e 41)).alloc (dob false A n c e 41)) := Below.step (below_lit _ _) (below_lit _ _)
  exact ⟨rfl, BW⟩
set_option maxHeartbeats 1000000 in
theorem rmayR_as {A : Option Addr} {n c x : Nat} {neg : Bool} {e : Int} {w : World} (h : BR w A n c x) (hn : n ≤ 100000) (b : Bool) (hb : mayR ⟨neg, x, e⟩ = b) :
    Calls Tryd.prog 13 #[.agg #[.bool neg, .slice A n c, .int .i64 e]] w fun en w' => en = .returned (.bool b) ∧ Below w.heap.size w w' := by
  obtain ⟨m, hm⟩ : ∃ m, D.may ⟨neg, x, e⟩ = m := ⟨_, rfl⟩
  unfold mayR at hb
  rw [hm] at hb
  simp only at hb
  have hsz := h.size
  have HM := Lib.hid hm
  cases m
  · obtain rfl : b = false := by rw [← hb]; rfl
    clear hb hm hsz
    go_enter Tryd.func13, Tryd.ntmps13
    go_wp2_with fail
    obtain ⟨V, hV, z0, BW, sW⟩ := frame1 w 41 neg A n c e
    rw [hV]
    clear hV sW
    replace h := h.on BW
    refine (rmay_any false h (by omega) HM.out).mono ?_
    rintro en w1 ⟨rfl, b⟩
    replace z0 := z0.on b
    replace h := h.on b
    replace BW := Below.step BW b
    clear b
    obtain ⟨z0c0, z0c1, z0c2, z0f0, z0f1, z0f2, z0l⟩ := z0.cells
    go_wp2_with fail
    refine (rmay_any false h (by omega) HM.out).mono ?_
    rintro en w2 ⟨rfl, b⟩
    clear z0c0 z0c1 z0c2 z0f0 z0f1 z0f2 z0l
    replace z0 := z0.on b
    replace h := h.on b
    replace BW := Below.step BW b
    clear b
    obtain ⟨z0c0, z0c1, z0c2, z0f0, z0f1, z0f2, z0l⟩ := z0.cells
    go_wp2_with fail
    go_ret
    exact ⟨rfl, BW⟩
  · obtain ⟨k1, k2, k3⟩ := (D.may_iff _).1 hm
    simp only at k1 k2 k3
    obtain ⟨dn, dx, de, hd⟩ : ∃ dn dx de, D.pl ⟨neg, x, e⟩ = ⟨dn, dx, de⟩ := ⟨_, _, _, rfl⟩
    have HD := Lib.hid hd
    have hdl : blen dx ≤ 100000 := by
      have := (pl_bounds hm).1
      rw [hd] at this
      simp only at this
      omega
    obtain ⟨m2, hm2⟩ : ∃ m2, D.may ⟨dn, dx, de⟩ = m2 := ⟨_, rfl⟩
    have HM2 := Lib.hid hm2
    rw [hd, hm2, Bool.true_and] at hb
    clear hm hd hm2
    have hz : ((n : Int) == 0) = decide (x = 0) := by
      rw [Bool.eq_iff_iff]
      simp only [beq_iff_eq, decide_eq_true_eq]
      constructor
      · intro h1
        refine Classical.byContradiction fun h2 => ?_
        have := (blen_pos h2).2
        omega
      · intro h1
        rw [h1, blen_zero] at hsz
        omega
    obtain ⟨t, ht⟩ : ∃ t, decide (e + (n : Int) - 1 ≤ 8000) = t := ⟨_, rfl⟩
    rw [show decide ((blen x : Int) - 1 + e ≤ 8000) = t by rw [← ht]; exact decide_eq_decide.2 (by omega)] at hb
    have hn4 : n ≤ 4096 := by omega
    obtain ⟨z, hzz⟩ : ∃ z, decide (x = 0) = z := ⟨_, rfl⟩
    rw [hzz] at hz hb
    clear hzz hsz k1
    cases m2
    · obtain rfl : b = z := by rw [← hb]; simp
      clear hb ht
      go_enter Tryd.func13, Tryd.ntmps13
      go_wp2_with fail
      obtain ⟨V, hV, z0, BW, sW⟩ := frame1 w 41 neg A n c e
      rw [hV]
      clear hV sW
      replace h := h.on BW
      refine (rmay_any true h (by omega) HM.out).mono ?_
      rintro en w1 ⟨rfl, b⟩
      replace z0 := z0.on b
      replace h := h.on b
      replace BW := Below.step BW b
      clear b
      obtain ⟨z0c0, z0c1, z0c2, z0f0, z0f1, z0f2, z0l⟩ := z0.cells
      go_wp2_with fail
      refine (rplain_any h (by omega) (by omega) (by omega) HD.out).mono ?_
      rintro en w2 ⟨V_rd, v_rd, c_rd, rfl, rd, b⟩
      clear z0c0 z0c1 z0c2 z0f0 z0f1 z0f2 z0l
      replace z0 := z0.on b
      replace h := h.on b
      replace BW := Below.step BW b
      clear b
      have ld := rd.le (k := 100000) hdl
      obtain ⟨z0c0, z0c1, z0c2, z0f0, z0f1, z0f2, z0l⟩ := z0.cells
      go_wp2_with fail
      refine (rmay_any false rd (by omega) HM2.out).mono ?_
      rintro en w3 ⟨rfl, b⟩
      clear z0c0 z0c1 z0c2 z0f0 z0f1 z0f2 z0l
      replace z0 := z0.on b
      replace h := h.on b
      replace rd := rd.on b
      replace BW := Below.step BW b
      clear b
      obtain ⟨z0c0, z0c1, z0c2, z0f0, z0f1, z0f2, z0l⟩ := z0.cells
      go_wp2_with fail
      refine (rmay_any true h (by omega) HM.out).mono ?_
      rintro en w4 ⟨rfl, b⟩
      clear z0c0 z0c1 z0c2 z0f0 z0f1 z0f2 z0l
      replace z0 := z0.on b
      replace h := h.on b
      replace rd := rd.on b
      replace BW := Below.step BW b
      clear b
      obtain ⟨z0c0, z0c1, z0c2, z0f0, z0f1, z0f2, z0l⟩ := z0.cells
      go_wp2_with fail
      go_ret
      exact ⟨rfl, BW⟩
    · cases t
      · obtain rfl : b = z := by rw [← hb]; simp
        clear hb
        go_enter Tryd.func13, Tryd.ntmps13
        go_wp2_with fail
        obtain ⟨V, hV, z0, BW, sW⟩ := frame1 w 41 neg A n c e
        rw [hV]
        clear hV sW
        replace h := h.on BW
        refine (rmay_any true h (by omega) HM.out).mono ?_
        rintro en w1 ⟨rfl, b⟩
        replace z0 := z0.on b
        replace h := h.on b
        replace BW := Below.step BW b
        clear b
        obtain ⟨z0c0, z0c1, z0c2, z0f0, z0f1, z0f2, z0l⟩ := z0.cells
        go_wp2_with fail
        refine (rplain_any h (by omega) (by omega) (by omega) HD.out).mono ?_
        rintro en w2 ⟨V_rd, v_rd, c_rd, rfl, rd, b⟩
        clear z0c0 z0c1 z0c2 z0f0 z0f1 z0f2 z0l
        replace z0 := z0.on b
        replace h := h.on b
        replace BW := Below.step BW b
        clear b
        have ld := rd.le (k := 100000) hdl
        obtain ⟨z0c0, z0c1, z0c2, z0f0, z0f1, z0f2, z0l⟩ := z0.cells
        go_wp2_with fail
        refine (rmay_any true rd (by omega) HM2.out).mono ?_
        rintro en w3 ⟨rfl, b⟩
        clear z0c0 z0c1 z0c2 z0f0 z0f1 z0f2 z0l
        replace z0 := z0.on b
        replace h := h.on b
        replace rd := rd.on b
        replace BW := Below.step BW b
        clear b
        obtain ⟨z0c0, z0c1, z0c2, z0f0, z0f1, z0f2, z0l⟩ := z0.cells
        go_wp2_with fail
        refine (rmay_any true h (by omega) HM.out).mono ?_
        rintro en w4 ⟨rfl, b⟩
        clear z0c0 z0c1 z0c2 z0f0 z0f1 z0f2 z0l
        replace z0 := z0.on b
        replace h := h.on b
        replace rd := rd.on b
        replace BW := Below.step BW b
        clear b
        obtain ⟨z0c0, z0c1, z0c2, z0f0, z0f1, z0f2, z0l⟩ := z0.cells
        go_wp2_with fail
        go_ret
        exact ⟨rfl, BW⟩
      · obtain rfl : b = true := by rw [← hb]; simp
        clear hb hz
        go_enter Tryd.func13, Tryd.ntmps13
        go_wp2_with fail
        obtain ⟨V, hV, z0, BW, sW⟩ := frame1 w 41 neg A n c e
        rw [hV]
        clear hV sW
        replace h := h.on BW
        refine (rmay_any true h (by omega) HM.out).mono ?_
        rintro en w1 ⟨rfl, b⟩
        replace z0 := z0.on b
        replace h := h.on b
        replace BW := Below.step BW b
        clear b
        obtain ⟨z0c0, z0c1, z0c2, z0f0, z0f1, z0f2, z0l⟩ := z0.cells
        go_wp2_with fail
        refine (rplain_any h (by omega) (by omega) (by omega) HD.out).mono ?_
        rintro en w2 ⟨V_rd, v_rd, c_rd, rfl, rd, b⟩
        clear z0c0 z0c1 z0c2 z0f0 z0f1 z0f2 z0l
        replace z0 := z0.on b
        replace h := h.on b
        replace BW := Below.step BW b
        clear b
        have ld := rd.le (k := 100000) hdl
        obtain ⟨z0c0, z0c1, z0c2, z0f0, z0f1, z0f2, z0l⟩ := z0.cells
        go_wp2_with fail
        refine (rmay_any true rd (by omega) HM2.out).mono ?_
        rintro en w3 ⟨rfl, b⟩
        clear z0c0 z0c1 z0c2 z0f0 z0f1 z0f2 z0l
        replace z0 := z0.on b
        replace h := h.on b
        replace rd := rd.on b
        replace BW := Below.step BW b
        clear b
        obtain ⟨z0c0, z0c1, z0c2, z0f0, z0f1, z0f2, z0l⟩ := z0.cells
        go_wp2_with fail
        go_ret
        exact ⟨rfl, BW⟩
theorem efld (w : World) (a : Bool) (A : Option Addr) (n c : Nat) (e : Int) : (Instr.field 41 (.agg #[.bool a, .slice A n c, .int .i64 e]) 2).run Tryd.prog w = .ok (.int .i64 e) w := by kernel_rfl
set_option maxHeartbeats 1000000 in
theorem rplace_as {B P W M E H : Nat} {low : Int} (hf : Fm B P W M E H low) {A : Option Addr} {n c x : Nat} {neg : Bool} {e : Int} {w : World} (h : BR w A n c x) (hn : n ≤ 100000) (hm : mayR ⟨neg, x, e⟩ = true) (h0 : x ≠ 0) {p : Int} (hp : plcS P low ⟨neg, x, e⟩ = p) :
    Calls Tryd.prog 40 #[.agg #[.int .i64 (B : Int), .int .i64 (P : Int), .int .i64 (W : Int)], .agg #[.bool neg, .slice A n c, .int .i64 e]] w fun en w' => en = .returned (.int .i64 p) ∧ Below w.heap.size w w' := by
  obtain ⟨b1, b2, b3, b4, b5, b6, b7, b8, b9, b10, b11, b12, b13, b14, b15⟩ := hf.bd
  obtain ⟨k1, k2, k3, k4⟩ := mayR_bd hm h0
  obtain ⟨p1, p2⟩ := plc_bd hf hm h0
  rw [hp] at p1 p2
  have k5 := ((D.may_iff _).1 k1).2.2
  obtain ⟨dn, dx, de, hd⟩ : ∃ dn dx de, D.pl ⟨neg, x, e⟩ = ⟨dn, dx, de⟩ := ⟨_, _, _, rfl⟩
  have HD := Lib.hid hd
  rw [hd] at k2
  have hdl : blen dx ≤ 100000 := by have := ((D.may_iff _).1 k2).1; simp only at this; omega
  obtain ⟨t, ht⟩ : ∃ t : Int, (blen x : Int) - 1 + e = t := ⟨_, rfl⟩
  have HT : Hid (topS ⟨dn, dx, de⟩ = (t, 0)) := by
    have h1 := D.pl_pos (d := ⟨neg, x, e⟩) h0
    rw [hd] at h1
    simp only [D.mk.injEq] at h1
    obtain ⟨_, h2, h3⟩ := h1
    have h4 := blen_div_tz h0
    have h5 := (tz_blen h0).2.2
    have h6 : dx ≠ 0 := by rw [← h2] at h5; omega
    unfold topS
    rw [k2, if_pos rfl, if_neg h6, h2, h3, ← ht]
    simp only at *
    rw [show ((blen (x / 2 ^ tz x) : Nat) : Int) - 1 + (e + (tz x : Int)) = (blen x : Int) - 1 + e by omega]
    exact Lib.hid rfl
  simp only at k3 k4 k5
  have HL := Lib.hid (fun (V : World) => rlow_as hf low rfl V)
  have q1 : IntKind.i64.wrap (t - (P : Int)) = t - (P : Int) := IntWalk.i64_in _ (by omega)
  have q2 : IntKind.i64.wrap (t - (P : Int) + 1) = t - (P : Int) + 1 := IntWalk.i64_in _ (by omega)
  have q3 : max (t - (P : Int) + 1) low = p := by
    rw [← hp]
    unfold plcS
    simp only
    rw [ht]
    congr 1
    omega
  clear hm h0 hp b1 hd k1 k2 k3 ht hf
  go_enter Tryd.func40, Tryd.ntmps40
  go_wp2_with fail
  obtain ⟨V, hV, z0, z1, BW, sW⟩ := fframe2 w 32 41 (B : Int) (P : Int) (W : Int) neg A n c e
  rw [hV]
  clear hV sW
  replace h := h.on BW
  obtain ⟨z0c0, z0c1, z0c2, z0f0, z0f1, z0f2, z0l⟩ := z0.cells
  obtain ⟨z1c0, z1c1, z1c2, z1f0, z1f1, z1f2, z1l⟩ := z1.cells
  refine (rplain_any h (by omega) (by omega) (by omega) HD.out).mono ?_
  rintro en w1 ⟨V_rd, v_rd, c_rd, rfl, rd, b⟩
  clear z0c0 z0c1 z0c2 z0f0 z0f1 z0f2 z0l z1c0 z1c1 z1c2 z1f0 z1f1 z1f2 z1l
  replace z0 := z0.on b
  replace z1 := z1.on b
  replace h := h.on b
  replace BW := Below.step BW b
  clear b
  have ld := rd.le (k := 100000) hdl
  obtain ⟨z0c0, z0c1, z0c2, z0f0, z0f1, z0f2, z0l⟩ := z0.cells
  obtain ⟨z1c0, z1c1, z1c2, z1f0, z1f1, z1f2, z1l⟩ := z1.cells
  go_wp2_with fail
  refine (rtop_as rd (by omega) HT.out).mono ?_
  rintro en w2 ⟨rfl, b⟩
  clear z0c0 z0c1 z0c2 z0f0 z0f1 z0f2 z0l z1c0 z1c1 z1c2 z1f0 z1f1 z1f2 z1l
  replace z0 := z0.on b
  replace z1 := z1.on b
  replace h := h.on b
  replace rd := rd.on b
  replace BW := Below.step BW b
  clear b
  obtain ⟨z0c0, z0c1, z0c2, z0f0, z0f1, z0f2, z0l⟩ := z0.cells
  obtain ⟨z1c0, z1c1, z1c2, z1f0, z1f1, z1f2, z1l⟩ := z1.cells
  go_wp2_with fail
  clear z0c0 z0c1 z0c2 z0f0 z0f1 z0f2 z0l z1c0 z1c1 z1c2 z1f0 z1f1 z1f2 z1l
  replace z0 := z0.on ((Below.refl _ _).drew : Below w2.heap.size w2 w2.drew)
  replace z1 := z1.on ((Below.refl _ _).drew : Below w2.heap.size w2 w2.drew)
  replace h := h.on ((Below.refl _ _).drew : Below w2.heap.size w2 w2.drew)
  replace rd := rd.on ((Below.refl _ _).drew : Below w2.heap.size w2 w2.drew)
  replace BW := Lib.hid (Below.step BW ((Below.refl _ _).drew : Below w2.heap.size w2 w2.drew))
  go_region_held3 (fun w' => w'.cell? ⟨w.heap.size, 0, none⟩ = some (.int .i64 (B : Int)) ∧ w'.cell? ⟨w.heap.size, 1, none⟩ = some (.int .i64 (P : Int)) ∧ w'.cell? ⟨w.heap.size, 2, none⟩ = some (.int .i64 (W : Int)))
    ((first | exact ⟨z0.cells.1, z0.cells.2.1, z0.cells.2.2.1⟩))
    (first
      | (go_at_call 77
         (with_reducible refine (HL.out _).mono ?_)
         rintro en w3 ⟨rfl, b⟩
         replace z0 := z0.on b
         replace z1 := z1.on b
         replace h := h.on b
         replace rd := rd.on b
         replace BW := Lib.hid (Below.step BW.out b)
         clear b))
  replace BW := BW.out
  all_goals go_wp2_with fail
  all_goals go_ret
  all_goals exact ⟨rfl, BW⟩
theorem rword_one (w : World) : Calls Tryd.prog 44 #[.int .u64 1] w (BitsPost w 1) := rword_any 1 (by omega) w
end Go.Proofs.YtkjbejdeejpdoaaDoor
