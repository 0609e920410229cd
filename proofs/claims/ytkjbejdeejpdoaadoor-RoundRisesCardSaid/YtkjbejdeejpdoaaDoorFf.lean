
/-
  The walk of format's Put.
-/
import Derived.Test.YtkjbejdeejpdoaaDoorFe
namespace Go.Proofs.YtkjbejdeejpdoaaDoor
open Go.RowKit
set_option linter.unusedVariables false

/-- the place that a number's bits are told from. -/
def plcS (P : Nat) (low : Int) (a : D) : Int := max ((blen a.x : Int) - 1 + a.e - ((P : Int) - 1)) low
/-- a number's bits, or why there are none. -/
def putS (P M E H : Nat) (low : Int) (a : D) : Nat × Int :=
  if a.may then (if a.x = 0 then (0, 0) else if a.pl.e < plcS P low a ∨ low + (E : Int) - 2 < plcS P low a then (0, 10) else (sgn H a.pl.neg ((plcS P low a - low).toNat * M + a.pl.x * 2 ^ (a.pl.e - plcS P low a).toNat), 0)) else (0, 3)
theorem zbox_none (w : World) : True := trivial
theorem put_range {B P W M E H : Nat} {low : Int} (hf : Fm B P W M E H low) {A : Option Addr} {n c x : Nat} {neg : Bool} {e : Int} {w : World} (h : Arg w A n c x) (hs : n ≤ 30000) (hT : Tab w) (hm : D.may ⟨neg, x, e⟩ = false) :
    Calls Tryd.prog 54 #[.agg #[.int .i64 (B : Int), .int .i64 (P : Int), .int .i64 (W : Int)], .agg #[.bool neg, .slice A n c, .int .i64 e]] w fun en w' => en = .returned (.tuple #[.int .u64 0, .int .i64 3]) ∧ Below w.heap.size w w' := by
  obtain ⟨b1, b2, b3, b4, b5, b6, b7, b8, b9, b10, b11, b12, b13, b14, b15⟩ := hf.bd
  have HD : Hid (plainS ⟨neg, x, e⟩ = (⟨false, 0, 0⟩, 3)) := by unfold plainS; rw [hm]; exact Lib.hid rfl
  clear hm hf b1
  go_enter Tryd.func54, Tryd.ntmps54
  go_wp2_with fail
  obtain ⟨V, hV, z0, z1, BW, sW⟩ := fframe2 w 28 25 (B : Int) (P : Int) (W : Int) neg A n c e
  rw [hV]
  clear hV sW
  replace hT := hT.on BW
  replace h := h.on BW
  refine (dplain_as h hs hT HD.out).mono ?_
  rintro en w1 ⟨V_rd, v_rd, rfl, rd, b⟩
  replace z0 := z0.on b
  replace z1 := z1.on b
  replace hT := hT.on b
  replace h := h.on b
  replace BW := Below.step BW b
  clear b
  obtain ⟨z0c0, z0c1, z0c2, z0f0, z0f1, z0f2, z0l⟩ := z0.cells
  obtain ⟨z1c0, z1c1, z1c2, z1f0, z1f1, z1f2, z1l⟩ := z1.cells
  go_wp2_with fail
  refine bodyPost_ret (v := .tuple #[.int .u64 0, .int .i64 3]) (by simp [results, Tryd.results54, go_sem]) rfl ⟨rfl, Below.step BW (below_lit _ _)⟩
theorem put_zero {B P W M E H : Nat} {low : Int} (hf : Fm B P W M E H low) {A : Option Addr} {n c x : Nat} {neg : Bool} {e : Int} {w : World} (h : Arg w A n c x) (hs : n ≤ 30000) (hT : Tab w) (hm : D.may ⟨neg, x, e⟩ = true) (h0 : x = 0) :
    Calls Tryd.prog 54 #[.agg #[.int .i64 (B : Int), .int .i64 (P : Int), .int .i64 (W : Int)], .agg #[.bool neg, .slice A n c, .int .i64 e]] w fun en w' => en = .returned (.tuple #[.int .u64 0, .int .i64 0]) ∧ Below w.heap.size w w' := by
  obtain ⟨b1, b2, b3, b4, b5, b6, b7, b8, b9, b10, b11, b12, b13, b14, b15⟩ := hf.bd
  have HD : Hid (plainS ⟨neg, x, e⟩ = (⟨false, 0, 0⟩, 0)) := by unfold plainS; rw [hm, if_pos rfl, D.pl_zero h0]; exact Lib.hid rfl
  have HP : Hid (topS ⟨neg, x, e⟩ = (0, 1)) := by unfold topS; rw [hm, if_pos rfl, if_pos h0]; exact Lib.hid rfl
  have HN := Lib.hid (fun (V : World) => nought_as hf false 0 rfl V)
  clear hm hf b1 h0
  go_enter Tryd.func54, Tryd.ntmps54
  go_wp2_with fail
  obtain ⟨V, hV, z0, z1, BW, sW⟩ := fframe2 w 28 25 (B : Int) (P : Int) (W : Int) neg A n c e
  rw [hV]
  clear hV sW
  replace hT := hT.on BW
  replace h := h.on BW
  refine (dplain_as h hs hT HD.out).mono ?_
  rintro en w1 ⟨V_rd, v_rd, rfl, rd, b⟩
  replace z0 := z0.on b
  replace z1 := z1.on b
  replace hT := hT.on b
  replace h := h.on b
  replace BW := Below.step BW b
  clear b
  obtain ⟨z0c0, z0c1, z0c2, z0f0, z0f1, z0f2, z0l⟩ := z0.cells
  obtain ⟨z1c0, z1c1, z1c2, z1f0, z1f1, z1f2, z1l⟩ := z1.cells
  go_wp2_with fail
  clear z0c0 z0c1 z0c2 z0f0 z0f1 z0f2 z0l z1c0 z1c1 z1c2 z1f0 z1f1 z1f2 z1l
  obtain ⟨w2, e_w2⟩ : ∃ w', w1.alloc (dob false V_rd v_rd v_rd 0 25) = w' := ⟨_, rfl⟩
  have b : Below w1.heap.size w1 w2 := e_w2 ▸ below_lit _ _
  have hs_w2 : w2.heap.size = w1.heap.size + 1 := e_w2 ▸ size_lit w1 _ rfl
  have zp : DB w2 w1.heap.size 25 false V_rd v_rd v_rd 0 := e_w2 ▸ DB.made w1 rfl 25 false V_rd v_rd v_rd 0
  rw [e_w2]
  clear e_w2
  replace z0 := z0.on b
  replace z1 := z1.on b
  replace hT := hT.on b
  replace h := h.on b
  replace rd := rd.on b
  replace BW := Below.step BW b
  clear b
  refine (dtop_as h hs hT HP.out).mono ?_
  rintro en w3 ⟨rfl, b⟩
  replace z0 := z0.on b
  replace z1 := z1.on b
  replace hT := hT.on b
  replace h := h.on b
  replace rd := rd.on b
  replace zp := zp.on b
  replace BW := Below.step BW b
  clear b
  obtain ⟨z0c0, z0c1, z0c2, z0f0, z0f1, z0f2, z0l⟩ := z0.cells
  obtain ⟨z1c0, z1c1, z1c2, z1f0, z1f1, z1f2, z1l⟩ := z1.cells
  obtain ⟨zpc0, zpc1, zpc2, zpf0, zpf1, zpf2, zpl⟩ := zp.cells
  go_wp2_with fail
  refine (HN.out _).mono ?_
  rintro en w4 ⟨rfl, b⟩
  clear z0c0 z0c1 z0c2 z0f0 z0f1 z0f2 z0l z1c0 z1c1 z1c2 z1f0 z1f1 z1f2 z1l zpc0 zpc1 zpc2 zpf0 zpf1 zpf2 zpl
  replace z0 := z0.on b
  replace z1 := z1.on b
  replace hT := hT.on b
  replace h := h.on b
  replace rd := rd.on b
  replace zp := zp.on b
  replace BW := Below.step BW b
  clear b
  obtain ⟨z0c0, z0c1, z0c2, z0f0, z0f1, z0f2, z0l⟩ := z0.cells
  go_wp2_with fail
  refine bodyPost_ret (v := .tuple #[.int .u64 0, .int .i64 0]) (by simp [results, Tryd.results54, go_sem]) rfl ⟨rfl, BW⟩
set_option maxHeartbeats 1000000 in
theorem put_none1 {B P W M E H : Nat} {low : Int} (hf : Fm B P W M E H low) {A : Option Addr} {n c x : Nat} {neg : Bool} {e : Int} {w : World} (h : Arg w A n c x) (hs : n ≤ 30000) (hT : Tab w) (hm : D.may ⟨neg, x, e⟩ = true) (h0 : x ≠ 0) (hk : (D.pl ⟨neg, x, e⟩).e < plcS P low ⟨neg, x, e⟩) :
    Calls Tryd.prog 54 #[.agg #[.int .i64 (B : Int), .int .i64 (P : Int), .int .i64 (W : Int)], .agg #[.bool neg, .slice A n c, .int .i64 e]] w fun en w' => en = .returned (.tuple #[.int .u64 0, .int .i64 10]) ∧ Below w.heap.size w w' := by
  obtain ⟨b1, b2, b3, b4, b5, b6, b7, b8, b9, b10, b11, b12, b13, b14, b15⟩ := hf.bd
  obtain ⟨m1, m2, m3⟩ := (D.may_iff _).1 hm
  simp only at m1 m2 m3
  obtain ⟨dn, dx, de, hd⟩ : ∃ dn dx de, D.pl ⟨neg, x, e⟩ = ⟨dn, dx, de⟩ := ⟨_, _, _, rfl⟩
  obtain ⟨p1, p2, p3, p4, p5⟩ := pl_bounds hm
  rw [hd] at p1 p2 p3 p4
  simp only at p1 p2 p3 p4
  clear p5
  have HD : Hid (plainS ⟨neg, x, e⟩ = (⟨dn, dx, de⟩, 0)) := by unfold plainS; rw [hm, if_pos rfl, hd]; exact Lib.hid rfl
  obtain ⟨t, ht⟩ : ∃ t : Int, (blen x : Int) - 1 + e = t := ⟨_, rfl⟩
  have HP : Hid (topS ⟨neg, x, e⟩ = (t, 0)) := by unfold topS; rw [hm, if_pos rfl, if_neg h0, ← ht]; exact Lib.hid rfl
  have htd : (blen dx : Int) - 1 + de = t := by
    have h1 := D.pl_pos (d := ⟨neg, x, e⟩) h0
    rw [hd] at h1
    simp only [D.mk.injEq] at h1
    obtain ⟨_, h2, h3⟩ := h1
    have h4 := blen_div_tz h0
    rw [h2, h3]
    omega
  obtain ⟨p, hp⟩ : ∃ p : Int, max (t - ((P : Int) - 1)) low = p := ⟨_, rfl⟩
  have HL := Lib.hid (fun (V : World) => flow_as hf low rfl V)
  have HI := Lib.hid (fun (V : World) => highest_as hf (low + (E : Int) - 2) rfl V)
  have q1 : IntKind.i64.wrap ((P : Int) - 1) = (P : Int) - 1 := IntWalk.i64_in _ (by omega)
  have q2 : IntKind.i64.wrap (t - ((P : Int) - 1)) = t - ((P : Int) - 1) := IntWalk.i64_in _ (by omega)
  unfold plcS at hk
  rw [hd, ht, hp] at hk
  simp only at hk
  have d1 : decide (de < p) = true := decide_eq_true hk
  clear hm hf b1 hd ht hk h0
  go_enter Tryd.func54, Tryd.ntmps54
  go_wp2_with fail
  obtain ⟨V, hV, z0, z1, BW, sW⟩ := fframe2 w 28 25 (B : Int) (P : Int) (W : Int) neg A n c e
  rw [hV]
  clear hV sW
  replace hT := hT.on BW
  replace h := h.on BW
  refine (dplain_as h hs hT HD.out).mono ?_
  rintro en w1 ⟨V_rd, v_rd, rfl, rd, b⟩
  replace z0 := z0.on b
  replace z1 := z1.on b
  replace hT := hT.on b
  replace h := h.on b
  replace BW := Below.step BW b
  clear b
  obtain ⟨z0c0, z0c1, z0c2, z0f0, z0f1, z0f2, z0l⟩ := z0.cells
  obtain ⟨z1c0, z1c1, z1c2, z1f0, z1f1, z1f2, z1l⟩ := z1.cells
  go_wp2_with fail
  clear z0c0 z0c1 z0c2 z0f0 z0f1 z0f2 z0l z1c0 z1c1 z1c2 z1f0 z1f1 z1f2 z1l
  obtain ⟨w2, e_w2⟩ : ∃ w', w1.alloc (dob dn V_rd v_rd v_rd de 25) = w' := ⟨_, rfl⟩
  have b : Below w1.heap.size w1 w2 := e_w2 ▸ below_lit _ _
  have hs_w2 : w2.heap.size = w1.heap.size + 1 := e_w2 ▸ size_lit w1 _ rfl
  have zp : DB w2 w1.heap.size 25 dn V_rd v_rd v_rd de := e_w2 ▸ DB.made w1 rfl 25 dn V_rd v_rd v_rd de
  rw [e_w2]
  clear e_w2
  replace z0 := z0.on b
  replace z1 := z1.on b
  replace hT := hT.on b
  replace h := h.on b
  replace rd := rd.on b
  replace BW := Below.step BW b
  clear b
  refine (dtop_as h hs hT HP.out).mono ?_
  rintro en w3 ⟨rfl, b⟩
  replace z0 := z0.on b
  replace z1 := z1.on b
  replace hT := hT.on b
  replace h := h.on b
  replace rd := rd.on b
  replace zp := zp.on b
  replace BW := Below.step BW b
  clear b
  obtain ⟨z0c0, z0c1, z0c2, z0f0, z0f1, z0f2, z0l⟩ := z0.cells
  obtain ⟨z1c0, z1c1, z1c2, z1f0, z1f1, z1f2, z1l⟩ := z1.cells
  obtain ⟨zpc0, zpc1, zpc2, zpf0, zpf1, zpf2, zpl⟩ := zp.cells
  go_wp2_with fail
  clear z0c0 z0c1 z0c2 z0f0 z0f1 z0f2 z0l z1c0 z1c1 z1c2 z1f0 z1f1 z1f2 z1l zpc0 zpc1 zpc2 zpf0 zpf1 zpf2 zpl
  replace z0 := z0.on ((Below.refl _ _).drew : Below w3.heap.size w3 w3.drew)
  replace z1 := z1.on ((Below.refl _ _).drew : Below w3.heap.size w3 w3.drew)
  replace hT := hT.on ((Below.refl _ _).drew : Below w3.heap.size w3 w3.drew)
  replace h := h.on ((Below.refl _ _).drew : Below w3.heap.size w3 w3.drew)
  replace rd := rd.on ((Below.refl _ _).drew : Below w3.heap.size w3 w3.drew)
  replace zp := zp.on ((Below.refl _ _).drew : Below w3.heap.size w3 w3.drew)
  replace BW := Lib.hid (Below.step BW ((Below.refl _ _).drew : Below w3.heap.size w3 w3.drew))
  go_region_held3 (fun w' => w'.cell? ⟨w.heap.size, 0, none⟩ = some (.int .i64 (B : Int)) ∧ w'.cell? ⟨w.heap.size, 1, none⟩ = some (.int .i64 (P : Int)) ∧ w'.cell? ⟨w.heap.size, 2, none⟩ = some (.int .i64 (W : Int)))
    ((exact ⟨z0.cells.1, z0.cells.2.1, z0.cells.2.2.1⟩))
    (first
      | (go_at_call 27
         (with_reducible refine (HL.out _).mono ?_)
         rintro en w4 ⟨rfl, b⟩
         replace z0 := z0.on b
         replace z1 := z1.on b
         replace hT := hT.on b
         replace h := h.on b
         replace rd := rd.on b
         replace zp := zp.on b
         replace BW := Lib.hid (Below.step BW.out b)
         clear b))
  replace BW := BW.out
  obtain ⟨z0c0, z0c1, z0c2, z0f0, z0f1, z0f2, z0l⟩ := z0.cells
  obtain ⟨z1c0, z1c1, z1c2, z1f0, z1f1, z1f2, z1l⟩ := z1.cells
  obtain ⟨zpc0, zpc1, zpc2, zpf0, zpf1, zpf2, zpl⟩ := zp.cells
  go_wp2_with fail
  refine bodyPost_ret (v := .tuple #[.int .u64 0, .int .i64 10]) (by simp [results, Tryd.results54, go_sem]) rfl ⟨rfl, BW⟩
set_option maxHeartbeats 1000000 in
theorem put_none2 {B P W M E H : Nat} {low : Int} (hf : Fm B P W M E H low) {A : Option Addr} {n c x : Nat} {neg : Bool} {e : Int} {w : World} (h : Arg w A n c x) (hs : n ≤ 30000) (hT : Tab w) (hm : D.may ⟨neg, x, e⟩ = true) (h0 : x ≠ 0) (hk : ¬ (D.pl ⟨neg, x, e⟩).e < plcS P low ⟨neg, x, e⟩) (hk2 : low + (E : Int) - 2 < plcS P low ⟨neg, x, e⟩) :
    Calls Tryd.prog 54 #[.agg #[.int .i64 (B : Int), .int .i64 (P : Int), .int .i64 (W : Int)], .agg #[.bool neg, .slice A n c, .int .i64 e]] w fun en w' => en = .returned (.tuple #[.int .u64 0, .int .i64 10]) ∧ Below w.heap.size w w' := by
  obtain ⟨b1, b2, b3, b4, b5, b6, b7, b8, b9, b10, b11, b12, b13, b14, b15⟩ := hf.bd
  obtain ⟨m1, m2, m3⟩ := (D.may_iff _).1 hm
  simp only at m1 m2 m3
  obtain ⟨dn, dx, de, hd⟩ : ∃ dn dx de, D.pl ⟨neg, x, e⟩ = ⟨dn, dx, de⟩ := ⟨_, _, _, rfl⟩
  obtain ⟨p1, p2, p3, p4, p5⟩ := pl_bounds hm
  rw [hd] at p1 p2 p3 p4
  simp only at p1 p2 p3 p4
  clear p5
  have HD : Hid (plainS ⟨neg, x, e⟩ = (⟨dn, dx, de⟩, 0)) := by unfold plainS; rw [hm, if_pos rfl, hd]; exact Lib.hid rfl
  obtain ⟨t, ht⟩ : ∃ t : Int, (blen x : Int) - 1 + e = t := ⟨_, rfl⟩
  have HP : Hid (topS ⟨neg, x, e⟩ = (t, 0)) := by unfold topS; rw [hm, if_pos rfl, if_neg h0, ← ht]; exact Lib.hid rfl
  have htd : (blen dx : Int) - 1 + de = t := by
    have h1 := D.pl_pos (d := ⟨neg, x, e⟩) h0
    rw [hd] at h1
    simp only [D.mk.injEq] at h1
    obtain ⟨_, h2, h3⟩ := h1
    have h4 := blen_div_tz h0
    rw [h2, h3]
    omega
  obtain ⟨p, hp⟩ : ∃ p : Int, max (t - ((P : Int) - 1)) low = p := ⟨_, rfl⟩
  have HL := Lib.hid (fun (V : World) => flow_as hf low rfl V)
  have HI := Lib.hid (fun (V : World) => highest_as hf (low + (E : Int) - 2) rfl V)
  have q1 : IntKind.i64.wrap ((P : Int) - 1) = (P : Int) - 1 := IntWalk.i64_in _ (by omega)
  have q2 : IntKind.i64.wrap (t - ((P : Int) - 1)) = t - ((P : Int) - 1) := IntWalk.i64_in _ (by omega)
  unfold plcS at hk
  rw [hd, ht, hp] at hk
  simp only at hk
  unfold plcS at hk2
  rw [ht, hp] at hk2
  have d1 : decide (de < p) = false := decide_eq_false hk
  have d2 : decide (low + (E : Int) - 2 < p) = true := decide_eq_true hk2
  clear hm hf b1 hd ht hk hk2 h0
  go_enter Tryd.func54, Tryd.ntmps54
  go_wp2_with fail
  obtain ⟨V, hV, z0, z1, BW, sW⟩ := fframe2 w 28 25 (B : Int) (P : Int) (W : Int) neg A n c e
  rw [hV]
  clear hV sW
  replace hT := hT.on BW
  replace h := h.on BW
  refine (dplain_as h hs hT HD.out).mono ?_
  rintro en w1 ⟨V_rd, v_rd, rfl, rd, b⟩
  replace z0 := z0.on b
  replace z1 := z1.on b
  replace hT := hT.on b
  replace h := h.on b
  replace BW := Below.step BW b
  clear b
  obtain ⟨z0c0, z0c1, z0c2, z0f0, z0f1, z0f2, z0l⟩ := z0.cells
  obtain ⟨z1c0, z1c1, z1c2, z1f0, z1f1, z1f2, z1l⟩ := z1.cells
  go_wp2_with fail
  clear z0c0 z0c1 z0c2 z0f0 z0f1 z0f2 z0l z1c0 z1c1 z1c2 z1f0 z1f1 z1f2 z1l
  obtain ⟨w2, e_w2⟩ : ∃ w', w1.alloc (dob dn V_rd v_rd v_rd de 25) = w' := ⟨_, rfl⟩
  have b : Below w1.heap.size w1 w2 := e_w2 ▸ below_lit _ _
  have hs_w2 : w2.heap.size = w1.heap.size + 1 := e_w2 ▸ size_lit w1 _ rfl
  have zp : DB w2 w1.heap.size 25 dn V_rd v_rd v_rd de := e_w2 ▸ DB.made w1 rfl 25 dn V_rd v_rd v_rd de
  rw [e_w2]
  clear e_w2
  replace z0 := z0.on b
  replace z1 := z1.on b
  replace hT := hT.on b
  replace h := h.on b
  replace rd := rd.on b
  replace BW := Below.step BW b
  clear b
  refine (dtop_as h hs hT HP.out).mono ?_
  rintro en w3 ⟨rfl, b⟩
  replace z0 := z0.on b
  replace z1 := z1.on b
  replace hT := hT.on b
  replace h := h.on b
  replace rd := rd.on b
  replace zp := zp.on b
  replace BW := Below.step BW b
  clear b
  obtain ⟨z0c0, z0c1, z0c2, z0f0, z0f1, z0f2, z0l⟩ := z0.cells
  obtain ⟨z1c0, z1c1, z1c2, z1f0, z1f1, z1f2, z1l⟩ := z1.cells
  obtain ⟨zpc0, zpc1, zpc2, zpf0, zpf1, zpf2, zpl⟩ := zp.cells
  go_wp2_with fail
  clear z0c0 z0c1 z0c2 z0f0 z0f1 z0f2 z0l z1c0 z1c1 z1c2 z1f0 z1f1 z1f2 z1l zpc0 zpc1 zpc2 zpf0 zpf1 zpf2 zpl
  replace z0 := z0.on ((Below.refl _ _).drew : Below w3.heap.size w3 w3.drew)
  replace z1 := z1.on ((Below.refl _ _).drew : Below w3.heap.size w3 w3.drew)
  replace hT := hT.on ((Below.refl _ _).drew : Below w3.heap.size w3 w3.drew)
  replace h := h.on ((Below.refl _ _).drew : Below w3.heap.size w3 w3.drew)
  replace rd := rd.on ((Below.refl _ _).drew : Below w3.heap.size w3 w3.drew)
  replace zp := zp.on ((Below.refl _ _).drew : Below w3.heap.size w3 w3.drew)
  replace BW := Lib.hid (Below.step BW ((Below.refl _ _).drew : Below w3.heap.size w3 w3.drew))
  go_region_held3 (fun w' => w'.cell? ⟨w.heap.size, 0, none⟩ = some (.int .i64 (B : Int)) ∧ w'.cell? ⟨w.heap.size, 1, none⟩ = some (.int .i64 (P : Int)) ∧ w'.cell? ⟨w.heap.size, 2, none⟩ = some (.int .i64 (W : Int)))
    ((exact ⟨z0.cells.1, z0.cells.2.1, z0.cells.2.2.1⟩))
    (first
      | (go_at_call 27
         (with_reducible refine (HL.out _).mono ?_)
         rintro en w4 ⟨rfl, b⟩
         replace z0 := z0.on b
         replace z1 := z1.on b
         replace hT := hT.on b
         replace h := h.on b
         replace rd := rd.on b
         replace zp := zp.on b
         replace BW := Lib.hid (Below.step BW.out b)
         clear b))
  replace BW := BW.out
  obtain ⟨z0c0, z0c1, z0c2, z0f0, z0f1, z0f2, z0l⟩ := z0.cells
  obtain ⟨z1c0, z1c1, z1c2, z1f0, z1f1, z1f2, z1l⟩ := z1.cells
  obtain ⟨zpc0, zpc1, zpc2, zpf0, zpf1, zpf2, zpl⟩ := zp.cells
  go_wp2_with fail
  refine (HI.out _).mono ?_
  rintro en w5 ⟨rfl, b⟩
  clear z0c0 z0c1 z0c2 z0f0 z0f1 z0f2 z0l z1c0 z1c1 z1c2 z1f0 z1f1 z1f2 z1l zpc0 zpc1 zpc2 zpf0 zpf1 zpf2 zpl
  replace z0 := z0.on b
  replace z1 := z1.on b
  replace hT := hT.on b
  replace h := h.on b
  replace rd := rd.on b
  replace zp := zp.on b
  replace BW := Below.step BW b
  clear b
  obtain ⟨z0c0, z0c1, z0c2, z0f0, z0f1, z0f2, z0l⟩ := z0.cells
  go_wp2_with fail
  refine bodyPost_ret (v := .tuple #[.int .u64 0, .int .i64 10]) (by simp [results, Tryd.results54, go_sem]) rfl ⟨rfl, BW⟩
theorem fleft_as {A : Option Addr} {n c x : Nat} {w : World} (h : Arg w A n c x) (hs : n ≤ 1000000) (i : Nat) (hfit : blen x + i ≤ 16384) {y : Nat} (hy : x * 2 ^ i = y) :
    Calls Tryd.prog 88 #[.slice A n c, .int .i64 (i : Int)] w fun e w' => ∃ A k, e = .returned (.tuple #[.slice A k k, .int .i64 0]) ∧ Res w' A k y ∧ Below w.heap.size w w' :=
  (left_fit h hs i hfit).mono fun e w' ⟨A, k, h1, h2, _, h3⟩ => ⟨A, k, h1, hy ▸ h2, h3⟩
set_option maxHeartbeats 1000000 in
theorem put_ok {B P W M E H : Nat} {low : Int} (hf : Fm B P W M E H low) {A : Option Addr} {n c x : Nat} {neg : Bool} {e : Int} {w : World} (h : Arg w A n c x) (hs : n ≤ 30000) (hT : Tab w) (hm : D.may ⟨neg, x, e⟩ = true) (h0 : x ≠ 0) (hk : ¬ (D.pl ⟨neg, x, e⟩).e < plcS P low ⟨neg, x, e⟩) (hk2 : ¬ low + (E : Int) - 2 < plcS P low ⟨neg, x, e⟩)
    (v : Nat) (hv : sgn H (D.pl ⟨neg, x, e⟩).neg ((plcS P low ⟨neg, x, e⟩ - low).toNat * M + (D.pl ⟨neg, x, e⟩).x * 2 ^ ((D.pl ⟨neg, x, e⟩).e - plcS P low ⟨neg, x, e⟩).toNat) = v) :
    Calls Tryd.prog 54 #[.agg #[.int .i64 (B : Int), .int .i64 (P : Int), .int .i64 (W : Int)], .agg #[.bool neg, .slice A n c, .int .i64 e]] w fun en w' => en = .returned (.tuple #[.int .u64 (v : Int), .int .i64 0]) ∧ Below w.heap.size w w' := by
  obtain ⟨b1, b2, b3, b4, b5, b6, b7, b8, b9, b10, b11, b12, b13, b14, b15⟩ := hf.bd
  obtain ⟨m1, m2, m3⟩ := (D.may_iff _).1 hm
  simp only at m1 m2 m3
  obtain ⟨dn, dx, de, hd⟩ : ∃ dn dx de, D.pl ⟨neg, x, e⟩ = ⟨dn, dx, de⟩ := ⟨_, _, _, rfl⟩
  obtain ⟨p1, p2, p3, p4, p5⟩ := pl_bounds hm
  rw [hd] at p1 p2 p3 p4
  simp only at p1 p2 p3 p4
  clear p5
  have HD : Hid (plainS ⟨neg, x, e⟩ = (⟨dn, dx, de⟩, 0)) := by unfold plainS; rw [hm, if_pos rfl, hd]; exact Lib.hid rfl
  obtain ⟨t, ht⟩ : ∃ t : Int, (blen x : Int) - 1 + e = t := ⟨_, rfl⟩
  have HP : Hid (topS ⟨neg, x, e⟩ = (t, 0)) := by unfold topS; rw [hm, if_pos rfl, if_neg h0, ← ht]; exact Lib.hid rfl
  have htd : (blen dx : Int) - 1 + de = t := by
    have h1 := D.pl_pos (d := ⟨neg, x, e⟩) h0
    rw [hd] at h1
    simp only [D.mk.injEq] at h1
    obtain ⟨_, h2, h3⟩ := h1
    have h4 := blen_div_tz h0
    rw [h2, h3]
    omega
  obtain ⟨p, hp⟩ : ∃ p : Int, max (t - ((P : Int) - 1)) low = p := ⟨_, rfl⟩
  have HL := Lib.hid (fun (V : World) => flow_as hf low rfl V)
  have HI := Lib.hid (fun (V : World) => highest_as hf (low + (E : Int) - 2) rfl V)
  have q1 : IntKind.i64.wrap ((P : Int) - 1) = (P : Int) - 1 := IntWalk.i64_in _ (by omega)
  have q2 : IntKind.i64.wrap (t - ((P : Int) - 1)) = t - ((P : Int) - 1) := IntWalk.i64_in _ (by omega)
  unfold plcS at hk
  rw [hd, ht, hp] at hk
  simp only at hk
  unfold plcS at hk2 hv
  rw [ht, hp] at hk2
  rw [hd, ht, hp] at hv
  simp only at hv
  obtain ⟨i, hi⟩ := Int.eq_ofNat_of_zero_le (show 0 ≤ de - p by omega)
  obtain ⟨k, hk3⟩ := Int.eq_ofNat_of_zero_le (show 0 ≤ p - low by omega)
  rw [hi, hk3, Int.toNat_natCast, Int.toNat_natCast] at hv
  obtain ⟨y, hy⟩ : ∃ y, dx * 2 ^ i = y := ⟨_, rfl⟩
  rw [hy] at hv
  have hfit : blen dx + i ≤ 16384 := by omega
  have hy2 : y < 2 * M := by
    rw [← hf.pP, ← hy, Nat.mul_comm 2, ← Nat.pow_succ, show (P - 1).succ = P by omega]
    have h1 := (blen_le dx (blen dx)).1 (Nat.le_refl _)
    have h2 : dx * 2 ^ i < 2 ^ blen dx * 2 ^ i := Nat.mul_lt_mul_of_pos_right h1 (Nat.two_pow_pos _)
    rw [← Nat.pow_add] at h2
    exact Nat.lt_of_lt_of_le h2 (Nat.pow_le_pow_right (by omega) (by omega))
  have hn3 : y < 18446744073709551616 := by omega
  have HYY := Lib.hid hy
  obtain ⟨e1, e2⟩ := hf.hlf
  have e3 : M * E + M = H := by rw [← e1, Nat.mul_add, Nat.mul_one]
  have e4 : k * M ≤ M * (E - 2) := by rw [Nat.mul_comm]; exact Nat.mul_le_mul_left _ (by omega)
  have e5 : M * (E - 2) + 2 * M = M * E := by rw [Nat.mul_comm 2 M, ← Nat.mul_add]; congr 1; omega
  obtain ⟨s, hs1⟩ : ∃ s, k * M = s := ⟨_, rfl⟩
  obtain ⟨r, hr⟩ : ∃ r, s + y = r := ⟨_, rfl⟩
  rw [hs1] at hv e4
  rw [hr] at hv
  have HG := Lib.hid (fun (V : World) => signed_as hf dn r v (by omega) hv V)
  have q3 : IntKind.i64.wrap (de - p) = (i : Int) := by rw [IntWalk.i64_in _ (by omega)]; exact hi
  have q4 : IntKind.i64.wrap (p - low) = (k : Int) := by rw [IntWalk.i64_in _ (by omega)]; exact hk3
  have q5 : IntKind.u64.wrap (k : Int) = (k : Int) := wrap64_nat k (by omega)
  have q6 : IntKind.u64.wrap ((P : Int) - 1) = (P : Int) - 1 := by rw [IntKind.wrap_u64]; omega
  have q7 : 0 ≤ (P : Int) - 1 := by omega
  have q8 : ((P : Int) - 1).toNat = P - 1 := by omega
  have q9 : IntKind.u64.wrap ((k : Int) * 2 ^ (P - 1)) = (s : Int) := by
    rw [← two_cast, hf.pP, ← Int.natCast_mul, hs1]; exact wrap64_nat s (by omega)
  have q10 : IntKind.u64.wrap ((s : Int) + (y : Int)) = (r : Int) := by
    rw [← Int.natCast_add, hr]; exact wrap64_nat r (by omega)
  have d1 : decide (de < p) = false := decide_eq_false hk
  have d2 : decide (low + (E : Int) - 2 < p) = false := decide_eq_false hk2
  clear hm hf b1 hd ht hk hk2 h0 hv hi hk3 hy hy2 e1 e2 e3 e4 e5 hs1 hr
  go_enter Tryd.func54, Tryd.ntmps54
  go_wp2_with fail
  obtain ⟨V, hV, z0, z1, BW, sW⟩ := fframe2 w 28 25 (B : Int) (P : Int) (W : Int) neg A n c e
  rw [hV]
  clear hV sW
  replace hT := hT.on BW
  replace h := h.on BW
  refine (dplain_as h hs hT HD.out).mono ?_
  rintro en w1 ⟨V_rd, v_rd, rfl, rd, b⟩
  replace z0 := z0.on b
  replace z1 := z1.on b
  replace hT := hT.on b
  replace h := h.on b
  replace BW := Below.step BW b
  clear b
  obtain ⟨z0c0, z0c1, z0c2, z0f0, z0f1, z0f2, z0l⟩ := z0.cells
  obtain ⟨z1c0, z1c1, z1c2, z1f0, z1f1, z1f2, z1l⟩ := z1.cells
  go_wp2_with fail
  clear z0c0 z0c1 z0c2 z0f0 z0f1 z0f2 z0l z1c0 z1c1 z1c2 z1f0 z1f1 z1f2 z1l
  obtain ⟨w2, e_w2⟩ : ∃ w', w1.alloc (dob dn V_rd v_rd v_rd de 25) = w' := ⟨_, rfl⟩
  have b : Below w1.heap.size w1 w2 := e_w2 ▸ below_lit _ _
  have hs_w2 : w2.heap.size = w1.heap.size + 1 := e_w2 ▸ size_lit w1 _ rfl
  have zp : DB w2 w1.heap.size 25 dn V_rd v_rd v_rd de := e_w2 ▸ DB.made w1 rfl 25 dn V_rd v_rd v_rd de
  rw [e_w2]
  clear e_w2
  replace z0 := z0.on b
  replace z1 := z1.on b
  replace hT := hT.on b
  replace h := h.on b
  replace rd := rd.on b
  replace BW := Below.step BW b
  clear b
  refine (dtop_as h hs hT HP.out).mono ?_
  rintro en w3 ⟨rfl, b⟩
  replace z0 := z0.on b
  replace z1 := z1.on b
  replace hT := hT.on b
  replace h := h.on b
  replace rd := rd.on b
  replace zp := zp.on b
  replace BW := Below.step BW b
  clear b
  obtain ⟨z0c0, z0c1, z0c2, z0f0, z0f1, z0f2, z0l⟩ := z0.cells
  obtain ⟨z1c0, z1c1, z1c2, z1f0, z1f1, z1f2, z1l⟩ := z1.cells
  obtain ⟨zpc0, zpc1, zpc2, zpf0, zpf1, zpf2, zpl⟩ := zp.cells
  go_wp2_with fail
  clear z0c0 z0c1 z0c2 z0f0 z0f1 z0f2 z0l z1c0 z1c1 z1c2 z1f0 z1f1 z1f2 z1l zpc0 zpc1 zpc2 zpf0 zpf1 zpf2 zpl
  replace z0 := z0.on ((Below.refl _ _).drew : Below w3.heap.size w3 w3.drew)
  replace z1 := z1.on ((Below.refl _ _).drew : Below w3.heap.size w3 w3.drew)
  replace hT := hT.on ((Below.refl _ _).drew : Below w3.heap.size w3 w3.drew)
  replace h := h.on ((Below.refl _ _).drew : Below w3.heap.size w3 w3.drew)
  replace rd := rd.on ((Below.refl _ _).drew : Below w3.heap.size w3 w3.drew)
  replace zp := zp.on ((Below.refl _ _).drew : Below w3.heap.size w3 w3.drew)
  replace BW := Lib.hid (Below.step BW ((Below.refl _ _).drew : Below w3.heap.size w3 w3.drew))
  go_region_held3 (fun w' => w'.cell? ⟨w.heap.size, 0, none⟩ = some (.int .i64 (B : Int)) ∧ w'.cell? ⟨w.heap.size, 1, none⟩ = some (.int .i64 (P : Int)) ∧ w'.cell? ⟨w.heap.size, 2, none⟩ = some (.int .i64 (W : Int)))
    ((exact ⟨z0.cells.1, z0.cells.2.1, z0.cells.2.2.1⟩))
    (first
      | (go_at_call 27
         (with_reducible refine (HL.out _).mono ?_)
         rintro en w4 ⟨rfl, b⟩
         replace z0 := z0.on b
         replace z1 := z1.on b
         replace hT := hT.on b
         replace h := h.on b
         replace rd := rd.on b
         replace zp := zp.on b
         replace BW := Lib.hid (Below.step BW.out b)
         clear b))
  replace BW := BW.out
  obtain ⟨z0c0, z0c1, z0c2, z0f0, z0f1, z0f2, z0l⟩ := z0.cells
  obtain ⟨z1c0, z1c1, z1c2, z1f0, z1f1, z1f2, z1l⟩ := z1.cells
  obtain ⟨zpc0, zpc1, zpc2, zpf0, zpf1, zpf2, zpl⟩ := zp.cells
  go_wp2_with fail
  refine (HI.out _).mono ?_
  rintro en w5 ⟨rfl, b⟩
  clear z0c0 z0c1 z0c2 z0f0 z0f1 z0f2 z0l z1c0 z1c1 z1c2 z1f0 z1f1 z1f2 z1l zpc0 zpc1 zpc2 zpf0 zpf1 zpf2 zpl
  replace z0 := z0.on b
  replace z1 := z1.on b
  replace hT := hT.on b
  replace h := h.on b
  replace rd := rd.on b
  replace zp := zp.on b
  replace BW := Below.step BW b
  clear b
  obtain ⟨z0c0, z0c1, z0c2, z0f0, z0f1, z0f2, z0l⟩ := z0.cells
  obtain ⟨zpc0, zpc1, zpc2, zpf0, zpf1, zpf2, zpl⟩ := zp.cells
  go_wp2_with fail
  have lrd := res_n_le rd (k := 128) p1
  refine (fleft_as (rd.arg (by omega)) (by omega) i hfit HYY.out).mono ?_
  rintro en w6 ⟨V_rl, v_rl, rfl, rl, b⟩
  clear z0c0 z0c1 z0c2 z0f0 z0f1 z0f2 z0l zpc0 zpc1 zpc2 zpf0 zpf1 zpf2 zpl
  replace z0 := z0.on b
  replace z1 := z1.on b
  replace hT := hT.on b
  replace h := h.on b
  replace rd := rd.on b
  replace zp := zp.on b
  replace BW := Below.step BW b
  clear b
  have ll := rl.le2 hn3
  obtain ⟨z0c0, z0c1, z0c2, z0f0, z0f1, z0f2, z0l⟩ := z0.cells
  obtain ⟨zpc0, zpc1, zpc2, zpf0, zpf1, zpf2, zpl⟩ := zp.cells
  go_wp2_with fail
  refine (word_any (rl.arg (by omega)) (by omega) hn3).mono ?_
  rintro en w' ⟨rfl, rfl⟩
  go_wp2_with fail
  clear z0c0 z0c1 z0c2 z0f0 z0f1 z0f2 z0l zpc0 zpc1 zpc2 zpf0 zpf1 zpf2 zpl
  replace z0 := z0.on ((Below.refl _ _).drew : Below w6.heap.size w6 w6.drew)
  replace z1 := z1.on ((Below.refl _ _).drew : Below w6.heap.size w6 w6.drew)
  replace hT := hT.on ((Below.refl _ _).drew : Below w6.heap.size w6 w6.drew)
  replace h := h.on ((Below.refl _ _).drew : Below w6.heap.size w6 w6.drew)
  replace rd := rd.on ((Below.refl _ _).drew : Below w6.heap.size w6 w6.drew)
  replace zp := zp.on ((Below.refl _ _).drew : Below w6.heap.size w6 w6.drew)
  replace rl := rl.on ((Below.refl _ _).drew : Below w6.heap.size w6 w6.drew)
  replace BW := Lib.hid (Below.step BW ((Below.refl _ _).drew : Below w6.heap.size w6 w6.drew))
  go_region_held3 (fun w' => w'.cell? ⟨w.heap.size, 0, none⟩ = some (.int .i64 (B : Int)) ∧ w'.cell? ⟨w.heap.size, 1, none⟩ = some (.int .i64 (P : Int)) ∧ w'.cell? ⟨w.heap.size, 2, none⟩ = some (.int .i64 (W : Int)) ∧ w'.cell? ⟨w1.heap.size, 0, none⟩ = some (.bool dn) ∧ w'.cell? ⟨w1.heap.size, 1, none⟩ = some (.slice V_rd v_rd v_rd) ∧ w'.cell? ⟨w1.heap.size, 2, none⟩ = some (.int .i64 de))
    ((exact ⟨z0.cells.1, z0.cells.2.1, z0.cells.2.2.1, zp.cells.1, zp.cells.2.1, zp.cells.2.2.1⟩))
    (first
      | (go_at_call 27
         (with_reducible refine (HL.out _).mono ?_)
         rintro en w7 ⟨rfl, b⟩
         replace z0 := z0.on b
         replace z1 := z1.on b
         replace hT := hT.on b
         replace h := h.on b
         replace rd := rd.on b
         replace zp := zp.on b
         replace rl := rl.on b
         replace BW := Lib.hid (Below.step BW.out b)
         clear b)
      | (go_at_call 62
         (with_reducible refine (HG.out _).mono ?_)
         rintro en w8 ⟨rfl, b⟩
         replace z0 := z0.on b
         replace z1 := z1.on b
         replace hT := hT.on b
         replace h := h.on b
         replace rd := rd.on b
         replace zp := zp.on b
         replace rl := rl.on b
         replace BW := Lib.hid (Below.step BW.out b)
         clear b))
  replace BW := BW.out
  go_wp2_with fail
  refine bodyPost_ret (v := .tuple #[.int .u64 v, .int .i64 0]) (by simp [results, Tryd.results54, go_sem]) rfl ⟨rfl, BW⟩
theorem put_as {B P W M E H : Nat} {low : Int} (hf : Fm B P W M E H low) {A : Option Addr} {n c x : Nat} {neg : Bool} {e : Int} {w : World} (h : Arg w A n c x) (hs : n ≤ 30000) (hT : Tab w) {v : Nat} {q : Int} (hr : putS P M E H low ⟨neg, x, e⟩ = (v, q)) :
    Calls Tryd.prog 54 #[.agg #[.int .i64 (B : Int), .int .i64 (P : Int), .int .i64 (W : Int)], .agg #[.bool neg, .slice A n c, .int .i64 e]] w fun en w' => en = .returned (.tuple #[.int .u64 (v : Int), .int .i64 q]) ∧ Below w.heap.size w w' := by
  unfold putS at hr
  obtain ⟨m, hm⟩ : ∃ m, D.may ⟨neg, x, e⟩ = m := ⟨_, rfl⟩
  rw [hm] at hr
  cases m
  · rw [if_neg (by decide)] at hr
    simp only [Prod.mk.injEq] at hr
    obtain ⟨rfl, rfl⟩ := hr
    exact put_range hf h hs hT hm
  · rw [if_pos rfl] at hr
    by_cases h0 : x = 0
    · rw [if_pos h0] at hr
      simp only [Prod.mk.injEq] at hr
      obtain ⟨rfl, rfl⟩ := hr
      exact put_zero hf h hs hT hm h0
    · rw [if_neg h0] at hr
      by_cases hk : (D.pl ⟨neg, x, e⟩).e < plcS P low ⟨neg, x, e⟩
      · rw [if_pos (.inl hk)] at hr
        simp only [Prod.mk.injEq] at hr
        obtain ⟨rfl, rfl⟩ := hr
        exact put_none1 hf h hs hT hm h0 hk
      · by_cases hk2 : low + (E : Int) - 2 < plcS P low ⟨neg, x, e⟩
        · rw [if_pos (.inr hk2)] at hr
          simp only [Prod.mk.injEq] at hr
          obtain ⟨rfl, rfl⟩ := hr
          exact put_none2 hf h hs hT hm h0 hk hk2
        · rw [if_neg (fun h => h.elim hk hk2)] at hr
          simp only [Prod.mk.injEq] at hr
          obtain ⟨hv, rfl⟩ := hr
          exact put_ok hf h hs hT hm h0 hk hk2 v hv
end Go.Proofs.YtkjbejdeejpdoaaDoor
