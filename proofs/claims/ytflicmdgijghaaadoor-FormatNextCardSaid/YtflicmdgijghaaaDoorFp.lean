
/-
  The walk of the reference of layer 3: Put.
-/
import Derived.Test.YtflicmdgijghaaaDoorFr
import Derived.Test.YtflicmdgijghaaaDoorFf
import Derived.Test.YtflicmdgijghaaaDoorRA
namespace Go.Proofs.YtflicmdgijghaaaDoor
open Go.RowKit
set_option linter.unusedVariables false

theorem rleft_as {A : Option Addr} {n c x : Nat} {w : World} (h : BR w A n c x) (hn : n ≤ 1000000) (i : Nat) (hi : i ≤ 1000000) {y : Nat} (hy : x * 2 ^ i = y) :
    Calls Tryd.prog 59 #[.slice A n c, .int .i64 i] w (BitsPost w y) := hy ▸ rleft_fit h hn i hi
theorem rput_range {B P W M E H : Nat} {low : Int} (hf : Fm B P W M E H low) {A : Option Addr} {n c x : Nat} {neg : Bool} {e : Int} {w : World} (h : BR w A n c x) (hs : n ≤ 100000) (hm : D.may ⟨neg, x, e⟩ = false) :
    Calls Tryd.prog 35 #[.agg #[.int .i64 (B : Int), .int .i64 (P : Int), .int .i64 (W : Int)], .agg #[.bool neg, .slice A n c, .int .i64 e]] w fun en w' => en = .returned (.tuple #[.int .u64 0, .int .i64 3]) ∧ Below w.heap.size w w' := by
  obtain ⟨b1, b2, b3, b4, b5, b6, b7, b8, b9, b10, b11, b12, b13, b14, b15⟩ := hf.bd
  have HM := Lib.hid hm
  clear hm hf b1
  go_enter Tryd.func35, Tryd.ntmps35
  go_wp2_with fail
  obtain ⟨V, hV, z0, z1, BW, sW⟩ := fframe2 w 29 43 (B : Int) (P : Int) (W : Int) neg A n c e
  rw [hV]
  clear hV sW
  replace h := h.on BW
  refine (rmay_any false h (by omega) HM.out).mono ?_
  rintro en w1 ⟨rfl, b⟩
  replace z0 := z0.on b
  replace z1 := z1.on b
  replace h := h.on b
  replace BW := Below.step BW b
  clear b
  obtain ⟨z0c0, z0c1, z0c2, z0f0, z0f1, z0f2, z0l⟩ := z0.cells
  obtain ⟨z1c0, z1c1, z1c2, z1f0, z1f1, z1f2, z1l⟩ := z1.cells
  go_wp2_with fail
  refine bodyPost_ret (v := .tuple #[.int .u64 0, .int .i64 3]) (by simp [results, Tryd.results35, go_sem]) rfl ⟨rfl, BW⟩
theorem rput_zero {B P W M E H : Nat} {low : Int} (hf : Fm B P W M E H low) {A : Option Addr} {n c x : Nat} {neg : Bool} {e : Int} {w : World} (h : BR w A n c x) (hs : n ≤ 100000) (hm : D.may ⟨neg, x, e⟩ = true) (h0 : x = 0) :
    Calls Tryd.prog 35 #[.agg #[.int .i64 (B : Int), .int .i64 (P : Int), .int .i64 (W : Int)], .agg #[.bool neg, .slice A n c, .int .i64 e]] w fun en w' => en = .returned (.tuple #[.int .u64 0, .int .i64 0]) ∧ Below w.heap.size w w' := by
  obtain ⟨b1, b2, b3, b4, b5, b6, b7, b8, b9, b10, b11, b12, b13, b14, b15⟩ := hf.bd
  obtain ⟨m1, m2, m3⟩ := (D.may_iff _).1 hm
  simp only at m1 m2 m3
  have HM := Lib.hid hm
  have HD : Hid (D.pl ⟨neg, x, e⟩ = ⟨false, 0, 0⟩) := by rw [D.pl_zero h0]; exact Lib.hid rfl
  clear hm hf b1 h0
  go_enter Tryd.func35, Tryd.ntmps35
  go_wp2_with fail
  obtain ⟨V, hV, z0, z1, BW, sW⟩ := fframe2 w 29 43 (B : Int) (P : Int) (W : Int) neg A n c e
  rw [hV]
  clear hV sW
  replace h := h.on BW
  refine (rmay_any true h (by omega) HM.out).mono ?_
  rintro en w1 ⟨rfl, b⟩
  replace z0 := z0.on b
  replace z1 := z1.on b
  replace h := h.on b
  replace BW := Below.step BW b
  clear b
  obtain ⟨z0c0, z0c1, z0c2, z0f0, z0f1, z0f2, z0l⟩ := z0.cells
  obtain ⟨z1c0, z1c1, z1c2, z1f0, z1f1, z1f2, z1l⟩ := z1.cells
  go_wp2_with fail
  refine (rplain_any h (by omega) (by omega) (by omega) HD.out).mono ?_
  rintro en w2 ⟨V_rd, v_rd, c_rd, rfl, rd, b⟩
  clear z0c0 z0c1 z0c2 z0f0 z0f1 z0f2 z0l z1c0 z1c1 z1c2 z1f0 z1f1 z1f2 z1l
  replace z0 := z0.on b
  replace z1 := z1.on b
  replace h := h.on b
  replace BW := Below.step BW b
  clear b
  have hv := rd.size
  obtain rfl : v_rd = 0 := hv
  obtain ⟨z0c0, z0c1, z0c2, z0f0, z0f1, z0f2, z0l⟩ := z0.cells
  obtain ⟨z1c0, z1c1, z1c2, z1f0, z1f1, z1f2, z1l⟩ := z1.cells
  go_wp2_with fail
  refine bodyPost_ret (v := .tuple #[.int .u64 0, .int .i64 0]) (by simp [results, Tryd.results35, go_sem]) rfl ⟨rfl, Below.step BW (below_lit _ _)⟩
set_option maxHeartbeats 1000000 in
theorem rput_low_none {B P W M E H : Nat} {low : Int} (hf : Fm B P W M E H low) {A : Option Addr} {n c x : Nat} {neg : Bool} {e : Int} {w : World} (h : BR w A n c x) (hs : n ≤ 100000) (hm : D.may ⟨neg, x, e⟩ = true) (h0 : x ≠ 0) {t : Int} (ht : (blen x : Int) - 1 + e = t) {dn : Bool} {dx : Nat} {de : Int} (hd : D.pl ⟨neg, x, e⟩ = ⟨dn, dx, de⟩) (hl : ¬ low + (P : Int) - 1 < t) (hk : de < low) :
    Calls Tryd.prog 35 #[.agg #[.int .i64 (B : Int), .int .i64 (P : Int), .int .i64 (W : Int)], .agg #[.bool neg, .slice A n c, .int .i64 e]] w fun en w' => en = .returned (.tuple #[.int .u64 0, .int .i64 10]) ∧ Below w.heap.size w w' := by
  obtain ⟨b1, b2, b3, b4, b5, b6, b7, b8, b9, b10, b11, b12, b13, b14, b15⟩ := hf.bd
  obtain ⟨m1, m2, m3⟩ := (D.may_iff _).1 hm
  simp only at m1 m2 m3
  obtain ⟨p1, p2, p3, p4, p5⟩ := pl_bounds hm
  have htd : de + (blen dx : Int) - 1 = t := by
    have h1 := D.pl_pos (d := ⟨neg, x, e⟩) h0
    rw [hd] at h1
    simp only [D.mk.injEq] at h1
    obtain ⟨_, h2, h3⟩ := h1
    have h4 := blen_div_tz h0
    rw [h2, h3, ← ht]
    omega
  have hdx : dx ≠ 0 := by
    have h1 := D.pl_pos (d := ⟨neg, x, e⟩) h0
    rw [hd] at h1
    simp only [D.mk.injEq] at h1
    have h3 := (tz_blen h0).2.2
    rw [← h1.2.1] at h3
    omega
  have hdl := (blen_pos hdx).2
  rw [hd] at p1 p2 p3 p4
  simp only at p1 p2 p3 p4
  clear p5
  have HM := Lib.hid hm
  have HD := Lib.hid hd
  have HL := Lib.hid (fun (V : World) => rlow_as hf low rfl V)
  have HW := Lib.hid (fun (V : World) => power_as W (E + 1) (by omega) hf.pW (W : Int) rfl V)
  have HP := Lib.hid (fun (V : World) => power_as (P - 1) M (by omega) hf.pP ((P : Int) - 1) (by omega) V)
  have q1 : IntKind.i64.wrap (low + (P : Int)) = low + (P : Int) := IntWalk.i64_in _ (by omega)
  have q2 : IntKind.i64.wrap (low + (P : Int) - 1) = low + (P : Int) - 1 := IntWalk.i64_in _ (by omega)
  have d1 : decide (low + (P : Int) - 1 < t) = false := decide_eq_false hl
  have d2 : decide (E ≤ 1) = false := decide_eq_false (by omega)
  have d2' : decide ((E : Int) ≤ 1) = false := decide_eq_false (by omega)
  have d3 : decide (de < low) = true := decide_eq_true hk
  clear hm hf b1 hd ht h0 hdx hl hk
  go_enter Tryd.func35, Tryd.ntmps35
  go_wp2_with fail
  obtain ⟨V, hV, z0, z1, BW, sW⟩ := fframe2 w 29 43 (B : Int) (P : Int) (W : Int) neg A n c e
  rw [hV]
  clear hV sW
  replace h := h.on BW
  refine (rmay_any true h (by omega) HM.out).mono ?_
  rintro en w1 ⟨rfl, b⟩
  replace z0 := z0.on b
  replace z1 := z1.on b
  replace h := h.on b
  replace BW := Below.step BW b
  clear b
  obtain ⟨z0c0, z0c1, z0c2, z0f0, z0f1, z0f2, z0l⟩ := z0.cells
  obtain ⟨z1c0, z1c1, z1c2, z1f0, z1f1, z1f2, z1l⟩ := z1.cells
  go_wp2_with fail
  refine (rplain_any h (by omega) (by omega) (by omega) HD.out).mono ?_
  rintro en w2 ⟨V_rd, v_rd, c_rd, rfl, rd, b⟩
  clear z0c0 z0c1 z0c2 z0f0 z0f1 z0f2 z0l z1c0 z1c1 z1c2 z1f0 z1f1 z1f2 z1l
  replace z0 := z0.on b
  replace z1 := z1.on b
  replace h := h.on b
  replace BW := Below.step BW b
  clear b
  have hv := rd.size
  have d0 : ((v_rd : Int) == 0) = false := by simp; omega
  have qt : de + (v_rd : Int) - 1 = t := by rw [hv]; exact htd
  have hvl : v_rd ≤ 4096 := by omega
  clear hv htd
  obtain ⟨z0c0, z0c1, z0c2, z0f0, z0f1, z0f2, z0l⟩ := z0.cells
  obtain ⟨z1c0, z1c1, z1c2, z1f0, z1f1, z1f2, z1l⟩ := z1.cells
  go_wp2_with fail
  clear z0c0 z0c1 z0c2 z0f0 z0f1 z0f2 z0l z1c0 z1c1 z1c2 z1f0 z1f1 z1f2 z1l
  obtain ⟨w3, e_w3⟩ : ∃ w', w2.alloc (dob dn V_rd v_rd c_rd de 43) = w' := ⟨_, rfl⟩
  have b : Below w2.heap.size w2 w3 := e_w3 ▸ below_lit _ _
  have hs_w3 : w3.heap.size = w2.heap.size + 1 := e_w3 ▸ size_lit w2 _ rfl
  have zp : DB w3 w2.heap.size 43 dn V_rd v_rd c_rd de := e_w3 ▸ DB.made w2 rfl 43 dn V_rd v_rd c_rd de
  rw [e_w3]
  clear e_w3
  replace z0 := z0.on b
  replace z1 := z1.on b
  replace h := h.on b
  replace rd := rd.on b
  replace BW := Below.step BW b
  clear b
  replace z0 := z0.on ((Below.refl _ _).drew : Below w3.heap.size w3 w3.drew)
  replace z1 := z1.on ((Below.refl _ _).drew : Below w3.heap.size w3 w3.drew)
  replace h := h.on ((Below.refl _ _).drew : Below w3.heap.size w3 w3.drew)
  replace rd := rd.on ((Below.refl _ _).drew : Below w3.heap.size w3 w3.drew)
  replace zp := zp.on ((Below.refl _ _).drew : Below w3.heap.size w3 w3.drew)
  replace BW := Lib.hid (Below.step BW ((Below.refl _ _).drew : Below w3.heap.size w3 w3.drew))
  go_region_held3 (fun w' => w'.cell? ⟨w.heap.size, 0, none⟩ = some (.int .i64 (B : Int)) ∧ w'.cell? ⟨w.heap.size, 1, none⟩ = some (.int .i64 (P : Int)) ∧ w'.cell? ⟨w.heap.size, 2, none⟩ = some (.int .i64 (W : Int)))
    ((first | exact ⟨z0.cells.1, z0.cells.2.1, z0.cells.2.2.1⟩))
    (first
      | (go_at_call 17
         (with_reducible refine (HL.out _).mono ?_)
         rintro en w4 ⟨rfl, b⟩
         replace z0 := z0.on b
         replace z1 := z1.on b
         replace h := h.on b
         replace rd := rd.on b
         replace zp := zp.on b
         replace BW := Lib.hid (Below.step BW.out b)
         clear b))
  replace BW := BW.out
  go_wp2_with fail
  obtain ⟨z0c0, z0c1, z0c2, z0f0, z0f1, z0f2, z0l⟩ := z0.cells
  go_wp2_with fail
  refine (HW.out _).mono ?_
  rintro en w' ⟨rfl, rfl⟩
  go_wp2_with fail
  refine (HL.out _).mono ?_
  rintro en w5 ⟨rfl, b⟩
  clear z0c0 z0c1 z0c2 z0f0 z0f1 z0f2 z0l
  replace z0 := z0.on b
  replace z1 := z1.on b
  replace h := h.on b
  replace rd := rd.on b
  replace zp := zp.on b
  replace BW := Below.step BW b
  clear b
  obtain ⟨z0c0, z0c1, z0c2, z0f0, z0f1, z0f2, z0l⟩ := z0.cells
  obtain ⟨zpc0, zpc1, zpc2, zpf0, zpf1, zpf2, zpl⟩ := zp.cells
  go_wp2_with fail
  refine bodyPost_ret (v := .tuple #[.int .u64 0, .int .i64 10]) (by simp [results, Tryd.results35, go_sem]) rfl ⟨rfl, BW⟩
theorem build_one {B P W M E H : Nat} {low : Int} (hf : Fm B P W M E H low) (neg : Bool) (r v : Nat) (he : M + r < H) (hv : sgn H neg (M + r) = v) (w : World) :
    Calls Tryd.prog 29 #[.agg #[.int .i64 (B : Int), .int .i64 (P : Int), .int .i64 (W : Int)], .bool neg, .int .u64 1, .int .u64 (r : Int)] w fun e w' => e = .returned (.int .u64 (v : Int)) ∧ Below w.heap.size w w' :=
  build_as hf neg 1 r v (by omega) (by rw [Nat.one_mul, hv]) w
set_option maxHeartbeats 1000000 in
theorem rput_low_sub {B P W M E H : Nat} {low : Int} (hf : Fm B P W M E H low) {A : Option Addr} {n c x : Nat} {neg : Bool} {e : Int} {w : World} (h : BR w A n c x) (hs : n ≤ 100000) (hm : D.may ⟨neg, x, e⟩ = true) (h0 : x ≠ 0) {t : Int} (ht : (blen x : Int) - 1 + e = t) {dn : Bool} {dx : Nat} {de : Int} (hd : D.pl ⟨neg, x, e⟩ = ⟨dn, dx, de⟩) (hl : ¬ low + (P : Int) - 1 < t) (hk : ¬ de < low) {i y v : Nat} (hi : de - low = (i : Int)) (hy : dx * 2 ^ i = y) (hyM : y < M) (hv : sgn H dn y = v) :
    Calls Tryd.prog 35 #[.agg #[.int .i64 (B : Int), .int .i64 (P : Int), .int .i64 (W : Int)], .agg #[.bool neg, .slice A n c, .int .i64 e]] w fun en w' => en = .returned (.tuple #[.int .u64 (v : Int), .int .i64 0]) ∧ Below w.heap.size w w' := by
  obtain ⟨b1, b2, b3, b4, b5, b6, b7, b8, b9, b10, b11, b12, b13, b14, b15⟩ := hf.bd
  obtain ⟨m1, m2, m3⟩ := (D.may_iff _).1 hm
  simp only at m1 m2 m3
  obtain ⟨p1, p2, p3, p4, p5⟩ := pl_bounds hm
  have htd : de + (blen dx : Int) - 1 = t := by
    have h1 := D.pl_pos (d := ⟨neg, x, e⟩) h0
    rw [hd] at h1
    simp only [D.mk.injEq] at h1
    obtain ⟨_, h2, h3⟩ := h1
    have h4 := blen_div_tz h0
    rw [h2, h3, ← ht]
    omega
  have hdx : dx ≠ 0 := by
    have h1 := D.pl_pos (d := ⟨neg, x, e⟩) h0
    rw [hd] at h1
    simp only [D.mk.injEq] at h1
    have h3 := (tz_blen h0).2.2
    rw [← h1.2.1] at h3
    omega
  have hdl := (blen_pos hdx).2
  rw [hd] at p1 p2 p3 p4
  simp only at p1 p2 p3 p4
  clear p5
  have HM := Lib.hid hm
  have HD := Lib.hid hd
  have HL := Lib.hid (fun (V : World) => rlow_as hf low rfl V)
  have HW := Lib.hid (fun (V : World) => power_as W (E + 1) (by omega) hf.pW (W : Int) rfl V)
  have HP := Lib.hid (fun (V : World) => power_as (P - 1) M (by omega) hf.pP ((P : Int) - 1) (by omega) V)
  have q1 : IntKind.i64.wrap (low + (P : Int)) = low + (P : Int) := IntWalk.i64_in _ (by omega)
  have q2 : IntKind.i64.wrap (low + (P : Int) - 1) = low + (P : Int) - 1 := IntWalk.i64_in _ (by omega)
  have HYY := Lib.hid hy
  have HPB := Lib.hid (fun (V : World) => power_b (P - 1) M (by omega) hf.pP ((P : Int) - 1) (by omega) V)
  have q3 : IntKind.i64.wrap ((P : Int) - 1) = (P : Int) - 1 := IntWalk.i64_in _ (by omega)
  have d1 : decide (low + (P : Int) - 1 < t) = false := decide_eq_false hl
  have d2 : decide (E ≤ 1) = false := decide_eq_false (by omega)
  have d2' : decide ((E : Int) ≤ 1) = false := decide_eq_false (by omega)
  have d3 : decide (de < low) = false := decide_eq_false hk
  have hy64 : y < 18446744073709551616 := by omega
  have hMH : 2 * M ≤ H := by
    rw [← hf.hlf.1, Nat.mul_comm 2]; exact Nat.mul_le_mul_left _ (by omega)
  have d4 : decide (y < M) = true := decide_eq_true hyM
  have HG := Lib.hid (fun (V : World) => build_low hf dn y v (by omega) hv V)
  clear hm hf b1 hd ht h0 hdx hl hk hy hyM hv hMH
  go_enter Tryd.func35, Tryd.ntmps35
  go_wp2_with fail
  obtain ⟨V, hV, z0, z1, BW, sW⟩ := fframe2 w 29 43 (B : Int) (P : Int) (W : Int) neg A n c e
  rw [hV]
  clear hV sW
  replace h := h.on BW
  refine (rmay_any true h (by omega) HM.out).mono ?_
  rintro en w1 ⟨rfl, b⟩
  replace z0 := z0.on b
  replace z1 := z1.on b
  replace h := h.on b
  replace BW := Below.step BW b
  clear b
  obtain ⟨z0c0, z0c1, z0c2, z0f0, z0f1, z0f2, z0l⟩ := z0.cells
  obtain ⟨z1c0, z1c1, z1c2, z1f0, z1f1, z1f2, z1l⟩ := z1.cells
  go_wp2_with fail
  refine (rplain_any h (by omega) (by omega) (by omega) HD.out).mono ?_
  rintro en w2 ⟨V_rd, v_rd, c_rd, rfl, rd, b⟩
  clear z0c0 z0c1 z0c2 z0f0 z0f1 z0f2 z0l z1c0 z1c1 z1c2 z1f0 z1f1 z1f2 z1l
  replace z0 := z0.on b
  replace z1 := z1.on b
  replace h := h.on b
  replace BW := Below.step BW b
  clear b
  have hv := rd.size
  have d0 : ((v_rd : Int) == 0) = false := by simp; omega
  have qt : de + (v_rd : Int) - 1 = t := by rw [hv]; exact htd
  have hvl : v_rd ≤ 4096 := by omega
  clear hv htd
  obtain ⟨z0c0, z0c1, z0c2, z0f0, z0f1, z0f2, z0l⟩ := z0.cells
  obtain ⟨z1c0, z1c1, z1c2, z1f0, z1f1, z1f2, z1l⟩ := z1.cells
  go_wp2_with fail
  clear z0c0 z0c1 z0c2 z0f0 z0f1 z0f2 z0l z1c0 z1c1 z1c2 z1f0 z1f1 z1f2 z1l
  obtain ⟨w3, e_w3⟩ : ∃ w', w2.alloc (dob dn V_rd v_rd c_rd de 43) = w' := ⟨_, rfl⟩
  have b : Below w2.heap.size w2 w3 := e_w3 ▸ below_lit _ _
  have hs_w3 : w3.heap.size = w2.heap.size + 1 := e_w3 ▸ size_lit w2 _ rfl
  have zp : DB w3 w2.heap.size 43 dn V_rd v_rd c_rd de := e_w3 ▸ DB.made w2 rfl 43 dn V_rd v_rd c_rd de
  rw [e_w3]
  clear e_w3
  replace z0 := z0.on b
  replace z1 := z1.on b
  replace h := h.on b
  replace rd := rd.on b
  replace BW := Below.step BW b
  clear b
  replace z0 := z0.on ((Below.refl _ _).drew : Below w3.heap.size w3 w3.drew)
  replace z1 := z1.on ((Below.refl _ _).drew : Below w3.heap.size w3 w3.drew)
  replace h := h.on ((Below.refl _ _).drew : Below w3.heap.size w3 w3.drew)
  replace rd := rd.on ((Below.refl _ _).drew : Below w3.heap.size w3 w3.drew)
  replace zp := zp.on ((Below.refl _ _).drew : Below w3.heap.size w3 w3.drew)
  replace BW := Lib.hid (Below.step BW ((Below.refl _ _).drew : Below w3.heap.size w3 w3.drew))
  go_region_held3 (fun w' => w'.cell? ⟨w.heap.size, 0, none⟩ = some (.int .i64 (B : Int)) ∧ w'.cell? ⟨w.heap.size, 1, none⟩ = some (.int .i64 (P : Int)) ∧ w'.cell? ⟨w.heap.size, 2, none⟩ = some (.int .i64 (W : Int)))
    ((first | exact ⟨z0.cells.1, z0.cells.2.1, z0.cells.2.2.1⟩))
    (first
      | (go_at_call 17
         (with_reducible refine (HL.out _).mono ?_)
         rintro en w4 ⟨rfl, b⟩
         replace z0 := z0.on b
         replace z1 := z1.on b
         replace h := h.on b
         replace rd := rd.on b
         replace zp := zp.on b
         replace BW := Lib.hid (Below.step BW.out b)
         clear b))
  replace BW := BW.out
  go_wp2_with fail
  obtain ⟨z0c0, z0c1, z0c2, z0f0, z0f1, z0f2, z0l⟩ := z0.cells
  go_wp2_with fail
  refine (HW.out _).mono ?_
  rintro en w' ⟨rfl, rfl⟩
  go_wp2_with fail
  refine (HL.out _).mono ?_
  rintro en w5 ⟨rfl, b⟩
  clear z0c0 z0c1 z0c2 z0f0 z0f1 z0f2 z0l
  replace z0 := z0.on b
  replace z1 := z1.on b
  replace h := h.on b
  replace rd := rd.on b
  replace zp := zp.on b
  replace BW := Below.step BW b
  clear b
  obtain ⟨z0c0, z0c1, z0c2, z0f0, z0f1, z0f2, z0l⟩ := z0.cells
  obtain ⟨zpc0, zpc1, zpc2, zpf0, zpf1, zpf2, zpl⟩ := zp.cells
  go_wp2_with fail
  refine (rleft_as rd (by omega) i (by omega) HYY.out).mono ?_
  rintro en w6 ⟨V_rl, v_rl, c_rl, rfl, rl, b⟩
  clear z0c0 z0c1 z0c2 z0f0 z0f1 z0f2 z0l zpc0 zpc1 zpc2 zpf0 zpf1 zpf2 zpl
  replace z0 := z0.on b
  replace z1 := z1.on b
  replace h := h.on b
  replace rd := rd.on b
  replace zp := zp.on b
  replace BW := Below.step BW b
  clear b
  obtain ⟨z0c0, z0c1, z0c2, z0f0, z0f1, z0f2, z0l⟩ := z0.cells
  obtain ⟨zpc0, zpc1, zpc2, zpf0, zpf1, zpf2, zpl⟩ := zp.cells
  go_wp2_with fail
  refine (rfull_any rl hy64).mono ?_
  rintro en w' ⟨rfl, rfl⟩
  go_wp2_with fail
  refine (HP.out _).mono ?_
  rintro en w' ⟨rfl, rfl⟩
  go_wp2_with fail
  refine (HG.out _).mono ?_
  rintro en w7 ⟨rfl, b⟩
  clear z0c0 z0c1 z0c2 z0f0 z0f1 z0f2 z0l zpc0 zpc1 zpc2 zpf0 zpf1 zpf2 zpl
  replace z0 := z0.on b
  replace z1 := z1.on b
  replace h := h.on b
  replace rd := rd.on b
  replace zp := zp.on b
  replace rl := rl.on b
  replace BW := Below.step BW b
  clear b
  go_wp2_with fail
  refine bodyPost_ret (v := .tuple #[.int .u64 (v : Int), .int .i64 0]) (by simp [results, Tryd.results35, go_sem]) rfl ⟨rfl, BW⟩
set_option maxHeartbeats 1000000 in
theorem rput_low_norm {B P W M E H : Nat} {low : Int} (hf : Fm B P W M E H low) {A : Option Addr} {n c x : Nat} {neg : Bool} {e : Int} {w : World} (h : BR w A n c x) (hs : n ≤ 100000) (hm : D.may ⟨neg, x, e⟩ = true) (h0 : x ≠ 0) {t : Int} (ht : (blen x : Int) - 1 + e = t) {dn : Bool} {dx : Nat} {de : Int} (hd : D.pl ⟨neg, x, e⟩ = ⟨dn, dx, de⟩) (hl : ¬ low + (P : Int) - 1 < t) (hk : ¬ de < low) {i y v : Nat} (hi : de - low = (i : Int)) (hy : dx * 2 ^ i = y) (hyM : M ≤ y) (hy2 : y < 2 * M) (hv : sgn H dn y = v) :
    Calls Tryd.prog 35 #[.agg #[.int .i64 (B : Int), .int .i64 (P : Int), .int .i64 (W : Int)], .agg #[.bool neg, .slice A n c, .int .i64 e]] w fun en w' => en = .returned (.tuple #[.int .u64 (v : Int), .int .i64 0]) ∧ Below w.heap.size w w' := by
  obtain ⟨b1, b2, b3, b4, b5, b6, b7, b8, b9, b10, b11, b12, b13, b14, b15⟩ := hf.bd
  obtain ⟨m1, m2, m3⟩ := (D.may_iff _).1 hm
  simp only at m1 m2 m3
  obtain ⟨p1, p2, p3, p4, p5⟩ := pl_bounds hm
  have htd : de + (blen dx : Int) - 1 = t := by
    have h1 := D.pl_pos (d := ⟨neg, x, e⟩) h0
    rw [hd] at h1
    simp only [D.mk.injEq] at h1
    obtain ⟨_, h2, h3⟩ := h1
    have h4 := blen_div_tz h0
    rw [h2, h3, ← ht]
    omega
  have hdx : dx ≠ 0 := by
    have h1 := D.pl_pos (d := ⟨neg, x, e⟩) h0
    rw [hd] at h1
    simp only [D.mk.injEq] at h1
    have h3 := (tz_blen h0).2.2
    rw [← h1.2.1] at h3
    omega
  have hdl := (blen_pos hdx).2
  rw [hd] at p1 p2 p3 p4
  simp only at p1 p2 p3 p4
  clear p5
  have HM := Lib.hid hm
  have HD := Lib.hid hd
  have HL := Lib.hid (fun (V : World) => rlow_as hf low rfl V)
  have HW := Lib.hid (fun (V : World) => power_as W (E + 1) (by omega) hf.pW (W : Int) rfl V)
  have HP := Lib.hid (fun (V : World) => power_as (P - 1) M (by omega) hf.pP ((P : Int) - 1) (by omega) V)
  have q1 : IntKind.i64.wrap (low + (P : Int)) = low + (P : Int) := IntWalk.i64_in _ (by omega)
  have q2 : IntKind.i64.wrap (low + (P : Int) - 1) = low + (P : Int) - 1 := IntWalk.i64_in _ (by omega)
  have HYY := Lib.hid hy
  have HPB := Lib.hid (fun (V : World) => power_b (P - 1) M (by omega) hf.pP ((P : Int) - 1) (by omega) V)
  have q3 : IntKind.i64.wrap ((P : Int) - 1) = (P : Int) - 1 := IntWalk.i64_in _ (by omega)
  have d1 : decide (low + (P : Int) - 1 < t) = false := decide_eq_false hl
  have d2 : decide (E ≤ 1) = false := decide_eq_false (by omega)
  have d2' : decide ((E : Int) ≤ 1) = false := decide_eq_false (by omega)
  have d3 : decide (de < low) = false := decide_eq_false hk
  have hy64 : y < 18446744073709551616 := by omega
  have hMH : 2 * M ≤ H := by
    rw [← hf.hlf.1, Nat.mul_comm 2]; exact Nat.mul_le_mul_left _ (by omega)
  have d4 : decide (y < M) = false := decide_eq_false (by omega)
  obtain ⟨r, hr⟩ : ∃ r, y - M = r := ⟨_, rfl⟩
  have q4 : IntKind.u64.wrap ((y : Int) - (M : Int)) = (r : Int) := by rw [show (y : Int) - (M : Int) = ((r : Nat) : Int) by omega]; exact wrap64_nat r (by omega)
  have q5 : IntKind.u64.wrap 1 = 1 := rfl
  have HG := Lib.hid (fun (V : World) => build_one hf dn r v (by omega) (by rw [← hv]; congr 1; omega) V)
  clear hr
  clear hm hf b1 hd ht h0 hdx hl hk hy hyM hv hMH hy2
  go_enter Tryd.func35, Tryd.ntmps35
  go_wp2_with fail
  obtain ⟨V, hV, z0, z1, BW, sW⟩ := fframe2 w 29 43 (B : Int) (P : Int) (W : Int) neg A n c e
  rw [hV]
  clear hV sW
  replace h := h.on BW
  refine (rmay_any true h (by omega) HM.out).mono ?_
  rintro en w1 ⟨rfl, b⟩
  replace z0 := z0.on b
  replace z1 := z1.on b
  replace h := h.on b
  replace BW := Below.step BW b
  clear b
  obtain ⟨z0c0, z0c1, z0c2, z0f0, z0f1, z0f2, z0l⟩ := z0.cells
  obtain ⟨z1c0, z1c1, z1c2, z1f0, z1f1, z1f2, z1l⟩ := z1.cells
  go_wp2_with fail
  refine (rplain_any h (by omega) (by omega) (by omega) HD.out).mono ?_
  rintro en w2 ⟨V_rd, v_rd, c_rd, rfl, rd, b⟩
  clear z0c0 z0c1 z0c2 z0f0 z0f1 z0f2 z0l z1c0 z1c1 z1c2 z1f0 z1f1 z1f2 z1l
  replace z0 := z0.on b
  replace z1 := z1.on b
  replace h := h.on b
  replace BW := Below.step BW b
  clear b
  have hv := rd.size
  have d0 : ((v_rd : Int) == 0) = false := by simp; omega
  have qt : de + (v_rd : Int) - 1 = t := by rw [hv]; exact htd
  have hvl : v_rd ≤ 4096 := by omega
  clear hv htd
  obtain ⟨z0c0, z0c1, z0c2, z0f0, z0f1, z0f2, z0l⟩ := z0.cells
  obtain ⟨z1c0, z1c1, z1c2, z1f0, z1f1, z1f2, z1l⟩ := z1.cells
  go_wp2_with fail
  clear z0c0 z0c1 z0c2 z0f0 z0f1 z0f2 z0l z1c0 z1c1 z1c2 z1f0 z1f1 z1f2 z1l
  obtain ⟨w3, e_w3⟩ : ∃ w', w2.alloc (dob dn V_rd v_rd c_rd de 43) = w' := ⟨_, rfl⟩
  have b : Below w2.heap.size w2 w3 := e_w3 ▸ below_lit _ _
  have hs_w3 : w3.heap.size = w2.heap.size + 1 := e_w3 ▸ size_lit w2 _ rfl
  have zp : DB w3 w2.heap.size 43 dn V_rd v_rd c_rd de := e_w3 ▸ DB.made w2 rfl 43 dn V_rd v_rd c_rd de
  rw [e_w3]
  clear e_w3
  replace z0 := z0.on b
  replace z1 := z1.on b
  replace h := h.on b
  replace rd := rd.on b
  replace BW := Below.step BW b
  clear b
  replace z0 := z0.on ((Below.refl _ _).drew : Below w3.heap.size w3 w3.drew)
  replace z1 := z1.on ((Below.refl _ _).drew : Below w3.heap.size w3 w3.drew)
  replace h := h.on ((Below.refl _ _).drew : Below w3.heap.size w3 w3.drew)
  replace rd := rd.on ((Below.refl _ _).drew : Below w3.heap.size w3 w3.drew)
  replace zp := zp.on ((Below.refl _ _).drew : Below w3.heap.size w3 w3.drew)
  replace BW := Lib.hid (Below.step BW ((Below.refl _ _).drew : Below w3.heap.size w3 w3.drew))
  go_region_held3 (fun w' => w'.cell? ⟨w.heap.size, 0, none⟩ = some (.int .i64 (B : Int)) ∧ w'.cell? ⟨w.heap.size, 1, none⟩ = some (.int .i64 (P : Int)) ∧ w'.cell? ⟨w.heap.size, 2, none⟩ = some (.int .i64 (W : Int)))
    ((first | exact ⟨z0.cells.1, z0.cells.2.1, z0.cells.2.2.1⟩))
    (first
      | (go_at_call 17
         (with_reducible refine (HL.out _).mono ?_)
         rintro en w4 ⟨rfl, b⟩
         replace z0 := z0.on b
         replace z1 := z1.on b
         replace h := h.on b
         replace rd := rd.on b
         replace zp := zp.on b
         replace BW := Lib.hid (Below.step BW.out b)
         clear b))
  replace BW := BW.out
  go_wp2_with fail
  obtain ⟨z0c0, z0c1, z0c2, z0f0, z0f1, z0f2, z0l⟩ := z0.cells
  go_wp2_with fail
  refine (HW.out _).mono ?_
  rintro en w' ⟨rfl, rfl⟩
  go_wp2_with fail
  refine (HL.out _).mono ?_
  rintro en w5 ⟨rfl, b⟩
  clear z0c0 z0c1 z0c2 z0f0 z0f1 z0f2 z0l
  replace z0 := z0.on b
  replace z1 := z1.on b
  replace h := h.on b
  replace rd := rd.on b
  replace zp := zp.on b
  replace BW := Below.step BW b
  clear b
  obtain ⟨z0c0, z0c1, z0c2, z0f0, z0f1, z0f2, z0l⟩ := z0.cells
  obtain ⟨zpc0, zpc1, zpc2, zpf0, zpf1, zpf2, zpl⟩ := zp.cells
  go_wp2_with fail
  refine (rleft_as rd (by omega) i (by omega) HYY.out).mono ?_
  rintro en w6 ⟨V_rl, v_rl, c_rl, rfl, rl, b⟩
  clear z0c0 z0c1 z0c2 z0f0 z0f1 z0f2 z0l zpc0 zpc1 zpc2 zpf0 zpf1 zpf2 zpl
  replace z0 := z0.on b
  replace z1 := z1.on b
  replace h := h.on b
  replace rd := rd.on b
  replace zp := zp.on b
  replace BW := Below.step BW b
  clear b
  obtain ⟨z0c0, z0c1, z0c2, z0f0, z0f1, z0f2, z0l⟩ := z0.cells
  obtain ⟨zpc0, zpc1, zpc2, zpf0, zpf1, zpf2, zpl⟩ := zp.cells
  go_wp2_with fail
  refine (rfull_any rl hy64).mono ?_
  rintro en w' ⟨rfl, rfl⟩
  go_wp2_with fail
  refine (HP.out _).mono ?_
  rintro en w' ⟨rfl, rfl⟩
  go_wp2_with fail
  clear z0c0 z0c1 z0c2 z0f0 z0f1 z0f2 z0l zpc0 zpc1 zpc2 zpf0 zpf1 zpf2 zpl
  replace z0 := z0.on ((Below.refl _ _).drew : Below w6.heap.size w6 w6.drew)
  replace z1 := z1.on ((Below.refl _ _).drew : Below w6.heap.size w6 w6.drew)
  replace h := h.on ((Below.refl _ _).drew : Below w6.heap.size w6 w6.drew)
  replace rd := rd.on ((Below.refl _ _).drew : Below w6.heap.size w6 w6.drew)
  replace zp := zp.on ((Below.refl _ _).drew : Below w6.heap.size w6 w6.drew)
  replace rl := rl.on ((Below.refl _ _).drew : Below w6.heap.size w6 w6.drew)
  replace BW := Lib.hid (Below.step BW ((Below.refl _ _).drew : Below w6.heap.size w6 w6.drew))
  go_region_held3 (fun w' => w'.cell? ⟨w.heap.size, 0, none⟩ = some (.int .i64 (B : Int)) ∧ w'.cell? ⟨w.heap.size, 1, none⟩ = some (.int .i64 (P : Int)) ∧ w'.cell? ⟨w.heap.size, 2, none⟩ = some (.int .i64 (W : Int)) ∧ w'.cell? ⟨w2.heap.size, 0, none⟩ = some (.bool dn) ∧ w'.cell? ⟨w2.heap.size, 1, none⟩ = some (.slice V_rd v_rd c_rd) ∧ w'.cell? ⟨w2.heap.size, 2, none⟩ = some (.int .i64 de))
    ((first | exact ⟨z0.cells.1, z0.cells.2.1, z0.cells.2.2.1, zp.cells.1, zp.cells.2.1, zp.cells.2.2.1⟩))
    (first
      | (go_at_call 41
         (with_reducible refine (HPB.out _).mono ?_)
         rintro en w7 ⟨rfl, b⟩
         replace z0 := z0.on b
         replace z1 := z1.on b
         replace h := h.on b
         replace rd := rd.on b
         replace zp := zp.on b
         replace rl := rl.on b
         replace BW := Lib.hid (Below.step BW.out b)
         clear b)
      | (go_at_call 29
         (with_reducible refine (HG.out _).mono ?_)
         rintro en w8 ⟨rfl, b⟩
         replace z0 := z0.on b
         replace z1 := z1.on b
         replace h := h.on b
         replace rd := rd.on b
         replace zp := zp.on b
         replace rl := rl.on b
         replace BW := Lib.hid (Below.step BW.out b)
         clear b))
  replace BW := BW.out
  go_wp2_with fail
  refine bodyPost_ret (v := .tuple #[.int .u64 (v : Int), .int .i64 0]) (by simp [results, Tryd.results35, go_sem]) rfl ⟨rfl, BW⟩
set_option maxHeartbeats 1000000 in
theorem rput_over {B P W M E H : Nat} {low : Int} (hf : Fm B P W M E H low) {A : Option Addr} {n c x : Nat} {neg : Bool} {e : Int} {w : World} (h : BR w A n c x) (hs : n ≤ 100000) (hm : D.may ⟨neg, x, e⟩ = true) (h0 : x ≠ 0) {t : Int} (ht : (blen x : Int) - 1 + e = t) {dn : Bool} {dx : Nat} {de : Int} (hd : D.pl ⟨neg, x, e⟩ = ⟨dn, dx, de⟩) (hl : low + (P : Int) - 1 < t) {p : Int} {K : Nat} (hK : t - (low + (P : Int) - 1) + 1 = (K : Int)) (hp : low + (K : Int) - 1 = p) (hk : E ≤ K) :
    Calls Tryd.prog 35 #[.agg #[.int .i64 (B : Int), .int .i64 (P : Int), .int .i64 (W : Int)], .agg #[.bool neg, .slice A n c, .int .i64 e]] w fun en w' => en = .returned (.tuple #[.int .u64 0, .int .i64 10]) ∧ Below w.heap.size w w' := by
  obtain ⟨b1, b2, b3, b4, b5, b6, b7, b8, b9, b10, b11, b12, b13, b14, b15⟩ := hf.bd
  obtain ⟨m1, m2, m3⟩ := (D.may_iff _).1 hm
  simp only at m1 m2 m3
  obtain ⟨p1, p2, p3, p4, p5⟩ := pl_bounds hm
  have htd : de + (blen dx : Int) - 1 = t := by
    have h1 := D.pl_pos (d := ⟨neg, x, e⟩) h0
    rw [hd] at h1
    simp only [D.mk.injEq] at h1
    obtain ⟨_, h2, h3⟩ := h1
    have h4 := blen_div_tz h0
    rw [h2, h3, ← ht]
    omega
  have hdx : dx ≠ 0 := by
    have h1 := D.pl_pos (d := ⟨neg, x, e⟩) h0
    rw [hd] at h1
    simp only [D.mk.injEq] at h1
    have h3 := (tz_blen h0).2.2
    rw [← h1.2.1] at h3
    omega
  have hdl := (blen_pos hdx).2
  rw [hd] at p1 p2 p3 p4
  simp only at p1 p2 p3 p4
  clear p5
  have HM := Lib.hid hm
  have HD := Lib.hid hd
  have HL := Lib.hid (fun (V : World) => rlow_as hf low rfl V)
  have HW := Lib.hid (fun (V : World) => power_as W (E + 1) (by omega) hf.pW (W : Int) rfl V)
  have HP := Lib.hid (fun (V : World) => power_as (P - 1) M (by omega) hf.pP ((P : Int) - 1) (by omega) V)
  have q1 : IntKind.i64.wrap (low + (P : Int)) = low + (P : Int) := IntWalk.i64_in _ (by omega)
  have q2 : IntKind.i64.wrap (low + (P : Int) - 1) = low + (P : Int) - 1 := IntWalk.i64_in _ (by omega)
  have d1 : decide (low + (P : Int) - 1 < t) = true := decide_eq_true hl
  have hK2 : K ≤ 20000 := by omega
  have hK3 : 1 ≤ K := by omega
  have k1 : IntKind.i64.wrap (t - (low + (P : Int) - 1)) = t - (low + (P : Int) - 1) := IntWalk.i64_in _ (by omega)
  have k2 : IntKind.i64.wrap (t - (low + (P : Int) - 1) + 1) = (K : Int) := by rw [IntWalk.i64_in _ (by omega)]; exact hK
  have d2 : decide (E ≤ K) = true := decide_eq_true hk
  have d2' : decide ((E : Int) ≤ (K : Int)) = true := decide_eq_true (by omega)
  clear hp hk
  clear hm hf b1 hd ht h0 hdx hl hK
  go_enter Tryd.func35, Tryd.ntmps35
  go_wp2_with fail
  obtain ⟨V, hV, z0, z1, BW, sW⟩ := fframe2 w 29 43 (B : Int) (P : Int) (W : Int) neg A n c e
  rw [hV]
  clear hV sW
  replace h := h.on BW
  refine (rmay_any true h (by omega) HM.out).mono ?_
  rintro en w1 ⟨rfl, b⟩
  replace z0 := z0.on b
  replace z1 := z1.on b
  replace h := h.on b
  replace BW := Below.step BW b
  clear b
  obtain ⟨z0c0, z0c1, z0c2, z0f0, z0f1, z0f2, z0l⟩ := z0.cells
  obtain ⟨z1c0, z1c1, z1c2, z1f0, z1f1, z1f2, z1l⟩ := z1.cells
  go_wp2_with fail
  refine (rplain_any h (by omega) (by omega) (by omega) HD.out).mono ?_
  rintro en w2 ⟨V_rd, v_rd, c_rd, rfl, rd, b⟩
  clear z0c0 z0c1 z0c2 z0f0 z0f1 z0f2 z0l z1c0 z1c1 z1c2 z1f0 z1f1 z1f2 z1l
  replace z0 := z0.on b
  replace z1 := z1.on b
  replace h := h.on b
  replace BW := Below.step BW b
  clear b
  have hv := rd.size
  have d0 : ((v_rd : Int) == 0) = false := by simp; omega
  have qt : de + (v_rd : Int) - 1 = t := by rw [hv]; exact htd
  have hvl : v_rd ≤ 4096 := by omega
  clear hv htd
  obtain ⟨z0c0, z0c1, z0c2, z0f0, z0f1, z0f2, z0l⟩ := z0.cells
  obtain ⟨z1c0, z1c1, z1c2, z1f0, z1f1, z1f2, z1l⟩ := z1.cells
  go_wp2_with fail
  clear z0c0 z0c1 z0c2 z0f0 z0f1 z0f2 z0l z1c0 z1c1 z1c2 z1f0 z1f1 z1f2 z1l
  obtain ⟨w3, e_w3⟩ : ∃ w', w2.alloc (dob dn V_rd v_rd c_rd de 43) = w' := ⟨_, rfl⟩
  have b : Below w2.heap.size w2 w3 := e_w3 ▸ below_lit _ _
  have hs_w3 : w3.heap.size = w2.heap.size + 1 := e_w3 ▸ size_lit w2 _ rfl
  have zp : DB w3 w2.heap.size 43 dn V_rd v_rd c_rd de := e_w3 ▸ DB.made w2 rfl 43 dn V_rd v_rd c_rd de
  rw [e_w3]
  clear e_w3
  replace z0 := z0.on b
  replace z1 := z1.on b
  replace h := h.on b
  replace rd := rd.on b
  replace BW := Below.step BW b
  clear b
  replace z0 := z0.on ((Below.refl _ _).drew : Below w3.heap.size w3 w3.drew)
  replace z1 := z1.on ((Below.refl _ _).drew : Below w3.heap.size w3 w3.drew)
  replace h := h.on ((Below.refl _ _).drew : Below w3.heap.size w3 w3.drew)
  replace rd := rd.on ((Below.refl _ _).drew : Below w3.heap.size w3 w3.drew)
  replace zp := zp.on ((Below.refl _ _).drew : Below w3.heap.size w3 w3.drew)
  replace BW := Lib.hid (Below.step BW ((Below.refl _ _).drew : Below w3.heap.size w3 w3.drew))
  go_region_held3 (fun w' => w'.cell? ⟨w.heap.size, 0, none⟩ = some (.int .i64 (B : Int)) ∧ w'.cell? ⟨w.heap.size, 1, none⟩ = some (.int .i64 (P : Int)) ∧ w'.cell? ⟨w.heap.size, 2, none⟩ = some (.int .i64 (W : Int)))
    ((first | exact ⟨z0.cells.1, z0.cells.2.1, z0.cells.2.2.1⟩))
    (first
      | (go_at_call 17
         (with_reducible refine (HL.out _).mono ?_)
         rintro en w4 ⟨rfl, b⟩
         replace z0 := z0.on b
         replace z1 := z1.on b
         replace h := h.on b
         replace rd := rd.on b
         replace zp := zp.on b
         replace BW := Lib.hid (Below.step BW.out b)
         clear b))
  replace BW := BW.out
  go_wp2_with fail
  replace z0 := z0.on ((Below.refl _ _).drew : Below w4.heap.size w4 w4.drew)
  replace z1 := z1.on ((Below.refl _ _).drew : Below w4.heap.size w4 w4.drew)
  replace h := h.on ((Below.refl _ _).drew : Below w4.heap.size w4 w4.drew)
  replace rd := rd.on ((Below.refl _ _).drew : Below w4.heap.size w4 w4.drew)
  replace zp := zp.on ((Below.refl _ _).drew : Below w4.heap.size w4 w4.drew)
  replace BW := Lib.hid (Below.step BW ((Below.refl _ _).drew : Below w4.heap.size w4 w4.drew))
  go_region_held3 (fun w' => w'.cell? ⟨w.heap.size, 0, none⟩ = some (.int .i64 (B : Int)) ∧ w'.cell? ⟨w.heap.size, 1, none⟩ = some (.int .i64 (P : Int)) ∧ w'.cell? ⟨w.heap.size, 2, none⟩ = some (.int .i64 (W : Int)))
    ((first | exact ⟨z0.cells.1, z0.cells.2.1, z0.cells.2.2.1⟩))
    (first
      | (go_at_call 17
         (with_reducible refine (HL.out _).mono ?_)
         rintro en w5 ⟨rfl, b⟩
         replace z0 := z0.on b
         replace z1 := z1.on b
         replace h := h.on b
         replace rd := rd.on b
         replace zp := zp.on b
         replace BW := Lib.hid (Below.step BW.out b)
         clear b))
  replace BW := BW.out
  obtain ⟨z0c0, z0c1, z0c2, z0f0, z0f1, z0f2, z0l⟩ := z0.cells
  go_wp2_with fail
  refine (HW.out _).mono ?_
  rintro en w' ⟨rfl, rfl⟩
  go_wp2_with fail
  refine bodyPost_ret (v := .tuple #[.int .u64 0, .int .i64 10]) (by simp [results, Tryd.results35, go_sem]) rfl ⟨rfl, BW⟩
set_option maxHeartbeats 1000000 in
theorem rput_high_none {B P W M E H : Nat} {low : Int} (hf : Fm B P W M E H low) {A : Option Addr} {n c x : Nat} {neg : Bool} {e : Int} {w : World} (h : BR w A n c x) (hs : n ≤ 100000) (hm : D.may ⟨neg, x, e⟩ = true) (h0 : x ≠ 0) {t : Int} (ht : (blen x : Int) - 1 + e = t) {dn : Bool} {dx : Nat} {de : Int} (hd : D.pl ⟨neg, x, e⟩ = ⟨dn, dx, de⟩) (hl : low + (P : Int) - 1 < t) {p : Int} {K : Nat} (hK : t - (low + (P : Int) - 1) + 1 = (K : Int)) (hp : low + (K : Int) - 1 = p) (hk : ¬ E ≤ K) (hk2 : de < p) :
    Calls Tryd.prog 35 #[.agg #[.int .i64 (B : Int), .int .i64 (P : Int), .int .i64 (W : Int)], .agg #[.bool neg, .slice A n c, .int .i64 e]] w fun en w' => en = .returned (.tuple #[.int .u64 0, .int .i64 10]) ∧ Below w.heap.size w w' := by
  obtain ⟨b1, b2, b3, b4, b5, b6, b7, b8, b9, b10, b11, b12, b13, b14, b15⟩ := hf.bd
  obtain ⟨m1, m2, m3⟩ := (D.may_iff _).1 hm
  simp only at m1 m2 m3
  obtain ⟨p1, p2, p3, p4, p5⟩ := pl_bounds hm
  have htd : de + (blen dx : Int) - 1 = t := by
    have h1 := D.pl_pos (d := ⟨neg, x, e⟩) h0
    rw [hd] at h1
    simp only [D.mk.injEq] at h1
    obtain ⟨_, h2, h3⟩ := h1
    have h4 := blen_div_tz h0
    rw [h2, h3, ← ht]
    omega
  have hdx : dx ≠ 0 := by
    have h1 := D.pl_pos (d := ⟨neg, x, e⟩) h0
    rw [hd] at h1
    simp only [D.mk.injEq] at h1
    have h3 := (tz_blen h0).2.2
    rw [← h1.2.1] at h3
    omega
  have hdl := (blen_pos hdx).2
  rw [hd] at p1 p2 p3 p4
  simp only at p1 p2 p3 p4
  clear p5
  have HM := Lib.hid hm
  have HD := Lib.hid hd
  have HL := Lib.hid (fun (V : World) => rlow_as hf low rfl V)
  have HW := Lib.hid (fun (V : World) => power_as W (E + 1) (by omega) hf.pW (W : Int) rfl V)
  have HP := Lib.hid (fun (V : World) => power_as (P - 1) M (by omega) hf.pP ((P : Int) - 1) (by omega) V)
  have q1 : IntKind.i64.wrap (low + (P : Int)) = low + (P : Int) := IntWalk.i64_in _ (by omega)
  have q2 : IntKind.i64.wrap (low + (P : Int) - 1) = low + (P : Int) - 1 := IntWalk.i64_in _ (by omega)
  have d1 : decide (low + (P : Int) - 1 < t) = true := decide_eq_true hl
  have hK2 : K ≤ 20000 := by omega
  have hK3 : 1 ≤ K := by omega
  have k1 : IntKind.i64.wrap (t - (low + (P : Int) - 1)) = t - (low + (P : Int) - 1) := IntWalk.i64_in _ (by omega)
  have k2 : IntKind.i64.wrap (t - (low + (P : Int) - 1) + 1) = (K : Int) := by rw [IntWalk.i64_in _ (by omega)]; exact hK
  have d2 : decide (E ≤ K) = false := decide_eq_false hk
  have d2' : decide ((E : Int) ≤ (K : Int)) = false := decide_eq_false (by omega)
  have d3 : decide (de < p) = true := decide_eq_true hk2
  clear hk hk2
  clear hm hf b1 hd ht h0 hdx hl hK
  go_enter Tryd.func35, Tryd.ntmps35
  go_wp2_with fail
  obtain ⟨V, hV, z0, z1, BW, sW⟩ := fframe2 w 29 43 (B : Int) (P : Int) (W : Int) neg A n c e
  rw [hV]
  clear hV sW
  replace h := h.on BW
  refine (rmay_any true h (by omega) HM.out).mono ?_
  rintro en w1 ⟨rfl, b⟩
  replace z0 := z0.on b
  replace z1 := z1.on b
  replace h := h.on b
  replace BW := Below.step BW b
  clear b
  obtain ⟨z0c0, z0c1, z0c2, z0f0, z0f1, z0f2, z0l⟩ := z0.cells
  obtain ⟨z1c0, z1c1, z1c2, z1f0, z1f1, z1f2, z1l⟩ := z1.cells
  go_wp2_with fail
  refine (rplain_any h (by omega) (by omega) (by omega) HD.out).mono ?_
  rintro en w2 ⟨V_rd, v_rd, c_rd, rfl, rd, b⟩
  clear z0c0 z0c1 z0c2 z0f0 z0f1 z0f2 z0l z1c0 z1c1 z1c2 z1f0 z1f1 z1f2 z1l
  replace z0 := z0.on b
  replace z1 := z1.on b
  replace h := h.on b
  replace BW := Below.step BW b
  clear b
  have hv := rd.size
  have d0 : ((v_rd : Int) == 0) = false := by simp; omega
  have qt : de + (v_rd : Int) - 1 = t := by rw [hv]; exact htd
  have hvl : v_rd ≤ 4096 := by omega
  clear hv htd
  obtain ⟨z0c0, z0c1, z0c2, z0f0, z0f1, z0f2, z0l⟩ := z0.cells
  obtain ⟨z1c0, z1c1, z1c2, z1f0, z1f1, z1f2, z1l⟩ := z1.cells
  go_wp2_with fail
  clear z0c0 z0c1 z0c2 z0f0 z0f1 z0f2 z0l z1c0 z1c1 z1c2 z1f0 z1f1 z1f2 z1l
  obtain ⟨w3, e_w3⟩ : ∃ w', w2.alloc (dob dn V_rd v_rd c_rd de 43) = w' := ⟨_, rfl⟩
  have b : Below w2.heap.size w2 w3 := e_w3 ▸ below_lit _ _
  have hs_w3 : w3.heap.size = w2.heap.size + 1 := e_w3 ▸ size_lit w2 _ rfl
  have zp : DB w3 w2.heap.size 43 dn V_rd v_rd c_rd de := e_w3 ▸ DB.made w2 rfl 43 dn V_rd v_rd c_rd de
  rw [e_w3]
  clear e_w3
  replace z0 := z0.on b
  replace z1 := z1.on b
  replace h := h.on b
  replace rd := rd.on b
  replace BW := Below.step BW b
  clear b
  replace z0 := z0.on ((Below.refl _ _).drew : Below w3.heap.size w3 w3.drew)
  replace z1 := z1.on ((Below.refl _ _).drew : Below w3.heap.size w3 w3.drew)
  replace h := h.on ((Below.refl _ _).drew : Below w3.heap.size w3 w3.drew)
  replace rd := rd.on ((Below.refl _ _).drew : Below w3.heap.size w3 w3.drew)
  replace zp := zp.on ((Below.refl _ _).drew : Below w3.heap.size w3 w3.drew)
  replace BW := Lib.hid (Below.step BW ((Below.refl _ _).drew : Below w3.heap.size w3 w3.drew))
  go_region_held3 (fun w' => w'.cell? ⟨w.heap.size, 0, none⟩ = some (.int .i64 (B : Int)) ∧ w'.cell? ⟨w.heap.size, 1, none⟩ = some (.int .i64 (P : Int)) ∧ w'.cell? ⟨w.heap.size, 2, none⟩ = some (.int .i64 (W : Int)))
    ((first | exact ⟨z0.cells.1, z0.cells.2.1, z0.cells.2.2.1⟩))
    (first
      | (go_at_call 17
         (with_reducible refine (HL.out _).mono ?_)
         rintro en w4 ⟨rfl, b⟩
         replace z0 := z0.on b
         replace z1 := z1.on b
         replace h := h.on b
         replace rd := rd.on b
         replace zp := zp.on b
         replace BW := Lib.hid (Below.step BW.out b)
         clear b))
  replace BW := BW.out
  go_wp2_with fail
  replace z0 := z0.on ((Below.refl _ _).drew : Below w4.heap.size w4 w4.drew)
  replace z1 := z1.on ((Below.refl _ _).drew : Below w4.heap.size w4 w4.drew)
  replace h := h.on ((Below.refl _ _).drew : Below w4.heap.size w4 w4.drew)
  replace rd := rd.on ((Below.refl _ _).drew : Below w4.heap.size w4 w4.drew)
  replace zp := zp.on ((Below.refl _ _).drew : Below w4.heap.size w4 w4.drew)
  replace BW := Lib.hid (Below.step BW ((Below.refl _ _).drew : Below w4.heap.size w4 w4.drew))
  go_region_held3 (fun w' => w'.cell? ⟨w.heap.size, 0, none⟩ = some (.int .i64 (B : Int)) ∧ w'.cell? ⟨w.heap.size, 1, none⟩ = some (.int .i64 (P : Int)) ∧ w'.cell? ⟨w.heap.size, 2, none⟩ = some (.int .i64 (W : Int)))
    ((first | exact ⟨z0.cells.1, z0.cells.2.1, z0.cells.2.2.1⟩))
    (first
      | (go_at_call 17
         (with_reducible refine (HL.out _).mono ?_)
         rintro en w5 ⟨rfl, b⟩
         replace z0 := z0.on b
         replace z1 := z1.on b
         replace h := h.on b
         replace rd := rd.on b
         replace zp := zp.on b
         replace BW := Lib.hid (Below.step BW.out b)
         clear b))
  replace BW := BW.out
  obtain ⟨z0c0, z0c1, z0c2, z0f0, z0f1, z0f2, z0l⟩ := z0.cells
  go_wp2_with fail
  refine (HW.out _).mono ?_
  rintro en w' ⟨rfl, rfl⟩
  go_wp2_with fail
  refine (HL.out _).mono ?_
  rintro en w6 ⟨rfl, b⟩
  clear z0c0 z0c1 z0c2 z0f0 z0f1 z0f2 z0l
  replace z0 := z0.on b
  replace z1 := z1.on b
  replace h := h.on b
  replace rd := rd.on b
  replace zp := zp.on b
  replace BW := Below.step BW b
  clear b
  obtain ⟨z0c0, z0c1, z0c2, z0f0, z0f1, z0f2, z0l⟩ := z0.cells
  obtain ⟨zpc0, zpc1, zpc2, zpf0, zpf1, zpf2, zpl⟩ := zp.cells
  go_wp2_with fail
  refine bodyPost_ret (v := .tuple #[.int .u64 0, .int .i64 10]) (by simp [results, Tryd.results35, go_sem]) rfl ⟨rfl, BW⟩
set_option maxHeartbeats 1000000 in
theorem rput_high {B P W M E H : Nat} {low : Int} (hf : Fm B P W M E H low) {A : Option Addr} {n c x : Nat} {neg : Bool} {e : Int} {w : World} (h : BR w A n c x) (hs : n ≤ 100000) (hm : D.may ⟨neg, x, e⟩ = true) (h0 : x ≠ 0) {t : Int} (ht : (blen x : Int) - 1 + e = t) {dn : Bool} {dx : Nat} {de : Int} (hd : D.pl ⟨neg, x, e⟩ = ⟨dn, dx, de⟩) (hl : low + (P : Int) - 1 < t) {p : Int} {K : Nat} (hK : t - (low + (P : Int) - 1) + 1 = (K : Int)) (hp : low + (K : Int) - 1 = p) (hk : ¬ E ≤ K) (hk2 : ¬ de < p) {i y v : Nat} (hi : de - p = (i : Int)) (hy : dx * 2 ^ i = y) (hyM : M ≤ y) (hy2 : y < 2 * M) (hv : sgn H dn ((K - 1) * M + y) = v) :
    Calls Tryd.prog 35 #[.agg #[.int .i64 (B : Int), .int .i64 (P : Int), .int .i64 (W : Int)], .agg #[.bool neg, .slice A n c, .int .i64 e]] w fun en w' => en = .returned (.tuple #[.int .u64 (v : Int), .int .i64 0]) ∧ Below w.heap.size w w' := by
  obtain ⟨b1, b2, b3, b4, b5, b6, b7, b8, b9, b10, b11, b12, b13, b14, b15⟩ := hf.bd
  obtain ⟨m1, m2, m3⟩ := (D.may_iff _).1 hm
  simp only at m1 m2 m3
  obtain ⟨p1, p2, p3, p4, p5⟩ := pl_bounds hm
  have htd : de + (blen dx : Int) - 1 = t := by
    have h1 := D.pl_pos (d := ⟨neg, x, e⟩) h0
    rw [hd] at h1
    simp only [D.mk.injEq] at h1
    obtain ⟨_, h2, h3⟩ := h1
    have h4 := blen_div_tz h0
    rw [h2, h3, ← ht]
    omega
  have hdx : dx ≠ 0 := by
    have h1 := D.pl_pos (d := ⟨neg, x, e⟩) h0
    rw [hd] at h1
    simp only [D.mk.injEq] at h1
    have h3 := (tz_blen h0).2.2
    rw [← h1.2.1] at h3
    omega
  have hdl := (blen_pos hdx).2
  rw [hd] at p1 p2 p3 p4
  simp only at p1 p2 p3 p4
  clear p5
  have HM := Lib.hid hm
  have HD := Lib.hid hd
  have HL := Lib.hid (fun (V : World) => rlow_as hf low rfl V)
  have HW := Lib.hid (fun (V : World) => power_as W (E + 1) (by omega) hf.pW (W : Int) rfl V)
  have HP := Lib.hid (fun (V : World) => power_as (P - 1) M (by omega) hf.pP ((P : Int) - 1) (by omega) V)
  have q1 : IntKind.i64.wrap (low + (P : Int)) = low + (P : Int) := IntWalk.i64_in _ (by omega)
  have q2 : IntKind.i64.wrap (low + (P : Int) - 1) = low + (P : Int) - 1 := IntWalk.i64_in _ (by omega)
  have d1 : decide (low + (P : Int) - 1 < t) = true := decide_eq_true hl
  have hK2 : K ≤ 20000 := by omega
  have hK3 : 1 ≤ K := by omega
  have k1 : IntKind.i64.wrap (t - (low + (P : Int) - 1)) = t - (low + (P : Int) - 1) := IntWalk.i64_in _ (by omega)
  have k2 : IntKind.i64.wrap (t - (low + (P : Int) - 1) + 1) = (K : Int) := by rw [IntWalk.i64_in _ (by omega)]; exact hK
  have d2 : decide (E ≤ K) = false := decide_eq_false hk
  have d2' : decide ((E : Int) ≤ (K : Int)) = false := decide_eq_false (by omega)
  have HYY := Lib.hid hy
  have HPB := Lib.hid (fun (V : World) => power_b (P - 1) M (by omega) hf.pP ((P : Int) - 1) (by omega) V)
  have q3 : IntKind.i64.wrap ((P : Int) - 1) = (P : Int) - 1 := IntWalk.i64_in _ (by omega)
  have d3 : decide (de < p) = false := decide_eq_false hk2
  have hy64 : y < 18446744073709551616 := by omega
  have d4 : decide (y < M) = false := decide_eq_false (by omega)
  obtain ⟨r, hr⟩ : ∃ r, y - M = r := ⟨_, rfl⟩
  have q4 : IntKind.u64.wrap ((y : Int) - (M : Int)) = (r : Int) := by rw [show (y : Int) - (M : Int) = ((r : Nat) : Int) by omega]; exact wrap64_nat r (by omega)
  have q5 : IntKind.u64.wrap (K : Int) = (K : Int) := wrap64_nat K (by omega)
  have e1 : K * M + M ≤ H := by
    rw [← hf.hlf.1, Nat.mul_comm M]
    have h1 : (K + 1) * M ≤ (E + 1) * M := Nat.mul_le_mul_right _ (by omega)
    rw [Nat.add_mul K 1, Nat.one_mul] at h1
    exact h1
  have e2 : (K - 1) * M + M = K * M := by rw [show K * M = (K - 1 + 1) * M by congr 1; omega, Nat.add_mul, Nat.one_mul]
  have HG := Lib.hid (fun (V : World) => build_as hf dn K r v (by omega) (by rw [← hv]; congr 1; omega) V)
  clear hr hk hk2 hy hyM hy2 hv e1 e2
  clear hm hf b1 hd ht h0 hdx hl hK
  go_enter Tryd.func35, Tryd.ntmps35
  go_wp2_with fail
  obtain ⟨V, hV, z0, z1, BW, sW⟩ := fframe2 w 29 43 (B : Int) (P : Int) (W : Int) neg A n c e
  rw [hV]
  clear hV sW
  replace h := h.on BW
  refine (rmay_any true h (by omega) HM.out).mono ?_
  rintro en w1 ⟨rfl, b⟩
  replace z0 := z0.on b
  replace z1 := z1.on b
  replace h := h.on b
  replace BW := Below.step BW b
  clear b
  obtain ⟨z0c0, z0c1, z0c2, z0f0, z0f1, z0f2, z0l⟩ := z0.cells
  obtain ⟨z1c0, z1c1, z1c2, z1f0, z1f1, z1f2, z1l⟩ := z1.cells
  go_wp2_with fail
  refine (rplain_any h (by omega) (by omega) (by omega) HD.out).mono ?_
  rintro en w2 ⟨V_rd, v_rd, c_rd, rfl, rd, b⟩
  clear z0c0 z0c1 z0c2 z0f0 z0f1 z0f2 z0l z1c0 z1c1 z1c2 z1f0 z1f1 z1f2 z1l
  replace z0 := z0.on b
  replace z1 := z1.on b
  replace h := h.on b
  replace BW := Below.step BW b
  clear b
  have hv := rd.size
  have d0 : ((v_rd : Int) == 0) = false := by simp; omega
  have qt : de + (v_rd : Int) - 1 = t := by rw [hv]; exact htd
  have hvl : v_rd ≤ 4096 := by omega
  clear hv htd
  obtain ⟨z0c0, z0c1, z0c2, z0f0, z0f1, z0f2, z0l⟩ := z0.cells
  obtain ⟨z1c0, z1c1, z1c2, z1f0, z1f1, z1f2, z1l⟩ := z1.cells
  go_wp2_with fail
  clear z0c0 z0c1 z0c2 z0f0 z0f1 z0f2 z0l z1c0 z1c1 z1c2 z1f0 z1f1 z1f2 z1l
  obtain ⟨w3, e_w3⟩ : ∃ w', w2.alloc (dob dn V_rd v_rd c_rd de 43) = w' := ⟨_, rfl⟩
  have b : Below w2.heap.size w2 w3 := e_w3 ▸ below_lit _ _
  have hs_w3 : w3.heap.size = w2.heap.size + 1 := e_w3 ▸ size_lit w2 _ rfl
  have zp : DB w3 w2.heap.size 43 dn V_rd v_rd c_rd de := e_w3 ▸ DB.made w2 rfl 43 dn V_rd v_rd c_rd de
  rw [e_w3]
  clear e_w3
  replace z0 := z0.on b
  replace z1 := z1.on b
  replace h := h.on b
  replace rd := rd.on b
  replace BW := Below.step BW b
  clear b
  replace z0 := z0.on ((Below.refl _ _).drew : Below w3.heap.size w3 w3.drew)
  replace z1 := z1.on ((Below.refl _ _).drew : Below w3.heap.size w3 w3.drew)
  replace h := h.on ((Below.refl _ _).drew : Below w3.heap.size w3 w3.drew)
  replace rd := rd.on ((Below.refl _ _).drew : Below w3.heap.size w3 w3.drew)
  replace zp := zp.on ((Below.refl _ _).drew : Below w3.heap.size w3 w3.drew)
  replace BW := Lib.hid (Below.step BW ((Below.refl _ _).drew : Below w3.heap.size w3 w3.drew))
  go_region_held3 (fun w' => w'.cell? ⟨w.heap.size, 0, none⟩ = some (.int .i64 (B : Int)) ∧ w'.cell? ⟨w.heap.size, 1, none⟩ = some (.int .i64 (P : Int)) ∧ w'.cell? ⟨w.heap.size, 2, none⟩ = some (.int .i64 (W : Int)))
    ((first | exact ⟨z0.cells.1, z0.cells.2.1, z0.cells.2.2.1⟩))
    (first
      | (go_at_call 17
         (with_reducible refine (HL.out _).mono ?_)
         rintro en w4 ⟨rfl, b⟩
         replace z0 := z0.on b
         replace z1 := z1.on b
         replace h := h.on b
         replace rd := rd.on b
         replace zp := zp.on b
         replace BW := Lib.hid (Below.step BW.out b)
         clear b))
  replace BW := BW.out
  go_wp2_with fail
  replace z0 := z0.on ((Below.refl _ _).drew : Below w4.heap.size w4 w4.drew)
  replace z1 := z1.on ((Below.refl _ _).drew : Below w4.heap.size w4 w4.drew)
  replace h := h.on ((Below.refl _ _).drew : Below w4.heap.size w4 w4.drew)
  replace rd := rd.on ((Below.refl _ _).drew : Below w4.heap.size w4 w4.drew)
  replace zp := zp.on ((Below.refl _ _).drew : Below w4.heap.size w4 w4.drew)
  replace BW := Lib.hid (Below.step BW ((Below.refl _ _).drew : Below w4.heap.size w4 w4.drew))
  go_region_held3 (fun w' => w'.cell? ⟨w.heap.size, 0, none⟩ = some (.int .i64 (B : Int)) ∧ w'.cell? ⟨w.heap.size, 1, none⟩ = some (.int .i64 (P : Int)) ∧ w'.cell? ⟨w.heap.size, 2, none⟩ = some (.int .i64 (W : Int)))
    ((first | exact ⟨z0.cells.1, z0.cells.2.1, z0.cells.2.2.1⟩))
    (first
      | (go_at_call 17
         (with_reducible refine (HL.out _).mono ?_)
         rintro en w5 ⟨rfl, b⟩
         replace z0 := z0.on b
         replace z1 := z1.on b
         replace h := h.on b
         replace rd := rd.on b
         replace zp := zp.on b
         replace BW := Lib.hid (Below.step BW.out b)
         clear b))
  replace BW := BW.out
  obtain ⟨z0c0, z0c1, z0c2, z0f0, z0f1, z0f2, z0l⟩ := z0.cells
  go_wp2_with fail
  refine (HW.out _).mono ?_
  rintro en w' ⟨rfl, rfl⟩
  go_wp2_with fail
  refine (HL.out _).mono ?_
  rintro en w6 ⟨rfl, b⟩
  clear z0c0 z0c1 z0c2 z0f0 z0f1 z0f2 z0l
  replace z0 := z0.on b
  replace z1 := z1.on b
  replace h := h.on b
  replace rd := rd.on b
  replace zp := zp.on b
  replace BW := Below.step BW b
  clear b
  obtain ⟨z0c0, z0c1, z0c2, z0f0, z0f1, z0f2, z0l⟩ := z0.cells
  obtain ⟨zpc0, zpc1, zpc2, zpf0, zpf1, zpf2, zpl⟩ := zp.cells
  go_wp2_with fail
  refine (rleft_as rd (by omega) i (by omega) HYY.out).mono ?_
  rintro en w7 ⟨V_rl, v_rl, c_rl, rfl, rl, b⟩
  clear z0c0 z0c1 z0c2 z0f0 z0f1 z0f2 z0l zpc0 zpc1 zpc2 zpf0 zpf1 zpf2 zpl
  replace z0 := z0.on b
  replace z1 := z1.on b
  replace h := h.on b
  replace rd := rd.on b
  replace zp := zp.on b
  replace BW := Below.step BW b
  clear b
  obtain ⟨z0c0, z0c1, z0c2, z0f0, z0f1, z0f2, z0l⟩ := z0.cells
  obtain ⟨zpc0, zpc1, zpc2, zpf0, zpf1, zpf2, zpl⟩ := zp.cells
  go_wp2_with fail
  refine (rfull_any rl hy64).mono ?_
  rintro en w' ⟨rfl, rfl⟩
  go_wp2_with fail
  refine (HP.out _).mono ?_
  rintro en w' ⟨rfl, rfl⟩
  go_wp2_with fail
  clear z0c0 z0c1 z0c2 z0f0 z0f1 z0f2 z0l zpc0 zpc1 zpc2 zpf0 zpf1 zpf2 zpl
  replace z0 := z0.on ((Below.refl _ _).drew : Below w7.heap.size w7 w7.drew)
  replace z1 := z1.on ((Below.refl _ _).drew : Below w7.heap.size w7 w7.drew)
  replace h := h.on ((Below.refl _ _).drew : Below w7.heap.size w7 w7.drew)
  replace rd := rd.on ((Below.refl _ _).drew : Below w7.heap.size w7 w7.drew)
  replace zp := zp.on ((Below.refl _ _).drew : Below w7.heap.size w7 w7.drew)
  replace rl := rl.on ((Below.refl _ _).drew : Below w7.heap.size w7 w7.drew)
  replace BW := Lib.hid (Below.step BW ((Below.refl _ _).drew : Below w7.heap.size w7 w7.drew))
  go_region_held3 (fun w' => w'.cell? ⟨w.heap.size, 0, none⟩ = some (.int .i64 (B : Int)) ∧ w'.cell? ⟨w.heap.size, 1, none⟩ = some (.int .i64 (P : Int)) ∧ w'.cell? ⟨w.heap.size, 2, none⟩ = some (.int .i64 (W : Int)) ∧ w'.cell? ⟨w2.heap.size, 0, none⟩ = some (.bool dn) ∧ w'.cell? ⟨w2.heap.size, 1, none⟩ = some (.slice V_rd v_rd c_rd) ∧ w'.cell? ⟨w2.heap.size, 2, none⟩ = some (.int .i64 de))
    ((first | exact ⟨z0.cells.1, z0.cells.2.1, z0.cells.2.2.1, zp.cells.1, zp.cells.2.1, zp.cells.2.2.1⟩))
    (first
      | (go_at_call 41
         (with_reducible refine (HPB.out _).mono ?_)
         rintro en w8 ⟨rfl, b⟩
         replace z0 := z0.on b
         replace z1 := z1.on b
         replace h := h.on b
         replace rd := rd.on b
         replace zp := zp.on b
         replace rl := rl.on b
         replace BW := Lib.hid (Below.step BW.out b)
         clear b)
      | (go_at_call 29
         (with_reducible refine (HG.out _).mono ?_)
         rintro en w9 ⟨rfl, b⟩
         replace z0 := z0.on b
         replace z1 := z1.on b
         replace h := h.on b
         replace rd := rd.on b
         replace zp := zp.on b
         replace rl := rl.on b
         replace BW := Lib.hid (Below.step BW.out b)
         clear b))
  replace BW := BW.out
  go_wp2_with fail
  refine bodyPost_ret (v := .tuple #[.int .u64 (v : Int), .int .i64 0]) (by simp [results, Tryd.results35, go_sem]) rfl ⟨rfl, BW⟩
theorem shifted_lt {B P W M E H : Nat} {low : Int} (hf : Fm B P W M E H low) {dx i : Nat} (h : blen dx + i ≤ P) : dx * 2 ^ i < 2 * M := by
  obtain ⟨_, b2, _⟩ := hf.bd
  rw [← hf.pP, Nat.mul_comm 2, ← Nat.pow_succ, show (P - 1).succ = P by omega]
  have h1 := (blen_le dx (blen dx)).1 (Nat.le_refl _)
  have h2 : dx * 2 ^ i < 2 ^ blen dx * 2 ^ i := Nat.mul_lt_mul_of_pos_right h1 (Nat.two_pow_pos _)
  rw [← Nat.pow_add] at h2
  exact Nat.lt_of_lt_of_le h2 (Nat.pow_le_pow_right (by omega) h)
theorem shifted_ge {B P W M E H : Nat} {low : Int} (hf : Fm B P W M E H low) {dx i : Nat} (h0 : dx ≠ 0) (h : blen dx + i = P) : M ≤ dx * 2 ^ i := by
  obtain ⟨h1, h2⟩ := blen_pos h0
  have h3 : 2 ^ (blen dx - 1) * 2 ^ i ≤ dx * 2 ^ i := Nat.mul_le_mul_right _ h1
  rw [← Nat.pow_add, show blen dx - 1 + i = P - 1 by omega, hf.pP] at h3
  exact h3
theorem rput_as {B P W M E H : Nat} {low : Int} (hf : Fm B P W M E H low) {A : Option Addr} {n c x : Nat} {neg : Bool} {e : Int} {w : World} (h : BR w A n c x) (hs : n ≤ 100000) {v : Nat} {q : Int} (hr : putS P M E H low ⟨neg, x, e⟩ = (v, q)) :
    Calls Tryd.prog 35 #[.agg #[.int .i64 (B : Int), .int .i64 (P : Int), .int .i64 (W : Int)], .agg #[.bool neg, .slice A n c, .int .i64 e]] w fun en w' => en = .returned (.tuple #[.int .u64 (v : Int), .int .i64 q]) ∧ Below w.heap.size w w' := by
  obtain ⟨b1, b2, b3, b4, b5, b6, b7, b8, b9, b10, b11, b12, b13, b14, b15⟩ := hf.bd
  unfold putS at hr
  obtain ⟨m, hm⟩ : ∃ m, D.may ⟨neg, x, e⟩ = m := ⟨_, rfl⟩
  rw [hm] at hr
  cases m
  · rw [if_neg (by decide)] at hr
    simp only [Prod.mk.injEq] at hr
    obtain ⟨rfl, rfl⟩ := hr
    exact rput_range hf h hs hm
  · rw [if_pos rfl] at hr
    by_cases h0 : x = 0
    · rw [if_pos h0] at hr
      simp only [Prod.mk.injEq] at hr
      obtain ⟨rfl, rfl⟩ := hr
      exact rput_zero hf h hs hm h0
    · rw [if_neg h0] at hr
      obtain ⟨t, ht⟩ : ∃ t : Int, (blen x : Int) - 1 + e = t := ⟨_, rfl⟩
      obtain ⟨dn, dx, de, hd⟩ : ∃ dn dx de, D.pl ⟨neg, x, e⟩ = ⟨dn, dx, de⟩ := ⟨_, _, _, rfl⟩
      have hpl := D.pl_pos (d := ⟨neg, x, e⟩) h0
      rw [hd] at hpl
      simp only [D.mk.injEq] at hpl
      obtain ⟨_, g2, g3⟩ := hpl
      have g4 := blen_div_tz h0
      rw [← g2] at g4
      have g5 : dx ≠ 0 := by
        have := (tz_blen h0).2.2
        rw [← g2] at this
        omega
      have g6 : (blen dx : Int) - 1 + de = t := by omega
      clear g2 g3 g4
      unfold plcS at hr
      rw [hd, ht] at hr
      simp only at hr
      by_cases hl : low + (P : Int) - 1 < t
      · obtain ⟨K, hK⟩ := Int.eq_ofNat_of_zero_le (show 0 ≤ t - (low + (P : Int) - 1) + 1 by omega)
        obtain ⟨p, hp⟩ : ∃ p : Int, low + (K : Int) - 1 = p := ⟨_, rfl⟩
        rw [show max (t - ((P : Int) - 1)) low = p by omega] at hr
        by_cases hk : E ≤ K
        · rw [if_pos (.inr (by omega))] at hr
          simp only [Prod.mk.injEq] at hr
          obtain ⟨rfl, rfl⟩ := hr
          exact rput_over hf h hs hm h0 ht hd hl hK hp hk
        · by_cases hk2 : de < p
          · rw [if_pos (.inl hk2)] at hr
            simp only [Prod.mk.injEq] at hr
            obtain ⟨rfl, rfl⟩ := hr
            exact rput_high_none hf h hs hm h0 ht hd hl hK hp hk hk2
          · rw [if_neg (fun h => h.elim hk2 (by omega))] at hr
            simp only [Prod.mk.injEq] at hr
            obtain ⟨hv, rfl⟩ := hr
            obtain ⟨i, hi⟩ := Int.eq_ofNat_of_zero_le (show 0 ≤ de - p by omega)
            rw [hi, Int.toNat_natCast, show (p - low).toNat = K - 1 by omega] at hv
            exact rput_high hf h hs hm h0 ht hd hl hK hp hk hk2 hi rfl (shifted_ge hf g5 (by omega)) (shifted_lt hf (by omega)) hv
      · rw [show max (t - ((P : Int) - 1)) low = low by omega] at hr
        by_cases hk : de < low
        · rw [if_pos (.inl hk)] at hr
          simp only [Prod.mk.injEq] at hr
          obtain ⟨rfl, rfl⟩ := hr
          exact rput_low_none hf h hs hm h0 ht hd hl hk
        · rw [if_neg (fun h => h.elim hk (by omega))] at hr
          simp only [Prod.mk.injEq] at hr
          obtain ⟨hv, rfl⟩ := hr
          obtain ⟨i, hi⟩ := Int.eq_ofNat_of_zero_le (show 0 ≤ de - low by omega)
          rw [hi, Int.toNat_natCast, Int.sub_self, Int.toNat_zero, Nat.zero_mul, Nat.zero_add] at hv
          have hy2 := shifted_lt hf (dx := dx) (i := i) (by omega)
          by_cases hM : dx * 2 ^ i < M
          · exact rput_low_sub hf h hs hm h0 ht hd hl hk hi rfl hM hv
          · exact rput_low_norm hf h hs hm h0 ht hd hl hk hi rfl (by omega) hy2 hv
end Go.Proofs.YtflicmdgijghaaaDoor
