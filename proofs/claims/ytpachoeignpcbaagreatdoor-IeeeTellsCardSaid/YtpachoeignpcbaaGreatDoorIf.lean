
/-
  ieee's Add, Sub, Mul, Fma by what they tell.
-/
import Derived.Test.YtpachoeignpcbaaGreatDoorIe
namespace Go.Proofs.YtpachoeignpcbaaGreatDoor
open Go.RowKit
set_option linter.unusedVariables false

theorem pl_plain' {d : D} (hp : d.plain) : d.pl = d := by
  obtain ⟨n, x, e⟩ := d
  rcases hp with ⟨h1, h2, h3⟩ | h
  · simp only at h1 h2 h3
    subst h1 h2 h3
    exact D.pl_zero rfl
  · simp only at h
    exact pl_eval n 0 x (by simp) h (by simp)
theorem sum_mayR {d : D} (hm : d.may = true) (hp : d.plain) {lo hi : Int} {L : Nat} (hi1 : d.inn lo hi L) (h2 : hi ≤ 8000) : mayR d = true := by
  by_cases h0 : d.x = 0
  · unfold mayR
    rw [hm, decide_eq_true h0]
    rfl
  · refine mayR_of hm (by rw [pl_plain' hp]; exact hm) ?_
    have := (hi1 h0).2.1
    omega
section
variable {B P W M E H : Nat} {low : Int}
/-- the sum of two formats' numbers is told. -/
theorem val_add (hf : Fm B P W M E H low) (a b : Nat) : addS (valS M E H low a).1 (valS M E H low b).1 = (D.add (valS M E H low a).1 (valS M E H low b).1, 0) ∧ blen (D.add (valS M E H low a).1 (valS M E H low b).1).x ≤ 4096 ∧ mayR (D.add (valS M E H low a).1 (valS M E H low b).1) = true ∧ -2148 ≤ (D.add (valS M E H low a).1 (valS M E H low b).1).e := by
  obtain ⟨a1, a2, a3, a4, a5⟩ := val_in hf a
  obtain ⟨b1, b2, b3, b4, b5⟩ := val_in hf b
  obtain ⟨h1, h2, h3⟩ := addS_in a1 b1 a2 b2 (by omega) (by omega) (by omega) (by omega)
  have hl := D.add_low (m := -2148) (show -2148 ≤ (valS M E H low a).1.e by omega) (show -2148 ≤ (valS M E H low b).1.e by omega) (by omega)
  exact ⟨h1, ((D.may_iff _).1 h2).1, sum_mayR h2 (D.add_plain _ _) h3 (by omega), hl⟩
/-- the product is, and a sum with it. -/
theorem val_mul (hf : Fm B P W M E H low) (a b : Nat) : mulS (valS M E H low a).1 (valS M E H low b).1 = (D.mul (valS M E H low a).1 (valS M E H low b).1, 0) ∧ blen (D.mul (valS M E H low a).1 (valS M E H low b).1).x ≤ 4096 ∧ mayR (D.mul (valS M E H low a).1 (valS M E H low b).1) = true ∧
    (D.mul (valS M E H low a).1 (valS M E H low b).1).may = true ∧ (D.mul (valS M E H low a).1 (valS M E H low b).1).inn (-2148) 2048 106 ∧ -2148 ≤ (D.mul (valS M E H low a).1 (valS M E H low b).1).e := by
  obtain ⟨a1, a2, a3, a4, a5⟩ := val_in hf a
  obtain ⟨b1, b2, b3, b4, b5⟩ := val_in hf b
  obtain ⟨h1, h2, h3⟩ := mulS_in a1 b1 a2 b2 (by omega) (by omega) (by omega)
  have hl := D.mul_low (m := -2148) (show -2148 ≤ (valS M E H low a).1.e + (valS M E H low b).1.e by omega) (by omega)
  exact ⟨h1, ((D.may_iff _).1 h2).1, sum_mayR h2 (D.mul_plain _ _) h3 (by omega), h2, h3, hl⟩
theorem val_fma (hf : Fm B P W M E H low) (a b c : Nat) : addS (D.mul (valS M E H low a).1 (valS M E H low b).1) (valS M E H low c).1 = (D.add (D.mul (valS M E H low a).1 (valS M E H low b).1) (valS M E H low c).1, 0) ∧
    blen (D.add (D.mul (valS M E H low a).1 (valS M E H low b).1) (valS M E H low c).1).x ≤ 4096 ∧ mayR (D.add (D.mul (valS M E H low a).1 (valS M E H low b).1) (valS M E H low c).1) = true ∧ -2148 ≤ (D.add (D.mul (valS M E H low a).1 (valS M E H low b).1) (valS M E H low c).1).e := by
  obtain ⟨m1, m2, m3, m4, m5, m6⟩ := val_mul hf a b
  obtain ⟨c1, c2, c3, c4, c5⟩ := val_in hf c
  have hl := D.add_low (m := -2148) m6 (show -2148 ≤ (valS M E H low c).1.e by omega) (by omega)
  generalize D.mul (valS M E H low a).1 (valS M E H low b).1 = d at *
  by_cases hd : (blen d.x : Int) + d.e ≤ 1024
  · obtain ⟨h1, h2, h3⟩ := addS_in m4 c1 (lo := -2148) (hi := 1024) (L := 106) (fun h0 => ⟨(m5 h0).1, hd, (m5 h0).2.2⟩) (inn_more c2 (lo' := -2148) (hi' := 1024) (L' := 106) (by omega) (by omega) (by omega)) (by omega) (by omega) (by omega) (by omega)
    exact ⟨h1, ((D.may_iff _).1 h2).1, sum_mayR h2 (D.add_plain _ _) h3 (by omega), hl⟩
  · obtain ⟨h1, h2, h3⟩ := addS_in m4 c1 (lo := -1074) (hi := 2048) (L := 106) (fun h0 => ⟨by have := (m5 h0).2.2; omega, (m5 h0).2.1, (m5 h0).2.2⟩) (inn_more c2 (lo' := -1074) (hi' := 2048) (L' := 106) (by omega) (by omega) (by omega)) (by omega) (by omega) (by omega) (by omega)
    exact ⟨h1, ((D.may_iff _).1 h2).1, sum_mayR h2 (D.add_plain _ _) h3 (by omega), hl⟩
end
theorem add_wrong {B P W M E H : Nat} {low : Int} (hf : Fm B P W M E H low) (mode : Int) (ba bb : Nat) (hba : ba < 18446744073709551616) (hbb : bb < 18446744073709551616) {w : World} (hT : Tab w) (q : Int) (hw : wrongS H mode [ba, bb] = q) (dq : (q != 0) = true) :
    Calls Tryz.prog 7 #[.agg #[.int .i64 (B : Int), .int .i64 (P : Int), .int .i64 (W : Int)], .int .i64 mode, .int .u64 (ba : Int), .int .u64 (bb : Int)] w (ToX w 0 0 q) := by
  have HL : Hid (∀ x ∈ [ba, bb], x < 18446744073709551616) := Lib.hid (by intro x hx; simp only [List.mem_cons, List.not_mem_nil, or_false] at hx; omega)
  have HW := Lib.hid hw
  clear hw
  go_enter Tryz.func7, Tryz.ntmps7
  go_wp2_with fail
  obtain ⟨V, hV, z4, BW, sW⟩ := fframe1 w 25 (B : Int) (P : Int) (W : Int)
  rw [hV]
  clear hV
  replace hT := hT.on BW
  obtain ⟨w1, e_w1⟩ : ∃ w', V.alloc (.cells #[.int .u64 (ba : Int), .int .u64 (bb : Int)] 22) = w' := ⟨_, rfl⟩
  have b : Below V.heap.size V w1 := e_w1 ▸ below_lit _ _
  have hs_w1 : w1.heap.size = (w.heap.size + 1) + 1 := e_w1 ▸ size_lit V _ sW
  have ob : OB w1 (w.heap.size + 1) [ba, bb] := e_w1 ▸ OB.two V sW ba bb
  rw [e_w1]
  clear e_w1
  replace z4 := z4.on b
  replace hT := hT.on b
  replace BW := Below.step BW b
  clear b
  clear hs_w1
  clear sW
  refine (wrong_as hf [ba, bb] HL.out (n := 2) rfl (by omega) ob mode q HW.out).mono ?_
  rintro en w2 ⟨rfl, b⟩
  replace z4 := z4.on b
  replace hT := hT.on b
  replace ob := ob.on b
  replace BW := Below.step BW b
  clear b
  clear ob
  obtain ⟨z4c0, z4c1, z4c2, z4f0, z4f1, z4f2, z4l⟩ := z4.cells
  go_wp2_with fail
  refine bodyPost_ret (v := .tuple #[.int .u64 (0), .int .i64 0, .int .i64 q]) (by simp [results, Tryz.results7, go_sem]) rfl ⟨rfl, BW⟩
theorem add_none {B P W M E H : Nat} {low : Int} (hf : Fm B P W M E H low) (mode : Int) (ba bb : Nat) (hba : ba < 18446744073709551616) (hbb : bb < 18446744073709551616) {w : World} (hT : Tab w) (q : Int) (hw : wrongS H mode [ba, bb] = q) (dq : (q != 0) = false) {r1 : Nat} {r2 : Int} (hn : nonS M E H [ba, bb] = (r1, r2, true))  :
    Calls Tryz.prog 7 #[.agg #[.int .i64 (B : Int), .int .i64 (P : Int), .int .i64 (W : Int)], .int .i64 mode, .int .u64 (ba : Int), .int .u64 (bb : Int)] w (ToX w r1 r2 0) := by
  have HL : Hid (∀ x ∈ [ba, bb], x < 18446744073709551616) := Lib.hid (by intro x hx; simp only [List.mem_cons, List.not_mem_nil, or_false] at hx; omega)
  have HW := Lib.hid hw
  clear hw
  have HN := Lib.hid hn
  clear hn
  go_enter Tryz.func7, Tryz.ntmps7
  go_wp2_with fail
  obtain ⟨V, hV, z4, BW, sW⟩ := fframe1 w 25 (B : Int) (P : Int) (W : Int)
  rw [hV]
  clear hV
  replace hT := hT.on BW
  obtain ⟨w1, e_w1⟩ : ∃ w', V.alloc (.cells #[.int .u64 (ba : Int), .int .u64 (bb : Int)] 22) = w' := ⟨_, rfl⟩
  have b : Below V.heap.size V w1 := e_w1 ▸ below_lit _ _
  have hs_w1 : w1.heap.size = (w.heap.size + 1) + 1 := e_w1 ▸ size_lit V _ sW
  have ob : OB w1 (w.heap.size + 1) [ba, bb] := e_w1 ▸ OB.two V sW ba bb
  rw [e_w1]
  clear e_w1
  replace z4 := z4.on b
  replace hT := hT.on b
  replace BW := Below.step BW b
  clear b
  clear hs_w1
  clear sW
  refine (wrong_as hf [ba, bb] HL.out (n := 2) rfl (by omega) ob mode q HW.out).mono ?_
  rintro en w2 ⟨rfl, b⟩
  replace z4 := z4.on b
  replace hT := hT.on b
  replace ob := ob.on b
  replace BW := Below.step BW b
  clear b
  clear ob
  obtain ⟨z4c0, z4c1, z4c2, z4f0, z4f1, z4f2, z4l⟩ := z4.cells
  go_wp2_with fail
  clear z4c0 z4c1 z4c2 z4f0 z4f1 z4f2 z4l
  obtain ⟨w3, e_w3⟩ : ∃ w', w2.alloc (.cells #[.int .u64 (ba : Int), .int .u64 (bb : Int)] 22) = w' := ⟨_, rfl⟩
  have b : Below w2.heap.size w2 w3 := e_w3 ▸ below_lit _ _
  have hs_w3 : w3.heap.size = w2.heap.size + 1 := e_w3 ▸ size_lit w2 _ rfl
  have oc : OB w3 w2.heap.size [ba, bb] := e_w3 ▸ OB.two w2 rfl ba bb
  rw [e_w3]
  clear e_w3
  replace z4 := z4.on b
  replace hT := hT.on b
  replace BW := Below.step BW b
  clear b
  clear hs_w3
  refine (none_as hf [ba, bb] HL.out (n := 2) rfl (by omega) oc HN.out).mono ?_
  rintro en w4 ⟨rfl, b⟩
  replace z4 := z4.on b
  replace hT := hT.on b
  replace oc := oc.on b
  replace BW := Below.step BW b
  clear b
  clear oc
  obtain ⟨z4c0, z4c1, z4c2, z4f0, z4f1, z4f2, z4l⟩ := z4.cells
  go_wp2_with fail
  refine bodyPost_ret (v := .tuple #[.int .u64 ((r1 : Int)), .int .i64 r2, .int .i64 0]) (by simp [results, Tryz.results7, go_sem]) rfl ⟨rfl, BW⟩
set_option maxHeartbeats 4000000 in
theorem add_sum {B P W M E H : Nat} {low : Int} (hf : Fm B P W M E H low) (mode : Int) (ba bb : Nat) (hba : ba < 18446744073709551616) (hbb : bb < 18446744073709551616) {w : World} (hT : Tab w) (q : Int) (hw : wrongS H mode [ba, bb] = q) (dq : (q != 0) = false) {r1 : Nat} {r2 : Int} (hn : nonS M E H [ba, bb] = (r1, r2, false)) {g1 i1 d1 g2 i2 d2 : Bool} {x1 x2 : Nat} {e1 e2 : Int} (h1 : tmS M E H low ba = ⟨g1, i1, ⟨d1, x1, e1⟩⟩) (hlba : blen x1 ≤ 4096) (h2 : tmS M E H low bb = ⟨g2, i2, ⟨d2, x2, e2⟩⟩) (hlbb : blen x2 ≤ 4096) (hs : i1 = false → i2 = false → ∃ ae, addS ⟨d1, x1, e1⟩ ⟨d2, x2, e2⟩ = (D.add ⟨d1, x1, e1⟩ ⟨d2, x2, e2⟩, ae) ∧ blen (D.add ⟨d1, x1, e1⟩ ⟨d2, x2, e2⟩).x ≤ 4096) {v : Nat} {fl err : Int} (hr : sumT P M E H low mode ⟨g1, i1, ⟨d1, x1, e1⟩⟩ ⟨g2, i2, ⟨d2, x2, e2⟩⟩ = (v, fl, err)) :
    Calls Tryz.prog 7 #[.agg #[.int .i64 (B : Int), .int .i64 (P : Int), .int .i64 (W : Int)], .int .i64 mode, .int .u64 (ba : Int), .int .u64 (bb : Int)] w (ToX w v fl err) := by
  have HL : Hid (∀ x ∈ [ba, bb], x < 18446744073709551616) := Lib.hid (by intro x hx; simp only [List.mem_cons, List.not_mem_nil, or_false] at hx; omega)
  have HW := Lib.hid hw
  clear hw
  have HN := Lib.hid hn
  clear hn
  have HA := Lib.hid h1
  have HB := Lib.hid h2
  have HS := Lib.hid hs
  have HR := Lib.hid hr
  clear h1 h2 hs hr
  go_enter Tryz.func7, Tryz.ntmps7
  go_wp2_with fail
  obtain ⟨V, hV, z4, BW, sW⟩ := fframe1 w 25 (B : Int) (P : Int) (W : Int)
  rw [hV]
  clear hV
  replace hT := hT.on BW
  obtain ⟨w1, e_w1⟩ : ∃ w', V.alloc (.cells #[.int .u64 (ba : Int), .int .u64 (bb : Int)] 22) = w' := ⟨_, rfl⟩
  have b : Below V.heap.size V w1 := e_w1 ▸ below_lit _ _
  have hs_w1 : w1.heap.size = (w.heap.size + 1) + 1 := e_w1 ▸ size_lit V _ sW
  have ob : OB w1 (w.heap.size + 1) [ba, bb] := e_w1 ▸ OB.two V sW ba bb
  rw [e_w1]
  clear e_w1
  replace z4 := z4.on b
  replace hT := hT.on b
  replace BW := Below.step BW b
  clear b
  clear hs_w1
  clear sW
  refine (wrong_as hf [ba, bb] HL.out (n := 2) rfl (by omega) ob mode q HW.out).mono ?_
  rintro en w2 ⟨rfl, b⟩
  replace z4 := z4.on b
  replace hT := hT.on b
  replace ob := ob.on b
  replace BW := Below.step BW b
  clear b
  clear ob
  obtain ⟨z4c0, z4c1, z4c2, z4f0, z4f1, z4f2, z4l⟩ := z4.cells
  go_wp2_with fail
  clear z4c0 z4c1 z4c2 z4f0 z4f1 z4f2 z4l
  obtain ⟨w3, e_w3⟩ : ∃ w', w2.alloc (.cells #[.int .u64 (ba : Int), .int .u64 (bb : Int)] 22) = w' := ⟨_, rfl⟩
  have b : Below w2.heap.size w2 w3 := e_w3 ▸ below_lit _ _
  have hs_w3 : w3.heap.size = w2.heap.size + 1 := e_w3 ▸ size_lit w2 _ rfl
  have oc : OB w3 w2.heap.size [ba, bb] := e_w3 ▸ OB.two w2 rfl ba bb
  rw [e_w3]
  clear e_w3
  replace z4 := z4.on b
  replace hT := hT.on b
  replace BW := Below.step BW b
  clear b
  clear hs_w3
  refine (none_as hf [ba, bb] HL.out (n := 2) rfl (by omega) oc HN.out).mono ?_
  rintro en w4 ⟨rfl, b⟩
  replace z4 := z4.on b
  replace hT := hT.on b
  replace oc := oc.on b
  replace BW := Below.step BW b
  clear b
  clear oc
  obtain ⟨z4c0, z4c1, z4c2, z4f0, z4f1, z4f2, z4l⟩ := z4.cells
  go_wp2_with fail
  clear z4c0 z4c1 z4c2 z4f0 z4f1 z4f2 z4l
  replace z4 := z4.on ((Below.refl _ _).drew : Below w4.heap.size w4 w4.drew)
  replace hT := hT.on ((Below.refl _ _).drew : Below w4.heap.size w4 w4.drew)
  replace BW := Lib.hid (Below.step BW ((Below.refl _ _).drew : Below w4.heap.size w4 w4.drew))
  go_region_held3 (fun w' => w'.cell? ⟨w.heap.size, 0, none⟩ = some (.int .i64 (B : Int)) ∧ w'.cell? ⟨w.heap.size, 1, none⟩ = some (.int .i64 (P : Int)) ∧ w'.cell? ⟨w.heap.size, 2, none⟩ = some (.int .i64 (W : Int)))
    ((first | (with_reducible exact ⟨z4.cells.1, z4.cells.2.1, z4.cells.2.2.1⟩)))
    (first
      | (go_at_call 20
         (with_reducible refine (term_as hf ba hba hT HA.out).mono ?_)
         rintro en w5 ⟨V_ra, v_ra, rfl, ra, b⟩
         replace z4 := z4.on b
         replace hT := hT.on b
         first | (revert rb; intro rb; replace rb := rb.on b) | skip
         replace BW := Lib.hid (Below.step BW.out b)
         have la := res_n_le ra (k := 128) hlba
         clear b)
      | (go_at_call 20
         (with_reducible refine (term_as hf bb hbb hT HB.out).mono ?_)
         rintro en w6 ⟨V_rb, v_rb, rfl, rb, b⟩
         replace z4 := z4.on b
         replace hT := hT.on b
         first | (revert ra; intro ra; replace ra := ra.on b) | skip
         replace BW := Lib.hid (Below.step BW.out b)
         have lb := res_n_le rb (k := 128) hlbb
         clear b)
      | (go_at_call 19
         (with_reducible refine (sum_as hf (ra.arg (by omega)) (rb.arg (by omega)) (by omega) (by omega) hT mode HS.out HR.out).mono ?_)
         rintro en w7 ⟨rfl, b⟩
         replace z4 := z4.on b
         replace hT := hT.on b
         first | (revert ra; intro ra; replace ra := ra.on b) | skip
         first | (revert rb; intro rb; replace rb := rb.on b) | skip
         replace BW := Lib.hid (Below.step BW.out b)
         clear b))
  all_goals replace BW := BW.out
  all_goals (go_wp2_with fail; refine bodyPost_ret (v := .tuple #[.int .u64 (v : Int), .int .i64 fl, .int .i64 err]) (by simp [results, Tryz.results7, go_sem]) rfl ⟨rfl, BW⟩)
theorem product_as {B P W M E H : Nat} {low : Int} (hf : Fm B P W M E H low) (a b : Nat) (ha : a < 18446744073709551616) (hb : b < 18446744073709551616) {w : World} (hT : Tab w) {ng iv rn : Bool} {rx : Nat} {re : Int} (hp : prodT (tmS M E H low a) (tmS M E H low b) = ⟨ng, iv, ⟨rn, rx, re⟩⟩) :
    Calls Tryz.prog 28 #[.agg #[.int .i64 (B : Int), .int .i64 (P : Int), .int .i64 (W : Int)], .int .u64 (a : Int), .int .u64 (b : Int)] w (TmX w ng iv rn rx re) := by
  obtain ⟨m1, m2, m3, m4, m5, m6⟩ := val_mul hf a b
  obtain ⟨a1, a2, a3, a4, a5⟩ := val_in hf a
  obtain ⟨b1, b2, b3, b4, b5⟩ := val_in hf b
  obtain ⟨⟨d1, x1, e1⟩, hx⟩ : ∃ d, (valS M E H low a).1 = d := ⟨_, rfl⟩
  obtain ⟨⟨d2, x2, e2⟩, hy⟩ : ∃ d, (valS M E H low b).1 = d := ⟨_, rfl⟩
  have h1 : tmS M E H low a = ⟨ngB H a, infB M E a, ⟨d1, x1, e1⟩⟩ := by unfold tmS; rw [hx]
  have h2 : tmS M E H low b = ⟨ngB H b, infB M E b, ⟨d2, x2, e2⟩⟩ := by unfold tmS; rw [hy]
  rw [h1, h2] at hp
  unfold prodT at hp
  simp only [Tm.mk.injEq] at hp
  obtain ⟨p1, p2, p3⟩ := hp
  rw [hx] at m1 a5
  rw [hy] at m1 b5
  simp only at a5 b5
  have := product_walk hf a b ha hb hT h1 h2 (rn := rn) (rx := rx) (re := re) (me := 0) (by rw [m1, p3]) iv p2 (ngB H a == ngB H b) rfl (by omega) (by omega)
  have e : (!(ngB H a == ngB H b)) = ng := by rw [← p1]; rfl
  rw [e] at this
  exact this
theorem mul_wrong {B P W M E H : Nat} {low : Int} (hf : Fm B P W M E H low) (mode : Int) (ba bb : Nat) (hba : ba < 18446744073709551616) (hbb : bb < 18446744073709551616) {w : World} (hT : Tab w) (q : Int) (hw : wrongS H mode [ba, bb] = q) (dq : (q != 0) = true) :
    Calls Tryz.prog 11 #[.agg #[.int .i64 (B : Int), .int .i64 (P : Int), .int .i64 (W : Int)], .int .i64 mode, .int .u64 (ba : Int), .int .u64 (bb : Int)] w (ToX w 0 0 q) := by
  have HL : Hid (∀ x ∈ [ba, bb], x < 18446744073709551616) := Lib.hid (by intro x hx; simp only [List.mem_cons, List.not_mem_nil, or_false] at hx; omega)
  have HW := Lib.hid hw
  clear hw
  go_enter Tryz.func11, Tryz.ntmps11
  go_wp2_with fail
  obtain ⟨V, hV, z4, BW, sW⟩ := fframe1 w 25 (B : Int) (P : Int) (W : Int)
  rw [hV]
  clear hV
  replace hT := hT.on BW
  obtain ⟨w1, e_w1⟩ : ∃ w', V.alloc (.cells #[.int .u64 (ba : Int), .int .u64 (bb : Int)] 22) = w' := ⟨_, rfl⟩
  have b : Below V.heap.size V w1 := e_w1 ▸ below_lit _ _
  have hs_w1 : w1.heap.size = (w.heap.size + 1) + 1 := e_w1 ▸ size_lit V _ sW
  have ob : OB w1 (w.heap.size + 1) [ba, bb] := e_w1 ▸ OB.two V sW ba bb
  rw [e_w1]
  clear e_w1
  replace z4 := z4.on b
  replace hT := hT.on b
  replace BW := Below.step BW b
  clear b
  clear hs_w1
  clear sW
  refine (wrong_as hf [ba, bb] HL.out (n := 2) rfl (by omega) ob mode q HW.out).mono ?_
  rintro en w2 ⟨rfl, b⟩
  replace z4 := z4.on b
  replace hT := hT.on b
  replace ob := ob.on b
  replace BW := Below.step BW b
  clear b
  clear ob
  obtain ⟨z4c0, z4c1, z4c2, z4f0, z4f1, z4f2, z4l⟩ := z4.cells
  go_wp2_with fail
  refine bodyPost_ret (v := .tuple #[.int .u64 (0), .int .i64 0, .int .i64 q]) (by simp [results, Tryz.results11, go_sem]) rfl ⟨rfl, BW⟩
theorem mul_none {B P W M E H : Nat} {low : Int} (hf : Fm B P W M E H low) (mode : Int) (ba bb : Nat) (hba : ba < 18446744073709551616) (hbb : bb < 18446744073709551616) {w : World} (hT : Tab w) (q : Int) (hw : wrongS H mode [ba, bb] = q) (dq : (q != 0) = false) {r1 : Nat} {r2 : Int} (hn : nonS M E H [ba, bb] = (r1, r2, true))  :
    Calls Tryz.prog 11 #[.agg #[.int .i64 (B : Int), .int .i64 (P : Int), .int .i64 (W : Int)], .int .i64 mode, .int .u64 (ba : Int), .int .u64 (bb : Int)] w (ToX w r1 r2 0) := by
  have HL : Hid (∀ x ∈ [ba, bb], x < 18446744073709551616) := Lib.hid (by intro x hx; simp only [List.mem_cons, List.not_mem_nil, or_false] at hx; omega)
  have HW := Lib.hid hw
  clear hw
  have HN := Lib.hid hn
  clear hn
  go_enter Tryz.func11, Tryz.ntmps11
  go_wp2_with fail
  obtain ⟨V, hV, z4, BW, sW⟩ := fframe1 w 25 (B : Int) (P : Int) (W : Int)
  rw [hV]
  clear hV
  replace hT := hT.on BW
  obtain ⟨w1, e_w1⟩ : ∃ w', V.alloc (.cells #[.int .u64 (ba : Int), .int .u64 (bb : Int)] 22) = w' := ⟨_, rfl⟩
  have b : Below V.heap.size V w1 := e_w1 ▸ below_lit _ _
  have hs_w1 : w1.heap.size = (w.heap.size + 1) + 1 := e_w1 ▸ size_lit V _ sW
  have ob : OB w1 (w.heap.size + 1) [ba, bb] := e_w1 ▸ OB.two V sW ba bb
  rw [e_w1]
  clear e_w1
  replace z4 := z4.on b
  replace hT := hT.on b
  replace BW := Below.step BW b
  clear b
  clear hs_w1
  clear sW
  refine (wrong_as hf [ba, bb] HL.out (n := 2) rfl (by omega) ob mode q HW.out).mono ?_
  rintro en w2 ⟨rfl, b⟩
  replace z4 := z4.on b
  replace hT := hT.on b
  replace ob := ob.on b
  replace BW := Below.step BW b
  clear b
  clear ob
  obtain ⟨z4c0, z4c1, z4c2, z4f0, z4f1, z4f2, z4l⟩ := z4.cells
  go_wp2_with fail
  clear z4c0 z4c1 z4c2 z4f0 z4f1 z4f2 z4l
  obtain ⟨w3, e_w3⟩ : ∃ w', w2.alloc (.cells #[.int .u64 (ba : Int), .int .u64 (bb : Int)] 22) = w' := ⟨_, rfl⟩
  have b : Below w2.heap.size w2 w3 := e_w3 ▸ below_lit _ _
  have hs_w3 : w3.heap.size = w2.heap.size + 1 := e_w3 ▸ size_lit w2 _ rfl
  have oc : OB w3 w2.heap.size [ba, bb] := e_w3 ▸ OB.two w2 rfl ba bb
  rw [e_w3]
  clear e_w3
  replace z4 := z4.on b
  replace hT := hT.on b
  replace BW := Below.step BW b
  clear b
  clear hs_w3
  refine (none_as hf [ba, bb] HL.out (n := 2) rfl (by omega) oc HN.out).mono ?_
  rintro en w4 ⟨rfl, b⟩
  replace z4 := z4.on b
  replace hT := hT.on b
  replace oc := oc.on b
  replace BW := Below.step BW b
  clear b
  clear oc
  obtain ⟨z4c0, z4c1, z4c2, z4f0, z4f1, z4f2, z4l⟩ := z4.cells
  go_wp2_with fail
  refine bodyPost_ret (v := .tuple #[.int .u64 ((r1 : Int)), .int .i64 r2, .int .i64 0]) (by simp [results, Tryz.results11, go_sem]) rfl ⟨rfl, BW⟩
theorem mul_vain {B P W M E H : Nat} {low : Int} (hf : Fm B P W M E H low) (mode : Int) (ba bb : Nat) (hba : ba < 18446744073709551616) (hbb : bb < 18446744073709551616) {w : World} (hT : Tab w) (q : Int) (hw : wrongS H mode [ba, bb] = q) (dq : (q != 0) = false) {r1 : Nat} {r2 : Int} (hn : nonS M E H [ba, bb] = (r1, r2, false)) (hv : vainB M E ba bb = true) (v : Nat) (hu : M * E + M / 2 = v) :
    Calls Tryz.prog 11 #[.agg #[.int .i64 (B : Int), .int .i64 (P : Int), .int .i64 (W : Int)], .int .i64 mode, .int .u64 (ba : Int), .int .u64 (bb : Int)] w (ToX w v 16 0) := by
  have HL : Hid (∀ x ∈ [ba, bb], x < 18446744073709551616) := Lib.hid (by intro x hx; simp only [List.mem_cons, List.not_mem_nil, or_false] at hx; omega)
  have HW := Lib.hid hw
  clear hw
  have HN := Lib.hid hn
  clear hn
  have HV := Lib.hid hv
  clear hv
  go_enter Tryz.func11, Tryz.ntmps11
  go_wp2_with fail
  obtain ⟨V, hV, z4, BW, sW⟩ := fframe1 w 25 (B : Int) (P : Int) (W : Int)
  rw [hV]
  clear hV
  replace hT := hT.on BW
  obtain ⟨w1, e_w1⟩ : ∃ w', V.alloc (.cells #[.int .u64 (ba : Int), .int .u64 (bb : Int)] 22) = w' := ⟨_, rfl⟩
  have b : Below V.heap.size V w1 := e_w1 ▸ below_lit _ _
  have hs_w1 : w1.heap.size = (w.heap.size + 1) + 1 := e_w1 ▸ size_lit V _ sW
  have ob : OB w1 (w.heap.size + 1) [ba, bb] := e_w1 ▸ OB.two V sW ba bb
  rw [e_w1]
  clear e_w1
  replace z4 := z4.on b
  replace hT := hT.on b
  replace BW := Below.step BW b
  clear b
  clear hs_w1
  clear sW
  refine (wrong_as hf [ba, bb] HL.out (n := 2) rfl (by omega) ob mode q HW.out).mono ?_
  rintro en w2 ⟨rfl, b⟩
  replace z4 := z4.on b
  replace hT := hT.on b
  replace ob := ob.on b
  replace BW := Below.step BW b
  clear b
  clear ob
  obtain ⟨z4c0, z4c1, z4c2, z4f0, z4f1, z4f2, z4l⟩ := z4.cells
  go_wp2_with fail
  clear z4c0 z4c1 z4c2 z4f0 z4f1 z4f2 z4l
  obtain ⟨w3, e_w3⟩ : ∃ w', w2.alloc (.cells #[.int .u64 (ba : Int), .int .u64 (bb : Int)] 22) = w' := ⟨_, rfl⟩
  have b : Below w2.heap.size w2 w3 := e_w3 ▸ below_lit _ _
  have hs_w3 : w3.heap.size = w2.heap.size + 1 := e_w3 ▸ size_lit w2 _ rfl
  have oc : OB w3 w2.heap.size [ba, bb] := e_w3 ▸ OB.two w2 rfl ba bb
  rw [e_w3]
  clear e_w3
  replace z4 := z4.on b
  replace hT := hT.on b
  replace BW := Below.step BW b
  clear b
  clear hs_w3
  refine (none_as hf [ba, bb] HL.out (n := 2) rfl (by omega) oc HN.out).mono ?_
  rintro en w4 ⟨rfl, b⟩
  replace z4 := z4.on b
  replace hT := hT.on b
  replace oc := oc.on b
  replace BW := Below.step BW b
  clear b
  clear oc
  obtain ⟨z4c0, z4c1, z4c2, z4f0, z4f1, z4f2, z4l⟩ := z4.cells
  go_wp2_with fail
  refine (makes_as hf ba bb hba hbb _ HV.out _).mono ?_
  rintro en w5 ⟨rfl, b⟩
  clear z4c0 z4c1 z4c2 z4f0 z4f1 z4f2 z4l
  replace z4 := z4.on b
  replace hT := hT.on b
  replace BW := Below.step BW b
  clear b
  obtain ⟨z4c0, z4c1, z4c2, z4f0, z4f1, z4f2, z4l⟩ := z4.cells
  go_wp2_with fail
  refine (unmade_as hf v hu _).mono ?_
  rintro en w6 ⟨rfl, b⟩
  clear z4c0 z4c1 z4c2 z4f0 z4f1 z4f2 z4l
  replace z4 := z4.on b
  replace hT := hT.on b
  replace BW := Below.step BW b
  clear b
  go_wp2_with fail
  refine bodyPost_ret (v := .tuple #[.int .u64 ((v : Int)), .int .i64 16, .int .i64 0]) (by simp [results, Tryz.results11, go_sem]) rfl ⟨rfl, BW⟩
set_option maxHeartbeats 4000000 in
theorem mul_prod {B P W M E H : Nat} {low : Int} (hf : Fm B P W M E H low) (mode : Int) (ba bb : Nat) (hba : ba < 18446744073709551616) (hbb : bb < 18446744073709551616) {w : World} (hT : Tab w) (q : Int) (hw : wrongS H mode [ba, bb] = q) (dq : (q != 0) = false) {r1 : Nat} {r2 : Int} (hn : nonS M E H [ba, bb] = (r1, r2, false)) (hv : vainB M E ba bb = false) {ng iv rn : Bool} {rx : Nat} {re : Int} (hp : prodT (tmS M E H low ba) (tmS M E H low bb) = ⟨ng, iv, ⟨rn, rx, re⟩⟩) (hlr : blen rx ≤ 4096) {v : Nat} {fl err : Int} (hr : bitsS P M E H low mode ⟨ng, iv, ⟨rn, rx, re⟩⟩ = (v, fl, err)) :
    Calls Tryz.prog 11 #[.agg #[.int .i64 (B : Int), .int .i64 (P : Int), .int .i64 (W : Int)], .int .i64 mode, .int .u64 (ba : Int), .int .u64 (bb : Int)] w (ToX w v fl err) := by
  have HL : Hid (∀ x ∈ [ba, bb], x < 18446744073709551616) := Lib.hid (by intro x hx; simp only [List.mem_cons, List.not_mem_nil, or_false] at hx; omega)
  have HW := Lib.hid hw
  clear hw
  have HN := Lib.hid hn
  clear hn
  have HV := Lib.hid hv
  clear hv
  have HP := Lib.hid hp
  clear hp
  have HR := Lib.hid hr
  clear hr
  go_enter Tryz.func11, Tryz.ntmps11
  go_wp2_with fail
  obtain ⟨V, hV, z4, BW, sW⟩ := fframe1 w 25 (B : Int) (P : Int) (W : Int)
  rw [hV]
  clear hV
  replace hT := hT.on BW
  obtain ⟨w1, e_w1⟩ : ∃ w', V.alloc (.cells #[.int .u64 (ba : Int), .int .u64 (bb : Int)] 22) = w' := ⟨_, rfl⟩
  have b : Below V.heap.size V w1 := e_w1 ▸ below_lit _ _
  have hs_w1 : w1.heap.size = (w.heap.size + 1) + 1 := e_w1 ▸ size_lit V _ sW
  have ob : OB w1 (w.heap.size + 1) [ba, bb] := e_w1 ▸ OB.two V sW ba bb
  rw [e_w1]
  clear e_w1
  replace z4 := z4.on b
  replace hT := hT.on b
  replace BW := Below.step BW b
  clear b
  clear hs_w1
  clear sW
  refine (wrong_as hf [ba, bb] HL.out (n := 2) rfl (by omega) ob mode q HW.out).mono ?_
  rintro en w2 ⟨rfl, b⟩
  replace z4 := z4.on b
  replace hT := hT.on b
  replace ob := ob.on b
  replace BW := Below.step BW b
  clear b
  clear ob
  obtain ⟨z4c0, z4c1, z4c2, z4f0, z4f1, z4f2, z4l⟩ := z4.cells
  go_wp2_with fail
  clear z4c0 z4c1 z4c2 z4f0 z4f1 z4f2 z4l
  obtain ⟨w3, e_w3⟩ : ∃ w', w2.alloc (.cells #[.int .u64 (ba : Int), .int .u64 (bb : Int)] 22) = w' := ⟨_, rfl⟩
  have b : Below w2.heap.size w2 w3 := e_w3 ▸ below_lit _ _
  have hs_w3 : w3.heap.size = w2.heap.size + 1 := e_w3 ▸ size_lit w2 _ rfl
  have oc : OB w3 w2.heap.size [ba, bb] := e_w3 ▸ OB.two w2 rfl ba bb
  rw [e_w3]
  clear e_w3
  replace z4 := z4.on b
  replace hT := hT.on b
  replace BW := Below.step BW b
  clear b
  clear hs_w3
  refine (none_as hf [ba, bb] HL.out (n := 2) rfl (by omega) oc HN.out).mono ?_
  rintro en w4 ⟨rfl, b⟩
  replace z4 := z4.on b
  replace hT := hT.on b
  replace oc := oc.on b
  replace BW := Below.step BW b
  clear b
  clear oc
  obtain ⟨z4c0, z4c1, z4c2, z4f0, z4f1, z4f2, z4l⟩ := z4.cells
  go_wp2_with fail
  refine (makes_as hf ba bb hba hbb _ HV.out _).mono ?_
  rintro en w5 ⟨rfl, b⟩
  clear z4c0 z4c1 z4c2 z4f0 z4f1 z4f2 z4l
  replace z4 := z4.on b
  replace hT := hT.on b
  replace BW := Below.step BW b
  clear b
  obtain ⟨z4c0, z4c1, z4c2, z4f0, z4f1, z4f2, z4l⟩ := z4.cells
  go_wp2_with fail
  clear z4c0 z4c1 z4c2 z4f0 z4f1 z4f2 z4l
  replace z4 := z4.on ((Below.refl _ _).drew : Below w5.heap.size w5 w5.drew)
  replace hT := hT.on ((Below.refl _ _).drew : Below w5.heap.size w5 w5.drew)
  replace BW := Lib.hid (Below.step BW ((Below.refl _ _).drew : Below w5.heap.size w5 w5.drew))
  go_region_held3 (fun w' => w'.cell? ⟨w.heap.size, 0, none⟩ = some (.int .i64 (B : Int)) ∧ w'.cell? ⟨w.heap.size, 1, none⟩ = some (.int .i64 (P : Int)) ∧ w'.cell? ⟨w.heap.size, 2, none⟩ = some (.int .i64 (W : Int)))
    ((first | (with_reducible exact ⟨z4.cells.1, z4.cells.2.1, z4.cells.2.2.1⟩)))
    (first
      | (go_at_call 28
         (with_reducible refine (product_as hf ba bb hba hbb hT HP.out).mono ?_)
         rintro en w6 ⟨V_r, v_r, rfl, r, b⟩
         replace z4 := z4.on b
         replace hT := hT.on b
         replace BW := Lib.hid (Below.step BW.out b)
         have lr := res_n_le r (k := 128) hlr
         clear b)
      | (go_at_call 29
         (with_reducible refine (bits_as hf (r.arg (by omega)) (by omega) hT mode HR.out).mono ?_)
         rintro en w7 ⟨rfl, b⟩
         replace z4 := z4.on b
         replace hT := hT.on b
         first | (revert r; intro r; replace r := r.on b) | skip
         replace BW := Lib.hid (Below.step BW.out b)
         clear b))
  all_goals replace BW := BW.out
  go_wp2_with fail
  refine bodyPost_ret (v := .tuple #[.int .u64 ((v : Int)), .int .i64 fl, .int .i64 err]) (by simp [results, Tryz.results11, go_sem]) rfl ⟨rfl, BW⟩
theorem fma_wrong {B P W M E H : Nat} {low : Int} (hf : Fm B P W M E H low) (mode : Int) (ba bb bc : Nat) (hba : ba < 18446744073709551616) (hbb : bb < 18446744073709551616) (hbc : bc < 18446744073709551616) {w : World} (hT : Tab w) (q : Int) (hw : wrongS H mode [ba, bb, bc] = q) (dq : (q != 0) = true) :
    Calls Tryz.prog 13 #[.agg #[.int .i64 (B : Int), .int .i64 (P : Int), .int .i64 (W : Int)], .int .i64 mode, .int .u64 (ba : Int), .int .u64 (bb : Int), .int .u64 (bc : Int)] w (ToX w 0 0 q) := by
  have HL : Hid (∀ x ∈ [ba, bb, bc], x < 18446744073709551616) := Lib.hid (by intro x hx; simp only [List.mem_cons, List.not_mem_nil, or_false] at hx; omega)
  have HW := Lib.hid hw
  clear hw
  go_enter Tryz.func13, Tryz.ntmps13
  go_wp2_with fail
  obtain ⟨V, hV, z4, BW, sW⟩ := fframe1 w 25 (B : Int) (P : Int) (W : Int)
  rw [hV]
  clear hV
  replace hT := hT.on BW
  obtain ⟨w1, e_w1⟩ : ∃ w', V.alloc (.cells #[.int .u64 (ba : Int), .int .u64 (bb : Int), .int .u64 (bc : Int)] 22) = w' := ⟨_, rfl⟩
  have b : Below V.heap.size V w1 := e_w1 ▸ below_lit _ _
  have hs_w1 : w1.heap.size = (w.heap.size + 1) + 1 := e_w1 ▸ size_lit V _ sW
  have ob : OB w1 (w.heap.size + 1) [ba, bb, bc] := e_w1 ▸ OB.three V sW ba bb bc
  rw [e_w1]
  clear e_w1
  replace z4 := z4.on b
  replace hT := hT.on b
  replace BW := Below.step BW b
  clear b
  clear hs_w1
  clear sW
  refine (wrong_as hf [ba, bb, bc] HL.out (n := 3) rfl (by omega) ob mode q HW.out).mono ?_
  rintro en w2 ⟨rfl, b⟩
  replace z4 := z4.on b
  replace hT := hT.on b
  replace ob := ob.on b
  replace BW := Below.step BW b
  clear b
  clear ob
  obtain ⟨z4c0, z4c1, z4c2, z4f0, z4f1, z4f2, z4l⟩ := z4.cells
  go_wp2_with fail
  refine bodyPost_ret (v := .tuple #[.int .u64 (0), .int .i64 0, .int .i64 q]) (by simp [results, Tryz.results13, go_sem]) rfl ⟨rfl, BW⟩
theorem fma_none_true {B P W M E H : Nat} {low : Int} (hf : Fm B P W M E H low) (mode : Int) (ba bb bc : Nat) (hba : ba < 18446744073709551616) (hbb : bb < 18446744073709551616) (hbc : bc < 18446744073709551616) {w : World} (hT : Tab w) (q : Int) (hw : wrongS H mode [ba, bb, bc] = q) (dq : (q != 0) = false) {r1 : Nat} {r2 : Int} (hn : nonS M E H [ba, bb, bc] = (r1, r2, true)) (hv : vainB M E ba bb = true) :
    Calls Tryz.prog 13 #[.agg #[.int .i64 (B : Int), .int .i64 (P : Int), .int .i64 (W : Int)], .int .i64 mode, .int .u64 (ba : Int), .int .u64 (bb : Int), .int .u64 (bc : Int)] w (ToX w r1 16 0) := by
  have HL : Hid (∀ x ∈ [ba, bb, bc], x < 18446744073709551616) := Lib.hid (by intro x hx; simp only [List.mem_cons, List.not_mem_nil, or_false] at hx; omega)
  have HW := Lib.hid hw
  clear hw
  have HN := Lib.hid hn
  clear hn
  have HV := Lib.hid hv
  clear hv
  go_enter Tryz.func13, Tryz.ntmps13
  go_wp2_with fail
  obtain ⟨V, hV, z4, BW, sW⟩ := fframe1 w 25 (B : Int) (P : Int) (W : Int)
  rw [hV]
  clear hV
  replace hT := hT.on BW
  obtain ⟨w1, e_w1⟩ : ∃ w', V.alloc (.cells #[.int .u64 (ba : Int), .int .u64 (bb : Int), .int .u64 (bc : Int)] 22) = w' := ⟨_, rfl⟩
  have b : Below V.heap.size V w1 := e_w1 ▸ below_lit _ _
  have hs_w1 : w1.heap.size = (w.heap.size + 1) + 1 := e_w1 ▸ size_lit V _ sW
  have ob : OB w1 (w.heap.size + 1) [ba, bb, bc] := e_w1 ▸ OB.three V sW ba bb bc
  rw [e_w1]
  clear e_w1
  replace z4 := z4.on b
  replace hT := hT.on b
  replace BW := Below.step BW b
  clear b
  clear hs_w1
  clear sW
  refine (wrong_as hf [ba, bb, bc] HL.out (n := 3) rfl (by omega) ob mode q HW.out).mono ?_
  rintro en w2 ⟨rfl, b⟩
  replace z4 := z4.on b
  replace hT := hT.on b
  replace ob := ob.on b
  replace BW := Below.step BW b
  clear b
  clear ob
  obtain ⟨z4c0, z4c1, z4c2, z4f0, z4f1, z4f2, z4l⟩ := z4.cells
  go_wp2_with fail
  clear z4c0 z4c1 z4c2 z4f0 z4f1 z4f2 z4l
  obtain ⟨w3, e_w3⟩ : ∃ w', w2.alloc (.cells #[.int .u64 (ba : Int), .int .u64 (bb : Int), .int .u64 (bc : Int)] 22) = w' := ⟨_, rfl⟩
  have b : Below w2.heap.size w2 w3 := e_w3 ▸ below_lit _ _
  have hs_w3 : w3.heap.size = w2.heap.size + 1 := e_w3 ▸ size_lit w2 _ rfl
  have oc : OB w3 w2.heap.size [ba, bb, bc] := e_w3 ▸ OB.three w2 rfl ba bb bc
  rw [e_w3]
  clear e_w3
  replace z4 := z4.on b
  replace hT := hT.on b
  replace BW := Below.step BW b
  clear b
  clear hs_w3
  refine (none_as hf [ba, bb, bc] HL.out (n := 3) rfl (by omega) oc HN.out).mono ?_
  rintro en w4 ⟨rfl, b⟩
  replace z4 := z4.on b
  replace hT := hT.on b
  replace oc := oc.on b
  replace BW := Below.step BW b
  clear b
  clear oc
  obtain ⟨z4c0, z4c1, z4c2, z4f0, z4f1, z4f2, z4l⟩ := z4.cells
  go_wp2_with fail
  refine (makes_as hf ba bb hba hbb _ HV.out _).mono ?_
  rintro en w5 ⟨rfl, b⟩
  clear z4c0 z4c1 z4c2 z4f0 z4f1 z4f2 z4l
  replace z4 := z4.on b
  replace hT := hT.on b
  replace BW := Below.step BW b
  clear b
  obtain ⟨z4c0, z4c1, z4c2, z4f0, z4f1, z4f2, z4l⟩ := z4.cells
  go_wp2_with fail
  refine bodyPost_ret (v := .tuple #[.int .u64 ((r1 : Int)), .int .i64 16, .int .i64 0]) (by simp [results, Tryz.results13, go_sem]) rfl ⟨rfl, BW⟩
theorem fma_none_false {B P W M E H : Nat} {low : Int} (hf : Fm B P W M E H low) (mode : Int) (ba bb bc : Nat) (hba : ba < 18446744073709551616) (hbb : bb < 18446744073709551616) (hbc : bc < 18446744073709551616) {w : World} (hT : Tab w) (q : Int) (hw : wrongS H mode [ba, bb, bc] = q) (dq : (q != 0) = false) {r1 : Nat} {r2 : Int} (hn : nonS M E H [ba, bb, bc] = (r1, r2, true)) (hv : vainB M E ba bb = false) :
    Calls Tryz.prog 13 #[.agg #[.int .i64 (B : Int), .int .i64 (P : Int), .int .i64 (W : Int)], .int .i64 mode, .int .u64 (ba : Int), .int .u64 (bb : Int), .int .u64 (bc : Int)] w (ToX w r1 r2 0) := by
  have HL : Hid (∀ x ∈ [ba, bb, bc], x < 18446744073709551616) := Lib.hid (by intro x hx; simp only [List.mem_cons, List.not_mem_nil, or_false] at hx; omega)
  have HW := Lib.hid hw
  clear hw
  have HN := Lib.hid hn
  clear hn
  have HV := Lib.hid hv
  clear hv
  go_enter Tryz.func13, Tryz.ntmps13
  go_wp2_with fail
  obtain ⟨V, hV, z4, BW, sW⟩ := fframe1 w 25 (B : Int) (P : Int) (W : Int)
  rw [hV]
  clear hV
  replace hT := hT.on BW
  obtain ⟨w1, e_w1⟩ : ∃ w', V.alloc (.cells #[.int .u64 (ba : Int), .int .u64 (bb : Int), .int .u64 (bc : Int)] 22) = w' := ⟨_, rfl⟩
  have b : Below V.heap.size V w1 := e_w1 ▸ below_lit _ _
  have hs_w1 : w1.heap.size = (w.heap.size + 1) + 1 := e_w1 ▸ size_lit V _ sW
  have ob : OB w1 (w.heap.size + 1) [ba, bb, bc] := e_w1 ▸ OB.three V sW ba bb bc
  rw [e_w1]
  clear e_w1
  replace z4 := z4.on b
  replace hT := hT.on b
  replace BW := Below.step BW b
  clear b
  clear hs_w1
  clear sW
  refine (wrong_as hf [ba, bb, bc] HL.out (n := 3) rfl (by omega) ob mode q HW.out).mono ?_
  rintro en w2 ⟨rfl, b⟩
  replace z4 := z4.on b
  replace hT := hT.on b
  replace ob := ob.on b
  replace BW := Below.step BW b
  clear b
  clear ob
  obtain ⟨z4c0, z4c1, z4c2, z4f0, z4f1, z4f2, z4l⟩ := z4.cells
  go_wp2_with fail
  clear z4c0 z4c1 z4c2 z4f0 z4f1 z4f2 z4l
  obtain ⟨w3, e_w3⟩ : ∃ w', w2.alloc (.cells #[.int .u64 (ba : Int), .int .u64 (bb : Int), .int .u64 (bc : Int)] 22) = w' := ⟨_, rfl⟩
  have b : Below w2.heap.size w2 w3 := e_w3 ▸ below_lit _ _
  have hs_w3 : w3.heap.size = w2.heap.size + 1 := e_w3 ▸ size_lit w2 _ rfl
  have oc : OB w3 w2.heap.size [ba, bb, bc] := e_w3 ▸ OB.three w2 rfl ba bb bc
  rw [e_w3]
  clear e_w3
  replace z4 := z4.on b
  replace hT := hT.on b
  replace BW := Below.step BW b
  clear b
  clear hs_w3
  refine (none_as hf [ba, bb, bc] HL.out (n := 3) rfl (by omega) oc HN.out).mono ?_
  rintro en w4 ⟨rfl, b⟩
  replace z4 := z4.on b
  replace hT := hT.on b
  replace oc := oc.on b
  replace BW := Below.step BW b
  clear b
  clear oc
  obtain ⟨z4c0, z4c1, z4c2, z4f0, z4f1, z4f2, z4l⟩ := z4.cells
  go_wp2_with fail
  refine (makes_as hf ba bb hba hbb _ HV.out _).mono ?_
  rintro en w5 ⟨rfl, b⟩
  clear z4c0 z4c1 z4c2 z4f0 z4f1 z4f2 z4l
  replace z4 := z4.on b
  replace hT := hT.on b
  replace BW := Below.step BW b
  clear b
  obtain ⟨z4c0, z4c1, z4c2, z4f0, z4f1, z4f2, z4l⟩ := z4.cells
  go_wp2_with fail
  refine bodyPost_ret (v := .tuple #[.int .u64 ((r1 : Int)), .int .i64 r2, .int .i64 0]) (by simp [results, Tryz.results13, go_sem]) rfl ⟨rfl, BW⟩
theorem fma_vain {B P W M E H : Nat} {low : Int} (hf : Fm B P W M E H low) (mode : Int) (ba bb bc : Nat) (hba : ba < 18446744073709551616) (hbb : bb < 18446744073709551616) (hbc : bc < 18446744073709551616) {w : World} (hT : Tab w) (q : Int) (hw : wrongS H mode [ba, bb, bc] = q) (dq : (q != 0) = false) {r1 : Nat} {r2 : Int} (hn : nonS M E H [ba, bb, bc] = (r1, r2, false)) (hv : vainB M E ba bb = true) (v : Nat) (hu : M * E + M / 2 = v) :
    Calls Tryz.prog 13 #[.agg #[.int .i64 (B : Int), .int .i64 (P : Int), .int .i64 (W : Int)], .int .i64 mode, .int .u64 (ba : Int), .int .u64 (bb : Int), .int .u64 (bc : Int)] w (ToX w v 16 0) := by
  have HL : Hid (∀ x ∈ [ba, bb, bc], x < 18446744073709551616) := Lib.hid (by intro x hx; simp only [List.mem_cons, List.not_mem_nil, or_false] at hx; omega)
  have HW := Lib.hid hw
  clear hw
  have HN := Lib.hid hn
  clear hn
  have HV := Lib.hid hv
  clear hv
  go_enter Tryz.func13, Tryz.ntmps13
  go_wp2_with fail
  obtain ⟨V, hV, z4, BW, sW⟩ := fframe1 w 25 (B : Int) (P : Int) (W : Int)
  rw [hV]
  clear hV
  replace hT := hT.on BW
  obtain ⟨w1, e_w1⟩ : ∃ w', V.alloc (.cells #[.int .u64 (ba : Int), .int .u64 (bb : Int), .int .u64 (bc : Int)] 22) = w' := ⟨_, rfl⟩
  have b : Below V.heap.size V w1 := e_w1 ▸ below_lit _ _
  have hs_w1 : w1.heap.size = (w.heap.size + 1) + 1 := e_w1 ▸ size_lit V _ sW
  have ob : OB w1 (w.heap.size + 1) [ba, bb, bc] := e_w1 ▸ OB.three V sW ba bb bc
  rw [e_w1]
  clear e_w1
  replace z4 := z4.on b
  replace hT := hT.on b
  replace BW := Below.step BW b
  clear b
  clear hs_w1
  clear sW
  refine (wrong_as hf [ba, bb, bc] HL.out (n := 3) rfl (by omega) ob mode q HW.out).mono ?_
  rintro en w2 ⟨rfl, b⟩
  replace z4 := z4.on b
  replace hT := hT.on b
  replace ob := ob.on b
  replace BW := Below.step BW b
  clear b
  clear ob
  obtain ⟨z4c0, z4c1, z4c2, z4f0, z4f1, z4f2, z4l⟩ := z4.cells
  go_wp2_with fail
  clear z4c0 z4c1 z4c2 z4f0 z4f1 z4f2 z4l
  obtain ⟨w3, e_w3⟩ : ∃ w', w2.alloc (.cells #[.int .u64 (ba : Int), .int .u64 (bb : Int), .int .u64 (bc : Int)] 22) = w' := ⟨_, rfl⟩
  have b : Below w2.heap.size w2 w3 := e_w3 ▸ below_lit _ _
  have hs_w3 : w3.heap.size = w2.heap.size + 1 := e_w3 ▸ size_lit w2 _ rfl
  have oc : OB w3 w2.heap.size [ba, bb, bc] := e_w3 ▸ OB.three w2 rfl ba bb bc
  rw [e_w3]
  clear e_w3
  replace z4 := z4.on b
  replace hT := hT.on b
  replace BW := Below.step BW b
  clear b
  clear hs_w3
  refine (none_as hf [ba, bb, bc] HL.out (n := 3) rfl (by omega) oc HN.out).mono ?_
  rintro en w4 ⟨rfl, b⟩
  replace z4 := z4.on b
  replace hT := hT.on b
  replace oc := oc.on b
  replace BW := Below.step BW b
  clear b
  clear oc
  obtain ⟨z4c0, z4c1, z4c2, z4f0, z4f1, z4f2, z4l⟩ := z4.cells
  go_wp2_with fail
  refine (makes_as hf ba bb hba hbb _ HV.out _).mono ?_
  rintro en w5 ⟨rfl, b⟩
  clear z4c0 z4c1 z4c2 z4f0 z4f1 z4f2 z4l
  replace z4 := z4.on b
  replace hT := hT.on b
  replace BW := Below.step BW b
  clear b
  obtain ⟨z4c0, z4c1, z4c2, z4f0, z4f1, z4f2, z4l⟩ := z4.cells
  go_wp2_with fail
  refine (unmade_as hf v hu _).mono ?_
  rintro en w6 ⟨rfl, b⟩
  clear z4c0 z4c1 z4c2 z4f0 z4f1 z4f2 z4l
  replace z4 := z4.on b
  replace hT := hT.on b
  replace BW := Below.step BW b
  clear b
  go_wp2_with fail
  refine bodyPost_ret (v := .tuple #[.int .u64 ((v : Int)), .int .i64 16, .int .i64 0]) (by simp [results, Tryz.results13, go_sem]) rfl ⟨rfl, BW⟩
set_option maxHeartbeats 4000000 in
theorem fma_sum {B P W M E H : Nat} {low : Int} (hf : Fm B P W M E H low) (mode : Int) (ba bb bc : Nat) (hba : ba < 18446744073709551616) (hbb : bb < 18446744073709551616) (hbc : bc < 18446744073709551616) {w : World} (hT : Tab w) (q : Int) (hw : wrongS H mode [ba, bb, bc] = q) (dq : (q != 0) = false) {r1 : Nat} {r2 : Int} (hn : nonS M E H [ba, bb, bc] = (r1, r2, false)) (hv : vainB M E ba bb = false) {ng iv rn : Bool} {rx : Nat} {re : Int} (hp : prodT (tmS M E H low ba) (tmS M E H low bb) = ⟨ng, iv, ⟨rn, rx, re⟩⟩) (hlr : blen rx ≤ 4096) {g2 i2 d2 : Bool} {x2 : Nat} {e2 : Int} (h2 : tmS M E H low bc = ⟨g2, i2, ⟨d2, x2, e2⟩⟩) (hlbc : blen x2 ≤ 4096) (hs : iv = false → i2 = false → ∃ ae, addS ⟨rn, rx, re⟩ ⟨d2, x2, e2⟩ = (D.add ⟨rn, rx, re⟩ ⟨d2, x2, e2⟩, ae) ∧ blen (D.add ⟨rn, rx, re⟩ ⟨d2, x2, e2⟩).x ≤ 4096) {v : Nat} {fl err : Int} (hr : sumT P M E H low mode ⟨ng, iv, ⟨rn, rx, re⟩⟩ ⟨g2, i2, ⟨d2, x2, e2⟩⟩ = (v, fl, err)) :
    Calls Tryz.prog 13 #[.agg #[.int .i64 (B : Int), .int .i64 (P : Int), .int .i64 (W : Int)], .int .i64 mode, .int .u64 (ba : Int), .int .u64 (bb : Int), .int .u64 (bc : Int)] w (ToX w v fl err) := by
  have HL : Hid (∀ x ∈ [ba, bb, bc], x < 18446744073709551616) := Lib.hid (by intro x hx; simp only [List.mem_cons, List.not_mem_nil, or_false] at hx; omega)
  have HW := Lib.hid hw
  clear hw
  have HN := Lib.hid hn
  clear hn
  have HV := Lib.hid hv
  clear hv
  have HP := Lib.hid hp
  clear hp
  have HB := Lib.hid h2
  have HS := Lib.hid hs
  have HR := Lib.hid hr
  clear h2 hs hr
  go_enter Tryz.func13, Tryz.ntmps13
  go_wp2_with fail
  obtain ⟨V, hV, z4, BW, sW⟩ := fframe1 w 25 (B : Int) (P : Int) (W : Int)
  rw [hV]
  clear hV
  replace hT := hT.on BW
  obtain ⟨w1, e_w1⟩ : ∃ w', V.alloc (.cells #[.int .u64 (ba : Int), .int .u64 (bb : Int), .int .u64 (bc : Int)] 22) = w' := ⟨_, rfl⟩
  have b : Below V.heap.size V w1 := e_w1 ▸ below_lit _ _
  have hs_w1 : w1.heap.size = (w.heap.size + 1) + 1 := e_w1 ▸ size_lit V _ sW
  have ob : OB w1 (w.heap.size + 1) [ba, bb, bc] := e_w1 ▸ OB.three V sW ba bb bc
  rw [e_w1]
  clear e_w1
  replace z4 := z4.on b
  replace hT := hT.on b
  replace BW := Below.step BW b
  clear b
  clear hs_w1
  clear sW
  refine (wrong_as hf [ba, bb, bc] HL.out (n := 3) rfl (by omega) ob mode q HW.out).mono ?_
  rintro en w2 ⟨rfl, b⟩
  replace z4 := z4.on b
  replace hT := hT.on b
  replace ob := ob.on b
  replace BW := Below.step BW b
  clear b
  clear ob
  obtain ⟨z4c0, z4c1, z4c2, z4f0, z4f1, z4f2, z4l⟩ := z4.cells
  go_wp2_with fail
  clear z4c0 z4c1 z4c2 z4f0 z4f1 z4f2 z4l
  obtain ⟨w3, e_w3⟩ : ∃ w', w2.alloc (.cells #[.int .u64 (ba : Int), .int .u64 (bb : Int), .int .u64 (bc : Int)] 22) = w' := ⟨_, rfl⟩
  have b : Below w2.heap.size w2 w3 := e_w3 ▸ below_lit _ _
  have hs_w3 : w3.heap.size = w2.heap.size + 1 := e_w3 ▸ size_lit w2 _ rfl
  have oc : OB w3 w2.heap.size [ba, bb, bc] := e_w3 ▸ OB.three w2 rfl ba bb bc
  rw [e_w3]
  clear e_w3
  replace z4 := z4.on b
  replace hT := hT.on b
  replace BW := Below.step BW b
  clear b
  clear hs_w3
  refine (none_as hf [ba, bb, bc] HL.out (n := 3) rfl (by omega) oc HN.out).mono ?_
  rintro en w4 ⟨rfl, b⟩
  replace z4 := z4.on b
  replace hT := hT.on b
  replace oc := oc.on b
  replace BW := Below.step BW b
  clear b
  clear oc
  obtain ⟨z4c0, z4c1, z4c2, z4f0, z4f1, z4f2, z4l⟩ := z4.cells
  go_wp2_with fail
  refine (makes_as hf ba bb hba hbb _ HV.out _).mono ?_
  rintro en w5 ⟨rfl, b⟩
  clear z4c0 z4c1 z4c2 z4f0 z4f1 z4f2 z4l
  replace z4 := z4.on b
  replace hT := hT.on b
  replace BW := Below.step BW b
  clear b
  obtain ⟨z4c0, z4c1, z4c2, z4f0, z4f1, z4f2, z4l⟩ := z4.cells
  go_wp2_with fail
  clear z4c0 z4c1 z4c2 z4f0 z4f1 z4f2 z4l
  replace z4 := z4.on ((Below.refl _ _).drew : Below w5.heap.size w5 w5.drew)
  replace hT := hT.on ((Below.refl _ _).drew : Below w5.heap.size w5 w5.drew)
  replace BW := Lib.hid (Below.step BW ((Below.refl _ _).drew : Below w5.heap.size w5 w5.drew))
  go_region_held3 (fun w' => w'.cell? ⟨w.heap.size, 0, none⟩ = some (.int .i64 (B : Int)) ∧ w'.cell? ⟨w.heap.size, 1, none⟩ = some (.int .i64 (P : Int)) ∧ w'.cell? ⟨w.heap.size, 2, none⟩ = some (.int .i64 (W : Int)))
    ((first | (with_reducible exact ⟨z4.cells.1, z4.cells.2.1, z4.cells.2.2.1⟩)))
    (first
      | (go_at_call 28
         (with_reducible refine (product_as hf ba bb hba hbb hT HP.out).mono ?_)
         rintro en w6 ⟨V_ra, v_ra, rfl, ra, b⟩
         replace z4 := z4.on b
         replace hT := hT.on b
         first | (revert rb; intro rb; replace rb := rb.on b) | skip
         replace BW := Lib.hid (Below.step BW.out b)
         have la := res_n_le ra (k := 128) hlr
         clear b)
      | (go_at_call 20
         (with_reducible refine (term_as hf bc hbc hT HB.out).mono ?_)
         rintro en w7 ⟨V_rb, v_rb, rfl, rb, b⟩
         replace z4 := z4.on b
         replace hT := hT.on b
         first | (revert ra; intro ra; replace ra := ra.on b) | skip
         replace BW := Lib.hid (Below.step BW.out b)
         have lb := res_n_le rb (k := 128) hlbc
         clear b)
      | (go_at_call 19
         (with_reducible refine (sum_as hf (ra.arg (by omega)) (rb.arg (by omega)) (by omega) (by omega) hT mode HS.out HR.out).mono ?_)
         rintro en w8 ⟨rfl, b⟩
         replace z4 := z4.on b
         replace hT := hT.on b
         first | (revert ra; intro ra; replace ra := ra.on b) | skip
         first | (revert rb; intro rb; replace rb := rb.on b) | skip
         replace BW := Lib.hid (Below.step BW.out b)
         clear b))
  all_goals replace BW := BW.out
  all_goals (go_wp2_with fail; refine bodyPost_ret (v := .tuple #[.int .u64 (v : Int), .int .i64 fl, .int .i64 err]) (by simp [results, Tryz.results13, go_sem]) rfl ⟨rfl, BW⟩)
theorem add_as {B P W M E H : Nat} {low : Int} (hf : Fm B P W M E H low) (mode : Int) (ba bb : Nat) (hba : ba < 18446744073709551616) (hbb : bb < 18446744073709551616) {w : World} (hT : Tab w) {v : Nat} {fl err : Int} (hr : addI P M E H low mode ba bb = (v, fl, err)) :
    Calls Tryz.prog 7 #[.agg #[.int .i64 (B : Int), .int .i64 (P : Int), .int .i64 (W : Int)], .int .i64 mode, .int .u64 (ba : Int), .int .u64 (bb : Int)] w (ToX w v fl err) := by
  unfold addI at hr
  obtain ⟨q, hq⟩ : ∃ q, wrongS H mode [ba, bb] = q := ⟨_, rfl⟩
  obtain ⟨⟨r1, r2, r3⟩, hn⟩ : ∃ r, nonS M E H [ba, bb] = r := ⟨_, rfl⟩
  rw [hq, hn] at hr
  by_cases h0 : q = 0
  · have dq : (q != 0) = false := by simpa using h0
    rw [if_neg (by simpa using h0)] at hr
    cases r3
    · simp only [Bool.false_eq_true, if_false] at hr
      obtain ⟨⟨d1, x1, e1⟩, hd1⟩ : ∃ d, (valS M E H low ba).1 = d := ⟨_, rfl⟩
      have t1 : tmS M E H low ba = ⟨ngB H ba, infB M E ba, ⟨d1, x1, e1⟩⟩ := by unfold tmS; rw [hd1]
      have l1 := (val_in hf ba).2.2.2.2
      rw [hd1] at l1
      simp only at l1
      obtain ⟨⟨d2, x2, e2⟩, hd2⟩ : ∃ d, (valS M E H low bb).1 = d := ⟨_, rfl⟩
      have t2 : tmS M E H low bb = ⟨ngB H bb, infB M E bb, ⟨d2, x2, e2⟩⟩ := by unfold tmS; rw [hd2]
      have l2 := (val_in hf bb).2.2.2.2
      rw [hd2] at l2
      simp only at l2
      have hs := val_add hf ba bb
      rw [hd1, hd2] at hs
      rw [t1, t2] at hr
      exact add_sum hf mode ba bb hba hbb hT q hq dq hn t1 (by omega) t2 (by omega) (fun _ _ => ⟨0, hs.1, hs.2.1⟩) hr
    · simp only [if_true, Prod.mk.injEq] at hr
      obtain ⟨rfl, rfl, rfl⟩ := hr
      exact add_none hf mode ba bb hba hbb hT q hq dq hn
  · have dq : (q != 0) = true := by simpa using h0
    rw [if_pos h0] at hr
    simp only [Prod.mk.injEq] at hr
    obtain ⟨rfl, rfl, rfl⟩ := hr
    exact add_wrong hf mode ba bb hba hbb hT q hq dq
theorem mul_as {B P W M E H : Nat} {low : Int} (hf : Fm B P W M E H low) (mode : Int) (ba bb : Nat) (hba : ba < 18446744073709551616) (hbb : bb < 18446744073709551616) {w : World} (hT : Tab w) {v : Nat} {fl err : Int} (hr : mulI P M E H low mode ba bb = (v, fl, err)) :
    Calls Tryz.prog 11 #[.agg #[.int .i64 (B : Int), .int .i64 (P : Int), .int .i64 (W : Int)], .int .i64 mode, .int .u64 (ba : Int), .int .u64 (bb : Int)] w (ToX w v fl err) := by
  unfold mulI at hr
  obtain ⟨q, hq⟩ : ∃ q, wrongS H mode [ba, bb] = q := ⟨_, rfl⟩
  obtain ⟨⟨r1, r2, r3⟩, hn⟩ : ∃ r, nonS M E H [ba, bb] = r := ⟨_, rfl⟩
  rw [hq, hn] at hr
  by_cases h0 : q = 0
  · have dq : (q != 0) = false := by simpa using h0
    rw [if_neg (by simpa using h0)] at hr
    cases r3
    · simp only [Bool.false_eq_true, if_false] at hr
      obtain ⟨vb, hvb⟩ : ∃ x, vainB M E ba bb = x := ⟨_, rfl⟩
      rw [hvb] at hr
      cases vb
      · simp only [Bool.false_eq_true, if_false] at hr
        obtain ⟨⟨ng, iv, ⟨rn, rx, re⟩⟩, hp⟩ : ∃ t, prodT (tmS M E H low ba) (tmS M E H low bb) = t := ⟨_, rfl⟩
        have hm := val_mul hf ba bb
        have hpd : D.mul (valS M E H low ba).1 (valS M E H low bb).1 = ⟨rn, rx, re⟩ := congrArg Tm.d hp
        rw [hpd] at hm
        have hlr := hm.2.1
        simp only at hlr
        rw [hp] at hr
        exact mul_prod hf mode ba bb hba hbb hT q hq dq hn hvb hp hlr hr
      · simp only [if_true, Prod.mk.injEq] at hr
        obtain ⟨hu, rfl, rfl⟩ := hr
        exact mul_vain hf mode ba bb hba hbb hT q hq dq hn hvb v hu
    · simp only [if_true, Prod.mk.injEq] at hr
      obtain ⟨rfl, rfl, rfl⟩ := hr
      exact mul_none hf mode ba bb hba hbb hT q hq dq hn
  · have dq : (q != 0) = true := by simpa using h0
    rw [if_pos h0] at hr
    simp only [Prod.mk.injEq] at hr
    obtain ⟨rfl, rfl, rfl⟩ := hr
    exact mul_wrong hf mode ba bb hba hbb hT q hq dq
theorem fma_as {B P W M E H : Nat} {low : Int} (hf : Fm B P W M E H low) (mode : Int) (ba bb bc : Nat) (hba : ba < 18446744073709551616) (hbb : bb < 18446744073709551616) (hbc : bc < 18446744073709551616) {w : World} (hT : Tab w) {v : Nat} {fl err : Int} (hr : fmaI P M E H low mode ba bb bc = (v, fl, err)) :
    Calls Tryz.prog 13 #[.agg #[.int .i64 (B : Int), .int .i64 (P : Int), .int .i64 (W : Int)], .int .i64 mode, .int .u64 (ba : Int), .int .u64 (bb : Int), .int .u64 (bc : Int)] w (ToX w v fl err) := by
  unfold fmaI at hr
  obtain ⟨q, hq⟩ : ∃ q, wrongS H mode [ba, bb, bc] = q := ⟨_, rfl⟩
  obtain ⟨⟨r1, r2, r3⟩, hn⟩ : ∃ r, nonS M E H [ba, bb, bc] = r := ⟨_, rfl⟩
  rw [hq, hn] at hr
  by_cases h0 : q = 0
  · have dq : (q != 0) = false := by simpa using h0
    rw [if_neg (by simpa using h0)] at hr
    cases r3
    · simp only [Bool.false_eq_true, if_false] at hr
      obtain ⟨vb, hvb⟩ : ∃ x, vainB M E ba bb = x := ⟨_, rfl⟩
      rw [hvb] at hr
      cases vb
      · simp only [Bool.false_eq_true, if_false] at hr
        obtain ⟨⟨ng, iv, ⟨rn, rx, re⟩⟩, hp⟩ : ∃ t, prodT (tmS M E H low ba) (tmS M E H low bb) = t := ⟨_, rfl⟩
        have hm := val_mul hf ba bb
        have hpd : D.mul (valS M E H low ba).1 (valS M E H low bb).1 = ⟨rn, rx, re⟩ := congrArg Tm.d hp
        rw [hpd] at hm
        have hlr := hm.2.1
        simp only at hlr
        rw [hp] at hr
        obtain ⟨⟨d2, x2, e2⟩, hd2⟩ : ∃ d, (valS M E H low bc).1 = d := ⟨_, rfl⟩
        have t2 : tmS M E H low bc = ⟨ngB H bc, infB M E bc, ⟨d2, x2, e2⟩⟩ := by unfold tmS; rw [hd2]
        have l2 := (val_in hf bc).2.2.2.2
        rw [hd2] at l2
        simp only at l2
        have hs := val_fma hf ba bb bc
        rw [hpd, hd2] at hs
        rw [t2] at hr
        exact fma_sum hf mode ba bb bc hba hbb hbc hT q hq dq hn hvb hp hlr t2 (by omega) (fun _ _ => ⟨0, hs.1, hs.2.1⟩) hr
      · simp only [if_true, Prod.mk.injEq] at hr
        obtain ⟨hu, rfl, rfl⟩ := hr
        exact fma_vain hf mode ba bb bc hba hbb hbc hT q hq dq hn hvb v hu
    · simp only [if_true, Prod.mk.injEq] at hr
      obtain ⟨rfl, h2, rfl⟩ := hr
      obtain ⟨vb, hvb⟩ : ∃ x, vainB M E ba bb = x := ⟨_, rfl⟩
      rw [hvb] at h2
      cases vb
      · simp only [Bool.false_eq_true, if_false] at h2
        subst h2
        exact fma_none_false hf mode ba bb bc hba hbb hbc hT q hq dq hn hvb
      · simp only [if_true] at h2
        subst h2
        exact fma_none_true hf mode ba bb bc hba hbb hbc hT q hq dq hn hvb
  · have dq : (q != 0) = true := by simpa using h0
    rw [if_pos h0] at hr
    simp only [Prod.mk.injEq] at hr
    obtain ⟨rfl, rfl, rfl⟩ := hr
    exact fma_wrong hf mode ba bb bc hba hbb hbc hT q hq dq
theorem sub_range {B P W M E H : Nat} {low : Int} (hf : Fm B P W M E H low) (mode : Int) (ba bb : Nat) (hba : ba < 18446744073709551616) (hbb : bb < 18446744073709551616) {w : World} (hT : Tab w) (hm : decide (bb < 2 * H) = false) {v : Nat} {fl err : Int} (hr : addI P M E H low mode ba bb = (v, fl, err)) :
    Calls Tryz.prog 9 #[.agg #[.int .i64 (B : Int), .int .i64 (P : Int), .int .i64 (W : Int)], .int .i64 mode, .int .u64 (ba : Int), .int .u64 (bb : Int)] w (ToX w v fl err) := by
  have HM := Lib.hid (fun V => fmay_as hf bb hbb false hm V)
  have HR := Lib.hid hr
  clear hm hr
  go_enter Tryz.func9, Tryz.ntmps9
  go_wp2_with fail
  obtain ⟨V, hV, z4, BW, sW⟩ := fframe1 w 25 (B : Int) (P : Int) (W : Int)
  rw [hV]
  clear hV sW
  replace hT := hT.on BW
  refine (HM.out _).mono ?_
  rintro en w1 ⟨rfl, b⟩
  replace z4 := z4.on b
  replace hT := hT.on b
  replace BW := Below.step BW b
  clear b
  obtain ⟨z4c0, z4c1, z4c2, z4f0, z4f1, z4f2, z4l⟩ := z4.cells
  go_wp2_with fail
  refine (add_as hf mode ba bb hba hbb hT HR.out).mono ?_
  rintro en w2 ⟨rfl, b⟩
  clear z4c0 z4c1 z4c2 z4f0 z4f1 z4f2 z4l
  replace z4 := z4.on b
  replace hT := hT.on b
  replace BW := Below.step BW b
  clear b
  go_wp2_with fail
  refine bodyPost_ret (v := .tuple #[.int .u64 ((v : Int)), .int .i64 fl, .int .i64 err]) (by simp [results, Tryz.results9, go_sem]) rfl ⟨rfl, BW⟩
theorem sub_nan {B P W M E H : Nat} {low : Int} (hf : Fm B P W M E H low) (mode : Int) (ba bb : Nat) (hba : ba < 18446744073709551616) (hbb : bb < 18446744073709551616) {w : World} (hT : Tab w) (hm : decide (bb < 2 * H) = true) (hn : nanB M E bb = true) {v : Nat} {fl err : Int} (hr : addI P M E H low mode ba bb = (v, fl, err)) :
    Calls Tryz.prog 9 #[.agg #[.int .i64 (B : Int), .int .i64 (P : Int), .int .i64 (W : Int)], .int .i64 mode, .int .u64 (ba : Int), .int .u64 (bb : Int)] w (ToX w v fl err) := by
  have HM := Lib.hid (fun V => fmay_as hf bb hbb true hm V)
  have HN := Lib.hid (fun V => isNone_as hf bb hbb true hn V)
  have HR := Lib.hid hr
  clear hm hn hr
  go_enter Tryz.func9, Tryz.ntmps9
  go_wp2_with fail
  obtain ⟨V, hV, z4, BW, sW⟩ := fframe1 w 25 (B : Int) (P : Int) (W : Int)
  rw [hV]
  clear hV sW
  replace hT := hT.on BW
  refine (HM.out _).mono ?_
  rintro en w1 ⟨rfl, b⟩
  replace z4 := z4.on b
  replace hT := hT.on b
  replace BW := Below.step BW b
  clear b
  obtain ⟨z4c0, z4c1, z4c2, z4f0, z4f1, z4f2, z4l⟩ := z4.cells
  go_wp2_with fail
  refine (HN.out _).mono ?_
  rintro en w2 ⟨rfl, b⟩
  clear z4c0 z4c1 z4c2 z4f0 z4f1 z4f2 z4l
  replace z4 := z4.on b
  replace hT := hT.on b
  replace BW := Below.step BW b
  clear b
  obtain ⟨z4c0, z4c1, z4c2, z4f0, z4f1, z4f2, z4l⟩ := z4.cells
  go_wp2_with fail
  refine (add_as hf mode ba bb hba hbb hT HR.out).mono ?_
  rintro en w3 ⟨rfl, b⟩
  clear z4c0 z4c1 z4c2 z4f0 z4f1 z4f2 z4l
  replace z4 := z4.on b
  replace hT := hT.on b
  replace BW := Below.step BW b
  clear b
  go_wp2_with fail
  refine bodyPost_ret (v := .tuple #[.int .u64 ((v : Int)), .int .i64 fl, .int .i64 err]) (by simp [results, Tryz.results9, go_sem]) rfl ⟨rfl, BW⟩
theorem sub_turn {B P W M E H : Nat} {low : Int} (hf : Fm B P W M E H low) (mode : Int) (ba bb : Nat) (hba : ba < 18446744073709551616) (hbb : bb < 18446744073709551616) {w : World} (hT : Tab w) (hm : decide (bb < 2 * H) = true) (hn : nanB M E bb = false) (bt : Nat) (ht : trnS H bb = bt) (hbt : bt < 18446744073709551616) {v : Nat} {fl err : Int} (hr : addI P M E H low mode ba bt = (v, fl, err)) :
    Calls Tryz.prog 9 #[.agg #[.int .i64 (B : Int), .int .i64 (P : Int), .int .i64 (W : Int)], .int .i64 mode, .int .u64 (ba : Int), .int .u64 (bb : Int)] w (ToX w v fl err) := by
  have HM := Lib.hid (fun V => fmay_as hf bb hbb true hm V)
  have HN := Lib.hid (fun V => isNone_as hf bb hbb false hn V)
  have HT := Lib.hid (fun V => turned_as hf bb hbb bt ht V)
  have HR := Lib.hid hr
  clear hm hn hr ht
  go_enter Tryz.func9, Tryz.ntmps9
  go_wp2_with fail
  obtain ⟨V, hV, z4, BW, sW⟩ := fframe1 w 25 (B : Int) (P : Int) (W : Int)
  rw [hV]
  clear hV sW
  replace hT := hT.on BW
  refine (HM.out _).mono ?_
  rintro en w1 ⟨rfl, b⟩
  replace z4 := z4.on b
  replace hT := hT.on b
  replace BW := Below.step BW b
  clear b
  obtain ⟨z4c0, z4c1, z4c2, z4f0, z4f1, z4f2, z4l⟩ := z4.cells
  go_wp2_with fail
  refine (HN.out _).mono ?_
  rintro en w2 ⟨rfl, b⟩
  clear z4c0 z4c1 z4c2 z4f0 z4f1 z4f2 z4l
  replace z4 := z4.on b
  replace hT := hT.on b
  replace BW := Below.step BW b
  clear b
  obtain ⟨z4c0, z4c1, z4c2, z4f0, z4f1, z4f2, z4l⟩ := z4.cells
  go_wp2_with fail
  refine (HT.out _).mono ?_
  rintro en w3 ⟨rfl, b⟩
  clear z4c0 z4c1 z4c2 z4f0 z4f1 z4f2 z4l
  replace z4 := z4.on b
  replace hT := hT.on b
  replace BW := Below.step BW b
  clear b
  obtain ⟨z4c0, z4c1, z4c2, z4f0, z4f1, z4f2, z4l⟩ := z4.cells
  go_wp2_with fail
  refine (add_as hf mode ba bt hba hbt hT HR.out).mono ?_
  rintro en w4 ⟨rfl, b⟩
  clear z4c0 z4c1 z4c2 z4f0 z4f1 z4f2 z4l
  replace z4 := z4.on b
  replace hT := hT.on b
  replace BW := Below.step BW b
  clear b
  go_wp2_with fail
  refine bodyPost_ret (v := .tuple #[.int .u64 ((v : Int)), .int .i64 fl, .int .i64 err]) (by simp [results, Tryz.results9, go_sem]) rfl ⟨rfl, BW⟩
theorem trnS_lt {B P W M E H : Nat} {low : Int} (hf : Fm B P W M E H low) (b : Nat) : trnS H b < 2 * H := by
  obtain ⟨b1, b2, b3, b4, b5, b6, b7, b8, b9, b10, b11, b12, b13, b14, b15⟩ := hf.bd
  have := Nat.mod_lt b (show 0 < H by omega)
  unfold trnS sgn
  split <;> omega
theorem sub_as {B P W M E H : Nat} {low : Int} (hf : Fm B P W M E H low) (mode : Int) (ba bb : Nat) (hba : ba < 18446744073709551616) (hbb : bb < 18446744073709551616) {w : World} (hT : Tab w) {v : Nat} {fl err : Int} (hr : subI P M E H low mode ba bb = (v, fl, err)) :
    Calls Tryz.prog 9 #[.agg #[.int .i64 (B : Int), .int .i64 (P : Int), .int .i64 (W : Int)], .int .i64 mode, .int .u64 (ba : Int), .int .u64 (bb : Int)] w (ToX w v fl err) := by
  have hb := hf.bd
  unfold subI at hr
  obtain ⟨x, hx⟩ : ∃ x, decide (bb < 2 * H) = x := ⟨_, rfl⟩
  obtain ⟨y, hy⟩ : ∃ y, nanB M E bb = y := ⟨_, rfl⟩
  rw [hx, hy] at hr
  cases x
  · simp only [Bool.false_and, Bool.false_eq_true, if_false] at hr
    exact sub_range hf mode ba bb hba hbb hT hx hr
  · cases y
    · simp only [Bool.not_false, Bool.and_self, if_true] at hr
      have := trnS_lt hf bb
      exact sub_turn hf mode ba bb hba hbb hT hx hy _ rfl (by omega) hr
    · simp only [Bool.not_true, Bool.and_false, Bool.false_eq_true, if_false] at hr
      exact sub_nan hf mode ba bb hba hbb hT hx hy hr
end Go.Proofs.YtpachoeignpcbaaGreatDoor
