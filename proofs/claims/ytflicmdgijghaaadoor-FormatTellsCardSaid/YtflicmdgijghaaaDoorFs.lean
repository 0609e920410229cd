
/-
  The walk of the reference of layer 3: Value.
-/
import Derived.Test.YtflicmdgijghaaaDoorFr
import Derived.Test.YtflicmdgijghaaaDoorFe
import Derived.Test.YtflicmdgijghaaaDoorRA
namespace Go.Proofs.YtflicmdgijghaaaDoor
open Go.RowKit
set_option linter.unusedVariables false

theorem rvalue_range {B P W M E H : Nat} {low : Int} (hf : Fm B P W M E H low) (b : Nat) (hb : b < 18446744073709551616) {w : World} (hm : ¬ b < 2 * H) :
    Calls Tryd.prog 13 #[.agg #[.int .i64 (B : Int), .int .i64 (P : Int), .int .i64 (W : Int)], .int .u64 (b : Int)] w (RDx w false 0 0 3) := by
  obtain ⟨b1, b2, b3, b4, b5, b6, b7, b8, b9, b10, b11, b12, b13, b14, b15⟩ := hf.bd
  obtain ⟨r, hr⟩ : ∃ r, b % M = r := ⟨_, rfl⟩
  obtain ⟨x, hx⟩ : ∃ x, b / M % (E + 1) = x := ⟨_, rfl⟩
  obtain ⟨s, hs⟩ : ∃ s, b / H % 2 = s := ⟨_, rfl⟩
  have hr2 : r < M := by rw [← hr]; exact Nat.mod_lt _ (by omega)
  have hx3 : x < E + 1 := by rw [← hx]; exact Nat.mod_lt _ (by omega)
  have HT := Lib.hid (fun (V : World) => parts_as hf b s x r true hb hs hx hr (decide_eq_true hm) V)
  clear hm hf b1 hr hx hs
  go_enter Tryd.func13, Tryd.ntmps13
  go_wp2_with fail
  obtain ⟨V, hV, z0, z1, BW, sW⟩ := fframe2 w 29 43 (B : Int) (P : Int) (W : Int) false none 0 0 0
  rw [hV]
  clear hV sW
  refine (HT.out _).mono ?_
  rintro en w1 ⟨rfl, b⟩
  replace z0 := z0.on b
  replace z1 := z1.on b
  replace BW := Below.step BW b
  clear b
  obtain ⟨z0c0, z0c1, z0c2, z0f0, z0f1, z0f2, z0l⟩ := z0.cells
  obtain ⟨z1c0, z1c1, z1c2, z1f0, z1f1, z1f2, z1l⟩ := z1.cells
  go_wp2_with fail
  refine bodyPost_ret (v := .tuple #[.agg #[.bool false, .slice none 0 0, .int .i64 0], .int .i64 3]) (by simp [results, Tryd.results13, go_sem, z1c0, z1c1, z1c2]) rfl ?_
  exact ⟨none, 0, 0, rfl, BR.none_ _, below_put3 BW (by omega) _ _ _⟩
theorem rvalue_arg {B P W M E H : Nat} {low : Int} (hf : Fm B P W M E H low) (b : Nat) (hb : b < 18446744073709551616) {w : World} (hm : b < 2 * H) (hi : b / M % (E + 1) = E) :
    Calls Tryd.prog 13 #[.agg #[.int .i64 (B : Int), .int .i64 (P : Int), .int .i64 (W : Int)], .int .u64 (b : Int)] w (RDx w false 0 0 1) := by
  obtain ⟨b1, b2, b3, b4, b5, b6, b7, b8, b9, b10, b11, b12, b13, b14, b15⟩ := hf.bd
  obtain ⟨r, hr⟩ : ∃ r, b % M = r := ⟨_, rfl⟩
  obtain ⟨x, hx⟩ : ∃ x, b / M % (E + 1) = x := ⟨_, rfl⟩
  obtain ⟨s, hs⟩ : ∃ s, b / H % 2 = s := ⟨_, rfl⟩
  have hr2 : r < M := by rw [← hr]; exact Nat.mod_lt _ (by omega)
  have hx3 : x < E + 1 := by rw [← hx]; exact Nat.mod_lt _ (by omega)
  have HT := Lib.hid (fun (V : World) => parts_as hf b s x r false hb hs hx hr (decide_eq_false (fun h => h hm)) V)
  obtain ⟨v, hv⟩ : ∃ v, clsS M E b = v := ⟨_, rfl⟩
  have HC := Lib.hid (fun (V : World) => rclass_as hf b v hb hv V)
  have d1 : decide (2 < v) = true := decide_eq_true (by rcases cls_inf hi (by omega) with h | h | h <;> omega)
  clear hm hf b1 hr hx hs hi hv
  go_enter Tryd.func13, Tryd.ntmps13
  go_wp2_with fail
  obtain ⟨V, hV, z0, z1, BW, sW⟩ := fframe2 w 29 43 (B : Int) (P : Int) (W : Int) false none 0 0 0
  rw [hV]
  clear hV sW
  refine (HT.out _).mono ?_
  rintro en w1 ⟨rfl, b⟩
  replace z0 := z0.on b
  replace z1 := z1.on b
  replace BW := Below.step BW b
  clear b
  obtain ⟨z0c0, z0c1, z0c2, z0f0, z0f1, z0f2, z0l⟩ := z0.cells
  obtain ⟨z1c0, z1c1, z1c2, z1f0, z1f1, z1f2, z1l⟩ := z1.cells
  go_wp2_with fail
  refine (HC.out _).mono ?_
  rintro en w2 ⟨rfl, b⟩
  clear z0c0 z0c1 z0c2 z0f0 z0f1 z0f2 z0l z1c0 z1c1 z1c2 z1f0 z1f1 z1f2 z1l
  replace z0 := z0.on b
  replace z1 := z1.on b
  replace BW := Below.step BW b
  clear b
  obtain ⟨z0c0, z0c1, z0c2, z0f0, z0f1, z0f2, z0l⟩ := z0.cells
  obtain ⟨z1c0, z1c1, z1c2, z1f0, z1f1, z1f2, z1l⟩ := z1.cells
  go_wp2_with fail
  refine bodyPost_ret (v := .tuple #[.agg #[.bool false, .slice none 0 0, .int .i64 0], .int .i64 1]) (by simp [results, Tryd.results13, go_sem, z1c0, z1c1, z1c2]) rfl ?_
  exact ⟨none, 0, 0, rfl, BR.none_ _, below_put3 BW (by omega) _ _ _⟩
set_option maxHeartbeats 1000000 in
theorem rvalue_sub {B P W M E H : Nat} {low : Int} (hf : Fm B P W M E H low) (b : Nat) (hb : b < 18446744073709551616) {w : World} (hm : b < 2 * H) (h0 : b / M % (E + 1) = 0) {dn : Bool} {dx : Nat} {de : Int} (hd : D.pl ⟨decide (b / H % 2 = 1), b % M, low⟩ = ⟨dn, dx, de⟩) :
    Calls Tryd.prog 13 #[.agg #[.int .i64 (B : Int), .int .i64 (P : Int), .int .i64 (W : Int)], .int .u64 (b : Int)] w (RDx w dn dx de 0) := by
  obtain ⟨b1, b2, b3, b4, b5, b6, b7, b8, b9, b10, b11, b12, b13, b14, b15⟩ := hf.bd
  obtain ⟨r, hr⟩ : ∃ r, b % M = r := ⟨_, rfl⟩
  obtain ⟨x, hx⟩ : ∃ x, b / M % (E + 1) = x := ⟨_, rfl⟩
  obtain ⟨s, hs⟩ : ∃ s, b / H % 2 = s := ⟨_, rfl⟩
  have hr2 : r < M := by rw [← hr]; exact Nat.mod_lt _ (by omega)
  have hx3 : x < E + 1 := by rw [← hx]; exact Nat.mod_lt _ (by omega)
  have HT := Lib.hid (fun (V : World) => parts_as hf b s x r false hb hs hx hr (decide_eq_false (fun h => h hm)) V)
  obtain ⟨v, hv⟩ : ∃ v, clsS M E b = v := ⟨_, rfl⟩
  have HC := Lib.hid (fun (V : World) => rclass_as hf b v hb hv V)
  have d1 : decide (2 < v) = false := decide_eq_false (by rcases cls_sub h0 with h | h <;> omega)
  have d2 : (v == 2) = false := by simp; rcases cls_sub h0 with h | h <;> omega
  have HL := Lib.hid (fun (V : World) => rlow_as hf low rfl V)
  obtain ⟨n, hn0⟩ : ∃ n, r = n := ⟨_, rfl⟩
  have hn : n < 18446744073709551616 := by omega
  have hnl : blen n ≤ 64 := (blen_le n 64).2 (by omega)
  rw [hs, hr, hn0] at hd
  have HD := Lib.hid hd
  have q0 : ((s : Int) == 1) = decide (s = 1) := by rw [Bool.eq_iff_iff]; simp; omega
  clear hm hf b1 hr hx hs h0 hv hd
  subst hn0
  go_enter Tryd.func13, Tryd.ntmps13
  go_wp2_with fail
  obtain ⟨V, hV, z0, z1, BW, sW⟩ := fframe2 w 29 43 (B : Int) (P : Int) (W : Int) false none 0 0 0
  rw [hV]
  clear hV sW
  refine (HT.out _).mono ?_
  rintro en w1 ⟨rfl, b⟩
  replace z0 := z0.on b
  replace z1 := z1.on b
  replace BW := Below.step BW b
  clear b
  obtain ⟨z0c0, z0c1, z0c2, z0f0, z0f1, z0f2, z0l⟩ := z0.cells
  obtain ⟨z1c0, z1c1, z1c2, z1f0, z1f1, z1f2, z1l⟩ := z1.cells
  go_wp2_with fail
  refine (HC.out _).mono ?_
  rintro en w2 ⟨rfl, b⟩
  clear z0c0 z0c1 z0c2 z0f0 z0f1 z0f2 z0l z1c0 z1c1 z1c2 z1f0 z1f1 z1f2 z1l
  replace z0 := z0.on b
  replace z1 := z1.on b
  replace BW := Below.step BW b
  clear b
  obtain ⟨z0c0, z0c1, z0c2, z0f0, z0f1, z0f2, z0l⟩ := z0.cells
  obtain ⟨z1c0, z1c1, z1c2, z1f0, z1f1, z1f2, z1l⟩ := z1.cells
  go_wp2_with fail
  clear z0c0 z0c1 z0c2 z0f0 z0f1 z0f2 z0l z1c0 z1c1 z1c2 z1f0 z1f1 z1f2 z1l
  replace z0 := z0.on ((Below.refl _ _).drew : Below w2.heap.size w2 w2.drew)
  replace z1 := z1.on ((Below.refl _ _).drew : Below w2.heap.size w2 w2.drew)
  replace BW := Lib.hid (Below.step BW ((Below.refl _ _).drew : Below w2.heap.size w2 w2.drew))
  go_region_held3 (fun w' => w'.cell? ⟨w.heap.size, 0, none⟩ = some (.int .i64 (B : Int)) ∧ w'.cell? ⟨w.heap.size, 1, none⟩ = some (.int .i64 (P : Int)) ∧ w'.cell? ⟨w.heap.size, 2, none⟩ = some (.int .i64 (W : Int)))
    ((first | exact ⟨z0.cells.1, z0.cells.2.1, z0.cells.2.2.1⟩ | exact ⟨(z0.other (s := w.heap.size + 1) (by omega) (.bool dn) (.slice V_rd v_rd c_rd) (.int .i64 de)).cells.1, (z0.other (s := w.heap.size + 1) (by omega) (.bool dn) (.slice V_rd v_rd c_rd) (.int .i64 de)).cells.2.1, (z0.other (s := w.heap.size + 1) (by omega) (.bool dn) (.slice V_rd v_rd c_rd) (.int .i64 de)).cells.2.2.1⟩))
    (first
      | (go_at_call 48
         (with_reducible refine (rword_any r hn _).mono ?_)
         rintro en w3 ⟨V_rn, v_rn, c_rn, rfl, rn, b⟩
         replace z0 := z0.on b
         replace z1 := z1.on b
         replace BW := Lib.hid (Below.step BW.out b)
         clear b)
      | (go_at_call 17
         (with_reducible refine (HL.out _).mono ?_)
         rintro en w4 ⟨rfl, b⟩
         replace z0 := z0.on b
         replace z1 := z1.on b
         replace rn := rn.on b
         replace BW := Lib.hid (Below.step BW.out b)
         clear b)
      | (go_at_call 47
         (with_reducible refine (rplain_any rn (rn.le (Nat.le_trans hnl (by omega))) (by omega) (by omega) HD.out).mono ?_)
         rintro en w5 ⟨V_rd, v_rd, c_rd, rfl, rd, b⟩
         replace z0 := z0.on b
         replace z1 := z1.on b
         replace rn := rn.on b
         replace BW := Lib.hid (Below.step BW.out b)
         obtain ⟨z1c0, z1c1, z1c2, z1f0, z1f1, z1f2, z1l⟩ := z1.cells
         clear b))
  replace BW := BW.out
  go_wp2_with fail
  refine bodyPost_ret (v := .tuple #[.agg #[.bool dn, .slice V_rd v_rd c_rd, .int .i64 de], .int .i64 0]) (by simp [results, Tryd.results13, go_sem, z1c0, z1c1, z1c2]) rfl ?_
  exact ⟨V_rd, v_rd, c_rd, rfl, z1.br (by decide) rd _ _ _, below_put3 BW (by omega) _ _ _⟩
set_option maxHeartbeats 1000000 in
theorem rvalue_norm {B P W M E H : Nat} {low : Int} (hf : Fm B P W M E H low) (b : Nat) (hb : b < 18446744073709551616) {w : World} (hm : b < 2 * H) (h0 : b / M % (E + 1) ≠ 0) (h02 : b / M % (E + 1) ≠ E) {dn : Bool} {dx : Nat} {de : Int} (hd : D.pl ⟨decide (b / H % 2 = 1), M + b % M, low + ((b / M % (E + 1) : Nat) : Int) - 1⟩ = ⟨dn, dx, de⟩) :
    Calls Tryd.prog 13 #[.agg #[.int .i64 (B : Int), .int .i64 (P : Int), .int .i64 (W : Int)], .int .u64 (b : Int)] w (RDx w dn dx de 0) := by
  obtain ⟨b1, b2, b3, b4, b5, b6, b7, b8, b9, b10, b11, b12, b13, b14, b15⟩ := hf.bd
  obtain ⟨r, hr⟩ : ∃ r, b % M = r := ⟨_, rfl⟩
  obtain ⟨x, hx⟩ : ∃ x, b / M % (E + 1) = x := ⟨_, rfl⟩
  obtain ⟨s, hs⟩ : ∃ s, b / H % 2 = s := ⟨_, rfl⟩
  have hr2 : r < M := by rw [← hr]; exact Nat.mod_lt _ (by omega)
  have hx3 : x < E + 1 := by rw [← hx]; exact Nat.mod_lt _ (by omega)
  have HT := Lib.hid (fun (V : World) => parts_as hf b s x r false hb hs hx hr (decide_eq_false (fun h => h hm)) V)
  have HC := Lib.hid (fun (V : World) => rclass_as hf b 2 hb (cls_norm h0 h02) V)
  have HL := Lib.hid (fun (V : World) => rlow_as hf low rfl V)
  have HP := Lib.hid (fun (V : World) => power_b (P - 1) M (by omega) hf.pP ((P : Int) - 1) (by omega) V)
  obtain ⟨n, hn0⟩ : ∃ n, M + r = n := ⟨_, rfl⟩
  have hn : n < 18446744073709551616 := by omega
  have hnl : blen n ≤ 64 := (blen_le n 64).2 (by omega)
  obtain ⟨q, hq⟩ : ∃ q : Int, low + (x : Int) - 1 = q := ⟨_, rfl⟩
  have hq1 : -1000000 ≤ q := by omega
  have hq2 : q ≤ 1000000 := by omega
  rw [hs, hr, hn0, hx, hq] at hd
  have HD := Lib.hid hd
  have q0 : ((s : Int) == 1) = decide (s = 1) := by rw [Bool.eq_iff_iff]; simp; omega
  have q1 : IntKind.u64.wrap ((M : Int) + (r : Int)) = (n : Int) := by rw [← Int.natCast_add, hn0]; exact wrap64_nat n (by omega)
  have q2 : IntKind.i64.wrap ((P : Int) - 1) = (P : Int) - 1 := IntWalk.i64_in _ (by omega)
  have q3 : IntKind.i64.wrap (x : Int) = (x : Int) := IntWalk.i64_in _ (by omega)
  have q4 : IntKind.i64.wrap (low + (x : Int)) = low + (x : Int) := IntWalk.i64_in _ (by omega)
  have q5 : IntKind.i64.wrap (low + (x : Int) - 1) = q := by rw [IntWalk.i64_in _ (by omega)]; exact hq
  clear hm hf b1 hr hx hs h0 h02 hd hn0 hq
  go_enter Tryd.func13, Tryd.ntmps13
  go_wp2_with fail
  obtain ⟨V, hV, z0, z1, BW, sW⟩ := fframe2 w 29 43 (B : Int) (P : Int) (W : Int) false none 0 0 0
  rw [hV]
  clear hV sW
  refine (HT.out _).mono ?_
  rintro en w1 ⟨rfl, b⟩
  replace z0 := z0.on b
  replace z1 := z1.on b
  replace BW := Below.step BW b
  clear b
  obtain ⟨z0c0, z0c1, z0c2, z0f0, z0f1, z0f2, z0l⟩ := z0.cells
  obtain ⟨z1c0, z1c1, z1c2, z1f0, z1f1, z1f2, z1l⟩ := z1.cells
  go_wp2_with fail
  refine (HC.out _).mono ?_
  rintro en w2 ⟨rfl, b⟩
  clear z0c0 z0c1 z0c2 z0f0 z0f1 z0f2 z0l z1c0 z1c1 z1c2 z1f0 z1f1 z1f2 z1l
  replace z0 := z0.on b
  replace z1 := z1.on b
  replace BW := Below.step BW b
  clear b
  obtain ⟨z0c0, z0c1, z0c2, z0f0, z0f1, z0f2, z0l⟩ := z0.cells
  obtain ⟨z1c0, z1c1, z1c2, z1f0, z1f1, z1f2, z1l⟩ := z1.cells
  go_wp2_with fail
  clear z0c0 z0c1 z0c2 z0f0 z0f1 z0f2 z0l z1c0 z1c1 z1c2 z1f0 z1f1 z1f2 z1l
  replace z0 := z0.on ((Below.refl _ _).drew : Below w2.heap.size w2 w2.drew)
  replace z1 := z1.on ((Below.refl _ _).drew : Below w2.heap.size w2 w2.drew)
  replace BW := Lib.hid (Below.step BW ((Below.refl _ _).drew : Below w2.heap.size w2 w2.drew))
  go_region_held3 (fun w' => w'.cell? ⟨w.heap.size, 0, none⟩ = some (.int .i64 (B : Int)) ∧ w'.cell? ⟨w.heap.size, 1, none⟩ = some (.int .i64 (P : Int)) ∧ w'.cell? ⟨w.heap.size, 2, none⟩ = some (.int .i64 (W : Int)))
    ((first | exact ⟨z0.cells.1, z0.cells.2.1, z0.cells.2.2.1⟩ | exact ⟨(z0.other (s := w.heap.size + 1) (by omega) (.bool dn) (.slice V_rd v_rd c_rd) (.int .i64 de)).cells.1, (z0.other (s := w.heap.size + 1) (by omega) (.bool dn) (.slice V_rd v_rd c_rd) (.int .i64 de)).cells.2.1, (z0.other (s := w.heap.size + 1) (by omega) (.bool dn) (.slice V_rd v_rd c_rd) (.int .i64 de)).cells.2.2.1⟩))
    (first
      | (go_at_call 41
         (with_reducible refine (HP.out _).mono ?_)
         rintro en w3 ⟨rfl, b⟩
         replace z0 := z0.on b
         replace z1 := z1.on b
         replace BW := Lib.hid (Below.step BW.out b)
         clear b)
      | (go_at_call 48
         (with_reducible refine (rword_any n hn _).mono ?_)
         rintro en w4 ⟨V_rn, v_rn, c_rn, rfl, rn, b⟩
         replace z0 := z0.on b
         replace z1 := z1.on b
         replace BW := Lib.hid (Below.step BW.out b)
         clear b)
      | (go_at_call 17
         (with_reducible refine (HL.out _).mono ?_)
         rintro en w5 ⟨rfl, b⟩
         replace z0 := z0.on b
         replace z1 := z1.on b
         replace rn := rn.on b
         replace BW := Lib.hid (Below.step BW.out b)
         clear b)
      | (go_at_call 47
         (with_reducible refine (rplain_any rn (rn.le (Nat.le_trans hnl (by omega))) hq1 hq2 HD.out).mono ?_)
         rintro en w6 ⟨V_rd, v_rd, c_rd, rfl, rd, b⟩
         replace z0 := z0.on b
         replace z1 := z1.on b
         replace rn := rn.on b
         replace BW := Lib.hid (Below.step BW.out b)
         obtain ⟨z1c0, z1c1, z1c2, z1f0, z1f1, z1f2, z1l⟩ := z1.cells
         clear b))
  replace BW := BW.out
  go_wp2_with fail
  refine bodyPost_ret (v := .tuple #[.agg #[.bool dn, .slice V_rd v_rd c_rd, .int .i64 de], .int .i64 0]) (by simp [results, Tryd.results13, go_sem, z1c0, z1c1, z1c2]) rfl ?_
  exact ⟨V_rd, v_rd, c_rd, rfl, z1.br (by decide) rd _ _ _, below_put3 BW (by omega) _ _ _⟩
theorem rvalue_as {B P W M E H : Nat} {low : Int} (hf : Fm B P W M E H low) (b : Nat) (hb : b < 18446744073709551616) {w : World} {rn : Bool} {rx : Nat} {re err : Int} (hr : valS M E H low b = (⟨rn, rx, re⟩, err)) :
    Calls Tryd.prog 13 #[.agg #[.int .i64 (B : Int), .int .i64 (P : Int), .int .i64 (W : Int)], .int .u64 (b : Int)] w (RDx w rn rx re err) := by
  unfold valS at hr
  by_cases hm : b < 2 * H
  · rw [if_pos hm] at hr
    by_cases hx : b / M % (E + 1) = E
    · rw [if_pos hx] at hr
      simp only [Prod.mk.injEq, D.mk.injEq] at hr
      obtain ⟨⟨rfl, rfl, rfl⟩, rfl⟩ := hr
      exact rvalue_arg hf b hb hm hx
    · rw [if_neg hx] at hr
      simp only [Prod.mk.injEq] at hr
      obtain ⟨hd, rfl⟩ := hr
      unfold valN valP at hd
      by_cases h0 : b / M % (E + 1) = 0
      · rw [if_pos h0, if_pos h0] at hd
        exact rvalue_sub hf b hb hm h0 hd
      · rw [if_neg h0, if_neg h0] at hd
        exact rvalue_norm hf b hb hm h0 hx hd
  · rw [if_neg hm] at hr
    simp only [Prod.mk.injEq, D.mk.injEq] at hr
    obtain ⟨⟨rfl, rfl, rfl⟩, rfl⟩ := hr
    exact rvalue_range hf b hb hm
end Go.Proofs.YtflicmdgijghaaaDoor
