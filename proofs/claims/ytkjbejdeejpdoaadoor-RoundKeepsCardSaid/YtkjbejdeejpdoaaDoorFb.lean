
/-
  The walks of format's functions over the small ones.
-/
import Derived.Test.YtkjbejdeejpdoaaDoorFa
namespace Go.Proofs.YtkjbejdeejpdoaaDoor
open Go.RowKit
set_option linter.unusedVariables false

abbrev FB (w : World) (s : Nat) (t : TypeId) (a b c : Int) : Prop := Box w s t (.int .i64 a) (.int .i64 b) (.int .i64 c)
theorem fframe1 (w : World) (t : TypeId) (a b c : Int) : ∃ W, w.alloc (.cells #[.int .i64 a, .int .i64 b, .int .i64 c] t) = W ∧ FB W w.heap.size t a b c ∧ Below w.heap.size w W ∧ W.heap.size = w.heap.size + 1 :=
  ⟨_, rfl, Box.made w t (notU_int _) (notU_int _) (notU_int _), below_lit _ _, by simp⟩
theorem flow_as {B P W M E H : Nat} {low : Int} (hf : Fm B P W M E H low) (q : Int) (hq : low = q) (w : World) :
    Calls Tryd.prog 27 #[.agg #[.int .i64 (B : Int), .int .i64 (P : Int), .int .i64 (W : Int)]] w fun e w' => e = .returned (.int .i64 q) ∧ Below w.heap.size w w' := by
  obtain ⟨b1, b2, b3, b4, b5, b6, b7, b8, b9, b10, b11, b12, b13, b14, b15⟩ := hf.bd
  subst hq
  obtain ⟨i, hi⟩ : ∃ i : Int, 2 - (P : Int) - low = i := ⟨_, rfl⟩
  have HF := Lib.hid (fun (V : World) => bias_as hf i hi V)
  have q1 : IntKind.i64.wrap (2 - (P : Int)) = 2 - (P : Int) := IntWalk.i64_in _ (by omega)
  have q2 : IntKind.i64.wrap (2 - (P : Int) - i) = low := by rw [IntWalk.i64_in _ (by omega)]; omega
  clear hi hf b1
  go_enter Tryd.func27, Tryd.ntmps27
  go_wp2_with fail
  obtain ⟨V, hV, z0, BW, sW⟩ := fframe1 w 28 (B : Int) (P : Int) (W : Int)
  rw [hV]
  clear hV
  have kb : FB V.drew w.heap.size 28 (B : Int) (P : Int) (W : Int) := z0.on ((Below.refl _ _).drew)
  have HB := Lib.hid (Below.step BW ((Below.refl _ _).drew))
  clear z0 BW
  go_region_held3 (fun w' => w'.cell? ⟨w.heap.size, 0, none⟩ = some (.int .i64 (B : Int)) ∧ w'.cell? ⟨w.heap.size, 1, none⟩ = some (.int .i64 (P : Int)) ∧ w'.cell? ⟨w.heap.size, 2, none⟩ = some (.int .i64 (W : Int)))
    ((exact ⟨kb.cells.1, kb.cells.2.1, kb.cells.2.2.1⟩))
    (first
      | (go_at_call 67
         (with_reducible refine (HF.out _).mono ?_)
         rintro en w3 ⟨rfl, b⟩
         replace kb := kb.on b
         replace HB := Lib.hid (Below.step HB.out b)
         clear b))
  go_wp2_with fail
  go_ret
  exact ⟨rfl, HB.out⟩
theorem fones_b (k m : Nat) (hk : k ≤ 64) (hm : 2 ^ k = m + 1) (n : Int) (hn : n = (k : Int)) (w : World) :
    Calls Tryd.prog 84 #[.int .i64 n] w fun e w' => e = .returned (.int .u64 (m : Int)) ∧ Below w.heap.size w w' :=
  (fones_as k m hk hm n hn w).mono fun e w' ⟨h, hw⟩ => ⟨h, hw ▸ Below.refl _ _⟩
theorem highest_as {B P W M E H : Nat} {low : Int} (hf : Fm B P W M E H low) (q : Int) (hq : low + (E : Int) - 2 = q) (w : World) :
    Calls Tryd.prog 87 #[.agg #[.int .i64 (B : Int), .int .i64 (P : Int), .int .i64 (W : Int)]] w fun e w' => e = .returned (.int .i64 q) ∧ Below w.heap.size w w' := by
  obtain ⟨b1, b2, b3, b4, b5, b6, b7, b8, b9, b10, b11, b12, b13, b14, b15⟩ := hf.bd
  have HF := Lib.hid (fun (V : World) => flow_as hf low rfl V)
  have HO := Lib.hid (fun (V : World) => fones_b W E (by omega) hf.pW (W : Int) rfl V)
  have q0 : IntKind.i64.wrap (E : Int) = (E : Int) := IntWalk.i64_in _ (by omega)
  have q1 : IntKind.i64.wrap (low + (E : Int)) = low + (E : Int) := IntWalk.i64_in _ (by omega)
  have q2 : IntKind.i64.wrap (low + (E : Int) - 2) = q := by rw [IntWalk.i64_in _ (by omega)]; omega
  clear hq hf b1
  go_enter Tryd.func87, Tryd.ntmps87
  go_wp2_with fail
  obtain ⟨V, hV, z0, BW, sW⟩ := fframe1 w 28 (B : Int) (P : Int) (W : Int)
  rw [hV]
  clear hV
  have kb : FB V.drew w.heap.size 28 (B : Int) (P : Int) (W : Int) := z0.on ((Below.refl _ _).drew)
  have HB := Lib.hid (Below.step BW ((Below.refl _ _).drew))
  clear z0 BW
  go_region_held3 (fun w' => w'.cell? ⟨w.heap.size, 0, none⟩ = some (.int .i64 (B : Int)) ∧ w'.cell? ⟨w.heap.size, 1, none⟩ = some (.int .i64 (P : Int)) ∧ w'.cell? ⟨w.heap.size, 2, none⟩ = some (.int .i64 (W : Int)))
    ((exact ⟨kb.cells.1, kb.cells.2.1, kb.cells.2.2.1⟩))
    (first
      | (go_at_call 27
         (with_reducible refine (HF.out _).mono ?_)
         rintro en w3 ⟨rfl, b⟩
         replace kb := kb.on b
         replace HB := Lib.hid (Below.step HB.out b)
         clear b)
      | (go_at_call 84
         (with_reducible refine (HO.out _).mono ?_)
         rintro en w4 ⟨rfl, b⟩
         replace kb := kb.on b
         replace HB := Lib.hid (Below.step HB.out b)
         clear b))
  go_wp2_with fail
  go_ret
  exact ⟨rfl, HB.out⟩
theorem infinite_as {B P W M E H : Nat} {low : Int} (hf : Fm B P W M E H low) (neg : Bool) (v : Nat) (hv : sgn H neg (M * E) = v) (w : World) :
    Calls Tryd.prog 70 #[.agg #[.int .i64 (B : Int), .int .i64 (P : Int), .int .i64 (W : Int)], .bool neg] w fun e w' => e = .returned (.int .u64 (v : Int)) ∧ Below w.heap.size w w' := by
  obtain ⟨b1, b2, b3, b4, b5, b6, b7, b8, b9, b10, b11, b12, b13, b14, b15⟩ := hf.bd
  obtain ⟨e1, e2⟩ := hf.hlf
  have e3 : M * E + M = H := by rw [← e1, Nat.mul_add, Nat.mul_one]
  obtain ⟨r, hr⟩ : ∃ r, M * E = r := ⟨_, rfl⟩
  rw [hr] at hv e3
  have HF := Lib.hid (fun (V : World) => signed_as hf neg r v (by omega) hv V)
  have HO := Lib.hid (fun (V : World) => fones_b W E (by omega) hf.pW (W : Int) rfl V)
  have q1 : IntKind.i64.wrap ((P : Int) - 1) = (P : Int) - 1 := IntWalk.i64_in _ (by omega)
  have q2 : IntKind.u64.wrap ((P : Int) - 1) = (P : Int) - 1 := by rw [IntKind.wrap_u64]; omega
  have q3 : 0 ≤ (P : Int) - 1 := by omega
  have q4 : ((P : Int) - 1).toNat = P - 1 := by omega
  have q5 : IntKind.u64.wrap ((E : Int) * 2 ^ (P - 1)) = (r : Int) := by
    rw [← two_cast, hf.pP, ← Int.natCast_mul, Nat.mul_comm, hr]; exact wrap64_nat r (by omega)
  clear hv hf b1 e1 e2 e3 hr
  go_enter Tryd.func70, Tryd.ntmps70
  go_wp2_with fail
  obtain ⟨V, hV, z0, BW, sW⟩ := fframe1 w 28 (B : Int) (P : Int) (W : Int)
  rw [hV]
  clear hV
  have kb : FB V.drew w.heap.size 28 (B : Int) (P : Int) (W : Int) := z0.on ((Below.refl _ _).drew)
  have HB := Lib.hid (Below.step BW ((Below.refl _ _).drew))
  clear z0 BW
  go_region_held3 (fun w' => w'.cell? ⟨w.heap.size, 0, none⟩ = some (.int .i64 (B : Int)) ∧ w'.cell? ⟨w.heap.size, 1, none⟩ = some (.int .i64 (P : Int)) ∧ w'.cell? ⟨w.heap.size, 2, none⟩ = some (.int .i64 (W : Int)))
    ((exact ⟨kb.cells.1, kb.cells.2.1, kb.cells.2.2.1⟩))
    (first
      | (go_at_call 84
         (with_reducible refine (HO.out _).mono ?_)
         rintro en w3 ⟨rfl, b⟩
         replace kb := kb.on b
         replace HB := Lib.hid (Below.step HB.out b)
         clear b)
      | (go_at_call 62
         (with_reducible refine (HF.out _).mono ?_)
         rintro en w4 ⟨rfl, b⟩
         replace kb := kb.on b
         replace HB := Lib.hid (Below.step HB.out b)
         clear b))
  go_wp2_with fail
  go_ret
  exact ⟨rfl, HB.out⟩
theorem greatest_as {B P W M E H : Nat} {low : Int} (hf : Fm B P W M E H low) (neg : Bool) (v : Nat) (hv : sgn H neg (M * E) = v + 1) (w : World) :
    Calls Tryd.prog 71 #[.agg #[.int .i64 (B : Int), .int .i64 (P : Int), .int .i64 (W : Int)], .bool neg] w fun e w' => e = .returned (.int .u64 (v : Int)) ∧ Below w.heap.size w w' := by
  obtain ⟨b1, b2, b3, b4, b5, b6, b7, b8, b9, b10, b11, b12, b13, b14, b15⟩ := hf.bd
  have HF := Lib.hid (fun (V : World) => infinite_as hf neg (v + 1) hv V)
  have e3 : v + 1 < 18446744073709551616 := by
    obtain ⟨e1, e2⟩ := hf.hlf
    have e3 : M * E + M = H := by rw [← e1, Nat.mul_add, Nat.mul_one]
    rw [← hv]; unfold sgn
    cases neg <;> simp <;> omega
  clear hv hf b1
  go_enter Tryd.func71, Tryd.ntmps71
  go_wp2_with fail
  refine (HF.out _).mono ?_
  rintro e w' ⟨rfl, b⟩
  go_wp2_with fail
  go_ret
  exact ⟨ret_int (by omega), Below.step (below_lit _ _) b⟩
/-- quieted. -/
def qtS (M H b : Nat) : Nat := if b % (2 * H) / (M / 2) % 2 = 1 then b % (2 * H) else b % (2 * H) + M / 2
end Go.Proofs.YtkjbejdeejpdoaaDoor
