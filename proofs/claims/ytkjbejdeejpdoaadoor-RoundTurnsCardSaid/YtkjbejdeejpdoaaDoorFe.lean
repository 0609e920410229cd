
/-
  The walk of format's Value.
-/
import Derived.Test.YtkjbejdeejpdoaaDoorFd
namespace Go.Proofs.YtkjbejdeejpdoaaDoor
open Go.RowKit
set_option linter.unusedVariables false

/-- a variable of a form and one of a number at a function's start. -/
theorem fframe2 (w : World) (t t1 : TypeId) (a b c : Int) (n : Bool) (A : Option Addr) (l k : Nat) (e : Int) : ∃ W, (w.alloc (.cells #[.int .i64 a, .int .i64 b, .int .i64 c] t)).alloc (dob n A l k e t1) = W ∧ FB W w.heap.size t a b c ∧ DB W (w.heap.size + 1) t1 n A l k e ∧ Below w.heap.size w W ∧ W.heap.size = w.heap.size + 2 :=
  ⟨_, rfl, (Box.made w t (notU_int _) (notU_int _) (notU_int _)).alloc _, DB.made _ (by simp) t1 n A l k e, ((Below.refl _ _).alloc (by simp <;> omega) _).alloc (by simp <;> omega) _, by simp⟩
/-- the size of bits, and its place. -/
def valN (M E b : Nat) : Nat := if b / M % (E + 1) = 0 then b % M else M + b % M
def valP (M E : Nat) (low : Int) (b : Nat) : Int := if b / M % (E + 1) = 0 then low else low + ((b / M % (E + 1) : Nat) : Int) - 1
/-- the number of bits, or why there is none. -/
def valS (M E H : Nat) (low : Int) (b : Nat) : D × Int :=
  if b < 2 * H then (if b / M % (E + 1) = E then (⟨false, 0, 0⟩, 1) else (D.pl ⟨decide (b / H % 2 = 1), valN M E b, valP M E low b⟩, 0)) else (⟨false, 0, 0⟩, 3)
theorem cls_inf {M E b : Nat} (h : b / M % (E + 1) = E) (hE : E ≠ 0) : clsS M E b = 3 ∨ clsS M E b = 4 ∨ clsS M E b = 5 := by
  unfold clsS
  rw [h, if_neg hE, if_neg (by simp)]
  by_cases h1 : b % M = 0
  · rw [if_pos h1]; exact .inl rfl
  · rw [if_neg h1]
    by_cases h2 : b % M / (M / 2) % 2 = 1
    · rw [if_pos h2]; exact .inr (.inl rfl)
    · rw [if_neg h2]; exact .inr (.inr rfl)
theorem cls_sub {M E b : Nat} (h : b / M % (E + 1) = 0) : clsS M E b = 0 ∨ clsS M E b = 1 := by
  unfold clsS
  rw [h, if_pos rfl]
  by_cases h1 : b % M = 0
  · rw [if_pos h1]; exact .inl rfl
  · rw [if_neg h1]; exact .inr rfl
theorem cls_norm {M E b : Nat} (h : b / M % (E + 1) ≠ 0) (h2 : b / M % (E + 1) ≠ E) : clsS M E b = 2 := by
  unfold clsS
  rw [if_neg h, if_pos h2]
theorem value_range {B P W M E H : Nat} {low : Int} (hf : Fm B P W M E H low) (b : Nat) (hb : b < 18446744073709551616) {w : World} (hT : Tab w) (hm : ¬ b < 2 * H) :
    Calls Tryd.prog 18 #[.agg #[.int .i64 (B : Int), .int .i64 (P : Int), .int .i64 (W : Int)], .int .u64 (b : Int)] w (DPx w false 0 0 3) := by
  obtain ⟨b1, b2, b3, b4, b5, b6, b7, b8, b9, b10, b11, b12, b13, b14, b15⟩ := hf.bd
  have HY := Lib.hid (fun (V : World) => fmay_as hf b hb false (decide_eq_false hm) V)
  clear hm hf b1
  go_enter Tryd.func18, Tryd.ntmps18
  go_wp2_with fail
  obtain ⟨V, hV, z0, z1, BW, sW⟩ := fframe2 w 28 25 (B : Int) (P : Int) (W : Int) false none 0 0 0
  rw [hV]
  clear hV sW
  replace hT := hT.on BW
  refine (HY.out _).mono ?_
  rintro en w1 ⟨rfl, b⟩
  replace z0 := z0.on b
  replace z1 := z1.on b
  replace hT := hT.on b
  replace BW := Below.step BW b
  clear b
  obtain ⟨z0c0, z0c1, z0c2, z0f0, z0f1, z0f2, z0l⟩ := z0.cells
  obtain ⟨z1c0, z1c1, z1c2, z1f0, z1f1, z1f2, z1l⟩ := z1.cells
  go_wp2_with fail
  refine bodyPost_ret (v := .tuple #[.agg #[.bool false, .slice none 0 0, .int .i64 0], .int .i64 3]) (by simp [results, Tryd.results18, go_sem, z1c0, z1c1, z1c2]) rfl ?_
  exact ⟨none, 0, rfl, Res.none_ _, below_put3 BW (by omega) _ _ _⟩
theorem below_size {w w' : World} (h : Below w.heap.size w w') : w.heap.size ≤ w'.heap.size := h.size
set_option maxHeartbeats 1000000 in
theorem value_arg {B P W M E H : Nat} {low : Int} (hf : Fm B P W M E H low) (b : Nat) (hb : b < 18446744073709551616) {w : World} (hT : Tab w) (hm : b < 2 * H) (hx : b / M % (E + 1) = E) :
    Calls Tryd.prog 18 #[.agg #[.int .i64 (B : Int), .int .i64 (P : Int), .int .i64 (W : Int)], .int .u64 (b : Int)] w (DPx w false 0 0 1) := by
  obtain ⟨b1, b2, b3, b4, b5, b6, b7, b8, b9, b10, b11, b12, b13, b14, b15⟩ := hf.bd
  obtain ⟨r, hr⟩ : ∃ r, b % M = r := ⟨_, rfl⟩
  have HY := Lib.hid (fun (V : World) => fmay_as hf b hb true (decide_eq_true hm) V)
  have HR := Lib.hid (fun (V : World) => fraction_as hf b r hb hr V)
  have HL := Lib.hid (fun (V : World) => flow_as hf low rfl V)
  have HC : Hid ((∀ V, Calls Tryd.prog 48 #[.agg #[.int .i64 (B : Int), .int .i64 (P : Int), .int .i64 (W : Int)], .int .u64 (b : Int)] V fun e w' => e = .returned (.int .i64 3) ∧ Below V.heap.size V w') ∨ (∀ V, Calls Tryd.prog 48 #[.agg #[.int .i64 (B : Int), .int .i64 (P : Int), .int .i64 (W : Int)], .int .u64 (b : Int)] V fun e w' => e = .returned (.int .i64 4) ∧ Below V.heap.size V w') ∨ (∀ V, Calls Tryd.prog 48 #[.agg #[.int .i64 (B : Int), .int .i64 (P : Int), .int .i64 (W : Int)], .int .u64 (b : Int)] V fun e w' => e = .returned (.int .i64 5) ∧ Below V.heap.size V w')) := by
    rcases cls_inf hx (by omega) with h | h | h
    · exact Lib.hid (.inl fun V => class_as hf b 3 hb h V)
    · exact Lib.hid (.inr (.inl fun V => class_as hf b 4 hb h V))
    · exact Lib.hid (.inr (.inr fun V => class_as hf b 5 hb h V))
  clear hm hf b1 hx hr
  rcases HC.out with h | h | h
  · clear HC
    have HC := Lib.hid h
    clear h
    go_enter Tryd.func18, Tryd.ntmps18
    go_wp2_with fail
    obtain ⟨V, hV, z0, z1, BW, sW⟩ := fframe2 w 28 25 (B : Int) (P : Int) (W : Int) false none 0 0 0
    rw [hV]
    clear hV sW
    replace hT := hT.on BW
    refine (HY.out _).mono ?_
    rintro en w1 ⟨rfl, b⟩
    replace z0 := z0.on b
    replace z1 := z1.on b
    replace hT := hT.on b
    replace BW := Below.step BW b
    clear b
    obtain ⟨z0c0, z0c1, z0c2, z0f0, z0f1, z0f2, z0l⟩ := z0.cells
    obtain ⟨z1c0, z1c1, z1c2, z1f0, z1f1, z1f2, z1l⟩ := z1.cells
    go_wp2_with fail
    clear z0c0 z0c1 z0c2 z0f0 z0f1 z0f2 z0l z1c0 z1c1 z1c2 z1f0 z1f1 z1f2 z1l
    replace z0 := z0.on ((Below.refl _ _).drew : Below w1.heap.size w1 w1.drew)
    replace z1 := z1.on ((Below.refl _ _).drew : Below w1.heap.size w1 w1.drew)
    replace hT := hT.on ((Below.refl _ _).drew : Below w1.heap.size w1 w1.drew)
    replace BW := Lib.hid (Below.step BW ((Below.refl _ _).drew : Below w1.heap.size w1 w1.drew))
    go_region_held3 (fun w' => w'.cell? ⟨w.heap.size, 0, none⟩ = some (.int .i64 (B : Int)) ∧ w'.cell? ⟨w.heap.size, 1, none⟩ = some (.int .i64 (P : Int)) ∧ w'.cell? ⟨w.heap.size, 2, none⟩ = some (.int .i64 (W : Int)))
      ((exact ⟨z0.cells.1, z0.cells.2.1, z0.cells.2.2.1⟩))
      (first
        | (go_at_call 47
           (with_reducible refine (HR.out _).mono ?_)
           rintro en w2 ⟨rfl, b⟩
           replace z0 := z0.on b
           replace z1 := z1.on b
           replace hT := hT.on b
           replace BW := Lib.hid (Below.step BW.out b)
           clear b)
        | (go_at_call 27
           (with_reducible refine (HL.out _).mono ?_)
           rintro en w3 ⟨rfl, b⟩
           replace z0 := z0.on b
           replace z1 := z1.on b
           replace hT := hT.on b
           replace BW := Lib.hid (Below.step BW.out b)
           clear b))
    replace BW := BW.out
    obtain ⟨z0c0, z0c1, z0c2, z0f0, z0f1, z0f2, z0l⟩ := z0.cells
    obtain ⟨z1c0, z1c1, z1c2, z1f0, z1f1, z1f2, z1l⟩ := z1.cells
    go_wp2_with fail
    refine (HC.out _).mono ?_
    rintro en w4 ⟨rfl, b⟩
    clear z0c0 z0c1 z0c2 z0f0 z0f1 z0f2 z0l z1c0 z1c1 z1c2 z1f0 z1f1 z1f2 z1l
    replace z0 := z0.on b
    replace z1 := z1.on b
    replace hT := hT.on b
    replace BW := Below.step BW b
    clear b
    obtain ⟨z0c0, z0c1, z0c2, z0f0, z0f1, z0f2, z0l⟩ := z0.cells
    obtain ⟨z1c0, z1c1, z1c2, z1f0, z1f1, z1f2, z1l⟩ := z1.cells
    go_wp2_with fail
    refine bodyPost_ret (v := .tuple #[.agg #[.bool false, .slice none 0 0, .int .i64 0], .int .i64 1]) (by simp [results, Tryd.results18, go_sem, z1c0, z1c1, z1c2]) rfl ?_
    exact ⟨none, 0, rfl, Res.none_ _, below_put3 BW (by omega) _ _ _⟩
  · clear HC
    have HC := Lib.hid h
    clear h
    go_enter Tryd.func18, Tryd.ntmps18
    go_wp2_with fail
    obtain ⟨V, hV, z0, z1, BW, sW⟩ := fframe2 w 28 25 (B : Int) (P : Int) (W : Int) false none 0 0 0
    rw [hV]
    clear hV sW
    replace hT := hT.on BW
    refine (HY.out _).mono ?_
    rintro en w1 ⟨rfl, b⟩
    replace z0 := z0.on b
    replace z1 := z1.on b
    replace hT := hT.on b
    replace BW := Below.step BW b
    clear b
    obtain ⟨z0c0, z0c1, z0c2, z0f0, z0f1, z0f2, z0l⟩ := z0.cells
    obtain ⟨z1c0, z1c1, z1c2, z1f0, z1f1, z1f2, z1l⟩ := z1.cells
    go_wp2_with fail
    clear z0c0 z0c1 z0c2 z0f0 z0f1 z0f2 z0l z1c0 z1c1 z1c2 z1f0 z1f1 z1f2 z1l
    replace z0 := z0.on ((Below.refl _ _).drew : Below w1.heap.size w1 w1.drew)
    replace z1 := z1.on ((Below.refl _ _).drew : Below w1.heap.size w1 w1.drew)
    replace hT := hT.on ((Below.refl _ _).drew : Below w1.heap.size w1 w1.drew)
    replace BW := Lib.hid (Below.step BW ((Below.refl _ _).drew : Below w1.heap.size w1 w1.drew))
    go_region_held3 (fun w' => w'.cell? ⟨w.heap.size, 0, none⟩ = some (.int .i64 (B : Int)) ∧ w'.cell? ⟨w.heap.size, 1, none⟩ = some (.int .i64 (P : Int)) ∧ w'.cell? ⟨w.heap.size, 2, none⟩ = some (.int .i64 (W : Int)))
      ((exact ⟨z0.cells.1, z0.cells.2.1, z0.cells.2.2.1⟩))
      (first
        | (go_at_call 47
           (with_reducible refine (HR.out _).mono ?_)
           rintro en w2 ⟨rfl, b⟩
           replace z0 := z0.on b
           replace z1 := z1.on b
           replace hT := hT.on b
           replace BW := Lib.hid (Below.step BW.out b)
           clear b)
        | (go_at_call 27
           (with_reducible refine (HL.out _).mono ?_)
           rintro en w3 ⟨rfl, b⟩
           replace z0 := z0.on b
           replace z1 := z1.on b
           replace hT := hT.on b
           replace BW := Lib.hid (Below.step BW.out b)
           clear b))
    replace BW := BW.out
    obtain ⟨z0c0, z0c1, z0c2, z0f0, z0f1, z0f2, z0l⟩ := z0.cells
    obtain ⟨z1c0, z1c1, z1c2, z1f0, z1f1, z1f2, z1l⟩ := z1.cells
    go_wp2_with fail
    refine (HC.out _).mono ?_
    rintro en w4 ⟨rfl, b⟩
    clear z0c0 z0c1 z0c2 z0f0 z0f1 z0f2 z0l z1c0 z1c1 z1c2 z1f0 z1f1 z1f2 z1l
    replace z0 := z0.on b
    replace z1 := z1.on b
    replace hT := hT.on b
    replace BW := Below.step BW b
    clear b
    obtain ⟨z0c0, z0c1, z0c2, z0f0, z0f1, z0f2, z0l⟩ := z0.cells
    obtain ⟨z1c0, z1c1, z1c2, z1f0, z1f1, z1f2, z1l⟩ := z1.cells
    go_wp2_with fail
    refine bodyPost_ret (v := .tuple #[.agg #[.bool false, .slice none 0 0, .int .i64 0], .int .i64 1]) (by simp [results, Tryd.results18, go_sem, z1c0, z1c1, z1c2]) rfl ?_
    exact ⟨none, 0, rfl, Res.none_ _, below_put3 BW (by omega) _ _ _⟩
  · clear HC
    have HC := Lib.hid h
    clear h
    go_enter Tryd.func18, Tryd.ntmps18
    go_wp2_with fail
    obtain ⟨V, hV, z0, z1, BW, sW⟩ := fframe2 w 28 25 (B : Int) (P : Int) (W : Int) false none 0 0 0
    rw [hV]
    clear hV sW
    replace hT := hT.on BW
    refine (HY.out _).mono ?_
    rintro en w1 ⟨rfl, b⟩
    replace z0 := z0.on b
    replace z1 := z1.on b
    replace hT := hT.on b
    replace BW := Below.step BW b
    clear b
    obtain ⟨z0c0, z0c1, z0c2, z0f0, z0f1, z0f2, z0l⟩ := z0.cells
    obtain ⟨z1c0, z1c1, z1c2, z1f0, z1f1, z1f2, z1l⟩ := z1.cells
    go_wp2_with fail
    clear z0c0 z0c1 z0c2 z0f0 z0f1 z0f2 z0l z1c0 z1c1 z1c2 z1f0 z1f1 z1f2 z1l
    replace z0 := z0.on ((Below.refl _ _).drew : Below w1.heap.size w1 w1.drew)
    replace z1 := z1.on ((Below.refl _ _).drew : Below w1.heap.size w1 w1.drew)
    replace hT := hT.on ((Below.refl _ _).drew : Below w1.heap.size w1 w1.drew)
    replace BW := Lib.hid (Below.step BW ((Below.refl _ _).drew : Below w1.heap.size w1 w1.drew))
    go_region_held3 (fun w' => w'.cell? ⟨w.heap.size, 0, none⟩ = some (.int .i64 (B : Int)) ∧ w'.cell? ⟨w.heap.size, 1, none⟩ = some (.int .i64 (P : Int)) ∧ w'.cell? ⟨w.heap.size, 2, none⟩ = some (.int .i64 (W : Int)))
      ((exact ⟨z0.cells.1, z0.cells.2.1, z0.cells.2.2.1⟩))
      (first
        | (go_at_call 47
           (with_reducible refine (HR.out _).mono ?_)
           rintro en w2 ⟨rfl, b⟩
           replace z0 := z0.on b
           replace z1 := z1.on b
           replace hT := hT.on b
           replace BW := Lib.hid (Below.step BW.out b)
           clear b)
        | (go_at_call 27
           (with_reducible refine (HL.out _).mono ?_)
           rintro en w3 ⟨rfl, b⟩
           replace z0 := z0.on b
           replace z1 := z1.on b
           replace hT := hT.on b
           replace BW := Lib.hid (Below.step BW.out b)
           clear b))
    replace BW := BW.out
    obtain ⟨z0c0, z0c1, z0c2, z0f0, z0f1, z0f2, z0l⟩ := z0.cells
    obtain ⟨z1c0, z1c1, z1c2, z1f0, z1f1, z1f2, z1l⟩ := z1.cells
    go_wp2_with fail
    refine (HC.out _).mono ?_
    rintro en w4 ⟨rfl, b⟩
    clear z0c0 z0c1 z0c2 z0f0 z0f1 z0f2 z0l z1c0 z1c1 z1c2 z1f0 z1f1 z1f2 z1l
    replace z0 := z0.on b
    replace z1 := z1.on b
    replace hT := hT.on b
    replace BW := Below.step BW b
    clear b
    obtain ⟨z0c0, z0c1, z0c2, z0f0, z0f1, z0f2, z0l⟩ := z0.cells
    obtain ⟨z1c0, z1c1, z1c2, z1f0, z1f1, z1f2, z1l⟩ := z1.cells
    go_wp2_with fail
    refine bodyPost_ret (v := .tuple #[.agg #[.bool false, .slice none 0 0, .int .i64 0], .int .i64 1]) (by simp [results, Tryd.results18, go_sem, z1c0, z1c1, z1c2]) rfl ?_
    exact ⟨none, 0, rfl, Res.none_ _, below_put3 BW (by omega) _ _ _⟩
theorem fof_as (n : Nat) (hn : n < 18446744073709551616) (w : World) : Calls Tryd.prog 28 #[.int .u64 (n : Int)] w fun e w' => ∃ A k, e = .returned (.slice A k k) ∧ Res w' A k n ∧ Below w.heap.size w w' :=
  (of_any n hn w).mono fun e w' ⟨A, k, h1, h2, _, h3⟩ => ⟨A, k, h1, h2, h3⟩
theorem Res.le2 {w : World} {A : Option Addr} {k n : Nat} (h : Res w A k n) (hn : n < 18446744073709551616) : k ≤ 2 := res_n_le h (k := 2) ((blen_le n 64).2 (by omega))
set_option maxHeartbeats 1000000 in
theorem value_sub {B P W M E H : Nat} {low : Int} (hf : Fm B P W M E H low) (b : Nat) (hb : b < 18446744073709551616) {w : World} (hT : Tab w) (hm : b < 2 * H) (hx : b / M % (E + 1) = 0) {dn : Bool} {dx : Nat} {de : Int} (hd : D.pl ⟨decide (b / H % 2 = 1), b % M, low⟩ = ⟨dn, dx, de⟩) :
    Calls Tryd.prog 18 #[.agg #[.int .i64 (B : Int), .int .i64 (P : Int), .int .i64 (W : Int)], .int .u64 (b : Int)] w (DPx w dn dx de 0) := by
  obtain ⟨b1, b2, b3, b4, b5, b6, b7, b8, b9, b10, b11, b12, b13, b14, b15⟩ := hf.bd
  obtain ⟨r, hr⟩ : ∃ r, b % M = r := ⟨_, rfl⟩
  obtain ⟨s, hs⟩ : ∃ s, decide (b / H % 2 = 1) = s := ⟨_, rfl⟩
  have hr2 : r < M := by rw [← hr]; exact Nat.mod_lt _ (by omega)
  have HY := Lib.hid (fun (V : World) => fmay_as hf b hb true (decide_eq_true hm) V)
  have HR := Lib.hid (fun (V : World) => fraction_as hf b r hb hr V)
  have HL := Lib.hid (fun (V : World) => flow_as hf low rfl V)
  have HN := Lib.hid (fun (V : World) => fneg_as hf b hb s hs V)
  obtain ⟨n, hn0⟩ : ∃ n, r = n := ⟨_, rfl⟩
  have hn : n < 18446744073709551616 := by omega
  have HD : Hid (plainS ⟨s, n, low⟩ = (⟨dn, dx, de⟩, 0)) := by
    rw [hr, hs, hn0] at hd
    unfold plainS
    rw [(D.may_iff _).2 ⟨Nat.le_trans ((blen_le n 64).2 (by omega)) (by omega), by show -8192 ≤ low; omega, by show low ≤ 8192; omega⟩, if_pos rfl, hd]
    exact Lib.hid rfl
  have HC : Hid ((∀ V, Calls Tryd.prog 48 #[.agg #[.int .i64 (B : Int), .int .i64 (P : Int), .int .i64 (W : Int)], .int .u64 (b : Int)] V fun e w' => e = .returned (.int .i64 0) ∧ Below V.heap.size V w') ∨ (∀ V, Calls Tryd.prog 48 #[.agg #[.int .i64 (B : Int), .int .i64 (P : Int), .int .i64 (W : Int)], .int .u64 (b : Int)] V fun e w' => e = .returned (.int .i64 1) ∧ Below V.heap.size V w')) := by
    rcases cls_sub hx with h | h
    · exact Lib.hid (.inl fun V => class_as hf b 0 hb h V)
    · exact Lib.hid (.inr fun V => class_as hf b 1 hb h V)
  clear hm hf b1 hx hr hs hd
  subst hn0
  rcases HC.out with h | h
  · clear HC
    have HC := Lib.hid h
    clear h
    go_enter Tryd.func18, Tryd.ntmps18
    go_wp2_with fail
    obtain ⟨V, hV, z0, z1, BW, sW⟩ := fframe2 w 28 25 (B : Int) (P : Int) (W : Int) false none 0 0 0
    rw [hV]
    clear hV sW
    replace hT := hT.on BW
    refine (HY.out _).mono ?_
    rintro en w1 ⟨rfl, b⟩
    replace z0 := z0.on b
    replace z1 := z1.on b
    replace hT := hT.on b
    replace BW := Below.step BW b
    clear b
    obtain ⟨z0c0, z0c1, z0c2, z0f0, z0f1, z0f2, z0l⟩ := z0.cells
    obtain ⟨z1c0, z1c1, z1c2, z1f0, z1f1, z1f2, z1l⟩ := z1.cells
    go_wp2_with fail
    clear z0c0 z0c1 z0c2 z0f0 z0f1 z0f2 z0l z1c0 z1c1 z1c2 z1f0 z1f1 z1f2 z1l
    replace z0 := z0.on ((Below.refl _ _).drew : Below w1.heap.size w1 w1.drew)
    replace z1 := z1.on ((Below.refl _ _).drew : Below w1.heap.size w1 w1.drew)
    replace hT := hT.on ((Below.refl _ _).drew : Below w1.heap.size w1 w1.drew)
    replace BW := Lib.hid (Below.step BW ((Below.refl _ _).drew : Below w1.heap.size w1 w1.drew))
    go_region_held3 (fun w' => w'.cell? ⟨w.heap.size, 0, none⟩ = some (.int .i64 (B : Int)) ∧ w'.cell? ⟨w.heap.size, 1, none⟩ = some (.int .i64 (P : Int)) ∧ w'.cell? ⟨w.heap.size, 2, none⟩ = some (.int .i64 (W : Int)))
      ((exact ⟨z0.cells.1, z0.cells.2.1, z0.cells.2.2.1⟩))
      (first
        | (go_at_call 47
           (with_reducible refine (HR.out _).mono ?_)
           rintro en w2 ⟨rfl, b⟩
           replace z0 := z0.on b
           replace z1 := z1.on b
           replace hT := hT.on b
           replace BW := Lib.hid (Below.step BW.out b)
           clear b)
        | (go_at_call 27
           (with_reducible refine (HL.out _).mono ?_)
           rintro en w3 ⟨rfl, b⟩
           replace z0 := z0.on b
           replace z1 := z1.on b
           replace hT := hT.on b
           replace BW := Lib.hid (Below.step BW.out b)
           clear b))
    replace BW := BW.out
    obtain ⟨z0c0, z0c1, z0c2, z0f0, z0f1, z0f2, z0l⟩ := z0.cells
    obtain ⟨z1c0, z1c1, z1c2, z1f0, z1f1, z1f2, z1l⟩ := z1.cells
    go_wp2_with fail
    refine (HC.out _).mono ?_
    rintro en w4 ⟨rfl, b⟩
    clear z0c0 z0c1 z0c2 z0f0 z0f1 z0f2 z0l z1c0 z1c1 z1c2 z1f0 z1f1 z1f2 z1l
    replace z0 := z0.on b
    replace z1 := z1.on b
    replace hT := hT.on b
    replace BW := Below.step BW b
    clear b
    obtain ⟨z0c0, z0c1, z0c2, z0f0, z0f1, z0f2, z0l⟩ := z0.cells
    obtain ⟨z1c0, z1c1, z1c2, z1f0, z1f1, z1f2, z1l⟩ := z1.cells
    go_wp2_with fail
    refine (HN.out _).mono ?_
    rintro en w5 ⟨rfl, b⟩
    clear z0c0 z0c1 z0c2 z0f0 z0f1 z0f2 z0l z1c0 z1c1 z1c2 z1f0 z1f1 z1f2 z1l
    replace z0 := z0.on b
    replace z1 := z1.on b
    replace hT := hT.on b
    replace BW := Below.step BW b
    clear b
    obtain ⟨z0c0, z0c1, z0c2, z0f0, z0f1, z0f2, z0l⟩ := z0.cells
    obtain ⟨z1c0, z1c1, z1c2, z1f0, z1f1, z1f2, z1l⟩ := z1.cells
    go_wp2_with fail
    refine (fof_as r hn _).mono ?_
    rintro en w6 ⟨V_rn, v_rn, rfl, rn, b⟩
    clear z0c0 z0c1 z0c2 z0f0 z0f1 z0f2 z0l z1c0 z1c1 z1c2 z1f0 z1f1 z1f2 z1l
    replace z0 := z0.on b
    replace z1 := z1.on b
    replace hT := hT.on b
    replace BW := Below.step BW b
    clear b
    have ln := rn.le2 hn
    obtain ⟨z0c0, z0c1, z0c2, z0f0, z0f1, z0f2, z0l⟩ := z0.cells
    obtain ⟨z1c0, z1c1, z1c2, z1f0, z1f1, z1f2, z1l⟩ := z1.cells
    go_wp2_with fail
    refine (dplain_as (rn.arg (by omega)) (by omega) hT HD.out).mono ?_
    rintro en w7 ⟨V_rd, v_rd, rfl, rd, b⟩
    clear z0c0 z0c1 z0c2 z0f0 z0f1 z0f2 z0l z1c0 z1c1 z1c2 z1f0 z1f1 z1f2 z1l
    replace z0 := z0.on b
    replace z1 := z1.on b
    replace hT := hT.on b
    replace rn := rn.on b
    replace BW := Below.step BW b
    clear b
    obtain ⟨z0c0, z0c1, z0c2, z0f0, z0f1, z0f2, z0l⟩ := z0.cells
    obtain ⟨z1c0, z1c1, z1c2, z1f0, z1f1, z1f2, z1l⟩ := z1.cells
    go_wp2_with fail
    refine bodyPost_ret (v := .tuple #[.agg #[.bool dn, .slice V_rd v_rd v_rd, .int .i64 de], .int .i64 0]) (by simp [results, Tryd.results18, go_sem, z1c0, z1c1, z1c2]) rfl ?_
    exact ⟨V_rd, v_rd, rfl, z1.res rd _ _ _, below_put3 BW (by omega) _ _ _⟩
  · clear HC
    have HC := Lib.hid h
    clear h
    go_enter Tryd.func18, Tryd.ntmps18
    go_wp2_with fail
    obtain ⟨V, hV, z0, z1, BW, sW⟩ := fframe2 w 28 25 (B : Int) (P : Int) (W : Int) false none 0 0 0
    rw [hV]
    clear hV sW
    replace hT := hT.on BW
    refine (HY.out _).mono ?_
    rintro en w1 ⟨rfl, b⟩
    replace z0 := z0.on b
    replace z1 := z1.on b
    replace hT := hT.on b
    replace BW := Below.step BW b
    clear b
    obtain ⟨z0c0, z0c1, z0c2, z0f0, z0f1, z0f2, z0l⟩ := z0.cells
    obtain ⟨z1c0, z1c1, z1c2, z1f0, z1f1, z1f2, z1l⟩ := z1.cells
    go_wp2_with fail
    clear z0c0 z0c1 z0c2 z0f0 z0f1 z0f2 z0l z1c0 z1c1 z1c2 z1f0 z1f1 z1f2 z1l
    replace z0 := z0.on ((Below.refl _ _).drew : Below w1.heap.size w1 w1.drew)
    replace z1 := z1.on ((Below.refl _ _).drew : Below w1.heap.size w1 w1.drew)
    replace hT := hT.on ((Below.refl _ _).drew : Below w1.heap.size w1 w1.drew)
    replace BW := Lib.hid (Below.step BW ((Below.refl _ _).drew : Below w1.heap.size w1 w1.drew))
    go_region_held3 (fun w' => w'.cell? ⟨w.heap.size, 0, none⟩ = some (.int .i64 (B : Int)) ∧ w'.cell? ⟨w.heap.size, 1, none⟩ = some (.int .i64 (P : Int)) ∧ w'.cell? ⟨w.heap.size, 2, none⟩ = some (.int .i64 (W : Int)))
      ((exact ⟨z0.cells.1, z0.cells.2.1, z0.cells.2.2.1⟩))
      (first
        | (go_at_call 47
           (with_reducible refine (HR.out _).mono ?_)
           rintro en w2 ⟨rfl, b⟩
           replace z0 := z0.on b
           replace z1 := z1.on b
           replace hT := hT.on b
           replace BW := Lib.hid (Below.step BW.out b)
           clear b)
        | (go_at_call 27
           (with_reducible refine (HL.out _).mono ?_)
           rintro en w3 ⟨rfl, b⟩
           replace z0 := z0.on b
           replace z1 := z1.on b
           replace hT := hT.on b
           replace BW := Lib.hid (Below.step BW.out b)
           clear b))
    replace BW := BW.out
    obtain ⟨z0c0, z0c1, z0c2, z0f0, z0f1, z0f2, z0l⟩ := z0.cells
    obtain ⟨z1c0, z1c1, z1c2, z1f0, z1f1, z1f2, z1l⟩ := z1.cells
    go_wp2_with fail
    refine (HC.out _).mono ?_
    rintro en w4 ⟨rfl, b⟩
    clear z0c0 z0c1 z0c2 z0f0 z0f1 z0f2 z0l z1c0 z1c1 z1c2 z1f0 z1f1 z1f2 z1l
    replace z0 := z0.on b
    replace z1 := z1.on b
    replace hT := hT.on b
    replace BW := Below.step BW b
    clear b
    obtain ⟨z0c0, z0c1, z0c2, z0f0, z0f1, z0f2, z0l⟩ := z0.cells
    obtain ⟨z1c0, z1c1, z1c2, z1f0, z1f1, z1f2, z1l⟩ := z1.cells
    go_wp2_with fail
    refine (HN.out _).mono ?_
    rintro en w5 ⟨rfl, b⟩
    clear z0c0 z0c1 z0c2 z0f0 z0f1 z0f2 z0l z1c0 z1c1 z1c2 z1f0 z1f1 z1f2 z1l
    replace z0 := z0.on b
    replace z1 := z1.on b
    replace hT := hT.on b
    replace BW := Below.step BW b
    clear b
    obtain ⟨z0c0, z0c1, z0c2, z0f0, z0f1, z0f2, z0l⟩ := z0.cells
    obtain ⟨z1c0, z1c1, z1c2, z1f0, z1f1, z1f2, z1l⟩ := z1.cells
    go_wp2_with fail
    refine (fof_as r hn _).mono ?_
    rintro en w6 ⟨V_rn, v_rn, rfl, rn, b⟩
    clear z0c0 z0c1 z0c2 z0f0 z0f1 z0f2 z0l z1c0 z1c1 z1c2 z1f0 z1f1 z1f2 z1l
    replace z0 := z0.on b
    replace z1 := z1.on b
    replace hT := hT.on b
    replace BW := Below.step BW b
    clear b
    have ln := rn.le2 hn
    obtain ⟨z0c0, z0c1, z0c2, z0f0, z0f1, z0f2, z0l⟩ := z0.cells
    obtain ⟨z1c0, z1c1, z1c2, z1f0, z1f1, z1f2, z1l⟩ := z1.cells
    go_wp2_with fail
    refine (dplain_as (rn.arg (by omega)) (by omega) hT HD.out).mono ?_
    rintro en w7 ⟨V_rd, v_rd, rfl, rd, b⟩
    clear z0c0 z0c1 z0c2 z0f0 z0f1 z0f2 z0l z1c0 z1c1 z1c2 z1f0 z1f1 z1f2 z1l
    replace z0 := z0.on b
    replace z1 := z1.on b
    replace hT := hT.on b
    replace rn := rn.on b
    replace BW := Below.step BW b
    clear b
    obtain ⟨z0c0, z0c1, z0c2, z0f0, z0f1, z0f2, z0l⟩ := z0.cells
    obtain ⟨z1c0, z1c1, z1c2, z1f0, z1f1, z1f2, z1l⟩ := z1.cells
    go_wp2_with fail
    refine bodyPost_ret (v := .tuple #[.agg #[.bool dn, .slice V_rd v_rd v_rd, .int .i64 de], .int .i64 0]) (by simp [results, Tryd.results18, go_sem, z1c0, z1c1, z1c2]) rfl ?_
    exact ⟨V_rd, v_rd, rfl, z1.res rd _ _ _, below_put3 BW (by omega) _ _ _⟩
set_option maxHeartbeats 1000000 in
theorem value_norm {B P W M E H : Nat} {low : Int} (hf : Fm B P W M E H low) (b : Nat) (hb : b < 18446744073709551616) {w : World} (hT : Tab w) (hm : b < 2 * H) (hx : b / M % (E + 1) ≠ 0) (hx2 : b / M % (E + 1) ≠ E) {dn : Bool} {dx : Nat} {de : Int} (hd : D.pl ⟨decide (b / H % 2 = 1), M + b % M, low + ((b / M % (E + 1) : Nat) : Int) - 1⟩ = ⟨dn, dx, de⟩) :
    Calls Tryd.prog 18 #[.agg #[.int .i64 (B : Int), .int .i64 (P : Int), .int .i64 (W : Int)], .int .u64 (b : Int)] w (DPx w dn dx de 0) := by
  obtain ⟨b1, b2, b3, b4, b5, b6, b7, b8, b9, b10, b11, b12, b13, b14, b15⟩ := hf.bd
  obtain ⟨r, hr⟩ : ∃ r, b % M = r := ⟨_, rfl⟩
  obtain ⟨s, hs⟩ : ∃ s, decide (b / H % 2 = 1) = s := ⟨_, rfl⟩
  have hr2 : r < M := by rw [← hr]; exact Nat.mod_lt _ (by omega)
  have HY := Lib.hid (fun (V : World) => fmay_as hf b hb true (decide_eq_true hm) V)
  have HR := Lib.hid (fun (V : World) => fraction_as hf b r hb hr V)
  have HL := Lib.hid (fun (V : World) => flow_as hf low rfl V)
  have HN := Lib.hid (fun (V : World) => fneg_as hf b hb s hs V)
  obtain ⟨x, hxx⟩ : ∃ x, b / M % (E + 1) = x := ⟨_, rfl⟩
  have hx3 : x < E + 1 := by rw [← hxx]; exact Nat.mod_lt _ (by omega)
  obtain ⟨n, hn0⟩ : ∃ n, M + r = n := ⟨_, rfl⟩
  have hn : n < 18446744073709551616 := by omega
  obtain ⟨q, hq⟩ : ∃ q : Int, low + ((x : Int) - 1) = q := ⟨_, rfl⟩
  have hq1 : -8192 ≤ q := by omega
  have hq2 : q ≤ 8192 := by omega
  have HD : Hid (plainS ⟨s, n, q⟩ = (⟨dn, dx, de⟩, 0)) := by
    rw [hr, hs, hxx, hn0, show low + (x : Int) - 1 = q by omega] at hd
    unfold plainS
    rw [(D.may_iff _).2 ⟨Nat.le_trans ((blen_le n 64).2 (by omega)) (by omega), hq1, hq2⟩, if_pos rfl, hd]
    exact Lib.hid rfl
  have HC := Lib.hid (fun (V : World) => class_as hf b 2 hb (cls_norm hx hx2) V)
  have HB := Lib.hid (fun (V : World) => fbit_as (P - 1) M (by omega) hf.pP ((P : Int) - 1) (by omega) V)
  have HX := Lib.hid (fun (V : World) => exponent_as hf b x hb hxx V)
  have hor : bits BinOp.or IntKind.u64 (r : Int) (M : Int) = (n : Int) := by
    have h1 := hf.pP
    rw [or_u64 r M (by omega) (by omega), ← h1, or_above _ _ (by rw [h1]; exact hr2), h1, hn0]
  have q1 : IntKind.i64.wrap (x : Int) = (x : Int) := IntWalk.i64_in _ (by omega)
  have q2 : IntKind.i64.wrap ((x : Int) - 1) = (x : Int) - 1 := IntWalk.i64_in _ (by omega)
  have q3 : IntKind.i64.wrap (low + ((x : Int) - 1)) = q := by rw [IntWalk.i64_in _ (by omega)]; exact hq
  clear hm hf b1 hx hx2 hr hs hd hxx hn0
  go_enter Tryd.func18, Tryd.ntmps18
  go_wp2_with fail
  obtain ⟨V, hV, z0, z1, BW, sW⟩ := fframe2 w 28 25 (B : Int) (P : Int) (W : Int) false none 0 0 0
  rw [hV]
  clear hV sW
  replace hT := hT.on BW
  refine (HY.out _).mono ?_
  rintro en w1 ⟨rfl, b⟩
  replace z0 := z0.on b
  replace z1 := z1.on b
  replace hT := hT.on b
  replace BW := Below.step BW b
  clear b
  obtain ⟨z0c0, z0c1, z0c2, z0f0, z0f1, z0f2, z0l⟩ := z0.cells
  obtain ⟨z1c0, z1c1, z1c2, z1f0, z1f1, z1f2, z1l⟩ := z1.cells
  go_wp2_with fail
  clear z0c0 z0c1 z0c2 z0f0 z0f1 z0f2 z0l z1c0 z1c1 z1c2 z1f0 z1f1 z1f2 z1l
  replace z0 := z0.on ((Below.refl _ _).drew : Below w1.heap.size w1 w1.drew)
  replace z1 := z1.on ((Below.refl _ _).drew : Below w1.heap.size w1 w1.drew)
  replace hT := hT.on ((Below.refl _ _).drew : Below w1.heap.size w1 w1.drew)
  replace BW := Lib.hid (Below.step BW ((Below.refl _ _).drew : Below w1.heap.size w1 w1.drew))
  go_region_held3 (fun w' => w'.cell? ⟨w.heap.size, 0, none⟩ = some (.int .i64 (B : Int)) ∧ w'.cell? ⟨w.heap.size, 1, none⟩ = some (.int .i64 (P : Int)) ∧ w'.cell? ⟨w.heap.size, 2, none⟩ = some (.int .i64 (W : Int)))
    ((exact ⟨z0.cells.1, z0.cells.2.1, z0.cells.2.2.1⟩))
    (first
      | (go_at_call 47
         (with_reducible refine (HR.out _).mono ?_)
         rintro en w2 ⟨rfl, b⟩
         replace z0 := z0.on b
         replace z1 := z1.on b
         replace hT := hT.on b
         replace BW := Lib.hid (Below.step BW.out b)
         clear b)
      | (go_at_call 27
         (with_reducible refine (HL.out _).mono ?_)
         rintro en w3 ⟨rfl, b⟩
         replace z0 := z0.on b
         replace z1 := z1.on b
         replace hT := hT.on b
         replace BW := Lib.hid (Below.step BW.out b)
         clear b))
  replace BW := BW.out
  obtain ⟨z0c0, z0c1, z0c2, z0f0, z0f1, z0f2, z0l⟩ := z0.cells
  obtain ⟨z1c0, z1c1, z1c2, z1f0, z1f1, z1f2, z1l⟩ := z1.cells
  go_wp2_with fail
  refine (HC.out _).mono ?_
  rintro en w4 ⟨rfl, b⟩
  clear z0c0 z0c1 z0c2 z0f0 z0f1 z0f2 z0l z1c0 z1c1 z1c2 z1f0 z1f1 z1f2 z1l
  replace z0 := z0.on b
  replace z1 := z1.on b
  replace hT := hT.on b
  replace BW := Below.step BW b
  clear b
  obtain ⟨z0c0, z0c1, z0c2, z0f0, z0f1, z0f2, z0l⟩ := z0.cells
  obtain ⟨z1c0, z1c1, z1c2, z1f0, z1f1, z1f2, z1l⟩ := z1.cells
  go_wp2_with fail
  refine (HB.out _).mono ?_
  rintro en w' ⟨rfl, rfl⟩
  go_wp2_with fail
  refine (HX.out _).mono ?_
  rintro en w5 ⟨rfl, b⟩
  clear z0c0 z0c1 z0c2 z0f0 z0f1 z0f2 z0l z1c0 z1c1 z1c2 z1f0 z1f1 z1f2 z1l
  replace z0 := z0.on b
  replace z1 := z1.on b
  replace hT := hT.on b
  replace BW := Below.step BW b
  clear b
  obtain ⟨z0c0, z0c1, z0c2, z0f0, z0f1, z0f2, z0l⟩ := z0.cells
  obtain ⟨z1c0, z1c1, z1c2, z1f0, z1f1, z1f2, z1l⟩ := z1.cells
  go_wp2_with fail
  refine (HN.out _).mono ?_
  rintro en w6 ⟨rfl, b⟩
  clear z0c0 z0c1 z0c2 z0f0 z0f1 z0f2 z0l z1c0 z1c1 z1c2 z1f0 z1f1 z1f2 z1l
  replace z0 := z0.on b
  replace z1 := z1.on b
  replace hT := hT.on b
  replace BW := Below.step BW b
  clear b
  obtain ⟨z0c0, z0c1, z0c2, z0f0, z0f1, z0f2, z0l⟩ := z0.cells
  obtain ⟨z1c0, z1c1, z1c2, z1f0, z1f1, z1f2, z1l⟩ := z1.cells
  go_wp2_with fail
  refine (fof_as n hn _).mono ?_
  rintro en w7 ⟨V_rn, v_rn, rfl, rn, b⟩
  clear z0c0 z0c1 z0c2 z0f0 z0f1 z0f2 z0l z1c0 z1c1 z1c2 z1f0 z1f1 z1f2 z1l
  replace z0 := z0.on b
  replace z1 := z1.on b
  replace hT := hT.on b
  replace BW := Below.step BW b
  clear b
  have ln := rn.le2 hn
  obtain ⟨z0c0, z0c1, z0c2, z0f0, z0f1, z0f2, z0l⟩ := z0.cells
  obtain ⟨z1c0, z1c1, z1c2, z1f0, z1f1, z1f2, z1l⟩ := z1.cells
  go_wp2_with fail
  refine (dplain_as (rn.arg (by omega)) (by omega) hT HD.out).mono ?_
  rintro en w8 ⟨V_rd, v_rd, rfl, rd, b⟩
  clear z0c0 z0c1 z0c2 z0f0 z0f1 z0f2 z0l z1c0 z1c1 z1c2 z1f0 z1f1 z1f2 z1l
  replace z0 := z0.on b
  replace z1 := z1.on b
  replace hT := hT.on b
  replace rn := rn.on b
  replace BW := Below.step BW b
  clear b
  obtain ⟨z0c0, z0c1, z0c2, z0f0, z0f1, z0f2, z0l⟩ := z0.cells
  obtain ⟨z1c0, z1c1, z1c2, z1f0, z1f1, z1f2, z1l⟩ := z1.cells
  go_wp2_with fail
  refine bodyPost_ret (v := .tuple #[.agg #[.bool dn, .slice V_rd v_rd v_rd, .int .i64 de], .int .i64 0]) (by simp [results, Tryd.results18, go_sem, z1c0, z1c1, z1c2]) rfl ?_
  exact ⟨V_rd, v_rd, rfl, z1.res rd _ _ _, below_put3 BW (by omega) _ _ _⟩
theorem value_as {B P W M E H : Nat} {low : Int} (hf : Fm B P W M E H low) (b : Nat) (hb : b < 18446744073709551616) {w : World} (hT : Tab w) {rn : Bool} {rx : Nat} {re err : Int} (hr : valS M E H low b = (⟨rn, rx, re⟩, err)) :
    Calls Tryd.prog 18 #[.agg #[.int .i64 (B : Int), .int .i64 (P : Int), .int .i64 (W : Int)], .int .u64 (b : Int)] w (DPx w rn rx re err) := by
  obtain ⟨b1, b2, b3, b4, b5, b6, b7, b8, b9, b10, b11, b12, b13, b14, b15⟩ := hf.bd
  unfold valS at hr
  by_cases hm : b < 2 * H
  · rw [if_pos hm] at hr
    by_cases hx : b / M % (E + 1) = E
    · rw [if_pos hx] at hr
      simp only [Prod.mk.injEq, D.mk.injEq] at hr
      obtain ⟨⟨rfl, rfl, rfl⟩, rfl⟩ := hr
      exact value_arg hf b hb hT hm hx
    · rw [if_neg hx] at hr
      simp only [Prod.mk.injEq] at hr
      obtain ⟨hd, rfl⟩ := hr
      unfold valN valP at hd
      by_cases h0 : b / M % (E + 1) = 0
      · rw [if_pos h0, if_pos h0] at hd
        exact value_sub hf b hb hT hm h0 hd
      · rw [if_neg h0, if_neg h0] at hd
        exact value_norm hf b hb hT hm h0 hx hd
  · rw [if_neg hm] at hr
    simp only [Prod.mk.injEq, D.mk.injEq] at hr
    obtain ⟨⟨rfl, rfl, rfl⟩, rfl⟩ := hr
    exact value_range hf b hb hT hm
end Go.Proofs.YtkjbejdeejpdoaaDoor
