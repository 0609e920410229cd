
/-
  The walks of round's place, tiny, flags, away, againstHalf.
-/
import Derived.Test.YtkjbejdeejpdoaaDoorKb
namespace Go.Proofs.YtkjbejdeejpdoaaDoor
open Go.RowKit
set_option linter.unusedVariables false

theorem FB.made_k (w : World) {s : Nat} (hs : w.heap.size = s) (t : TypeId) (a b c : Int) : FB (w.alloc (.cells #[.int .i64 a, .int .i64 b, .int .i64 c] t)) s t a b c := by
  subst hs; exact Box.made w t (notU_int _) (notU_int _) (notU_int _)
theorem nfframe (w : World) (t1 t2 : TypeId) (n : Bool) (A : Option Addr) (l k : Nat) (e t : Int) (z : Bool) (a b c : Int) : ∃ W, (w.alloc (nob n A l k e t z t1)).alloc (.cells #[.int .i64 a, .int .i64 b, .int .i64 c] t2) = W ∧ NB W w.heap.size t1 n A l k e t z ∧ FB W (w.heap.size + 1) t2 a b c ∧ Below w.heap.size w W ∧ W.heap.size = w.heap.size + 2 :=
  ⟨_, rfl, (NB.made w rfl t1 n A l k e t z).alloc _, FB.made_k _ (by simp) t2 a b c, ((Below.refl _ _).alloc (by simp <;> omega) _).alloc (by simp <;> omega) _, by simp⟩
theorem ndframe (w : World) (t1 t2 : TypeId) (n : Bool) (A : Option Addr) (l k : Nat) (e t : Int) (z : Bool) (n2 : Bool) (A2 : Option Addr) (l2 k2 : Nat) (e2 : Int) : ∃ W, (w.alloc (nob n A l k e t z t1)).alloc (dob n2 A2 l2 k2 e2 t2) = W ∧ NB W w.heap.size t1 n A l k e t z ∧ DB W (w.heap.size + 1) t2 n2 A2 l2 k2 e2 ∧ Below w.heap.size w W ∧ W.heap.size = w.heap.size + 2 :=
  ⟨_, rfl, (NB.made w rfl t1 n A l k e t z).alloc _, DB.made _ (by simp) t2 n2 A2 l2 k2 e2, ((Below.refl _ _).alloc (by simp <;> omega) _).alloc (by simp <;> omega) _, by simp⟩
theorem nddframe (w : World) (t1 t2 : TypeId) (n : Bool) (A : Option Addr) (l k : Nat) (e t : Int) (z : Bool) (n2 : Bool) (A2 : Option Addr) (l2 k2 : Nat) (e2 : Int) : ∃ W, ((w.alloc (nob n A l k e t z t1)).alloc (dob n2 A2 l2 k2 e2 t2)).alloc (dob false none 0 0 0 t2) = W ∧ NB W w.heap.size t1 n A l k e t z ∧ DB W (w.heap.size + 1) t2 n2 A2 l2 k2 e2 ∧ DB W (w.heap.size + 1 + 1) t2 false none 0 0 0 ∧ Below w.heap.size w W ∧ W.heap.size = w.heap.size + 3 :=
  ⟨_, rfl, ((NB.made w rfl t1 n A l k e t z).alloc _).alloc _, (DB.made _ (by simp) t2 n2 A2 l2 k2 e2).alloc _, DB.made _ (by simp) t2 false none 0 0 0, (((Below.refl _ _).alloc (by simp <;> omega) _).alloc (by simp <;> omega) _).alloc (by simp <;> omega) _, by simp⟩
/-- a variable with a number, made within an assignment. -/
def CutD (w0 : World) (rn : Bool) (rx : Nat) (re : Int) (s7 : Value) (wx : World) : Prop :=
  ∃ g A n, s7 = .pointer (some ⟨g, 0, none⟩) ∧ DB wx g 25 rn A n n re ∧ Res wx A n rx ∧ w0.heap.size ≤ g ∧ Below w0.heap.size w0 wx
theorem kmade_drew (w : World) {s : Nat} (hs : w.heap.size = s) (t : TypeId) (neg : Bool) (A : Option Addr) (n c : Nat) (e : Int) : DB (w.alloc (dob neg A n c e t)).drew s t neg A n c e := (DB.made w hs t neg A n c e).on ((Below.refl _ _).drew)
theorem below_k {w0 w : World} (h : Below w0.heap.size w0 w) (o : Obj) : Below w0.heap.size w0 (w.alloc o) := h.alloc h.size o
set_option maxHeartbeats 1000000 in
theorem place_as {B P W M E H : Nat} {low : Int} (hf : Fm B P W M E H low) {dn nz : Bool} {A : Option Addr} {n c : Nat} {de t : Int} {w : World} (t1 : -20000 ≤ t) (t2 : t ≤ 20000) {p : Int} (hp : max (t - ((P : Int) - 1)) low = p) :
    Calls Tryd.prog 34 #[.agg #[.bool dn, .slice A n c, .int .i64 de, .int .i64 t, .bool nz], .agg #[.int .i64 (B : Int), .int .i64 (P : Int), .int .i64 (W : Int)]] w fun en w' => en = .returned (.int .i64 p) ∧ Below w.heap.size w w' := by
  obtain ⟨b1, b2, b3, b4, b5, b6, b7, b8, b9, b10, b11, b12, b13, b14, b15⟩ := hf.bd
  have HL := Lib.hid (fun (V : World) => flow_as hf low rfl V)
  have q1 : IntKind.i64.wrap ((P : Int) - 1) = (P : Int) - 1 := IntWalk.i64_in _ (by omega)
  have q2 : IntKind.i64.wrap (t - ((P : Int) - 1)) = t - ((P : Int) - 1) := IntWalk.i64_in _ (by omega)
  clear b1 hf
  go_enter Tryd.func34, Tryd.ntmps34
  go_wp2_with fail
  obtain ⟨V, hV, z0, z1, BW, sW⟩ := nfframe w 73 28 dn A n c de t nz (B : Int) (P : Int) (W : Int)
  rw [hV]
  clear hV sW
  replace z0 := z0.on ((Below.refl _ _).drew : Below V.heap.size V V.drew)
  replace z1 := z1.on ((Below.refl _ _).drew : Below V.heap.size V V.drew)
  replace BW := Lib.hid (Below.step BW ((Below.refl _ _).drew : Below V.heap.size V V.drew))
  go_region_held3 (fun w' => w'.cell? ⟨w.heap.size, 0, none⟩ = some (.bool dn) ∧ w'.cell? ⟨w.heap.size, 1, none⟩ = some (.slice A n c) ∧ w'.cell? ⟨w.heap.size, 2, none⟩ = some (.int .i64 de) ∧ w'.cell? ⟨w.heap.size, 3, none⟩ = some (.int .i64 t) ∧ w'.cell? ⟨w.heap.size, 4, none⟩ = some (.bool nz) ∧ w'.cell? ⟨(w.heap.size + 1), 0, none⟩ = some (.int .i64 (B : Int)) ∧ w'.cell? ⟨(w.heap.size + 1), 1, none⟩ = some (.int .i64 (P : Int)) ∧ w'.cell? ⟨(w.heap.size + 1), 2, none⟩ = some (.int .i64 (W : Int)))
    ((exact ⟨z0.cells.1, z0.cells.2.1, z0.cells.2.2.1, z0.cells.2.2.2.1, z0.cells.2.2.2.2.1, z1.cells.1, z1.cells.2.1, z1.cells.2.2.1⟩))
    (first
      | (go_at_call 27
         (with_reducible refine (HL.out _).mono ?_)
         rintro en w1 ⟨rfl, b⟩
         replace z0 := z0.on b
         replace z1 := z1.on b
         replace BW := Lib.hid (Below.step BW.out b)
         clear b))
  replace BW := BW.out
  all_goals (
    obtain ⟨z0c0, z0c1, z0c2, z0c3, z0c4, z0f0, z0f1, z0f2, z0f3, z0f4, z0l⟩ := z0.cells
    obtain ⟨z1c0, z1c1, z1c2, z1f0, z1f1, z1f2, z1l⟩ := z1.cells
    go_wp2_with fail
    refine bodyPost_ret (v := .int .i64 p) (by simp [results, Tryd.results34, go_sem]) rfl ⟨rfl, BW⟩)
set_option maxHeartbeats 1000000 in
theorem tiny_as {B P W M E H : Nat} {low : Int} (hf : Fm B P W M E H low) {dn nz : Bool} {A : Option Addr} {n c : Nat} {de t : Int} {w : World} (b : Bool) (hb : decide (t < low + (P : Int) - 1) = b) :
    Calls Tryd.prog 68 #[.agg #[.bool dn, .slice A n c, .int .i64 de, .int .i64 t, .bool nz], .agg #[.int .i64 (B : Int), .int .i64 (P : Int), .int .i64 (W : Int)]] w fun en w' => en = .returned (.bool b) ∧ Below w.heap.size w w' := by
  obtain ⟨b1, b2, b3, b4, b5, b6, b7, b8, b9, b10, b11, b12, b13, b14, b15⟩ := hf.bd
  have HL := Lib.hid (fun (V : World) => flow_as hf low rfl V)
  have q1 : IntKind.i64.wrap (low + (P : Int)) = low + (P : Int) := IntWalk.i64_in _ (by omega)
  have q2 : IntKind.i64.wrap (low + (P : Int) - 1) = low + (P : Int) - 1 := IntWalk.i64_in _ (by omega)
  clear b1 hf
  go_enter Tryd.func68, Tryd.ntmps68
  go_wp2_with fail
  obtain ⟨V, hV, z0, z1, BW, sW⟩ := nfframe w 73 28 dn A n c de t nz (B : Int) (P : Int) (W : Int)
  rw [hV]
  clear hV sW
  replace z0 := z0.on ((Below.refl _ _).drew : Below V.heap.size V V.drew)
  replace z1 := z1.on ((Below.refl _ _).drew : Below V.heap.size V V.drew)
  replace BW := Lib.hid (Below.step BW ((Below.refl _ _).drew : Below V.heap.size V V.drew))
  go_region_held3 (fun w' => w'.cell? ⟨w.heap.size, 0, none⟩ = some (.bool dn) ∧ w'.cell? ⟨w.heap.size, 1, none⟩ = some (.slice A n c) ∧ w'.cell? ⟨w.heap.size, 2, none⟩ = some (.int .i64 de) ∧ w'.cell? ⟨w.heap.size, 3, none⟩ = some (.int .i64 t) ∧ w'.cell? ⟨w.heap.size, 4, none⟩ = some (.bool nz) ∧ w'.cell? ⟨(w.heap.size + 1), 0, none⟩ = some (.int .i64 (B : Int)) ∧ w'.cell? ⟨(w.heap.size + 1), 1, none⟩ = some (.int .i64 (P : Int)) ∧ w'.cell? ⟨(w.heap.size + 1), 2, none⟩ = some (.int .i64 (W : Int)))
    ((exact ⟨z0.cells.1, z0.cells.2.1, z0.cells.2.2.1, z0.cells.2.2.2.1, z0.cells.2.2.2.2.1, z1.cells.1, z1.cells.2.1, z1.cells.2.2.1⟩))
    (first
      | (go_at_call 27
         (with_reducible refine (HL.out _).mono ?_)
         rintro en w1 ⟨rfl, b⟩
         replace z0 := z0.on b
         replace z1 := z1.on b
         replace BW := Lib.hid (Below.step BW.out b)
         clear b))
  replace BW := BW.out
  all_goals (
    obtain ⟨z0c0, z0c1, z0c2, z0c3, z0c4, z0f0, z0f1, z0f2, z0f3, z0f4, z0l⟩ := z0.cells
    obtain ⟨z1c0, z1c1, z1c2, z1f0, z1f1, z1f2, z1l⟩ := z1.cells
    go_wp2_with fail
    refine bodyPost_ret (v := .bool b) (by simp [results, Tryd.results68, go_sem]) rfl ⟨rfl, BW⟩)
theorem flags_as {B P W M E H : Nat} {low : Int} (hf : Fm B P W M E H low) {dn nz : Bool} {A : Option Addr} {n c : Nat} {de t : Int} {w : World} (lost b : Bool) (hb : decide (t < low + (P : Int) - 1) = b) (q : Int) (hq : (if lost then if b then 3 else 1 else 0) = q) :
    Calls Tryd.prog 55 #[.agg #[.bool dn, .slice A n c, .int .i64 de, .int .i64 t, .bool nz], .agg #[.int .i64 (B : Int), .int .i64 (P : Int), .int .i64 (W : Int)], .bool lost] w fun en w' => en = .returned (.int .i64 q) ∧ Below w.heap.size w w' := by
  have HT := Lib.hid (fun V => tiny_as hf (dn := dn) (nz := nz) (A := A) (n := n) (c := c) (de := de) (w := V) b hb)
  clear hf hb
  cases lost
  · obtain rfl : q = 0 := by rw [← hq]; rfl
    clear hq
    go_enter Tryd.func55, Tryd.ntmps55
    go_wp2_with fail
    obtain ⟨V, hV, z0, z1, BW, sW⟩ := nfframe w 73 28 dn A n c de t nz (B : Int) (P : Int) (W : Int)
    rw [hV]
    clear hV sW
    obtain ⟨z0c0, z0c1, z0c2, z0c3, z0c4, z0f0, z0f1, z0f2, z0f3, z0f4, z0l⟩ := z0.cells
    obtain ⟨z1c0, z1c1, z1c2, z1f0, z1f1, z1f2, z1l⟩ := z1.cells
    go_wp2_with fail
    refine bodyPost_ret (v := .int .i64 0) (by simp [results, Tryd.results55, go_sem]) rfl ⟨rfl, BW⟩
  · cases b
    · obtain rfl : q = 1 := by rw [← hq]; rfl
      clear hq
      go_enter Tryd.func55, Tryd.ntmps55
      go_wp2_with fail
      obtain ⟨V, hV, z0, z1, BW, sW⟩ := nfframe w 73 28 dn A n c de t nz (B : Int) (P : Int) (W : Int)
      rw [hV]
      clear hV sW
      obtain ⟨z0c0, z0c1, z0c2, z0c3, z0c4, z0f0, z0f1, z0f2, z0f3, z0f4, z0l⟩ := z0.cells
      obtain ⟨z1c0, z1c1, z1c2, z1f0, z1f1, z1f2, z1l⟩ := z1.cells
      go_wp2_with fail
      refine (HT.out _).mono ?_
      rintro en w1 ⟨rfl, b⟩
      clear z0c0 z0c1 z0c2 z0c3 z0c4 z0f0 z0f1 z0f2 z0f3 z0f4 z0l z1c0 z1c1 z1c2 z1f0 z1f1 z1f2 z1l
      replace z0 := z0.on b
      replace z1 := z1.on b
      replace BW := Below.step BW b
      clear b
      obtain ⟨z0c0, z0c1, z0c2, z0c3, z0c4, z0f0, z0f1, z0f2, z0f3, z0f4, z0l⟩ := z0.cells
      obtain ⟨z1c0, z1c1, z1c2, z1f0, z1f1, z1f2, z1l⟩ := z1.cells
      go_wp2_with fail
      refine bodyPost_ret (v := .int .i64 1) (by simp [results, Tryd.results55, go_sem]) rfl ⟨rfl, BW⟩
    · obtain rfl : q = 3 := by rw [← hq]; rfl
      clear hq
      go_enter Tryd.func55, Tryd.ntmps55
      go_wp2_with fail
      obtain ⟨V, hV, z0, z1, BW, sW⟩ := nfframe w 73 28 dn A n c de t nz (B : Int) (P : Int) (W : Int)
      rw [hV]
      clear hV sW
      obtain ⟨z0c0, z0c1, z0c2, z0c3, z0c4, z0f0, z0f1, z0f2, z0f3, z0f4, z0l⟩ := z0.cells
      obtain ⟨z1c0, z1c1, z1c2, z1f0, z1f1, z1f2, z1l⟩ := z1.cells
      go_wp2_with fail
      refine (HT.out _).mono ?_
      rintro en w1 ⟨rfl, b⟩
      clear z0c0 z0c1 z0c2 z0c3 z0c4 z0f0 z0f1 z0f2 z0f3 z0f4 z0l z1c0 z1c1 z1c2 z1f0 z1f1 z1f2 z1l
      replace z0 := z0.on b
      replace z1 := z1.on b
      replace BW := Below.step BW b
      clear b
      obtain ⟨z0c0, z0c1, z0c2, z0c3, z0c4, z0f0, z0f1, z0f2, z0f3, z0f4, z0l⟩ := z0.cells
      obtain ⟨z1c0, z1c1, z1c2, z1f0, z1f1, z1f2, z1l⟩ := z1.cells
      go_wp2_with fail
      refine bodyPost_ret (v := .int .i64 3) (by simp [results, Tryd.results55, go_sem]) rfl ⟨rfl, BW⟩
end Go.Proofs.YtkjbejdeejpdoaaDoor
