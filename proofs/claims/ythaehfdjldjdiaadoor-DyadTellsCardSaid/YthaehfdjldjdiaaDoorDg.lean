
/-
  The walks of dyad's compareSizes, Cmp, Same.
-/
import Derived.Test.YthaehfdjldjdiaaDoorDf
namespace Go.Proofs.YthaehfdjldjdiaaDoor
open Go.RowKit
set_option linter.unusedVariables false

/-- a number's size, in units of 2^-40000. -/
def D.ab (d : D) : Nat := d.x * 2 ^ (d.e + 40000).toNat
theorem D.vl_ab (d : D) : d.vl = if d.neg then -(d.ab : Int) else (d.ab : Int) := by
  unfold D.vl D.sz D.ab
  rw [Int.natCast_mul, two_cast]
  cases d.neg <;> simp [Int.neg_mul]
theorem ab_top {a b : D} (ha : -40000 ≤ a.e) (hb : -40000 ≤ b.e) (hy : b.x ≠ 0) (h : (blen a.x : Int) + a.e < (blen b.x : Int) + b.e) : a.ab < b.ab := by
  unfold D.ab
  have h1 := (blen_le a.x (blen a.x)).1 (Nat.le_refl _)
  obtain ⟨h2, h3⟩ := blen_pos hy
  have e1 : a.x * 2 ^ (a.e + 40000).toNat < 2 ^ blen a.x * 2 ^ (a.e + 40000).toNat := Nat.mul_lt_mul_of_pos_right h1 (Nat.two_pow_pos _)
  have e2 : 2 ^ (blen b.x - 1) * 2 ^ (b.e + 40000).toNat ≤ b.x * 2 ^ (b.e + 40000).toNat := Nat.mul_le_mul_right _ h2
  rw [← Nat.pow_add] at e1 e2
  have e3 : 2 ^ (blen a.x + (a.e + 40000).toNat) ≤ 2 ^ (blen b.x - 1 + (b.e + 40000).toNat) := Nat.pow_le_pow_right (by omega) (by omega)
  omega
theorem cmp_scale (X Y k : Nat) : cmpI (X : Int) (Y : Int) = cmpI ((X * 2 ^ k : Nat) : Int) ((Y * 2 ^ k : Nat) : Int) := by
  have hp := Nat.two_pow_pos k
  rcases Nat.lt_trichotomy X Y with h | h | h
  · rw [cmpI_of_lt h, cmpI_of_lt (Nat.mul_lt_mul_of_pos_right h hp)]
  · rw [cmpI_of_eq h, cmpI_of_eq (by rw [h])]
  · rw [cmpI_of_gt h, cmpI_of_gt (Nat.mul_lt_mul_of_pos_right h hp)]
theorem ab_at {n : Bool} {x i : Nat} {e m : Int} (hm : -40000 ≤ m) (hi : e - m = (i : Int)) : (⟨n, x, e⟩ : D).ab = x * 2 ^ i * 2 ^ (m + 40000).toNat := by
  unfold D.ab
  rw [Nat.mul_assoc, ← Nat.pow_add]
  congr 2
  show (e + 40000).toNat = _
  omega
/-- of plain numbers of one sign or none, which is greater. -/
theorem cmp_tops {a b : D} (ha : -40000 ≤ a.e) (hb : -40000 ≤ b.e) (hx : a.x ≠ 0) (hy : b.x ≠ 0) (h : (blen a.x : Int) - 1 + a.e ≠ (blen b.x : Int) - 1 + b.e) : cmpI ((blen a.x : Int) - 1 + a.e) ((blen b.x : Int) - 1 + b.e) = cmpI (a.ab : Int) (b.ab : Int) := by
  rcases Int.lt_or_gt_of_ne h with h1 | h1
  · rw [cmpI_of_lt (ab_top ha hb hy (by omega))]
    unfold cmpI
    rw [if_pos h1]
  · rw [cmpI_of_gt (ab_top hb ha hx (by omega))]
    unfold cmpI
    rw [if_neg (by omega), if_pos h1]
theorem cmpI_bd (x y : Int) : -1 ≤ cmpI x y ∧ cmpI x y ≤ 1 := by
  unfold cmpI
  split
  · omega
  · split <;> omega
theorem cmpI_ne {x y : Int} (h : x ≠ y) : (cmpI x y != 0) = true := by
  unfold cmpI
  rcases Int.lt_or_gt_of_ne h with h1 | h1
  · rw [if_pos h1]; rfl
  · rw [if_neg (by omega), if_pos h1]; rfl
theorem cmpInt_as {x y : Int} (k : Int) (hk : cmpI x y = k) (w : World) :
    Calls Tryd.prog 44 #[.int .i64 x, .int .i64 y] w fun e w' => e = .returned (.int .i64 k) ∧ w = w' := by
  subst hk; exact cmpInt_any x y w
theorem top_as {A : Option Addr} {n c x : Nat} {neg : Bool} {e : Int} {w : World} (t : Int) (h : Arg w A n c x) (hs : n ≤ 30000) (he : -1000000 ≤ e) (he2 : e ≤ 1000000) (ht : Hid ((blen x : Int) - 1 + e = t)) :
    Calls Tryd.prog 52 #[.agg #[.bool neg, .slice A n c, .int .i64 e]] w fun en w' => en = .returned (.int .i64 t) ∧ Below w.heap.size w w' := by
  have := top_any (neg := neg) h hs he he2
  rwa [ht.out] at this

/-- two numbers' variables. -/
def KB (w : World) (s : Nat) (an : Bool) (A : Option Addr) (k : Nat) (e : Int) (bn : Bool) (B : Option Addr) (l : Nat) (f : Int) : Prop := DB w s 25 an A k k e ∧ DB w (s + 1) 25 bn B l l f
section
variable {w w' : World} {s : Nat} {an : Bool} {A : Option Addr} {k : Nat} {e : Int} {bn : Bool} {B : Option Addr} {l : Nat} {f : Int}
theorem KB.on (h : KB w s an A k e bn B l f) (hb : Below w.heap.size w w') : KB w' s an A k e bn B l f := ⟨h.1.on hb, h.2.on hb⟩
theorem KB.cells (h : KB w s an A k e bn B l f) : w.cell? ⟨s, 0, none⟩ = some (.bool an) ∧ w.cell? ⟨s, 1, none⟩ = some (.slice A k k) ∧ w.cell? ⟨s, 2, none⟩ = some (.int .i64 e) ∧ w.cell? ⟨s + 1, 0, none⟩ = some (.bool bn) ∧ w.cell? ⟨s + 1, 1, none⟩ = some (.slice B l l) ∧ w.cell? ⟨s + 1, 2, none⟩ = some (.int .i64 f) := by
  obtain ⟨p0, p1, p2, _⟩ := h.1.cells
  obtain ⟨q0, q1, q2, _⟩ := h.2.cells
  exact ⟨p0, p1, p2, q0, q1, q2⟩
end

set_option maxHeartbeats 4000000 in
theorem cs_far {A1 A2 : Option Addr} {n1 n2 ax bx : Nat} {an bn : Bool} {ae be : Int} {w : World} (r1 : Res w A1 n1 ax) (r2 : Res w A2 n2 bx) (s1 : n1 ≤ 128) (s2 : n2 ≤ 128)
    (a1 : blen ax ≤ 4096) (a2 : -8192 ≤ ae) (a3 : ae ≤ 12288) (b1 : blen bx ≤ 4096) (b2 : -8192 ≤ be) (b3 : be ≤ 12288) (q : Int) (HC : Hid (cmpI ((blen ax : Int) - 1 + ae) ((blen bx : Int) - 1 + be) = q)) (hq : (q != 0) = true) :
    Calls Tryd.prog 46 #[.agg #[.bool an, .slice A1 n1 n1, .int .i64 ae], .agg #[.bool bn, .slice A2 n2 n2, .int .i64 be]] w fun en w' => en = .returned (.int .i64 q) ∧ Below w.heap.size w w' := by
  obtain ⟨ta, hta⟩ : ∃ t, (blen ax : Int) - 1 + ae = t := ⟨_, rfl⟩
  obtain ⟨tb, htb⟩ : ∃ t, (blen bx : Int) - 1 + be = t := ⟨_, rfl⟩
  rw [hta, htb] at HC
  have HTA := Lib.hid hta
  have HTB := Lib.hid htb
  clear hta htb
  go_enter Tryd.func46, Tryd.ntmps46
  go_wp2_with fail
  obtain ⟨W, hW, z0, z1, BW, sW⟩ := frame2 w 25 25 an A1 n1 n1 ae bn A2 n2 n2 be
  rw [hW]
  clear hW
  have kb : KB W.drew w.heap.size an A1 n1 ae bn A2 n2 be := KB.on ⟨z0, z1⟩ ((Below.refl _ _).drew)
  have HB := Lib.hid (Below.step BW ((Below.refl _ _).drew))
  clear BW z0 z1
  go_region_held3 (fun w' => w'.cell? ⟨w.heap.size, 0, none⟩ = some (.bool an) ∧ w'.cell? ⟨w.heap.size, 1, none⟩ = some (.slice A1 n1 n1) ∧ w'.cell? ⟨w.heap.size, 2, none⟩ = some (.int .i64 ae) ∧ w'.cell? ⟨w.heap.size + 1, 0, none⟩ = some (.bool bn) ∧ w'.cell? ⟨w.heap.size + 1, 1, none⟩ = some (.slice A2 n2 n2) ∧ w'.cell? ⟨w.heap.size + 1, 2, none⟩ = some (.int .i64 be))
    ((refine KB.cells (s := w.heap.size) ?_; with_reducible assumption))
    (first
      | (go_at_call_of 52 (Value.agg #[.bool an, .slice A1 n1 n1, .int .i64 ae])
         refine (top_as ta ((r1.on HB.out).arg (by omega)) (by omega) (by omega) (by omega) HTA).mono ?_
         rintro e w3 ⟨rfl, b3⟩
         have kb := kb.on b3
         have HB := Lib.hid (Below.step HB.out b3)
         clear b3)
      | (go_at_call_of 52 (Value.agg #[.bool bn, .slice A2 n2 n2, .int .i64 be])
         refine (top_as tb ((r2.on HB.out).arg (by omega)) (by omega) (by omega) (by omega) HTB).mono ?_
         rintro e w4 ⟨rfl, b4⟩
         have kb := kb.on b4
         have HB := Lib.hid (Below.step HB.out b4)
         clear b4)
      | (go_at_call 44
         refine (cmpInt_as _ HC.out _).mono ?_
         rintro e w5 ⟨rfl, rfl⟩))
  go_wp2_with fail
  go_ret
  exact ⟨rfl, HB.out⟩

set_option maxHeartbeats 4000000 in
theorem cs_near {A1 A2 : Option Addr} {n1 n2 ax bx : Nat} {an bn : Bool} {ae be : Int} {w : World} (r1 : Res w A1 n1 ax) (r2 : Res w A2 n2 bx) (s1 : n1 ≤ 128) (s2 : n2 ≤ 128)
    (a1 : blen ax ≤ 4096) (a2 : -8192 ≤ ae) (a3 : ae ≤ 12288) (b1 : blen bx ≤ 4096) (b2 : -8192 ≤ be) (b3 : be ≤ 12288) (ht : (blen ax : Int) - 1 + ae = (blen bx : Int) - 1 + be) {m : Int} {i j : Nat} (hm : min ae be = m) (hi : ae - m = (i : Int)) (hj : be - m = (j : Int)) (q : Int) (HQ : Hid (cmpI ((ax * 2 ^ i : Nat) : Int) ((bx * 2 ^ j : Nat) : Int) = q)) :
    Calls Tryd.prog 46 #[.agg #[.bool an, .slice A1 n1 n1, .int .i64 ae], .agg #[.bool bn, .slice A2 n2 n2, .int .i64 be]] w fun en w' => en = .returned (.int .i64 q) ∧ Below w.heap.size w w' := by
  have f1 : blen ax + i ≤ 16384 := by omega
  have f2 : blen bx + j ≤ 16384 := by omega
  obtain ⟨ta, hta⟩ : ∃ t, (blen ax : Int) - 1 + ae = t := ⟨_, rfl⟩
  obtain ⟨tb, htb⟩ : ∃ t, (blen bx : Int) - 1 + be = t := ⟨_, rfl⟩
  rw [hta, htb] at ht
  have HTA := Lib.hid hta
  have HTB := Lib.hid htb
  have HC : Hid (cmpI ta tb = 0) := by show cmpI ta tb = 0; rw [ht]; unfold cmpI; rw [if_neg (by omega), if_neg (by omega)]
  have HAL := Lib.hid (fun W (hW : Below w.heap.size w W) => aligned_ok (na := an) (nb := bn) ((r1.on hW).arg (by omega)) ((r2.on hW).arg (by omega)) (by omega) (by omega) (by omega) (by omega) (by omega) (by omega) m i j hm hi hj f1 f2)
  have hu1 := fit_n _ _ f1
  have hu2 := fit_n _ _ f2
  clear hta htb ht hm hi hj f1 f2
  go_enter Tryd.func46, Tryd.ntmps46
  go_wp2_with fail
  obtain ⟨W, hW, z0, z1, BW, sW⟩ := frame2 w 25 25 an A1 n1 n1 ae bn A2 n2 n2 be
  rw [hW]
  clear hW
  have kb : KB W.drew w.heap.size an A1 n1 ae bn A2 n2 be := KB.on ⟨z0, z1⟩ ((Below.refl _ _).drew)
  have HB := Lib.hid (Below.step BW ((Below.refl _ _).drew))
  clear BW z0 z1
  go_region_held3 (fun w' => w'.cell? ⟨w.heap.size, 0, none⟩ = some (.bool an) ∧ w'.cell? ⟨w.heap.size, 1, none⟩ = some (.slice A1 n1 n1) ∧ w'.cell? ⟨w.heap.size, 2, none⟩ = some (.int .i64 ae) ∧ w'.cell? ⟨w.heap.size + 1, 0, none⟩ = some (.bool bn) ∧ w'.cell? ⟨w.heap.size + 1, 1, none⟩ = some (.slice A2 n2 n2) ∧ w'.cell? ⟨w.heap.size + 1, 2, none⟩ = some (.int .i64 be))
    ((refine KB.cells (s := w.heap.size) ?_; with_reducible assumption))
    (first
      | (go_at_call_of 52 (Value.agg #[.bool an, .slice A1 n1 n1, .int .i64 ae])
         refine (top_as ta ((r1.on HB.out).arg (by omega)) (by omega) (by omega) (by omega) HTA).mono ?_
         rintro e w3 ⟨rfl, b3⟩
         have kb := kb.on b3
         have HB := Lib.hid (Below.step HB.out b3)
         clear b3)
      | (go_at_call_of 52 (Value.agg #[.bool bn, .slice A2 n2 n2, .int .i64 be])
         refine (top_as tb ((r2.on HB.out).arg (by omega)) (by omega) (by omega) (by omega) HTB).mono ?_
         rintro e w4 ⟨rfl, b4⟩
         have kb := kb.on b4
         have HB := Lib.hid (Below.step HB.out b4)
         clear b4)
      | (go_at_call 44
         refine (cmpInt_as _ HC.out _).mono ?_
         rintro e w5 ⟨rfl, rfl⟩))
  obtain ⟨p0, p1, p2, q0, q1, q2⟩ := kb.cells
  go_wp2_with fail
  refine (HAL.out _ HB.out).mono ?_
  rintro en w6 ⟨L1, u1, L2, u2, rfl, t1, t2, b⟩
  clear p0 p1 p2 q0 q1 q2
  have BW := Below.step HB.out b
  have hu1 := res_n_le t1 hu1
  have hu2 := res_n_le t2 hu2
  generalize ax * 2 ^ i = X at *
  generalize bx * 2 ^ j = Y at *
  clear b
  go_wp2_with fail
  refine (cmp_as q ((t1.on (below_lit _ _)).arg (by omega)) ((t2.on (below_lit _ _)).arg (by omega)) (by omega) (by omega) HQ.out).mono ?_
  rintro en w7 ⟨rfl, b⟩
  go_wp2_with fail
  go_ret
  exact ⟨rfl, Below.step (Below.step BW (below_lit _ _)) b⟩

theorem cs_any {A1 A2 : Option Addr} {n1 n2 ax bx : Nat} {an bn : Bool} {ae be : Int} {w : World} (r1 : Res w A1 n1 ax) (r2 : Res w A2 n2 bx) (s1 : n1 ≤ 128) (s2 : n2 ≤ 128)
    (a1 : blen ax ≤ 4096) (a2 : -8192 ≤ ae) (a3 : ae ≤ 12288) (b1 : blen bx ≤ 4096) (b2 : -8192 ≤ be) (b3 : be ≤ 12288) (hz : ax = 0 ↔ bx = 0) (az : ax = 0 → ae = 0) (bz : bx = 0 → be = 0) (q : Int) (hq : cmpI ((⟨an, ax, ae⟩ : D).ab : Int) ((⟨bn, bx, be⟩ : D).ab : Int) = q) :
    Calls Tryd.prog 46 #[.agg #[.bool an, .slice A1 n1 n1, .int .i64 ae], .agg #[.bool bn, .slice A2 n2 n2, .int .i64 be]] w fun en w' => en = .returned (.int .i64 q) ∧ Below w.heap.size w w' := by
  by_cases ht : (blen ax : Int) - 1 + ae = (blen bx : Int) - 1 + be
  · obtain ⟨m, hm⟩ : ∃ m, min ae be = m := ⟨_, rfl⟩
    obtain ⟨i, hi⟩ := Int.eq_ofNat_of_zero_le (show 0 ≤ ae - m by omega)
    obtain ⟨j, hj⟩ := Int.eq_ofNat_of_zero_le (show 0 ≤ be - m by omega)
    refine cs_near r1 r2 s1 s2 a1 a2 a3 b1 b2 b3 ht hm hi hj q ?_
    show _ = _
    rw [← hq, ab_at (m := m) (by omega) hi, ab_at (m := m) (by omega) hj]
    exact cmp_scale _ _ _
  · by_cases hx : ax = 0
    · have hy := hz.1 hx
      rw [hx, hy, az hx, bz hy] at ht
      exact (ht rfl).elim
    · have hy : bx ≠ 0 := fun e => hx (hz.2 e)
      have := cmp_tops (a := ⟨an, ax, ae⟩) (b := ⟨bn, bx, be⟩) (show -40000 ≤ ae by omega) (show -40000 ≤ be by omega) hx hy ht
      have h2 := cmpI_ne ht
      rw [this.trans hq] at h2
      exact cs_far r1 r2 s1 s2 a1 a2 a3 b1 b2 b3 q (this.trans hq) h2
end Go.Proofs.YthaehfdjldjdiaaDoor
