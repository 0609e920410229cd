
/-
  The walks of dyad's Cmp, Same.
-/
import Derived.Test.YthaehfdjldjdiaaDoorDg
namespace Go.Proofs.YthaehfdjldjdiaaDoor
open Go.RowKit
set_option linter.unusedVariables false

def cmpS (a b : D) : Int × Int := if a.may && b.may then (cmpI a.vl b.vl, 0) else (0, 3)
theorem cmpS_ok {a b : D} (ha : a.may = true) (hb : b.may = true) : cmpS a b = (cmpI a.vl b.vl, 0) := by unfold cmpS; rw [ha, hb]; rfl
theorem cmpS_err {a b : D} (h : a.may = false ∨ b.may = false) : cmpS a b = (0, 3) := by
  unfold cmpS
  rcases h with h | h <;> rw [h]
  · rfl
  · rw [Bool.and_false]; rfl
theorem sg_vl {d : D} (h : d.plain) : (sg d.neg d.x = -1 ∧ d.vl = -(d.ab : Int) ∧ 0 < d.ab) ∨ (sg d.neg d.x = 0 ∧ d.vl = 0 ∧ d.ab = 0 ∧ d.x = 0) ∨ (sg d.neg d.x = 1 ∧ d.vl = (d.ab : Int) ∧ 0 < d.ab) := by
  have hv := D.vl_ab d
  have h0 : d.x ≠ 0 → 0 < d.ab := fun hx => Nat.mul_pos (by omega) (Nat.two_pow_pos _)
  rcases h with ⟨h1, h2, h3⟩ | h1
  · refine .inr (.inl ⟨?_, ?_, ?_, h1⟩)
    · rw [h1, h2]; rfl
    · exact D.vl_zero.2 h1
    · unfold D.ab; rw [h1, Nat.zero_mul]
  · have hx : d.x ≠ 0 := by omega
    unfold sg
    cases hn : d.neg
    · rw [hn] at hv
      exact .inr (.inr ⟨by simp [hx], hv, h0 hx⟩)
    · rw [hn] at hv
      exact .inl ⟨by simp, hv, h0 hx⟩
theorem sg_cmp {a b : D} (ha : a.plain) (hb : b.plain) (h : sg a.neg a.x ≠ sg b.neg b.x) : cmpI (sg a.neg a.x) (sg b.neg b.x) = cmpI a.vl b.vl := by
  rcases sg_vl ha with ⟨a1, a2, a3⟩ | ⟨a1, a2, a3, _⟩ | ⟨a1, a2, a3⟩ <;> rcases sg_vl hb with ⟨b1, b2, b3⟩ | ⟨b1, b2, b3, _⟩ | ⟨b1, b2, b3⟩ <;> rw [a1, b1] at h ⊢ <;> rw [a2, b2] <;> first | exact (h rfl).elim | (unfold cmpI; first | (rw [if_pos (by omega), if_pos (by omega)]) | (rw [if_neg (by omega), if_pos (by omega), if_neg (by omega), if_pos (by omega)]))
theorem sg_same {a b : D} (ha : a.plain) (hb : b.plain) (h : sg a.neg a.x = sg b.neg b.x) : sg a.neg a.x * cmpI (a.ab : Int) (b.ab : Int) = cmpI a.vl b.vl := by
  rcases sg_vl ha with ⟨a1, a2, a3⟩ | ⟨a1, a2, a3, _⟩ | ⟨a1, a2, a3⟩ <;> rcases sg_vl hb with ⟨b1, b2, b3⟩ | ⟨b1, b2, b3, _⟩ | ⟨b1, b2, b3⟩ <;> rw [a1] at h ⊢ <;> rw [b1] at h <;> rw [a2, b2] <;> first | omega | skip
  · unfold cmpI
    rcases Int.lt_trichotomy (a.ab : Int) (b.ab : Int) with k | k | k
    · rw [if_pos k, if_neg (by omega), if_pos (by omega)]; rfl
    · rw [if_neg (by omega), if_neg (by omega), if_neg (by omega), if_neg (by omega)]; rfl
    · rw [if_neg (by omega), if_pos k, if_pos (by omega)]; rfl
  · rw [Int.zero_mul]; rfl
theorem sg_eq_zero {a b : D} (ha : a.plain) (hb : b.plain) (h : sg a.neg a.x = sg b.neg b.x) : a.x = 0 ↔ b.x = 0 := by
  have key : ∀ {d : D}, d.plain → (sg d.neg d.x = 0 ↔ d.x = 0) := fun {d} hd => by
    constructor
    · intro e
      rcases sg_vl hd with ⟨a1, _⟩ | ⟨_, _, _, a4⟩ | ⟨a1, _⟩
      · omega
      · exact a4
      · omega
    · intro e
      rcases hd with ⟨h1, h2, h3⟩ | h1
      · rw [h1, h2]; rfl
      · omega
  rw [← key ha, ← key hb, h]
theorem sign_as {A : Option Addr} {n c x : Nat} {neg : Bool} {e : Int} {w : World} (k : Int) (h : Res w A n x) (hn : n ≤ 1000000) (hk : Hid (sg neg x = k)) :
    Calls Tryd.prog 45 #[.agg #[.bool neg, .slice A n c, .int .i64 e]] w fun en w' => en = .returned (.int .i64 k) ∧ Below w.heap.size w w' := by
  have := sign_any (neg := neg) (e := e) (c := c) h hn
  rwa [hk.out] at this
theorem sg_bd (n : Bool) (x : Nat) : sg n x = -1 ∨ sg n x = 0 ∨ sg n x = 1 := by
  unfold sg
  cases n
  · by_cases h : x = 0 <;> simp [h]
  · simp

set_option maxHeartbeats 4000000 in
theorem cmp_err {A1 A2 : Option Addr} {n1 c1 n2 c2 x y : Nat} {na nb : Bool} {ea eb : Int} {w : World} (h1 : Arg w A1 n1 c1 x) (h2 : Arg w A2 n2 c2 y) (s1 : n1 ≤ 30000) (s2 : n2 ≤ 30000) (hT : Tab w) (hm : D.may ⟨na, x, ea⟩ = false ∨ D.may ⟨nb, y, eb⟩ = false) :
    Calls Tryd.prog 15 #[.agg #[.bool na, .slice A1 n1 c1, .int .i64 ea], .agg #[.bool nb, .slice A2 n2 c2, .int .i64 eb]] w (IntPost w (cmpS ⟨na, x, ea⟩ ⟨nb, y, eb⟩)) := by
  rw [cmpS_err hm]
  have HBP := Lib.hid (fun W (hW : Below w.heap.size w W) => both_err (h1.on hW) (h2.on hW) s1 s2 hm)
  clear hm
  go_enter Tryd.func15, Tryd.ntmps15
  go_wp2_with fail
  obtain ⟨W, hW, z0, z1, BW, sW⟩ := frame2 w 25 25 na A1 n1 c1 ea nb A2 n2 c2 eb
  rw [hW]
  clear hW
  refine (HBP.out W BW).mono ?_
  rintro en w1 ⟨rfl, b⟩
  have z0 := z0.on b
  have z1 := z1.on b
  have BW := Below.step BW b
  clear b HBP
  obtain ⟨p0, p1, p2, g0, g1, g2, _⟩ := z0.cells
  obtain ⟨q0, q1, q2, i0, i1, i2, _⟩ := z1.cells
  go_wp2_with fail
  go_ret2
  exact ⟨rfl, below_put3 (below_put3 BW (by omega) _ _ _) (by omega) _ _ _⟩

set_option maxHeartbeats 4000000 in
theorem cmp_signs {A1 A2 : Option Addr} {n1 c1 n2 c2 x y : Nat} {na nb : Bool} {ea eb : Int} {w : World} (h1 : Arg w A1 n1 c1 x) (h2 : Arg w A2 n2 c2 y) (s1 : n1 ≤ 30000) (s2 : n2 ≤ 30000) (hT : Tab w)
    (ma : D.may ⟨na, x, ea⟩ = true) (mb : D.may ⟨nb, y, eb⟩ = true) {an bn : Bool} {ax bx : Nat} {ae be : Int} (hpa : D.pl ⟨na, x, ea⟩ = ⟨an, ax, ae⟩) (hpb : D.pl ⟨nb, y, eb⟩ = ⟨bn, bx, be⟩) (hne : sg an ax ≠ sg bn bx) :
    Calls Tryd.prog 15 #[.agg #[.bool na, .slice A1 n1 c1, .int .i64 ea], .agg #[.bool nb, .slice A2 n2 c2, .int .i64 eb]] w (IntPost w (cmpS ⟨na, x, ea⟩ ⟨nb, y, eb⟩)) := by
  obtain ⟨a1, a2, a3, a4, a5⟩ := pl_bounds ma
  obtain ⟨b1, b2, b3, b4, b5⟩ := pl_bounds mb
  have HBP := Lib.hid (fun W (hW : Below w.heap.size w W) => both_plain (h1.on hW) (h2.on hW) s1 s2 (hT.on hW) ma mb)
  rw [hpa, hpb] at HBP
  rw [hpa] at a1 a2 a3 a4
  rw [hpb] at b1 b2 b3 b4
  simp only at a1 a2 a3 a4 b1 b2 b3 b4
  have hva := D.pl_vl (d := ⟨na, x, ea⟩) (by have := ((D.may_iff _).1 ma).2.1; omega)
  have hvb := D.pl_vl (d := ⟨nb, y, eb⟩) (by have := ((D.may_iff _).1 mb).2.1; omega)
  have ppa := D.pl_plain ⟨na, x, ea⟩
  have ppb := D.pl_plain ⟨nb, y, eb⟩
  rw [hpa] at hva ppa
  rw [hpb] at hvb ppb
  have hcm := sg_cmp ppa ppb hne
  have hq2 := cmpI_ne hne
  simp only at hcm
  rw [cmpS_ok ma mb, ← hva, ← hvb, ← hcm]
  obtain ⟨sa, hsa⟩ : ∃ s, sg an ax = s := ⟨_, rfl⟩
  obtain ⟨sb, hsb⟩ : ∃ s, sg bn bx = s := ⟨_, rfl⟩
  have HSA := Lib.hid hsa
  have HSB := Lib.hid hsb
  rw [hsa, hsb] at hq2 ⊢
  obtain ⟨q, hq⟩ : ∃ q, cmpI sa sb = q := ⟨_, rfl⟩
  rw [hq] at hq2 ⊢
  have HC := Lib.hid hq
  clear hq hsa hsb hcm hva hvb ppa ppb hne ma mb hpa hpb a5 b5
  go_enter Tryd.func15, Tryd.ntmps15
  go_wp2_with fail
  obtain ⟨W, hW, z0, z1, BW, sW⟩ := frame2 w 25 25 na A1 n1 c1 ea nb A2 n2 c2 eb
  rw [hW]
  clear hW
  refine (HBP.out W BW).mono ?_
  rintro en w1 ⟨P1, k1, P2, k2, rfl, r1, r2, b⟩
  have z0 := z0.on b
  have z1 := z1.on b
  have BW := Below.step BW b
  have sW : w.heap.size + 2 ≤ w1.heap.size := by have := b.size; omega
  clear b HBP
  obtain ⟨p0, p1, p2, g0, g1, g2, _⟩ := z0.cells
  obtain ⟨q0, q1, q2, i0, i1, i2, _⟩ := z1.cells
  have hk1 := res_n_le r1 (k := 128) a1
  have hk2 := res_n_le r2 (k := 128) b1
  go_wp2_with fail
  clear p0 p1 p2 g0 g1 g2 q0 q1 q2 i0 i1 i2
  obtain ⟨w2, e1, e2⟩ := put3_named w1 w.heap.size (.bool an) (.slice P1 k1 k1) (.int .i64 ae)
  have r1 := z0.res r1 (.bool an) (.slice P1 k1 k1) (.int .i64 ae)
  have r2 := z0.res r2 (.bool an) (.slice P1 k1 k1) (.int .i64 ae)
  have z1 := z1.other (s := w.heap.size) (by omega) (.bool an) (.slice P1 k1 k1) (.int .i64 ae)
  have z0 := z0.put_d an P1 k1 k1 ae
  have BW := below_put3 BW (Nat.le_refl _) (.bool an) (.slice P1 k1 k1) (.int .i64 ae)
  have sW : w.heap.size + 2 ≤ (put3 w1 w.heap.size (.bool an) (.slice P1 k1 k1) (.int .i64 ae)).heap.size := by rw [put3_size]; exact sW
  rw [e1]
  rw [e2] at r1 r2 z0 z1 BW sW
  clear e1 e2
  obtain ⟨w3, e1, e2⟩ := put3_named w2 (w.heap.size + 1) (.bool bn) (.slice P2 k2 k2) (.int .i64 be)
  have r1 := z1.res r1 (.bool bn) (.slice P2 k2 k2) (.int .i64 be)
  have r2 := z1.res r2 (.bool bn) (.slice P2 k2 k2) (.int .i64 be)
  have z0 := z0.other (s := w.heap.size + 1) (by omega) (.bool bn) (.slice P2 k2 k2) (.int .i64 be)
  have z1 := z1.put_d bn P2 k2 k2 be
  have BW := below_put3 BW (by omega : w.heap.size ≤ w.heap.size + 1) (.bool bn) (.slice P2 k2 k2) (.int .i64 be)
  have sW : w.heap.size + 2 ≤ (put3 w2 (w.heap.size + 1) (.bool bn) (.slice P2 k2 k2) (.int .i64 be)).heap.size := by rw [put3_size]; exact sW
  rw [e1]
  rw [e2] at r1 r2 z0 z1 BW sW
  clear e1 e2
  have kb : KB w3.drew w.heap.size an P1 k1 ae bn P2 k2 be := KB.on ⟨z0, z1⟩ ((Below.refl _ _).drew)
  have d3 : Below w3.heap.size w3 w3.drew := (Below.refl _ _).drew
  have HB := Lib.hid (Below.step BW d3)
  have R1 := Lib.hid (r1.on d3)
  have R2 := Lib.hid (r2.on d3)
  clear BW z0 z1 r1 r2 d3
  go_region_held3 (fun w' => w'.cell? ⟨w.heap.size, 0, none⟩ = some (.bool an) ∧ w'.cell? ⟨w.heap.size, 1, none⟩ = some (.slice P1 k1 k1) ∧ w'.cell? ⟨w.heap.size, 2, none⟩ = some (.int .i64 ae) ∧ w'.cell? ⟨w.heap.size + 1, 0, none⟩ = some (.bool bn) ∧ w'.cell? ⟨w.heap.size + 1, 1, none⟩ = some (.slice P2 k2 k2) ∧ w'.cell? ⟨w.heap.size + 1, 2, none⟩ = some (.int .i64 be))
    ((refine KB.cells (s := w.heap.size) ?_; with_reducible assumption))
    (first
      | (go_at_call_of 45 (Value.agg #[.bool an, .slice P1 k1 k1, .int .i64 ae])
         refine (sign_as sa R1.out (by omega) HSA).mono ?_
         rintro e w4 ⟨rfl, b4⟩
         have kb := kb.on b4
         have R1 := Lib.hid (R1.out.on b4)
         have R2 := Lib.hid (R2.out.on b4)
         have HB := Lib.hid (Below.step HB.out b4)
         clear b4)
      | (go_at_call_of 45 (Value.agg #[.bool bn, .slice P2 k2 k2, .int .i64 be])
         refine (sign_as sb R2.out (by omega) HSB).mono ?_
         rintro e w5 ⟨rfl, b5⟩
         have kb := kb.on b5
         have R1 := Lib.hid (R1.out.on b5)
         have R2 := Lib.hid (R2.out.on b5)
         have HB := Lib.hid (Below.step HB.out b5)
         clear b5)
      | (go_at_call 44
         refine (cmpInt_as _ HC.out _).mono ?_
         rintro e w6 ⟨rfl, rfl⟩))
  go_wp2_with fail
  go_ret2
  exact ⟨rfl, HB.out⟩

set_option maxHeartbeats 4000000 in
theorem cmp_sizes {A1 A2 : Option Addr} {n1 c1 n2 c2 x y : Nat} {na nb : Bool} {ea eb : Int} {w : World} (h1 : Arg w A1 n1 c1 x) (h2 : Arg w A2 n2 c2 y) (s1 : n1 ≤ 30000) (s2 : n2 ≤ 30000) (hT : Tab w)
    (ma : D.may ⟨na, x, ea⟩ = true) (mb : D.may ⟨nb, y, eb⟩ = true) {an bn : Bool} {ax bx : Nat} {ae be : Int} (hpa : D.pl ⟨na, x, ea⟩ = ⟨an, ax, ae⟩) (hpb : D.pl ⟨nb, y, eb⟩ = ⟨bn, bx, be⟩) (sa : Int) (HSA : Hid (sg an ax = sa)) (HSB : Hid (sg bn bx = sa)) (hsa : sa = -1 ∨ sa = 0 ∨ sa = 1) :
    Calls Tryd.prog 15 #[.agg #[.bool na, .slice A1 n1 c1, .int .i64 ea], .agg #[.bool nb, .slice A2 n2 c2, .int .i64 eb]] w (IntPost w (cmpS ⟨na, x, ea⟩ ⟨nb, y, eb⟩)) := by
  obtain ⟨a1, a2, a3, a4, a5⟩ := pl_bounds ma
  obtain ⟨b1, b2, b3, b4, b5⟩ := pl_bounds mb
  have HBP := Lib.hid (fun W (hW : Below w.heap.size w W) => both_plain (h1.on hW) (h2.on hW) s1 s2 (hT.on hW) ma mb)
  rw [hpa, hpb] at HBP
  rw [hpa] at a1 a2 a3 a4
  rw [hpb] at b1 b2 b3 b4
  simp only at a1 a2 a3 a4 b1 b2 b3 b4
  have hva := D.pl_vl (d := ⟨na, x, ea⟩) (by have := ((D.may_iff _).1 ma).2.1; omega)
  have hvb := D.pl_vl (d := ⟨nb, y, eb⟩) (by have := ((D.may_iff _).1 mb).2.1; omega)
  have ppa := D.pl_plain ⟨na, x, ea⟩
  have ppb := D.pl_plain ⟨nb, y, eb⟩
  rw [hpa] at hva ppa a5
  rw [hpb] at hvb ppb b5
  have hcm := sg_same ppa ppb (HSA.out.trans HSB.out.symm)
  have hz := sg_eq_zero ppa ppb (HSA.out.trans HSB.out.symm)
  simp only at hcm hz a5 b5
  have HZ := Lib.hid (And.intro hz (And.intro a5 b5))
  rw [HSA.out] at hcm
  rw [cmpS_ok ma mb, ← hva, ← hvb, ← hcm]
  obtain ⟨qb1, qb2⟩ := cmpI_bd ((⟨an, ax, ae⟩ : D).ab : Int) ((⟨bn, bx, be⟩ : D).ab : Int)
  obtain ⟨q, hq⟩ : ∃ q, cmpI ((⟨an, ax, ae⟩ : D).ab : Int) ((⟨bn, bx, be⟩ : D).ab : Int) = q := ⟨_, rfl⟩
  rw [hq] at qb1 qb2 ⊢
  have HQ := Lib.hid hq
  have HC : Hid (cmpI sa sa = 0) := by show cmpI sa sa = 0; unfold cmpI; rw [if_neg (by omega), if_neg (by omega)]
  clear hq hcm hva hvb ppa ppb hz ma mb hpa hpb a5 b5
  have HPR : Hid (IntKind.i64.wrap (sa * q) = sa * q) := by
    show IntKind.i64.wrap (sa * q) = sa * q
    refine IntWalk.i64_in _ ?_
    rcases hsa with rfl | rfl | rfl <;> omega
  have hq : -1 ≤ sa * q ∧ sa * q ≤ 1 := by rcases hsa with rfl | rfl | rfl <;> omega
  clear hsa
  go_enter Tryd.func15, Tryd.ntmps15
  go_wp2_with fail
  obtain ⟨W, hW, z0, z1, BW, sW⟩ := frame2 w 25 25 na A1 n1 c1 ea nb A2 n2 c2 eb
  rw [hW]
  clear hW
  refine (HBP.out W BW).mono ?_
  rintro en w1 ⟨P1, k1, P2, k2, rfl, r1, r2, b⟩
  have z0 := z0.on b
  have z1 := z1.on b
  have BW := Below.step BW b
  have sW : w.heap.size + 2 ≤ w1.heap.size := by have := b.size; omega
  clear b HBP
  obtain ⟨p0, p1, p2, g0, g1, g2, _⟩ := z0.cells
  obtain ⟨q0, q1, q2, i0, i1, i2, _⟩ := z1.cells
  have hk1 := res_n_le r1 (k := 128) a1
  have hk2 := res_n_le r2 (k := 128) b1
  go_wp2_with fail
  clear p0 p1 p2 g0 g1 g2 q0 q1 q2 i0 i1 i2
  obtain ⟨w2, e1, e2⟩ := put3_named w1 w.heap.size (.bool an) (.slice P1 k1 k1) (.int .i64 ae)
  have r1 := z0.res r1 (.bool an) (.slice P1 k1 k1) (.int .i64 ae)
  have r2 := z0.res r2 (.bool an) (.slice P1 k1 k1) (.int .i64 ae)
  have z1 := z1.other (s := w.heap.size) (by omega) (.bool an) (.slice P1 k1 k1) (.int .i64 ae)
  have z0 := z0.put_d an P1 k1 k1 ae
  have BW := below_put3 BW (Nat.le_refl _) (.bool an) (.slice P1 k1 k1) (.int .i64 ae)
  have sW : w.heap.size + 2 ≤ (put3 w1 w.heap.size (.bool an) (.slice P1 k1 k1) (.int .i64 ae)).heap.size := by rw [put3_size]; exact sW
  rw [e1]
  rw [e2] at r1 r2 z0 z1 BW sW
  clear e1 e2
  obtain ⟨w3, e1, e2⟩ := put3_named w2 (w.heap.size + 1) (.bool bn) (.slice P2 k2 k2) (.int .i64 be)
  have r1 := z1.res r1 (.bool bn) (.slice P2 k2 k2) (.int .i64 be)
  have r2 := z1.res r2 (.bool bn) (.slice P2 k2 k2) (.int .i64 be)
  have z0 := z0.other (s := w.heap.size + 1) (by omega) (.bool bn) (.slice P2 k2 k2) (.int .i64 be)
  have z1 := z1.put_d bn P2 k2 k2 be
  have BW := below_put3 BW (by omega : w.heap.size ≤ w.heap.size + 1) (.bool bn) (.slice P2 k2 k2) (.int .i64 be)
  have sW : w.heap.size + 2 ≤ (put3 w2 (w.heap.size + 1) (.bool bn) (.slice P2 k2 k2) (.int .i64 be)).heap.size := by rw [put3_size]; exact sW
  rw [e1]
  rw [e2] at r1 r2 z0 z1 BW sW
  clear e1 e2
  have kb : KB w3.drew w.heap.size an P1 k1 ae bn P2 k2 be := KB.on ⟨z0, z1⟩ ((Below.refl _ _).drew)
  have d3 : Below w3.heap.size w3 w3.drew := (Below.refl _ _).drew
  have HB := Lib.hid (Below.step BW d3)
  have R1 := Lib.hid (r1.on d3)
  have R2 := Lib.hid (r2.on d3)
  clear BW z0 z1 r1 r2 d3
  go_region_held3 (fun w' => w'.cell? ⟨w.heap.size, 0, none⟩ = some (.bool an) ∧ w'.cell? ⟨w.heap.size, 1, none⟩ = some (.slice P1 k1 k1) ∧ w'.cell? ⟨w.heap.size, 2, none⟩ = some (.int .i64 ae) ∧ w'.cell? ⟨w.heap.size + 1, 0, none⟩ = some (.bool bn) ∧ w'.cell? ⟨w.heap.size + 1, 1, none⟩ = some (.slice P2 k2 k2) ∧ w'.cell? ⟨w.heap.size + 1, 2, none⟩ = some (.int .i64 be))
    ((refine KB.cells (s := w.heap.size) ?_; with_reducible assumption))
    (first
      | (go_at_call_of 45 (Value.agg #[.bool an, .slice P1 k1 k1, .int .i64 ae])
         refine (sign_as sa R1.out (by omega) HSA).mono ?_
         rintro e w4 ⟨rfl, b4⟩
         have kb := kb.on b4
         have R1 := Lib.hid (R1.out.on b4)
         have R2 := Lib.hid (R2.out.on b4)
         have HB := Lib.hid (Below.step HB.out b4)
         clear b4)
      | (go_at_call_of 45 (Value.agg #[.bool bn, .slice P2 k2 k2, .int .i64 be])
         refine (sign_as sa R2.out (by omega) HSB).mono ?_
         rintro e w5 ⟨rfl, b5⟩
         have kb := kb.on b5
         have R1 := Lib.hid (R1.out.on b5)
         have R2 := Lib.hid (R2.out.on b5)
         have HB := Lib.hid (Below.step HB.out b5)
         clear b5)
      | (go_at_call 44
         refine (cmpInt_as _ HC.out _).mono ?_
         rintro e w6 ⟨rfl, rfl⟩))
  go_wp2_with fail
  have kb : KB w5.drew w.heap.size an P1 k1 ae bn P2 k2 be := kb.on ((Below.refl _ _).drew)
  have d5 : Below w5.heap.size w5 w5.drew := (Below.refl _ _).drew
  have HB := Lib.hid (Below.step HB.out d5)
  have R1 := Lib.hid (R1.out.on d5)
  have R2 := Lib.hid (R2.out.on d5)
  clear d5
  go_region_held3 (fun w' => w'.cell? ⟨w.heap.size, 0, none⟩ = some (.bool an) ∧ w'.cell? ⟨w.heap.size, 1, none⟩ = some (.slice P1 k1 k1) ∧ w'.cell? ⟨w.heap.size, 2, none⟩ = some (.int .i64 ae) ∧ w'.cell? ⟨w.heap.size + 1, 0, none⟩ = some (.bool bn) ∧ w'.cell? ⟨w.heap.size + 1, 1, none⟩ = some (.slice P2 k2 k2) ∧ w'.cell? ⟨w.heap.size + 1, 2, none⟩ = some (.int .i64 be))
    ((refine KB.cells (s := w.heap.size) ?_; with_reducible assumption))
    (first
      | (go_at_call_of 45 (Value.agg #[.bool an, .slice P1 k1 k1, .int .i64 ae])
         refine (sign_as sa R1.out (by omega) HSA).mono ?_
         rintro e w7 ⟨rfl, b7⟩
         have kb := kb.on b7
         have R1 := Lib.hid (R1.out.on b7)
         have R2 := Lib.hid (R2.out.on b7)
         have HB := Lib.hid (Below.step HB.out b7)
         clear b7)
      | (go_at_call 46
         refine (cs_any R1.out R2.out (by omega) (by omega) a1 a2 a3 b1 b2 b3 HZ.out.1 HZ.out.2.1 HZ.out.2.2 q HQ.out).mono ?_
         rintro e w8 ⟨rfl, b8⟩
         have kb := kb.on b8
         have HB := Lib.hid (Below.step HB.out b8)
         clear b8))
  go_wp2_with fail
  go_ret2
  exact ⟨ret2_int HPR.out rfl, HB.out⟩

theorem dcmp_any {A1 A2 : Option Addr} {n1 c1 n2 c2 x y : Nat} {na nb : Bool} {ea eb : Int} {w : World} (h1 : Arg w A1 n1 c1 x) (h2 : Arg w A2 n2 c2 y) (s1 : n1 ≤ 30000) (s2 : n2 ≤ 30000) (hT : Tab w) :
    Calls Tryd.prog 15 #[.agg #[.bool na, .slice A1 n1 c1, .int .i64 ea], .agg #[.bool nb, .slice A2 n2 c2, .int .i64 eb]] w (IntPost w (cmpS ⟨na, x, ea⟩ ⟨nb, y, eb⟩)) := by
  by_cases ma : D.may ⟨na, x, ea⟩ = true
  · by_cases mb : D.may ⟨nb, y, eb⟩ = true
    · obtain ⟨⟨an, ax, ae⟩, hpa⟩ : ∃ p, D.pl ⟨na, x, ea⟩ = p := ⟨_, rfl⟩
      obtain ⟨⟨bn, bx, be⟩, hpb⟩ : ∃ p, D.pl ⟨nb, y, eb⟩ = p := ⟨_, rfl⟩
      by_cases hne : sg an ax = sg bn bx
      · exact cmp_sizes h1 h2 s1 s2 hT ma mb hpa hpb _ rfl hne.symm (sg_bd _ _)
      · exact cmp_signs h1 h2 s1 s2 hT ma mb hpa hpb hne
    · exact cmp_err h1 h2 s1 s2 hT (.inr (by simpa using mb))
  · exact cmp_err h1 h2 s1 s2 hT (.inl (by simpa using ma))
end Go.Proofs.YthaehfdjldjdiaaDoor
