
/-
  The walks of nat's addTimes and Mul.
-/
import Derived.Test.YthaehfdjldjdiaaDoorNatc
import Derived.Test.YthaehfdjldjdiaaDoorMathc
namespace Go.Proofs.YthaehfdjldjdiaaDoor
open Go.RowKit
set_option linter.unusedVariables false

theorem own_at {w : World} {g : Nat} {t : TypeId} {ds : List Nat} (h : Own w g t (U ds)) {j : Nat} (hj : j < ds.length) : ∃ e, Hid (ds.getD j 0 = e) ∧ w.cell? ⟨g, j, none⟩ = some (.int .u32 (e : Int)) := by
  refine ⟨ds.getD j 0, rfl, ?_⟩
  rw [h.cell j, U_at, List.getElem?_eq_getElem hj, List.getD_eq_getElem?_getD, List.getElem?_eq_getElem hj]
  rfl

def RowPost (w : World) (g : Nat) (ds ys : List Nat) (o t n : Nat) (e : Ending) (w' : World) : Prop :=
  ∃ (es : List Nat) (cy : Nat), e = .returned (.int .u32 (cy : Int)) ∧ Own w' g 61 (U es) ∧ RowInv ds es ys o t n cy ∧ Below g w w' ∧ w'.heap.size = w.heap.size

set_option maxHeartbeats 1000000 in
theorem addTimes_any {A : Option Addr} {n c g o l d t : Nat} {ds ys : List Nat} {w : World} (ho : Own w g 61 (U ds)) (hds : Dg ds) (hr : NR w g A n ys) (hc : n ≤ c) (hn : n ≤ 1000000) (hl : n ≤ l) (ho2 : o + n ≤ ds.length) (ht : t < 4294967296) :
    Calls Tryd.prog 71 #[.slice (some ⟨g, o, none⟩) l d, .slice A n c, .int .u32 t] w (RowPost w g ds ys o t n) := by
  have HO := Lib.hid ho
  have HL := Lib.hid hr.len
  clear ho
  go_enter Tryd.func71, Tryd.ntmps71
  go_wp2_with fail
  go_loopw [7, 12] (fun cv i wr => ∃ (k cy : Nat) (es : List Nat), k ≤ n ∧ i = .int .i64 k ∧ cv = .int .u64 cy ∧ Own wr g 61 (U es) ∧ RowInv ds es ys o t k cy ∧ Below g w wr ∧ wr.heap.size = w.heap.size) (fun _ i _ => n - (intOf i).toNat)
  case atStart => exact ⟨0, 0, ds, Nat.zero_le _, rfl, rfl, HO.out, RowInv.zero ds ys hds o t, Below.refl _ _, rfl⟩
  case round =>
    obtain ⟨k, cy, es, hk, rfl, rfl, hod, hinv, hbr, hzr⟩ := hrel
    have HOD := Lib.hid hod
    have HI := Lib.hid hinv
    have HZ := Lib.hid hzr
    have hcy := hinv.low
    clear hod hinv hzr
    by_cases hlt : k < n
    · obtain ⟨b, off, y, rfl, hbb, HX, hly, hcell⟩ := (hr.below hbr).look hlt
      obtain ⟨e, HE, hcell2⟩ := own_at HOD.out (j := o + k) (by rw [HI.out.len]; omega)
      have hel : e < 4294967296 := by rw [← HE.out]; exact HI.out.dg.getD _
      have hfr := HOD.out.free (o + k)
      have hm1 : y * t ≤ 4294967295 * 4294967295 := Nat.mul_le_mul (by omega) (by omega)
      have hm2 : (y : Int) * (t : Int) ≤ 18446744065119617025 := by
        have : ((y * t : Nat) : Int) ≤ 18446744065119617025 := by omega
        rwa [Int.natCast_mul] at this
      have hm3 : 0 ≤ (y : Int) * (t : Int) := by
        have : (0 : Int) ≤ ((y * t : Nat) : Int) := by omega
        rwa [Int.natCast_mul] at this
      obtain ⟨p, ep⟩ : ∃ p, p = y * t := ⟨_, rfl⟩
      have EP := Lib.hid (show ((p : Nat) : Int) = (y : Int) * (t : Int) by rw [ep, Int.natCast_mul])
      have EQ := Lib.hid ep
      rw [← ep] at hm1
      clear ep
      go_wp2_with fail
      go_roundw
      case rel =>
        have ep := EP.out
        refine ⟨k + 1, (cy + (p + e)) / 4294967296, es.set (o + k) ((cy + (p + e)) % 4294967296), by omega, by go_num, ?_, ?_, HI.out.step (by omega) HX.out HE.out (by omega) (by omega) (by rw [← EQ.out]; omega), hbr.setCell (Nat.le_refl _) _, by simp [World.setCell, HZ.out]⟩
        · congr 1; omega
        · rw [← U_set]
          have := HOD.out.put (o + k) (.int .u32 (((cy + (p + e)) % 4294967296 : Nat) : Int))
          have e1 : (((cy + (p + e)) % 4294967296 : Nat) : Int) = ((cy : Int) + ((y : Int) * t + e)) % 4294967296 := by omega
          rw [e1] at this ⊢
          exact this
      case measure => simp [intOf]; omega
    · obtain rfl : k = n := by omega
      go_wp2_with fail
      go_ret
      exact ⟨es, cy, ret_int (by omega), HOD.out, HI.out, hbr, HZ.out⟩

theorem Res.blen {w : World} {A : Option Addr} {n x : Nat} (h : Res w A n x) : blen x ≤ 32 * n := by
  obtain ⟨xs, h1, h2, h3⟩ := h
  rw [blen_le, ← pw_two, ← h3, ← h1.len]
  exact val_lt xs h2.1

theorem mul_over {A1 A2 : Option Addr} {n1 c1 n2 c2 x y : Nat} {w : World} (h1 : Arg w A1 n1 c1 x) (h2 : Arg w A2 n2 c2 y) (s1 : n1 ≤ 1000000) (s2 : n2 ≤ 1000000) (hov : 16384 < blen x + blen y) :
    Calls Tryd.prog 48 #[.slice A1 n1 c1, .slice A2 n2 c2] w (NatErr w 6) := by
  go_enter Tryd.func48, Tryd.ntmps48
  go_wp2_with fail
  refine (bothN h1 h2).mono ?_
  rintro e w' ⟨m1, m2, rfl, r1, r2, hm1, hm2, rfl⟩
  have b1 := r1.blen
  have b2 := r2.blen
  have E1 := Lib.hid (len_any (r1.arg (by omega)) (by omega))
  have E2 := Lib.hid (len_any (r2.arg (by omega)) (by omega))
  generalize blen x = l1 at *
  generalize blen y = l2 at *
  go_wp2_with fail
  refine (E1.out).mono ?_
  rintro e w' ⟨rfl, rfl⟩
  go_wp2_with fail
  refine (E2.out).mono ?_
  rintro e w' ⟨rfl, rfl⟩
  go_wp2_with fail
  go_ret2
  exact ⟨rfl, Below.refl _ _⟩

set_option maxHeartbeats 1000000 in
theorem mul_any {A1 A2 : Option Addr} {n1 c1 n2 c2 x y : Nat} {w : World} (h1 : Arg w A1 n1 c1 x) (h2 : Arg w A2 n2 c2 y) (s1 : n1 ≤ 1000000) (s2 : n2 ≤ 1000000) (hfit : blen x + blen y ≤ 16384) :
    Calls Tryd.prog 48 #[.slice A1 n1 c1, .slice A2 n2 c2] w (NatOk w (x * y) (n1 + n2)) := by
  go_enter Tryd.func48, Tryd.ntmps48
  go_wp2_with fail
  refine (bothN h1 h2).mono ?_
  rintro e w' ⟨m1, m2, rfl, hr1, hr2, hm1, hm2, rfl⟩
  have E1 := Lib.hid (len_any (hr1.arg (by omega)) (by omega))
  have E2 := Lib.hid (len_any (hr2.arg (by omega)) (by omega))
  generalize blen x = l1 at *
  generalize blen y = l2 at *
  go_wp2_with fail
  refine (E1.out).mono ?_
  rintro e w' ⟨rfl, rfl⟩
  go_wp2_with fail
  refine (E2.out).mono ?_
  rintro e w' ⟨rfl, rfl⟩
  obtain ⟨xs, r1, k1, v1⟩ := hr1
  obtain ⟨ys, r2, k2, v2⟩ := hr2
  have V1 := Lib.hid v1
  have V2 := Lib.hid v2
  have L1 := Lib.hid r1.len
  have L2 := Lib.hid r2.len
  clear v1 v2 h1 h2 E1 E2
  go_wp2_with (at_make; refine wpList_zeros _ rfl _ _ 23 rfl 61 (.int .u32 0) 4 Tryd.underlying23 u32_info rfl (by omega) _ (m1 + m2) rfl rfl (by omega) (by omega) ?_; intro w1 ho hb1 hz1; rw [U_zeros] at ho)
  have hg := ho.lt
  have R1 := Lib.hid (r1.below hb1)
  have R2 := Lib.hid (r2.below hb1)
  have HO := Lib.hid ho
  clear ho r1 r2
  obtain ⟨g, eg⟩ : ∃ g, g = w.heap.size := ⟨_, rfl⟩
  rw [← eg] at HO hb1 hg R1 R2 ⊢
  have EG := Lib.hid eg
  clear eg hz1
  go_loopw [29] (fun i wr => ∃ (k : Nat) (ds : List Nat), k ≤ m1 ∧ i = .int .i64 k ∧ Own wr g 61 (U ds) ∧ MulInv xs ys ds (m1 + m2) k ∧ Below g w1 wr) (fun i _ => m1 - (intOf i).toNat)
  case atStart => exact ⟨0, _, Nat.zero_le _, rfl, HO.out, MulInv.zero _ _ _, Below.refl _ _⟩
  case round =>
    obtain ⟨k, ds, hk, rfl, hod, hinv, hbr⟩ := hrel
    have HOD := Lib.hid hod
    have HI := Lib.hid hinv
    clear hod hinv
    by_cases hlt : k < m1
    · obtain ⟨b, off, t, hA, hbb, HX, hl, hcell⟩ := (R1.out.below hbr).look hlt
      subst hA
      have HC := Lib.hid (addTimes_any (o := k) (l := m1 + m2 - k) (d := m1 + m2 - k) (t := t) HOD.out HI.out.dg (R2.out.below hbr) (Nat.le_refl _) (by omega) (by omega) (by rw [HI.out.len]; omega) hl)
      have hne : ¬ m1 + m2 = k := by omega
      go_wp2_with fail
      refine (HC.out).mono ?_
      rintro e w' ⟨es, cy, rfl, hoe, hre, hbe, hze⟩
      have HOE := Lib.hid hoe
      have HRE := Lib.hid hre
      obtain ⟨ov, HV, hov⟩ := own_at hoe (j := k + m2) (by rw [hre.len, HI.out.len]; omega)
      have hfr := hoe.free (k + m2)
      clear hoe hre hze
      go_wp2_with fail
      go_roundw
      case rel =>
        refine ⟨k + 1, es.set (k + m2) cy, by omega, by go_num, ?_, HI.out.step HX.out R1.out.2 R2.out.2 L2.out (by omega) HRE.out, (hbr.trans hbe).setCell (Nat.le_refl _) _⟩
        rw [← U_set]
        exact HOE.out.put _ _
      case measure => simp [intOf]; omega
    · obtain rfl : k = m1 := by omega
      go_wp2_with fail
      have hf := HI.out.sum
      rw [List.take_of_length_le (by rw [L1.out]; omega), V1.out, V2.out] at hf
      refine (cutN (own_arg HOD.out HI.out.dg HI.out.len (by omega) hf)).mono ?_
      rintro e w' ⟨m, rfl, hr, hm, rfl⟩
      go_wp2_with fail
      go_ret2
      exact ⟨_, m, rfl, hr, by omega, EG.out ▸ (hb1.trans hbr)⟩
end Go.Proofs.YthaehfdjldjdiaaDoor
