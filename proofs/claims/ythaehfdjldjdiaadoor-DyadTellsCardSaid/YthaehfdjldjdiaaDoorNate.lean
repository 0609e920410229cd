
/-
  The walks of nat's Left and Right.
-/
import Derived.Test.YthaehfdjldjdiaaDoorNatd
import Derived.Test.YthaehfdjldjdiaaDoorMathd
namespace Go.Proofs.YthaehfdjldjdiaaDoor
open Go.RowKit
set_option linter.unusedVariables false

theorem left_arg {A : Option Addr} {n c : Nat} {w : World} (i : Int) (hi : i < 0) :
    Calls Tryd.prog 58 #[.slice A n c, .int .i64 i] w (NatErr w 1) := by
  go_enter Tryd.func58, Tryd.ntmps58
  go_wp2_with fail
  go_ret2
  exact ⟨rfl, Below.refl _ _⟩

theorem Res.zero_len {w : World} {A : Option Addr} {x : Nat} (h : Res w A 0 x) : x = 0 := by
  obtain ⟨xs, h1, h2, h3⟩ := h
  rw [← h3, List.eq_nil_of_length_eq_zero h1.len]; rfl
theorem Res.pos_len {w : World} {A : Option Addr} {n x : Nat} (h : Res w A n x) (hn : n ≠ 0) : x ≠ 0 := by
  obtain ⟨xs, h1, h2, h3⟩ := h
  have := h2.low (by rw [h1.len]; omega)
  have := pw_pos (xs.length - 1)
  omega

theorem left_none {A : Option Addr} {n c : Nat} {w : World} (h : Arg w A n c 0) (i : Int) (hi : 0 ≤ i) :
    Calls Tryd.prog 58 #[.slice A n c, .int .i64 i] w (NatOk w 0 0) := by
  go_enter Tryd.func58, Tryd.ntmps58
  go_wp2_with fail
  refine (cutN h).mono ?_
  rintro e w' ⟨m, rfl, hr, hm, rfl⟩
  obtain rfl : m = 0 := by
    rcases Nat.eq_zero_or_pos m with e | e
    · exact e
    · exact (hr.pos_len (by omega) rfl).elim
  go_wp2_with fail
  go_ret2
  exact ⟨none, 0, rfl, Res.none_ w, Nat.le_refl _, Below.refl _ _⟩

theorem left_over {A : Option Addr} {n c x : Nat} {w : World} (h : Arg w A n c x) (hs : n ≤ 1000000) (hx : x ≠ 0) (i : Int) (hi : 0 ≤ i) (hi2 : i ≤ 9223372036854775807) (hov : 16384 < (blen x : Int) + i) :
    Calls Tryd.prog 58 #[.slice A n c, .int .i64 i] w (NatErr w 6) := by
  go_enter Tryd.func58, Tryd.ntmps58
  go_wp2_with fail
  refine (cutN h).mono ?_
  rintro e w' ⟨m, rfl, hr, hm, rfl⟩
  have hz : ((m : Int) == 0) = false := by
    rcases Nat.eq_zero_or_pos m with e | e
    · subst e; exact (hx hr.zero_len).elim
    · simp; omega
  have E1 := Lib.hid (len_any (hr.arg (by omega)) (by omega))
  have b1 := hr.blen
  generalize blen x = l at *
  go_wp2_with fail
  refine (E1.out).mono ?_
  rintro e w' ⟨rfl, rfl⟩
  go_wp2_with fail
  go_ret2
  exact ⟨rfl, Below.refl _ _⟩

theorem two_pow_32 (r : Nat) (hr : r < 32) : 2 ^ r ≤ 2147483648 := by
  have : 2 ^ r ≤ 2 ^ 31 := Nat.pow_le_pow_right (by omega) (by omega)
  omega
theorem left_wide (t r : Nat) (ht : t < 4294967296) (hr : r < 32) : IntKind.u64.wrap ((t : Int) * 2 ^ r) = ((t * 2 ^ r : Nat) : Int) ∧ t * 2 ^ r < 18446744073709551616 := by
  have h1 := two_pow_32 r hr
  have h2 : t * 2 ^ r ≤ 4294967295 * 2147483648 := Nat.mul_le_mul (by omega) h1
  have e : (t : Int) * 2 ^ r = ((t * 2 ^ r : Nat) : Int) := by simp
  refine ⟨?_, by omega⟩
  rw [e, IntKind.wrap_u64]
  omega
theorem left_key1 (t r e : Nat) (ht : t < 4294967296) (hr : r < 32) (he : e < 2 ^ r) : bits BinOp.or IntKind.u32 (e : Int) (IntKind.u64.wrap ((t : Int) * 2 ^ r) % 4294967296) = ((e + t * 2 ^ r % 4294967296 : Nat) : Int) := by
  have h1 := two_pow_32 r hr
  rw [(left_wide t r ht hr).1]
  have e1 : ((t * 2 ^ r : Nat) : Int) % 4294967296 = ((t * 2 ^ r % 4294967296 : Nat) : Int) := by omega
  rw [e1, or_u32 _ _ (by omega) (by omega), (or_low e t r hr he).1]
theorem left_key2 (t r : Nat) (ht : t < 4294967296) (hr : r < 32) : IntKind.u64.wrap ((t : Int) * 2 ^ r) / 4294967296 % 4294967296 = ((t * 2 ^ r / 4294967296 : Nat) : Int) := by
  obtain ⟨e, h⟩ := left_wide t r ht hr
  rw [e]
  omega

set_option maxHeartbeats 1000000 in
theorem left_any {A : Option Addr} {n c x : Nat} {w : World} (h : Arg w A n c x) (hs : n ≤ 1000000) (hx : x ≠ 0) (i : Nat) (hfit : blen x + i ≤ 16384) :
    Calls Tryd.prog 58 #[.slice A n c, .int .i64 i] w (NatOk w (x * 2 ^ i) (n + i / 32 + 1)) := by
  go_enter Tryd.func58, Tryd.ntmps58
  go_wp2_with fail
  refine (cutN h).mono ?_
  rintro e w' ⟨m, rfl, hr, hm, rfl⟩
  have hz : ((m : Int) == 0) = false := by
    rcases Nat.eq_zero_or_pos m with e | e
    · subst e; exact (hx hr.zero_len).elim
    · simp; omega
  have E1 := Lib.hid (len_any (hr.arg (by omega)) (by omega))
  have b1 := hr.blen
  obtain ⟨xs, r1, k1, v1⟩ := hr
  have V1 := Lib.hid v1
  have L1 := Lib.hid r1.len
  clear v1 h
  generalize blen x = l at *
  go_wp2_with fail
  refine (E1.out).mono ?_
  rintro e w' ⟨rfl, rfl⟩
  go_wp2_with (at_make; refine wpList_zeros _ rfl _ _ 23 rfl 61 (.int .u32 0) 4 Tryd.underlying23 u32_info rfl (by omega) _ (i / 32 + m + 1) rfl rfl (by omega) (by omega) ?_; intro w1 ho hb1 hz1; rw [U_zeros] at ho)
  have d1 : decide ((i : Int) < 0) = false := decide_eq_false (by omega)
  have d2 : decide (16384 - (i : Int) < (l : Int)) = false := decide_eq_false (by omega)
  have e1 : (i : Int) / 32 = ((i / 32 : Nat) : Int) := by omega
  have e2 : (i : Int) % 32 = ((i % 32 : Nat) : Int) := by omega
  have hr32 : i % 32 < 32 := by omega
  have HQ := Lib.hid (show 32 * (i / 32) + i % 32 = i by omega)
  have hq : i / 32 ≤ 1000 := by omega
  rw [d1, d2, e1, e2]
  clear d1 d2 e1 e2
  generalize i / 32 = q at *
  generalize i % 32 = r at *
  have hg := ho.lt
  have R1 := Lib.hid (r1.below hb1)
  have HO := Lib.hid ho
  clear ho r1
  obtain ⟨g, eg⟩ : ∃ g, g = w.heap.size := ⟨_, rfl⟩
  rw [← eg] at HO hb1 hg R1 ⊢
  have EG := Lib.hid eg
  clear eg hz1
  go_loopw [36] (fun iv wr => ∃ (k : Nat) (ds : List Nat), k ≤ m ∧ iv = .int .i64 k ∧ Own wr g 61 (U ds) ∧ LeftInv xs ds (q + m + 1) q r k ∧ Below g w1 wr) (fun iv _ => m - (intOf iv).toNat)
  case atStart => exact ⟨0, _, Nat.zero_le _, rfl, HO.out, LeftInv.zero _ _ _ _, Below.refl _ _⟩
  case round =>
    obtain ⟨k, ds, hk, rfl, hod, hinv, hbr⟩ := hrel
    have HOD := Lib.hid hod
    have HI := Lib.hid hinv
    clear hod hinv
    by_cases hlt : k < m
    · obtain ⟨b, off, t, hA, hbb, HX, hl, hcell⟩ := (R1.out.below hbr).look hlt
      subst hA
      obtain ⟨e, HE, hc2⟩ := own_at HOD.out (j := q + k) (by rw [HI.out.len]; omega)
      obtain ⟨e', HE', hc3⟩ := own_at HOD.out (j := q + k + 1) (by rw [HI.out.len]; omega)
      have hf2 := HOD.out.free (q + k)
      have hf3 := HOD.out.free (q + k + 1)
      have HB := Lib.hid (HI.out.old k1.1 hr32)
      go_wp2_with fail
      go_roundw
      case rel =>
        obtain ⟨o1, _⟩ := HB.out
        rw [HE.out] at o1
        refine ⟨k + 1, _, by omega, by go_num, ?_, HI.out.step k1.1 hr32 (by omega) HX.out hl HE.out, (hbr.setCell (Nat.le_refl _) _).setCell (Nat.le_refl _) _⟩
        rw [← U_set, ← U_set, left_key1 t r e hl hr32 o1, left_key2 t r hl hr32]
        exact (HOD.out.put _ _).put _ _
      case measure => simp [intOf]; omega
    · obtain rfl : k = m := by omega
      go_wp2_with fail
      have hf := HI.out.sum
      rw [List.take_of_length_le (by rw [L1.out]; omega), V1.out] at hf
      have hf2 : val ds = x * 2 ^ i := by
        rw [hf, ← HQ.out, Nat.pow_add, ← pw_two]
        ac_rfl
      refine (cutN (own_arg HOD.out HI.out.dg HI.out.len (by omega) hf2)).mono ?_
      rintro e w' ⟨m', rfl, hr, hm', rfl⟩
      go_wp2_with fail
      go_ret2
      exact ⟨_, m', rfl, hr, by omega, EG.out ▸ (hb1.trans hbr)⟩

/-- a number by a power of 2, and whether a 1 was lost. -/
def RightPost (w : World) (x k n : Nat) (e : Ending) (w' : World) : Prop :=
  ∃ A m, e = .returned (.tuple #[.slice A m m, .bool (decide (x % 2 ^ k ≠ 0))]) ∧ Res w' A m (x / 2 ^ k) ∧ m ≤ n ∧ Below w.heap.size w w'

set_option maxHeartbeats 1000000 in
theorem right_any {A : Option Addr} {n c x : Nat} {w : World} (h : Arg w A n c x) (hs : n ≤ 1000000) (i : Int) (hi2 : i ≤ 9223372036854775807) (hT : Tab w) :
    Calls Tryd.prog 54 #[.slice A n c, .int .i64 i] w (RightPost w x i.toNat n) := by
  obtain ⟨k, ek⟩ : ∃ k : Nat, k = i.toNat := ⟨_, rfl⟩
  rw [← ek]
  have hk : k ≤ 9223372036854775807 := by omega
  have HK := Lib.hid ek
  clear ek
  go_enter Tryd.func54, Tryd.ntmps54
  go_wp2_with fail
  rw [show max i 0 = (k : Int) from by have := HK.out; omega]
  refine (cutN h).mono ?_
  rintro e w' ⟨m, rfl, hr, hm, rfl⟩
  clear h hi2 HK
  by_cases h0 : m = 0
  · subst h0
    have hx := hr.zero_len
    subst hx
    have hge : ¬ (k : Int) / 32 < 0 := by omega
    go_wp2_with fail
    go_ret2
    refine ⟨none, 0, ?_, by rw [Nat.zero_div]; exact Res.none_ w, by omega, Below.refl _ _⟩
    rw [Nat.zero_mod]
    rfl
  · have hx := hr.pos_len h0
    have hp : (0 : Int) < (m : Int) := by omega
    have HZ := Lib.hid (zeros_any (hr.arg (by omega)) (by omega) hT)
    obtain ⟨xs, r1, k1, v1⟩ := hr
    have V1 := Lib.hid v1
    have L1 := Lib.hid r1.len
    clear v1
    go_wp2_with fail
    refine (HZ.out).mono ?_
    rintro e w' ⟨z, rfl, _, hctz, hz2, rfl⟩
    have HC : Hid (decide (z < k) = decide (x % 2 ^ k ≠ 0)) := by
      show _ = _
      have := (hctz hx).mod k
      rw [decide_eq_decide, ← this]
    clear hctz HZ
    have e1 : (k : Int) / 32 = ((k / 32 : Nat) : Int) := by omega
    have e2 : (k : Int) % 32 = ((k % 32 : Nat) : Int) := by omega
    have hr32 : k % 32 < 32 := by omega
    have HQ := Lib.hid (show 32 * (k / 32) + k % 32 = k by omega)
    have E1 := Lib.hid e1
    have E2 := Lib.hid e2
    clear e1 e2
    by_cases hw : m ≤ k / 32
    · have hge : (m : Int) ≤ (k : Int) / 32 := by omega
      go_wp2_with fail
      go_ret2
      refine ⟨none, 0, ?_, ?_, by omega, Below.refl _ _⟩
      · rw [← HC.out]; rfl
      · rw [← HQ.out, ← V1.out, right_none xs k1.1 _ _ (by rw [L1.out]; exact hw)]
        exact Res.none_ w
    · have hlt : (k : Int) / 32 < (m : Int) := by omega
      go_wp2_with (at_make; refine wpList_zeros _ rfl _ _ 23 rfl 61 (.int .u32 0) 4 Tryd.underlying23 u32_info rfl (by omega) _ (m - k / 32) rfl rfl (by omega) (by omega) ?_; intro w1 ho hb1 hz1; rw [U_zeros] at ho)
      have d1 : decide ((m : Int) ≤ (k : Int) / 32) = false := decide_eq_false (by omega)
      have d2 : (m : Int) - ((k / 32 : Nat) : Int) = ((m - k / 32 : Nat) : Int) := by omega
      rw [d1, E1.out, E2.out, d2]
      obtain ⟨N, en⟩ : ∃ N, N = m - k / 32 := ⟨_, rfl⟩
      rw [← en] at ho ⊢
      have n1 : N + k / 32 ≤ m := by omega
      have n2 : m ≤ N + k / 32 := by omega
      clear d1 d2 en E1 E2 hlt hw
      generalize k / 32 = q at *
      generalize k % 32 = r at *
      obtain ⟨bl, ebl⟩ : ∃ bl, bl = decide (z < k) := ⟨_, rfl⟩
      rw [← ebl] at HC ⊢
      clear ebl
      have hg := ho.lt
      have R1 := Lib.hid (r1.below hb1)
      have HO := Lib.hid ho
      clear ho r1
      obtain ⟨g, eg⟩ : ∃ g, g = w.heap.size := ⟨_, rfl⟩
      rw [← eg] at HO hb1 hg R1 ⊢
      have EG := Lib.hid eg
      clear eg hz1
      go_loopw [41] (fun iv wr => ∃ (j : Nat) (ds : List Nat), j ≤ N ∧ iv = .int .i64 j ∧ Own wr g 61 (U ds) ∧ RightInv ds N (x / 2 ^ k) j ∧ Below g w1 wr) (fun iv _ => N - (intOf iv).toNat)
      case atStart => exact ⟨0, _, Nat.zero_le _, rfl, HO.out, RightInv.zero _ _, Below.refl _ _⟩
      case round =>
        obtain ⟨j, ds, hj, rfl, hod, hinv, hbr⟩ := hrel
        have HOD := Lib.hid hod
        have HI := Lib.hid hinv
        clear hod hinv
        by_cases hlt : j < N
        · obtain ⟨b, off, t, hA, hbb, HX, hl, hcell⟩ := (R1.out.below hbr).look (k := q + j) (by omega)
          subst hA
          obtain ⟨u, eu⟩ : ∃ u, xs.getD (q + j + 1) 0 = u := ⟨_, rfl⟩
          have hu : u < 4294967296 := by rw [← eu]; exact k1.1.getD _
          have HU := Lib.hid eu
          clear eu
          have HP := Lib.hid (fun W (hW : NR W g (some ⟨b, off, none⟩) m xs) => part_as hW (Nat.le_refl m) (by unfold maxLen; omega) u ((q : Int) + (j : Int) + 1) (by omega) (by rw [show ((q : Int) + (j : Int) + 1).toNat = q + j + 1 from by omega]; exact HU))
          have HR := Lib.hid (R1.out.below hbr)
          have q0 : 0 ≤ (q : Int) + (j : Int) := by omega
          have q1 : (q : Int) + (j : Int) < (m : Int) := by omega
          have q2 : IntKind.i64.wrap ((q : Int) + (j : Int)) = (q : Int) + (j : Int) := IntWalk.i64_in _ (by omega)
          have q3 : IntKind.i64.wrap ((q : Int) + (j : Int) + 1) = (q : Int) + (j : Int) + 1 := IntWalk.i64_in _ (by omega)
          have q4 : ((q : Int) + (j : Int)).toNat = q + j := by omega
          go_wp2_with fail
          go_quiet ((go_at_call 62; exact quiet_at (HP.out _ HR.out) ⟨_, rfl⟩))
          clear q2 q3 q4 HP HR
          have HOW : Hid (Own (wr.drewN nq) g 61 (U ds)) := HOD.out
          have hbW := below_drewN hbr nq
          generalize wr.drewN nq = W at *
          obtain ⟨ov, _, hov⟩ := own_at HOW.out (j := j) (by rw [HI.out.len]; omega)
          have hfr := HOW.out.free j
          clear hbr HOD hcell
          go_wp2_with fail
          go_roundw
          case rel =>
            refine ⟨j + 1, _, by omega, by go_num, ?_, HI.out.step hlt rfl, hbW.setCell (Nat.le_refl _) _⟩
            rw [← U_set]
            have := HOW.out.put j (.int .u32 ((x / 2 ^ k / 4294967296 ^ j % 4294967296 : Nat) : Int))
            rw [← HQ.out, ← V1.out, right_at xs k1.1 q r j t u hr32 HX.out HU.out] at this ⊢
            rw [word_key u t hu hl]
            have e1 : ((u * 4294967296 + t : Nat) : Int) / 2 ^ r % 4294967296 = (((u * 4294967296 + t) / 2 ^ r % 4294967296 : Nat) : Int) := by simp
            rw [e1]
            exact this
          case measure => simp [intOf]; omega
        · obtain rfl : j = N := by omega
          go_wp2_with fail
          have hf := HI.out.last (by rw [← HQ.out, ← V1.out]; have := right_lt xs k1.1 q r (by rw [L1.out]; omega); rw [L1.out] at this; exact Nat.lt_of_lt_of_le this (Nat.pow_le_pow_right (by omega) (by omega)))
          refine (cutN (own_arg HOD.out HI.out.dg HI.out.len (by omega) hf)).mono ?_
          rintro e w' ⟨m', rfl, hr, hm', rfl⟩
          go_wp2_with fail
          go_ret2
          refine ⟨_, m', ?_, hr, by omega, EG.out ▸ (hb1.trans hbr)⟩
          rw [← HC.out]
          rfl
end Go.Proofs.YthaehfdjldjdiaaDoor
