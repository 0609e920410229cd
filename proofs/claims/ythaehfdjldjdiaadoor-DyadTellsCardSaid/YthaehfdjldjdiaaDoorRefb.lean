
/-
  The reference's Zeros, Full, Cmp.
-/
import Derived.Test.YthaehfdjldjdiaaDoorRefa
namespace Go.Proofs.YthaehfdjldjdiaaDoor
open Go.RowKit
set_option linter.unusedVariables false

theorem bctz {bs : List Bool} {k : Nat} (hz : ∀ j, j < k → bs.getD j false = false) (hk : bs.getD k false = true) : Ctz (bval bs) k := by
  have hl : k < bs.length := by
    rcases Nat.lt_or_ge k bs.length with h | h
    · exact h
    · rw [bgetD_ge rfl h] at hk; cases hk
  have e0 : bval bs % 2 ^ k = 0 := by
    rw [bval_mod]
    refine bval_eq_zero _ (fun j => ?_)
    by_cases hj : j < k
    · rw [List.getD_eq_getElem?_getD, List.getElem?_take, if_pos hj, ← List.getD_eq_getElem?_getD]; exact hz j hj
    · exact bgetD_ge rfl (by rw [List.length_take]; omega)
  have h1 := bval_bit bs k true hk
  simp only [Bool.toNat_true] at h1
  have h2 := Nat.div_add_mod (bval bs) (2 ^ k)
  rw [e0] at h2
  refine ⟨?_, bval bs / 2 ^ k / 2, ?_⟩
  · intro e; rw [e] at h1; simp at h1
  · rw [← h2]
    rw [Nat.add_zero, Nat.mul_div_cancel_left _ (Nat.two_pow_pos k)]
    congr 1
    omega

set_option maxHeartbeats 400000 in
theorem rzeros_any {A : Option Addr} {n c x : Nat} {w : World} (h : BR w A n c x) (hn : n ≤ 1000000) :
    Calls Tryd.prog 57 #[.slice A n c] w (ZerosPost w x) := by
  obtain ⟨bs, hr, h2, h3, h4, h5⟩ := h
  have HV := Lib.hid h5
  have HL := Lib.hid hr.len
  clear h5
  go_enter Tryd.func57, Tryd.ntmps57
  go_wp2_with fail
  go_loop [3] (fun i => ∃ k : Nat, k ≤ n ∧ (∀ j, j < k → bs.getD j false = false) ∧ i = .int .i64 k) (fun i => n - (intOf i).toNat)
  case atStart => exact ⟨0, Nat.zero_le _, fun j hj => by omega, rfl⟩
  case round =>
    obtain ⟨k, hk, hz, rfl⟩ := hrel
    have HZ := Lib.hid hz
    clear hz
    by_cases hlt : k < n
    · obtain ⟨b, off, t, rfl, hb, HX, hcell⟩ := hr.look hlt
      cases t
      · go_wp2_with fail
        go_round
        case rel =>
          refine ⟨k + 1, by omega, fun j hj => ?_, by go_num⟩
          by_cases e : j = k
          · rw [e]; exact HX.out
          · exact HZ.out j (by omega)
        case measure => simp [intOf]; omega
      · go_wp2_with fail
        go_ret
        have hc := bctz HZ.out HX.out
        rw [HV.out] at hc
        exact ⟨k, rfl, fun e => (hc.1 e).elim, fun _ => hc, by omega, rfl⟩
    · go_wp2_with fail
      go_ret
      refine ⟨0, rfl, fun _ => rfl, fun e => ?_, by omega, rfl⟩
      refine (e ?_).elim
      rw [← HV.out]
      refine bval_eq_zero bs (fun j => ?_)
      by_cases hj : j < k
      · exact HZ.out j hj
      · exact bgetD_ge HL.out (by omega)

theorem bitAt_nat (bs : List Bool) (k : Nat) : bitAt bs (k : Int) = bs.getD k false := by
  unfold bitAt
  rw [if_neg (by omega), Int.toNat_natCast]

set_option maxHeartbeats 400000 in
theorem rcmp_any {A1 A2 : Option Addr} {n1 c1 n2 c2 x y : Nat} {w : World} (h1 : BR w A1 n1 c1 x) (h2 : BR w A2 n2 c2 y) (s1 : n1 ≤ 1000000) (s2 : n2 ≤ 1000000) :
    Calls Tryd.prog 41 #[.slice A1 n1 c1, .slice A2 n2 c2] w fun e w' => e = .returned (.int .i64 (cmpI x y)) ∧ w = w' := by
  obtain ⟨as_, r1, _, _, _, v1⟩ := h1
  obtain ⟨bs, r2, _, _, _, v2⟩ := h2
  have V1 := Lib.hid v1
  have V2 := Lib.hid v2
  have L1 := Lib.hid r1.len
  have L2 := Lib.hid r2.len
  clear v1 v2
  go_enter Tryd.func41, Tryd.ntmps41
  go_wp2_with fail
  obtain ⟨M, eM⟩ : ∃ M : Nat, max (n1 : Int) (n2 : Int) = (M : Int) := ⟨max n1 n2, by omega⟩
  have hM1 : n1 ≤ M := by omega
  have hM2 : n2 ≤ M := by omega
  have hM3 : M ≤ 1000000 := by omega
  rw [eM]
  clear eM
  go_loop [5] (fun i => ∃ k : Nat, k ≤ M ∧ x / 2 ^ k = y / 2 ^ k ∧ i = .int .i64 ((k : Int) - 1)) (fun i => (intOf i + 1).toNat)
  case atStart =>
    refine ⟨M, Nat.le_refl _, ?_, rfl⟩
    have h1 := bval_lt as_
    have h2 := bval_lt bs
    rw [V1.out, L1.out] at h1
    rw [V2.out, L2.out] at h2
    have h3 : 2 ^ n1 ≤ 2 ^ M := Nat.pow_le_pow_right (by omega) hM1
    have h4 : 2 ^ n2 ≤ 2 ^ M := Nat.pow_le_pow_right (by omega) hM2
    rw [Nat.div_eq_of_lt (by omega), Nat.div_eq_of_lt (by omega)]
  case round =>
    obtain ⟨k, hk, he, rfl⟩ := hrel
    have HE := Lib.hid he
    clear he
    by_cases h0 : k = 0
    · subst h0
      go_wp2_with fail
      go_ret
      have := HE.out
      simp only [Nat.pow_zero, Nat.div_one] at this
      exact ⟨by rw [cmpI_of_eq this]; rfl, rfl⟩
    · obtain ⟨q, rfl⟩ : ∃ q, k = q + 1 := ⟨k - 1, by omega⟩
      clear h0
      have e0 : ((q + 1 : Nat) : Int) - 1 = (q : Int) := by omega
      rw [e0]
      clear e0
      have q0 : decide (0 ≤ (q : Int)) = true := decide_eq_true (by omega)
      obtain ⟨a, ea⟩ : ∃ a, as_.getD q false = a := ⟨_, rfl⟩
      obtain ⟨b, eb⟩ : ∃ b, bs.getD q false = b := ⟨_, rfl⟩
      have C1 := Lib.hid (rbit_any (c := c1) r1 (by omega) (q : Int) a (by show _ = _; rw [bitAt_nat, ea]))
      have C2 := Lib.hid (rbit_any (c := c2) r2 (by omega) (q : Int) b (by show _ = _; rw [bitAt_nat, eb]))
      have B1 := Lib.hid (bval_bit as_ q a ea)
      have B2 := Lib.hid (bval_bit bs q b eb)
      rw [V1.out] at B1
      rw [V2.out] at B2
      clear ea eb
      cases a <;> cases b
      · go_wp2_with fail
        refine (C1.out).mono ?_
        rintro e w' ⟨rfl, rfl⟩
        go_wp2_with fail
        refine (C2.out).mono ?_
        rintro e w' ⟨rfl, rfl⟩
        go_wp2_with fail
        go_round
        case rel => exact ⟨q, by omega, by rw [div_two x q, div_two y q, HE.out, B1.out, B2.out], rfl⟩
        case measure => simp [intOf]
      · go_wp2_with fail
        refine (C1.out).mono ?_
        rintro e w' ⟨rfl, rfl⟩
        go_wp2_with fail
        refine (C2.out).mono ?_
        rintro e w' ⟨rfl, rfl⟩
        go_wp2_with fail
        go_ret
        exact ⟨by rw [cmpI_of_lt (cmp_bit HE.out B1.out B2.out)]; rfl, rfl⟩
      · go_wp2_with fail
        refine (C1.out).mono ?_
        rintro e w' ⟨rfl, rfl⟩
        go_wp2_with fail
        refine (C2.out).mono ?_
        rintro e w' ⟨rfl, rfl⟩
        go_wp2_with fail
        go_ret
        exact ⟨by rw [cmpI_of_gt (cmp_bit HE.out.symm B2.out B1.out)]; rfl, rfl⟩
      · go_wp2_with fail
        refine (C1.out).mono ?_
        rintro e w' ⟨rfl, rfl⟩
        go_wp2_with fail
        refine (C2.out).mono ?_
        rintro e w' ⟨rfl, rfl⟩
        go_wp2_with fail
        go_round
        case rel => exact ⟨q, by omega, by rw [div_two x q, div_two y q, HE.out, B1.out, B2.out], rfl⟩
        case measure => simp [intOf]
end Go.Proofs.YthaehfdjldjdiaaDoor
