
/-
  The reference's Parts, Add, Sub.
-/
import Derived.Test.YthaehfdjldjdiaaDoorRefc
namespace Go.Proofs.YthaehfdjldjdiaaDoor
open Go.RowKit
set_option linter.unusedVariables false

theorem U_snoc (ds : List Nat) (x : Nat) : U ds ++ [Value.int .u32 (x : Int)] = U (ds ++ [x]) := by simp [U]

def PartsPost (w : World) (x : Nat) (e : Ending) (w' : World) : Prop := ∃ A n c, e = .returned (.slice A n c) ∧ Res w' A n x ∧ n ≤ blen x / 32 + 1 ∧ Below w.heap.size w w'

set_option maxHeartbeats 1000000 in
theorem rparts_any {A : Option Addr} {n c x : Nat} {w : World} (h : BR w A n c x) (hn : n ≤ 1000000) :
    Calls Tryd.prog 47 #[.slice A n c] w (PartsPost w x) := by
  have HSZ := Lib.hid h.size
  obtain ⟨bs, hr, _, _, _, hv⟩ := h
  have HV := Lib.hid hv
  have HBL := Lib.hid hr.len
  clear hv
  go_enter Tryd.func47, Tryd.ntmps47
  go_wp2_with fail
  go_loopw [3, 4] (fun v iv wr => ∃ (q : Nat) (ds : List Nat), 32 * q < n + 32 ∧ iv = .int .i64 (32 * (q : Int)) ∧ PartsInv x ds q ∧ Grow wr w.heap.size 61 v (U ds) ∧ Below w.heap.size w wr) (fun _ iv _ => n + 64 - (intOf iv).toNat)
  case atStart => exact ⟨0, [], by omega, rfl, PartsInv.zero x, Grow.made w _ (Nat.le_refl _), (Below.refl _ _).alloc (Nat.le_refl _) _⟩
  case round =>
    obtain ⟨q, ds, hq, rfl, hinv, hgr, hb⟩ := hrel
    have HI := Lib.hid hinv
    have HG := Lib.hid hgr
    have hsz := hb.size
    clear hinv hgr
    by_cases hlt : 32 * q < n
    · have hl2 : 32 * (q : Int) < (n : Int) := by omega
      go_wp2_with fail
      obtain ⟨wo, rfl⟩ : ∃ wo : World, wo = wr := ⟨_, rfl⟩
      go_loop [5, 6] (fun t kv => ∃ (k y : Nat), k ≤ 32 ∧ kv = .int .i64 ((k : Int) - 1) ∧ y = Part x q / 2 ^ k ∧ t = .int .u32 y) (fun _ kv => (intOf kv + 1).toNat)
      case atStart => exact ⟨32, 0, by omega, rfl, (Part.top x q).symm, rfl⟩
      case round =>
        obtain ⟨k, y, hk, rfl, hy, rfl⟩ := hrel
        have HY := Lib.hid hy
        have hyl : y < 4294967296 := by rw [hy]; exact Nat.lt_of_le_of_lt (Nat.div_le_self _ _) (Part.lt x q)
        clear hy
        by_cases h0 : k = 0
        · subst h0
          go_wp2_with (at_builtin; refine wpList_push _ rfl _ _ 22 rfl w.heap.size 61 (.int .u32 0) 4 Tryd.underlying22 u32_info rfl (by omega) _ _ rfl HG.out _ rfl rfl (by rw [U_len, HI.out.len]; omega) hsz ?_; intro v' w1 hg1 hb1)
          go_roundw
          case rel =>
            have hy := HY.out
            rw [Nat.pow_zero, Nat.div_one] at hy
            rw [U_snoc, hy] at hg1
            exact ⟨q + 1, _, by omega, by go_num, HI.out.step, hg1, hb.trans hb1⟩
          case measure => simp [intOf]; omega
        · obtain ⟨j, rfl⟩ : ∃ j, k = j + 1 := ⟨k - 1, by omega⟩
          clear h0
          have e0 : ((j + 1 : Nat) : Int) - 1 = (j : Int) := by omega
          rw [e0]
          clear e0
          have q0 : decide (0 ≤ (j : Int)) = true := decide_eq_true (by omega)
          have hy2 : y < 2147483648 := by
            rw [HY.out, div_succ]
            have := Nat.div_le_self (Part x q) (2 ^ j)
            have := Part.lt x q
            omega
          obtain ⟨b, eb⟩ : ∃ b, bs.getD (32 * q + j) false = b := ⟨_, rfl⟩
          have HC := Lib.hid (rbit_any (c := c) (hr.on hb) (by omega) (32 * (q : Int) + (j : Int)) b (by show _ = _; rw [show 32 * (q : Int) + (j : Int) = ((32 * q + j : Nat) : Int) from by omega, bitAt_nat, eb]))
          have HB := Lib.hid (bval_bit bs (32 * q + j) b eb)
          rw [HV.out, ← Part.bit x q j (by omega)] at HB
          have HD := Lib.hid (div_two (Part x q) j)
          clear eb
          cases b
          · go_wp2_with fail
            refine (HC.out).mono ?_
            rintro e w' ⟨rfl, rfl⟩
            go_wp2_with fail
            go_round
            case rel =>
              refine ⟨j, 2 * y, by omega, rfl, ?_, by go_num⟩
              have h1 := HD.out; have h2 := HB.out; have h3 := HY.out
              simp only [Bool.toNat_false] at h2
              omega
            case measure => simp [intOf]
          · go_wp2_with fail
            refine (HC.out).mono ?_
            rintro e w' ⟨rfl, rfl⟩
            go_wp2_with fail
            go_round
            case rel =>
              refine ⟨j, 2 * y + 1, by omega, rfl, ?_, by go_num⟩
              have h1 := HD.out; have h2 := HB.out; have h3 := HY.out
              simp only [Bool.toNat_true] at h2
              omega
            case measure => simp [intOf]
    · have hl2 : ¬ 32 * (q : Int) < (n : Int) := by omega
      go_wp2_with fail
      obtain ⟨A', c', hv, hsl, hc1, hc2⟩ := HG.out.form
      rw [hv]
      go_ret
      have hb1 := HSZ.out
      obtain ⟨l1, l2⟩ := HI.out.last (by omega) (by omega)
      refine ⟨A', _, c', rfl, ⟨ds, ⟨hsl, l1.1⟩, l1, l2⟩, ?_, hb⟩
      rw [U_len, HI.out.len]
      omega

set_option maxHeartbeats 2000000 in
theorem radd_any {A1 A2 : Option Addr} {n1 c1 n2 c2 x y : Nat} {w : World} (h1 : BR w A1 n1 c1 x) (h2 : BR w A2 n2 c2 y) (s1 : n1 ≤ 1000000) (s2 : n2 ≤ 1000000) :
    Calls Tryd.prog 40 #[.slice A1 n1 c1, .slice A2 n2 c2] w (BitsPost w (x + y)) := by
  have S1 := Lib.hid h1.size
  have S2 := Lib.hid h2.size
  obtain ⟨xs, r1, _, _, _, v1⟩ := h1
  obtain ⟨ys, r2, _, _, _, v2⟩ := h2
  have V1 := Lib.hid v1
  have V2 := Lib.hid v2
  clear v1 v2
  obtain ⟨M, eM⟩ : ∃ M : Nat, max (n1 : Int) (n2 : Int) = (M : Int) := ⟨max n1 n2, by omega⟩
  have hM1 : n1 ≤ M := by omega
  have hM2 : n2 ≤ M := by omega
  have hM3 : M ≤ 1000000 := by omega
  go_enter Tryd.func40, Tryd.ntmps40
  go_wp2_with fail
  go_loopw [5, 6, 7] (fun v cv iv wr => ∃ (k : Nat) (cy : Bool) (bs : List Bool), k ≤ M + 1 ∧ iv = .int .i64 k ∧ cv = .bool cy ∧ BAddInv x y bs k cy ∧ Grow wr w.heap.size 4 v (Bo bs) ∧ Below w.heap.size w wr) (fun _ _ iv _ => M + 1 - (intOf iv).toNat)
  case atStart => exact ⟨0, false, [], by omega, rfl, rfl, BAddInv.zero x y, Grow.made w _ (Nat.le_refl _), (Below.refl _ _).alloc (Nat.le_refl _) _⟩
  case round =>
    obtain ⟨k, cy, bs, hk, rfl, rfl, hinv, hgr, hb⟩ := hrel
    have HI := Lib.hid hinv
    have HG := Lib.hid hgr
    have hsz := hb.size
    clear hinv hgr
    by_cases hlt : k ≤ M
    · obtain ⟨a, ea⟩ : ∃ a, xs.getD k false = a := ⟨_, rfl⟩
      obtain ⟨b, eb⟩ : ∃ b, ys.getD k false = b := ⟨_, rfl⟩
      have C1 := Lib.hid (rbit_any (c := c1) (r1.on hb) (by omega) (k : Int) a (by show _ = _; rw [bitAt_nat, ea]))
      have C2 := Lib.hid (rbit_any (c := c2) (r2.on hb) (by omega) (k : Int) b (by show _ = _; rw [bitAt_nat, eb]))
      have B1 := Lib.hid (bval_bit xs k a ea)
      have B2 := Lib.hid (bval_bit ys k b eb)
      rw [V1.out] at B1
      rw [V2.out] at B2
      clear ea eb
      have hl2 : (k : Int) ≤ (M : Int) := by omega
      cases a <;> cases b <;> cases cy
      all_goals
        go_wp2_with fail
        refine (C1.out).mono ?_
        rintro e w' ⟨rfl, rfl⟩
        go_wp2_with fail
        refine (C2.out).mono ?_
        rintro e w' ⟨rfl, rfl⟩
        go_wp2_with (at_builtin; refine wpList_push _ rfl _ _ 32 rfl w.heap.size 4 (.bool false) 1 Tryd.underlying32 bool_info rfl (by omega) _ _ rfl HG.out _ rfl rfl (by rw [Bo_len, HI.out.len]; omega) hsz ?_; intro v' w1 hg1 hb1)
        go_roundw
        case rel =>
          rw [Bo_snoc] at hg1
          exact ⟨k + 1, _, _, by omega, by go_num, rfl, HI.out.step _ _ B1.out B2.out, hg1, hb.trans hb1⟩
        case measure => simp [intOf]; omega
    · obtain rfl : k = M + 1 := by omega
      have hl2 : ¬ ((M + 1 : Nat) : Int) ≤ (M : Int) := by omega
      go_wp2_with fail
      obtain ⟨A', c', hv, hsl, hc1, hc2⟩ := HG.out.bits
      rw [hv]
      have hz1 := S1.out
      have hz2 := S2.out
      refine (rcutN (bs := bs) hsl hc1 hc2 (HI.out.last (by omega) (by omega))).mono ?_
      rintro e w' ⟨m, rfl, hr, hm, rfl⟩
      clear hv hz1 hz2
      go_wp2_with fail
      go_ret
      exact ⟨_, m, _, rfl, hr, hb⟩
end Go.Proofs.YthaehfdjldjdiaaDoor
