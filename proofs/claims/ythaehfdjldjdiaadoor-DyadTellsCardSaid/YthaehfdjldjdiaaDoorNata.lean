
/-
  The walks of nat's Len, Bit, Zeros, Of, Word, Cmp.
-/
import Derived.Test.YthaehfdjldjdiaaDoorLaws
import Derived.Deep.QuietTactic
import Derived.BigQuiet
namespace Go.Proofs.YthaehfdjldjdiaaDoor
open Go.RowKit
set_option linter.unusedVariables false

theorem len_any {A : Option Addr} {n c x : Nat} {w : World} (h : Arg w A n c x) (hs : n ≤ 2000000) :
    Calls Tryd.prog 70 #[.slice A n c] w fun e w' => e = .returned (.int .i64 (blen x : Nat)) ∧ w = w' := by
  go_enter Tryd.func70, Tryd.ntmps70
  go_wp2_with fail
  refine (cutN h).mono ?_
  rintro e w' ⟨m, rfl, ⟨xs, hr, hcn, hv⟩, hm, rfl⟩
  have HL := Lib.hid hr.len
  have HV := Lib.hid hv
  clear hv
  by_cases h0 : m = 0
  · subst h0
    have hx : x = 0 := by
      rw [← HV.out, List.eq_nil_of_length_eq_zero HL.out]; rfl
    subst hx
    go_wp2_with fail
    go_ret
    exact ⟨rfl, rfl⟩
  · obtain ⟨b, off, t, rfl, hb, HX, hlt, hcell⟩ := hr.look (k := m - 1) (by omega)
    have hz : ((m : Int) == 0) = false := by simp; omega
    have hbl : blen x = (m - 1) * 32 + blen t := by
      have h1 := blen_val hcn (by rw [HL.out]; omega)
      rw [HV.out, HL.out, HX.out] at h1
      exact h1
    have HB := Lib.hid hbl
    have ht := (blen_le t 32).2 (by omega)
    clear hbl
    have H32 := Lib.hid (len32_any t w hlt)
    rw [bitLen_blen t (by omega)] at H32
    go_wp2_with (go_at_call 75; refine (H32.out).mono ?_; rintro e w' ⟨rfl, rfl⟩)
    go_ret
    exact ⟨ret_int (by rw [HB.out]; omega), rfl⟩

theorem part_as {A : Option Addr} {n c B : Nat} {xs : List Nat} {w : World} (h : NR w B A n xs) (hnc : n ≤ c) (hc : c ≤ maxLen) (p : Nat) (i : Int) (hi : 0 ≤ i) (hp : Hid (xs.getD i.toNat 0 = p)) :
    Calls Tryd.prog 62 #[.slice A n c, .int .i64 i] w fun e w' => e = .returned (.int .u32 (p : Int)) ∧ w = w' := by
  have := part_any A n c B xs w h hnc hc i hi
  rw [hp.out] at this
  exact this

theorem bit_key (p r : Nat) (hp : p < 4294967296) : wrap64 (bits BinOp.and IntKind.u32 ((p : Int) / 2 ^ r) 1) = ((p / 2 ^ r % 2 : Nat) : Int) := by
  have e1 : ((p : Int) / 2 ^ r) = ((p / 2 ^ r : Nat) : Int) := by simp
  have h1 : p / 2 ^ r ≤ p := Nat.div_le_self _ _
  rw [e1, show (1 : Int) = ((1 : Nat) : Int) from rfl, and_u32 _ 1 (by omega) (by omega), Nat.and_one_is_mod]
  exact IntWalk.wrap64_in _ ⟨by omega, by omega⟩
theorem bit_val (xs : List Nat) (h : Dg xs) (k p : Nat) (hp : xs.getD (k / 32) 0 = p) : val xs / 2 ^ k % 2 = p / 2 ^ (k % 32) % 2 := by
  have e1 : 2 ^ k = 4294967296 ^ (k / 32) * 2 ^ (k % 32) := by
    rw [pw_two, ← Nat.pow_add]; congr 1; omega
  rw [e1, ← Nat.div_div_eq_div_mul, ← hp, ← val_at xs h (k / 32)]
  generalize val xs / 4294967296 ^ (k / 32) = y
  have hr : k % 32 < 32 := Nat.mod_lt _ (by omega)
  generalize k % 32 = r at *
  obtain ⟨d, hd⟩ : ∃ d, 32 = r + (d + 1) := ⟨32 - r - 1, by omega⟩
  have e3 : (4294967296 : Nat) = 2 ^ r * (2 * 2 ^ d) := by rw [Nat.mul_comm 2, ← Nat.pow_succ, ← Nat.pow_add, ← hd]
  rw [e3, Nat.mod_mul_right_div_self, Nat.mod_mul_right_mod]

/-- the lowest bits 0 of a number, by what Zeros tells. -/
def ZerosPost (w : World) (x : Nat) (e : Ending) (w' : World) : Prop := ∃ z : Nat, e = .returned (.int .i64 (z : Int)) ∧ (x = 0 → z = 0) ∧ (x ≠ 0 → Ctz x z) ∧ z ≤ 40000000 ∧ w = w'
set_option maxHeartbeats 400000 in
theorem zeros_any {A : Option Addr} {n c x : Nat} {w : World} (h : Arg w A n c x) (h4 : n ≤ 1000000) (hT : Tab w) :
    Calls Tryd.prog 72 #[.slice A n c] w (ZerosPost w x) := by
  obtain ⟨xs, hr, h2, h3, h5⟩ := h
  have HV := Lib.hid h5
  have HL := Lib.hid hr.len
  clear h5
  unfold maxLen at h3
  go_enter Tryd.func72, Tryd.ntmps72
  go_wp2_with fail
  go_loop [7] (fun i => ∃ k : Nat, k ≤ n ∧ (∀ j, j < k → xs.getD j 0 = 0) ∧ i = .int .i64 k) (fun i => n - (intOf i).toNat)
  case atStart => exact ⟨0, Nat.zero_le _, fun j hj => by omega, rfl⟩
  case round =>
    obtain ⟨k, hk, hz, rfl⟩ := hrel
    have HZ := Lib.hid hz
    clear hz
    by_cases hlt : k < n
    · obtain ⟨b, off, t, rfl, hb, HX, hl, hcell⟩ := hr.look hlt
      by_cases ht : t = 0
      · subst ht
        go_wp2_with fail
        go_round
        case rel =>
          refine ⟨k + 1, by omega, fun j hj => ?_, by go_num⟩
          by_cases e : j = k
          · rw [e]; exact HX.out
          · exact HZ.out j (by omega)
        case measure => simp [intOf]; omega
      · have hne : ((t : Int) != 0) = true := by rw [bne_iff_ne]; omega
        have HC := Lib.hid (tz32_any t hl ht w hT)
        obtain ⟨_, hc32⟩ := Lib.lowest_bit 32 t ht hl
        have HK := Lib.hid (ctz_val hr.2 k (Lib.ctz 32 t) HZ.out (by rw [HX.out]; exact ctz32 t hl ht) hc32)
        generalize Lib.ctz 32 t = z at *
        go_wp2_with (go_at_call 76; refine (HC.out).mono ?_; rintro e w' ⟨rfl, rfl⟩)
        go_ret
        refine ⟨k * 32 + z, ret_int (by omega), fun e => ?_, fun _ => by rw [← HV.out]; exact HK.out, by omega, rfl⟩
        have := HK.out.1
        rw [HV.out] at this
        exact (this e).elim
    · go_wp2_with fail
      go_ret
      refine ⟨0, rfl, fun _ => rfl, fun e => ?_, by omega, rfl⟩
      refine (e ?_).elim
      rw [← HV.out]
      refine val_eq_zero xs (fun j => ?_)
      by_cases hj : j < k
      · exact HZ.out j hj
      · exact getD_ge HL.out (by omega)
end Go.Proofs.YthaehfdjldjdiaaDoor
