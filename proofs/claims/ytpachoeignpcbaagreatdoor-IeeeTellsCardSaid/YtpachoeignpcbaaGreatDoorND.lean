/-
  The walk of awake.
  The walk of the law NatTurned.
  The reference's Right, Mul.
  The walk of the law NatBack.
  The walk of the law NatParts.
  The walk of the law NatAdds.
  The walk of the law NatTells.
  The walk of the law NatShifts.
-/
import Derived.Test.YtpachoeignpcbaaGreatDoorNB
import Derived.Test.YtpachoeignpcbaaGreatDoorNC
namespace Go.Proofs.YtpachoeignpcbaaGreatDoor
open Go.RowKit
set_option linter.unusedVariables false

theorem Tab.lt {w : World} (h : Tab w) : 1 < w.heap.size := by
  have h0 := h 0 (by omega)
  rcases Nat.lt_or_ge 1 w.heap.size with hlt | hge
  · exact hlt
  · simp only [World.cell?] at h0
    rw [Array.getElem?_eq_none hge] at h0
    cases h0
theorem Tab.on {w w' : World} (h : Tab w) (hb : Below w.heap.size w w') : Tab w' := fun j hj => (hb.cell (p := ⟨_, j, none⟩) h.lt).trans (h j hj)
theorem blen_eq {x : Nat} (k : Nat) (h1 : 2 ^ k ≤ x) (h2 : x < 2 ^ (k + 1)) : blen x = k + 1 := blen_unique h1 h2

/-- a literal list of parts, behind its own block. -/
theorem lit_res (w : World) (t : TypeId) (cs : List Nat) (n x : Nat) (hc : Canon cs) (hn : cs.length = n) (hx : val cs = x) : Res (w.alloc (.cells (U cs).toArray t)) (some ⟨w.heap.size, 0, none⟩) n x := by
  have := (Own.made w t (U cs)).nr hc.1
  rw [hn] at this
  exact ⟨cs, this, hc, hx⟩
theorem below_lit (w : World) (o : Obj) : Below w.heap.size w (w.alloc o) := (Below.refl _ _).alloc (Nat.le_refl _) _
theorem canon1 (a : Nat) (h : a < 4294967296) (h0 : a ≠ 0) : Canon [a] := ⟨Dg.mk h Dg.nil, fun _ => h0⟩
theorem canon2 (a b : Nat) (h : a < 4294967296) (hb : b < 4294967296) (h0 : b ≠ 0) : Canon [a, b] := ⟨Dg.mk h (Dg.mk hb Dg.nil), fun _ => h0⟩

theorem lit_arg (w : World) (t : TypeId) (cs : List Nat) (n x : Nat) (hd : Dg cs) (hn : cs.length = n) (hn2 : n ≤ 1000) (hx : val cs = x) : Arg (w.alloc (.cells (U cs).toArray t)) (some ⟨w.heap.size, 0, none⟩) n n x := by
  have := (Own.made w t (U cs)).nr hd
  rw [hn] at this
  exact ⟨cs, this, Nat.le_refl _, by unfold maxLen; omega, hx⟩
theorem Res.zero_n {w : World} {A : Option Addr} {n : Nat} (h : Res w A n 0) : n = 0 := by
  rcases Nat.eq_zero_or_pos n with e | e
  · exact e
  · exact (h.pos_len (by omega) rfl).elim
theorem len_as {A : Option Addr} {n c x : Nat} {w : World} (k : Nat) (h : Arg w A n c x) (hs : n ≤ 2000000) (hk : blen x = k) :
    Calls Tryz.prog 116 #[.slice A n c] w fun e w' => e = .returned (.int .i64 (k : Int)) ∧ w = w' := by
  have := len_any h hs
  rwa [hk] at this
theorem zeros_as {A : Option Addr} {n c x : Nat} {w : World} (k : Nat) (h : Arg w A n c x) (h4 : n ≤ 1000000) (hT : Tab w) (hk : Ctz x k) :
    Calls Tryz.prog 130 #[.slice A n c] w fun e w' => e = .returned (.int .i64 (k : Int)) ∧ w = w' := by
  refine (zeros_any h h4 hT).mono ?_
  rintro e w' ⟨z, rfl, _, hz, _, rfl⟩
  rw [(hz hk.1).unique hk]
  exact ⟨rfl, rfl⟩
theorem cmp_as {A1 A2 : Option Addr} {n1 c1 n2 c2 x y : Nat} {w : World} (k : Int) (h1 : Arg w A1 n1 c1 x) (h2 : Arg w A2 n2 c2 y) (s1 : n1 ≤ 2000000) (s2 : n2 ≤ 2000000) (hk : cmpI x y = k) :
    Calls Tryz.prog 83 #[.slice A1 n1 c1, .slice A2 n2 c2] w fun e w' => e = .returned (.int .i64 k) ∧ Below w.heap.size w w' := by
  refine (cmp_any h1 h2 s1 s2).mono ?_
  rintro e w' ⟨d, rfl, hw⟩
  rw [hk]
  exact ⟨rfl, (cmp_world hw).1⟩

end Go.Proofs.YtpachoeignpcbaaGreatDoor

namespace Go.Proofs.YtpachoeignpcbaaGreatDoor
open Go.RowKit
set_option linter.unusedVariables false

theorem Arg.blen {w : World} {A : Option Addr} {n c x : Nat} (h : Arg w A n c x) : blen x ≤ 32 * n := by
  obtain ⟨xs, h1, h2, h3, h4⟩ := h
  rw [blen_le, ← pw_two, ← h4, ← h1.len]
  exact val_lt xs h1.2
theorem blen_self (x : Nat) : x < 2 ^ blen x := (blen_le x (blen x)).1 (Nat.le_refl _)
theorem blen_mul (x y : Nat) : blen (x * y) ≤ blen x + blen y := by
  rw [blen_le, Nat.pow_add]
  exact Nat.mul_lt_mul'' (blen_self x) (blen_self y)
theorem blen_add (x y : Nat) : blen (x + y) ≤ blen x + blen y + 1 := by
  rw [blen_le, Nat.pow_succ]
  have h1 : x < 2 ^ (blen x + blen y) := Nat.lt_of_lt_of_le (blen_self x) (Nat.pow_le_pow_right (by omega) (by omega))
  have h2 : y < 2 ^ (blen x + blen y) := Nat.lt_of_lt_of_le (blen_self y) (Nat.pow_le_pow_right (by omega) (by omega))
  omega
theorem Arg.n_le {w : World} {A : Option Addr} {n c x : Nat} (h : Arg w A n c x) : n ≤ 9223372036854775807 := by
  obtain ⟨xs, h1, h2, h3, h4⟩ := h
  unfold maxLen at h3
  omega

end Go.Proofs.YtpachoeignpcbaaGreatDoor

namespace Go.Proofs.YtpachoeignpcbaaGreatDoor
open Go.RowKit
set_option linter.unusedVariables false

theorem rleft_fit {A : Option Addr} {n c x : Nat} {w : World} (h : BR w A n c x) (hn : n ≤ 1000000) (i : Nat) (hi : i ≤ 1000000) :
    Calls Tryz.prog 98 #[.slice A n c, .int .i64 i] w (BitsPost w (x * 2 ^ i)) := by
  by_cases hx : x = 0
  · subst hx
    rw [Nat.zero_mul]
    exact rleft_none h i
  · exact rleft_any h hx hn i hi

def RRightPost (w : World) (x k : Nat) (e : Ending) (w' : World) : Prop :=
  ∃ A n c, e = .returned (.tuple #[.slice A n c, .bool (decide (x % 2 ^ k ≠ 0))]) ∧ BR w A n c (x / 2 ^ k) ∧ w = w'

theorem BS.drop {w : World} {A : Option Addr} {n c k : Nat} {bs : List Bool} (h : BS w A n bs) (hc : n ≤ c) (hk : k ≤ n) : ∃ A', BS w A' (n - k) (bs.drop k) ∧ (c = k → A' = A) ∧ (c ≠ k → A' = A.map (·.add k)) := by
  by_cases e : c = k
  · have hl := h.len
    refine ⟨A, ?_, fun _ => rfl, fun h => (h e).elim⟩
    rw [show n - k = 0 from by omega, List.drop_of_length_le (by omega)]
    exact BS.nil_
  · refine ⟨A.map (·.add k), ?_, fun h => (e h).elim, fun _ => rfl⟩
    by_cases e2 : k = n
    · have hl := h.len
      rw [show n - k = 0 from by omega, List.drop_of_length_le (by omega)]
      exact BS.nil_
    · obtain ⟨b, off, _, rfl, _⟩ := h.look (k := k) (by omega)
      have := Sl.off (k := k) h.1
      rw [Bo_drop] at this
      rw [Option.map_some, add_at]
      refine ⟨this, fun h0 => ?_⟩
      obtain ⟨b', off', cs, f, e', hc'⟩ := h.2 (by omega)
      injection e' with e'
      injection e' with e1 e2
      subst e1
      exact ⟨b, off + k, cs, f, rfl, hc'⟩

theorem mod_ne_step (x k : Nat) (b : Bool) (hb : x / 2 ^ k % 2 = b.toNat) : decide (x % 2 ^ (k + 1) ≠ 0) = (decide (x % 2 ^ k ≠ 0) || b) := by
  rw [mod_succ, hb]
  have := Nat.two_pow_pos k
  cases b
  · simp
  · simp
    try omega

set_option maxHeartbeats 1000000 in
theorem rright_any {A : Option Addr} {n c x : Nat} {w : World} (h : BR w A n c x) (hn : n ≤ 1000000) (i : Int) :
    Calls Tryz.prog 139 #[.slice A n c, .int .i64 i] w (RRightPost w x i.toNat) := by
  have HSZ := Lib.hid h.size
  obtain ⟨bs, hr, hc1, hc2, hbc, hv⟩ := h
  have HV := Lib.hid hv
  have HBL := Lib.hid hr.len
  clear hv
  obtain ⟨K, eK⟩ : ∃ K : Nat, min (max i 0) (n : Int) = (K : Int) := ⟨(min (max i 0) (n : Int)).toNat, by omega⟩
  have hKn : K ≤ n := by omega
  have HK := Lib.hid (show K = min i.toNat n by omega)
  have hdec : decide (x % 2 ^ K ≠ 0) = decide (x % 2 ^ i.toNat ≠ 0) ∧ x / 2 ^ K = x / 2 ^ i.toNat := by
    by_cases hle : i.toNat ≤ n
    · have : K = i.toNat := by rw [HK.out]; omega
      rw [this]
      exact ⟨rfl, rfl⟩
    · have e1 : K = n := by rw [HK.out]; omega
      have h1 : x < 2 ^ n := (blen_le x n).1 (by rw [← HSZ.out]; exact Nat.le_refl _)
      have h2 : 2 ^ n ≤ 2 ^ i.toNat := Nat.pow_le_pow_right (by omega) (by omega)
      rw [e1, Nat.mod_eq_of_lt h1, Nat.mod_eq_of_lt (show x < 2 ^ i.toNat by omega), Nat.div_eq_of_lt h1, Nat.div_eq_of_lt (show x < 2 ^ i.toNat by omega)]
      exact ⟨rfl, rfl⟩
  have HD := Lib.hid hdec
  have HE := Lib.hid eK
  clear hdec eK
  go_enter Tryz.func139, Tryz.ntmps139
  go_wp2_with fail
  rw [HE.out]
  clear HE
  go_loop [6, 7] (fun lv iv => ∃ (k : Nat) (bl : Bool), k ≤ K ∧ iv = .int .i64 k ∧ bl = decide (x % 2 ^ k ≠ 0) ∧ lv = .bool bl) (fun _ iv => K - (intOf iv).toNat)
  case atStart => exact ⟨0, false, by omega, rfl, by simp [Nat.mod_one], rfl⟩
  case round =>
    obtain ⟨k, bl, hk, rfl, hbl, rfl⟩ := hrel
    have HB := Lib.hid hbl
    clear hbl
    by_cases hlt : k < K
    · obtain ⟨bb, off, a, hA, hbb, HX, hcell⟩ := hr.look (k := k) (by omega)
      subst hA
      have B1 := Lib.hid (bval_bit bs k a HX.out)
      rw [HV.out] at B1
      cases a <;> cases bl
      all_goals
        go_wp2_with fail
        go_round
        case rel => exact ⟨k + 1, _, by omega, by go_num, by rw [mod_ne_step x k _ B1.out, ← HB.out]; rfl, rfl⟩
        case measure => simp [intOf]; omega
    · obtain rfl : k = K := by omega
      obtain ⟨A', hd, hA1, hA2⟩ := BS.drop hr hc1 hKn
      obtain ⟨l1, l2⟩ := hbc.drop k
      have HDR := Lib.hid hd
      have HL2 := Lib.hid l2
      by_cases hck : c = k
      · obtain rfl := hA1 hck
        clear hA1 hA2 hd l2
        obtain rfl : c = k := hck
        go_wp2_with fail
        go_ret2
        have hd0 := HDR.out
        rw [show n - c = 0 from by omega] at hd0
        refine ⟨A', 0, 0, ?_, ⟨_, hd0, Nat.le_refl _, by omega, l1, by rw [HL2.out, HV.out, HD.out.2]⟩, rfl⟩
        rw [← HD.out.1, ← HB.out]
        rfl
      · have HA := Lib.hid (hA2 hck)
        clear hA1 hA2 hd l2
        go_wp2_with fail
        go_ret2
        refine ⟨A', _, c - k, ?_, ⟨_, HDR.out, by omega, by omega, l1, by rw [HL2.out, HV.out, HD.out.2]⟩, rfl⟩
        rw [← HD.out.1, ← HB.out, HA.out]
        rfl

set_option maxHeartbeats 1000000 in
theorem rmul_any {A1 A2 : Option Addr} {n1 c1 n2 c2 x y : Nat} {w : World} (h1 : BR w A1 n1 c1 x) (h2 : BR w A2 n2 c2 y) (s1 : n1 ≤ 100000) (s2 : n2 ≤ 100000) :
    Calls Tryz.prog 61 #[.slice A1 n1 c1, .slice A2 n2 c2] w (BitsPost w (x * y)) := by
  have S1 := Lib.hid h1.size
  have S2 := Lib.hid h2.size
  obtain ⟨ys, r2, _, _, _, v2⟩ := h2
  have V2 := Lib.hid v2
  clear v2
  go_enter Tryz.func61, Tryz.ntmps61
  go_wp2_with fail
  go_loopw [5, 6] (fun v iv wr => ∃ (k m : Nat) (A : Option Addr) (d : Nat), k ≤ n2 ∧ iv = .int .i64 k ∧ v = .slice A m d ∧ BR wr A m d (x * (y % 2 ^ k)) ∧ Below w.heap.size w wr) (fun _ iv _ => n2 - (intOf iv).toNat)
  case atStart =>
    refine ⟨0, 0, _, 0, by omega, rfl, rfl, ⟨[], BS.nil_, Nat.le_refl _, by unfold maxLen; omega, BC.nil, ?_⟩, (Below.refl _ _).alloc (Nat.le_refl _) _⟩
    simp [bval, Nat.mod_one]
  case round =>
    obtain ⟨k, m, A, d, hk, rfl, rfl, hbr, hb⟩ := hrel
    have hm : m ≤ 400000 := by
      have h1 := hbr.size
      have h2 := blen_mul x (y % 2 ^ k)
      have h3 : blen (y % 2 ^ k) ≤ blen y := (blen_le _ _).2 (Nat.lt_of_le_of_lt (Nat.mod_le _ _) (blen_self y))
      have h4 := S1.out
      have h5 := S2.out
      omega
    by_cases hlt : k < n2
    · obtain ⟨bb, off, b, hA, hbb, HX, hcell⟩ := (r2.on hb).look hlt
      subst hA
      have B1 := Lib.hid (bval_bit ys k b HX.out)
      rw [V2.out] at B1
      have HM := Lib.hid (bmul_step x y k b B1.out _ rfl)
      cases b
      · have HR := Lib.hid hbr
        clear hbr
        go_wp2_with fail
        go_roundw
        case rel =>
          have := HM.out
          simp only [Bool.false_eq_true, if_false] at this
          exact ⟨k + 1, m, A, d, by omega, by go_num, rfl, by rw [← this]; exact HR.out, hb⟩
        case measure => simp [intOf]; omega
      · go_wp2_with fail
        refine (rleft_fit (h1.on hb) (by omega) k (by omega)).mono ?_
        rintro e w1 ⟨A3, n3, c3, rfl, r3, b3⟩
        have hbr := hbr.on b3
        have hn3 : n3 ≤ 400000 := by
          have h1 := r3.size
          have h2 := blen_mul x (2 ^ k)
          have h3 : blen (2 ^ k) ≤ k + 1 := (blen_le _ _).2 (Nat.pow_lt_pow_right (by omega) (by omega))
          have h4 := S1.out
          omega
        go_wp2_with fail
        refine (radd_any hbr r3 (by omega) (by omega)).mono ?_
        rintro e w2 ⟨A4, n4, c4, rfl, r4, b4⟩
        have HR := Lib.hid r4
        have hbn := Below.step hb (Below.step b3 b4)
        clear hbr r3 b3 b4 r4
        go_wp2_with fail
        go_roundw
        case rel =>
          have := HM.out
          simp only [if_true] at this
          exact ⟨k + 1, n4, A4, c4, by omega, by go_num, rfl, by rw [← this]; exact HR.out, hbn⟩
        case measure => simp [intOf]; omega
    · obtain rfl : k = n2 := by omega
      have HR := Lib.hid hbr
      clear hbr
      go_wp2_with fail
      go_ret
      refine ⟨A, m, d, rfl, ?_, hb⟩
      have h1 : y < 2 ^ k := (blen_le y k).1 (by rw [← S2.out]; exact Nat.le_refl _)
      have := HR.out
      rwa [Nat.mod_eq_of_lt h1] at this
end Go.Proofs.YtpachoeignpcbaaGreatDoor

namespace Go.Proofs.YtpachoeignpcbaaGreatDoor
open Go.RowKit
set_option linter.unusedVariables false

theorem right_as (k : Nat) {A : Option Addr} {n c x : Nat} {w : World} (h : Arg w A n c x) (hs : n ≤ 1000000) (hk : k ≤ 1000000) (hT : Tab w) :
    Calls Tryz.prog 131 #[.slice A n c, .int .i64 (k : Int)] w (RightPost w x k n) := by
  have := right_any h hs (k : Int) (by omega) hT
  rwa [Int.toNat_natCast] at this

end Go.Proofs.YtpachoeignpcbaaGreatDoor

namespace Go.Proofs.YtpachoeignpcbaaGreatDoor
open Go.RowKit
set_option linter.unusedVariables false

theorem left_fit {A : Option Addr} {n c x : Nat} {w : World} (h : Arg w A n c x) (hs : n ≤ 1000000) (i : Nat) (hfit : blen x + i ≤ 16384) :
    Calls Tryz.prog 107 #[.slice A n c, .int .i64 (i : Int)] w (NatOk w (x * 2 ^ i) (n + i / 32 + 1)) := by
  by_cases hx : x = 0
  · subst hx
    refine (left_none h (i : Int) (by omega)).mono ?_
    rintro e w' ⟨A', m, rfl, hr, hm, hb⟩
    exact ⟨A', m, rfl, by rw [Nat.zero_mul]; exact hr, by omega, hb⟩
  · exact left_any h hs hx i hfit
theorem bit_top {x : Nat} (hx : x ≠ 0) : x / 2 ^ (blen x - 1) % 2 = 1 := by
  obtain ⟨h1, h2⟩ := blen_pos hx
  have h3 := blen_self x
  obtain ⟨m, hm⟩ : ∃ m, blen x = m + 1 := ⟨blen x - 1, by omega⟩
  rw [hm] at h1 h3 ⊢
  simp only [Nat.add_sub_cancel] at h1 ⊢
  have h4 : x / 2 ^ m = 1 := by
    rw [Nat.div_eq_iff (Nat.two_pow_pos m)]
    rw [Nat.pow_succ] at h3
    omega
  rw [h4]
theorem Ctz.bit {x k : Nat} (h : Ctz x k) : x / 2 ^ k % 2 = 1 := by
  obtain ⟨m, hm⟩ := h.2
  rw [hm, Nat.mul_div_cancel_left _ (Nat.two_pow_pos k)]
  omega
theorem blen_le_of {x y : Nat} (h : x ≤ y) : blen x ≤ blen y := (blen_le x _).2 (Nat.lt_of_le_of_lt h (blen_self y))
theorem blen_one_shift (k : Nat) : blen 1 = 1 := blen_unique (k := 0) (by omega) (by omega)

end Go.Proofs.YtpachoeignpcbaaGreatDoor

namespace Go.Proofs.YtpachoeignpcbaaGreatDoor
open Go.RowKit
set_option linter.unusedVariables false

end Go.Proofs.YtpachoeignpcbaaGreatDoor

namespace Go.Proofs.YtpachoeignpcbaaGreatDoor
open Go.RowKit
set_option linter.unusedVariables false

/-- the bit of a place of a number. -/
def bitOf (x : Nat) (i : Int) : Bool := if i < 0 then false else decide (x / 2 ^ i.toNat % 2 = 1)
theorem bitAt_of (bs : List Bool) (i : Int) : bitAt bs i = bitOf (bval bs) i := by
  unfold bitAt bitOf
  split
  · rfl
  · rw [bval_at]
    cases bs.getD i.toNat false <;> simp
theorem rbit_val {A : Option Addr} {n c x : Nat} {w : World} (h : BR w A n c x) (hn : n ≤ 1000000) (i : Int) (b : Bool) (hb : Hid (bitOf x i = b)) :
    Calls Tryz.prog 99 #[.slice A n c, .int .i64 i] w fun e w' => e = .returned (.bool b) ∧ w = w' := by
  obtain ⟨bs, h1, _, _, _, hv⟩ := h
  exact rbit_any h1 (by omega) i b (by show _ = _; rw [bitAt_of, hv]; exact hb.out)
theorem zeros_same {x a b : Nat} (h1 : x = 0 → a = 0) (h2 : x ≠ 0 → Ctz x a) (h3 : x = 0 → b = 0) (h4 : x ≠ 0 → Ctz x b) : a = b := by
  by_cases h : x = 0
  · rw [h1 h, h3 h]
  · exact (h2 h).unique (h4 h)

end Go.Proofs.YtpachoeignpcbaaGreatDoor

namespace Go.Proofs.YtpachoeignpcbaaGreatDoor
open Go.RowKit
set_option linter.unusedVariables false

def RightB (w : World) (x k n : Nat) (bl : Bool) (e : Ending) (w' : World) : Prop :=
  ∃ A m, e = .returned (.tuple #[.slice A m m, .bool bl]) ∧ Res w' A m (x / 2 ^ k) ∧ m ≤ n ∧ Below w.heap.size w w'
theorem right_bl {A : Option Addr} {n c x : Nat} {w : World} (h : Arg w A n c x) (hs : n ≤ 1000000) (i : Int) (hi2 : i ≤ 9223372036854775807) (hT : Tab w) (bl : Bool) (hb : Hid (decide (x % 2 ^ i.toNat ≠ 0) = bl)) :
    Calls Tryz.prog 131 #[.slice A n c, .int .i64 i] w (RightB w x i.toNat n bl) := by
  refine (right_any h hs i hi2 hT).mono ?_
  rintro e w' ⟨A', m, rfl, hr, hm, hb'⟩
  exact ⟨A', m, by rw [hb.out], hr, hm, hb'⟩
def RRightB (w : World) (x k : Nat) (bl : Bool) (e : Ending) (w' : World) : Prop :=
  ∃ A n c, e = .returned (.tuple #[.slice A n c, .bool bl]) ∧ BR w A n c (x / 2 ^ k) ∧ w = w'
theorem rright_bl {A : Option Addr} {n c x : Nat} {w : World} (h : BR w A n c x) (hn : n ≤ 1000000) (i : Int) (bl : Bool) (hb : Hid (decide (x % 2 ^ i.toNat ≠ 0) = bl)) :
    Calls Tryz.prog 139 #[.slice A n c, .int .i64 i] w (RRightB w x i.toNat bl) := by
  refine (rright_any h hn i).mono ?_
  rintro e w' ⟨A', m, c', rfl, hr, rfl⟩
  exact ⟨A', m, c', by rw [hb.out], hr, rfl⟩

end Go.Proofs.YtpachoeignpcbaaGreatDoor
