/-
  The walks of nat's Len, Bit, Zeros, Of, Word, Cmp.
  The walks of nat's Of, Word, Cmp.
  The walks of nat's Add and Sub.
  The walks of nat's addTimes and Mul.
  The walks of nat's Left and Right.
  The walk of the reference's Same.
-/
import Derived.Test.YtpachoeignpcbaaGreatDoorNA
import Derived.Deep.QuietTactic
import Derived.BigQuiet
import Derived.Test.YtpachoeignpcbaaGreatDoorMA
namespace Go.Proofs.YtpachoeignpcbaaGreatDoor
open Go.RowKit
set_option linter.unusedVariables false

theorem len_any {A : Option Addr} {n c x : Nat} {w : World} (h : Arg w A n c x) (hs : n ≤ 2000000) :
    Calls Tryz.prog 116 #[.slice A n c] w fun e w' => e = .returned (.int .i64 (blen x : Nat)) ∧ w = w' := by
  go_enter Tryz.func116, Tryz.ntmps116
  go_wp2_with fail
  refine (cutN h).mono ?_
  rintro e w' ⟨m, rfl, ⟨xs, hr, hcn, hv⟩, hm, rfl⟩
  have HL := Lib.hid hr.len
  have HV := Lib.hid hv
  clear hv
  by_cases h0 : m = 0
  · subst h0
    have hx : x = 0 := by
      rw [← HV.out, List.eq_nil_of_length_eq_zero HL.out]; rfl
    subst hx
    go_wp2_with fail
    go_ret
    exact ⟨rfl, rfl⟩
  · obtain ⟨b, off, t, rfl, hb, HX, hlt, hcell⟩ := hr.look (k := m - 1) (by omega)
    have hz : ((m : Int) == 0) = false := by simp; omega
    have hbl : blen x = (m - 1) * 32 + blen t := by
      have h1 := blen_val hcn (by rw [HL.out]; omega)
      rw [HV.out, HL.out, HX.out] at h1
      exact h1
    have HB := Lib.hid hbl
    have ht := (blen_le t 32).2 (by omega)
    clear hbl
    have H32 := Lib.hid (len32_any t w hlt)
    rw [bitLen_blen t (by omega)] at H32
    go_wp2_with (go_at_call 135; refine (H32.out).mono ?_; rintro e w' ⟨rfl, rfl⟩)
    go_ret
    exact ⟨ret_int (by rw [HB.out]; omega), rfl⟩

theorem part_as {A : Option Addr} {n c B : Nat} {xs : List Nat} {w : World} (h : NR w B A n xs) (hnc : n ≤ c) (hc : c ≤ maxLen) (p : Nat) (i : Int) (hi : 0 ≤ i) (hp : Hid (xs.getD i.toNat 0 = p)) :
    Calls Tryz.prog 111 #[.slice A n c, .int .i64 i] w fun e w' => e = .returned (.int .u32 (p : Int)) ∧ w = w' := by
  have := part_any A n c B xs w h hnc hc i hi
  rw [hp.out] at this
  exact this

theorem bit_key (p r : Nat) (hp : p < 4294967296) : wrap64 (bits BinOp.and IntKind.u32 ((p : Int) / 2 ^ r) 1) = ((p / 2 ^ r % 2 : Nat) : Int) := by
  have e1 : ((p : Int) / 2 ^ r) = ((p / 2 ^ r : Nat) : Int) := by simp
  have h1 : p / 2 ^ r ≤ p := Nat.div_le_self _ _
  rw [e1, show (1 : Int) = ((1 : Nat) : Int) from rfl, and_u32 _ 1 (by omega) (by omega), Nat.and_one_is_mod]
  exact IntWalk.wrap64_in _ ⟨by omega, by omega⟩
theorem bit_val (xs : List Nat) (h : Dg xs) (k p : Nat) (hp : xs.getD (k / 32) 0 = p) : val xs / 2 ^ k % 2 = p / 2 ^ (k % 32) % 2 := by
  have e1 : 2 ^ k = 4294967296 ^ (k / 32) * 2 ^ (k % 32) := by
    rw [pw_two, ← Nat.pow_add]; congr 1; omega
  rw [e1, ← Nat.div_div_eq_div_mul, ← hp, ← val_at xs h (k / 32)]
  generalize val xs / 4294967296 ^ (k / 32) = y
  have hr : k % 32 < 32 := Nat.mod_lt _ (by omega)
  generalize k % 32 = r at *
  obtain ⟨d, hd⟩ : ∃ d, 32 = r + (d + 1) := ⟨32 - r - 1, by omega⟩
  have e3 : (4294967296 : Nat) = 2 ^ r * (2 * 2 ^ d) := by rw [Nat.mul_comm 2, ← Nat.pow_succ, ← Nat.pow_add, ← hd]
  rw [e3, Nat.mod_mul_right_div_self, Nat.mod_mul_right_mod]

/-- the lowest bits 0 of a number, by what Zeros tells. -/
def ZerosPost (w : World) (x : Nat) (e : Ending) (w' : World) : Prop := ∃ z : Nat, e = .returned (.int .i64 (z : Int)) ∧ (x = 0 → z = 0) ∧ (x ≠ 0 → Ctz x z) ∧ z ≤ 40000000 ∧ w = w'
set_option maxHeartbeats 400000 in
theorem zeros_any {A : Option Addr} {n c x : Nat} {w : World} (h : Arg w A n c x) (h4 : n ≤ 1000000) (hT : Tab w) :
    Calls Tryz.prog 130 #[.slice A n c] w (ZerosPost w x) := by
  obtain ⟨xs, hr, h2, h3, h5⟩ := h
  have HV := Lib.hid h5
  have HL := Lib.hid hr.len
  clear h5
  unfold maxLen at h3
  go_enter Tryz.func130, Tryz.ntmps130
  go_wp2_with fail
  go_loop [7] (fun i => ∃ k : Nat, k ≤ n ∧ (∀ j, j < k → xs.getD j 0 = 0) ∧ i = .int .i64 k) (fun i => n - (intOf i).toNat)
  case atStart => exact ⟨0, Nat.zero_le _, fun j hj => by omega, rfl⟩
  case round =>
    obtain ⟨k, hk, hz, rfl⟩ := hrel
    have HZ := Lib.hid hz
    clear hz
    by_cases hlt : k < n
    · obtain ⟨b, off, t, rfl, hb, HX, hl, hcell⟩ := hr.look hlt
      by_cases ht : t = 0
      · subst ht
        go_wp2_with fail
        go_round
        case rel =>
          refine ⟨k + 1, by omega, fun j hj => ?_, by go_num⟩
          by_cases e : j = k
          · rw [e]; exact HX.out
          · exact HZ.out j (by omega)
        case measure => simp [intOf]; omega
      · have hne : ((t : Int) != 0) = true := by rw [bne_iff_ne]; omega
        have HC := Lib.hid (tz32_any t hl ht w hT)
        obtain ⟨_, hc32⟩ := Lib.lowest_bit 32 t ht hl
        have HK := Lib.hid (ctz_val hr.2 k (Lib.ctz 32 t) HZ.out (by rw [HX.out]; exact ctz32 t hl ht) hc32)
        generalize Lib.ctz 32 t = z at *
        go_wp2_with (go_at_call 140; refine (HC.out).mono ?_; rintro e w' ⟨rfl, rfl⟩)
        go_ret
        refine ⟨k * 32 + z, ret_int (by omega), fun e => ?_, fun _ => by rw [← HV.out]; exact HK.out, by omega, rfl⟩
        have := HK.out.1
        rw [HV.out] at this
        exact (this e).elim
    · go_wp2_with fail
      go_ret
      refine ⟨0, rfl, fun _ => rfl, fun e => ?_, by omega, rfl⟩
      refine (e ?_).elim
      rw [← HV.out]
      refine val_eq_zero xs (fun j => ?_)
      by_cases hj : j < k
      · exact HZ.out j hj
      · exact getD_ge HL.out (by omega)
end Go.Proofs.YtpachoeignpcbaaGreatDoor

namespace Go.Proofs.YtpachoeignpcbaaGreatDoor
open Go.RowKit
set_option linter.unusedVariables false

theorem U_two (a b : Nat) : #[Value.int .u32 (a : Int), Value.int .u32 (b : Int)] = (U [a, b]).toArray := rfl

set_option maxHeartbeats 400000 in
theorem of_any (n : Nat) (hn : n < 18446744073709551616) (w : World) :
    Calls Tryz.prog 88 #[.int .u64 n] w (NatPost w n 2) := by
  have e1 : ((n % 4294967296 : Nat) : Int) = (n : Int) % 4294967296 := by omega
  have e2 : ((n / 4294967296 : Nat) : Int) = (n : Int) / 4294967296 := by omega
  have ha : Arg (w.alloc (.cells #[.int .u32 ((n : Int) % 4294967296), .int .u32 ((n : Int) / 4294967296)] 144)) (some ⟨w.heap.size, 0, none⟩) 2 2 n := by
    rw [← e1, ← e2, U_two]
    refine ⟨[n % 4294967296, n / 4294967296], (Own.made w _ _).nr (Dg.mk (by omega) (Dg.mk (by omega) Dg.nil)), by omega, by unfold maxLen; omega, ?_⟩
    simp only [val]
    omega
  have HA := Lib.hid ha
  clear ha e1 e2
  go_enter Tryz.func88, Tryz.ntmps88
  go_wp2_with fail
  refine (cutN HA.out).mono ?_
  rintro e w' ⟨m, rfl, hr, hm, rfl⟩
  go_wp2_with fail
  go_ret
  exact ⟨_, m, rfl, hr, hm, (Below.refl _ _).alloc (Nat.le_refl _) _⟩

theorem or_u64 (a b : Nat) (ha : a < 18446744073709551616) (hb : b < 18446744073709551616) : bits .or .u64 (a : Int) (b : Int) = ((a ||| b : Nat) : Int) := by
  have hx : a ||| b < 2 ^ 64 := Nat.or_lt_two_pow (by omega) (by omega)
  have h1 : ∀ a : Nat, a < 18446744073709551616 → (BitVec.ofInt 64 (a : Int)).toNat = a := fun a ha => by
    rw [BitVec.ofInt_natCast, BitVec.toNat_ofNat]; exact Nat.mod_eq_of_lt (by omega)
  show IntKind.u64.wrap ((BitVec.ofInt 64 (a : Int) ||| BitVec.ofInt 64 (b : Int)).toNat : Int) = _
  rw [BitVec.toNat_or, h1 a ha, h1 b hb, IntKind.wrap_u64]
  omega
theorem or_add (a b : Nat) (hb : b < 4294967296) : a * 4294967296 ||| b = a * 4294967296 + b := by
  have := Nat.two_pow_add_eq_or_of_lt (i := 32) (b := b) (by omega) a
  rw [Nat.mul_comm]; exact this.symm
theorem word_key (a b : Nat) (ha : a < 4294967296) (hb : b < 4294967296) : bits BinOp.or IntKind.u64 ((a : Int) * 4294967296) (b : Int) = ((a * 4294967296 + b : Nat) : Int) := by
  have e : (a : Int) * 4294967296 = ((a * 4294967296 : Nat) : Int) := by omega
  rw [e, or_u64 _ b (by omega) (by omega), or_add a b hb]
theorem val_two (xs : List Nat) (h : Dg xs) (hv : val xs < 18446744073709551616) : val xs = xs.getD 1 0 * 4294967296 + xs.getD 0 0 := by
  have h0 := val_at xs h 0
  have h1 := val_at xs h 1
  rw [Nat.pow_zero, Nat.div_one] at h0
  rw [Nat.pow_one] at h1
  omega

set_option maxHeartbeats 400000 in
theorem word_any {A : Option Addr} {n c x : Nat} {w : World} (h : Arg w A n c x) (hs : n ≤ 2000000) (hx : x < 18446744073709551616) :
    Calls Tryz.prog 124 #[.slice A n c] w fun e w' => e = .returned (.tuple #[.int .u64 x, .int .i64 0]) ∧ w = w' := by
  have hl := (blen_le x 64).2 (by omega)
  obtain ⟨xs, hr, h2, h3, h5⟩ := id h
  have HV := Lib.hid (val_two xs hr.2 (by rw [h5]; exact hx))
  have H5 := Lib.hid h5
  clear h5
  have p1 := hr.2.getD 1
  have p0 := hr.2.getD 0
  have HK := Lib.hid (word_key _ _ p1 p0)
  obtain ⟨a, ea⟩ : ∃ a, xs.getD 1 0 = a := ⟨_, rfl⟩
  obtain ⟨b, eb⟩ : ∃ b, xs.getD 0 0 = b := ⟨_, rfl⟩
  rw [ea, eb] at HV HK
  rw [ea] at p1
  rw [eb] at p0
  have HA := Lib.hid ea
  have HB := Lib.hid eb
  clear ea eb
  have HL := Lib.hid (len_any h hs)
  generalize blen x = l at *
  go_enter Tryz.func124, Tryz.ntmps124
  go_wp2_with fail
  refine (HL.out).mono ?_
  rintro e w' ⟨rfl, rfl⟩
  go_wp2_with fail
  refine (part_as hr h2 h3 a 1 (by omega) HA).mono ?_
  rintro e w' ⟨rfl, rfl⟩
  go_wp2_with fail
  refine (part_as hr h2 h3 b 0 (by omega) HB).mono ?_
  rintro e w' ⟨rfl, rfl⟩
  go_wp2_with fail
  go_ret2
  refine ⟨ret2_int ?_ rfl, rfl⟩
  rw [← H5.out, HV.out]
  exact HK.out
theorem word_over {A : Option Addr} {n c x : Nat} {w : World} (h : Arg w A n c x) (hs : n ≤ 2000000) (hx : 18446744073709551616 ≤ x) :
    Calls Tryz.prog 124 #[.slice A n c] w fun e w' => e = .returned (.tuple #[.int .u64 0, .int .i64 6]) ∧ w = w' := by
  have hl : 64 < blen x := by
    rcases Nat.lt_or_ge 64 (blen x) with h1 | h1
    · exact h1
    · have := (blen_le x 64).1 h1
      omega
  have HL := Lib.hid (len_any h hs)
  generalize blen x = l at *
  go_enter Tryz.func124, Tryz.ntmps124
  go_wp2_with fail
  refine (HL.out).mono ?_
  rintro e w' ⟨rfl, rfl⟩
  go_wp2_with fail
  go_ret2
  exact ⟨rfl, rfl⟩

theorem quiet_at {P : Program} {f : FuncId} {args : Array Value} {W W0 : World} {v : Value} (h : Calls P f args W fun e w' => e = .returned v ∧ W = w') (hW : ∃ n, W = W0.drewN n) :
    Calls P f args W fun e w'' => e = .returned v ∧ ∃ m, w'' = W0.drewN m :=
  h.mono fun _ _ ⟨he, hw⟩ => ⟨he, by subst hw; exact hW⟩
def CmpPost (w : World) (x y : Nat) (e : Ending) (w' : World) : Prop := ∃ d : Nat, e = .returned (.int .i64 (cmpI x y)) ∧ w' = w.drewN d
theorem cmpI_of_lt {x y : Nat} (h : x < y) : cmpI x y = -1 := by unfold cmpI; rw [if_pos (by omega)]
theorem cmpI_of_gt {x y : Nat} (h : y < x) : cmpI x y = 1 := by unfold cmpI; rw [if_neg (by omega), if_pos (by omega)]
theorem cmpI_of_eq {x y : Nat} (h : x = y) : cmpI x y = 0 := by unfold cmpI; rw [if_neg (by omega), if_neg (by omega)]
theorem cmp_len {xs ys : List Nat} (hx : Canon xs) (hy : Canon ys) (h : xs.length ≠ ys.length) : cmpI (xs.length : Int) (ys.length : Int) = cmpI (val xs : Int) (val ys : Int) := by
  rcases Nat.lt_or_ge xs.length ys.length with h1 | h1
  · rw [cmpI_of_lt h1, cmpI_of_lt (Canon.shorter hx.1 hy h1)]
  · have h2 : ys.length < xs.length := by omega
    rw [cmpI_of_gt h2, cmpI_of_gt (Canon.shorter hy.1 hx h2)]
theorem val_congr : ∀ xs ys : List Nat, xs.length = ys.length → (∀ j, xs.getD j 0 = ys.getD j 0) → val xs = val ys
  | [], [], _, _ => rfl
  | [], y :: ys, h, _ => by simp at h
  | x :: xs, [], h, _ => by simp at h
  | x :: xs, y :: ys, h, hj => by
    have h0 : x = y := hj 0
    have h1 := val_congr xs ys (by simpa using h) (fun j => hj (j + 1))
    simp [val, h0, h1]
theorem drop_congr {xs ys : List Nat} (h : xs.length = ys.length) {k : Nat} (hj : ∀ j, k ≤ j → xs.getD j 0 = ys.getD j 0) : val (xs.drop k) = val (ys.drop k) :=
  val_congr _ _ (by rw [List.length_drop, List.length_drop, h]) (fun j => by rw [getD_drop, getD_drop]; exact hj _ (by omega))
theorem cmp_top {xs ys : List Nat} (hx : Dg xs) (hy : Dg ys) (h : xs.length = ys.length) {k : Nat} (hk : k < xs.length) (hj : ∀ j, k + 1 ≤ j → xs.getD j 0 = ys.getD j 0) (hne : xs.getD k 0 ≠ ys.getD k 0) :
    cmpI (xs.getD k 0 : Nat) (ys.getD k 0 : Nat) = cmpI (val xs : Nat) (val ys : Nat) := by
  have he := drop_congr h hj
  rcases Nat.lt_or_ge (xs.getD k 0) (ys.getD k 0) with h1 | h1
  · rw [cmpI_of_lt h1, cmpI_of_lt (top_less hx hy k he hk (by omega) h1)]
  · have h2 : ys.getD k 0 < xs.getD k 0 := by omega
    rw [cmpI_of_gt h2, cmpI_of_gt (top_less hy hx k he.symm (by omega) hk h2)]

set_option maxHeartbeats 400000 in
theorem cmp_any {A1 A2 : Option Addr} {n1 c1 n2 c2 x y : Nat} {w : World} (h1 : Arg w A1 n1 c1 x) (h2 : Arg w A2 n2 c2 y) (s1 : n1 ≤ 2000000) (s2 : n2 ≤ 2000000) :
    Calls Tryz.prog 83 #[.slice A1 n1 c1, .slice A2 n2 c2] w (CmpPost w x y) := by
  go_enter Tryz.func83, Tryz.ntmps83
  go_wp2_with fail
  refine (bothN h1 h2).mono ?_
  rintro e w' ⟨m1, m2, rfl, ⟨xs, r1, k1, v1⟩, ⟨ys, r2, k2, v2⟩, hm1, hm2, rfl⟩
  have V1 := Lib.hid v1
  have V2 := Lib.hid v2
  have L1 := Lib.hid r1.len
  have L2 := Lib.hid r2.len
  clear v1 v2 h1 h2
  by_cases hne : m1 = m2
  · subst hne
    go_wp2_with fail
    go_loopw [5] (fun i wr => ∃ k d : Nat, k ≤ m1 ∧ (∀ j, k ≤ j → xs.getD j 0 = ys.getD j 0) ∧ i = .int .i64 ((k : Int) - 1) ∧ wr = w.drewN d) (fun i _ => (intOf i + 1).toNat)
    case atStart => exact ⟨m1, 0, Nat.le_refl _, fun j hj => by rw [getD_ge L1.out hj, getD_ge L2.out hj], rfl, rfl⟩
    case round =>
      obtain ⟨k, d, hk, hz, rfl, rfl⟩ := hrel
      have HZ := Lib.hid hz
      clear hz
      by_cases h0 : k = 0
      · subst h0
        go_wp2_with fail
        go_ret
        refine ⟨d, ?_, rfl⟩
        rw [← V1.out, ← V2.out, cmpI_of_eq (val_congr xs ys (by rw [L1.out, L2.out]) (fun j => HZ.out j (Nat.zero_le _)))]
        rfl
      · obtain ⟨q, rfl⟩ : ∃ q, k = q + 1 := ⟨k - 1, by omega⟩
        clear h0
        obtain ⟨b1, o1, t1, rfl, hb1, X1, l1, cell1⟩ := r1.look (k := q) (by omega)
        obtain ⟨b2, o2, t2, rfl, hb2, X2, l2, cell2⟩ := r2.look (k := q) (by omega)
        have e0 : ((q + 1 : Nat) : Int) - 1 = (q : Int) := by omega
        rw [e0]
        clear e0
        by_cases ht : t1 = t2
        · subst ht
          go_wp2_with fail
          go_quiet (fail)
          go_wp2_with fail
          go_roundw
          case rel =>
            refine ⟨q, _, by omega, fun j hj => ?_, rfl, rfl⟩
            by_cases e : j = q
            · rw [e, X1.out, X2.out]
            · exact HZ.out j (by omega)
          case measure => simp [intOf]
        · have hn : ((t1 : Int) != (t2 : Int)) = true := by rw [bne_iff_ne]; omega
          go_wp2_with fail
          go_quiet (fail)
          go_wp2_with fail
          have cw1 : ((w.drewN d).drewN nq).cell? ⟨b1, o1 + q, none⟩ = some (.int .u32 (t1 : Int)) := cell1
          have cw2 : ((w.drewN d).drewN nq).cell? ⟨b2, o2 + q, none⟩ = some (.int .u32 (t2 : Int)) := cell2
          have hWW : ∃ m, (w.drewN d).drewN nq = w.drewN m := ⟨_, by rw [World.drewN_drewN]⟩
          have HWW := Lib.hid hWW
          clear hWW
          generalize (w.drewN d).drewN nq = W at *
          go_quiet ((go_at_call 114; exact quiet_at (cmpU32_any _ _ _) ⟨_, rfl⟩))
          go_wp2_with fail
          go_ret
          obtain ⟨m, hm⟩ := HWW.out
          refine ⟨m + nq, ?_, by rw [hm, World.drewN_drewN]⟩
          have := cmp_top r1.2 r2.2 (by rw [L1.out, L2.out]) (by rw [L1.out]; omega) HZ.out (by rw [X1.out, X2.out]; exact ht)
          rw [X1.out, X2.out, V1.out, V2.out] at this
          rw [← this]
          rfl
  · have hd : ((m1 : Int) != (m2 : Int)) = true := by rw [bne_iff_ne]; omega
    go_wp2_with (go_at_call 113; refine (cmpInt_any _ _ _).mono ?_; rintro e w' ⟨rfl, rfl⟩)
    go_ret
    refine ⟨0, ?_, rfl⟩
    rw [← V1.out, ← V2.out, ← cmp_len k1 k2 (by rw [L1.out, L2.out]; exact hne), L1.out, L2.out]
    rfl
end Go.Proofs.YtpachoeignpcbaaGreatDoor

namespace Go.Proofs.YtpachoeignpcbaaGreatDoor
open Go.RowKit
set_option linter.unusedVariables false

set_option maxHeartbeats 1000000 in
theorem add_any {A1 A2 : Option Addr} {n1 c1 n2 c2 x y : Nat} {w : World} (h1 : Arg w A1 n1 c1 x) (h2 : Arg w A2 n2 c2 y) (s1 : n1 ≤ 1000000) (s2 : n2 ≤ 1000000) :
    Calls Tryz.prog 81 #[.slice A1 n1 c1, .slice A2 n2 c2] w (NatPost w (x + y) (n1 + n2 + 1)) := by
  go_enter Tryz.func81, Tryz.ntmps81
  go_wp2_with fail
  refine (bothN h1 h2).mono ?_
  rintro e w' ⟨m1, m2, rfl, ⟨xs, r1, k1, v1⟩, ⟨ys, r2, k2, v2⟩, hm1, hm2, rfl⟩
  have V1 := Lib.hid v1
  have V2 := Lib.hid v2
  have L1 := Lib.hid r1.len
  have L2 := Lib.hid r2.len
  clear v1 v2 h1 h2
  by_cases hsw : m1 < m2
  · skip
    go_wp2_with (at_make; refine wpList_zeros _ rfl _ _ 46 rfl 144 (.int .u32 0) 4 Tryz.underlying46 u32_info rfl (by omega) _ (m2 + 1) rfl rfl (by omega) (by omega) ?_; intro w1 ho hb1 hz1; rw [U_zeros] at ho)
    have hg := ho.lt
    have R1 := Lib.hid (r2.below hb1)
    have R2 := Lib.hid (r1.below hb1)
    have HO := Lib.hid ho
    clear ho r1 r2
    obtain ⟨g, eg⟩ : ∃ g, g = w.heap.size := ⟨_, rfl⟩
    rw [← eg] at HO hb1 hg R1 R2 ⊢
    have hz2 : w1.heap.size ≤ g + 1 := by omega
    have EG := Lib.hid eg
    clear eg hz1
    go_loopw [6, 28] (fun cv i wr => ∃ (k cy : Nat) (ds : List Nat), k ≤ m2 ∧ i = .int .i64 k ∧ cv = .int .u32 cy ∧ Own wr g 144 (U ds) ∧ AddInv ys xs ds m2 k cy ∧ Below g w1 wr ∧ wr.heap.size = w1.heap.size) (fun _ i _ => m2 - (intOf i).toNat)
    case atStart => exact ⟨0, 0, _, Nat.zero_le _, rfl, rfl, HO.out, AddInv.zero _ _ _, Below.refl _ _, rfl⟩
    case round =>
      obtain ⟨k, cy, ds, hk, rfl, rfl, hod, hinv, hbr, hzr⟩ := hrel
      have HOD := Lib.hid hod
      have HI := Lib.hid hinv
      have HZ := Lib.hid hzr
      have hcy := hinv.low
      clear hod hinv hzr
      by_cases hlt : k < m2
      · obtain ⟨b, off, t, hA, hbb, HX, hl, hcell⟩ := (R1.out.below hbr).look hlt
        subst hA
        obtain ⟨y, ey⟩ : ∃ y, xs.getD k 0 = y := ⟨_, rfl⟩
        have hy : y < 4294967296 := by rw [← ey]; exact R2.out.2.getD k
        have HY := Lib.hid ey
        clear ey
        have HP := Lib.hid (part_as (R2.out.below hbr) (Nat.le_refl _) (by unfold maxLen; omega) y (k : Int) (by omega) (by rw [Int.toNat_natCast]; exact HY))
        obtain ⟨s, es⟩ : ∃ s, s = (t + y + cy) % 4294967296 := ⟨_, rfl⟩
        obtain ⟨c', ec⟩ : ∃ c', c' = (t + y + cy) / 4294967296 := ⟨_, rfl⟩
        have hs : s < 4294967296 := by omega
        have HE := Lib.hid (show t + y + cy = s + 4294967296 * c' by omega)
        clear es ec
        have HS := Lib.hid (add32_any t y cy s c' hl hy hcy hs HE.out wr)
        have hold := HOD.out.cell k
        rw [U_at, List.getElem?_eq_getElem (by have := HI.out.len; omega)] at hold
        obtain ⟨ov, hov⟩ : ∃ ov, wr.cell? ⟨g, k, none⟩ = some ov := ⟨_, hold⟩
        clear hold
        have hfr := HOD.out.free k
        go_wp2_with (first
          | (go_at_call 111; refine (HP.out).mono ?_; rintro e w' ⟨rfl, rfl⟩)
          | (go_at_call 110; refine (HS.out).mono ?_; rintro e w' ⟨rfl, rfl⟩))
        go_roundw
        case rel =>
          refine ⟨k + 1, c', ds.set k s, by omega, by go_num, rfl, ?_, HI.out.step hlt HX.out HY.out hl hy hs HE.out, hbr.setCell (Nat.le_refl _) _, by simp [World.setCell, HZ.out]⟩
          rw [← U_set]
          exact HOD.out.put k _
        case measure => simp [intOf]; omega
      · obtain rfl : k = m2 := by omega
        have hold := HOD.out.cell k
        rw [U_at, List.getElem?_eq_getElem (by have := HI.out.len; omega)] at hold
        obtain ⟨ov, hov⟩ : ∃ ov, wr.cell? ⟨g, k, none⟩ = some ov := ⟨_, hold⟩
        clear hold
        have hfr := HOD.out.free k
        go_wp2_with fail
        have hf := HI.out.last L2.out (by rw [L1.out]; omega)
        have ho2 := HOD.out.put k (.int .u32 (cy : Int))
        rw [U_set] at ho2
        have ha := own_arg ho2 hf.2 (by rw [List.length_set, HI.out.len]) (by omega) (show _ = x + y by rw [hf.1, V1.out, V2.out]; omega)
        refine (cutN ha).mono ?_
        rintro e w' ⟨m, rfl, hr, hm, rfl⟩
        go_wp2_with fail
        go_ret
        exact ⟨_, m, rfl, hr, by omega, EG.out ▸ ((hb1.trans hbr).setCell (Nat.le_refl _) _)⟩
  · skip
    go_wp2_with (at_make; refine wpList_zeros _ rfl _ _ 46 rfl 144 (.int .u32 0) 4 Tryz.underlying46 u32_info rfl (by omega) _ (m1 + 1) rfl rfl (by omega) (by omega) ?_; intro w1 ho hb1 hz1; rw [U_zeros] at ho)
    have hg := ho.lt
    have R1 := Lib.hid (r1.below hb1)
    have R2 := Lib.hid (r2.below hb1)
    have HO := Lib.hid ho
    clear ho r1 r2
    obtain ⟨g, eg⟩ : ∃ g, g = w.heap.size := ⟨_, rfl⟩
    rw [← eg] at HO hb1 hg R1 R2 ⊢
    have hz2 : w1.heap.size ≤ g + 1 := by omega
    have EG := Lib.hid eg
    clear eg hz1
    go_loopw [6, 28] (fun cv i wr => ∃ (k cy : Nat) (ds : List Nat), k ≤ m1 ∧ i = .int .i64 k ∧ cv = .int .u32 cy ∧ Own wr g 144 (U ds) ∧ AddInv xs ys ds m1 k cy ∧ Below g w1 wr ∧ wr.heap.size = w1.heap.size) (fun _ i _ => m1 - (intOf i).toNat)
    case atStart => exact ⟨0, 0, _, Nat.zero_le _, rfl, rfl, HO.out, AddInv.zero _ _ _, Below.refl _ _, rfl⟩
    case round =>
      obtain ⟨k, cy, ds, hk, rfl, rfl, hod, hinv, hbr, hzr⟩ := hrel
      have HOD := Lib.hid hod
      have HI := Lib.hid hinv
      have HZ := Lib.hid hzr
      have hcy := hinv.low
      clear hod hinv hzr
      by_cases hlt : k < m1
      · obtain ⟨b, off, t, hA, hbb, HX, hl, hcell⟩ := (R1.out.below hbr).look hlt
        subst hA
        obtain ⟨y, ey⟩ : ∃ y, ys.getD k 0 = y := ⟨_, rfl⟩
        have hy : y < 4294967296 := by rw [← ey]; exact R2.out.2.getD k
        have HY := Lib.hid ey
        clear ey
        have HP := Lib.hid (part_as (R2.out.below hbr) (Nat.le_refl _) (by unfold maxLen; omega) y (k : Int) (by omega) (by rw [Int.toNat_natCast]; exact HY))
        obtain ⟨s, es⟩ : ∃ s, s = (t + y + cy) % 4294967296 := ⟨_, rfl⟩
        obtain ⟨c', ec⟩ : ∃ c', c' = (t + y + cy) / 4294967296 := ⟨_, rfl⟩
        have hs : s < 4294967296 := by omega
        have HE := Lib.hid (show t + y + cy = s + 4294967296 * c' by omega)
        clear es ec
        have HS := Lib.hid (add32_any t y cy s c' hl hy hcy hs HE.out wr)
        have hold := HOD.out.cell k
        rw [U_at, List.getElem?_eq_getElem (by have := HI.out.len; omega)] at hold
        obtain ⟨ov, hov⟩ : ∃ ov, wr.cell? ⟨g, k, none⟩ = some ov := ⟨_, hold⟩
        clear hold
        have hfr := HOD.out.free k
        go_wp2_with (first
          | (go_at_call 111; refine (HP.out).mono ?_; rintro e w' ⟨rfl, rfl⟩)
          | (go_at_call 110; refine (HS.out).mono ?_; rintro e w' ⟨rfl, rfl⟩))
        go_roundw
        case rel =>
          refine ⟨k + 1, c', ds.set k s, by omega, by go_num, rfl, ?_, HI.out.step hlt HX.out HY.out hl hy hs HE.out, hbr.setCell (Nat.le_refl _) _, by simp [World.setCell, HZ.out]⟩
          rw [← U_set]
          exact HOD.out.put k _
        case measure => simp [intOf]; omega
      · obtain rfl : k = m1 := by omega
        have hold := HOD.out.cell k
        rw [U_at, List.getElem?_eq_getElem (by have := HI.out.len; omega)] at hold
        obtain ⟨ov, hov⟩ : ∃ ov, wr.cell? ⟨g, k, none⟩ = some ov := ⟨_, hold⟩
        clear hold
        have hfr := HOD.out.free k
        go_wp2_with fail
        have hf := HI.out.last L1.out (by rw [L2.out]; omega)
        have ho2 := HOD.out.put k (.int .u32 (cy : Int))
        rw [U_set] at ho2
        have ha := own_arg ho2 hf.2 (by rw [List.length_set, HI.out.len]) (by omega) (show _ = x + y by rw [hf.1, V1.out, V2.out])
        refine (cutN ha).mono ?_
        rintro e w' ⟨m, rfl, hr, hm, rfl⟩
        go_wp2_with fail
        go_ret
        exact ⟨_, m, rfl, hr, by omega, EG.out ▸ ((hb1.trans hbr).setCell (Nat.le_refl _) _)⟩

theorem cmp_world {w w' : World} {d : Nat} (h : w' = w.drewN d) : Below w.heap.size w w' ∧ w'.heap.size = w.heap.size := by
  subst h
  exact ⟨below_drewN (Below.refl _ _) d, rfl⟩
theorem cmpI_neg {x y : Nat} (h : x < y) : cmpI x y < 0 := by rw [cmpI_of_lt h]; omega
theorem cmpI_nn {x y : Nat} (h : y ≤ x) : 0 ≤ cmpI x y := by
  rcases Nat.lt_or_ge y x with h1 | h1
  · rw [cmpI_of_gt h1]; omega
  · rw [cmpI_of_eq (by omega)]; omega

theorem sub_lt {A1 A2 : Option Addr} {n1 c1 n2 c2 x y : Nat} {w : World} (h1 : Arg w A1 n1 c1 x) (h2 : Arg w A2 n2 c2 y) (s1 : n1 ≤ 1000000) (s2 : n2 ≤ 1000000) (hlt : x < y) :
    Calls Tryz.prog 112 #[.slice A1 n1 c1, .slice A2 n2 c2] w (NatErr w 3) := by
  have hs := cmpI_neg hlt
  go_enter Tryz.func112, Tryz.ntmps112
  go_wp2_with fail
  refine (bothN h1 h2).mono ?_
  rintro e w' ⟨m1, m2, rfl, r1, r2, hm1, hm2, rfl⟩
  go_wp2_with fail
  refine (cmp_any (r1.arg (by omega)) (r2.arg (by omega)) (by omega) (by omega)).mono ?_
  rintro e w2 ⟨d, rfl, hw2⟩
  have HW := Lib.hid (cmp_world hw2)
  clear hw2
  go_wp2_with fail
  go_ret2
  exact ⟨rfl, HW.out.1⟩

set_option maxHeartbeats 1000000 in
theorem sub_any {A1 A2 : Option Addr} {n1 c1 n2 c2 x y : Nat} {w : World} (h1 : Arg w A1 n1 c1 x) (h2 : Arg w A2 n2 c2 y) (s1 : n1 ≤ 1000000) (s2 : n2 ≤ 1000000) (hle : y ≤ x) :
    Calls Tryz.prog 112 #[.slice A1 n1 c1, .slice A2 n2 c2] w (NatOk w (x - y) n1) := by
  have hs := cmpI_nn hle
  go_enter Tryz.func112, Tryz.ntmps112
  go_wp2_with fail
  refine (bothN h1 h2).mono ?_
  rintro e w' ⟨m1, m2, rfl, hr1, hr2, hm1, hm2, rfl⟩
  go_wp2_with fail
  refine (cmp_any (hr1.arg (by omega)) (hr2.arg (by omega)) (by omega) (by omega)).mono ?_
  rintro e w2 ⟨d, rfl, hw2⟩
  obtain ⟨hb2, hz2⟩ := cmp_world hw2
  obtain ⟨xs, r1, k1, v1⟩ := hr1.on hb2
  obtain ⟨ys, r2, k2, v2⟩ := hr2.on hb2
  have HW := Lib.hid hw2
  have V1 := Lib.hid v1
  have V2 := Lib.hid v2
  have L1 := Lib.hid r1.len
  have L2 := Lib.hid r2.len
  have HZ2 := Lib.hid hz2
  have HN : Hid (m2 ≤ m1) := by
    show m2 ≤ m1
    rcases Nat.lt_or_ge m1 m2 with hlt | hge
    · have := Canon.shorter k1.1 k2 (by rw [L1.out, L2.out]; exact hlt)
      rw [V1.out, V2.out] at this
      omega
    · exact hge
  clear v1 v2 h1 h2 hw2 hz2 hr1 hr2
  go_wp2_with (at_make; refine wpList_zeros _ rfl _ _ 46 rfl 144 (.int .u32 0) 4 Tryz.underlying46 u32_info rfl (by omega) _ m1 rfl rfl (by omega) (by omega) ?_; intro w1 ho hb1 hz1; rw [U_zeros] at ho)
  have hg := ho.lt
  have R1 := Lib.hid (r1.below hb1)
  have R2 := Lib.hid (r2.below hb1)
  have HO := Lib.hid ho
  clear ho r1 r2
  obtain ⟨g, eg⟩ : ∃ g, g = w2.heap.size := ⟨_, rfl⟩
  rw [← eg] at HO hb1 hg R1 R2 ⊢
  have EG := Lib.hid eg
  clear eg hz1
  go_loopw [7, 25] (fun cv i wr => ∃ (k bw : Nat) (ds : List Nat), k ≤ m1 ∧ i = .int .i64 k ∧ cv = .int .u32 bw ∧ Own wr g 144 (U ds) ∧ SubInv xs ys ds m1 k bw ∧ Below g w1 wr) (fun _ i _ => m1 - (intOf i).toNat)
  case atStart => exact ⟨0, 0, _, Nat.zero_le _, rfl, rfl, HO.out, SubInv.zero _ _ _, Below.refl _ _⟩
  case round =>
    obtain ⟨k, bw, ds, hk, rfl, rfl, hod, hinv, hbr⟩ := hrel
    have HOD := Lib.hid hod
    have HI := Lib.hid hinv
    have hbw := hinv.low
    clear hod hinv
    by_cases hlt : k < m1
    · obtain ⟨b, off, t, hA, hbb, HX, hl, hcell⟩ := (R1.out.below hbr).look hlt
      subst hA
      obtain ⟨y', ey⟩ : ∃ y', ys.getD k 0 = y' := ⟨_, rfl⟩
      have hy : y' < 4294967296 := by rw [← ey]; exact R2.out.2.getD k
      have HY := Lib.hid ey
      clear ey
      have HP := Lib.hid (part_as (R2.out.below hbr) (Nat.le_refl _) (by unfold maxLen; omega) y' (k : Int) (by omega) (by rw [Int.toNat_natCast]; exact HY))
      obtain ⟨d', b', hd', hb', HE⟩ : ∃ d' b' : Nat, d' < 4294967296 ∧ b' < 2 ∧ Hid (t + 4294967296 * b' = y' + bw + d') := by
        rcases Nat.lt_or_ge t (y' + bw) with q | q
        · exact ⟨t + 4294967296 - (y' + bw), 1, by omega, by omega, by show _ = _; omega⟩
        · exact ⟨t - (y' + bw), 0, by omega, by omega, by show _ = _; omega⟩
      have HS := Lib.hid (sub32_any t y' bw d' b' hl hy hbw hd' hb' HE.out wr)
      have hold := HOD.out.cell k
      rw [U_at, List.getElem?_eq_getElem (by have := HI.out.len; omega)] at hold
      obtain ⟨ov, hov⟩ : ∃ ov, wr.cell? ⟨g, k, none⟩ = some ov := ⟨_, hold⟩
      clear hold
      have hfr := HOD.out.free k
      go_wp2_with (first
        | (go_at_call 111; refine (HP.out).mono ?_; rintro e w' ⟨rfl, rfl⟩)
        | (go_at_call 132; refine (HS.out).mono ?_; rintro e w' ⟨rfl, rfl⟩))
      go_roundw
      case rel =>
        refine ⟨k + 1, b', ds.set k d', by omega, by go_num, rfl, ?_, HI.out.step hlt HX.out HY.out hd' hb' HE.out, hbr.setCell (Nat.le_refl _) _⟩
        rw [← U_set]
        exact HOD.out.put k _
      case measure => simp [intOf]; omega
    · obtain rfl : k = m1 := by omega
      go_wp2_with fail
      have hf := HI.out.last L1.out (by rw [L2.out]; exact HN.out) (by rw [V1.out, V2.out]; exact hle)
      rw [V1.out, V2.out] at hf
      have ha := own_arg HOD.out HI.out.dg HI.out.len (by omega) (show _ = x - y by omega)
      refine (cutN ha).mono ?_
      rintro e w' ⟨m, rfl, hr, hm, rfl⟩
      go_wp2_with fail
      go_ret2
      exact ⟨_, m, rfl, hr, by omega, hb2.trans (by rw [← HZ2.out, ← EG.out]; exact hb1.trans hbr)⟩
end Go.Proofs.YtpachoeignpcbaaGreatDoor

namespace Go.Proofs.YtpachoeignpcbaaGreatDoor
open Go.RowKit
set_option linter.unusedVariables false

theorem own_at {w : World} {g : Nat} {t : TypeId} {ds : List Nat} (h : Own w g t (U ds)) {j : Nat} (hj : j < ds.length) : ∃ e, Hid (ds.getD j 0 = e) ∧ w.cell? ⟨g, j, none⟩ = some (.int .u32 (e : Int)) := by
  refine ⟨ds.getD j 0, rfl, ?_⟩
  rw [h.cell j, U_at, List.getElem?_eq_getElem hj, List.getD_eq_getElem?_getD, List.getElem?_eq_getElem hj]
  rfl

def RowPost (w : World) (g : Nat) (ds ys : List Nat) (o t n : Nat) (e : Ending) (w' : World) : Prop :=
  ∃ (es : List Nat) (cy : Nat), e = .returned (.int .u32 (cy : Int)) ∧ Own w' g 144 (U es) ∧ RowInv ds es ys o t n cy ∧ Below g w w' ∧ w'.heap.size = w.heap.size

set_option maxHeartbeats 1000000 in
theorem addTimes_any {A : Option Addr} {n c g o l d t : Nat} {ds ys : List Nat} {w : World} (ho : Own w g 144 (U ds)) (hds : Dg ds) (hr : NR w g A n ys) (hc : n ≤ c) (hn : n ≤ 1000000) (hl : n ≤ l) (ho2 : o + n ≤ ds.length) (ht : t < 4294967296) :
    Calls Tryz.prog 117 #[.slice (some ⟨g, o, none⟩) l d, .slice A n c, .int .u32 t] w (RowPost w g ds ys o t n) := by
  have HO := Lib.hid ho
  have HL := Lib.hid hr.len
  clear ho
  go_enter Tryz.func117, Tryz.ntmps117
  go_wp2_with fail
  go_loopw [7, 12] (fun cv i wr => ∃ (k cy : Nat) (es : List Nat), k ≤ n ∧ i = .int .i64 k ∧ cv = .int .u64 cy ∧ Own wr g 144 (U es) ∧ RowInv ds es ys o t k cy ∧ Below g w wr ∧ wr.heap.size = w.heap.size) (fun _ i _ => n - (intOf i).toNat)
  case atStart => exact ⟨0, 0, ds, Nat.zero_le _, rfl, rfl, HO.out, RowInv.zero ds ys hds o t, Below.refl _ _, rfl⟩
  case round =>
    obtain ⟨k, cy, es, hk, rfl, rfl, hod, hinv, hbr, hzr⟩ := hrel
    have HOD := Lib.hid hod
    have HI := Lib.hid hinv
    have HZ := Lib.hid hzr
    have hcy := hinv.low
    clear hod hinv hzr
    by_cases hlt : k < n
    · obtain ⟨b, off, y, rfl, hbb, HX, hly, hcell⟩ := (hr.below hbr).look hlt
      obtain ⟨e, HE, hcell2⟩ := own_at HOD.out (j := o + k) (by rw [HI.out.len]; omega)
      have hel : e < 4294967296 := by rw [← HE.out]; exact HI.out.dg.getD _
      have hfr := HOD.out.free (o + k)
      have hm1 : y * t ≤ 4294967295 * 4294967295 := Nat.mul_le_mul (by omega) (by omega)
      have hm2 : (y : Int) * (t : Int) ≤ 18446744065119617025 := by
        have : ((y * t : Nat) : Int) ≤ 18446744065119617025 := by omega
        rwa [Int.natCast_mul] at this
      have hm3 : 0 ≤ (y : Int) * (t : Int) := by
        have : (0 : Int) ≤ ((y * t : Nat) : Int) := by omega
        rwa [Int.natCast_mul] at this
      obtain ⟨p, ep⟩ : ∃ p, p = y * t := ⟨_, rfl⟩
      have EP := Lib.hid (show ((p : Nat) : Int) = (y : Int) * (t : Int) by rw [ep, Int.natCast_mul])
      have EQ := Lib.hid ep
      rw [← ep] at hm1
      clear ep
      go_wp2_with fail
      go_roundw
      case rel =>
        have ep := EP.out
        refine ⟨k + 1, (cy + (p + e)) / 4294967296, es.set (o + k) ((cy + (p + e)) % 4294967296), by omega, by go_num, ?_, ?_, HI.out.step (by omega) HX.out HE.out (by omega) (by omega) (by rw [← EQ.out]; omega), hbr.setCell (Nat.le_refl _) _, by simp [World.setCell, HZ.out]⟩
        · congr 1; omega
        · rw [← U_set]
          have := HOD.out.put (o + k) (.int .u32 (((cy + (p + e)) % 4294967296 : Nat) : Int))
          have e1 : (((cy + (p + e)) % 4294967296 : Nat) : Int) = ((cy : Int) + ((y : Int) * t + e)) % 4294967296 := by omega
          rw [e1] at this ⊢
          exact this
      case measure => simp [intOf]; omega
    · obtain rfl : k = n := by omega
      go_wp2_with fail
      go_ret
      exact ⟨es, cy, ret_int (by omega), HOD.out, HI.out, hbr, HZ.out⟩

theorem Res.blen {w : World} {A : Option Addr} {n x : Nat} (h : Res w A n x) : blen x ≤ 32 * n := by
  obtain ⟨xs, h1, h2, h3⟩ := h
  rw [blen_le, ← pw_two, ← h3, ← h1.len]
  exact val_lt xs h2.1

theorem mul_over {A1 A2 : Option Addr} {n1 c1 n2 c2 x y : Nat} {w : World} (h1 : Arg w A1 n1 c1 x) (h2 : Arg w A2 n2 c2 y) (s1 : n1 ≤ 1000000) (s2 : n2 ≤ 1000000) (hov : 16384 < blen x + blen y) :
    Calls Tryz.prog 89 #[.slice A1 n1 c1, .slice A2 n2 c2] w (NatErr w 6) := by
  go_enter Tryz.func89, Tryz.ntmps89
  go_wp2_with fail
  refine (bothN h1 h2).mono ?_
  rintro e w' ⟨m1, m2, rfl, r1, r2, hm1, hm2, rfl⟩
  have b1 := r1.blen
  have b2 := r2.blen
  have E1 := Lib.hid (len_any (r1.arg (by omega)) (by omega))
  have E2 := Lib.hid (len_any (r2.arg (by omega)) (by omega))
  generalize blen x = l1 at *
  generalize blen y = l2 at *
  go_wp2_with fail
  refine (E1.out).mono ?_
  rintro e w' ⟨rfl, rfl⟩
  go_wp2_with fail
  refine (E2.out).mono ?_
  rintro e w' ⟨rfl, rfl⟩
  go_wp2_with fail
  go_ret2
  exact ⟨rfl, Below.refl _ _⟩

set_option maxHeartbeats 1000000 in
theorem mul_any {A1 A2 : Option Addr} {n1 c1 n2 c2 x y : Nat} {w : World} (h1 : Arg w A1 n1 c1 x) (h2 : Arg w A2 n2 c2 y) (s1 : n1 ≤ 1000000) (s2 : n2 ≤ 1000000) (hfit : blen x + blen y ≤ 16384) :
    Calls Tryz.prog 89 #[.slice A1 n1 c1, .slice A2 n2 c2] w (NatOk w (x * y) (n1 + n2)) := by
  go_enter Tryz.func89, Tryz.ntmps89
  go_wp2_with fail
  refine (bothN h1 h2).mono ?_
  rintro e w' ⟨m1, m2, rfl, hr1, hr2, hm1, hm2, rfl⟩
  have E1 := Lib.hid (len_any (hr1.arg (by omega)) (by omega))
  have E2 := Lib.hid (len_any (hr2.arg (by omega)) (by omega))
  generalize blen x = l1 at *
  generalize blen y = l2 at *
  go_wp2_with fail
  refine (E1.out).mono ?_
  rintro e w' ⟨rfl, rfl⟩
  go_wp2_with fail
  refine (E2.out).mono ?_
  rintro e w' ⟨rfl, rfl⟩
  obtain ⟨xs, r1, k1, v1⟩ := hr1
  obtain ⟨ys, r2, k2, v2⟩ := hr2
  have V1 := Lib.hid v1
  have V2 := Lib.hid v2
  have L1 := Lib.hid r1.len
  have L2 := Lib.hid r2.len
  clear v1 v2 h1 h2 E1 E2
  go_wp2_with (at_make; refine wpList_zeros _ rfl _ _ 46 rfl 144 (.int .u32 0) 4 Tryz.underlying46 u32_info rfl (by omega) _ (m1 + m2) rfl rfl (by omega) (by omega) ?_; intro w1 ho hb1 hz1; rw [U_zeros] at ho)
  have hg := ho.lt
  have R1 := Lib.hid (r1.below hb1)
  have R2 := Lib.hid (r2.below hb1)
  have HO := Lib.hid ho
  clear ho r1 r2
  obtain ⟨g, eg⟩ : ∃ g, g = w.heap.size := ⟨_, rfl⟩
  rw [← eg] at HO hb1 hg R1 R2 ⊢
  have EG := Lib.hid eg
  clear eg hz1
  go_loopw [29] (fun i wr => ∃ (k : Nat) (ds : List Nat), k ≤ m1 ∧ i = .int .i64 k ∧ Own wr g 144 (U ds) ∧ MulInv xs ys ds (m1 + m2) k ∧ Below g w1 wr) (fun i _ => m1 - (intOf i).toNat)
  case atStart => exact ⟨0, _, Nat.zero_le _, rfl, HO.out, MulInv.zero _ _ _, Below.refl _ _⟩
  case round =>
    obtain ⟨k, ds, hk, rfl, hod, hinv, hbr⟩ := hrel
    have HOD := Lib.hid hod
    have HI := Lib.hid hinv
    clear hod hinv
    by_cases hlt : k < m1
    · obtain ⟨b, off, t, hA, hbb, HX, hl, hcell⟩ := (R1.out.below hbr).look hlt
      subst hA
      have HC := Lib.hid (addTimes_any (o := k) (l := m1 + m2 - k) (d := m1 + m2 - k) (t := t) HOD.out HI.out.dg (R2.out.below hbr) (Nat.le_refl _) (by omega) (by omega) (by rw [HI.out.len]; omega) hl)
      have hne : ¬ m1 + m2 = k := by omega
      go_wp2_with fail
      refine (HC.out).mono ?_
      rintro e w' ⟨es, cy, rfl, hoe, hre, hbe, hze⟩
      have HOE := Lib.hid hoe
      have HRE := Lib.hid hre
      obtain ⟨ov, HV, hov⟩ := own_at hoe (j := k + m2) (by rw [hre.len, HI.out.len]; omega)
      have hfr := hoe.free (k + m2)
      clear hoe hre hze
      go_wp2_with fail
      go_roundw
      case rel =>
        refine ⟨k + 1, es.set (k + m2) cy, by omega, by go_num, ?_, HI.out.step HX.out R1.out.2 R2.out.2 L2.out (by omega) HRE.out, (hbr.trans hbe).setCell (Nat.le_refl _) _⟩
        rw [← U_set]
        exact HOE.out.put _ _
      case measure => simp [intOf]; omega
    · obtain rfl : k = m1 := by omega
      go_wp2_with fail
      have hf := HI.out.sum
      rw [List.take_of_length_le (by rw [L1.out]; omega), V1.out, V2.out] at hf
      refine (cutN (own_arg HOD.out HI.out.dg HI.out.len (by omega) hf)).mono ?_
      rintro e w' ⟨m, rfl, hr, hm, rfl⟩
      go_wp2_with fail
      go_ret2
      exact ⟨_, m, rfl, hr, by omega, EG.out ▸ (hb1.trans hbr)⟩
end Go.Proofs.YtpachoeignpcbaaGreatDoor

namespace Go.Proofs.YtpachoeignpcbaaGreatDoor
open Go.RowKit
set_option linter.unusedVariables false

theorem left_arg {A : Option Addr} {n c : Nat} {w : World} (i : Int) (hi : i < 0) :
    Calls Tryz.prog 107 #[.slice A n c, .int .i64 i] w (NatErr w 1) := by
  go_enter Tryz.func107, Tryz.ntmps107
  go_wp2_with fail
  go_ret2
  exact ⟨rfl, Below.refl _ _⟩

theorem Res.zero_len {w : World} {A : Option Addr} {x : Nat} (h : Res w A 0 x) : x = 0 := by
  obtain ⟨xs, h1, h2, h3⟩ := h
  rw [← h3, List.eq_nil_of_length_eq_zero h1.len]; rfl
theorem Res.pos_len {w : World} {A : Option Addr} {n x : Nat} (h : Res w A n x) (hn : n ≠ 0) : x ≠ 0 := by
  obtain ⟨xs, h1, h2, h3⟩ := h
  have := h2.low (by rw [h1.len]; omega)
  have := pw_pos (xs.length - 1)
  omega

theorem left_none {A : Option Addr} {n c : Nat} {w : World} (h : Arg w A n c 0) (i : Int) (hi : 0 ≤ i) :
    Calls Tryz.prog 107 #[.slice A n c, .int .i64 i] w (NatOk w 0 0) := by
  go_enter Tryz.func107, Tryz.ntmps107
  go_wp2_with fail
  refine (cutN h).mono ?_
  rintro e w' ⟨m, rfl, hr, hm, rfl⟩
  obtain rfl : m = 0 := by
    rcases Nat.eq_zero_or_pos m with e | e
    · exact e
    · exact (hr.pos_len (by omega) rfl).elim
  go_wp2_with fail
  go_ret2
  exact ⟨none, 0, rfl, Res.none_ w, Nat.le_refl _, Below.refl _ _⟩

theorem left_over {A : Option Addr} {n c x : Nat} {w : World} (h : Arg w A n c x) (hs : n ≤ 1000000) (hx : x ≠ 0) (i : Int) (hi : 0 ≤ i) (hi2 : i ≤ 9223372036854775807) (hov : 16384 < (blen x : Int) + i) :
    Calls Tryz.prog 107 #[.slice A n c, .int .i64 i] w (NatErr w 6) := by
  go_enter Tryz.func107, Tryz.ntmps107
  go_wp2_with fail
  refine (cutN h).mono ?_
  rintro e w' ⟨m, rfl, hr, hm, rfl⟩
  have hz : ((m : Int) == 0) = false := by
    rcases Nat.eq_zero_or_pos m with e | e
    · subst e; exact (hx hr.zero_len).elim
    · simp; omega
  have E1 := Lib.hid (len_any (hr.arg (by omega)) (by omega))
  have b1 := hr.blen
  generalize blen x = l at *
  go_wp2_with fail
  refine (E1.out).mono ?_
  rintro e w' ⟨rfl, rfl⟩
  go_wp2_with fail
  go_ret2
  exact ⟨rfl, Below.refl _ _⟩

theorem two_pow_32 (r : Nat) (hr : r < 32) : 2 ^ r ≤ 2147483648 := by
  have : 2 ^ r ≤ 2 ^ 31 := Nat.pow_le_pow_right (by omega) (by omega)
  omega
theorem left_wide (t r : Nat) (ht : t < 4294967296) (hr : r < 32) : IntKind.u64.wrap ((t : Int) * 2 ^ r) = ((t * 2 ^ r : Nat) : Int) ∧ t * 2 ^ r < 18446744073709551616 := by
  have h1 := two_pow_32 r hr
  have h2 : t * 2 ^ r ≤ 4294967295 * 2147483648 := Nat.mul_le_mul (by omega) h1
  have e : (t : Int) * 2 ^ r = ((t * 2 ^ r : Nat) : Int) := by simp
  refine ⟨?_, by omega⟩
  rw [e, IntKind.wrap_u64]
  omega
theorem left_key1 (t r e : Nat) (ht : t < 4294967296) (hr : r < 32) (he : e < 2 ^ r) : bits BinOp.or IntKind.u32 (e : Int) (IntKind.u64.wrap ((t : Int) * 2 ^ r) % 4294967296) = ((e + t * 2 ^ r % 4294967296 : Nat) : Int) := by
  have h1 := two_pow_32 r hr
  rw [(left_wide t r ht hr).1]
  have e1 : ((t * 2 ^ r : Nat) : Int) % 4294967296 = ((t * 2 ^ r % 4294967296 : Nat) : Int) := by omega
  rw [e1, or_u32 _ _ (by omega) (by omega), (or_low e t r hr he).1]
theorem left_key2 (t r : Nat) (ht : t < 4294967296) (hr : r < 32) : IntKind.u64.wrap ((t : Int) * 2 ^ r) / 4294967296 % 4294967296 = ((t * 2 ^ r / 4294967296 : Nat) : Int) := by
  obtain ⟨e, h⟩ := left_wide t r ht hr
  rw [e]
  omega

set_option maxHeartbeats 1000000 in
theorem left_any {A : Option Addr} {n c x : Nat} {w : World} (h : Arg w A n c x) (hs : n ≤ 1000000) (hx : x ≠ 0) (i : Nat) (hfit : blen x + i ≤ 16384) :
    Calls Tryz.prog 107 #[.slice A n c, .int .i64 i] w (NatOk w (x * 2 ^ i) (n + i / 32 + 1)) := by
  go_enter Tryz.func107, Tryz.ntmps107
  go_wp2_with fail
  refine (cutN h).mono ?_
  rintro e w' ⟨m, rfl, hr, hm, rfl⟩
  have hz : ((m : Int) == 0) = false := by
    rcases Nat.eq_zero_or_pos m with e | e
    · subst e; exact (hx hr.zero_len).elim
    · simp; omega
  have E1 := Lib.hid (len_any (hr.arg (by omega)) (by omega))
  have b1 := hr.blen
  obtain ⟨xs, r1, k1, v1⟩ := hr
  have V1 := Lib.hid v1
  have L1 := Lib.hid r1.len
  clear v1 h
  generalize blen x = l at *
  go_wp2_with fail
  refine (E1.out).mono ?_
  rintro e w' ⟨rfl, rfl⟩
  go_wp2_with (at_make; refine wpList_zeros _ rfl _ _ 46 rfl 144 (.int .u32 0) 4 Tryz.underlying46 u32_info rfl (by omega) _ (i / 32 + m + 1) rfl rfl (by omega) (by omega) ?_; intro w1 ho hb1 hz1; rw [U_zeros] at ho)
  have d1 : decide ((i : Int) < 0) = false := decide_eq_false (by omega)
  have d2 : decide (16384 - (i : Int) < (l : Int)) = false := decide_eq_false (by omega)
  have e1 : (i : Int) / 32 = ((i / 32 : Nat) : Int) := by omega
  have e2 : (i : Int) % 32 = ((i % 32 : Nat) : Int) := by omega
  have hr32 : i % 32 < 32 := by omega
  have HQ := Lib.hid (show 32 * (i / 32) + i % 32 = i by omega)
  have hq : i / 32 ≤ 1000 := by omega
  rw [d1, d2, e1, e2]
  clear d1 d2 e1 e2
  generalize i / 32 = q at *
  generalize i % 32 = r at *
  have hg := ho.lt
  have R1 := Lib.hid (r1.below hb1)
  have HO := Lib.hid ho
  clear ho r1
  obtain ⟨g, eg⟩ : ∃ g, g = w.heap.size := ⟨_, rfl⟩
  rw [← eg] at HO hb1 hg R1 ⊢
  have EG := Lib.hid eg
  clear eg hz1
  go_loopw [36] (fun iv wr => ∃ (k : Nat) (ds : List Nat), k ≤ m ∧ iv = .int .i64 k ∧ Own wr g 144 (U ds) ∧ LeftInv xs ds (q + m + 1) q r k ∧ Below g w1 wr) (fun iv _ => m - (intOf iv).toNat)
  case atStart => exact ⟨0, _, Nat.zero_le _, rfl, HO.out, LeftInv.zero _ _ _ _, Below.refl _ _⟩
  case round =>
    obtain ⟨k, ds, hk, rfl, hod, hinv, hbr⟩ := hrel
    have HOD := Lib.hid hod
    have HI := Lib.hid hinv
    clear hod hinv
    by_cases hlt : k < m
    · obtain ⟨b, off, t, hA, hbb, HX, hl, hcell⟩ := (R1.out.below hbr).look hlt
      subst hA
      obtain ⟨e, HE, hc2⟩ := own_at HOD.out (j := q + k) (by rw [HI.out.len]; omega)
      obtain ⟨e', HE', hc3⟩ := own_at HOD.out (j := q + k + 1) (by rw [HI.out.len]; omega)
      have hf2 := HOD.out.free (q + k)
      have hf3 := HOD.out.free (q + k + 1)
      have HB := Lib.hid (HI.out.old k1.1 hr32)
      go_wp2_with fail
      go_roundw
      case rel =>
        obtain ⟨o1, _⟩ := HB.out
        rw [HE.out] at o1
        refine ⟨k + 1, _, by omega, by go_num, ?_, HI.out.step k1.1 hr32 (by omega) HX.out hl HE.out, (hbr.setCell (Nat.le_refl _) _).setCell (Nat.le_refl _) _⟩
        rw [← U_set, ← U_set, left_key1 t r e hl hr32 o1, left_key2 t r hl hr32]
        exact (HOD.out.put _ _).put _ _
      case measure => simp [intOf]; omega
    · obtain rfl : k = m := by omega
      go_wp2_with fail
      have hf := HI.out.sum
      rw [List.take_of_length_le (by rw [L1.out]; omega), V1.out] at hf
      have hf2 : val ds = x * 2 ^ i := by
        rw [hf, ← HQ.out, Nat.pow_add, ← pw_two]
        ac_rfl
      refine (cutN (own_arg HOD.out HI.out.dg HI.out.len (by omega) hf2)).mono ?_
      rintro e w' ⟨m', rfl, hr, hm', rfl⟩
      go_wp2_with fail
      go_ret2
      exact ⟨_, m', rfl, hr, by omega, EG.out ▸ (hb1.trans hbr)⟩

/-- a number by a power of 2, and whether a 1 was lost. -/
def RightPost (w : World) (x k n : Nat) (e : Ending) (w' : World) : Prop :=
  ∃ A m, e = .returned (.tuple #[.slice A m m, .bool (decide (x % 2 ^ k ≠ 0))]) ∧ Res w' A m (x / 2 ^ k) ∧ m ≤ n ∧ Below w.heap.size w w'

set_option maxHeartbeats 1000000 in
theorem right_any {A : Option Addr} {n c x : Nat} {w : World} (h : Arg w A n c x) (hs : n ≤ 1000000) (i : Int) (hi2 : i ≤ 9223372036854775807) (hT : Tab w) :
    Calls Tryz.prog 131 #[.slice A n c, .int .i64 i] w (RightPost w x i.toNat n) := by
  obtain ⟨k, ek⟩ : ∃ k : Nat, k = i.toNat := ⟨_, rfl⟩
  rw [← ek]
  have hk : k ≤ 9223372036854775807 := by omega
  have HK := Lib.hid ek
  clear ek
  go_enter Tryz.func131, Tryz.ntmps131
  go_wp2_with fail
  rw [show max i 0 = (k : Int) from by have := HK.out; omega]
  refine (cutN h).mono ?_
  rintro e w' ⟨m, rfl, hr, hm, rfl⟩
  clear h hi2 HK
  by_cases h0 : m = 0
  · subst h0
    have hx := hr.zero_len
    subst hx
    have hge : ¬ (k : Int) / 32 < 0 := by omega
    go_wp2_with fail
    go_ret2
    refine ⟨none, 0, ?_, by rw [Nat.zero_div]; exact Res.none_ w, by omega, Below.refl _ _⟩
    rw [Nat.zero_mod]
    rfl
  · have hx := hr.pos_len h0
    have hp : (0 : Int) < (m : Int) := by omega
    have HZ := Lib.hid (zeros_any (hr.arg (by omega)) (by omega) hT)
    obtain ⟨xs, r1, k1, v1⟩ := hr
    have V1 := Lib.hid v1
    have L1 := Lib.hid r1.len
    clear v1
    go_wp2_with fail
    refine (HZ.out).mono ?_
    rintro e w' ⟨z, rfl, _, hctz, hz2, rfl⟩
    have HC : Hid (decide (z < k) = decide (x % 2 ^ k ≠ 0)) := by
      show _ = _
      have := (hctz hx).mod k
      rw [decide_eq_decide, ← this]
    clear hctz HZ
    have e1 : (k : Int) / 32 = ((k / 32 : Nat) : Int) := by omega
    have e2 : (k : Int) % 32 = ((k % 32 : Nat) : Int) := by omega
    have hr32 : k % 32 < 32 := by omega
    have HQ := Lib.hid (show 32 * (k / 32) + k % 32 = k by omega)
    have E1 := Lib.hid e1
    have E2 := Lib.hid e2
    clear e1 e2
    by_cases hw : m ≤ k / 32
    · have hge : (m : Int) ≤ (k : Int) / 32 := by omega
      go_wp2_with fail
      go_ret2
      refine ⟨none, 0, ?_, ?_, by omega, Below.refl _ _⟩
      · rw [← HC.out]; rfl
      · rw [← HQ.out, ← V1.out, right_none xs k1.1 _ _ (by rw [L1.out]; exact hw)]
        exact Res.none_ w
    · have hlt : (k : Int) / 32 < (m : Int) := by omega
      go_wp2_with (at_make; refine wpList_zeros _ rfl _ _ 46 rfl 144 (.int .u32 0) 4 Tryz.underlying46 u32_info rfl (by omega) _ (m - k / 32) rfl rfl (by omega) (by omega) ?_; intro w1 ho hb1 hz1; rw [U_zeros] at ho)
      have d1 : decide ((m : Int) ≤ (k : Int) / 32) = false := decide_eq_false (by omega)
      have d2 : (m : Int) - ((k / 32 : Nat) : Int) = ((m - k / 32 : Nat) : Int) := by omega
      rw [d1, E1.out, E2.out, d2]
      obtain ⟨N, en⟩ : ∃ N, N = m - k / 32 := ⟨_, rfl⟩
      rw [← en] at ho ⊢
      have n1 : N + k / 32 ≤ m := by omega
      have n2 : m ≤ N + k / 32 := by omega
      clear d1 d2 en E1 E2 hlt hw
      generalize k / 32 = q at *
      generalize k % 32 = r at *
      obtain ⟨bl, ebl⟩ : ∃ bl, bl = decide (z < k) := ⟨_, rfl⟩
      rw [← ebl] at HC ⊢
      clear ebl
      have hg := ho.lt
      have R1 := Lib.hid (r1.below hb1)
      have HO := Lib.hid ho
      clear ho r1
      obtain ⟨g, eg⟩ : ∃ g, g = w.heap.size := ⟨_, rfl⟩
      rw [← eg] at HO hb1 hg R1 ⊢
      have EG := Lib.hid eg
      clear eg hz1
      go_loopw [41] (fun iv wr => ∃ (j : Nat) (ds : List Nat), j ≤ N ∧ iv = .int .i64 j ∧ Own wr g 144 (U ds) ∧ RightInv ds N (x / 2 ^ k) j ∧ Below g w1 wr) (fun iv _ => N - (intOf iv).toNat)
      case atStart => exact ⟨0, _, Nat.zero_le _, rfl, HO.out, RightInv.zero _ _, Below.refl _ _⟩
      case round =>
        obtain ⟨j, ds, hj, rfl, hod, hinv, hbr⟩ := hrel
        have HOD := Lib.hid hod
        have HI := Lib.hid hinv
        clear hod hinv
        by_cases hlt : j < N
        · obtain ⟨b, off, t, hA, hbb, HX, hl, hcell⟩ := (R1.out.below hbr).look (k := q + j) (by omega)
          subst hA
          obtain ⟨u, eu⟩ : ∃ u, xs.getD (q + j + 1) 0 = u := ⟨_, rfl⟩
          have hu : u < 4294967296 := by rw [← eu]; exact k1.1.getD _
          have HU := Lib.hid eu
          clear eu
          have HP := Lib.hid (fun W (hW : NR W g (some ⟨b, off, none⟩) m xs) => part_as hW (Nat.le_refl m) (by unfold maxLen; omega) u ((q : Int) + (j : Int) + 1) (by omega) (by rw [show ((q : Int) + (j : Int) + 1).toNat = q + j + 1 from by omega]; exact HU))
          have HR := Lib.hid (R1.out.below hbr)
          have q0 : 0 ≤ (q : Int) + (j : Int) := by omega
          have q1 : (q : Int) + (j : Int) < (m : Int) := by omega
          have q2 : IntKind.i64.wrap ((q : Int) + (j : Int)) = (q : Int) + (j : Int) := IntWalk.i64_in _ (by omega)
          have q3 : IntKind.i64.wrap ((q : Int) + (j : Int) + 1) = (q : Int) + (j : Int) + 1 := IntWalk.i64_in _ (by omega)
          have q4 : ((q : Int) + (j : Int)).toNat = q + j := by omega
          go_wp2_with fail
          go_quiet ((go_at_call 111; exact quiet_at (HP.out _ HR.out) ⟨_, rfl⟩))
          clear q2 q3 q4 HP HR
          have HOW : Hid (Own (wr.drewN nq) g 144 (U ds)) := HOD.out
          have hbW := below_drewN hbr nq
          generalize wr.drewN nq = W at *
          obtain ⟨ov, _, hov⟩ := own_at HOW.out (j := j) (by rw [HI.out.len]; omega)
          have hfr := HOW.out.free j
          clear hbr HOD hcell
          go_wp2_with fail
          go_roundw
          case rel =>
            refine ⟨j + 1, _, by omega, by go_num, ?_, HI.out.step hlt rfl, hbW.setCell (Nat.le_refl _) _⟩
            rw [← U_set]
            have := HOW.out.put j (.int .u32 ((x / 2 ^ k / 4294967296 ^ j % 4294967296 : Nat) : Int))
            rw [← HQ.out, ← V1.out, right_at xs k1.1 q r j t u hr32 HX.out HU.out] at this ⊢
            rw [word_key u t hu hl]
            have e1 : ((u * 4294967296 + t : Nat) : Int) / 2 ^ r % 4294967296 = (((u * 4294967296 + t) / 2 ^ r % 4294967296 : Nat) : Int) := by simp
            rw [e1]
            exact this
          case measure => simp [intOf]; omega
        · obtain rfl : j = N := by omega
          go_wp2_with fail
          have hf := HI.out.last (by rw [← HQ.out, ← V1.out]; have := right_lt xs k1.1 q r (by rw [L1.out]; omega); rw [L1.out] at this; exact Nat.lt_of_lt_of_le this (Nat.pow_le_pow_right (by omega) (by omega)))
          refine (cutN (own_arg HOD.out HI.out.dg HI.out.len (by omega) hf)).mono ?_
          rintro e w' ⟨m', rfl, hr, hm', rfl⟩
          go_wp2_with fail
          go_ret2
          refine ⟨_, m', ?_, hr, by omega, EG.out ▸ (hb1.trans hbr)⟩
          rw [← HC.out]
          rfl
end Go.Proofs.YtpachoeignpcbaaGreatDoor

namespace Go.Proofs.YtpachoeignpcbaaGreatDoor
open Go.RowKit
set_option linter.unusedVariables false

def SamePost (w : World) (xs ys : List Nat) (e : Ending) (w' : World) : Prop := ∃ d : Nat, e = .returned (.bool (decide (xs = ys))) ∧ w' = w.drewN d

theorem list_ext_getD : ∀ xs ys : List Nat, xs.length = ys.length → (∀ j, j < xs.length → xs.getD j 0 = ys.getD j 0) → xs = ys
  | [], [], _, _ => rfl
  | [], y :: ys, h, _ => by simp at h
  | x :: xs, [], h, _ => by simp at h
  | x :: xs, y :: ys, h, hj => by
    have h0 : x = y := hj 0 (by simp)
    rw [h0, list_ext_getD xs ys (by simpa using h) (fun j h' => hj (j + 1) (by simpa using h'))]

end Go.Proofs.YtpachoeignpcbaaGreatDoor
