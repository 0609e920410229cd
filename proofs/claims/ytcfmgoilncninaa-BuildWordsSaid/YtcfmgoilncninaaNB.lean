/-
  The walks of nat's Len, Bit, Zeros, Of, Word, Cmp.
  The walks of nat's Of, Word, Cmp.
  The walks of nat's Add and Sub.
  The walks of nat's addTimes and Mul.
  The walks of nat's Left and Right.
  The walk of the reference's Same.
-/
import Derived.Test.YtcfmgoilncninaaNA
import Derived.Deep.QuietTactic
import Derived.BigQuiet
import Derived.Test.YtcfmgoilncninaaMA
namespace Go.Proofs.Ytcfmgoilncninaa
open Go.RowKit
set_option linter.unusedVariables false

theorem part_as {A : Option Addr} {n c B : Nat} {xs : List Nat} {w : World} (h : NR w B A n xs) (hnc : n ≤ c) (hc : c ≤ maxLen) (p : Nat) (i : Int) (hi : 0 ≤ i) (hp : Hid (xs.getD i.toNat 0 = p)) :
    Calls Try.prog 140 #[.slice A n c, .int .i64 i] w fun e w' => e = .returned (.int .u32 (p : Int)) ∧ w = w' := by
  have := part_any A n c B xs w h hnc hc i hi
  rw [hp.out] at this
  exact this

theorem bit_key (p r : Nat) (hp : p < 4294967296) : wrap64 (bits BinOp.and IntKind.u32 ((p : Int) / 2 ^ r) 1) = ((p / 2 ^ r % 2 : Nat) : Int) := by
  have e1 : ((p : Int) / 2 ^ r) = ((p / 2 ^ r : Nat) : Int) := by simp
  have h1 : p / 2 ^ r ≤ p := Nat.div_le_self _ _
  rw [e1, show (1 : Int) = ((1 : Nat) : Int) from rfl, and_u32 _ 1 (by omega) (by omega), Nat.and_one_is_mod]
  exact IntWalk.wrap64_in _ ⟨by omega, by omega⟩
theorem bit_val (xs : List Nat) (h : Dg xs) (k p : Nat) (hp : xs.getD (k / 32) 0 = p) : val xs / 2 ^ k % 2 = p / 2 ^ (k % 32) % 2 := by
  have e1 : 2 ^ k = 4294967296 ^ (k / 32) * 2 ^ (k % 32) := by
    rw [pw_two, ← Nat.pow_add]; congr 1; omega
  rw [e1, ← Nat.div_div_eq_div_mul, ← hp, ← val_at xs h (k / 32)]
  generalize val xs / 4294967296 ^ (k / 32) = y
  have hr : k % 32 < 32 := Nat.mod_lt _ (by omega)
  generalize k % 32 = r at *
  obtain ⟨d, hd⟩ : ∃ d, 32 = r + (d + 1) := ⟨32 - r - 1, by omega⟩
  have e3 : (4294967296 : Nat) = 2 ^ r * (2 * 2 ^ d) := by rw [Nat.mul_comm 2, ← Nat.pow_succ, ← Nat.pow_add, ← hd]
  rw [e3, Nat.mod_mul_right_div_self, Nat.mod_mul_right_mod]

set_option maxHeartbeats 400000 in
theorem bit_any {A : Option Addr} {n c x : Nat} {w : World} (h : Arg w A n c x) (i : Int) (hi : 0 ≤ i) (hi2 : i ≤ 9223372036854775807) :
    Calls Try.prog 97 #[.slice A n c, .int .i64 i] w fun e w' => e = .returned (.int .i64 (x / 2 ^ i.toNat % 2 : Nat)) ∧ w = w' := by
  obtain ⟨xs, hr, h2, h3, h5⟩ := h
  have HV := Lib.hid h5
  clear h5
  obtain ⟨k, rfl⟩ := Int.eq_ofNat_of_zero_le hi
  rw [Int.toNat_natCast]
  obtain ⟨p, hp⟩ : ∃ p, xs.getD (k / 32) 0 = p := ⟨_, rfl⟩
  have hlt : p < 4294967296 := by rw [← hp]; exact hr.2.getD _
  have HK := Lib.hid (bit_val xs hr.2 k p hp)
  have HP := Lib.hid hp
  clear hp
  go_enter Try.func97, Try.ntmps97
  go_wp2_with fail
  refine (part_as hr h2 h3 p _ (by omega) (by rw [show ((k : Int) / 32).toNat = k / 32 from by omega]; exact HP)).mono ?_
  rintro e w' ⟨rfl, rfl⟩
  go_wp2_with fail
  go_ret
  refine ⟨ret_int ?_, rfl⟩
  rw [← HV.out, HK.out]
  exact bit_key p (k % 32) hlt
theorem bit_neg {A : Option Addr} {n c : Nat} {w : World} (i : Int) (hi : i < 0) :
    Calls Try.prog 97 #[.slice A n c, .int .i64 i] w fun e w' => e = .returned (.int .i64 0) ∧ w = w' := by
  go_enter Try.func97, Try.ntmps97
  go_wp2_with fail
  go_ret
  exact ⟨rfl, rfl⟩

/-- the lowest bits 0 of a number, by what Zeros tells. -/
def ZerosPost (w : World) (x : Nat) (e : Ending) (w' : World) : Prop := ∃ z : Nat, e = .returned (.int .i64 (z : Int)) ∧ (x = 0 → z = 0) ∧ (x ≠ 0 → Ctz x z) ∧ z ≤ 40000000 ∧ w = w'
end Go.Proofs.Ytcfmgoilncninaa

namespace Go.Proofs.Ytcfmgoilncninaa
open Go.RowKit
set_option linter.unusedVariables false

theorem U_two (a b : Nat) : #[Value.int .u32 (a : Int), Value.int .u32 (b : Int)] = (U [a, b]).toArray := rfl

set_option maxHeartbeats 400000 in
theorem of_any (n : Nat) (hn : n < 18446744073709551616) (w : World) :
    Calls Try.prog 86 #[.int .u64 n] w (NatPost w n 2) := by
  have e1 : ((n % 4294967296 : Nat) : Int) = (n : Int) % 4294967296 := by omega
  have e2 : ((n / 4294967296 : Nat) : Int) = (n : Int) / 4294967296 := by omega
  have ha : Arg (w.alloc (.cells #[.int .u32 ((n : Int) % 4294967296), .int .u32 ((n : Int) / 4294967296)] 127)) (some ⟨w.heap.size, 0, none⟩) 2 2 n := by
    rw [← e1, ← e2, U_two]
    refine ⟨[n % 4294967296, n / 4294967296], (Own.made w _ _).nr (Dg.mk (by omega) (Dg.mk (by omega) Dg.nil)), by omega, by unfold maxLen; omega, ?_⟩
    simp only [val]
    omega
  have HA := Lib.hid ha
  clear ha e1 e2
  go_enter Try.func86, Try.ntmps86
  go_wp2_with fail
  refine (cutN HA.out).mono ?_
  rintro e w' ⟨m, rfl, hr, hm, rfl⟩
  go_wp2_with fail
  go_ret
  exact ⟨_, m, rfl, hr, hm, (Below.refl _ _).alloc (Nat.le_refl _) _⟩

theorem or_u64 (a b : Nat) (ha : a < 18446744073709551616) (hb : b < 18446744073709551616) : bits .or .u64 (a : Int) (b : Int) = ((a ||| b : Nat) : Int) := by
  have hx : a ||| b < 2 ^ 64 := Nat.or_lt_two_pow (by omega) (by omega)
  have h1 : ∀ a : Nat, a < 18446744073709551616 → (BitVec.ofInt 64 (a : Int)).toNat = a := fun a ha => by
    rw [BitVec.ofInt_natCast, BitVec.toNat_ofNat]; exact Nat.mod_eq_of_lt (by omega)
  show IntKind.u64.wrap ((BitVec.ofInt 64 (a : Int) ||| BitVec.ofInt 64 (b : Int)).toNat : Int) = _
  rw [BitVec.toNat_or, h1 a ha, h1 b hb, IntKind.wrap_u64]
  omega
theorem or_add (a b : Nat) (hb : b < 4294967296) : a * 4294967296 ||| b = a * 4294967296 + b := by
  have := Nat.two_pow_add_eq_or_of_lt (i := 32) (b := b) (by omega) a
  rw [Nat.mul_comm]; exact this.symm
theorem word_key (a b : Nat) (ha : a < 4294967296) (hb : b < 4294967296) : bits BinOp.or IntKind.u64 ((a : Int) * 4294967296) (b : Int) = ((a * 4294967296 + b : Nat) : Int) := by
  have e : (a : Int) * 4294967296 = ((a * 4294967296 : Nat) : Int) := by omega
  rw [e, or_u64 _ b (by omega) (by omega), or_add a b hb]
theorem val_two (xs : List Nat) (h : Dg xs) (hv : val xs < 18446744073709551616) : val xs = xs.getD 1 0 * 4294967296 + xs.getD 0 0 := by
  have h0 := val_at xs h 0
  have h1 := val_at xs h 1
  rw [Nat.pow_zero, Nat.div_one] at h0
  rw [Nat.pow_one] at h1
  omega

theorem quiet_at {P : Program} {f : FuncId} {args : Array Value} {W W0 : World} {v : Value} (h : Calls P f args W fun e w' => e = .returned v ∧ W = w') (hW : ∃ n, W = W0.drewN n) :
    Calls P f args W fun e w'' => e = .returned v ∧ ∃ m, w'' = W0.drewN m :=
  h.mono fun _ _ ⟨he, hw⟩ => ⟨he, by subst hw; exact hW⟩
def CmpPost (w : World) (x y : Nat) (e : Ending) (w' : World) : Prop := ∃ d : Nat, e = .returned (.int .i64 (cmpI x y)) ∧ w' = w.drewN d
theorem cmpI_of_lt {x y : Nat} (h : x < y) : cmpI x y = -1 := by unfold cmpI; rw [if_pos (by omega)]
theorem cmpI_of_gt {x y : Nat} (h : y < x) : cmpI x y = 1 := by unfold cmpI; rw [if_neg (by omega), if_pos (by omega)]
theorem cmpI_of_eq {x y : Nat} (h : x = y) : cmpI x y = 0 := by unfold cmpI; rw [if_neg (by omega), if_neg (by omega)]
theorem cmp_len {xs ys : List Nat} (hx : Canon xs) (hy : Canon ys) (h : xs.length ≠ ys.length) : cmpI (xs.length : Int) (ys.length : Int) = cmpI (val xs : Int) (val ys : Int) := by
  rcases Nat.lt_or_ge xs.length ys.length with h1 | h1
  · rw [cmpI_of_lt h1, cmpI_of_lt (Canon.shorter hx.1 hy h1)]
  · have h2 : ys.length < xs.length := by omega
    rw [cmpI_of_gt h2, cmpI_of_gt (Canon.shorter hy.1 hx h2)]
theorem val_congr : ∀ xs ys : List Nat, xs.length = ys.length → (∀ j, xs.getD j 0 = ys.getD j 0) → val xs = val ys
  | [], [], _, _ => rfl
  | [], y :: ys, h, _ => by simp at h
  | x :: xs, [], h, _ => by simp at h
  | x :: xs, y :: ys, h, hj => by
    have h0 : x = y := hj 0
    have h1 := val_congr xs ys (by simpa using h) (fun j => hj (j + 1))
    simp [val, h0, h1]
theorem drop_congr {xs ys : List Nat} (h : xs.length = ys.length) {k : Nat} (hj : ∀ j, k ≤ j → xs.getD j 0 = ys.getD j 0) : val (xs.drop k) = val (ys.drop k) :=
  val_congr _ _ (by rw [List.length_drop, List.length_drop, h]) (fun j => by rw [getD_drop, getD_drop]; exact hj _ (by omega))
theorem cmp_top {xs ys : List Nat} (hx : Dg xs) (hy : Dg ys) (h : xs.length = ys.length) {k : Nat} (hk : k < xs.length) (hj : ∀ j, k + 1 ≤ j → xs.getD j 0 = ys.getD j 0) (hne : xs.getD k 0 ≠ ys.getD k 0) :
    cmpI (xs.getD k 0 : Nat) (ys.getD k 0 : Nat) = cmpI (val xs : Nat) (val ys : Nat) := by
  have he := drop_congr h hj
  rcases Nat.lt_or_ge (xs.getD k 0) (ys.getD k 0) with h1 | h1
  · rw [cmpI_of_lt h1, cmpI_of_lt (top_less hx hy k he hk (by omega) h1)]
  · have h2 : ys.getD k 0 < xs.getD k 0 := by omega
    rw [cmpI_of_gt h2, cmpI_of_gt (top_less hy hx k he.symm (by omega) hk h2)]

end Go.Proofs.Ytcfmgoilncninaa

namespace Go.Proofs.Ytcfmgoilncninaa
open Go.RowKit
set_option linter.unusedVariables false

theorem cmp_world {w w' : World} {d : Nat} (h : w' = w.drewN d) : Below w.heap.size w w' ∧ w'.heap.size = w.heap.size := by
  subst h
  exact ⟨below_drewN (Below.refl _ _) d, rfl⟩
theorem cmpI_neg {x y : Nat} (h : x < y) : cmpI x y < 0 := by rw [cmpI_of_lt h]; omega
theorem cmpI_nn {x y : Nat} (h : y ≤ x) : 0 ≤ cmpI x y := by
  rcases Nat.lt_or_ge y x with h1 | h1
  · rw [cmpI_of_gt h1]; omega
  · rw [cmpI_of_eq (by omega)]; omega

end Go.Proofs.Ytcfmgoilncninaa

namespace Go.Proofs.Ytcfmgoilncninaa
open Go.RowKit
set_option linter.unusedVariables false

theorem own_at {w : World} {g : Nat} {t : TypeId} {ds : List Nat} (h : Own w g t (U ds)) {j : Nat} (hj : j < ds.length) : ∃ e, Hid (ds.getD j 0 = e) ∧ w.cell? ⟨g, j, none⟩ = some (.int .u32 (e : Int)) := by
  refine ⟨ds.getD j 0, rfl, ?_⟩
  rw [h.cell j, U_at, List.getElem?_eq_getElem hj, List.getD_eq_getElem?_getD, List.getElem?_eq_getElem hj]
  rfl

def RowPost (w : World) (g : Nat) (ds ys : List Nat) (o t n : Nat) (e : Ending) (w' : World) : Prop :=
  ∃ (es : List Nat) (cy : Nat), e = .returned (.int .u32 (cy : Int)) ∧ Own w' g 127 (U es) ∧ RowInv ds es ys o t n cy ∧ Below g w w' ∧ w'.heap.size = w.heap.size

theorem Res.blen {w : World} {A : Option Addr} {n x : Nat} (h : Res w A n x) : blen x ≤ 32 * n := by
  obtain ⟨xs, h1, h2, h3⟩ := h
  rw [blen_le, ← pw_two, ← h3, ← h1.len]
  exact val_lt xs h2.1

end Go.Proofs.Ytcfmgoilncninaa

namespace Go.Proofs.Ytcfmgoilncninaa
open Go.RowKit
set_option linter.unusedVariables false

theorem Res.zero_len {w : World} {A : Option Addr} {x : Nat} (h : Res w A 0 x) : x = 0 := by
  obtain ⟨xs, h1, h2, h3⟩ := h
  rw [← h3, List.eq_nil_of_length_eq_zero h1.len]; rfl
theorem Res.pos_len {w : World} {A : Option Addr} {n x : Nat} (h : Res w A n x) (hn : n ≠ 0) : x ≠ 0 := by
  obtain ⟨xs, h1, h2, h3⟩ := h
  have := h2.low (by rw [h1.len]; omega)
  have := pw_pos (xs.length - 1)
  omega

theorem two_pow_32 (r : Nat) (hr : r < 32) : 2 ^ r ≤ 2147483648 := by
  have : 2 ^ r ≤ 2 ^ 31 := Nat.pow_le_pow_right (by omega) (by omega)
  omega
theorem left_wide (t r : Nat) (ht : t < 4294967296) (hr : r < 32) : IntKind.u64.wrap ((t : Int) * 2 ^ r) = ((t * 2 ^ r : Nat) : Int) ∧ t * 2 ^ r < 18446744073709551616 := by
  have h1 := two_pow_32 r hr
  have h2 : t * 2 ^ r ≤ 4294967295 * 2147483648 := Nat.mul_le_mul (by omega) h1
  have e : (t : Int) * 2 ^ r = ((t * 2 ^ r : Nat) : Int) := by simp
  refine ⟨?_, by omega⟩
  rw [e, IntKind.wrap_u64]
  omega
theorem left_key1 (t r e : Nat) (ht : t < 4294967296) (hr : r < 32) (he : e < 2 ^ r) : bits BinOp.or IntKind.u32 (e : Int) (IntKind.u64.wrap ((t : Int) * 2 ^ r) % 4294967296) = ((e + t * 2 ^ r % 4294967296 : Nat) : Int) := by
  have h1 := two_pow_32 r hr
  rw [(left_wide t r ht hr).1]
  have e1 : ((t * 2 ^ r : Nat) : Int) % 4294967296 = ((t * 2 ^ r % 4294967296 : Nat) : Int) := by omega
  rw [e1, or_u32 _ _ (by omega) (by omega), (or_low e t r hr he).1]
theorem left_key2 (t r : Nat) (ht : t < 4294967296) (hr : r < 32) : IntKind.u64.wrap ((t : Int) * 2 ^ r) / 4294967296 % 4294967296 = ((t * 2 ^ r / 4294967296 : Nat) : Int) := by
  obtain ⟨e, h⟩ := left_wide t r ht hr
  rw [e]
  omega

/-- a number by a power of 2, and whether a 1 was lost. -/
def RightPost (w : World) (x k n : Nat) (e : Ending) (w' : World) : Prop :=
  ∃ A m, e = .returned (.tuple #[.slice A m m, .bool (decide (x % 2 ^ k ≠ 0))]) ∧ Res w' A m (x / 2 ^ k) ∧ m ≤ n ∧ Below w.heap.size w w'

end Go.Proofs.Ytcfmgoilncninaa

namespace Go.Proofs.Ytcfmgoilncninaa
open Go.RowKit
set_option linter.unusedVariables false

def SamePost (w : World) (xs ys : List Nat) (e : Ending) (w' : World) : Prop := ∃ d : Nat, e = .returned (.bool (decide (xs = ys))) ∧ w' = w.drewN d

theorem list_ext_getD : ∀ xs ys : List Nat, xs.length = ys.length → (∀ j, j < xs.length → xs.getD j 0 = ys.getD j 0) → xs = ys
  | [], [], _, _ => rfl
  | [], y :: ys, h, _ => by simp at h
  | x :: xs, [], h, _ => by simp at h
  | x :: xs, y :: ys, h, hj => by
    have h0 : x = y := hj 0 (by simp)
    rw [h0, list_ext_getD xs ys (by simpa using h) (fun j h' => hj (j + 1) (by simpa using h'))]

set_option maxHeartbeats 400000 in
theorem same_any {A1 A2 : Option Addr} {n1 c1 n2 c2 B : Nat} {xs ys : List Nat} {w : World} (h1 : NR w B A1 n1 xs) (h2 : NR w B A2 n2 ys) (s1 : n1 ≤ 2000000) (s2 : n2 ≤ 2000000) :
    Calls Try.prog 34 #[.slice A1 n1 c1, .slice A2 n2 c2] w (SamePost w xs ys) := by
  have L1 := Lib.hid h1.len
  have L2 := Lib.hid h2.len
  by_cases hne : n1 = n2
  · subst hne
    go_enter Try.func34, Try.ntmps34
    go_wp2_with fail
    go_loopw [5] (fun i wr => ∃ k d : Nat, k ≤ n1 ∧ (∀ j, j < k → xs.getD j 0 = ys.getD j 0) ∧ i = .int .i64 k ∧ wr = w.drewN d) (fun i _ => n1 - (intOf i).toNat)
    case atStart => exact ⟨0, 0, Nat.zero_le _, fun j hj => by omega, rfl, rfl⟩
    case round =>
      obtain ⟨k, d, hk, hz, rfl, rfl⟩ := hrel
      have HZ := Lib.hid hz
      clear hz
      by_cases hlt : k < n1
      · obtain ⟨b1, o1, t1, rfl, hb1, X1, l1, cell1⟩ := h1.look hlt
        obtain ⟨b2, o2, t2, rfl, hb2, X2, l2, cell2⟩ := h2.look hlt
        by_cases ht : t1 = t2
        · subst ht
          go_wp2_with fail
          go_quiet (fail)
          go_wp2_with fail
          go_roundw
          case rel =>
            refine ⟨k + 1, _, by omega, fun j hj => ?_, by go_num, rfl⟩
            by_cases e : j = k
            · rw [e, X1.out, X2.out]
            · exact HZ.out j (by omega)
          case measure => simp [intOf]; omega
        · have hn : ((t1 : Int) != (t2 : Int)) = true := by rw [bne_iff_ne]; omega
          go_wp2_with fail
          go_quiet (fail)
          go_wp2_with fail
          go_ret
          have e1 : decide (xs = ys) = false := decide_eq_false (fun e => ht (by rw [← X1.out, ← X2.out, e]))
          exact ⟨d + nq, by rw [e1]; rfl, by rw [World.drewN_drewN]⟩
      · go_wp2_with fail
        go_ret
        have e1 : decide (xs = ys) = true := decide_eq_true (list_ext_getD xs ys (by rw [L1.out, L2.out]) (fun j hj => HZ.out j (by rw [L1.out] at hj; omega)))
        exact ⟨d, by rw [e1]; rfl, rfl⟩
  · have hn : ((n1 : Int) != (n2 : Int)) = true := by rw [bne_iff_ne]; omega
    have E1 := Lib.hid (show decide (xs = ys) = false from decide_eq_false (fun e => hne (by rw [← L1.out, ← L2.out, e])))
    go_enter Try.func34, Try.ntmps34
    go_wp2_with fail
    go_ret
    exact ⟨0, by rw [E1.out]; rfl, rfl⟩

/-- what is told of one number is the same. -/
theorem same_res {A1 A2 : Option Addr} {n1 c1 n2 c2 x : Nat} {w : World} (h1 : Res w A1 n1 x) (h2 : Res w A2 n2 x) (s1 : n1 ≤ 2000000) (s2 : n2 ≤ 2000000) :
    Calls Try.prog 34 #[.slice A1 n1 c1, .slice A2 n2 c2] w fun e w' => e = .returned (.bool true) ∧ Below w.heap.size w w' := by
  obtain ⟨xs, r1, k1, v1⟩ := h1
  obtain ⟨ys, r2, k2, v2⟩ := h2
  refine (same_any r1 r2 s1 s2).mono ?_
  rintro e w' ⟨d, rfl, rfl⟩
  exact ⟨by rw [decide_eq_true (canon_unique xs ys k1 k2 (by rw [v1, v2]))], below_drewN (Below.refl _ _) d⟩
end Go.Proofs.Ytcfmgoilncninaa
