
/-
  The walks of the library's functions that nat calls: bits.Add32, Sub32, Len32, TrailingZeros32, cmp.Compare.
-/
import Derived.Test.YthaehfdjldjdiaaDoorProg
import Derived.Test.YthaehfdjldjdiaaDoorMem
import Derived.Outline
import Derived.Lib.Strings
import Derived.Lib.Slices
import Derived.Lib.Small
import Derived.Lib.Walk
import Derived.Lib.BitFns
import Derived.Lib.TrailingZeros
import Derived.Laws.Bits64b
namespace Go.Proofs.YthaehfdjldjdiaaDoor
open Go.RowKit
set_option linter.unusedVariables false

theorem ret_int {k : IntKind} {a b : Int} (h : a = b) : Ending.returned (.int k a) = .returned (.int k b) := by rw [h]
theorem ret2_int {k l : IntKind} {a a' b b' : Int} (h1 : a = a') (h2 : b = b') : Ending.returned (.tuple #[.int k a, .int l b]) = .returned (.tuple #[.int k a', .int l b']) := by rw [h1, h2]

theorem wrap_u32 (n : Int) : IntKind.u32.wrap n = n % 4294967296 := by simp [IntKind.wrap, IntKind.signed, IntKind.bits]
theorem ofInt32 (a : Nat) (ha : a < 4294967296) : (BitVec.ofInt 32 (a : Int)).toNat = a := by
  rw [BitVec.ofInt_natCast, BitVec.toNat_ofNat]; exact Nat.mod_eq_of_lt (by omega)
theorem and_u32 (a b : Nat) (ha : a < 4294967296) (hb : b < 4294967296) : bits .and .u32 (a : Int) (b : Int) = ((a &&& b : Nat) : Int) := by
  have hx : a &&& b < 2 ^ 32 := Nat.and_lt_two_pow _ (by omega)
  show IntKind.u32.wrap ((BitVec.ofInt 32 (a : Int) &&& BitVec.ofInt 32 (b : Int)).toNat : Int) = _
  rw [BitVec.toNat_and, ofInt32 a ha, ofInt32 b hb, wrap_u32]
  omega
theorem or_u32 (a b : Nat) (ha : a < 4294967296) (hb : b < 4294967296) : bits .or .u32 (a : Int) (b : Int) = ((a ||| b : Nat) : Int) := by
  have hx : a ||| b < 2 ^ 32 := Nat.or_lt_two_pow (by omega) (by omega)
  show IntKind.u32.wrap ((BitVec.ofInt 32 (a : Int) ||| BitVec.ofInt 32 (b : Int)).toNat : Int) = _
  rw [BitVec.toNat_or, ofInt32 a ha, ofInt32 b hb, wrap_u32]
  omega
theorem xor_u32 (a b : Nat) (ha : a < 4294967296) (hb : b < 4294967296) : bits .xor .u32 (a : Int) (b : Int) = ((a ^^^ b : Nat) : Int) := by
  have hx : a ^^^ b < 2 ^ 32 := Nat.xor_lt_two_pow (by omega) (by omega)
  show IntKind.u32.wrap ((BitVec.ofInt 32 (a : Int) ^^^ BitVec.ofInt 32 (b : Int)).toNat : Int) = _
  rw [BitVec.toNat_xor, ofInt32 a ha, ofInt32 b hb, wrap_u32]
  omega
theorem top_bit (n : Nat) (h : n < 4294967296) : n.testBit 31 = decide (2147483648 ≤ n) := by
  rw [Nat.testBit_eq_decide_div_mod_eq]
  by_cases e : 2147483648 ≤ n
  · have : n / 2 ^ 31 % 2 = 1 := by omega
    simp [this, e]
  · have : n / 2 ^ 31 % 2 = 0 := by omega
    simp [this, e]
theorem sub32_key (x y c d b : Nat) (hx : x < 4294967296) (hy : y < 4294967296) (hc : c < 2) (hd : d < 4294967296) (hb : b < 2) (he : x + 4294967296 * b = y + c + d) :
    bits BinOp.or IntKind.u32 (bits BinOp.and IntKind.u32 (bits BinOp.xor IntKind.u32 IntKind.u32.max (x : Int)) (y : Int))
      (bits BinOp.and IntKind.u32 (bits BinOp.xor IntKind.u32 IntKind.u32.max (bits BinOp.xor IntKind.u32 (x : Int) (y : Int))) (((x : Int) - y - c) % 4294967296)) / 2147483648 = (b : Int) := by
  have em : IntKind.u32.max = ((4294967295 : Nat) : Int) := by decide
  have ed : ((x : Int) - y - c) % 4294967296 = (d : Int) := by omega
  have hx1 : x ^^^ y < 4294967296 := Nat.xor_lt_two_pow (n := 32) (by omega) (by omega)
  have hx2 : 4294967295 ^^^ x < 4294967296 := Nat.xor_lt_two_pow (n := 32) (by omega) (by omega)
  have hx3 : 4294967295 ^^^ (x ^^^ y) < 4294967296 := Nat.xor_lt_two_pow (n := 32) (by omega) (by omega)
  have hx4 : (4294967295 ^^^ x) &&& y < 4294967296 := Nat.and_lt_two_pow (n := 32) _ (by omega)
  have hx5 : (4294967295 ^^^ (x ^^^ y)) &&& d < 4294967296 := Nat.and_lt_two_pow (n := 32) _ (by omega)
  have hx6 : ((4294967295 ^^^ x) &&& y) ||| ((4294967295 ^^^ (x ^^^ y)) &&& d) < 4294967296 := Nat.or_lt_two_pow (n := 32) (by omega) (by omega)
  rw [em, ed, xor_u32 x y hx hy, xor_u32 _ x (by omega) hx, xor_u32 _ _ (by omega) hx1, and_u32 _ _ hx2 hy, and_u32 _ _ hx3 hd, or_u32 _ _ hx4 hx5]
  have ht : (((4294967295 ^^^ x) &&& y) ||| ((4294967295 ^^^ (x ^^^ y)) &&& d)).testBit 31 = decide (b = 1) := by
    have e1 : (4294967295 : Nat).testBit 31 = true := by decide
    simp only [Nat.testBit_or, Nat.testBit_and, Nat.testBit_xor, e1, top_bit x hx, top_bit y hy, top_bit d hd]
    by_cases p1 : 2147483648 ≤ x <;> by_cases p2 : 2147483648 ≤ y <;> by_cases p3 : 2147483648 ≤ d <;> by_cases p4 : b = 1 <;> simp [p1, p2, p3, p4] <;> omega
  rw [top_bit _ hx6] at ht
  generalize ((4294967295 ^^^ x) &&& y) ||| ((4294967295 ^^^ (x ^^^ y)) &&& d) = r at *
  by_cases e : b = 1
  · simp [e] at ht; omega
  · simp [e] at ht; omega

theorem add32_any (x y c s c' : Nat) (hx : x < 4294967296) (hy : y < 4294967296) (hc : c < 2) (hs : s < 4294967296) (he : x + y + c = s + 4294967296 * c') (w : World) :
    Calls Tryd.prog 61 #[.int .u32 x, .int .u32 y, .int .u32 c] w fun e w' => e = .returned (.tuple #[.int .u32 s, .int .u32 c']) ∧ w = w' := by
  have HE := Lib.hid he
  clear he
  go_enter Tryd.func61, Tryd.ntmps61
  go_wp2
  go_ret2
  have he := HE.out
  exact ⟨ret2_int (by omega) (by omega), rfl⟩

theorem sub32_any (x y c d b : Nat) (hx : x < 4294967296) (hy : y < 4294967296) (hc : c < 2) (hd : d < 4294967296) (hb : b < 2) (he : x + 4294967296 * b = y + c + d) (w : World) :
    Calls Tryd.prog 73 #[.int .u32 x, .int .u32 y, .int .u32 c] w fun e w' => e = .returned (.tuple #[.int .u32 d, .int .u32 b]) ∧ w = w' := by
  have HK := Lib.hid (sub32_key x y c d b hx hy hc hd hb he)
  have HE := Lib.hid he
  clear he
  go_enter Tryd.func73, Tryd.ntmps73
  go_wp2
  go_ret2
  have he := HE.out
  exact ⟨ret2_int (by omega) HK.out, rfl⟩

/-- -1, 0, 1. -/
def cmpI (x y : Int) : Int := if x < y then -1 else if y < x then 1 else 0
theorem cmpI_cases (x y : Int) : (x < y ∧ cmpI x y = -1) ∨ (¬ x < y ∧ y < x ∧ cmpI x y = 1) ∨ (¬ x < y ∧ ¬ y < x ∧ cmpI x y = 0) := by
  unfold cmpI
  by_cases h1 : x < y
  · exact .inl ⟨h1, by simp [h1]⟩
  · by_cases h2 : y < x
    · exact .inr (.inl ⟨h1, h2, by simp [h1, h2]⟩)
    · exact .inr (.inr ⟨h1, h2, by simp [h1, h2]⟩)

theorem cmpInt_any (x y : Int) (w : World) :
    Calls Tryd.prog 44 #[.int .i64 x, .int .i64 y] w fun e w' => e = .returned (.int .i64 (cmpI x y)) ∧ w = w' := by
  rcases cmpI_cases x y with ⟨h1, e⟩ | ⟨h1, h2, e⟩ | ⟨h1, h2, e⟩ <;> rw [e] <;> clear e
  · go_enter Tryd.func44, Tryd.ntmps44
    go_wp2
    go_ret
    exact ⟨rfl, rfl⟩
  · go_enter Tryd.func44, Tryd.ntmps44
    go_wp2
    go_ret
    exact ⟨rfl, rfl⟩
  · go_enter Tryd.func44, Tryd.ntmps44
    go_wp2
    go_ret
    exact ⟨rfl, rfl⟩

theorem cmpU32_any (x y : Int) (w : World) :
    Calls Tryd.prog 64 #[.int .u32 x, .int .u32 y] w fun e w' => e = .returned (.int .i64 (cmpI x y)) ∧ w = w' := by
  rcases cmpI_cases x y with ⟨h1, e⟩ | ⟨h1, h2, e⟩ | ⟨h1, h2, e⟩ <;> rw [e] <;> clear e
  · go_enter Tryd.func64, Tryd.ntmps64
    go_wp2
    go_ret
    exact ⟨rfl, rfl⟩
  · go_enter Tryd.func64, Tryd.ntmps64
    go_wp2
    go_ret
    exact ⟨rfl, rfl⟩
  · go_enter Tryd.func64, Tryd.ntmps64
    go_wp2
    go_ret
    exact ⟨rfl, rfl⟩

theorem len8_nat (n : Nat) (h : n < 256) : Lib.len8 (n : Int) = (Lib.bitLen n : Int) := Lib.len8_eq ⟨n, h⟩
theorem bitLen_8 (n : Nat) (h : n < 256) : Lib.bitLen n ≤ 8 := Lib.bitLen_le8 ⟨n, h⟩

theorem len_wrap (y : Int) (h0 : 0 ≤ y) (h1 : y ≤ 255) : wrap64 (Lib.len8 y) = (Lib.bitLen y.toNat : Int) ∧ Lib.bitLen y.toNat ≤ 8 := by
  have l := Lib.bitLen_le8' y h0 h1
  rw [Lib.len8_of y h0 h1]
  exact ⟨IntWalk.wrap64_in _ ⟨by omega, by omega⟩, l⟩
theorem len_close0 (m : Nat) (y : Int) (h0 : 0 ≤ y) (h1 : y ≤ 255) (e : m = Lib.bitLen y.toNat) : wrap64 (wrap64 (Lib.len8 y)) = (m : Int) := by
  obtain ⟨e1, l⟩ := len_wrap y h0 h1
  rw [e1, e]
  exact IntWalk.wrap64_in _ ⟨by omega, by omega⟩
theorem len_close (k : Int) (m : Nat) (y : Int) (h0 : 0 ≤ y) (h1 : y ≤ 255) (k0 : 0 ≤ k) (k1 : k ≤ 24) (e : (m : Int) = k + (Lib.bitLen y.toNat : Int)) : wrap64 (k + wrap64 (Lib.len8 y)) = (m : Int) := by
  obtain ⟨e1, l⟩ := len_wrap y h0 h1
  rw [e1, e]
  exact IntWalk.wrap64_in _ ⟨by omega, by omega⟩
theorem len_at (x : Int) (k d : Nat) (h : Lib.bitLen x.toNat = k + Lib.bitLen (x.toNat / d)) (y : Int) (hy : y.toNat = x.toNat / d) : ((Lib.bitLen x.toNat : Nat) : Int) = (k : Int) + (Lib.bitLen y.toNat : Int) := by
  rw [h, hy]; omega

set_option maxHeartbeats 4000000 in
set_option maxRecDepth 100000 in
theorem len32_int (x : Int) (w : World) (h0 : 0 ≤ x) (h1 : x < 4294967296) :
    Calls Tryd.prog 75 #[.int .u32 x] w fun e w' => e = .returned (.int .i64 (Lib.bitLen x.toNat : Nat)) ∧ w = w' := by
  by_cases c1 : x < 65536
  · by_cases c2 : x < 256
    · have b1 : x ≤ 255 := by omega
      go_enter Tryd.func75, Tryd.ntmps75
      go_wp2
      go_ret
      refine ⟨ret_int ?_, rfl⟩
      exact len_close0 _ _ h0 b1 rfl
    · have b1 : x / 256 ≤ 255 := by omega
      have b2 : 0 ≤ x / 256 := by omega
      go_enter Tryd.func75, Tryd.ntmps75
      go_wp2
      go_ret
      refine ⟨ret_int ?_, rfl⟩
      exact len_close 8 _ _ b2 b1 (by omega) (by omega) (len_at x 8 256 (Lib.bitLen_shift8 x.toNat (by omega) (by omega)) _ (by omega))
  · by_cases c2 : x < 16777216
    · have b1 : x / 65536 ≤ 255 := by omega
      have b2 : 0 ≤ x / 65536 := by omega
      go_enter Tryd.func75, Tryd.ntmps75
      go_wp2
      go_ret
      refine ⟨ret_int ?_, rfl⟩
      exact len_close 16 _ _ b2 b1 (by omega) (by omega) (len_at x 16 65536 (Lib.bitLen_shift16 x.toNat (by omega) (by omega)) _ (by omega))
    · have b1 : x / 65536 / 256 ≤ 255 := by omega
      have b2 : 0 ≤ x / 65536 / 256 := by omega
      go_enter Tryd.func75, Tryd.ntmps75
      go_wp2
      go_ret
      refine ⟨ret_int ?_, rfl⟩
      exact len_close 24 _ _ b2 b1 (by omega) (by omega) (len_at x 24 16777216 (Lib.bitLen_shift24 x.toNat (by omega) (by omega)) _ (by omega))

theorem len32_any (x : Nat) (w : World) (h1 : x < 4294967296) :
    Calls Tryd.prog 75 #[.int .u32 x] w fun e w' => e = .returned (.int .i64 (Lib.bitLen x : Nat)) ∧ w = w' := by
  have := len32_int x w (by omega) (by omega)
  rwa [Int.toNat_natCast] at this

/-- the table in its variable. -/
def Tab (w : World) : Prop := ∀ j, j < 32 → w.cell? ⟨0, j, none⟩ = some (.int .u8 (Lib.deBruijn32tab.getD j 0))

set_option maxHeartbeats 1000000 in
theorem tz32_core (x k idx : Nat) (w : World) (hx0 : ((x : Int) == 0) = false)
    (key : bits BinOp.and IntKind.u32 (x : Int) (-(x : Int) % 4294967296) * 125613361 % 4294967296 / 134217728 = (idx : Int))
    (hi : idx < 32) (hk : k < 32) (hcell : w.cell? ⟨0, idx, none⟩ = some (.int .u8 k)) :
    Calls Tryd.prog 76 #[.int .u32 x] w fun e w' => e = .returned (.int .i64 k) ∧ w = w' := by
  go_enter Tryd.func76, Tryd.ntmps76
  go_wp2_with (simp only [key])
  go_ret
  exact ⟨rfl, rfl⟩

theorem tz32_key (x a : Nat) (hx : x < 4294967296) (hx0 : x ≠ 0) (hlow : x &&& (4294967296 - x) = a) :
    bits BinOp.and IntKind.u32 (x : Int) (-(x : Int) % 4294967296) * 125613361 % 4294967296 / 134217728 = ((a * 125613361 % 4294967296 / 134217728 : Nat) : Int) := by
  have e1 : -(x : Int) % 4294967296 = ((4294967296 - x : Nat) : Int) := by omega
  rw [e1, and_u32 x _ hx (by omega), hlow]
  omega

theorem tz32_any (x : Nat) (hx : x < 4294967296) (hx0 : x ≠ 0) (w : World) (hT : Tab w) :
    Calls Tryd.prog 76 #[.int .u32 x] w fun e w' => e = .returned (.int .i64 (Lib.ctz 32 x : Nat)) ∧ w = w' := by
  obtain ⟨hlow, hk⟩ := Lib.lowest_bit 32 x hx0 hx
  obtain ⟨hi, htab⟩ := Lib.deBruijn32_at _ hk
  have hcell := hT _ hi
  rw [htab] at hcell
  exact tz32_core x _ _ w (by simp; omega) (tz32_key x _ hx hx0 hlow) hi hk hcell
end Go.Proofs.YthaehfdjldjdiaaDoor
