/-
  The walks of nat.cut, nat.part, nat.both.
  The walks of the library's functions that nat calls: bits.Add32, Sub32, Len32, TrailingZeros32, cmp.Compare.
  What the walks of nat lean on: make of a row of zeros; numbers as arguments and as results.
-/
import Derived.Test.YtcfmgoilncninaaProg
import Derived.Test.YtcfmgoilncninaaMA
import Derived.Outline
import Derived.Deep.DeepFit
import Derived.Lib.Strings
import Derived.Lib.Slices
import Derived.Lib.Small
import Derived.Lib.Walk
import Derived.Lib.BitFns
import Derived.Lib.TrailingZeros
import Derived.Laws.Bits64b
import Derived.OwnWalk
import Derived.Laws.MakeOwn
namespace Go.Proofs.Ytcfmgoilncninaa
open Go.RowKit
set_option linter.unusedVariables false

def CutPost (w : World) (A : Option Addr) (n : Nat) (xs : List Nat) (e : Ending) (w' : World) : Prop :=
  ∃ m, m ≤ n ∧ CutAt xs m ∧ e = .returned (.slice A m m) ∧ w = w'

set_option maxHeartbeats 400000 in
theorem cut_any (A : Option Addr) (n c B : Nat) (xs : List Nat) (w : World) (h : NR w B A n xs) (hnc : n ≤ c) (hc : c ≤ maxLen) :
    Calls Try.prog 136 #[.slice A n c] w (CutPost w A n xs) := by
  unfold maxLen at hc
  have hlen := h.len
  have HL := Lib.hid hlen
  clear hlen
  go_enter Try.func136, Try.ntmps136
  go_wp2
  go_loop [3] (fun t => ∃ m : Nat, m ≤ n ∧ (∀ j, m ≤ j → xs.getD j 0 = 0) ∧ t = .int .i64 m) (fun t => (intOf t).toNat)
  case atStart => exact ⟨n, Nat.le_refl _, fun j hj => getD_ge HL.out hj, rfl⟩
  case round =>
    obtain ⟨m, hm, hz, rfl⟩ := hrel
    have HZ := Lib.hid hz
    clear hz
    by_cases h0 : m = 0
    · subst h0
      go_wp2
      go_ret
      exact ⟨0, by omega, ⟨HZ.out, by omega⟩, rfl, rfl⟩
    · obtain ⟨b, off, x, rfl, hb, HX, hlt, hcell⟩ := h.look (k := m - 1) (by omega)
      by_cases hx : x = 0
      · subst hx
        go_wp2
        go_round
        case rel =>
          refine ⟨m - 1, by omega, fun j hj => ?_, by go_num⟩
          by_cases e : j = m - 1
          · rw [e]; exact HX.out
          · exact HZ.out j (by omega)
        case measure => simp [intOf]; omega
      · have hne : ((x : Int) == 0) = false := by simp; exact hx
        go_wp2
        go_ret
        exact ⟨m, hm, ⟨HZ.out, fun _ => by rw [HX.out]; exact hx⟩, rfl, rfl⟩

/-- what both tells of two slices. -/
def BothPost (w : World) (A1 A2 : Option Addr) (n1 n2 : Nat) (xs ys : List Nat) (e : Ending) (w' : World) : Prop :=
  ∃ m1 m2, m1 ≤ n1 ∧ m2 ≤ n2 ∧ CutAt xs m1 ∧ CutAt ys m2 ∧ e = .returned (.tuple #[.slice A1 m1 m1, .slice A2 m2 m2]) ∧ w = w'

theorem part_any (A : Option Addr) (n c B : Nat) (xs : List Nat) (w : World) (h : NR w B A n xs) (hnc : n ≤ c) (hc : c ≤ maxLen) (i : Int) (hi : 0 ≤ i) :
    Calls Try.prog 140 #[.slice A n c, .int .i64 i] w fun e w' => e = .returned (.int .u32 ((xs.getD i.toNat 0 : Nat) : Int)) ∧ w = w' := by
  unfold maxLen at hc
  have HL := Lib.hid h.len
  obtain ⟨k, rfl⟩ := Int.eq_ofNat_of_zero_le hi
  rw [Int.toNat_natCast]
  by_cases hk : k < n
  · obtain ⟨b, off, x, rfl, hb, HX, hlt, hcell⟩ := h.look hk
    rw [HX.out]
    go_enter Try.func140, Try.ntmps140
    go_wp2
    go_ret
    exact ⟨rfl, rfl⟩
  · rw [getD_ge HL.out (by omega)]
    go_enter Try.func140, Try.ntmps140
    go_wp2
    go_ret
    exact ⟨rfl, rfl⟩
end Go.Proofs.Ytcfmgoilncninaa

namespace Go.Proofs.Ytcfmgoilncninaa
open Go.RowKit
set_option linter.unusedVariables false

theorem ret_int {k : IntKind} {a b : Int} (h : a = b) : Ending.returned (.int k a) = .returned (.int k b) := by rw [h]
theorem ret2_int {k l : IntKind} {a a' b b' : Int} (h1 : a = a') (h2 : b = b') : Ending.returned (.tuple #[.int k a, .int l b]) = .returned (.tuple #[.int k a', .int l b']) := by rw [h1, h2]

theorem wrap_u32 (n : Int) : IntKind.u32.wrap n = n % 4294967296 := by simp [IntKind.wrap, IntKind.signed, IntKind.bits]
theorem ofInt32 (a : Nat) (ha : a < 4294967296) : (BitVec.ofInt 32 (a : Int)).toNat = a := by
  rw [BitVec.ofInt_natCast, BitVec.toNat_ofNat]; exact Nat.mod_eq_of_lt (by omega)
theorem and_u32 (a b : Nat) (ha : a < 4294967296) (hb : b < 4294967296) : bits .and .u32 (a : Int) (b : Int) = ((a &&& b : Nat) : Int) := by
  have hx : a &&& b < 2 ^ 32 := Nat.and_lt_two_pow _ (by omega)
  show IntKind.u32.wrap ((BitVec.ofInt 32 (a : Int) &&& BitVec.ofInt 32 (b : Int)).toNat : Int) = _
  rw [BitVec.toNat_and, ofInt32 a ha, ofInt32 b hb, wrap_u32]
  omega
theorem or_u32 (a b : Nat) (ha : a < 4294967296) (hb : b < 4294967296) : bits .or .u32 (a : Int) (b : Int) = ((a ||| b : Nat) : Int) := by
  have hx : a ||| b < 2 ^ 32 := Nat.or_lt_two_pow (by omega) (by omega)
  show IntKind.u32.wrap ((BitVec.ofInt 32 (a : Int) ||| BitVec.ofInt 32 (b : Int)).toNat : Int) = _
  rw [BitVec.toNat_or, ofInt32 a ha, ofInt32 b hb, wrap_u32]
  omega
theorem xor_u32 (a b : Nat) (ha : a < 4294967296) (hb : b < 4294967296) : bits .xor .u32 (a : Int) (b : Int) = ((a ^^^ b : Nat) : Int) := by
  have hx : a ^^^ b < 2 ^ 32 := Nat.xor_lt_two_pow (by omega) (by omega)
  show IntKind.u32.wrap ((BitVec.ofInt 32 (a : Int) ^^^ BitVec.ofInt 32 (b : Int)).toNat : Int) = _
  rw [BitVec.toNat_xor, ofInt32 a ha, ofInt32 b hb, wrap_u32]
  omega
theorem top_bit (n : Nat) (h : n < 4294967296) : n.testBit 31 = decide (2147483648 ≤ n) := by
  rw [Nat.testBit_eq_decide_div_mod_eq]
  by_cases e : 2147483648 ≤ n
  · have : n / 2 ^ 31 % 2 = 1 := by omega
    simp [this, e]
  · have : n / 2 ^ 31 % 2 = 0 := by omega
    simp [this, e]
theorem sub32_key (x y c d b : Nat) (hx : x < 4294967296) (hy : y < 4294967296) (hc : c < 2) (hd : d < 4294967296) (hb : b < 2) (he : x + 4294967296 * b = y + c + d) :
    bits BinOp.or IntKind.u32 (bits BinOp.and IntKind.u32 (bits BinOp.xor IntKind.u32 IntKind.u32.max (x : Int)) (y : Int))
      (bits BinOp.and IntKind.u32 (bits BinOp.xor IntKind.u32 IntKind.u32.max (bits BinOp.xor IntKind.u32 (x : Int) (y : Int))) (((x : Int) - y - c) % 4294967296)) / 2147483648 = (b : Int) := by
  have em : IntKind.u32.max = ((4294967295 : Nat) : Int) := by decide
  have ed : ((x : Int) - y - c) % 4294967296 = (d : Int) := by omega
  have hx1 : x ^^^ y < 4294967296 := Nat.xor_lt_two_pow (n := 32) (by omega) (by omega)
  have hx2 : 4294967295 ^^^ x < 4294967296 := Nat.xor_lt_two_pow (n := 32) (by omega) (by omega)
  have hx3 : 4294967295 ^^^ (x ^^^ y) < 4294967296 := Nat.xor_lt_two_pow (n := 32) (by omega) (by omega)
  have hx4 : (4294967295 ^^^ x) &&& y < 4294967296 := Nat.and_lt_two_pow (n := 32) _ (by omega)
  have hx5 : (4294967295 ^^^ (x ^^^ y)) &&& d < 4294967296 := Nat.and_lt_two_pow (n := 32) _ (by omega)
  have hx6 : ((4294967295 ^^^ x) &&& y) ||| ((4294967295 ^^^ (x ^^^ y)) &&& d) < 4294967296 := Nat.or_lt_two_pow (n := 32) (by omega) (by omega)
  rw [em, ed, xor_u32 x y hx hy, xor_u32 _ x (by omega) hx, xor_u32 _ _ (by omega) hx1, and_u32 _ _ hx2 hy, and_u32 _ _ hx3 hd, or_u32 _ _ hx4 hx5]
  have ht : (((4294967295 ^^^ x) &&& y) ||| ((4294967295 ^^^ (x ^^^ y)) &&& d)).testBit 31 = decide (b = 1) := by
    have e1 : (4294967295 : Nat).testBit 31 = true := by decide
    simp only [Nat.testBit_or, Nat.testBit_and, Nat.testBit_xor, e1, top_bit x hx, top_bit y hy, top_bit d hd]
    by_cases p1 : 2147483648 ≤ x <;> by_cases p2 : 2147483648 ≤ y <;> by_cases p3 : 2147483648 ≤ d <;> by_cases p4 : b = 1 <;> simp [p1, p2, p3, p4] <;> omega
  rw [top_bit _ hx6] at ht
  generalize ((4294967295 ^^^ x) &&& y) ||| ((4294967295 ^^^ (x ^^^ y)) &&& d) = r at *
  by_cases e : b = 1
  · simp [e] at ht; omega
  · simp [e] at ht; omega

/-- -1, 0, 1. -/
def cmpI (x y : Int) : Int := if x < y then -1 else if y < x then 1 else 0
theorem cmpI_cases (x y : Int) : (x < y ∧ cmpI x y = -1) ∨ (¬ x < y ∧ y < x ∧ cmpI x y = 1) ∨ (¬ x < y ∧ ¬ y < x ∧ cmpI x y = 0) := by
  unfold cmpI
  by_cases h1 : x < y
  · exact .inl ⟨h1, by simp [h1]⟩
  · by_cases h2 : y < x
    · exact .inr (.inl ⟨h1, h2, by simp [h1, h2]⟩)
    · exact .inr (.inr ⟨h1, h2, by simp [h1, h2]⟩)

theorem len8_nat (n : Nat) (h : n < 256) : Lib.len8 (n : Int) = (Lib.bitLen n : Int) := Lib.len8_eq ⟨n, h⟩
theorem bitLen_8 (n : Nat) (h : n < 256) : Lib.bitLen n ≤ 8 := Lib.bitLen_le8 ⟨n, h⟩

theorem len_wrap (y : Int) (h0 : 0 ≤ y) (h1 : y ≤ 255) : wrap64 (Lib.len8 y) = (Lib.bitLen y.toNat : Int) ∧ Lib.bitLen y.toNat ≤ 8 := by
  have l := Lib.bitLen_le8' y h0 h1
  rw [Lib.len8_of y h0 h1]
  exact ⟨IntWalk.wrap64_in _ ⟨by omega, by omega⟩, l⟩
theorem len_close0 (m : Nat) (y : Int) (h0 : 0 ≤ y) (h1 : y ≤ 255) (e : m = Lib.bitLen y.toNat) : wrap64 (wrap64 (Lib.len8 y)) = (m : Int) := by
  obtain ⟨e1, l⟩ := len_wrap y h0 h1
  rw [e1, e]
  exact IntWalk.wrap64_in _ ⟨by omega, by omega⟩
theorem len_close (k : Int) (m : Nat) (y : Int) (h0 : 0 ≤ y) (h1 : y ≤ 255) (k0 : 0 ≤ k) (k1 : k ≤ 24) (e : (m : Int) = k + (Lib.bitLen y.toNat : Int)) : wrap64 (k + wrap64 (Lib.len8 y)) = (m : Int) := by
  obtain ⟨e1, l⟩ := len_wrap y h0 h1
  rw [e1, e]
  exact IntWalk.wrap64_in _ ⟨by omega, by omega⟩
theorem len_at (x : Int) (k d : Nat) (h : Lib.bitLen x.toNat = k + Lib.bitLen (x.toNat / d)) (y : Int) (hy : y.toNat = x.toNat / d) : ((Lib.bitLen x.toNat : Nat) : Int) = (k : Int) + (Lib.bitLen y.toNat : Int) := by
  rw [h, hy]; omega

set_option maxHeartbeats 4000000 in
set_option maxRecDepth 100000 in
theorem len32_int (x : Int) (w : World) (h0 : 0 ≤ x) (h1 : x < 4294967296) :
    Calls Try.prog 151 #[.int .u32 x] w fun e w' => e = .returned (.int .i64 (Lib.bitLen x.toNat : Nat)) ∧ w = w' := by
  by_cases c1 : x < 65536
  · by_cases c2 : x < 256
    · have b1 : x ≤ 255 := by omega
      go_enter Try.func151, Try.ntmps151
      go_wp2
      go_ret
      refine ⟨ret_int ?_, rfl⟩
      exact len_close0 _ _ h0 b1 rfl
    · have b1 : x / 256 ≤ 255 := by omega
      have b2 : 0 ≤ x / 256 := by omega
      go_enter Try.func151, Try.ntmps151
      go_wp2
      go_ret
      refine ⟨ret_int ?_, rfl⟩
      exact len_close 8 _ _ b2 b1 (by omega) (by omega) (len_at x 8 256 (Lib.bitLen_shift8 x.toNat (by omega) (by omega)) _ (by omega))
  · by_cases c2 : x < 16777216
    · have b1 : x / 65536 ≤ 255 := by omega
      have b2 : 0 ≤ x / 65536 := by omega
      go_enter Try.func151, Try.ntmps151
      go_wp2
      go_ret
      refine ⟨ret_int ?_, rfl⟩
      exact len_close 16 _ _ b2 b1 (by omega) (by omega) (len_at x 16 65536 (Lib.bitLen_shift16 x.toNat (by omega) (by omega)) _ (by omega))
    · have b1 : x / 65536 / 256 ≤ 255 := by omega
      have b2 : 0 ≤ x / 65536 / 256 := by omega
      go_enter Try.func151, Try.ntmps151
      go_wp2
      go_ret
      refine ⟨ret_int ?_, rfl⟩
      exact len_close 24 _ _ b2 b1 (by omega) (by omega) (len_at x 24 16777216 (Lib.bitLen_shift24 x.toNat (by omega) (by omega)) _ (by omega))

theorem len32_any (x : Nat) (w : World) (h1 : x < 4294967296) :
    Calls Try.prog 151 #[.int .u32 x] w fun e w' => e = .returned (.int .i64 (Lib.bitLen x : Nat)) ∧ w = w' := by
  have := len32_int x w (by omega) (by omega)
  rwa [Int.toNat_natCast] at this

theorem tz32_key (x a : Nat) (hx : x < 4294967296) (hx0 : x ≠ 0) (hlow : x &&& (4294967296 - x) = a) :
    bits BinOp.and IntKind.u32 (x : Int) (-(x : Int) % 4294967296) * 125613361 % 4294967296 / 134217728 = ((a * 125613361 % 4294967296 / 134217728 : Nat) : Int) := by
  have e1 : -(x : Int) % 4294967296 = ((4294967296 - x : Nat) : Int) := by omega
  rw [e1, and_u32 x _ hx (by omega), hlow]
  omega

end Go.Proofs.Ytcfmgoilncninaa

namespace Go.Proofs.Ytcfmgoilncninaa
open Go.RowKit
set_option linter.unusedVariables false

theorem made_one (z : Value) (n : Nat) : madeCells #[z] n = (List.replicate n z).toArray := by
  apply Array.ext
  · simp [madeCells]
  · intro i h1 h2
    simp [madeCells, Nat.mod_one]

/-- make([]T, n), an element being one cell whose zero is z: a new block of n zeros. -/
theorem wpList_zeros {P : Program} (w : World) {ops : Array Oper} {rest : List Oper} {o : Oper} {a : Act} {Q : Exit → Act → World → Prop}
    (hg : o.guard = none) (l c : Operand) (t : TypeId) (hop : o.op = Op.makeSlice t l c) (e : TypeId) (z : Value) (by_ : Nat)
    (h1 : P.underlying t = some (.slice e)) (h2 : (P.info? e).map (fun i => (i.zero, i.size, i.bytes)) = some (some z, 1, by_)) (hz : z.cells = #[z]) (hb : by_ ≤ 64)
    (L : Int) (n : Nat) (hl : a.eval l = .int .i64 L) (hc : a.eval c = .int .i64 L) (hL : L = (n : Int)) (hn : n ≤ 3000000)
    (hK : ∀ w', Own w' w.heap.size e (List.replicate n z) → Below w.heap.size w w' → w'.heap.size = w.heap.size + 1 → wpList P ops Q rest (a.put o.dst (.slice (some ⟨w.heap.size, 0, none⟩) n n)) w') :
    wpList P ops Q (o :: rest) a w := by
  refine wpList_plain hg fun K hK' => ?_
  obtain ⟨i, hi, i1, i2, i3⟩ := info_parts h2
  subst hL
  have hby : (i.bytes : Int) * (n : Int) ≤ 281474976710656 := by
    have : i.bytes * n ≤ 64 * 3000000 := Nat.mul_le_mul (by omega) hn
    have h : ((i.bytes * n : Nat) : Int) ≤ 281474976710656 := by omega
    rwa [Int.natCast_mul] at h
  have hrun := run_make (P := P) w t e i z h1 hi i1 .i64 .i64 n n (by omega) (by omega) hby (by omega)
  rw [Int.toNat_natCast, i2, Nat.mul_one, hz, made_one] at hrun
  unfold Oper.wp
  simp [execOp, hop, hl, hc, hrun, Result.andThen]
  exact hK' _ _ (hK _ (Own.made w e _) ((Below.refl _ _).alloc (Nat.le_refl _) _) (by simp))

theorem U_zeros (n : Nat) : List.replicate n (Value.int .u32 0) = U (List.replicate n 0) := by simp [U]

/-- The slice at A is an argument: the number x. -/
def Arg (w : World) (A : Option Addr) (n c x : Nat) : Prop := ∃ xs, NR w w.heap.size A n xs ∧ n ≤ c ∧ c ≤ maxLen ∧ val xs = x
/-- The slice at A tells the number x: no part 0 at its end. -/
def Res (w : World) (A : Option Addr) (n x : Nat) : Prop := ∃ xs, NR w w.heap.size A n xs ∧ Canon xs ∧ val xs = x

theorem Res.arg {w : World} {A : Option Addr} {n x : Nat} (h : Res w A n x) (hn : n ≤ 3000000) : Arg w A n n x := by
  obtain ⟨xs, h1, h2, h3⟩ := h
  exact ⟨xs, h1, Nat.le_refl _, by unfold maxLen; omega, h3⟩
theorem Res.on {w w' : World} {A : Option Addr} {n x : Nat} (h : Res w A n x) (hb : Below w.heap.size w w') : Res w' A n x := by
  obtain ⟨xs, h1, h2, h3⟩ := h
  exact ⟨xs, h1.on hb, h2, h3⟩
theorem Arg.on {w w' : World} {A : Option Addr} {n c x : Nat} (h : Arg w A n c x) (hb : Below w.heap.size w w') : Arg w' A n c x := by
  obtain ⟨xs, h1, h2⟩ := h
  exact ⟨xs, h1.on hb, h2⟩
theorem own_arg {w : World} {g n x : Nat} {t : TypeId} {ds : List Nat} (h : Own w g t (U ds)) (hd : Dg ds) (hl : ds.length = n) (hn : n ≤ 3000000) (hv : val ds = x) : Arg w (some ⟨g, 0, none⟩) n n x := by
  have h1 := h.nr hd
  rw [hl] at h1
  exact ⟨ds, h1, Nat.le_refl _, by unfold maxLen; omega, hv⟩
theorem Res.none_ (w : World) : Res w none 0 0 := ⟨[], ⟨⟨rfl, fun i u hu => by simp [U] at hu⟩, Dg.nil⟩, Canon.nil, rfl⟩
theorem Res.size {w : World} {A : Option Addr} {n x k : Nat} (h : Res w A n x) (hk : x < 4294967296 ^ k) : n ≤ k := by
  obtain ⟨xs, h1, h2, h3⟩ := h
  rw [← h1.len]
  exact h2.len_le (by rw [h3]; exact hk)

def CutN (w : World) (A : Option Addr) (n x : Nat) (e : Ending) (w' : World) : Prop := ∃ m, e = .returned (.slice A m m) ∧ Res w A m x ∧ m ≤ n ∧ w = w'
theorem cutN {A : Option Addr} {n c x : Nat} {w : World} (h : Arg w A n c x) :
    Calls Try.prog 136 #[.slice A n c] w (CutN w A n x) := by
  obtain ⟨xs, h1, h2, h3, h5⟩ := h
  refine (cut_any A n c _ xs w h1 h2 h3).mono ?_
  rintro e w' ⟨m, hm, hc, rfl, rfl⟩
  obtain ⟨c1, c2⟩ := cut_val h1.2 (by rw [h1.len]; exact hm) hc
  exact ⟨m, rfl, ⟨xs.take m, h1.take hm, c1, by rw [c2, h5]⟩, hm, rfl⟩
def BothN (w : World) (A1 A2 : Option Addr) (n1 n2 x y : Nat) (e : Ending) (w' : World) : Prop :=
  ∃ m1 m2, e = .returned (.tuple #[.slice A1 m1 m1, .slice A2 m2 m2]) ∧ Res w A1 m1 x ∧ Res w A2 m2 y ∧ m1 ≤ n1 ∧ m2 ≤ n2 ∧ w = w'
/-- a function that answers a number, in at most k parts. -/
def NatPost (w : World) (v k : Nat) (e : Ending) (w' : World) : Prop := ∃ A n, e = .returned (.slice A n n) ∧ Res w' A n v ∧ n ≤ k ∧ Below w.heap.size w w'
/-- a function that answers a number and OK. -/
def NatOk (w : World) (v k : Nat) (e : Ending) (w' : World) : Prop := ∃ A n, e = .returned (.tuple #[.slice A n n, .int .i64 0]) ∧ Res w' A n v ∧ n ≤ k ∧ Below w.heap.size w w'
/-- a function that answers an error and nothing. -/
def NatErr (w : World) (err : Int) (e : Ending) (w' : World) : Prop := e = .returned (.tuple #[.slice none 0 0, .int .i64 err]) ∧ Below w.heap.size w w'

theorem u32_info : (Try.prog.info? 127).map (fun i => (i.zero, i.size, i.bytes)) = some (some (.int .u32 0), 1, 4) := by kernel_rfl
end Go.Proofs.Ytcfmgoilncninaa
