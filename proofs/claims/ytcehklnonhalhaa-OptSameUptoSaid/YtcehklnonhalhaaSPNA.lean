/-
  What the proofs of OptSame need: NA NB.
-/
import Derived.Test.YtcehklnonhalhaaProg
import Derived.Test.YtcehklnonhalhaaSPMA
import Derived.Outline
import Derived.Deep.DeepFit
import Derived.Lib.Strings
import Derived.Lib.Slices
import Derived.Lib.Small
import Derived.Lib.Walk
import Derived.Lib.BitFns
import Derived.Lib.TrailingZeros
import Derived.Laws.Bits64b
import Derived.OwnWalk
import Derived.Laws.MakeOwn
import Derived.Deep.QuietTactic
import Derived.BigQuiet
set_option linter.unusedVariables false
namespace Go.Proofs.Ytcehklnonhalhaa
open Go.RowKit
theorem made_one (z : Value) (n : Nat) : madeCells #[z] n = (List.replicate n z).toArray := by
 apply Array.ext
 ·simp [madeCells]
 ·intro i h1 h2
  simp [madeCells, Nat.mod_one]
theorem wpList_zeros {P : Program} (w : World) {ops : Array Oper} {rest : List Oper} {o : Oper} {a : Act} {Q : Exit → Act → World → Prop}
  (hg : o.guard = none) (l c : Operand) (t : TypeId) (hop : o.op = Op.makeSlice t l c) (e : TypeId) (z : Value) (by_ : Nat)
  (h1 : P.underlying t = some (.slice e)) (h2 : (P.info? e).map (fun i => (i.zero, i.size, i.bytes)) = some (some z, 1, by_)) (hz : z.cells = #[z]) (hb : by_ ≤ 64)
  (L : Int) (n : Nat) (hl : a.eval l = .int .i64 L) (hc : a.eval c = .int .i64 L) (hL : L = (n : Int)) (hn : n ≤ 3000000)
  (hK : ∀ w', Own w' w.heap.size e (List.replicate n z) → Below w.heap.size w w' → w'.heap.size = w.heap.size + 1 → wpList P ops Q rest (a.put o.dst (.slice (some ⟨w.heap.size, 0, none⟩) n n)) w') :
  wpList P ops Q (o :: rest) a w := by
 refine wpList_plain hg fun K hK' => ?_
 obtain ⟨i, hi, i1, i2, i3⟩ := info_parts h2
 subst hL
 have hby : (i.bytes : Int) * (n : Int) ≤ 281474976710656 := by
  have : i.bytes * n ≤ 64 * 3000000 := Nat.mul_le_mul (by omega) hn
  have h : ((i.bytes * n : Nat) : Int) ≤ 281474976710656 := by omega
  rwa [Int.natCast_mul] at h
 have hrun := run_make (P := P) w t e i z h1 hi i1 .i64 .i64 n n (by omega) (by omega) hby (by omega)
 rw [Int.toNat_natCast, i2, Nat.mul_one, hz, made_one] at hrun
 unfold Oper.wp
 simp [execOp, hop, hl, hc, hrun, Result.andThen]
 exact hK' _ _ (hK _ (Own.made w e _) ((Below.refl _ _).alloc (Nat.le_refl _) _) (by simp))
def Arg (w : World) (A : Option Addr) (n c x : Nat) : Prop := ∃ xs, NR w w.heap.size A n xs ∧ n ≤ c ∧ c ≤ maxLen ∧ val xs = x
def Res (w : World) (A : Option Addr) (n x : Nat) : Prop := ∃ xs, NR w w.heap.size A n xs ∧ Canon xs ∧ val xs = x
theorem Res.arg {w : World} {A : Option Addr} {n x : Nat} (h : Res w A n x) (hn : n ≤ 3000000) : Arg w A n n x := by
 obtain ⟨xs, h1, h2, h3⟩ := h
 exact ⟨xs, h1, Nat.le_refl _, by unfold maxLen; omega, h3⟩
theorem Arg.on {w w' : World} {A : Option Addr} {n c x : Nat} (h : Arg w A n c x) (hb : Below w.heap.size w w') : Arg w' A n c x := by
 obtain ⟨xs, h1, h2⟩ := h
 exact ⟨xs, h1.on hb, h2⟩
theorem Res.none_ (w : World) : Res w none 0 0 := ⟨[], ⟨⟨rfl, fun i u hu => by simp [U] at hu⟩, Dg.nil⟩, Canon.nil, rfl⟩
theorem u32_info : (Try.prog.info? 136).map (fun i => (i.zero, i.size, i.bytes)) = some (some (.int .u32 0), 1, 4) := by kernel_rfl
def SamePost (w : World) (xs ys : List Nat) (e : Ending) (w' : World) : Prop := ∃ d : Nat, e = .returned (.bool (decide (xs = ys))) ∧ w' = w.drewN d
theorem list_ext_getD : ∀ xs ys : List Nat, xs.length = ys.length → (∀ j, j < xs.length → xs.getD j 0 = ys.getD j 0) → xs = ys
 | [], [], _, _ => rfl
 | [], y :: ys, h, _ => by simp at h
 | x :: xs, [], h, _ => by simp at h
 | x :: xs, y :: ys, h, hj => by
  have h0 : x = y := hj 0 (by simp)
  rw [h0, list_ext_getD xs ys (by simpa using h) (fun j h' => hj (j + 1) (by simpa using h'))]
set_option maxHeartbeats 400000 in
theorem same_any {A1 A2 : Option Addr} {n1 c1 n2 c2 B : Nat} {xs ys : List Nat} {w : World} (h1 : NR w B A1 n1 xs) (h2 : NR w B A2 n2 ys) (s1 : n1 ≤ 2000000) (s2 : n2 ≤ 2000000) :
  Calls Try.prog 77 #[.slice A1 n1 c1, .slice A2 n2 c2] w (SamePost w xs ys) := by
 have L1 := Lib.hid h1.len
 have L2 := Lib.hid h2.len
 by_cases hne : n1 = n2
 ·subst hne
  go_enter Try.func77, Try.ntmps77
  go_wp2_with fail
  go_loopw [5] (fun i wr => ∃ k d : Nat, k ≤ n1 ∧ (∀ j, j < k → xs.getD j 0 = ys.getD j 0) ∧ i = .int .i64 k ∧ wr = w.drewN d) (fun i _ => n1 - (intOf i).toNat)
  case atStart => exact ⟨0, 0, Nat.zero_le _, fun j hj => by omega, rfl, rfl⟩
  case round =>
   obtain ⟨k, d, hk, hz, rfl, rfl⟩ := hrel
   have HZ := Lib.hid hz
   clear hz
   by_cases hlt : k < n1
   ·obtain ⟨b1, o1, t1, rfl, hb1, X1, l1, cell1⟩ := h1.look hlt
    obtain ⟨b2, o2, t2, rfl, hb2, X2, l2, cell2⟩ := h2.look hlt
    by_cases ht : t1 = t2
    ·subst ht
     go_wp2_with fail
     go_quiet (fail)
     go_wp2_with fail
     go_roundw
     case rel =>
      refine ⟨k + 1, _, by omega, fun j hj => ?_, by go_num, rfl⟩
      by_cases e : j = k
      ·rw [e, X1.out, X2.out]
      ·exact HZ.out j (by omega)
     case measure => simp [intOf]; omega
    ·have hn : ((t1 : Int) != (t2 : Int)) = true := by rw [bne_iff_ne]; omega
     go_wp2_with fail
     go_quiet (fail)
     go_wp2_with fail
     go_ret
     have e1 : decide (xs = ys) = false := decide_eq_false (fun e => ht (by rw [← X1.out, ← X2.out, e]))
     exact ⟨d + nq, by rw [e1]; rfl, by rw [World.drewN_drewN]⟩
   ·go_wp2_with fail
    go_ret
    have e1 : decide (xs = ys) = true := decide_eq_true (list_ext_getD xs ys (by rw [L1.out, L2.out]) (fun j hj => HZ.out j (by rw [L1.out] at hj; omega)))
    exact ⟨d, by rw [e1]; rfl, rfl⟩
 ·have hn : ((n1 : Int) != (n2 : Int)) = true := by rw [bne_iff_ne]; omega
  have E1 := Lib.hid (show decide (xs = ys) = false from decide_eq_false (fun e => hne (by rw [← L1.out, ← L2.out, e])))
  go_enter Try.func77, Try.ntmps77
  go_wp2_with fail
  go_ret
  exact ⟨0, by rw [E1.out]; rfl, rfl⟩
end Go.Proofs.Ytcehklnonhalhaa
