
/-
  The walks of nat's Of, Word, Cmp.
-/
import Derived.Test.YthaehfdjldjdiaaDoorNata
namespace Go.Proofs.YthaehfdjldjdiaaDoor
open Go.RowKit
set_option linter.unusedVariables false

theorem U_two (a b : Nat) : #[Value.int .u32 (a : Int), Value.int .u32 (b : Int)] = (U [a, b]).toArray := rfl

set_option maxHeartbeats 400000 in
theorem of_any (n : Nat) (hn : n < 18446744073709551616) (w : World) :
    Calls Tryd.prog 56 #[.int .u64 n] w (NatPost w n 2) := by
  have e1 : ((n % 4294967296 : Nat) : Int) = (n : Int) % 4294967296 := by omega
  have e2 : ((n / 4294967296 : Nat) : Int) = (n : Int) / 4294967296 := by omega
  have ha : Arg (w.alloc (.cells #[.int .u32 ((n : Int) % 4294967296), .int .u32 ((n : Int) / 4294967296)] 61)) (some ⟨w.heap.size, 0, none⟩) 2 2 n := by
    rw [← e1, ← e2, U_two]
    refine ⟨[n % 4294967296, n / 4294967296], (Own.made w _ _).nr (Dg.mk (by omega) (Dg.mk (by omega) Dg.nil)), by omega, by unfold maxLen; omega, ?_⟩
    simp only [val]
    omega
  have HA := Lib.hid ha
  clear ha e1 e2
  go_enter Tryd.func56, Tryd.ntmps56
  go_wp2_with fail
  refine (cutN HA.out).mono ?_
  rintro e w' ⟨m, rfl, hr, hm, rfl⟩
  go_wp2_with fail
  go_ret
  exact ⟨_, m, rfl, hr, hm, (Below.refl _ _).alloc (Nat.le_refl _) _⟩

theorem or_u64 (a b : Nat) (ha : a < 18446744073709551616) (hb : b < 18446744073709551616) : bits .or .u64 (a : Int) (b : Int) = ((a ||| b : Nat) : Int) := by
  have hx : a ||| b < 2 ^ 64 := Nat.or_lt_two_pow (by omega) (by omega)
  have h1 : ∀ a : Nat, a < 18446744073709551616 → (BitVec.ofInt 64 (a : Int)).toNat = a := fun a ha => by
    rw [BitVec.ofInt_natCast, BitVec.toNat_ofNat]; exact Nat.mod_eq_of_lt (by omega)
  show IntKind.u64.wrap ((BitVec.ofInt 64 (a : Int) ||| BitVec.ofInt 64 (b : Int)).toNat : Int) = _
  rw [BitVec.toNat_or, h1 a ha, h1 b hb, IntKind.wrap_u64]
  omega
theorem or_add (a b : Nat) (hb : b < 4294967296) : a * 4294967296 ||| b = a * 4294967296 + b := by
  have := Nat.two_pow_add_eq_or_of_lt (i := 32) (b := b) (by omega) a
  rw [Nat.mul_comm]; exact this.symm
theorem word_key (a b : Nat) (ha : a < 4294967296) (hb : b < 4294967296) : bits BinOp.or IntKind.u64 ((a : Int) * 4294967296) (b : Int) = ((a * 4294967296 + b : Nat) : Int) := by
  have e : (a : Int) * 4294967296 = ((a * 4294967296 : Nat) : Int) := by omega
  rw [e, or_u64 _ b (by omega) (by omega), or_add a b hb]
theorem val_two (xs : List Nat) (h : Dg xs) (hv : val xs < 18446744073709551616) : val xs = xs.getD 1 0 * 4294967296 + xs.getD 0 0 := by
  have h0 := val_at xs h 0
  have h1 := val_at xs h 1
  rw [Nat.pow_zero, Nat.div_one] at h0
  rw [Nat.pow_one] at h1
  omega

theorem quiet_at {P : Program} {f : FuncId} {args : Array Value} {W W0 : World} {v : Value} (h : Calls P f args W fun e w' => e = .returned v ∧ W = w') (hW : ∃ n, W = W0.drewN n) :
    Calls P f args W fun e w'' => e = .returned v ∧ ∃ m, w'' = W0.drewN m :=
  h.mono fun _ _ ⟨he, hw⟩ => ⟨he, by subst hw; exact hW⟩
def CmpPost (w : World) (x y : Nat) (e : Ending) (w' : World) : Prop := ∃ d : Nat, e = .returned (.int .i64 (cmpI x y)) ∧ w' = w.drewN d
theorem cmpI_of_lt {x y : Nat} (h : x < y) : cmpI x y = -1 := by unfold cmpI; rw [if_pos (by omega)]
theorem cmpI_of_gt {x y : Nat} (h : y < x) : cmpI x y = 1 := by unfold cmpI; rw [if_neg (by omega), if_pos (by omega)]
theorem cmpI_of_eq {x y : Nat} (h : x = y) : cmpI x y = 0 := by unfold cmpI; rw [if_neg (by omega), if_neg (by omega)]
theorem cmp_len {xs ys : List Nat} (hx : Canon xs) (hy : Canon ys) (h : xs.length ≠ ys.length) : cmpI (xs.length : Int) (ys.length : Int) = cmpI (val xs : Int) (val ys : Int) := by
  rcases Nat.lt_or_ge xs.length ys.length with h1 | h1
  · rw [cmpI_of_lt h1, cmpI_of_lt (Canon.shorter hx.1 hy h1)]
  · have h2 : ys.length < xs.length := by omega
    rw [cmpI_of_gt h2, cmpI_of_gt (Canon.shorter hy.1 hx h2)]
theorem val_congr : ∀ xs ys : List Nat, xs.length = ys.length → (∀ j, xs.getD j 0 = ys.getD j 0) → val xs = val ys
  | [], [], _, _ => rfl
  | [], y :: ys, h, _ => by simp at h
  | x :: xs, [], h, _ => by simp at h
  | x :: xs, y :: ys, h, hj => by
    have h0 : x = y := hj 0
    have h1 := val_congr xs ys (by simpa using h) (fun j => hj (j + 1))
    simp [val, h0, h1]
theorem drop_congr {xs ys : List Nat} (h : xs.length = ys.length) {k : Nat} (hj : ∀ j, k ≤ j → xs.getD j 0 = ys.getD j 0) : val (xs.drop k) = val (ys.drop k) :=
  val_congr _ _ (by rw [List.length_drop, List.length_drop, h]) (fun j => by rw [getD_drop, getD_drop]; exact hj _ (by omega))
theorem cmp_top {xs ys : List Nat} (hx : Dg xs) (hy : Dg ys) (h : xs.length = ys.length) {k : Nat} (hk : k < xs.length) (hj : ∀ j, k + 1 ≤ j → xs.getD j 0 = ys.getD j 0) (hne : xs.getD k 0 ≠ ys.getD k 0) :
    cmpI (xs.getD k 0 : Nat) (ys.getD k 0 : Nat) = cmpI (val xs : Nat) (val ys : Nat) := by
  have he := drop_congr h hj
  rcases Nat.lt_or_ge (xs.getD k 0) (ys.getD k 0) with h1 | h1
  · rw [cmpI_of_lt h1, cmpI_of_lt (top_less hx hy k he hk (by omega) h1)]
  · have h2 : ys.getD k 0 < xs.getD k 0 := by omega
    rw [cmpI_of_gt h2, cmpI_of_gt (top_less hy hx k he.symm (by omega) hk h2)]

set_option maxHeartbeats 400000 in
theorem cmp_any {A1 A2 : Option Addr} {n1 c1 n2 c2 x y : Nat} {w : World} (h1 : Arg w A1 n1 c1 x) (h2 : Arg w A2 n2 c2 y) (s1 : n1 ≤ 2000000) (s2 : n2 ≤ 2000000) :
    Calls Tryd.prog 36 #[.slice A1 n1 c1, .slice A2 n2 c2] w (CmpPost w x y) := by
  go_enter Tryd.func36, Tryd.ntmps36
  go_wp2_with fail
  refine (bothN h1 h2).mono ?_
  rintro e w' ⟨m1, m2, rfl, ⟨xs, r1, k1, v1⟩, ⟨ys, r2, k2, v2⟩, hm1, hm2, rfl⟩
  have V1 := Lib.hid v1
  have V2 := Lib.hid v2
  have L1 := Lib.hid r1.len
  have L2 := Lib.hid r2.len
  clear v1 v2 h1 h2
  by_cases hne : m1 = m2
  · subst hne
    go_wp2_with fail
    go_loopw [5] (fun i wr => ∃ k d : Nat, k ≤ m1 ∧ (∀ j, k ≤ j → xs.getD j 0 = ys.getD j 0) ∧ i = .int .i64 ((k : Int) - 1) ∧ wr = w.drewN d) (fun i _ => (intOf i + 1).toNat)
    case atStart => exact ⟨m1, 0, Nat.le_refl _, fun j hj => by rw [getD_ge L1.out hj, getD_ge L2.out hj], rfl, rfl⟩
    case round =>
      obtain ⟨k, d, hk, hz, rfl, rfl⟩ := hrel
      have HZ := Lib.hid hz
      clear hz
      by_cases h0 : k = 0
      · subst h0
        go_wp2_with fail
        go_ret
        refine ⟨d, ?_, rfl⟩
        rw [← V1.out, ← V2.out, cmpI_of_eq (val_congr xs ys (by rw [L1.out, L2.out]) (fun j => HZ.out j (Nat.zero_le _)))]
        rfl
      · obtain ⟨q, rfl⟩ : ∃ q, k = q + 1 := ⟨k - 1, by omega⟩
        clear h0
        obtain ⟨b1, o1, t1, rfl, hb1, X1, l1, cell1⟩ := r1.look (k := q) (by omega)
        obtain ⟨b2, o2, t2, rfl, hb2, X2, l2, cell2⟩ := r2.look (k := q) (by omega)
        have e0 : ((q + 1 : Nat) : Int) - 1 = (q : Int) := by omega
        rw [e0]
        clear e0
        by_cases ht : t1 = t2
        · subst ht
          go_wp2_with fail
          go_quiet (fail)
          go_wp2_with fail
          go_roundw
          case rel =>
            refine ⟨q, _, by omega, fun j hj => ?_, rfl, rfl⟩
            by_cases e : j = q
            · rw [e, X1.out, X2.out]
            · exact HZ.out j (by omega)
          case measure => simp [intOf]
        · have hn : ((t1 : Int) != (t2 : Int)) = true := by rw [bne_iff_ne]; omega
          go_wp2_with fail
          go_quiet (fail)
          go_wp2_with fail
          have cw1 : ((w.drewN d).drewN nq).cell? ⟨b1, o1 + q, none⟩ = some (.int .u32 (t1 : Int)) := cell1
          have cw2 : ((w.drewN d).drewN nq).cell? ⟨b2, o2 + q, none⟩ = some (.int .u32 (t2 : Int)) := cell2
          have hWW : ∃ m, (w.drewN d).drewN nq = w.drewN m := ⟨_, by rw [World.drewN_drewN]⟩
          have HWW := Lib.hid hWW
          clear hWW
          generalize (w.drewN d).drewN nq = W at *
          go_quiet ((go_at_call 64; exact quiet_at (cmpU32_any _ _ _) ⟨_, rfl⟩))
          go_wp2_with fail
          go_ret
          obtain ⟨m, hm⟩ := HWW.out
          refine ⟨m + nq, ?_, by rw [hm, World.drewN_drewN]⟩
          have := cmp_top r1.2 r2.2 (by rw [L1.out, L2.out]) (by rw [L1.out]; omega) HZ.out (by rw [X1.out, X2.out]; exact ht)
          rw [X1.out, X2.out, V1.out, V2.out] at this
          rw [← this]
          rfl
  · have hd : ((m1 : Int) != (m2 : Int)) = true := by rw [bne_iff_ne]; omega
    go_wp2_with (go_at_call 44; refine (cmpInt_any _ _ _).mono ?_; rintro e w' ⟨rfl, rfl⟩)
    go_ret
    refine ⟨0, ?_, rfl⟩
    rw [← V1.out, ← V2.out, ← cmp_len k1 k2 (by rw [L1.out, L2.out]; exact hne), L1.out, L2.out]
    rfl
end Go.Proofs.YthaehfdjldjdiaaDoor
