/-
  The walk of awake.
-/
import Derived.Test.YtlkoodomcnbicaaDoorNate
import Derived.Test.YtlkoodomcnbicaaDoorSame
namespace Go.Proofs.YtlkoodomcnbicaaDoor
open Go.RowKit
set_option linter.unusedVariables false

theorem Tab.lt {w : World} (h : Tab w) : 0 < w.heap.size := by
  have h0 := h 0 (by omega)
  rcases Nat.lt_or_ge 0 w.heap.size with hlt | hge
  · exact hlt
  · simp only [World.cell?] at h0
    rw [Array.getElem?_eq_none hge] at h0
    cases h0
theorem Tab.on {w w' : World} (h : Tab w) (hb : Below w.heap.size w w') : Tab w' := fun j hj => (hb.cell (p := ⟨_, j, none⟩) h.lt).trans (h j hj)
theorem blen_eq {x : Nat} (k : Nat) (h1 : 2 ^ k ≤ x) (h2 : x < 2 ^ (k + 1)) : blen x = k + 1 := blen_unique h1 h2

/-- a literal list of parts, behind its own block. -/
theorem lit_res (w : World) (t : TypeId) (cs : List Nat) (n x : Nat) (hc : Canon cs) (hn : cs.length = n) (hx : val cs = x) : Res (w.alloc (.cells (U cs).toArray t)) (some ⟨w.heap.size, 0, none⟩) n x := by
  have := (Own.made w t (U cs)).nr hc.1
  rw [hn] at this
  exact ⟨cs, this, hc, hx⟩
theorem below_lit (w : World) (o : Obj) : Below w.heap.size w (w.alloc o) := (Below.refl _ _).alloc (Nat.le_refl _) _
theorem canon1 (a : Nat) (h : a < 4294967296) (h0 : a ≠ 0) : Canon [a] := ⟨Dg.mk h Dg.nil, fun _ => h0⟩
theorem canon2 (a b : Nat) (h : a < 4294967296) (hb : b < 4294967296) (h0 : b ≠ 0) : Canon [a, b] := ⟨Dg.mk h (Dg.mk hb Dg.nil), fun _ => h0⟩

theorem lit_arg (w : World) (t : TypeId) (cs : List Nat) (n x : Nat) (hd : Dg cs) (hn : cs.length = n) (hn2 : n ≤ 1000) (hx : val cs = x) : Arg (w.alloc (.cells (U cs).toArray t)) (some ⟨w.heap.size, 0, none⟩) n n x := by
  have := (Own.made w t (U cs)).nr hd
  rw [hn] at this
  exact ⟨cs, this, Nat.le_refl _, by unfold maxLen; omega, hx⟩
theorem Res.zero_n {w : World} {A : Option Addr} {n : Nat} (h : Res w A n 0) : n = 0 := by
  rcases Nat.eq_zero_or_pos n with e | e
  · exact e
  · exact (h.pos_len (by omega) rfl).elim
theorem len_as {A : Option Addr} {n c x : Nat} {w : World} (k : Nat) (h : Arg w A n c x) (hs : n ≤ 2000000) (hk : blen x = k) :
    Calls Tryd.prog 24 #[.slice A n c] w fun e w' => e = .returned (.int .i64 (k : Int)) ∧ w = w' := by
  have := len_any h hs
  rwa [hk] at this
theorem bit_as {A : Option Addr} {n c x : Nat} {w : World} (b : Nat) (h : Arg w A n c x) (i : Int) (hi : 0 ≤ i) (hi2 : i ≤ 9223372036854775807) (hk : x / 2 ^ i.toNat % 2 = b) :
    Calls Tryd.prog 25 #[.slice A n c, .int .i64 i] w fun e w' => e = .returned (.int .i64 (b : Int)) ∧ w = w' := by
  have := bit_any h i hi hi2
  rwa [hk] at this
theorem zeros_as {A : Option Addr} {n c x : Nat} {w : World} (k : Nat) (h : Arg w A n c x) (h4 : n ≤ 1000000) (hT : Tab w) (hk : Ctz x k) :
    Calls Tryd.prog 26 #[.slice A n c] w fun e w' => e = .returned (.int .i64 (k : Int)) ∧ w = w' := by
  refine (zeros_any h h4 hT).mono ?_
  rintro e w' ⟨z, rfl, _, hz, _, rfl⟩
  rw [(hz hk.1).unique hk]
  exact ⟨rfl, rfl⟩
theorem cmp_as {A1 A2 : Option Addr} {n1 c1 n2 c2 x y : Nat} {w : World} (k : Int) (h1 : Arg w A1 n1 c1 x) (h2 : Arg w A2 n2 c2 y) (s1 : n1 ≤ 2000000) (s2 : n2 ≤ 2000000) (hk : cmpI x y = k) :
    Calls Tryd.prog 20 #[.slice A1 n1 c1, .slice A2 n2 c2] w fun e w' => e = .returned (.int .i64 k) ∧ Below w.heap.size w w' := by
  refine (cmp_any h1 h2 s1 s2).mono ?_
  rintro e w' ⟨d, rfl, hw⟩
  rw [hk]
  exact ⟨rfl, (cmp_world hw).1⟩

set_option maxHeartbeats 4000000 in
set_option maxRecDepth 100000 in
theorem awake_any {w : World} (hT : Tab w) :
    Calls Tryd.prog 9 #[] w fun e w' => e = .returned (.bool true) ∧ Below w.heap.size w w' := by
  go_enter Tryd.func9, Tryd.ntmps9
  go_wp2_with fail
  refine (of_any 4294967296 (by omega) _).mono ?_
  rintro e w1 ⟨A1, n1, rfl, r1, l1, b1⟩
  go_wp2_with fail
  refine (of_any 1 (by omega) _).mono ?_
  rintro e w2 ⟨A2, n2, rfl, r2, l2, b2⟩
  go_wp2_with fail
  refine (sub_any ((r1.on b2).arg (by omega)) (r2.arg (by omega)) (by omega) (by omega) (by omega)).mono ?_
  rintro e w3 ⟨Ad, nd, rfl, rd, ld, b3⟩
  have B3 := Below.step (Below.step b1 b2) b3
  clear r1 r2 b1 b2 b3
  go_wp2_with fail
  refine (of_any 1 (by omega) _).mono ?_
  rintro e w4 ⟨A1, n1, rfl, r1, l1, b1⟩
  go_wp2_with fail
  refine (of_any 2 (by omega) _).mono ?_
  rintro e w5 ⟨A2, n2, rfl, r2, l2, b2⟩
  go_wp2_with fail
  refine (sub_lt ((r1.on b2).arg (by omega)) (r2.arg (by omega)) (by omega) (by omega) (by omega)).mono ?_
  rintro e w6 ⟨rfl, b3⟩
  have B6 := Below.step (Below.step b1 b2) b3
  have rd := rd.on B6
  have B3 := Below.step B3 B6
  clear r1 r2 b1 b2 b3 B6
  go_wp2_with fail
  refine (of_any 1099511627776 (by omega) _).mono ?_
  rintro e w7 ⟨A1, n1, rfl, r1, l1, b1⟩
  go_wp2_with fail
  refine (of_any 3 (by omega) _).mono ?_
  rintro e w8 ⟨A2, n2, rfl, r2, l2, b2⟩
  go_wp2_with fail
  refine (mul_any ((r1.on b2).arg (by omega)) (r2.arg (by omega)) (by omega) (by omega) (by rw [blen_eq 40 (by omega) (by omega), blen_eq 1 (by omega) (by omega)]; omega)).mono ?_
  rintro e w9 ⟨Ap, np, rfl, rp, lp, b3⟩
  have B6 := Below.step (Below.step b1 b2) b3
  have rd := rd.on B6
  have B3 := Below.step B3 B6
  clear r1 r2 b1 b2 b3 B6
  go_wp2_with fail
  refine (of_any 5 (by omega) _).mono ?_
  rintro e w10 ⟨A1, n1, rfl, r1, l1, b1⟩
  go_wp2_with fail
  refine (left_any (i := 33) (r1.arg (by omega)) (by omega) (by omega) (by rw [blen_eq 2 (by omega) (by omega)]; omega)).mono ?_
  rintro e w11 ⟨Al, nl, rfl, rl, ll, b3⟩
  have B6 := Below.step b1 b3
  have rd := rd.on B6
  have rp := rp.on B6
  have B3 := Below.step B3 B6
  clear r1 b1 b3 B6
  go_wp2_with fail
  refine (of_any 5 (by omega) _).mono ?_
  rintro e w12 ⟨A1, n1, rfl, r1, l1, b1⟩
  have hT1 := (hT.on B3).on b1
  go_wp2_with fail
  refine (right_any (r1.arg (by omega)) (by omega) 1 (by omega) hT1).mono ?_
  rintro e w13 ⟨Ar, nr, rfl, rr, lr, b3⟩
  have B6 := Below.step b1 b3
  have rd := rd.on B6
  have rp := rp.on B6
  have rl := rl.on B6
  have B3 := Below.step B3 B6
  clear r1 b1 b3 B6 hT1
  go_wp2_with fail
  refine (word_any (rp.arg (by omega)) (by omega) (by omega)).mono ?_
  rintro e w14 ⟨rfl, rfl⟩
  go_wp2_with fail
  refine (of_any 1 (by omega) _).mono ?_
  rintro e w15 ⟨A1, n1, rfl, r1, l1, b1⟩
  go_wp2_with fail
  refine (left_over (r1.arg (by omega)) (by omega) (by omega) 16384 (by omega) (by omega) (by rw [blen_eq 0 (by omega) (by omega)]; omega)).mono ?_
  rintro e w16 ⟨rfl, b3⟩
  have B6 := Below.step b1 b3
  have rd := rd.on B6
  have rp := rp.on B6
  have rl := rl.on B6
  have rr := rr.on B6
  have B3 := Below.step B3 B6
  clear r1 b1 b3 B6
  go_wp2_with fail
  have bl := below_lit w16 (.cells (U [4294967295]).toArray 60)
  refine (same_res (rd.on bl) (lit_res w16 60 [4294967295] 1 _ (canon1 _ (by omega) (by omega)) rfl (by rfl)) (by omega) (by omega)).mono ?_
  rintro e w17 ⟨rfl, b3⟩
  have B6 := Below.step bl b3
  have rp := rp.on B6
  have rl := rl.on B6
  have rr := rr.on B6
  have B3 := Below.step B3 B6
  clear bl b3 B6 rd
  go_wp2_with fail
  have bl := below_lit w17 (.cells (U [0, 768]).toArray 60)
  refine (same_res (rp.on bl) (lit_res w17 60 [0, 768] 2 _ (canon2 _ _ (by omega) (by omega) (by omega)) rfl (by rfl)) (by omega) (by omega)).mono ?_
  rintro e w18 ⟨rfl, b3⟩
  have B6 := Below.step bl b3
  have rl := rl.on B6
  have rr := rr.on B6
  have B3 := Below.step B3 B6
  clear bl b3 B6 rp
  go_wp2_with fail
  have bl := below_lit w18 (.cells (U [0, 10]).toArray 60)
  refine (same_res (rl.on bl) (lit_res w18 60 [0, 10] 2 _ (canon2 _ _ (by omega) (by omega) (by omega)) rfl (by rfl)) (by omega) (by omega)).mono ?_
  rintro e w19 ⟨rfl, b3⟩
  have B6 := Below.step bl b3
  have rr := rr.on B6
  have B3 := Below.step B3 B6
  clear bl b3 B6 rl
  go_wp2_with fail
  have bl := below_lit w19 (.cells (U [2]).toArray 60)
  refine (same_res (rr.on bl) (lit_res w19 60 [2] 1 _ (canon1 _ (by omega) (by omega)) rfl (by rfl)) (by omega) (by omega)).mono ?_
  rintro e w20 ⟨rfl, b3⟩
  have B6 := Below.step bl b3
  have B3 := Below.step B3 B6
  clear bl b3 B6 rr
  go_wp2_with fail
  refine (of_any 5 (by omega) _).mono ?_
  rintro e w21 ⟨A1, n1, rfl, r1, l1, b1⟩
  go_wp2_with fail
  refine (len_as 3 (r1.arg (by omega)) (by omega) (blen_eq 2 (by omega) (by omega))).mono ?_
  rintro e w22 ⟨rfl, rfl⟩
  have B3 := Below.step B3 b1
  clear r1 b1
  go_wp2_with fail
  refine (of_any 5 (by omega) _).mono ?_
  rintro e w23 ⟨A1, n1, rfl, r1, l1, b1⟩
  go_wp2_with fail
  refine (bit_as 1 (r1.arg (by omega)) 2 (by omega) (by omega) (by decide)).mono ?_
  rintro e w24 ⟨rfl, rfl⟩
  have B3 := Below.step B3 b1
  clear r1 b1
  go_wp2_with fail
  refine (of_any 12 (by omega) _).mono ?_
  rintro e w25 ⟨A1, n1, rfl, r1, l1, b1⟩
  have B3 := Below.step B3 b1
  have hT1 := hT.on B3
  go_wp2_with fail
  refine (zeros_as 2 (r1.arg (by omega)) (by omega) hT1 ⟨by omega, 1, by decide⟩).mono ?_
  rintro e w26 ⟨rfl, rfl⟩
  clear r1 b1 hT1
  go_wp2_with fail
  refine (of_any 3 (by omega) _).mono ?_
  rintro e w27 ⟨A1, n1, rfl, r1, l1, b1⟩
  have B3 := Below.step B3 b1
  go_wp2_with fail
  have bl := below_lit w27 (.cells (U [3, 0]).toArray 60)
  refine (cmp_as 0 ((r1.on bl).arg (by omega)) (lit_arg w27 60 [3, 0] 2 3 (Dg.mk (by omega) (Dg.mk (by omega) Dg.nil)) rfl (by omega) (by rfl)) (by omega) (by omega) (cmpI_of_eq rfl)).mono ?_
  rintro e w28 ⟨rfl, b3⟩
  have B3 := Below.step B3 (Below.step bl b3)
  clear r1 b1 bl b3
  go_wp2_with fail
  have bl := below_lit w28 (.cells (U [0]).toArray 60)
  refine (add_any ((Res.none_ _).arg (by omega)) (lit_arg w28 60 [0] 1 0 (Dg.mk (by omega) Dg.nil) rfl (by omega) (by rfl)) (by omega) (by omega)).mono ?_
  rintro e w29 ⟨A1, n1, rfl, r1, l1, b1⟩
  obtain rfl : n1 = 0 := r1.zero_n
  have B3 := Below.step B3 (Below.step bl b1)
  clear r1 b1 bl
  go_wp2_with fail
  go_ret
  exact ⟨rfl, B3⟩
end Go.Proofs.YtlkoodomcnbicaaDoor
