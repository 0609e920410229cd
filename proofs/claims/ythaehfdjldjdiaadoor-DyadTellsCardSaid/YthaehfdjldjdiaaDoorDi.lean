
/-
  dyad's functions by what they tell; the walk of Same.
-/
import Derived.Test.YthaehfdjldjdiaaDoorDmatc
namespace Go.Proofs.YthaehfdjldjdiaaDoor
open Go.RowKit
set_option linter.unusedVariables false

theorem dadd_as {A1 A2 : Option Addr} {n1 c1 n2 c2 x y : Nat} {na nb : Bool} {ea eb : Int} {w : World} (h1 : Arg w A1 n1 c1 x) (h2 : Arg w A2 n2 c2 y) (s1 : n1 ≤ 30000) (s2 : n2 ≤ 30000) (hT : Tab w) {rn : Bool} {rx : Nat} {re err : Int} (hr : addS ⟨na, x, ea⟩ ⟨nb, y, eb⟩ = (⟨rn, rx, re⟩, err)) :
    Calls Tryd.prog 10 #[.agg #[.bool na, .slice A1 n1 c1, .int .i64 ea], .agg #[.bool nb, .slice A2 n2 c2, .int .i64 eb]] w (DPx w rn rx re err) := by
  have := dadd_any (na := na) (nb := nb) (ea := ea) (eb := eb) h1 h2 s1 s2 hT
  rw [hr] at this
  exact this
theorem dsub_as {A1 A2 : Option Addr} {n1 c1 n2 c2 x y : Nat} {na nb : Bool} {ea eb : Int} {w : World} (h1 : Arg w A1 n1 c1 x) (h2 : Arg w A2 n2 c2 y) (s1 : n1 ≤ 30000) (s2 : n2 ≤ 30000) (hT : Tab w) {rn : Bool} {rx : Nat} {re err : Int} (hr : addS ⟨na, x, ea⟩ (D.turn ⟨nb, y, eb⟩) = (⟨rn, rx, re⟩, err)) :
    Calls Tryd.prog 13 #[.agg #[.bool na, .slice A1 n1 c1, .int .i64 ea], .agg #[.bool nb, .slice A2 n2 c2, .int .i64 eb]] w (DPx w rn rx re err) := by
  have := dsub_any (na := na) (nb := nb) (ea := ea) (eb := eb) h1 h2 s1 s2 hT
  rw [hr] at this
  exact this
theorem dmul_as {A1 A2 : Option Addr} {n1 c1 n2 c2 x y : Nat} {na nb : Bool} {ea eb : Int} {w : World} (h1 : Arg w A1 n1 c1 x) (h2 : Arg w A2 n2 c2 y) (s1 : n1 ≤ 30000) (s2 : n2 ≤ 30000) (hT : Tab w) {rn : Bool} {rx : Nat} {re err : Int} (hr : mulS ⟨na, x, ea⟩ ⟨nb, y, eb⟩ = (⟨rn, rx, re⟩, err)) :
    Calls Tryd.prog 19 #[.agg #[.bool na, .slice A1 n1 c1, .int .i64 ea], .agg #[.bool nb, .slice A2 n2 c2, .int .i64 eb]] w (DPx w rn rx re err) := by
  have := dmul_any (na := na) (nb := nb) (ea := ea) (eb := eb) h1 h2 s1 s2 hT
  rw [hr] at this
  exact this
theorem dcmp_as {A1 A2 : Option Addr} {n1 c1 n2 c2 x y : Nat} {na nb : Bool} {ea eb : Int} {w : World} (h1 : Arg w A1 n1 c1 x) (h2 : Arg w A2 n2 c2 y) (s1 : n1 ≤ 30000) (s2 : n2 ≤ 30000) (hT : Tab w) {q err : Int} (hr : cmpS ⟨na, x, ea⟩ ⟨nb, y, eb⟩ = (q, err)) :
    Calls Tryd.prog 15 #[.agg #[.bool na, .slice A1 n1 c1, .int .i64 ea], .agg #[.bool nb, .slice A2 n2 c2, .int .i64 eb]] w fun en w' => en = .returned (.tuple #[.int .i64 q, .int .i64 err]) ∧ Below w.heap.size w w' := by
  have := dcmp_any (na := na) (nb := nb) (ea := ea) (eb := eb) h1 h2 s1 s2 hT
  rw [hr] at this
  exact this
theorem dplain_as {A : Option Addr} {n c x : Nat} {neg : Bool} {e : Int} {w : World} (h : Arg w A n c x) (hs : n ≤ 30000) (hT : Tab w) {rn : Bool} {rx : Nat} {re err : Int} (hr : plainS ⟨neg, x, e⟩ = (⟨rn, rx, re⟩, err)) :
    Calls Tryd.prog 21 #[.agg #[.bool neg, .slice A n c, .int .i64 e]] w (DPx w rn rx re err) := by
  have := dplain_any (neg := neg) (e := e) h hs hT
  rw [hr] at this
  exact this
theorem dtop_as {A : Option Addr} {n c x : Nat} {neg : Bool} {e : Int} {w : World} (h : Arg w A n c x) (hs : n ≤ 30000) (hT : Tab w) {q err : Int} (hr : topS ⟨neg, x, e⟩ = (q, err)) :
    Calls Tryd.prog 22 #[.agg #[.bool neg, .slice A n c, .int .i64 e]] w fun en w' => en = .returned (.tuple #[.int .i64 q, .int .i64 err]) ∧ Below w.heap.size w w' := by
  have := dtop_any (neg := neg) (e := e) h hs hT
  rw [hr] at this
  exact this
def FlX (w : World) (rn : Bool) (rx : Nat) (re : Int) (bl : Bool) (err : Int) (e : Ending) (w' : World) : Prop := ∃ A n, e = .returned (.tuple #[.agg #[.bool rn, .slice A n n, .int .i64 re], .bool bl, .int .i64 err]) ∧ Res w' A n rx ∧ Below w.heap.size w w'
theorem dfloor_as {A : Option Addr} {n c x : Nat} {neg : Bool} {e : Int} {w : World} (h : Arg w A n c x) (hs : n ≤ 30000) (hT : Tab w) {at_ : Int} {rn : Bool} {rx : Nat} {re : Int} {bl : Bool} {err : Int} (hr : floorS ⟨neg, x, e⟩ at_ = (⟨rn, rx, re⟩, bl, err)) :
    Calls Tryd.prog 24 #[.agg #[.bool neg, .slice A n c, .int .i64 e], .int .i64 at_] w (FlX w rn rx re bl err) := by
  have := dfloor_any (neg := neg) (e := e) (at_ := at_) h hs hT
  rw [hr] at this
  exact this
def PlX (w : World) (rn : Bool) (rx : Nat) (re : Int) (e : Ending) (w' : World) : Prop := ∃ A n, e = .returned (.agg #[.bool rn, .slice A n n, .int .i64 re]) ∧ Res w' A n rx ∧ Below w.heap.size w w'
theorem dof_as (n : Int) (hn : -9223372036854775808 ≤ n) (hn2 : n ≤ 9223372036854775807) {w : World} (hT : Tab w) {rn : Bool} {rx : Nat} {re : Int} (hr : ofD n = ⟨rn, rx, re⟩) :
    Calls Tryd.prog 26 #[.int .i64 n] w (PlX w rn rx re) := by
  have := dof_any n hn hn2 hT
  rw [hr] at this
  exact this

set_option maxHeartbeats 1000000 in
theorem dsame_as {A1 A2 : Option Addr} {n1 c1 n2 c2 x y : Nat} {na nb : Bool} {ea eb : Int} {w : World} (h1 : Arg w A1 n1 c1 x) (h2 : Arg w A2 n2 c2 y) (s1 : n1 ≤ 30000) (s2 : n2 ≤ 30000) (hT : Tab w) {q err : Int} (hr : cmpS ⟨na, x, ea⟩ ⟨nb, y, eb⟩ = (q, err)) (b : Bool) (hb : ((q == 0) && (err == 0)) = b) :
    Calls Tryd.prog 18 #[.agg #[.bool na, .slice A1 n1 c1, .int .i64 ea], .agg #[.bool nb, .slice A2 n2 c2, .int .i64 eb]] w fun en w' => en = .returned (.bool b) ∧ Below w.heap.size w w' := by
  have HC := Lib.hid (fun W (hW : Below w.heap.size w W) => dcmp_as (na := na) (nb := nb) (ea := ea) (eb := eb) (h1.on hW) (h2.on hW) s1 s2 (hT.on hW) hr)
  clear hr
  by_cases hq : q = 0
  · subst hq
    by_cases he : err = 0
    · subst he
      obtain rfl : b = true := by rw [← hb]; rfl
      clear hb
      go_enter Tryd.func18, Tryd.ntmps18
      go_wp2_with fail
      obtain ⟨W, hW, z0, z1, BW, sW⟩ := frame2 w 25 25 na A1 n1 c1 ea nb A2 n2 c2 eb
      rw [hW]
      clear hW
      refine (HC.out W BW).mono ?_
      rintro en w1 ⟨rfl, b⟩
      go_wp2_with fail
      go_ret
      exact ⟨rfl, Below.step BW b⟩
    · have he' : (err == 0) = false := by simpa using he
      obtain rfl : b = false := by rw [← hb, he']; rfl
      clear hb
      go_enter Tryd.func18, Tryd.ntmps18
      go_wp2_with fail
      obtain ⟨W, hW, z0, z1, BW, sW⟩ := frame2 w 25 25 na A1 n1 c1 ea nb A2 n2 c2 eb
      rw [hW]
      clear hW
      refine (HC.out W BW).mono ?_
      rintro en w1 ⟨rfl, b⟩
      go_wp2_with fail
      go_ret
      exact ⟨rfl, Below.step BW b⟩
  · have hq' : (q == 0) = false := by simpa using hq
    obtain rfl : b = false := by rw [← hb, hq']; rfl
    clear hb
    go_enter Tryd.func18, Tryd.ntmps18
    go_wp2_with fail
    obtain ⟨W, hW, z0, z1, BW, sW⟩ := frame2 w 25 25 na A1 n1 c1 ea nb A2 n2 c2 eb
    rw [hW]
    clear hW
    refine (HC.out W BW).mono ?_
    rintro en w1 ⟨rfl, b⟩
    go_wp2_with fail
    go_ret
    exact ⟨rfl, Below.step BW b⟩
theorem cmpI_zero {x y : Int} : cmpI x y = 0 ↔ x = y := by
  unfold cmpI
  constructor
  · intro h
    split at h
    · omega
    · split at h <;> omega
  · intro h; rw [if_neg (by omega), if_neg (by omega)]
/-- the same number is told to be the same; another is not. -/
theorem dsame_vl {A1 A2 : Option Addr} {n1 c1 n2 c2 x y : Nat} {na nb : Bool} {ea eb : Int} {w : World} (h1 : Arg w A1 n1 c1 x) (h2 : Arg w A2 n2 c2 y) (s1 : n1 ≤ 30000) (s2 : n2 ≤ 30000) (hT : Tab w) (ma : D.may ⟨na, x, ea⟩ = true) (mb : D.may ⟨nb, y, eb⟩ = true) (b : Bool) (hb : decide (D.vl ⟨na, x, ea⟩ = D.vl ⟨nb, y, eb⟩) = b) :
    Calls Tryd.prog 18 #[.agg #[.bool na, .slice A1 n1 c1, .int .i64 ea], .agg #[.bool nb, .slice A2 n2 c2, .int .i64 eb]] w fun en w' => en = .returned (.bool b) ∧ Below w.heap.size w w' := by
  refine dsame_as h1 h2 s1 s2 hT (cmpS_ok ma mb) b ?_
  rw [← hb, Bool.eq_iff_iff]
  simp [cmpI_zero]

theorem dsame_eq {A1 A2 : Option Addr} {n1 c1 n2 c2 x y : Nat} {na nb : Bool} {ea eb : Int} {w : World} (h1 : Arg w A1 n1 c1 x) (h2 : Arg w A2 n2 c2 y) (s1 : n1 ≤ 30000) (s2 : n2 ≤ 30000) (hT : Tab w) (ma : D.may ⟨na, x, ea⟩ = true) (hb : (⟨na, x, ea⟩ : D) = ⟨nb, y, eb⟩) :
    Calls Tryd.prog 18 #[.agg #[.bool na, .slice A1 n1 c1, .int .i64 ea], .agg #[.bool nb, .slice A2 n2 c2, .int .i64 eb]] w fun en w' => en = .returned (.bool true) ∧ Below w.heap.size w w' :=
  dsame_vl h1 h2 s1 s2 hT ma (hb ▸ ma) true (decide_eq_true (congrArg D.vl hb))

theorem lit_arg_at (w : World) {s : Nat} (hs : w.heap.size = s) (t : TypeId) (cs : List Nat) (n x : Nat) (hd : Dg cs) (hn : cs.length = n) (hn2 : n ≤ 1000) (hx : val cs = x) : Arg (w.alloc (.cells (U cs).toArray t)) (some ⟨s, 0, none⟩) n n x := by
  subst hs; exact lit_arg w t cs n x hd hn hn2 hx
theorem lit_res_at (w : World) {s : Nat} (hs : w.heap.size = s) (t : TypeId) (cs : List Nat) (n x : Nat) (hc : Canon cs) (hn : cs.length = n) (hx : val cs = x) : Res (w.alloc (.cells (U cs).toArray t)) (some ⟨s, 0, none⟩) n x := by
  subst hs; exact lit_res w t cs n x hc hn hx
theorem size_lit (w : World) (o : Obj) {s : Nat} (hs : w.heap.size = s) : (w.alloc o).heap.size = s + 1 := by
  subst hs; simp

/-- a plain form, reckoned. -/
theorem pl_eval (n : Bool) (k q : Nat) {x : Nat} {e e' : Int} (hx : x = 2 ^ k * q) (hq : q % 2 = 1) (he : e' = e + (k : Int)) : D.pl ⟨n, x, e⟩ = ⟨n, q, e'⟩ := by
  subst hx he
  have h0 : 2 ^ k * q ≠ 0 := Nat.mul_ne_zero (Nat.ne_of_gt (Nat.two_pow_pos _)) (by omega)
  rw [D.pl_pos (d := ⟨n, 2 ^ k * q, e⟩) h0]
  show (⟨n, 2 ^ k * q / 2 ^ tz (2 ^ k * q), e + (tz (2 ^ k * q) : Int)⟩ : D) = _
  rw [tz_shift hq, Nat.mul_div_cancel_left _ (Nat.two_pow_pos k)]
theorem may_small {d : D} (h1 : d.x < 18446744073709551616) (h2 : -8192 ≤ d.e) (h3 : d.e ≤ 8192) : d.may = true :=
  (D.may_iff d).2 ⟨Nat.le_trans ((blen_le d.x 64).2 (by omega)) (by omega), h2, h3⟩
end Go.Proofs.YthaehfdjldjdiaaDoor
