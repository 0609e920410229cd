
/-
  The walks of dyad's aLessB, bLessA, aligned.
-/
import Derived.Test.YthaehfdjldjdiaaDoorDb
namespace Go.Proofs.YthaehfdjldjdiaaDoor
open Go.RowKit
set_option linter.unusedVariables false

theorem aless_any {A1 A2 : Option Addr} {n1 c1 n2 c2 x y : Nat} {w : World} (h1 : Arg w A1 n1 c1 x) (h2 : Arg w A2 n2 c2 y) (s1 : n1 ≤ 1000000) (s2 : n2 ≤ 1000000) (hle : y ≤ x) :
    Calls Tryd.prog 35 #[.agg #[.slice A1 n1 c1, .slice A2 n2 c2]] w (NatPost w (x - y) n1) := by
  go_enter Tryd.func35, Tryd.ntmps35
  go_wp2_with fail
  refine (sub_any (h1.alloc _) (h2.alloc _) s1 s2 hle).mono ?_
  rintro e w1 ⟨A, n, rfl, hr, hn, b⟩
  go_wp2_with fail
  go_ret
  exact ⟨A, n, rfl, hr, hn, Below.step (below_lit _ _) b⟩
theorem bless_any {A1 A2 : Option Addr} {n1 c1 n2 c2 x y : Nat} {w : World} (h1 : Arg w A1 n1 c1 x) (h2 : Arg w A2 n2 c2 y) (s1 : n1 ≤ 1000000) (s2 : n2 ≤ 1000000) (hle : x ≤ y) :
    Calls Tryd.prog 37 #[.agg #[.slice A1 n1 c1, .slice A2 n2 c2]] w (NatPost w (y - x) n2) := by
  go_enter Tryd.func37, Tryd.ntmps37
  go_wp2_with fail
  refine (sub_any (h2.alloc _) (h1.alloc _) s2 s1 hle).mono ?_
  rintro e w1 ⟨A, n, rfl, hr, hn, b⟩
  go_wp2_with fail
  go_ret
  exact ⟨A, n, rfl, hr, hn, Below.step (below_lit _ _) b⟩

/-- block s is a variable of two slices. -/
def Bx2 (w : World) (s : Nat) (A1 : Option Addr) (n1 c1 : Nat) (A2 : Option Addr) (n2 c2 : Nat) : Prop := Own w s 66 [.slice A1 n1 c1, .slice A2 n2 c2]
abbrev put2 (w : World) (s : Nat) (a b : Value) : World := (w.setCell ⟨s, 0, none⟩ a).setCell ⟨s, 1, none⟩ b
theorem put2_named (w : World) (s : Nat) (a b : Value) : ∃ w2, (w.setCell ⟨s, 0, none⟩ a).setCell ⟨s, 1, none⟩ b = w2 ∧ put2 w s a b = w2 := ⟨_, rfl, rfl⟩
section
variable {w w' : World} {s : Nat} {A1 A2 : Option Addr} {n1 c1 n2 c2 : Nat}
theorem Bx2.on (h : Bx2 w s A1 n1 c1 A2 n2 c2) (hb : Below w.heap.size w w') : Bx2 w' s A1 n1 c1 A2 n2 c2 := Own.below h hb h.lt
theorem Bx2.cells (h : Bx2 w s A1 n1 c1 A2 n2 c2) : w.cell? ⟨s, 0, none⟩ = some (.slice A1 n1 c1) ∧ w.cell? ⟨s, 1, none⟩ = some (.slice A2 n2 c2) ∧ w.frozen? ⟨s, 0, none⟩ = false ∧ w.frozen? ⟨s, 1, none⟩ = false ∧ s < w.heap.size :=
  ⟨Own.cell h 0, Own.cell h 1, Own.free h 0, Own.free h 1, Own.lt h⟩
theorem Bx2.put (h : Bx2 w s A1 n1 c1 A2 n2 c2) (B1 : Option Addr) (m1 d1 : Nat) (B2 : Option Addr) (m2 d2 : Nat) : Bx2 (put2 w s (.slice B1 m1 d1) (.slice B2 m2 d2)) s B1 m1 d1 B2 m2 d2 := (Own.put h 0 _).put 1 _
theorem Bx2.res (h : Bx2 w s A1 n1 c1 A2 n2 c2) {A : Option Addr} {n x : Nat} (hr : Res w A n x) (a b : Value) : Res (put2 w s a b) A n x :=
  (hr.put (Own.cell h 0) (notU_slice _ _ _) a).put ((Own.put h 0 a).cell 1) (notU_slice _ _ _) b
theorem Bx2.made (w : World) (A1 : Option Addr) (n1 c1 : Nat) (A2 : Option Addr) (n2 c2 : Nat) {s : Nat} (hs : w.heap.size = s) : Bx2 (w.alloc (.cells #[.slice A1 n1 c1, .slice A2 n2 c2] 66)) s A1 n1 c1 A2 n2 c2 := by
  subst hs; exact Own.made w _ [_, _]
end
theorem below_put2 {B : Nat} {v w : World} (h : Below B v w) {s : Nat} (hs : B ≤ s) (a b : Value) : Below B v (put2 w s a b) := (h.setCell (p := ⟨s, 0, none⟩) hs a).setCell (p := ⟨s, 1, none⟩) hs b
theorem frame2s (w : World) (t0 t1 : TypeId) (n0 : Bool) (A0 : Option Addr) (l0 c0 : Nat) (e0 : Int) (n1 : Bool) (A1 : Option Addr) (l1 c1 : Nat) (e1 : Int) :
    ∃ W, (((w.alloc (dob n0 A0 l0 c0 e0 t0)).alloc (dob n1 A1 l1 c1 e1 t1)).alloc (.cells #[.slice none 0 0, .slice none 0 0] 66)) = W ∧ DB W w.heap.size t0 n0 A0 l0 c0 e0 ∧ DB W (w.heap.size + 1) t1 n1 A1 l1 c1 e1 ∧ Bx2 W (w.heap.size + 1 + 1) none 0 0 none 0 0 ∧ Below w.heap.size w W ∧ W.heap.size = w.heap.size + 3 :=
  ⟨_, rfl, ((DB.made _ (by simp) t0 n0 A0 l0 c0 e0).alloc _).alloc _, (DB.made _ (by simp) t1 n1 A1 l1 c1 e1).alloc _, Bx2.made _ _ _ _ _ _ _ (by simp), (((Below.refl _ _).alloc (by simp <;> omega) _).alloc (by simp <;> omega) _).alloc (by simp <;> omega) _, by simp⟩

def AlPost (w : World) (m : Int) (x y : Nat) (e : Ending) (w' : World) : Prop :=
  ∃ A1 n1 A2 n2, e = .returned (.tuple #[.agg #[.slice A1 n1 n1, .slice A2 n2 n2], .int .i64 m, .int .i64 0]) ∧ Res w' A1 n1 x ∧ Res w' A2 n2 y ∧ Below w.heap.size w w'
def AlErr (w : World) (e : Ending) (w' : World) : Prop := e = .returned (.tuple #[.agg #[.slice none 0 0, .slice none 0 0], .int .i64 0, .int .i64 6]) ∧ Below w.heap.size w w'

set_option maxHeartbeats 1000000 in
theorem aligned_ok {A1 A2 : Option Addr} {n1 c1 n2 c2 x y : Nat} {na nb : Bool} {ea eb : Int} {w : World} (h1 : Arg w A1 n1 c1 x) (h2 : Arg w A2 n2 c2 y) (s1 : n1 ≤ 30000) (s2 : n2 ≤ 30000)
    (a1 : -100000 ≤ ea) (a2 : ea ≤ 100000) (b1 : -100000 ≤ eb) (b2 : eb ≤ 100000) (m : Int) (i j : Nat) (hm : min ea eb = m) (hi : ea - m = (i : Int)) (hj : eb - m = (j : Int)) (f1 : blen x + i ≤ 16384) (f2 : blen y + j ≤ 16384) :
    Calls Tryd.prog 32 #[.agg #[.bool na, .slice A1 n1 c1, .int .i64 ea], .agg #[.bool nb, .slice A2 n2 c2, .int .i64 eb]] w (AlPost w m (x * 2 ^ i) (y * 2 ^ j)) := by
  have m1 : -100000 ≤ m := by omega
  have m2 : m ≤ 100000 := by omega
  go_enter Tryd.func32, Tryd.ntmps32
  go_wp2_with fail
  obtain ⟨W, hW, z0, z1, z2, BW, sW⟩ := frame2s w 25 25 na A1 n1 c1 ea nb A2 n2 c2 eb
  rw [hW]
  clear hW
  refine (left_fit (h1.on BW) (by omega) i f1).mono ?_
  rintro e w1 ⟨B1, k1, rfl, r1, l1, b⟩
  have z1 := z1.on b
  have z2 := z2.on b
  have BW := Below.step BW b
  have sW : w.heap.size + 3 ≤ w1.heap.size := by have := b.size; omega
  clear b
  obtain ⟨p0, p1, p2, g0, g1, g2, _⟩ := z1.cells
  go_wp2_with fail
  refine (left_fit (h2.on BW) (by omega) j f2).mono ?_
  rintro e w2 ⟨B2, k2, rfl, r2, l2, b⟩
  clear p0 p1 p2 g0 g1 g2
  have z2 := z2.on b
  have r1 := r1.on b
  have BW := Below.step BW b
  clear b
  obtain ⟨q0, q1, i0, i1, _⟩ := z2.cells
  go_wp2_with fail
  refine bodyPost_ret (v := .tuple #[.agg #[.slice B1 k1 k1, .slice B2 k2 k2], .int .i64 m, .int .i64 0]) (by simp [results, Tryd.results32, go_sem, q0, q1]) rfl ?_
  exact ⟨B1, k1, B2, k2, rfl, z2.res r1 _ _, z2.res r2 _ _, below_put2 BW (by omega) _ _⟩

set_option maxHeartbeats 1000000 in
theorem aligned_err {A1 A2 : Option Addr} {n1 c1 n2 c2 x y : Nat} {na nb : Bool} {ea eb : Int} {w : World} (h1 : Arg w A1 n1 c1 x) (h2 : Arg w A2 n2 c2 y) (s1 : n1 ≤ 30000) (s2 : n2 ≤ 30000)
    (a1 : -100000 ≤ ea) (a2 : ea ≤ 100000) (b1 : -100000 ≤ eb) (b2 : eb ≤ 100000) (m : Int) (i j : Nat) (hm : min ea eb = m) (hi : ea - m = (i : Int)) (hj : eb - m = (j : Int)) (hx : x ≠ 0) (hy : y ≠ 0) (hov : 16384 < blen x + i ∨ 16384 < blen y + j) :
    Calls Tryd.prog 32 #[.agg #[.bool na, .slice A1 n1 c1, .int .i64 ea], .agg #[.bool nb, .slice A2 n2 c2, .int .i64 eb]] w (AlErr w) := by
  have m1 : -100000 ≤ m := by omega
  have m2 : m ≤ 100000 := by omega
  by_cases f1 : blen x + i ≤ 16384
  · have f2 : 16384 < blen y + j := by omega
    clear hov
    go_enter Tryd.func32, Tryd.ntmps32
    go_wp2_with fail
    obtain ⟨W, hW, z0, z1, z2, BW, sW⟩ := frame2s w 25 25 na A1 n1 c1 ea nb A2 n2 c2 eb
    rw [hW]
    clear hW
    refine (left_fit (h1.on BW) (by omega) i f1).mono ?_
    rintro e w1 ⟨B1, k1, rfl, r1, l1, b⟩
    have z1 := z1.on b
    have z2 := z2.on b
    have BW := Below.step BW b
    have sW : w.heap.size + 3 ≤ w1.heap.size := by have := b.size; omega
    clear b
    obtain ⟨p0, p1, p2, g0, g1, g2, _⟩ := z1.cells
    go_wp2_with fail
    refine (left_over (h2.on BW) (by omega) hy (j : Int) (by omega) (by omega) (by omega)).mono ?_
    rintro e w2 ⟨rfl, b⟩
    clear p0 p1 p2 g0 g1 g2
    have z2 := z2.on b
    have BW := Below.step BW b
    clear b
    obtain ⟨q0, q1, i0, i1, _⟩ := z2.cells
    go_wp2_with fail
    refine bodyPost_ret (v := .tuple #[.agg #[.slice none 0 0, .slice none 0 0], .int .i64 0, .int .i64 6]) (by simp [results, Tryd.results32, go_sem, q0, q1]) rfl ?_
    exact ⟨rfl, below_put2 BW (by omega) _ _⟩
  · clear hov
    go_enter Tryd.func32, Tryd.ntmps32
    go_wp2_with fail
    obtain ⟨W, hW, z0, z1, z2, BW, sW⟩ := frame2s w 25 25 na A1 n1 c1 ea nb A2 n2 c2 eb
    rw [hW]
    clear hW
    refine (left_over (h1.on BW) (by omega) hx (i : Int) (by omega) (by omega) (by omega)).mono ?_
    rintro e w2 ⟨rfl, b⟩
    have z2 := z2.on b
    have BW := Below.step BW b
    clear b
    obtain ⟨q0, q1, i0, i1, _⟩ := z2.cells
    go_wp2_with fail
    refine bodyPost_ret (v := .tuple #[.agg #[.slice none 0 0, .slice none 0 0], .int .i64 0, .int .i64 6]) (by simp [results, Tryd.results32, go_sem, q0, q1]) rfl ?_
    exact ⟨rfl, below_put2 BW (by omega) _ _⟩
end Go.Proofs.YthaehfdjldjdiaaDoor
