
/-
  The walk of the reference's Same.
-/
import Derived.Test.YthaehfdjldjdiaaDoorNatb
namespace Go.Proofs.YthaehfdjldjdiaaDoor
open Go.RowKit
set_option linter.unusedVariables false

def SamePost (w : World) (xs ys : List Nat) (e : Ending) (w' : World) : Prop := ∃ d : Nat, e = .returned (.bool (decide (xs = ys))) ∧ w' = w.drewN d

theorem list_ext_getD : ∀ xs ys : List Nat, xs.length = ys.length → (∀ j, j < xs.length → xs.getD j 0 = ys.getD j 0) → xs = ys
  | [], [], _, _ => rfl
  | [], y :: ys, h, _ => by simp at h
  | x :: xs, [], h, _ => by simp at h
  | x :: xs, y :: ys, h, hj => by
    have h0 : x = y := hj 0 (by simp)
    rw [h0, list_ext_getD xs ys (by simpa using h) (fun j h' => hj (j + 1) (by simpa using h'))]

set_option maxHeartbeats 400000 in
theorem same_any {A1 A2 : Option Addr} {n1 c1 n2 c2 B : Nat} {xs ys : List Nat} {w : World} (h1 : NR w B A1 n1 xs) (h2 : NR w B A2 n2 ys) (s1 : n1 ≤ 2000000) (s2 : n2 ≤ 2000000) :
    Calls Tryd.prog 30 #[.slice A1 n1 c1, .slice A2 n2 c2] w (SamePost w xs ys) := by
  have L1 := Lib.hid h1.len
  have L2 := Lib.hid h2.len
  by_cases hne : n1 = n2
  · subst hne
    go_enter Tryd.func30, Tryd.ntmps30
    go_wp2_with fail
    go_loopw [5] (fun i wr => ∃ k d : Nat, k ≤ n1 ∧ (∀ j, j < k → xs.getD j 0 = ys.getD j 0) ∧ i = .int .i64 k ∧ wr = w.drewN d) (fun i _ => n1 - (intOf i).toNat)
    case atStart => exact ⟨0, 0, Nat.zero_le _, fun j hj => by omega, rfl, rfl⟩
    case round =>
      obtain ⟨k, d, hk, hz, rfl, rfl⟩ := hrel
      have HZ := Lib.hid hz
      clear hz
      by_cases hlt : k < n1
      · obtain ⟨b1, o1, t1, rfl, hb1, X1, l1, cell1⟩ := h1.look hlt
        obtain ⟨b2, o2, t2, rfl, hb2, X2, l2, cell2⟩ := h2.look hlt
        by_cases ht : t1 = t2
        · subst ht
          go_wp2_with fail
          go_quiet (fail)
          go_wp2_with fail
          go_roundw
          case rel =>
            refine ⟨k + 1, _, by omega, fun j hj => ?_, by go_num, rfl⟩
            by_cases e : j = k
            · rw [e, X1.out, X2.out]
            · exact HZ.out j (by omega)
          case measure => simp [intOf]; omega
        · have hn : ((t1 : Int) != (t2 : Int)) = true := by rw [bne_iff_ne]; omega
          go_wp2_with fail
          go_quiet (fail)
          go_wp2_with fail
          go_ret
          have e1 : decide (xs = ys) = false := decide_eq_false (fun e => ht (by rw [← X1.out, ← X2.out, e]))
          exact ⟨d + nq, by rw [e1]; rfl, by rw [World.drewN_drewN]⟩
      · go_wp2_with fail
        go_ret
        have e1 : decide (xs = ys) = true := decide_eq_true (list_ext_getD xs ys (by rw [L1.out, L2.out]) (fun j hj => HZ.out j (by rw [L1.out] at hj; omega)))
        exact ⟨d, by rw [e1]; rfl, rfl⟩
  · have hn : ((n1 : Int) != (n2 : Int)) = true := by rw [bne_iff_ne]; omega
    have E1 := Lib.hid (show decide (xs = ys) = false from decide_eq_false (fun e => hne (by rw [← L1.out, ← L2.out, e])))
    go_enter Tryd.func30, Tryd.ntmps30
    go_wp2_with fail
    go_ret
    exact ⟨0, by rw [E1.out]; rfl, rfl⟩

/-- what is told of one number is the same. -/
theorem same_res {A1 A2 : Option Addr} {n1 c1 n2 c2 x : Nat} {w : World} (h1 : Res w A1 n1 x) (h2 : Res w A2 n2 x) (s1 : n1 ≤ 2000000) (s2 : n2 ≤ 2000000) :
    Calls Tryd.prog 30 #[.slice A1 n1 c1, .slice A2 n2 c2] w fun e w' => e = .returned (.bool true) ∧ Below w.heap.size w w' := by
  obtain ⟨xs, r1, k1, v1⟩ := h1
  obtain ⟨ys, r2, k2, v2⟩ := h2
  refine (same_any r1 r2 s1 s2).mono ?_
  rintro e w' ⟨d, rfl, rfl⟩
  exact ⟨by rw [decide_eq_true (canon_unique xs ys k1 k2 (by rw [v1, v2]))], below_drewN (Below.refl _ _) d⟩
end Go.Proofs.YthaehfdjldjdiaaDoor
