
/-
  The walks of nat.cut, nat.part, nat.both.
-/
import Derived.Test.YthaehfdjldjdiaaDoorProg
import Derived.Test.YthaehfdjldjdiaaDoorMath
import Derived.Outline
import Derived.Deep.DeepFit
namespace Go.Proofs.YthaehfdjldjdiaaDoor
open Go.RowKit
set_option linter.unusedVariables false

def CutPost (w : World) (A : Option Addr) (n : Nat) (xs : List Nat) (e : Ending) (w' : World) : Prop :=
  ∃ m, m ≤ n ∧ CutAt xs m ∧ e = .returned (.slice A m m) ∧ w = w'

set_option maxHeartbeats 400000 in
theorem cut_any (A : Option Addr) (n c B : Nat) (xs : List Nat) (w : World) (h : NR w B A n xs) (hnc : n ≤ c) (hc : c ≤ maxLen) :
    Calls Tryd.prog 60 #[.slice A n c] w (CutPost w A n xs) := by
  unfold maxLen at hc
  have hlen := h.len
  have HL := Lib.hid hlen
  clear hlen
  go_enter Tryd.func60, Tryd.ntmps60
  go_wp2
  go_loop [3] (fun t => ∃ m : Nat, m ≤ n ∧ (∀ j, m ≤ j → xs.getD j 0 = 0) ∧ t = .int .i64 m) (fun t => (intOf t).toNat)
  case atStart => exact ⟨n, Nat.le_refl _, fun j hj => getD_ge HL.out hj, rfl⟩
  case round =>
    obtain ⟨m, hm, hz, rfl⟩ := hrel
    have HZ := Lib.hid hz
    clear hz
    by_cases h0 : m = 0
    · subst h0
      go_wp2
      go_ret
      exact ⟨0, by omega, ⟨HZ.out, by omega⟩, rfl, rfl⟩
    · obtain ⟨b, off, x, rfl, hb, HX, hlt, hcell⟩ := h.look (k := m - 1) (by omega)
      by_cases hx : x = 0
      · subst hx
        go_wp2
        go_round
        case rel =>
          refine ⟨m - 1, by omega, fun j hj => ?_, by go_num⟩
          by_cases e : j = m - 1
          · rw [e]; exact HX.out
          · exact HZ.out j (by omega)
        case measure => simp [intOf]; omega
      · have hne : ((x : Int) == 0) = false := by simp; exact hx
        go_wp2
        go_ret
        exact ⟨m, hm, ⟨HZ.out, fun _ => by rw [HX.out]; exact hx⟩, rfl, rfl⟩

/-- what both tells of two slices. -/
def BothPost (w : World) (A1 A2 : Option Addr) (n1 n2 : Nat) (xs ys : List Nat) (e : Ending) (w' : World) : Prop :=
  ∃ m1 m2, m1 ≤ n1 ∧ m2 ≤ n2 ∧ CutAt xs m1 ∧ CutAt ys m2 ∧ e = .returned (.tuple #[.slice A1 m1 m1, .slice A2 m2 m2]) ∧ w = w'

set_option maxHeartbeats 400000 in
theorem both_any (A1 A2 : Option Addr) (n1 c1 n2 c2 B : Nat) (xs ys : List Nat) (w : World) (h1 : NR w B A1 n1 xs) (h2 : NR w B A2 n2 ys) (k1 : n1 ≤ c1) (k2 : n2 ≤ c2) (l1 : c1 ≤ maxLen) (l2 : c2 ≤ maxLen) :
    Calls Tryd.prog 59 #[.func (.func 60) #[] #[], .slice A1 n1 c1, .slice A2 n2 c2] w (BothPost w A1 A2 n1 n2 xs ys) := by
  go_enter Tryd.func59, Tryd.ntmps59
  go_wp2_with fail
  refine (cut_any A1 n1 c1 B xs _ h1 k1 l1).mono ?_
  rintro e w' ⟨m1, hm1, ha1, rfl, rfl⟩
  go_wp2_with fail
  refine (cut_any A2 n2 c2 B ys _ h2 k2 l2).mono ?_
  rintro e w' ⟨m2, hm2, ha2, rfl, rfl⟩
  go_wp2_with fail
  go_ret2
  exact ⟨m1, m2, hm1, hm2, ha1, ha2, rfl, rfl⟩

theorem part_any (A : Option Addr) (n c B : Nat) (xs : List Nat) (w : World) (h : NR w B A n xs) (hnc : n ≤ c) (hc : c ≤ maxLen) (i : Int) (hi : 0 ≤ i) :
    Calls Tryd.prog 62 #[.slice A n c, .int .i64 i] w fun e w' => e = .returned (.int .u32 ((xs.getD i.toNat 0 : Nat) : Int)) ∧ w = w' := by
  unfold maxLen at hc
  have HL := Lib.hid h.len
  obtain ⟨k, rfl⟩ := Int.eq_ofNat_of_zero_le hi
  rw [Int.toNat_natCast]
  by_cases hk : k < n
  · obtain ⟨b, off, x, rfl, hb, HX, hlt, hcell⟩ := h.look hk
    rw [HX.out]
    go_enter Tryd.func62, Tryd.ntmps62
    go_wp2
    go_ret
    exact ⟨rfl, rfl⟩
  · rw [getD_ge HL.out (by omega)]
    go_enter Tryd.func62, Tryd.ntmps62
    go_wp2
    go_ret
    exact ⟨rfl, rfl⟩
end Go.Proofs.YthaehfdjldjdiaaDoor
