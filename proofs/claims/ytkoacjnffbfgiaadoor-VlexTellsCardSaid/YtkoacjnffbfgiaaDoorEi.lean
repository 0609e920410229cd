
/-
  vlex: tokens compared; the laws' awake.
-/
import Derived.Test.YtkoacjnffbfgiaaDoorEg
import Derived.Test.YtkoacjnffbfgiaaDoorEh
namespace Go.Proofs.YtkoacjnffbfgiaaDoor
open Go.RowKit
set_option linter.unusedVariables false

/-- two tokens as they lie are the same. -/
def sameK (x1 x3 x4 y1 y3 y4 : Int) (x2 y2 : ByteArray) : Bool := x1 == y1 && (x2.toList == y2.toList && (x3 == y3 && x4 == y4))
theorem tok_equal (x1 x3 x4 y1 y3 y4 : Int) (x2 y2 : ByteArray) (w : World) : (Op.equalIn 10000 32 (.agg #[.int .i64 x1, .string x2, .int .i64 x3, .int .i64 x4]) (.agg #[.int .i64 y1, .string y2, .int .i64 y3, .int .i64 y4])).run Tryd.prog w = .ok (sameK x1 x3 x4 y1 y3 y4 x2 y2) w := by
  unfold sameK
  cases e1 : (x1 == y1) <;> cases e2 : (x2.toList == y2.toList) <;> cases e3 : (x3 == y3) <;> cases e4 : (x4 == y4) <;> simp [go_sem, e1, e2, e3, e4]
theorem tok_eql (x1 x3 x4 y1 y3 y4 : Int) (x2 y2 : ByteArray) (w : World) : (binOp .eql 32 (.agg #[.int .i64 x1, .string x2, .int .i64 x3, .int .i64 x4]) (.agg #[.int .i64 y1, .string y2, .int .i64 y3, .int .i64 y4])).run Tryd.prog w = .ok (.bool (sameK x1 x3 x4 y1 y3 y4 x2 y2)) w := by
  rw [run_eql_struct, tok_equal]
  rfl
theorem tok_neq (x1 x3 x4 y1 y3 y4 : Int) (x2 y2 : ByteArray) (w : World) : (binOp .neq 32 (.agg #[.int .i64 x1, .string x2, .int .i64 x3, .int .i64 x4]) (.agg #[.int .i64 y1, .string y2, .int .i64 y3, .int .i64 y4])).run Tryd.prog w = .ok (.bool (!sameK x1 x3 x4 y1 y3 y4 x2 y2)) w := by
  rw [run_neq_struct, tok_equal]
  rfl
attribute [local go_sem ↓] tok_eql tok_neq
def aT : List Tk := [⟨3, [97, 115, 115, 105, 103, 110], 0, 1⟩, ⟨3, [78, 52], 0, 1⟩, ⟨4, [61], 0, 1⟩, ⟨1, [49, 39, 98, 49], 1, 2⟩, ⟨4, [59], 0, 2⟩]
theorem a_lex : lexA 1 0 ({ data := #[97, 115, 115, 105, 103, 110, 32, 78, 52, 32, 61, 32, 47, 47, 32, 120, 10, 32, 49, 39, 98, 49, 59] } : ByteArray).data.toList = .ok aT := by kernel_rfl
theorem b_lex : lexA 1 0 ({ data := #[97, 10, 32, 98, 32, 36] } : ByteArray).data.toList = .error 2 := by kernel_rfl
theorem c_name : nameS ({ data := #[78, 55, 48] } : ByteArray).data.toList = some 70 := by kernel_rfl
theorem d_name : nameS ({ data := #[78, 48, 55] } : ByteArray).data.toList = none := by kernel_rfl
theorem e_name : namesS 4 = [78, 52] := by
  unfold namesS
  rw [if_neg (by decide), Lib.decDigits_one (by decide)]
  rfl
theorem f_name : namesS (-1) = [] := by
  unfold namesS
  rw [if_pos (by decide)]
set_option maxHeartbeats 1000000 in
theorem awake_any (w : World) (ht : Tn w) : Calls Tryd.prog 7 #[] w fun e w' => e = .returned (.bool true) ∧ Below w.heap.size w w' := by
  go_enter Tryd.func7, Tryd.ntmps7
  go_wp2_with fail
  refine (lex_as _ (by decide) _ a_lex _).mono ?_
  rintro en w1 ⟨BW, A, n, c, rfl, hT, hsw⟩
  replace ht := ht.on BW
  go_wp2_with fail
  refine (lex_as _ (by decide) _ b_lex _).mono ?_
  rintro en w2 ⟨b, rfl⟩
  replace ht := ht.on b
  replace hT := hT.on b
  replace BW := Below.step BW b
  clear b
  go_wp2_with fail
  refine (name_as _ (by decide) _ c_name _).mono ?_
  rintro en w3 ⟨rfl, b⟩
  replace ht := ht.on b
  replace hT := hT.on b
  replace BW := Below.step BW b
  clear b
  dsimp only [nmV]
  go_wp2_with fail
  refine (name_as _ (by decide) _ d_name _).mono ?_
  rintro en w4 ⟨rfl, b⟩
  replace ht := ht.on b
  replace hT := hT.on b
  replace BW := Below.step BW b
  clear b
  dsimp only [nmV]
  obtain rfl : 5 = n := hT.1
  obtain ⟨b0, off, rfl, k0, k1, k2, k3, k4⟩ := hT.2 0 _ rfl
  obtain ⟨b1, off1, e1, l0, l1, l2, l3, l4⟩ := hT.2 3 _ rfl
  cases e1
  obtain ⟨b1, off1, e1, m0, m1, m2, m3, m4⟩ := hT.2 4 _ rfl
  cases e1
  replace k1 : w4.cell? ⟨b0, off, none⟩ = some (.int .i64 3) := k1
  replace k2 : w4.cell? ⟨b0, off + 1, none⟩ = some (.string ⟨#[97, 115, 115, 105, 103, 110]⟩) := k2
  replace k3 : w4.cell? ⟨b0, off + 2, none⟩ = some (.int .i64 0) := k3
  replace k4 : w4.cell? ⟨b0, off + 3, none⟩ = some (.int .i64 1) := k4
  replace l1 : w4.cell? ⟨b0, off + 12, none⟩ = some (.int .i64 1) := l1
  replace l2 : w4.cell? ⟨b0, off + 12 + 1, none⟩ = some (.string ⟨#[49, 39, 98, 49]⟩) := l2
  replace l3 : w4.cell? ⟨b0, off + 12 + 2, none⟩ = some (.int .i64 1) := l3
  replace l4 : w4.cell? ⟨b0, off + 12 + 3, none⟩ = some (.int .i64 2) := l4
  replace m1 : w4.cell? ⟨b0, off + 16, none⟩ = some (.int .i64 4) := m1
  clear m2 m3 m4 hT hsw
  have sk1 : sameK 3 0 1 3 0 1 ⟨#[97, 115, 115, 105, 103, 110]⟩ ⟨#[97, 115, 115, 105, 103, 110]⟩ = true := by decide +kernel
  have sk2 : sameK 1 1 2 1 1 2 ⟨#[49, 39, 98, 49]⟩ ⟨#[49, 39, 98, 49]⟩ = true := by decide +kernel
  have ht4 := Lib.hid ht
  go_wp2_with (go_at_call 12; first | (refine (names_as 4 (by decide) (by decide) _ ht4.out).mono ?_; rintro en w5 ⟨rfl, b5⟩; have ht5 := Lib.hid (ht4.out.on b5); have BW5 := Below.step BW b5; rw [e_name]) | (refine (names_as (-1) (by decide) (by decide) _ ht5.out).mono ?_; rintro en w6 ⟨rfl, b6⟩; have BW6 := Below.step BW5 b6; rw [f_name]))
  go_ret
  exact ⟨rfl, BW6⟩
end Go.Proofs.YtkoacjnffbfgiaaDoor
