
/-
  slices.Clone; net: Uses.
-/
import Derived.Test.YtacphhfhahgeaaaGp
import Derived.Lib.SliceRun
namespace Go.Proofs.Ytacphhfhahgeaaa
open Go.RowKit
set_option linter.unusedVariables false
set_option maxRecDepth 4000

theorem cloneI_as_none (w : World) : Calls Try.prog 94 #[.slice none 0 0] w fun en w' => en = .returned (.slice none 0 0) ∧ w = w' := by
  have q : ∀ w : World, (binOp .eql 34 (.slice none 0 0) (.slice none 0 0)).run Try.prog w = .ok (.bool true) w := fun w => Lib.run_eql_slice_nil w _ _ _ _ _ _ _ Try.underlying34
  go_enter Try.func94, Try.ntmps94
  go_wp2_with fail
  go_ret
  exact ⟨rfl, rfl⟩
set_option maxHeartbeats 1000000 in
theorem cloneI_as {A : Option Addr} {n c : Nat} {L : List Int} {w : World} (h : Is w A n L) (sw : Sw A n c) (hn : n ≤ 100000) :
    Calls Try.prog 94 #[.slice A n c] w fun en w' => ∃ v, en = .returned v ∧ w'.ownsRow w.heap.size 3 1 v n (L.flatMap inC) ∧ Below w.heap.size w w' := by
  cases A with
  | none =>
    obtain ⟨rfl, rfl⟩ := sw.none_ rfl
    obtain rfl : L = [] := List.eq_nil_of_length_eq_zero h.1
    refine (cloneI_as_none w).mono ?_
    rintro en w' ⟨rfl, rfl⟩
    exact ⟨_, rfl, World.ownsRow_nil w _ _ _, Below.refl _ _⟩
  | some ad =>
    have q : ∀ w : World, (binOp .eql 34 (.slice (some ad) n c) (.slice none 0 0)).run Try.prog w = .ok (.bool false) w := fun w => Lib.run_eql_slice_nil w _ _ _ _ _ _ _ Try.underlying34
    go_enter Try.func94, Try.ntmps94
    go_upto_region 3 with fail
    have hrow : (w.alloc (.cells #[] 3)).ownsRow w.heap.size 3 1 (.slice (some ⟨w.heap.size, 0, none⟩) 0 0) 0 [] := World.ownsRow_lit w #[] 0 (Nat.le_refl _) (by unfold maxLen; omega) rfl
    have b1 : Below w.heap.size w (w.alloc (.cells #[] 3)) := below_lit _ _
    have h1 := h.on b1
    go_wp2_with (at_builtin; refine wpList_app (A := some ad) (m := n) (c := c) rfl _ _ 34 rfl elm_int (by omega) (by omega) w.heap.size _ _ _ rfl hrow (L.flatMap inC) rfl sw.none_ (by rw [flat_len inC 1 inC_len, h.1]) h1.cells (one_in _) (by omega) b1.size ?_; intro v2 w2 hrow2 hg; have b2 := row_below hrow b1 (Nat.le_refl _) hg)
    go_ret
    exact ⟨_, rfl, by simpa using hrow2, b2⟩
theorem cloneN_as_none (w : World) : Calls Try.prog 104 #[.slice none 0 0] w fun en w' => en = .returned (.slice none 0 0) ∧ w = w' := by
  have q : ∀ w : World, (binOp .eql 22 (.slice none 0 0) (.slice none 0 0)).run Try.prog w = .ok (.bool true) w := fun w => Lib.run_eql_slice_nil w _ _ _ _ _ _ _ Try.underlying22
  go_enter Try.func104, Try.ntmps104
  go_wp2_with fail
  go_ret
  exact ⟨rfl, rfl⟩
set_option maxHeartbeats 1000000 in
theorem cloneN_as {A : Option Addr} {n c : Nat} {L : List Nd} {w : World} (h : Ns w A n L) (sw : Sw A n c) (hn : n ≤ 100000) :
    Calls Try.prog 104 #[.slice A n c] w fun en w' => ∃ v, en = .returned v ∧ w'.ownsRow w.heap.size 50 4 v n (L.flatMap ndC) ∧ Below w.heap.size w w' := by
  cases A with
  | none =>
    obtain ⟨rfl, rfl⟩ := sw.none_ rfl
    obtain rfl : L = [] := List.eq_nil_of_length_eq_zero h.1
    refine (cloneN_as_none w).mono ?_
    rintro en w' ⟨rfl, rfl⟩
    exact ⟨_, rfl, World.ownsRow_nil w _ _ _, Below.refl _ _⟩
  | some ad =>
    have q : ∀ w : World, (binOp .eql 22 (.slice (some ad) n c) (.slice none 0 0)).run Try.prog w = .ok (.bool false) w := fun w => Lib.run_eql_slice_nil w _ _ _ _ _ _ _ Try.underlying22
    go_enter Try.func104, Try.ntmps104
    go_upto_region 3 with fail
    have hrow : (w.alloc (.cells #[] 50)).ownsRow w.heap.size 50 4 (.slice (some ⟨w.heap.size, 0, none⟩) 0 0) 0 [] := World.ownsRow_lit w #[] 0 (Nat.le_refl _) (by unfold maxLen; omega) rfl
    have b1 : Below w.heap.size w (w.alloc (.cells #[] 50)) := below_lit _ _
    have h1 := h.on b1
    go_wp2_with (at_builtin; refine wpList_app (A := some ad) (m := n) (c := c) rfl _ _ 22 rfl elm_node (by omega) (by omega) w.heap.size _ _ _ rfl hrow (L.flatMap ndC) rfl sw.none_ (by rw [flat_len ndC 4 ndC_len, h.1]) h1.cells (one_nd _) (by omega) b1.size ?_; intro v2 w2 hrow2 hg; have b2 := row_below hrow b1 (Nat.le_refl _) hg)
    go_ret
    exact ⟨_, rfl, by simpa using hrow2, b2⟩
theorem cloneP_as_none (w : World) : Calls Try.prog 159 #[.slice none 0 0] w fun en w' => en = .returned (.slice none 0 0) ∧ w = w' := by
  have q : ∀ w : World, (binOp .eql 23 (.slice none 0 0) (.slice none 0 0)).run Try.prog w = .ok (.bool true) w := fun w => Lib.run_eql_slice_nil w _ _ _ _ _ _ _ Try.underlying23
  go_enter Try.func159, Try.ntmps159
  go_wp2_with fail
  go_ret
  exact ⟨rfl, rfl⟩
set_option maxHeartbeats 1000000 in
theorem cloneP_as {A : Option Addr} {n c : Nat} {L : List Rp} {w : World} (h : PsR w A n L) (sw : Sw A n c) (hn : n ≤ 100000) :
    Calls Try.prog 159 #[.slice A n c] w fun en w' => ∃ v, en = .returned v ∧ w'.ownsRow w.heap.size 94 2 v n (L.flatMap ptC) ∧ Below w.heap.size w w' := by
  cases A with
  | none =>
    obtain ⟨rfl, rfl⟩ := sw.none_ rfl
    obtain rfl : L = [] := List.eq_nil_of_length_eq_zero h.1
    refine (cloneP_as_none w).mono ?_
    rintro en w' ⟨rfl, rfl⟩
    exact ⟨_, rfl, World.ownsRow_nil w _ _ _, Below.refl _ _⟩
  | some ad =>
    have q : ∀ w : World, (binOp .eql 23 (.slice (some ad) n c) (.slice none 0 0)).run Try.prog w = .ok (.bool false) w := fun w => Lib.run_eql_slice_nil w _ _ _ _ _ _ _ Try.underlying23
    go_enter Try.func159, Try.ntmps159
    go_upto_region 3 with fail
    have hrow : (w.alloc (.cells #[] 94)).ownsRow w.heap.size 94 2 (.slice (some ⟨w.heap.size, 0, none⟩) 0 0) 0 [] := World.ownsRow_lit w #[] 0 (Nat.le_refl _) (by unfold maxLen; omega) rfl
    have b1 : Below w.heap.size w (w.alloc (.cells #[] 94)) := below_lit _ _
    have h1 := h.on b1
    go_wp2_with (at_builtin; refine wpList_app (A := some ad) (m := n) (c := c) rfl _ _ 23 rfl elm_port (by omega) (by omega) w.heap.size _ _ _ rfl hrow (L.flatMap ptC) rfl sw.none_ (by rw [flat_len ptC 2 ptC_len, h.1]) h1.cells (one_pt _) (by omega) b1.size ?_; intro v2 w2 hrow2 hg; have b2 := row_below hrow b1 (Nat.le_refl _) hg)
    go_ret
    exact ⟨_, rfl, by simpa using hrow2, b2⟩
set_option maxHeartbeats 1000000 in
/-- USES. -/
theorem uses_as (k p q r : Int) (w : World) : Calls Try.prog 152 #[.agg #[.int .i64 k, .int .i64 p, .int .i64 q, .int .i64 r]] w fun en w' => ∃ A m c, en = .returned (.slice A m c) ∧ Is w' A m (usesS ⟨k, p, q, r⟩) ∧ Sw A m c ∧ Below w.heap.size w w' := by
  obtain ⟨m, hm⟩ : ∃ m, manyS k = m := ⟨_, rfl⟩
  have hm3 : (m : Int) ≤ 3 := by have := manyS_le k; omega
  have hm0 : (0 : Int) ≤ (m : Int) := by omega
  have HM := Lib.hid hm
  have HLN : Hid ((usesS ⟨k, p, q, r⟩).length = m) := Lib.hid (by rw [usesS_length]; exact hm)
  clear hm
  go_enter Try.func152, Try.ntmps152
  go_upto_region 1 with fail
  obtain ⟨w1, e_w1⟩ : ∃ w', w.alloc (.cells #[.int .i64 k, .int .i64 p, .int .i64 q, .int .i64 r] 50) = w' := ⟨_, rfl⟩
  have z0 : Bx w1 w.heap.size [.int .i64 k, .int .i64 p, .int .i64 q, .int .i64 r] := e_w1 ▸ Bx.made_k w rfl #[.int .i64 k, .int .i64 p, .int .i64 q, .int .i64 r] 50
  have b1 : Below w.heap.size w w1 := e_w1 ▸ below_lit _ _
  rw [e_w1]
  clear e_w1
  have z0c0 := z0.2 0 _ rfl
  have z0c1 := z0.2 1 _ rfl
  have z0c2 := z0.2 2 _ rfl
  have z0c3 := z0.2 3 _ rfl
  go_wp2_with fail
  refine (used_as k p q r m HM.out _).mono ?_
  rintro e w2 ⟨rfl, b2⟩
  have B2 := Below.step b1 b2
  clear z0c0 z0c1 z0c2 z0c3 z0 b1 b2
  go_upto_region 2 with fail
  obtain ⟨w3, e_w3⟩ : ∃ w', w2.alloc (.cells #[.int .i64 p, .int .i64 q, .int .i64 r] 197) = w' := ⟨_, rfl⟩
  have z1 : Bx w3 w2.heap.size [.int .i64 p, .int .i64 q, .int .i64 r] := e_w3 ▸ Bx.made_k w2 rfl #[.int .i64 p, .int .i64 q, .int .i64 r] 197
  have b3 : Below w2.heap.size w2 w3 := e_w3 ▸ below_lit _ _
  rw [e_w3]
  clear e_w3
  have B3 := Below.step B2 b3
  have hi : Is w3 (some ⟨w2.heap.size, 0, none⟩) m (usesS ⟨k, p, q, r⟩) := ⟨HLN.out, fun j x hx => ⟨_, 0, rfl, z1.1, by
    rw [Nat.zero_add]
    exact z1.2 j _ (take_at j x (by rw [HM.out, ← HLN.out]; exact (List.getElem?_eq_some_iff.1 hx).1) hx)⟩⟩
  go_wp2_with (at_builtin; refine wpList_app (A := some ⟨w2.heap.size, 0, none⟩) (m := m) (c := 3) rfl _ _ 34 rfl elm_int (by omega) (by omega) w.heap.size _ _ _ rfl (World.ownsRow_nil w3 _ _ _) ((usesS ⟨k, p, q, r⟩).flatMap inC) rfl (fun e => by cases e) (by rw [flat_len inC 1 inC_len, HLN.out]) hi.cells (one_in _) (by omega) B3.size ?_; intro v4 w4 hrow hg; have B4 := row_below (World.ownsRow_nil w3 w.heap.size 3 1) B3 (Nat.le_refl _) hg)
  go_ret
  rw [Nat.zero_add, List.nil_append] at hrow
  obtain ⟨A, c, rfl, sw, _, hi4⟩ := row_is hrow
  exact ⟨A, m, c, rfl, hi4, sw, B4⟩
end Go.Proofs.Ytacphhfhahgeaaa
