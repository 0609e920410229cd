
/-
  The reference of layer 5: its small functions.
-/
import Derived.Test.YtpachoeignpcbaaGreatDoorIh
import Derived.Test.YtpachoeignpcbaaGreatDoorRre
namespace Go.Proofs.YtpachoeignpcbaaGreatDoor
open Go.RowKit
set_option linter.unusedVariables false

/-- one cell of operands. -/
def OC (w : World) (s k x : Nat) : Prop := w.cell? ⟨s, k, none⟩ = some (.int .u64 (x : Int)) ∧ s < w.heap.size
theorem OC.on {w w' : World} {s k x : Nat} (h : OC w s k x) (hb : Below w.heap.size w w') : OC w' s k x := ⟨(hb.cell (p := ⟨s, k, none⟩) h.2).trans h.1, Nat.lt_of_lt_of_le h.2 hb.size⟩
theorem OC.cells {w : World} {s k x : Nat} (h : OC w s k x) : w.cell? ⟨s, k, none⟩ = some (.int .u64 (x : Int)) ∧ True := ⟨h.1, trivial⟩
theorem OB.oc {w : World} {s : Nat} {L : List Nat} (h : OB w s L) {k x : Nat} (hk : L[k]? = some x) : OC w s k x := ⟨h.look hk, Own.lt h⟩
/-- the first that is no number, quieted; is one signalling? -/
def fstS (M E H : Nat) (L : List Nat) : Nat × Bool := if L.any (nanB M E) then (qtS M H (L.find? (nanB M E)).get!, true) else (0, false)
def sgsS (M E : Nat) (L : List Nat) : Bool := L.any (sigB M E)
theorem any_take {p : Nat → Bool} {L : List Nat} {k x : Nat} (h : (L.take k).any p = false) (hk : L[k]? = some x) (hx : p x = false) : (L.take (k + 1)).any p = false := by
  rw [List.take_add_one, hk, List.any_append, h]
  simp [hx]
theorem any_is {p : Nat → Bool} {L : List Nat} {k x : Nat} (hk : L[k]? = some x) (hx : p x = true) : L.any p = true := List.any_eq_true.2 ⟨x, List.mem_of_getElem? hk, hx⟩
theorem find_is {p : Nat → Bool} {L : List Nat} {k x : Nat} (h : (L.take k).any p = false) (hk : L[k]? = some x) (hx : p x = true) : L.find? p = some x := by
  obtain ⟨h1, h2⟩ := List.getElem?_eq_some_iff.1 hk
  have : L = L.take k ++ (x :: L.drop (k + 1)) := by
    rw [← h2, ← List.drop_eq_getElem_cons h1, List.take_append_drop]
  rw [this, List.find?_append]
  have hn : (L.take k).find? p = none := by
    rw [List.find?_eq_none]
    intro y hy
    have := List.any_eq_false.1 h y hy
    exact this
  rw [hn, Option.none_or, List.find?_cons, hx]
theorem rwrong_m1 {B P W : Nat} {s n : Nat} {w : World} (mode : Int) (d1 : decide (mode < 0) = true) :
    Calls Tryz.prog 24 #[.agg #[.int .i64 (B : Int), .int .i64 (P : Int), .int .i64 (W : Int)], .int .i64 mode, .slice (some ⟨s, 0, none⟩) n n] w fun e w' => e = .returned (.int .i64 1) ∧ Below w.heap.size w w' := by
  go_enter Tryz.func24, Tryz.ntmps24
  go_wp2
  go_ret
  exact ⟨rfl, below_lit _ _⟩
theorem rwrong_m2 {B P W : Nat} {s n : Nat} {w : World} (mode : Int) (d1 : decide (mode < 0) = false) (d2 : decide (4 < mode) = true) :
    Calls Tryz.prog 24 #[.agg #[.int .i64 (B : Int), .int .i64 (P : Int), .int .i64 (W : Int)], .int .i64 mode, .slice (some ⟨s, 0, none⟩) n n] w fun e w' => e = .returned (.int .i64 1) ∧ Below w.heap.size w w' := by
  go_enter Tryz.func24, Tryz.ntmps24
  go_wp2
  go_ret
  exact ⟨rfl, below_lit _ _⟩
set_option maxHeartbeats 1000000 in
theorem rwrong_walk {B P W M E H : Nat} {low : Int} (hf : Fm B P W M E H low) (L : List Nat) (hL : ∀ x ∈ L, x < 18446744073709551616) {s n : Nat} (hln : L.length = n) (hn : n ≤ 1000) {w : World} (h : OB w s L) (mode : Int) (d1 : decide (mode < 0) = false) (d2 : decide (4 < mode) = false) (v : Int) (hv : (if L.all (fun b => decide (b < 2 * H)) then 0 else 3) = v) :
    Calls Tryz.prog 24 #[.agg #[.int .i64 (B : Int), .int .i64 (P : Int), .int .i64 (W : Int)], .int .i64 mode, .slice (some ⟨s, 0, none⟩) n n] w fun e w' => e = .returned (.int .i64 v) ∧ Below w.heap.size w w' := by
  have HV := Lib.hid hv
  clear hv
  have HN := Lib.hid hln
  have HL := Lib.hid hL
  clear hln hL
  go_enter Tryz.func24, Tryz.ntmps24
  go_wp2_with fail
  obtain ⟨V, hV, z0, BW, sW⟩ := fframe1 w 29 (B : Int) (P : Int) (W : Int)
  rw [hV]
  clear hV sW
  replace h := h.on BW
  go_loopw [7] (fun i wr => ∃ k : Nat, k ≤ n ∧ i = .int .i64 k ∧ (L.take k).all (fun b => decide (b < 2 * H)) = true ∧ FB wr w.heap.size 29 (B : Int) (P : Int) (W : Int) ∧ OB wr s L ∧ Below w.heap.size w wr) (fun i _ => n - (intOf i).toNat)
  case atStart => exact ⟨0, Nat.zero_le _, rfl, rfl, z0, h, BW⟩
  case round =>
    clear BW z0 h
    obtain ⟨k, hk, rfl, ha, z1, h1, BW⟩ := hrel
    have HA := Lib.hid ha
    clear ha
    by_cases hlt : k < n
    · obtain ⟨x, hx, hx64⟩ := look_lt HN.out hlt HL.out
      have zo := h1.oc hx
      have HX := Lib.hid hx
      clear hx
      by_cases hm : x < 2 * H
      · have HP := Lib.hid (fun V => parts_as hf x _ _ _ false hx64 rfl rfl rfl (decide_eq_false (fun h => h hm)) V)
        have HX2 := Lib.hid hm
        clear hm
        obtain ⟨z1c0, z1c1, z1c2, z1f0, z1f1, z1f2, z1l⟩ := z1.cells
        go_upto_region 6 with fail
        clear z1c0 z1c1 z1c2 z1f0 z1f1 z1f2 z1l
        replace z1 := z1.on ((Below.refl _ _).drew : Below wr.heap.size wr wr.drew)
        replace h1 := h1.on ((Below.refl _ _).drew : Below wr.heap.size wr wr.drew)
        replace zo := zo.on ((Below.refl _ _).drew : Below wr.heap.size wr wr.drew)
        replace BW := Lib.hid (Below.step BW ((Below.refl _ _).drew : Below wr.heap.size wr wr.drew))
        go_region_held3 (fun w' => w'.cell? ⟨w.heap.size, 0, none⟩ = some (.int .i64 (B : Int)) ∧ w'.cell? ⟨w.heap.size, 1, none⟩ = some (.int .i64 (P : Int)) ∧ w'.cell? ⟨w.heap.size, 2, none⟩ = some (.int .i64 (W : Int)) ∧ w'.cell? ⟨s, k, none⟩ = some (.int .u64 (x : Int)))
          ((first | (with_reducible exact ⟨z1.cells.1, z1.cells.2.1, z1.cells.2.2.1, zo.cells.1⟩)))
          (first
            | (go_at_call 41
               (with_reducible refine (HP.out _).mono ?_)
               rintro en w1 ⟨rfl, b⟩
               replace z1 := z1.on b
               replace h1 := h1.on b
               replace zo := zo.on b
               replace BW := Lib.hid (Below.step BW.out b)
               clear b))
        all_goals replace BW := BW.out
        go_wp2_with fail
        go_roundw
        case rel => exact ⟨k + 1, by omega, by go_num, all_take HA.out HX.out (decide_eq_true HX2.out), z1, h1, BW⟩
        case measure => simp [intOf]; omega
      · have HP := Lib.hid (fun V => parts_as hf x _ _ _ true hx64 rfl rfl rfl (decide_eq_true hm) V)
        have HR := Lib.hid (all_fails (p := fun b => decide (b < 2 * H)) HX.out (decide_eq_false hm))
        clear hm
        obtain ⟨z1c0, z1c1, z1c2, z1f0, z1f1, z1f2, z1l⟩ := z1.cells
        go_upto_region 6 with fail
        clear z1c0 z1c1 z1c2 z1f0 z1f1 z1f2 z1l
        replace z1 := z1.on ((Below.refl _ _).drew : Below wr.heap.size wr wr.drew)
        replace h1 := h1.on ((Below.refl _ _).drew : Below wr.heap.size wr wr.drew)
        replace zo := zo.on ((Below.refl _ _).drew : Below wr.heap.size wr wr.drew)
        replace BW := Lib.hid (Below.step BW ((Below.refl _ _).drew : Below wr.heap.size wr wr.drew))
        go_region_held3 (fun w' => w'.cell? ⟨w.heap.size, 0, none⟩ = some (.int .i64 (B : Int)) ∧ w'.cell? ⟨w.heap.size, 1, none⟩ = some (.int .i64 (P : Int)) ∧ w'.cell? ⟨w.heap.size, 2, none⟩ = some (.int .i64 (W : Int)) ∧ w'.cell? ⟨s, k, none⟩ = some (.int .u64 (x : Int)))
          ((first | (with_reducible exact ⟨z1.cells.1, z1.cells.2.1, z1.cells.2.2.1, zo.cells.1⟩)))
          (first
            | (go_at_call 41
               (with_reducible refine (HP.out _).mono ?_)
               rintro en w1 ⟨rfl, b⟩
               replace z1 := z1.on b
               replace h1 := h1.on b
               replace zo := zo.on b
               replace BW := Lib.hid (Below.step BW.out b)
               clear b))
        all_goals replace BW := BW.out
        go_wp2_with fail
        go_ret
        exact ⟨ret_int (by rw [← HV.out, HR.out]; rfl), BW⟩
    · have HR : Hid (L.all (fun b => decide (b < 2 * H)) = true) := by
        have := HA.out
        rw [List.take_of_length_le (by rw [HN.out]; omega)] at this
        exact Lib.hid this
      go_wp2_with fail
      go_ret
      exact ⟨ret_int (by rw [← HV.out, HR.out]; rfl), BW⟩
theorem rwrong_as {B P W M E H : Nat} {low : Int} (hf : Fm B P W M E H low) (L : List Nat) (hL : ∀ x ∈ L, x < 18446744073709551616) {s n : Nat} (hln : L.length = n) (hn : n ≤ 1000) {w : World} (h : OB w s L) (mode : Int) (v : Int) (hv : wrongS H mode L = v) :
    Calls Tryz.prog 24 #[.agg #[.int .i64 (B : Int), .int .i64 (P : Int), .int .i64 (W : Int)], .int .i64 mode, .slice (some ⟨s, 0, none⟩) n n] w fun e w' => e = .returned (.int .i64 v) ∧ Below w.heap.size w w' := by
  unfold wrongS at hv
  by_cases m1 : mode < 0
  · rw [if_pos (.inl m1)] at hv
    subst hv
    exact rwrong_m1 mode (decide_eq_true m1)
  by_cases m2 : 4 < mode
  · rw [if_pos (.inr m2)] at hv
    subst hv
    exact rwrong_m2 mode (decide_eq_false m1) (decide_eq_true m2)
  rw [if_neg (by omega)] at hv
  exact rwrong_walk hf L hL hln hn h mode (decide_eq_false m1) (decide_eq_false m2) v hv
set_option maxHeartbeats 1000000 in
theorem rfirst_as {B P W M E H : Nat} {low : Int} (hf : Fm B P W M E H low) (L : List Nat) (hL : ∀ x ∈ L, x < 18446744073709551616) {s n : Nat} (hln : L.length = n) (hn : n ≤ 1000) {w : World} (h : OB w s L) {r1 : Nat} {r2 : Bool} (hv : fstS M E H L = (r1, r2)) :
    Calls Tryz.prog 32 #[.agg #[.int .i64 (B : Int), .int .i64 (P : Int), .int .i64 (W : Int)], .slice (some ⟨s, 0, none⟩) n n] w fun e w' => e = .returned (.tuple #[.int .u64 (r1 : Int), .bool r2]) ∧ Below w.heap.size w w' := by
  have HV := Lib.hid hv
  clear hv
  have HN := Lib.hid hln
  have HL := Lib.hid hL
  clear hln hL
  go_enter Tryz.func32, Tryz.ntmps32
  go_wp2_with fail
  obtain ⟨V, hV, z0, BW, sW⟩ := fframe1 w 29 (B : Int) (P : Int) (W : Int)
  rw [hV]
  clear hV sW
  replace h := h.on BW
  go_loopw [6] (fun i wr => ∃ k : Nat, k ≤ n ∧ i = .int .i64 k ∧ (L.take k).any (nanB M E) = false ∧ FB wr w.heap.size 29 (B : Int) (P : Int) (W : Int) ∧ OB wr s L ∧ Below w.heap.size w wr) (fun i _ => n - (intOf i).toNat)
  case atStart => exact ⟨0, Nat.zero_le _, rfl, rfl, z0, h, BW⟩
  case round =>
    clear BW z0 h
    obtain ⟨k, hk, rfl, ha, z1, h1, BW⟩ := hrel
    have HA := Lib.hid ha
    clear ha
    by_cases hlt : k < n
    · obtain ⟨x, hx, hx64⟩ := look_lt HN.out hlt HL.out
      have zo := h1.oc hx
      have HX := Lib.hid hx
      clear hx
      obtain ⟨q, hq⟩ : ∃ q, clsS M E x = q := ⟨_, rfl⟩
      have HC := Lib.hid (fun V => rclass_as hf x q hx64 hq V)
      by_cases h4 : 4 ≤ q
      · have d4 : decide (4 ≤ q) = true := decide_eq_true h4
        have HNB : Hid (nanB M E x = true) := Lib.hid (by unfold nanB; rw [hq]; exact d4)
        have HQ := Lib.hid (fun V => rquieted_as hf x (qtS M H x) hx64 rfl V)
        clear h4 hq
        obtain ⟨z1c0, z1c1, z1c2, z1f0, z1f1, z1f2, z1l⟩ := z1.cells
        go_upto_region 4 with fail
        clear z1c0 z1c1 z1c2 z1f0 z1f1 z1f2 z1l
        replace z1 := z1.on ((Below.refl _ _).drew : Below wr.heap.size wr wr.drew)
        replace h1 := h1.on ((Below.refl _ _).drew : Below wr.heap.size wr wr.drew)
        replace zo := zo.on ((Below.refl _ _).drew : Below wr.heap.size wr wr.drew)
        replace BW := Lib.hid (Below.step BW ((Below.refl _ _).drew : Below wr.heap.size wr wr.drew))
        go_region_held3 (fun w' => w'.cell? ⟨w.heap.size, 0, none⟩ = some (.int .i64 (B : Int)) ∧ w'.cell? ⟨w.heap.size, 1, none⟩ = some (.int .i64 (P : Int)) ∧ w'.cell? ⟨w.heap.size, 2, none⟩ = some (.int .i64 (W : Int)) ∧ w'.cell? ⟨s, k, none⟩ = some (.int .u64 (x : Int)))
          ((first | (with_reducible exact ⟨z1.cells.1, z1.cells.2.1, z1.cells.2.2.1, zo.cells.1⟩)))
          (first
            | (go_at_call 25
               (with_reducible refine (HC.out _).mono ?_)
               rintro en w1 ⟨rfl, b⟩
               replace z1 := z1.on b
               replace h1 := h1.on b
               replace zo := zo.on b
               replace BW := Lib.hid (Below.step BW.out b)
               clear b))
        all_goals replace BW := BW.out
        obtain ⟨z1c0, z1c1, z1c2, z1f0, z1f1, z1f2, z1l⟩ := z1.cells
        go_upto_region 5 with fail
        clear z1c0 z1c1 z1c2 z1f0 z1f1 z1f2 z1l
        replace z1 := z1.on ((Below.refl _ _).drew : Below w1.heap.size w1 w1.drew)
        replace h1 := h1.on ((Below.refl _ _).drew : Below w1.heap.size w1 w1.drew)
        replace zo := zo.on ((Below.refl _ _).drew : Below w1.heap.size w1 w1.drew)
        replace BW := Lib.hid (Below.step BW ((Below.refl _ _).drew : Below w1.heap.size w1 w1.drew))
        go_region_held3 (fun w' => w'.cell? ⟨w.heap.size, 0, none⟩ = some (.int .i64 (B : Int)) ∧ w'.cell? ⟨w.heap.size, 1, none⟩ = some (.int .i64 (P : Int)) ∧ w'.cell? ⟨w.heap.size, 2, none⟩ = some (.int .i64 (W : Int)) ∧ w'.cell? ⟨s, k, none⟩ = some (.int .u64 (x : Int)))
          ((first | (with_reducible exact ⟨z1.cells.1, z1.cells.2.1, z1.cells.2.2.1, zo.cells.1⟩)))
          (first
            | (go_at_call 55
               (with_reducible refine (HQ.out _).mono ?_)
               rintro en w2 ⟨rfl, b⟩
               replace z1 := z1.on b
               replace h1 := h1.on b
               replace zo := zo.on b
               replace BW := Lib.hid (Below.step BW.out b)
               clear b))
        all_goals replace BW := BW.out
        have HE : Hid (r1 = qtS M H x ∧ r2 = true) := by
          have := HV.out
          unfold fstS at this
          rw [any_is HX.out HNB.out, if_pos rfl, find_is HA.out HX.out HNB.out] at this
          simp only [Option.get!_some, Prod.mk.injEq] at this
          exact Lib.hid ⟨this.1.symm, this.2.symm⟩
        obtain ⟨rfl, rfl⟩ := HE.out
        go_wp2_with fail
        refine bodyPost_ret (v := .tuple #[.int .u64 ((qtS M H x : Nat) : Int), .bool true]) (by simp [results, Tryz.results32, go_sem]) rfl ⟨rfl, BW⟩
      · have d4 : decide (4 ≤ q) = false := decide_eq_false h4
        have HNB : Hid (nanB M E x = false) := Lib.hid (by unfold nanB; rw [hq]; exact d4)
        clear h4 hq
        obtain ⟨z1c0, z1c1, z1c2, z1f0, z1f1, z1f2, z1l⟩ := z1.cells
        go_upto_region 4 with fail
        clear z1c0 z1c1 z1c2 z1f0 z1f1 z1f2 z1l
        replace z1 := z1.on ((Below.refl _ _).drew : Below wr.heap.size wr wr.drew)
        replace h1 := h1.on ((Below.refl _ _).drew : Below wr.heap.size wr wr.drew)
        replace zo := zo.on ((Below.refl _ _).drew : Below wr.heap.size wr wr.drew)
        replace BW := Lib.hid (Below.step BW ((Below.refl _ _).drew : Below wr.heap.size wr wr.drew))
        go_region_held3 (fun w' => w'.cell? ⟨w.heap.size, 0, none⟩ = some (.int .i64 (B : Int)) ∧ w'.cell? ⟨w.heap.size, 1, none⟩ = some (.int .i64 (P : Int)) ∧ w'.cell? ⟨w.heap.size, 2, none⟩ = some (.int .i64 (W : Int)) ∧ w'.cell? ⟨s, k, none⟩ = some (.int .u64 (x : Int)))
          ((first | (with_reducible exact ⟨z1.cells.1, z1.cells.2.1, z1.cells.2.2.1, zo.cells.1⟩)))
          (first
            | (go_at_call 25
               (with_reducible refine (HC.out _).mono ?_)
               rintro en w1 ⟨rfl, b⟩
               replace z1 := z1.on b
               replace h1 := h1.on b
               replace zo := zo.on b
               replace BW := Lib.hid (Below.step BW.out b)
               clear b))
        all_goals replace BW := BW.out
        go_wp2_with fail
        go_roundw
        case rel => exact ⟨k + 1, by omega, by go_num, any_take HA.out HX.out HNB.out, z1, h1, BW⟩
        case measure => simp [intOf]; omega
    · have HE : Hid (r1 = 0 ∧ r2 = false) := by
        have := HA.out
        rw [List.take_of_length_le (by rw [HN.out]; omega)] at this
        have h2 := HV.out
        unfold fstS at h2
        rw [this, if_neg (by decide)] at h2
        simp only [Prod.mk.injEq] at h2
        exact Lib.hid ⟨h2.1.symm, h2.2.symm⟩
      obtain ⟨rfl, rfl⟩ := HE.out
      go_wp2_with fail
      refine bodyPost_ret (v := .tuple #[.int .u64 0, .bool false]) (by simp [results, Tryz.results32, go_sem]) rfl ⟨rfl, BW⟩
set_option maxHeartbeats 1000000 in
theorem rsignals_as {B P W M E H : Nat} {low : Int} (hf : Fm B P W M E H low) (L : List Nat) (hL : ∀ x ∈ L, x < 18446744073709551616) {s n : Nat} (hln : L.length = n) (hn : n ≤ 1000) {w : World} (h : OB w s L) (v : Bool) (hv : sgsS M E L = v) :
    Calls Tryz.prog 33 #[.agg #[.int .i64 (B : Int), .int .i64 (P : Int), .int .i64 (W : Int)], .slice (some ⟨s, 0, none⟩) n n] w fun e w' => e = .returned (.bool v) ∧ Below w.heap.size w w' := by
  have HV := Lib.hid hv
  clear hv
  have HN := Lib.hid hln
  have HL := Lib.hid hL
  clear hln hL
  go_enter Tryz.func33, Tryz.ntmps33
  go_wp2_with fail
  obtain ⟨V, hV, z0, BW, sW⟩ := fframe1 w 29 (B : Int) (P : Int) (W : Int)
  rw [hV]
  clear hV sW
  replace h := h.on BW
  go_loopw [5] (fun i wr => ∃ k : Nat, k ≤ n ∧ i = .int .i64 k ∧ (L.take k).any (sigB M E) = false ∧ FB wr w.heap.size 29 (B : Int) (P : Int) (W : Int) ∧ OB wr s L ∧ Below w.heap.size w wr) (fun i _ => n - (intOf i).toNat)
  case atStart => exact ⟨0, Nat.zero_le _, rfl, rfl, z0, h, BW⟩
  case round =>
    clear BW z0 h
    obtain ⟨k, hk, rfl, ha, z1, h1, BW⟩ := hrel
    have HA := Lib.hid ha
    clear ha
    by_cases hlt : k < n
    · obtain ⟨x, hx, hx64⟩ := look_lt HN.out hlt HL.out
      have zo := h1.oc hx
      have HX := Lib.hid hx
      clear hx
      obtain ⟨q, hq⟩ : ∃ q, clsS M E x = q := ⟨_, rfl⟩
      have HC := Lib.hid (fun V => rclass_as hf x q hx64 hq V)
      by_cases h4 : q = 5
      · have d4 : (q == 5) = true := by simp [h4]
        have HNB : Hid (v = true) := Lib.hid (by rw [← HV.out]; unfold sgsS; exact any_is HX.out (by unfold sigB; rw [hq]; exact decide_eq_true h4))
        obtain rfl := HNB.out
        clear h4 hq
        obtain ⟨z1c0, z1c1, z1c2, z1f0, z1f1, z1f2, z1l⟩ := z1.cells
        go_upto_region 4 with fail
        clear z1c0 z1c1 z1c2 z1f0 z1f1 z1f2 z1l
        replace z1 := z1.on ((Below.refl _ _).drew : Below wr.heap.size wr wr.drew)
        replace h1 := h1.on ((Below.refl _ _).drew : Below wr.heap.size wr wr.drew)
        replace zo := zo.on ((Below.refl _ _).drew : Below wr.heap.size wr wr.drew)
        replace BW := Lib.hid (Below.step BW ((Below.refl _ _).drew : Below wr.heap.size wr wr.drew))
        go_region_held3 (fun w' => w'.cell? ⟨w.heap.size, 0, none⟩ = some (.int .i64 (B : Int)) ∧ w'.cell? ⟨w.heap.size, 1, none⟩ = some (.int .i64 (P : Int)) ∧ w'.cell? ⟨w.heap.size, 2, none⟩ = some (.int .i64 (W : Int)) ∧ w'.cell? ⟨s, k, none⟩ = some (.int .u64 (x : Int)))
          ((first | (with_reducible exact ⟨z1.cells.1, z1.cells.2.1, z1.cells.2.2.1, zo.cells.1⟩)))
          (first
            | (go_at_call 25
               (with_reducible refine (HC.out _).mono ?_)
               rintro en w1 ⟨rfl, b⟩
               replace z1 := z1.on b
               replace h1 := h1.on b
               replace zo := zo.on b
               replace BW := Lib.hid (Below.step BW.out b)
               clear b))
        all_goals replace BW := BW.out
        go_wp2_with fail
        go_ret
        exact ⟨rfl, BW⟩
      · have d4 : (q == 5) = false := by simp [h4]
        have HNB : Hid (sigB M E x = false) := Lib.hid (by unfold sigB; rw [hq]; exact decide_eq_false h4)
        clear h4 hq
        obtain ⟨z1c0, z1c1, z1c2, z1f0, z1f1, z1f2, z1l⟩ := z1.cells
        go_upto_region 4 with fail
        clear z1c0 z1c1 z1c2 z1f0 z1f1 z1f2 z1l
        replace z1 := z1.on ((Below.refl _ _).drew : Below wr.heap.size wr wr.drew)
        replace h1 := h1.on ((Below.refl _ _).drew : Below wr.heap.size wr wr.drew)
        replace zo := zo.on ((Below.refl _ _).drew : Below wr.heap.size wr wr.drew)
        replace BW := Lib.hid (Below.step BW ((Below.refl _ _).drew : Below wr.heap.size wr wr.drew))
        go_region_held3 (fun w' => w'.cell? ⟨w.heap.size, 0, none⟩ = some (.int .i64 (B : Int)) ∧ w'.cell? ⟨w.heap.size, 1, none⟩ = some (.int .i64 (P : Int)) ∧ w'.cell? ⟨w.heap.size, 2, none⟩ = some (.int .i64 (W : Int)) ∧ w'.cell? ⟨s, k, none⟩ = some (.int .u64 (x : Int)))
          ((first | (with_reducible exact ⟨z1.cells.1, z1.cells.2.1, z1.cells.2.2.1, zo.cells.1⟩)))
          (first
            | (go_at_call 25
               (with_reducible refine (HC.out _).mono ?_)
               rintro en w1 ⟨rfl, b⟩
               replace z1 := z1.on b
               replace h1 := h1.on b
               replace zo := zo.on b
               replace BW := Lib.hid (Below.step BW.out b)
               clear b))
        all_goals replace BW := BW.out
        go_wp2_with fail
        go_roundw
        case rel => exact ⟨k + 1, by omega, by go_num, any_take HA.out HX.out HNB.out, z1, h1, BW⟩
        case measure => simp [intOf]; omega
    · have HE : Hid (v = false) := by
        have := HA.out
        rw [List.take_of_length_le (by rw [HN.out]; omega)] at this
        exact Lib.hid (by rw [← HV.out]; exact this)
      obtain rfl := HE.out
      go_wp2_with fail
      go_ret
      exact ⟨rfl, BW⟩
theorem rneg_as5 {B P W M E H : Nat} {low : Int} (hf : Fm B P W M E H low) (b : Nat) (hb : b < 18446744073709551616) (v : Bool) (hv : ngB H b = v) (w : World) :
    Calls Tryz.prog 31 #[.agg #[.int .i64 (B : Int), .int .i64 (P : Int), .int .i64 (W : Int)], .int .u64 (b : Int)] w fun e w' => e = .returned (.bool v) ∧ Below w.heap.size w w' := by
  have hs2 : b / H % 2 < 2 := Nat.mod_lt _ (by omega)
  have d1 : (((b / H % 2 : Nat) : Int) == 1) = v := by rw [← hv]; unfold ngB; rw [Bool.eq_iff_iff]; simp; omega
  have HP := Lib.hid (fun V => parts_as hf b _ _ _ _ hb rfl rfl rfl rfl V)
  generalize b / H % 2 = sg at *
  clear hv hs2
  go_enter Tryz.func31, Tryz.ntmps31
  go_wp2_with fail
  obtain ⟨V, hV, z0, BW, sW⟩ := fframe1 w 29 (B : Int) (P : Int) (W : Int)
  rw [hV]
  clear hV sW
  refine (HP.out _).mono ?_
  rintro en w1 ⟨rfl, b⟩
  replace z0 := z0.on b
  replace BW := Below.step BW b
  clear b
  obtain ⟨z0c0, z0c1, z0c2, z0f0, z0f1, z0f2, z0l⟩ := z0.cells
  go_wp2_with fail
  go_ret
  exact ⟨rfl, BW⟩
theorem trn_build {B P W M E H : Nat} {low : Int} (hf : Fm B P W M E H low) (b : Nat) : sgn H (!ngB H b) (b / M % (E + 1) * M + b % M) = trnS H b := by
  obtain ⟨h1, h2⟩ := bits_parts hf b
  have hb := hf.bd
  unfold trnS
  congr 1
  have h3 : b % (2 * H) % H = b % H := Nat.mod_mul_left_mod b 2 H
  rw [← h3, h1, Nat.add_comm (b / H % 2 * H), Nat.add_mul_mod_self_right, Nat.mod_eq_of_lt h2]
theorem rturned_as5 {B P W M E H : Nat} {low : Int} (hf : Fm B P W M E H low) (b : Nat) (hb : b < 18446744073709551616) (v : Nat) (hv : trnS H b = v) (w : World) :
    Calls Tryz.prog 16 #[.agg #[.int .i64 (B : Int), .int .i64 (P : Int), .int .i64 (W : Int)], .int .u64 (b : Int)] w fun e w' => e = .returned (.int .u64 (v : Int)) ∧ Below w.heap.size w w' := by
  have hs2 : b / H % 2 < 2 := Nat.mod_lt _ (by omega)
  have d1 : (((b / H % 2 : Nat) : Int) == 0) = !ngB H b := by unfold ngB; rw [Bool.eq_iff_iff]; simp; omega
  have HP := Lib.hid (fun V => parts_as hf b _ _ _ _ hb rfl rfl rfl rfl V)
  have HB := Lib.hid (fun V => build_as hf (!ngB H b) (b / M % (E + 1)) (b % M) v (bits_parts hf b).2 (by rw [← hv]; exact trn_build hf b) V)
  generalize b / H % 2 = sg at *
  generalize b / M % (E + 1) = xg at *
  generalize b % M = rg at *
  generalize (!ngB H b) = tg at *
  clear hv hs2
  go_enter Tryz.func16, Tryz.ntmps16
  go_wp2_with fail
  obtain ⟨V, hV, z0, BW, sW⟩ := fframe1 w 29 (B : Int) (P : Int) (W : Int)
  rw [hV]
  clear hV sW
  refine (HP.out _).mono ?_
  rintro en w1 ⟨rfl, b⟩
  replace z0 := z0.on b
  replace BW := Below.step BW b
  clear b
  obtain ⟨z0c0, z0c1, z0c2, z0f0, z0f1, z0f2, z0l⟩ := z0.cells
  go_wp2_with fail
  refine (HB.out _).mono ?_
  rintro en w2 ⟨rfl, b⟩
  clear z0c0 z0c1 z0c2 z0f0 z0f1 z0f2 z0l
  replace z0 := z0.on b
  replace BW := Below.step BW b
  clear b
  obtain ⟨z0c0, z0c1, z0c2, z0f0, z0f1, z0f2, z0l⟩ := z0.cells
  go_wp2_with fail
  go_ret
  exact ⟨rfl, BW⟩
theorem rone_as {B P W M E H : Nat} {low : Int} (hf : Fm B P W M E H low) (v : Nat) (hv : oneS P M low = v) (w : World) :
    Calls Tryz.prog 21 #[.agg #[.int .i64 (B : Int), .int .i64 (P : Int), .int .i64 (W : Int)]] w fun e w' => e = .returned (.int .u64 (v : Int)) ∧ Below w.heap.size w w' := by
  obtain ⟨bs, h1, h2, h3⟩ : ∃ bs : Nat, 2 - (P : Int) - low = (bs : Int) ∧ bs * M < H ∧ bs * M = v ∧ bs < 18446744073709551616 := by
    refine ⟨(2 - (P : Int) - low).toNat, ?_, ?_, hv, ?_⟩ <;> rcases hf with ⟨rfl, rfl, rfl, rfl, rfl, rfl, rfl⟩ | ⟨rfl, rfl, rfl, rfl, rfl, rfl, rfl⟩ | ⟨rfl, rfl, rfl, rfl, rfl, rfl, rfl⟩ <;> decide
  have HP := Lib.hid (fun V => rbias_as hf (bs : Int) h1 V)
  have HB := Lib.hid (fun V => build_nil hf false bs v h2 (by unfold sgn; rw [if_neg (by decide)]; exact h3.1) V)
  have q7 : IntKind.u64.wrap (bs : Int) = (bs : Int) := wrap64_nat _ h3.2
  clear h1 h2 h3 hv
  go_enter Tryz.func21, Tryz.ntmps21
  go_wp2_with fail
  obtain ⟨V, hV, z0, BW, sW⟩ := fframe1 w 29 (B : Int) (P : Int) (W : Int)
  rw [hV]
  clear hV sW
  replace z0 := z0.on ((Below.refl _ _).drew : Below V.heap.size V V.drew)
  replace BW := Lib.hid (Below.step BW ((Below.refl _ _).drew : Below V.heap.size V V.drew))
  go_region_held3 (fun w' => w'.cell? ⟨w.heap.size, 0, none⟩ = some (.int .i64 (B : Int)) ∧ w'.cell? ⟨w.heap.size, 1, none⟩ = some (.int .i64 (P : Int)) ∧ w'.cell? ⟨w.heap.size, 2, none⟩ = some (.int .i64 (W : Int)))
    ((first | (with_reducible exact ⟨z0.cells.1, z0.cells.2.1, z0.cells.2.2.1⟩)))
    (first
      | (go_at_call 48
         (with_reducible refine (HP.out _).mono ?_)
         rintro en w1 ⟨rfl, b⟩
         replace z0 := z0.on b
         replace BW := Lib.hid (Below.step BW.out b)
         clear b)
      | (go_at_call 30
         (with_reducible refine (HB.out _).mono ?_)
         rintro en w2 ⟨rfl, b⟩
         replace z0 := z0.on b
         replace BW := Lib.hid (Below.step BW.out b)
         clear b))
  all_goals replace BW := BW.out
  go_wp2_with fail
  go_ret
  exact ⟨rfl, BW⟩
end Go.Proofs.YtpachoeignpcbaaGreatDoor
