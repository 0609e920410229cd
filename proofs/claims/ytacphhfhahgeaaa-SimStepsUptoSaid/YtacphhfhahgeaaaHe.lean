
/-
  slices.Clone of bytes; sim: look (the closure), value.
-/
import Derived.Test.YtacphhfhahgeaaaHd
import Derived.Test.YtacphhfhahgeaaaHm
import Derived.Test.YtacphhfhahgeaaaGq
import Derived.Deep.QuietTactic
import Derived.BigQuiet
namespace Go.Proofs.Ytacphhfhahgeaaa
open Go.RowKit
set_option linter.unusedVariables false
set_option maxRecDepth 4000

theorem elm_u8 : Elm Try.prog 27 5 1 1 := by
  obtain ⟨i, h1, h2, h3, h4⟩ := Go.info_parts (P := Try.prog) (e := 5) (z := .int .u8 0) (size := 1) (bytes := 1) (by kernel_rfl)
  refine ⟨Try.underlying27, i, _, h1, h2, h3, h4, rfl, fun u hu => ?_⟩
  have hu2 : u ∈ (.int .u8 0 : Value).cells.toList := hu
  simp [Value.cells] at hu2
  subst hu2
  rfl
theorem add_plain (b off j : Nat) : (⟨b, off, none⟩ : Addr).add j = ⟨b, off + j, none⟩ := by
  unfold Addr.add
  by_cases h : j = 0
  · simp [h]
  · simp [h]
theorem Rw.cells {w : World} {A : Option Addr} {n : Nat} {vs : List Value} (h : Rw w A n vs) : ∀ ad, A = some ad → ∀ j u, vs[j]? = some u → w.cell? (ad.add j) = some u := by
  intro ad ha j u hu
  obtain ⟨b, off, h1, _, h3⟩ := h.2 j u hu
  rw [ha] at h1
  cases h1
  rw [add_plain]
  exact h3
theorem one_by8 (v : List Int) : ∀ u ∈ by8 v, u.oneCell' = true := by
  intro u hu
  obtain ⟨r, _, h⟩ := List.mem_map.1 hu
  subst h
  rfl
theorem cloneB_as_none (w : World) : Calls Try.prog 136 #[.slice none 0 0] w fun en w' => en = .returned (.slice none 0 0) ∧ w = w' := by
  have q : ∀ w : World, (binOp .eql 27 (.slice none 0 0) (.slice none 0 0)).run Try.prog w = .ok (.bool true) w := fun w => Lib.run_eql_slice_nil w _ _ _ _ _ _ _ Try.underlying27
  go_enter Try.func136, Try.ntmps136
  go_wp2_with fail
  go_ret
  exact ⟨rfl, rfl⟩
set_option maxHeartbeats 1000000 in
theorem cloneB_as {A : Option Addr} {n c : Nat} {L : List Int} {w : World} (h : Rw w A n (by8 L)) (sw : Sw A n c) (hn : n ≤ 100000) :
    Calls Try.prog 136 #[.slice A n c] w fun en w' => ∃ v, en = .returned v ∧ w'.ownsRow w.heap.size 5 1 v n (by8 L) ∧ Below w.heap.size w w' := by
  cases A with
  | none =>
    obtain ⟨rfl, rfl⟩ := sw.none_ rfl
    obtain rfl : L = [] := List.eq_nil_of_length_eq_zero (by have := h.1; rwa [by8_len] at this)
    refine (cloneB_as_none w).mono ?_
    rintro en w' ⟨rfl, rfl⟩
    exact ⟨_, rfl, World.ownsRow_nil w _ _ _, Below.refl _ _⟩
  | some ad =>
    have q : ∀ w : World, (binOp .eql 27 (.slice (some ad) n c) (.slice none 0 0)).run Try.prog w = .ok (.bool false) w := fun w => Lib.run_eql_slice_nil w _ _ _ _ _ _ _ Try.underlying27
    go_enter Try.func136, Try.ntmps136
    go_upto_region 3 with fail
    have hrow : (w.alloc (.cells #[] 5)).ownsRow w.heap.size 5 1 (.slice (some ⟨w.heap.size, 0, none⟩) 0 0) 0 [] := World.ownsRow_lit w #[] 0 (Nat.le_refl _) (by unfold maxLen; omega) rfl
    have b1 : Below w.heap.size w (w.alloc (.cells #[] 5)) := below_lit _ _
    have h1 := h.on b1
    go_wp2_with (at_builtin; refine wpList_app (A := some ad) (m := n) (c := c) rfl _ _ 27 rfl elm_u8 (by omega) (by omega) w.heap.size _ _ _ rfl hrow (by8 L) rfl sw.none_ (by rw [h.1, Nat.mul_one]) h1.cells (one_by8 _) (by omega) b1.size ?_; intro v2 w2 hrow2 hg; have b2 := row_below hrow b1 (Nat.le_refl _) hg)
    go_ret
    exact ⟨_, rfl, by simpa using hrow2, b2⟩
/-- LOOK: a bit of the values. -/
theorem look_as {w : World} {s n c : Nat} {A : Option Addr} {v : List Int} (z : w.cell? ⟨s, 0, none⟩ = some (.slice A n c)) (hv : Rw w A n (by8 v)) {q : Nat} (hq : q < n) {y : Int} (hy : atI v q = y) :
    Calls Try.prog 137 #[.int .i64 (q : Int), .pointer (some ⟨s, 0, none⟩)] w fun en w' => en = .returned (.int .u8 y) ∧ w = w' := by
  obtain ⟨b, off, x, rfl, HX, cx⟩ := hv.b8 hq
  obtain rfl : x = y := by
    rw [← hy]
    unfold atI
    rw [Int.toNat_natCast]
    exact (getD_of HX.out).symm
  have i0 : (0 : Int) ≤ (q : Int) := by omega
  have i1 : (q : Int) < (n : Int) := by omega
  clear hy
  go_enter Try.func137, Try.ntmps137
  go_wp2_with fail
  go_ret
  exact ⟨rfl, rfl⟩
theorem bit8 {x y : Int} (hx : x = 0 ∨ x = 1) (hy : y = 0 ∨ y = 1) : bits .and .u8 x y = min x y ∧ bits .or .u8 x y = max x y ∧ bits .xor .u8 x y = (x + y) % 2 ∧ IntKind.u8.wrap (1 - x) = 1 - x := by
  rcases hx with rfl | rfl <;> rcases hy with rfl | rfl <;> exact ⟨by decide +kernel, by decide +kernel, by decide +kernel, by decide +kernel⟩
set_option maxHeartbeats 2000000 in
theorem value_2 {w : World} {s n cc : Nat} {A : Option Addr} {v : List Int} (hs : s < w.heap.size) (z : w.cell? ⟨s, 0, none⟩ = some (.slice A n cc)) (hv : Rw w A n (by8 v)) {a : Nat} {b : Int} {c : Int} {ya : Int} (ha : a < n) (ea : atI v a = ya) (za : ya = 0 ∨ ya = 1) :
    Calls Try.prog 138 #[.agg #[.int .i64 2, .int .i64 (a : Int), .int .i64 (b : Int), .int .i64 (c : Int)], .func (.func 137) #[] #[.pointer (some ⟨s, 0, none⟩)]] w fun en w' => en = .returned (.int .u8 (1 - ya)) ∧ Below w.heap.size w w' := by
  obtain ⟨q1, q2, q3, q4⟩ := bit8 za za
  go_enter Try.func138, Try.ntmps138
  go_upto_region 1 with fail
  obtain ⟨w1, e_w1⟩ : ∃ w', w.alloc (.cells #[.int .i64 2, .int .i64 (a : Int), .int .i64 (b : Int), .int .i64 (c : Int)] 50) = w' := ⟨_, rfl⟩
  have z0 : Bx w1 w.heap.size [.int .i64 2, .int .i64 (a : Int), .int .i64 (b : Int), .int .i64 (c : Int)] := e_w1 ▸ Bx.made_k w rfl #[.int .i64 2, .int .i64 (a : Int), .int .i64 (b : Int), .int .i64 (c : Int)] 50
  have b1 : Below w.heap.size w w1 := e_w1 ▸ below_lit _ _
  rw [e_w1]
  clear e_w1
  replace z := (b1.cell (p := ⟨s, 0, none⟩) hs).trans z
  replace hv := hv.on b1
  have z0c0 := z0.2 0 _ rfl
  have z0c1 := z0.2 1 _ rfl
  have z0c2 := z0.2 2 _ rfl
  have z0c3 := z0.2 3 _ rfl
  have Ha := Lib.hid (fun (d : Nat) => look_as (w := w1.drewN d) (s := s) (A := A) (c := cc) (v := v) z (hv.on (below_drewN (Below.refl _ _) d)) ha ea)
  replace b1 := Lib.hid fun d => below_drewN b1 d
  clear z hv hs ea ha
  clear q1 q2 q3
  go_wp2_with (go_at_call 137; refine (Ha.out 0).mono ?_; rintro en w2 ⟨rfl, rfl⟩)
  go_ret
  exact ⟨rfl, b1.out 0⟩
set_option maxHeartbeats 2000000 in
theorem value_3 {w : World} {s n cc : Nat} {A : Option Addr} {v : List Int} (hs : s < w.heap.size) (z : w.cell? ⟨s, 0, none⟩ = some (.slice A n cc)) (hv : Rw w A n (by8 v)) {a : Nat} {b : Nat} {c : Int} {ya : Int} (ha : a < n) (ea : atI v a = ya) (za : ya = 0 ∨ ya = 1) {yb : Int} (hb : b < n) (eb : atI v b = yb) (zb : yb = 0 ∨ yb = 1) :
    Calls Try.prog 138 #[.agg #[.int .i64 3, .int .i64 (a : Int), .int .i64 (b : Int), .int .i64 (c : Int)], .func (.func 137) #[] #[.pointer (some ⟨s, 0, none⟩)]] w fun en w' => en = .returned (.int .u8 (min ya yb)) ∧ Below w.heap.size w w' := by
  obtain ⟨q1, q2, q3, q4⟩ := bit8 za zb
  go_enter Try.func138, Try.ntmps138
  go_upto_region 1 with fail
  obtain ⟨w1, e_w1⟩ : ∃ w', w.alloc (.cells #[.int .i64 3, .int .i64 (a : Int), .int .i64 (b : Int), .int .i64 (c : Int)] 50) = w' := ⟨_, rfl⟩
  have z0 : Bx w1 w.heap.size [.int .i64 3, .int .i64 (a : Int), .int .i64 (b : Int), .int .i64 (c : Int)] := e_w1 ▸ Bx.made_k w rfl #[.int .i64 3, .int .i64 (a : Int), .int .i64 (b : Int), .int .i64 (c : Int)] 50
  have b1 : Below w.heap.size w w1 := e_w1 ▸ below_lit _ _
  rw [e_w1]
  clear e_w1
  replace z := (b1.cell (p := ⟨s, 0, none⟩) hs).trans z
  replace hv := hv.on b1
  have z0c0 := z0.2 0 _ rfl
  have z0c1 := z0.2 1 _ rfl
  have z0c2 := z0.2 2 _ rfl
  have z0c3 := z0.2 3 _ rfl
  have Ha := Lib.hid (fun (d : Nat) => look_as (w := w1.drewN d) (s := s) (A := A) (c := cc) (v := v) z (hv.on (below_drewN (Below.refl _ _) d)) ha ea)
  have Hb := Lib.hid (fun (d : Nat) => look_as (w := w1.drewN d) (s := s) (A := A) (c := cc) (v := v) z (hv.on (below_drewN (Below.refl _ _) d)) hb eb)
  replace b1 := Lib.hid fun d => below_drewN b1 d
  clear z hv hs ea ha eb hb
  clear q2 q3 q4
  go_upto_region 5 with fail
  go_quiet ((go_at_call 137; first | exact quiet_at (Ha.out _) ⟨_, rfl⟩ | exact quiet_at (Hb.out _) ⟨_, rfl⟩))
  go_wp2_with fail
  go_ret
  exact ⟨rfl, b1.out _⟩
set_option maxHeartbeats 2000000 in
theorem value_4 {w : World} {s n cc : Nat} {A : Option Addr} {v : List Int} (hs : s < w.heap.size) (z : w.cell? ⟨s, 0, none⟩ = some (.slice A n cc)) (hv : Rw w A n (by8 v)) {a : Nat} {b : Nat} {c : Int} {ya : Int} (ha : a < n) (ea : atI v a = ya) (za : ya = 0 ∨ ya = 1) {yb : Int} (hb : b < n) (eb : atI v b = yb) (zb : yb = 0 ∨ yb = 1) :
    Calls Try.prog 138 #[.agg #[.int .i64 4, .int .i64 (a : Int), .int .i64 (b : Int), .int .i64 (c : Int)], .func (.func 137) #[] #[.pointer (some ⟨s, 0, none⟩)]] w fun en w' => en = .returned (.int .u8 (max ya yb)) ∧ Below w.heap.size w w' := by
  obtain ⟨q1, q2, q3, q4⟩ := bit8 za zb
  go_enter Try.func138, Try.ntmps138
  go_upto_region 1 with fail
  obtain ⟨w1, e_w1⟩ : ∃ w', w.alloc (.cells #[.int .i64 4, .int .i64 (a : Int), .int .i64 (b : Int), .int .i64 (c : Int)] 50) = w' := ⟨_, rfl⟩
  have z0 : Bx w1 w.heap.size [.int .i64 4, .int .i64 (a : Int), .int .i64 (b : Int), .int .i64 (c : Int)] := e_w1 ▸ Bx.made_k w rfl #[.int .i64 4, .int .i64 (a : Int), .int .i64 (b : Int), .int .i64 (c : Int)] 50
  have b1 : Below w.heap.size w w1 := e_w1 ▸ below_lit _ _
  rw [e_w1]
  clear e_w1
  replace z := (b1.cell (p := ⟨s, 0, none⟩) hs).trans z
  replace hv := hv.on b1
  have z0c0 := z0.2 0 _ rfl
  have z0c1 := z0.2 1 _ rfl
  have z0c2 := z0.2 2 _ rfl
  have z0c3 := z0.2 3 _ rfl
  have Ha := Lib.hid (fun (d : Nat) => look_as (w := w1.drewN d) (s := s) (A := A) (c := cc) (v := v) z (hv.on (below_drewN (Below.refl _ _) d)) ha ea)
  have Hb := Lib.hid (fun (d : Nat) => look_as (w := w1.drewN d) (s := s) (A := A) (c := cc) (v := v) z (hv.on (below_drewN (Below.refl _ _) d)) hb eb)
  replace b1 := Lib.hid fun d => below_drewN b1 d
  clear z hv hs ea ha eb hb
  clear q1 q3 q4
  go_upto_region 7 with fail
  go_quiet ((go_at_call 137; first | exact quiet_at (Ha.out _) ⟨_, rfl⟩ | exact quiet_at (Hb.out _) ⟨_, rfl⟩))
  go_wp2_with fail
  go_ret
  exact ⟨rfl, b1.out _⟩
set_option maxHeartbeats 2000000 in
theorem value_5 {w : World} {s n cc : Nat} {A : Option Addr} {v : List Int} (hs : s < w.heap.size) (z : w.cell? ⟨s, 0, none⟩ = some (.slice A n cc)) (hv : Rw w A n (by8 v)) {a : Nat} {b : Nat} {c : Int} {ya : Int} (ha : a < n) (ea : atI v a = ya) (za : ya = 0 ∨ ya = 1) {yb : Int} (hb : b < n) (eb : atI v b = yb) (zb : yb = 0 ∨ yb = 1) :
    Calls Try.prog 138 #[.agg #[.int .i64 5, .int .i64 (a : Int), .int .i64 (b : Int), .int .i64 (c : Int)], .func (.func 137) #[] #[.pointer (some ⟨s, 0, none⟩)]] w fun en w' => en = .returned (.int .u8 ((ya + yb) % 2)) ∧ Below w.heap.size w w' := by
  obtain ⟨q1, q2, q3, q4⟩ := bit8 za zb
  go_enter Try.func138, Try.ntmps138
  go_upto_region 1 with fail
  obtain ⟨w1, e_w1⟩ : ∃ w', w.alloc (.cells #[.int .i64 5, .int .i64 (a : Int), .int .i64 (b : Int), .int .i64 (c : Int)] 50) = w' := ⟨_, rfl⟩
  have z0 : Bx w1 w.heap.size [.int .i64 5, .int .i64 (a : Int), .int .i64 (b : Int), .int .i64 (c : Int)] := e_w1 ▸ Bx.made_k w rfl #[.int .i64 5, .int .i64 (a : Int), .int .i64 (b : Int), .int .i64 (c : Int)] 50
  have b1 : Below w.heap.size w w1 := e_w1 ▸ below_lit _ _
  rw [e_w1]
  clear e_w1
  replace z := (b1.cell (p := ⟨s, 0, none⟩) hs).trans z
  replace hv := hv.on b1
  have z0c0 := z0.2 0 _ rfl
  have z0c1 := z0.2 1 _ rfl
  have z0c2 := z0.2 2 _ rfl
  have z0c3 := z0.2 3 _ rfl
  have Ha := Lib.hid (fun (d : Nat) => look_as (w := w1.drewN d) (s := s) (A := A) (c := cc) (v := v) z (hv.on (below_drewN (Below.refl _ _) d)) ha ea)
  have Hb := Lib.hid (fun (d : Nat) => look_as (w := w1.drewN d) (s := s) (A := A) (c := cc) (v := v) z (hv.on (below_drewN (Below.refl _ _) d)) hb eb)
  replace b1 := Lib.hid fun d => below_drewN b1 d
  clear z hv hs ea ha eb hb
  clear q1 q2 q4
  go_upto_region 9 with fail
  go_quiet ((go_at_call 137; first | exact quiet_at (Ha.out _) ⟨_, rfl⟩ | exact quiet_at (Hb.out _) ⟨_, rfl⟩))
  go_wp2_with fail
  go_ret
  exact ⟨rfl, b1.out _⟩
set_option maxHeartbeats 2000000 in
theorem value_61 {w : World} {s n cc : Nat} {A : Option Addr} {v : List Int} (hs : s < w.heap.size) (z : w.cell? ⟨s, 0, none⟩ = some (.slice A n cc)) (hv : Rw w A n (by8 v)) {a : Int} {b : Nat} {c : Nat} {yb : Int} (hb : b < n) (eb : atI v b = yb) (zb : yb = 0 ∨ yb = 1) {yc : Int} (hc : c < n) (ec : atI v c = yc) (zc : yc = 0 ∨ yc = 1) (h1 : yc = 1) :
    Calls Try.prog 138 #[.agg #[.int .i64 6, .int .i64 (a : Int), .int .i64 (b : Int), .int .i64 (c : Int)], .func (.func 137) #[] #[.pointer (some ⟨s, 0, none⟩)]] w fun en w' => en = .returned (.int .u8 (yb)) ∧ Below w.heap.size w w' := by
  go_enter Try.func138, Try.ntmps138
  go_upto_region 1 with fail
  obtain ⟨w1, e_w1⟩ : ∃ w', w.alloc (.cells #[.int .i64 6, .int .i64 (a : Int), .int .i64 (b : Int), .int .i64 (c : Int)] 50) = w' := ⟨_, rfl⟩
  have z0 : Bx w1 w.heap.size [.int .i64 6, .int .i64 (a : Int), .int .i64 (b : Int), .int .i64 (c : Int)] := e_w1 ▸ Bx.made_k w rfl #[.int .i64 6, .int .i64 (a : Int), .int .i64 (b : Int), .int .i64 (c : Int)] 50
  have b1 : Below w.heap.size w w1 := e_w1 ▸ below_lit _ _
  rw [e_w1]
  clear e_w1
  replace z := (b1.cell (p := ⟨s, 0, none⟩) hs).trans z
  replace hv := hv.on b1
  have z0c0 := z0.2 0 _ rfl
  have z0c1 := z0.2 1 _ rfl
  have z0c2 := z0.2 2 _ rfl
  have z0c3 := z0.2 3 _ rfl
  have Hb := Lib.hid (fun (d : Nat) => look_as (w := w1.drewN d) (s := s) (A := A) (c := cc) (v := v) z (hv.on (below_drewN (Below.refl _ _) d)) hb eb)
  have Hc := Lib.hid (fun (d : Nat) => look_as (w := w1.drewN d) (s := s) (A := A) (c := cc) (v := v) z (hv.on (below_drewN (Below.refl _ _) d)) hc ec)
  replace b1 := Lib.hid fun d => below_drewN b1 d
  clear z hv hs eb hb ec hc
  subst h1
  go_wp2_with (go_at_call 137; first | (refine (Hc.out 0).mono ?_; rintro en w2 ⟨rfl, rfl⟩) | (refine (Hb.out 0).mono ?_; rintro en w3 ⟨rfl, rfl⟩))
  go_ret
  exact ⟨rfl, b1.out 0⟩
set_option maxHeartbeats 2000000 in
theorem value_60 {w : World} {s n cc : Nat} {A : Option Addr} {v : List Int} (hs : s < w.heap.size) (z : w.cell? ⟨s, 0, none⟩ = some (.slice A n cc)) (hv : Rw w A n (by8 v)) {a : Nat} {b : Int} {c : Nat} {ya : Int} (ha : a < n) (ea : atI v a = ya) (za : ya = 0 ∨ ya = 1) {yc : Int} (hc : c < n) (ec : atI v c = yc) (zc : yc = 0 ∨ yc = 1) (h1 : yc = 0) :
    Calls Try.prog 138 #[.agg #[.int .i64 6, .int .i64 (a : Int), .int .i64 (b : Int), .int .i64 (c : Int)], .func (.func 137) #[] #[.pointer (some ⟨s, 0, none⟩)]] w fun en w' => en = .returned (.int .u8 (ya)) ∧ Below w.heap.size w w' := by
  go_enter Try.func138, Try.ntmps138
  go_upto_region 1 with fail
  obtain ⟨w1, e_w1⟩ : ∃ w', w.alloc (.cells #[.int .i64 6, .int .i64 (a : Int), .int .i64 (b : Int), .int .i64 (c : Int)] 50) = w' := ⟨_, rfl⟩
  have z0 : Bx w1 w.heap.size [.int .i64 6, .int .i64 (a : Int), .int .i64 (b : Int), .int .i64 (c : Int)] := e_w1 ▸ Bx.made_k w rfl #[.int .i64 6, .int .i64 (a : Int), .int .i64 (b : Int), .int .i64 (c : Int)] 50
  have b1 : Below w.heap.size w w1 := e_w1 ▸ below_lit _ _
  rw [e_w1]
  clear e_w1
  replace z := (b1.cell (p := ⟨s, 0, none⟩) hs).trans z
  replace hv := hv.on b1
  have z0c0 := z0.2 0 _ rfl
  have z0c1 := z0.2 1 _ rfl
  have z0c2 := z0.2 2 _ rfl
  have z0c3 := z0.2 3 _ rfl
  have Ha := Lib.hid (fun (d : Nat) => look_as (w := w1.drewN d) (s := s) (A := A) (c := cc) (v := v) z (hv.on (below_drewN (Below.refl _ _) d)) ha ea)
  have Hc := Lib.hid (fun (d : Nat) => look_as (w := w1.drewN d) (s := s) (A := A) (c := cc) (v := v) z (hv.on (below_drewN (Below.refl _ _) d)) hc ec)
  replace b1 := Lib.hid fun d => below_drewN b1 d
  clear z hv hs ea ha ec hc
  subst h1
  go_wp2_with (go_at_call 137; first | (refine (Hc.out 0).mono ?_; rintro en w2 ⟨rfl, rfl⟩) | (refine (Ha.out 0).mono ?_; rintro en w3 ⟨rfl, rfl⟩))
  go_ret
  exact ⟨rfl, b1.out 0⟩
/-- VALUE. -/
theorem value_as {w : World} {s n cc : Nat} {A : Option Addr} {v : List Int} (hs : s < w.heap.size) (z : w.cell? ⟨s, 0, none⟩ = some (.slice A n cc)) (hv : Rw w A n (by8 v)) (h01 : v01 v) {x : Nd} (hk : formedS n x = true) (hg : isGs x.k = true) {r : Int} (hr : gateS x v = r) :
    Calls Try.prog 138 #[.agg #[.int .i64 x.k, .int .i64 x.a, .int .i64 x.b, .int .i64 x.c], .func (.func 137) #[] #[.pointer (some ⟨s, 0, none⟩)]] w fun en w' => en = .returned (.int .u8 r) ∧ Below w.heap.size w w' := by
  obtain ⟨k, a, b, c⟩ := x
  subst hr
  unfold formedS kindS at hk
  unfold isGs at hg
  simp only [Bool.and_eq_true, decide_eq_true_eq] at hk hg
  have hp : ∀ q ∈ usesS ⟨k, a, b, c⟩, ∃ p : Nat, q = (p : Int) ∧ p < n := fun q hq => by
    have h3 := List.all_eq_true.1 hk.2.2.1 q hq
    unfold placeS at h3
    obtain ⟨h4, h5⟩ := Bool.and_eq_true_iff.1 h3
    have h4 := of_decide_eq_true h4
    have h5 := of_decide_eq_true h5
    exact ⟨q.toNat, by omega, by omega⟩
  unfold usesS manyS at hp
  unfold gateS gvS
  dsimp only at hk hg hp ⊢
  rcases (show k = 2 ∨ k = 3 ∨ k = 4 ∨ k = 5 ∨ k = 6 by omega) with rfl | rfl | rfl | rfl | rfl
  · obtain ⟨a, rfl, ha⟩ := hp a (by simp)
    exact value_2 hs z hv ha rfl (h01.at _)
  · obtain ⟨a, rfl, ha⟩ := hp a (by simp)
    obtain ⟨b, rfl, hb⟩ := hp b (by simp)
    exact value_3 hs z hv ha rfl (h01.at _) hb rfl (h01.at _)
  · obtain ⟨a, rfl, ha⟩ := hp a (by simp)
    obtain ⟨b, rfl, hb⟩ := hp b (by simp)
    exact value_4 hs z hv ha rfl (h01.at _) hb rfl (h01.at _)
  · obtain ⟨a, rfl, ha⟩ := hp a (by simp)
    obtain ⟨b, rfl, hb⟩ := hp b (by simp)
    exact value_5 hs z hv ha rfl (h01.at _) hb rfl (h01.at _)
  · obtain ⟨a, rfl, ha⟩ := hp a (by simp)
    obtain ⟨b, rfl, hb⟩ := hp b (by simp)
    obtain ⟨c, rfl, hc⟩ := hp c (by simp)
    simp only [show ((6 : Int) = 2) = False by decide, show ((6 : Int) = 3) = False by decide, show ((6 : Int) = 4) = False by decide, show ((6 : Int) = 5) = False by decide, if_false]
    rcases h01.at (c : Int) with h | h
    · rw [h, if_neg (by decide)]
      exact value_60 hs z hv ha rfl (h01.at _) hc h (.inl rfl) rfl
    · rw [h, if_pos rfl]
      exact value_61 hs z hv hb rfl (h01.at _) hc h (.inr rfl) rfl
end Go.Proofs.Ytacphhfhahgeaaa
