/-
  What the proofs of ShareSame and ShareLeft need: Gc.
-/
import Derived.Test.YtcehklnonhalhaaSHGb
import Derived.Test.YtcehklnonhalhaaSHLex
import Derived.Laws.StructEq
namespace Go.Proofs.Ytcehklnonhalhaa
open Go.RowKit
set_option linter.unusedVariables false
set_option maxRecDepth 4000

/-- a variable that is read alone: its cells. -/
def Bx (w : World) (s : Nat) (vs : List Value) : Prop := s < w.heap.size ∧ ∀ i u, vs[i]? = some u → w.cell? ⟨s, i, none⟩ = some u
theorem Bx.on {w w' : World} {s : Nat} {vs : List Value} (h : Bx w s vs) (hb : Below w.heap.size w w') : Bx w' s vs :=
  ⟨Nat.lt_of_lt_of_le h.1 hb.size, fun i u hu => (hb.cell (p := ⟨s, i, none⟩) h.1).trans (h.2 i u hu)⟩
theorem Bx.made_k (w : World) {s : Nat} (hs : w.heap.size = s) (vs : Array Value) (t : TypeId) : Bx (w.alloc (.cells vs t)) s vs.toList := by
  subst hs
  refine ⟨by simp, fun i u hu => ?_⟩
  rw [cell_of_row _ w.heap.size i vs t (0, 0) (heap_alloc_new w _)]
  simpa using hu
theorem below_lit (w : World) (o : Obj) : Below w.heap.size w (w.alloc o) := (Below.refl _ _).alloc (Nat.le_refl _) o
theorem size_lit (w : World) (o : Obj) {s : Nat} (h : w.heap.size = s) : (w.alloc o).heap.size = s + 1 := by subst h; simp
theorem below_k {a w : World} (h : Below a.heap.size a w) (o : Obj) : Below a.heap.size a (w.alloc o) := h.alloc h.size o
/-- what a kind asks of a node beside. -/
def restS (x : Nd) : Bool := if x.k = 0 then bitS x.a else if x.k = 7 then bitS x.b else true
/-- is a node formed, among so many? -/
def sameN (x y : Nd) : Bool := (x.k == y.k && (x.a == y.a && (x.b == y.b && x.c == y.c)))
def formedS (n : Int) (x : Nd) : Bool := kindS x.k && (sameN x (bareS x) && ((usesS x).all (placeS n) && restS x))
theorem ret_bool {a b : Bool} (h : a = b) : Ending.returned (.bool a) = Ending.returned (.bool b) := by rw [h]
theorem manyS_le (k : Int) : manyS k ≤ 3 := by unfold manyS; repeat' split
                                               all_goals omega
theorem isFormed_k (k p q r n : Int) (w : World) (hk : kindS k = false) :
    Calls Try.prog 118 #[.agg #[.int .i64 k, .int .i64 p, .int .i64 q, .int .i64 r], .int .i64 n] w fun e w' => e = .returned (.bool false) ∧ Below w.heap.size w w' := by
  have HK := Lib.hid hk
  clear hk
  go_enter Try.func118, Try.ntmps118
  go_wp2_with fail
  obtain ⟨w1, e_w1⟩ : ∃ w', w.alloc (.cells #[.int .i64 k, .int .i64 p, .int .i64 q, .int .i64 r] 43) = w' := ⟨_, rfl⟩
  have b : Below w.heap.size w w1 := e_w1 ▸ below_lit _ _
  have hs_w1 : w1.heap.size = w.heap.size + 1 := e_w1 ▸ size_lit w _ rfl
  have z0 : Bx w1 w.heap.size [.int .i64 k, .int .i64 p, .int .i64 q, .int .i64 r] := e_w1 ▸ Bx.made_k w rfl #[.int .i64 k, .int .i64 p, .int .i64 q, .int .i64 r] 43
  rw [e_w1]
  clear e_w1
  have BW := b
  clear b
  clear hs_w1
  try dsimp only [List.append]
  refine region_plan [0, 1, 2, 3, 4, 5, 6, 7, 8, 9] (by kernel_rfl) (by kernel_rfl) (by kernel_rfl) (by kernel_rfl) (by kernel_rfl) ?_
  dsimp only [pick, nth]
  replace z0 := z0.on ((Below.refl _ _).drew : Below w1.heap.size w1 w1.drew)
  replace BW := Below.step BW ((Below.refl _ _).drew : Below w1.heap.size w1 w1.drew)
  obtain ⟨w2, e_w2⟩ : ∃ w', w1.drew = w' := ⟨_, rfl⟩
  rw [e_w2] at z0 BW ⊢
  clear e_w2
  have lf0 := fun s : Wd w2 => (z0.on s.below).2 0 _ rfl
  have lf1 := fun s : Wd w2 => (z0.on s.below).2 1 _ rfl
  have lf2 := fun s : Wd w2 => (z0.on s.below).2 2 _ rfl
  have lf3 := fun s : Wd w2 => (z0.on s.below).2 3 _ rfl
  refine lex_plain 2 (by kernel_rfl) ?_
  dsimp only [List.take, List.drop]
  repeat go_big_quiet_step (fail)
  refine wpQuiet_nil ?_
  clear lf0 lf1 lf2 lf3
  refine lex_call (by kernel_rfl) (by kernel_rfl) (fun w3 b K hK => ?_)
  replace z0 := z0.on b
  replace BW := Below.step BW b
  clear b
  go_simp
  refine (isKind_as k false HK.out _).mono ?_
  rintro en w4 ⟨rfl, b⟩
  dsimp only
  refine hK _ _ b ?_
  clear hK K
  replace z0 := z0.on b
  replace BW := Below.step BW b
  clear b
  have lf0 := fun s : Wd w4 => (z0.on s.below).2 0 _ rfl
  have lf1 := fun s : Wd w4 => (z0.on s.below).2 1 _ rfl
  have lf2 := fun s : Wd w4 => (z0.on s.below).2 2 _ rfl
  have lf3 := fun s : Wd w4 => (z0.on s.below).2 3 _ rfl
  refine lex_plain 4 (by kernel_rfl) ?_
  dsimp only [List.take, List.drop]
  repeat go_big_quiet_step (fail)
  refine wpQuiet_nil ?_
  clear lf0 lf1 lf2 lf3
  refine lex_skip (by kernel_rfl) (by kernel_rfl) (fun w5 b => ?_)
  replace z0 := z0.on b
  replace BW := Below.step BW b
  clear b
  go_simp
  have lf0 := fun s : Wd w5 => (z0.on s.below).2 0 _ rfl
  have lf1 := fun s : Wd w5 => (z0.on s.below).2 1 _ rfl
  have lf2 := fun s : Wd w5 => (z0.on s.below).2 2 _ rfl
  have lf3 := fun s : Wd w5 => (z0.on s.below).2 3 _ rfl
  refine lex_plain 2 (by kernel_rfl) ?_
  dsimp only [List.take, List.drop]
  repeat go_big_quiet_step (fail)
  refine wpQuiet_nil ?_
  clear lf0 lf1 lf2 lf3
  refine lex_nil (fun w6 b => ?_)
  replace z0 := z0.on b
  replace BW := Below.step BW b
  clear b
  dsimp only [NoPanic]
  go_wp2_with fail
  go_ret
  exact ⟨rfl, BW⟩
theorem isFormed_p (k p q r n : Int) (w : World) (hk : kindS k = true) {p' q' r' : Int} (hp : ¬ p = p') (hb : bareS ⟨k, p, q, r⟩ = ⟨k, p', q', r'⟩) :
    Calls Try.prog 118 #[.agg #[.int .i64 k, .int .i64 p, .int .i64 q, .int .i64 r], .int .i64 n] w fun e w' => e = .returned (.bool false) ∧ Below w.heap.size w w' := by
  have HK := Lib.hid hk
  have HB := Lib.hid hb
  clear hk hb
  go_enter Try.func118, Try.ntmps118
  go_wp2_with fail
  obtain ⟨w1, e_w1⟩ : ∃ w', w.alloc (.cells #[.int .i64 k, .int .i64 p, .int .i64 q, .int .i64 r] 43) = w' := ⟨_, rfl⟩
  have b : Below w.heap.size w w1 := e_w1 ▸ below_lit _ _
  have hs_w1 : w1.heap.size = w.heap.size + 1 := e_w1 ▸ size_lit w _ rfl
  have z0 : Bx w1 w.heap.size [.int .i64 k, .int .i64 p, .int .i64 q, .int .i64 r] := e_w1 ▸ Bx.made_k w rfl #[.int .i64 k, .int .i64 p, .int .i64 q, .int .i64 r] 43
  rw [e_w1]
  clear e_w1
  have BW := b
  clear b
  clear hs_w1
  try dsimp only [List.append]
  refine region_plan [0, 1, 2, 3, 4, 5, 6, 7, 8, 9] (by kernel_rfl) (by kernel_rfl) (by kernel_rfl) (by kernel_rfl) (by kernel_rfl) ?_
  dsimp only [pick, nth]
  replace z0 := z0.on ((Below.refl _ _).drew : Below w1.heap.size w1 w1.drew)
  replace BW := Below.step BW ((Below.refl _ _).drew : Below w1.heap.size w1 w1.drew)
  obtain ⟨w2, e_w2⟩ : ∃ w', w1.drew = w' := ⟨_, rfl⟩
  rw [e_w2] at z0 BW ⊢
  clear e_w2
  have lf0 := fun s : Wd w2 => (z0.on s.below).2 0 _ rfl
  have lf1 := fun s : Wd w2 => (z0.on s.below).2 1 _ rfl
  have lf2 := fun s : Wd w2 => (z0.on s.below).2 2 _ rfl
  have lf3 := fun s : Wd w2 => (z0.on s.below).2 3 _ rfl
  refine lex_plain 2 (by kernel_rfl) ?_
  dsimp only [List.take, List.drop]
  repeat go_big_quiet_step (fail)
  refine wpQuiet_nil ?_
  clear lf0 lf1 lf2 lf3
  refine lex_call (by kernel_rfl) (by kernel_rfl) (fun w3 b K hK => ?_)
  replace z0 := z0.on b
  replace BW := Below.step BW b
  clear b
  go_simp
  refine (isKind_as k true HK.out _).mono ?_
  rintro en w4 ⟨rfl, b⟩
  dsimp only
  refine hK _ _ b ?_
  clear hK K
  replace z0 := z0.on b
  replace BW := Below.step BW b
  clear b
  have lf0 := fun s : Wd w4 => (z0.on s.below).2 0 _ rfl
  have lf1 := fun s : Wd w4 => (z0.on s.below).2 1 _ rfl
  have lf2 := fun s : Wd w4 => (z0.on s.below).2 2 _ rfl
  have lf3 := fun s : Wd w4 => (z0.on s.below).2 3 _ rfl
  refine lex_plain 4 (by kernel_rfl) ?_
  dsimp only [List.take, List.drop]
  repeat go_big_quiet_step (fail)
  refine wpQuiet_nil ?_
  clear lf0 lf1 lf2 lf3
  refine lex_call (by kernel_rfl) (by kernel_rfl) (fun w5 b K hK => ?_)
  replace z0 := z0.on b
  replace BW := Below.step BW b
  clear b
  go_simp
  refine (bare_as k p q r k p' q' r' HB.out _).mono ?_
  rintro en w6 ⟨rfl, b⟩
  dsimp only
  refine hK _ _ b ?_
  clear hK K
  replace z0 := z0.on b
  replace BW := Below.step BW b
  clear b
  have lf0 := fun s : Wd w6 => (z0.on s.below).2 0 _ rfl
  have lf1 := fun s : Wd w6 => (z0.on s.below).2 1 _ rfl
  have lf2 := fun s : Wd w6 => (z0.on s.below).2 2 _ rfl
  have lf3 := fun s : Wd w6 => (z0.on s.below).2 3 _ rfl
  refine lex_plain 2 (by kernel_rfl) ?_
  dsimp only [List.take, List.drop]
  repeat go_big_quiet_step (fail)
  refine wpQuiet_nil ?_
  clear lf0 lf1 lf2 lf3
  refine lex_nil (fun w7 b => ?_)
  replace z0 := z0.on b
  replace BW := Below.step BW b
  clear b
  dsimp only [NoPanic]
  go_wp2_with fail
  go_ret
  exact ⟨rfl, BW⟩
theorem isFormed_q (k p q r n : Int) (w : World) (hk : kindS k = true) {q' r' : Int} (hq : ¬ q = q') (hb : bareS ⟨k, p, q, r⟩ = ⟨k, p, q', r'⟩) :
    Calls Try.prog 118 #[.agg #[.int .i64 k, .int .i64 p, .int .i64 q, .int .i64 r], .int .i64 n] w fun e w' => e = .returned (.bool false) ∧ Below w.heap.size w w' := by
  have HK := Lib.hid hk
  have HB := Lib.hid hb
  clear hk hb
  go_enter Try.func118, Try.ntmps118
  go_wp2_with fail
  obtain ⟨w1, e_w1⟩ : ∃ w', w.alloc (.cells #[.int .i64 k, .int .i64 p, .int .i64 q, .int .i64 r] 43) = w' := ⟨_, rfl⟩
  have b : Below w.heap.size w w1 := e_w1 ▸ below_lit _ _
  have hs_w1 : w1.heap.size = w.heap.size + 1 := e_w1 ▸ size_lit w _ rfl
  have z0 : Bx w1 w.heap.size [.int .i64 k, .int .i64 p, .int .i64 q, .int .i64 r] := e_w1 ▸ Bx.made_k w rfl #[.int .i64 k, .int .i64 p, .int .i64 q, .int .i64 r] 43
  rw [e_w1]
  clear e_w1
  have BW := b
  clear b
  clear hs_w1
  try dsimp only [List.append]
  refine region_plan [0, 1, 2, 3, 4, 5, 6, 7, 8, 9] (by kernel_rfl) (by kernel_rfl) (by kernel_rfl) (by kernel_rfl) (by kernel_rfl) ?_
  dsimp only [pick, nth]
  replace z0 := z0.on ((Below.refl _ _).drew : Below w1.heap.size w1 w1.drew)
  replace BW := Below.step BW ((Below.refl _ _).drew : Below w1.heap.size w1 w1.drew)
  obtain ⟨w2, e_w2⟩ : ∃ w', w1.drew = w' := ⟨_, rfl⟩
  rw [e_w2] at z0 BW ⊢
  clear e_w2
  have lf0 := fun s : Wd w2 => (z0.on s.below).2 0 _ rfl
  have lf1 := fun s : Wd w2 => (z0.on s.below).2 1 _ rfl
  have lf2 := fun s : Wd w2 => (z0.on s.below).2 2 _ rfl
  have lf3 := fun s : Wd w2 => (z0.on s.below).2 3 _ rfl
  refine lex_plain 2 (by kernel_rfl) ?_
  dsimp only [List.take, List.drop]
  repeat go_big_quiet_step (fail)
  refine wpQuiet_nil ?_
  clear lf0 lf1 lf2 lf3
  refine lex_call (by kernel_rfl) (by kernel_rfl) (fun w3 b K hK => ?_)
  replace z0 := z0.on b
  replace BW := Below.step BW b
  clear b
  go_simp
  refine (isKind_as k true HK.out _).mono ?_
  rintro en w4 ⟨rfl, b⟩
  dsimp only
  refine hK _ _ b ?_
  clear hK K
  replace z0 := z0.on b
  replace BW := Below.step BW b
  clear b
  have lf0 := fun s : Wd w4 => (z0.on s.below).2 0 _ rfl
  have lf1 := fun s : Wd w4 => (z0.on s.below).2 1 _ rfl
  have lf2 := fun s : Wd w4 => (z0.on s.below).2 2 _ rfl
  have lf3 := fun s : Wd w4 => (z0.on s.below).2 3 _ rfl
  refine lex_plain 4 (by kernel_rfl) ?_
  dsimp only [List.take, List.drop]
  repeat go_big_quiet_step (fail)
  refine wpQuiet_nil ?_
  clear lf0 lf1 lf2 lf3
  refine lex_call (by kernel_rfl) (by kernel_rfl) (fun w5 b K hK => ?_)
  replace z0 := z0.on b
  replace BW := Below.step BW b
  clear b
  go_simp
  refine (bare_as k p q r k p q' r' HB.out _).mono ?_
  rintro en w6 ⟨rfl, b⟩
  dsimp only
  refine hK _ _ b ?_
  clear hK K
  replace z0 := z0.on b
  replace BW := Below.step BW b
  clear b
  have lf0 := fun s : Wd w6 => (z0.on s.below).2 0 _ rfl
  have lf1 := fun s : Wd w6 => (z0.on s.below).2 1 _ rfl
  have lf2 := fun s : Wd w6 => (z0.on s.below).2 2 _ rfl
  have lf3 := fun s : Wd w6 => (z0.on s.below).2 3 _ rfl
  refine lex_plain 2 (by kernel_rfl) ?_
  dsimp only [List.take, List.drop]
  repeat go_big_quiet_step (fail)
  refine wpQuiet_nil ?_
  clear lf0 lf1 lf2 lf3
  refine lex_nil (fun w7 b => ?_)
  replace z0 := z0.on b
  replace BW := Below.step BW b
  clear b
  dsimp only [NoPanic]
  go_wp2_with fail
  go_ret
  exact ⟨rfl, BW⟩
theorem isFormed_r (k p q r n : Int) (w : World) (hk : kindS k = true) {r' : Int} (hr : ¬ r = r') (hb : bareS ⟨k, p, q, r⟩ = ⟨k, p, q, r'⟩) :
    Calls Try.prog 118 #[.agg #[.int .i64 k, .int .i64 p, .int .i64 q, .int .i64 r], .int .i64 n] w fun e w' => e = .returned (.bool false) ∧ Below w.heap.size w w' := by
  have HK := Lib.hid hk
  have HB := Lib.hid hb
  clear hk hb
  go_enter Try.func118, Try.ntmps118
  go_wp2_with fail
  obtain ⟨w1, e_w1⟩ : ∃ w', w.alloc (.cells #[.int .i64 k, .int .i64 p, .int .i64 q, .int .i64 r] 43) = w' := ⟨_, rfl⟩
  have b : Below w.heap.size w w1 := e_w1 ▸ below_lit _ _
  have hs_w1 : w1.heap.size = w.heap.size + 1 := e_w1 ▸ size_lit w _ rfl
  have z0 : Bx w1 w.heap.size [.int .i64 k, .int .i64 p, .int .i64 q, .int .i64 r] := e_w1 ▸ Bx.made_k w rfl #[.int .i64 k, .int .i64 p, .int .i64 q, .int .i64 r] 43
  rw [e_w1]
  clear e_w1
  have BW := b
  clear b
  clear hs_w1
  try dsimp only [List.append]
  refine region_plan [0, 1, 2, 3, 4, 5, 6, 7, 8, 9] (by kernel_rfl) (by kernel_rfl) (by kernel_rfl) (by kernel_rfl) (by kernel_rfl) ?_
  dsimp only [pick, nth]
  replace z0 := z0.on ((Below.refl _ _).drew : Below w1.heap.size w1 w1.drew)
  replace BW := Below.step BW ((Below.refl _ _).drew : Below w1.heap.size w1 w1.drew)
  obtain ⟨w2, e_w2⟩ : ∃ w', w1.drew = w' := ⟨_, rfl⟩
  rw [e_w2] at z0 BW ⊢
  clear e_w2
  have lf0 := fun s : Wd w2 => (z0.on s.below).2 0 _ rfl
  have lf1 := fun s : Wd w2 => (z0.on s.below).2 1 _ rfl
  have lf2 := fun s : Wd w2 => (z0.on s.below).2 2 _ rfl
  have lf3 := fun s : Wd w2 => (z0.on s.below).2 3 _ rfl
  refine lex_plain 2 (by kernel_rfl) ?_
  dsimp only [List.take, List.drop]
  repeat go_big_quiet_step (fail)
  refine wpQuiet_nil ?_
  clear lf0 lf1 lf2 lf3
  refine lex_call (by kernel_rfl) (by kernel_rfl) (fun w3 b K hK => ?_)
  replace z0 := z0.on b
  replace BW := Below.step BW b
  clear b
  go_simp
  refine (isKind_as k true HK.out _).mono ?_
  rintro en w4 ⟨rfl, b⟩
  dsimp only
  refine hK _ _ b ?_
  clear hK K
  replace z0 := z0.on b
  replace BW := Below.step BW b
  clear b
  have lf0 := fun s : Wd w4 => (z0.on s.below).2 0 _ rfl
  have lf1 := fun s : Wd w4 => (z0.on s.below).2 1 _ rfl
  have lf2 := fun s : Wd w4 => (z0.on s.below).2 2 _ rfl
  have lf3 := fun s : Wd w4 => (z0.on s.below).2 3 _ rfl
  refine lex_plain 4 (by kernel_rfl) ?_
  dsimp only [List.take, List.drop]
  repeat go_big_quiet_step (fail)
  refine wpQuiet_nil ?_
  clear lf0 lf1 lf2 lf3
  refine lex_call (by kernel_rfl) (by kernel_rfl) (fun w5 b K hK => ?_)
  replace z0 := z0.on b
  replace BW := Below.step BW b
  clear b
  go_simp
  refine (bare_as k p q r k p q r' HB.out _).mono ?_
  rintro en w6 ⟨rfl, b⟩
  dsimp only
  refine hK _ _ b ?_
  clear hK K
  replace z0 := z0.on b
  replace BW := Below.step BW b
  clear b
  have lf0 := fun s : Wd w6 => (z0.on s.below).2 0 _ rfl
  have lf1 := fun s : Wd w6 => (z0.on s.below).2 1 _ rfl
  have lf2 := fun s : Wd w6 => (z0.on s.below).2 2 _ rfl
  have lf3 := fun s : Wd w6 => (z0.on s.below).2 3 _ rfl
  refine lex_plain 2 (by kernel_rfl) ?_
  dsimp only [List.take, List.drop]
  repeat go_big_quiet_step (fail)
  refine wpQuiet_nil ?_
  clear lf0 lf1 lf2 lf3
  refine lex_nil (fun w7 b => ?_)
  replace z0 := z0.on b
  replace BW := Below.step BW b
  clear b
  dsimp only [NoPanic]
  go_wp2_with fail
  go_ret
  exact ⟨rfl, BW⟩
theorem take_at {k : Int} {p q r : Int} (j : Nat) (x : Int) (hlt : j < manyS k) (hx : (usesS ⟨k, p, q, r⟩)[j]? = some x) : [Value.int .i64 p, .int .i64 q, .int .i64 r][j]? = some (.int .i64 x) := by
  unfold usesS at hx
  rw [List.getElem?_take, if_pos hlt] at hx
  rcases j with _ | _ | _ | j
  · simp at hx; simp [hx]
  · simp at hx; simp [hx]
  · simp at hx; simp [hx]
  · simp at hx
theorem usesS_length (x : Nd) : (usesS x).length = manyS x.k := by
  have := manyS_le x.k
  unfold usesS
  rw [List.length_take]
  simp only [List.length_cons, List.length_nil]
  omega
theorem sameN_refl (x : Nd) : sameN x x = true := by unfold sameN; simp
set_option maxHeartbeats 1000000 in
theorem isFormed_s (k p q r n : Int) (w : World) (hk : kindS k = true) (hb : bareS ⟨k, p, q, r⟩ = ⟨k, p, q, r⟩) (m : Nat) (hm : manyS k = m) (v : Bool) (hv : formedS n ⟨k, p, q, r⟩ = v) :
    Calls Try.prog 118 #[.agg #[.int .i64 k, .int .i64 p, .int .i64 q, .int .i64 r], .int .i64 n] w fun e w' => e = .returned (.bool v) ∧ Below w.heap.size w w' := by
  have hm3 : m ≤ 3 := hm ▸ manyS_le k
  have hal : (m : Int) ≤ ((Try.prog.arrayLen 137 : Nat) : Int) := by
    have : Try.prog.arrayLen 137 = 3 := by kernel_rfl
    rw [this]; omega
  have hal3 : (m : Int) ≤ 3 := by omega
  have HK := Lib.hid hk
  have HB := Lib.hid hb
  have HM := Lib.hid hm
  have HF := Lib.hid hv
  have HLN : Hid ((usesS ⟨k, p, q, r⟩).length = m) := Lib.hid (by rw [usesS_length]; exact hm)
  have HX3 : ∀ (j : Nat) (x : Int), j < m → (usesS ⟨k, p, q, r⟩)[j]? = some x → [Value.int .i64 p, .int .i64 q, .int .i64 r][j]? = some (.int .i64 x) := fun j x h1 h2 => take_at j x (by rw [hm]; exact h1) h2
  have HSM : Hid (sameN ⟨k, p, q, r⟩ (bareS ⟨k, p, q, r⟩) = true) := Lib.hid (by rw [hb]; exact sameN_refl _)
  clear hk hb hm hv
  go_enter Try.func118, Try.ntmps118
  go_wp2_with fail
  obtain ⟨w1, e_w1⟩ : ∃ w', w.alloc (.cells #[.int .i64 k, .int .i64 p, .int .i64 q, .int .i64 r] 43) = w' := ⟨_, rfl⟩
  have b : Below w.heap.size w w1 := e_w1 ▸ below_lit _ _
  have hs_w1 : w1.heap.size = w.heap.size + 1 := e_w1 ▸ size_lit w _ rfl
  have z0 : Bx w1 w.heap.size [.int .i64 k, .int .i64 p, .int .i64 q, .int .i64 r] := e_w1 ▸ Bx.made_k w rfl #[.int .i64 k, .int .i64 p, .int .i64 q, .int .i64 r] 43
  rw [e_w1]
  clear e_w1
  have BW := b
  clear b
  clear hs_w1
  try dsimp only [List.append]
  refine region_plan [0, 1, 2, 3, 4, 5, 6, 7, 8, 9] (by kernel_rfl) (by kernel_rfl) (by kernel_rfl) (by kernel_rfl) (by kernel_rfl) ?_
  dsimp only [pick, nth]
  replace z0 := z0.on ((Below.refl _ _).drew : Below w1.heap.size w1 w1.drew)
  replace BW := Below.step BW ((Below.refl _ _).drew : Below w1.heap.size w1 w1.drew)
  obtain ⟨w2, e_w2⟩ : ∃ w', w1.drew = w' := ⟨_, rfl⟩
  rw [e_w2] at z0 BW ⊢
  clear e_w2
  have lf0 := fun s : Wd w2 => (z0.on s.below).2 0 _ rfl
  have lf1 := fun s : Wd w2 => (z0.on s.below).2 1 _ rfl
  have lf2 := fun s : Wd w2 => (z0.on s.below).2 2 _ rfl
  have lf3 := fun s : Wd w2 => (z0.on s.below).2 3 _ rfl
  refine lex_plain 2 (by kernel_rfl) ?_
  dsimp only [List.take, List.drop]
  repeat go_big_quiet_step (fail)
  refine wpQuiet_nil ?_
  clear lf0 lf1 lf2 lf3
  refine lex_call (by kernel_rfl) (by kernel_rfl) (fun w3 b K hK => ?_)
  replace z0 := z0.on b
  replace BW := Below.step BW b
  clear b
  go_simp
  refine (isKind_as k true HK.out _).mono ?_
  rintro en w4 ⟨rfl, b⟩
  dsimp only
  refine hK _ _ b ?_
  clear hK K
  replace z0 := z0.on b
  replace BW := Below.step BW b
  clear b
  have lf0 := fun s : Wd w4 => (z0.on s.below).2 0 _ rfl
  have lf1 := fun s : Wd w4 => (z0.on s.below).2 1 _ rfl
  have lf2 := fun s : Wd w4 => (z0.on s.below).2 2 _ rfl
  have lf3 := fun s : Wd w4 => (z0.on s.below).2 3 _ rfl
  refine lex_plain 4 (by kernel_rfl) ?_
  dsimp only [List.take, List.drop]
  repeat go_big_quiet_step (fail)
  refine wpQuiet_nil ?_
  clear lf0 lf1 lf2 lf3
  refine lex_call (by kernel_rfl) (by kernel_rfl) (fun w5 b K hK => ?_)
  replace z0 := z0.on b
  replace BW := Below.step BW b
  clear b
  go_simp
  refine (bare_as k p q r k p q r HB.out _).mono ?_
  rintro en w6 ⟨rfl, b⟩
  dsimp only
  refine hK _ _ b ?_
  clear hK K
  replace z0 := z0.on b
  replace BW := Below.step BW b
  clear b
  have lf0 := fun s : Wd w6 => (z0.on s.below).2 0 _ rfl
  have lf1 := fun s : Wd w6 => (z0.on s.below).2 1 _ rfl
  have lf2 := fun s : Wd w6 => (z0.on s.below).2 2 _ rfl
  have lf3 := fun s : Wd w6 => (z0.on s.below).2 3 _ rfl
  refine lex_plain 2 (by kernel_rfl) ?_
  dsimp only [List.take, List.drop]
  repeat go_big_quiet_step (fail)
  refine wpQuiet_nil ?_
  clear lf0 lf1 lf2 lf3
  refine lex_nil (fun w7 b => ?_)
  replace z0 := z0.on b
  replace BW := Below.step BW b
  clear b
  dsimp only [NoPanic]
  have z0c0 := z0.2 0 _ rfl
  have z0c1 := z0.2 1 _ rfl
  have z0c2 := z0.2 2 _ rfl
  have z0c3 := z0.2 3 _ rfl
  go_wp2_with fail
  refine (used_as k p q r m HM.out _).mono ?_
  rintro en w8 ⟨rfl, b⟩
  clear z0c0 z0c1 z0c2 z0c3
  replace z0 := z0.on b
  replace BW := Below.step BW b
  clear b
  go_upto_region 4 with fail
  obtain ⟨w9, e_w9⟩ : ∃ w', w8.alloc (.cells #[.int .i64 p, .int .i64 q, .int .i64 r] 137) = w' := ⟨_, rfl⟩
  have b : Below w8.heap.size w8 w9 := e_w9 ▸ below_lit _ _
  have hs_w9 : w9.heap.size = w8.heap.size + 1 := e_w9 ▸ size_lit w8 _ rfl
  have z5 : Bx w9 w8.heap.size [.int .i64 p, .int .i64 q, .int .i64 r] := e_w9 ▸ Bx.made_k w8 rfl #[.int .i64 p, .int .i64 q, .int .i64 r] 137
  rw [e_w9]
  clear e_w9
  replace z0 := z0.on b
  replace BW := Below.step BW b
  clear b
  clear hs_w9
  go_wp2_with fail
  have BW0 := BW
  clear BW
  go_loopw [27] (fun i wr => ∃ j : Nat, j ≤ m ∧ i = .int .i64 j ∧ ((usesS ⟨k, p, q, r⟩).take j).all (placeS n) = true ∧ Below w9.heap.size w9 wr) (fun i _ => m - (intOf i).toNat)
  case atStart => exact ⟨0, Nat.zero_le _, rfl, rfl, Below.refl _ _⟩
  case round =>
    obtain ⟨j, hj, rfl, ha, BW⟩ := hrel
    have HA := Lib.hid ha
    clear ha
    replace z0 := z0.on BW
    replace z5 := z5.on BW
    by_cases hlt : j < m
    · obtain ⟨x, hx⟩ := look_ex HLN.out hlt
      have HX := Lib.hid hx
      have lc := z5.2 j (.int .i64 x) (HX3 j x hlt hx)
      clear hx
      obtain ⟨v, hv⟩ : ∃ v, placeS n x = v := ⟨_, rfl⟩
      have HV := Lib.hid hv
      cases v
      · have HR := Lib.hid (notall (p := placeS n) HX.out hv)
        clear hv
        go_wp2_with fail
        refine (isPlace_as x n false HV.out _).mono ?_
        rintro en w9 ⟨rfl, b⟩
        replace BW := Below.step BW b
        go_wp2_with fail
        go_ret
        exact ⟨ret_bool (by rw [← HF.out]; unfold formedS restS; rw [HR.out]; simp), Below.step BW0 BW⟩
      · have HT := Lib.hid (takeall (p := placeS n) HA.out HX.out hv)
        clear hv
        go_wp2_with fail
        refine (isPlace_as x n true HV.out _).mono ?_
        rintro en w9 ⟨rfl, b⟩
        replace BW := Below.step BW b
        go_wp2_with fail
        go_roundw
        case rel => exact ⟨j + 1, by omega, by go_num, HT.out, BW⟩
        case measure => simp [intOf]; omega
    · have HT : Hid ((usesS ⟨k, p, q, r⟩).all (placeS n) = true) := by
        have := HA.out
        rw [List.take_of_length_le (by rw [HLN.out]; omega)] at this
        exact Lib.hid this
      have z0c0 := z0.2 0 _ rfl
      have z0c1 := z0.2 1 _ rfl
      have z0c2 := z0.2 2 _ rfl
      have z0c3 := z0.2 3 _ rfl
      by_cases h0 : k = 0
      · have e0 := beq_tt h0
        have HF0 : Hid (bitS p = v) := Lib.hid (by rw [← HF.out]; unfold formedS restS; rw [HK.out, HSM.out, HT.out, if_pos h0]; rfl)
        clear h0
        go_wp2_with fail
        refine (isBit_as p v HF0.out _).mono ?_
        rintro en w9 ⟨rfl, b⟩
        replace BW := Below.step BW b
        go_wp2_with fail
        go_ret
        exact ⟨rfl, Below.step BW0 BW⟩
      · have e0 := beq_ff h0
        by_cases h7 : k = 7
        · have e7 := beq_tt h7
          have HF0 : Hid (bitS q = v) := Lib.hid (by rw [← HF.out]; unfold formedS restS; rw [HK.out, HSM.out, HT.out, if_neg h0, if_pos h7]; rfl)
          clear h0 h7
          go_wp2_with fail
          refine (isBit_as q v HF0.out _).mono ?_
          rintro en w9 ⟨rfl, b⟩
          replace BW := Below.step BW b
          go_wp2_with fail
          go_ret
          exact ⟨rfl, Below.step BW0 BW⟩
        · have e7 := beq_ff h7
          have HF0 : Hid (true = v) := Lib.hid (by rw [← HF.out]; unfold formedS restS; rw [HK.out, HSM.out, HT.out, if_neg h0, if_neg h7]; rfl)
          clear h0 h7
          go_wp2_with fail
          go_ret
          exact ⟨ret_bool HF0.out, Below.step BW0 BW⟩
theorem bareS_k (k p q r : Int) : ∃ p' q' r', bareS ⟨k, p, q, r⟩ = ⟨k, p', q', r'⟩ := by
  unfold bareS
  simp only
  repeat' split
  all_goals exact ⟨_, _, _, rfl⟩
/-- ISFORMED. -/
theorem isFormed_as (k p q r n : Int) (w : World) (v : Bool) (hv : formedS n ⟨k, p, q, r⟩ = v) :
    Calls Try.prog 118 #[.agg #[.int .i64 k, .int .i64 p, .int .i64 q, .int .i64 r], .int .i64 n] w fun e w' => e = .returned (.bool v) ∧ Below w.heap.size w w' := by
  by_cases hk : kindS k = true
  · obtain ⟨p', q', r', hb⟩ := bareS_k k p q r
    by_cases h1 : p = p'
    · subst h1
      by_cases h2 : q = q'
      · subst h2
        by_cases h3 : r = r'
        · subst h3
          exact isFormed_s k p q r n w hk hb _ rfl v hv
        · obtain rfl : false = v := by rw [← hv]; unfold formedS sameN; rw [hb]; simp [h3]
          exact isFormed_r k p q r n w hk h3 hb
      · obtain rfl : false = v := by rw [← hv]; unfold formedS sameN; rw [hb]; simp [h2]
        exact isFormed_q k p q r n w hk h2 hb
    · obtain rfl : false = v := by rw [← hv]; unfold formedS sameN; rw [hb]; simp [h1]
      exact isFormed_p k p q r n w hk h1 hb
  · have hk' : kindS k = false := by simpa using hk
    obtain rfl : false = v := by rw [← hv]; unfold formedS; rw [hk']; rfl
    exact isFormed_k k p q r n w hk'
theorem Ns.at {w : World} {A : Option Addr} {n : Nat} {L : List Nd} (h : Ns w A n L) {k : Nat} (hk : k < n) : ∃ b off x1 x2 x3 x4, A = some ⟨b, off, none⟩ ∧ Hid (L[k]? = some ⟨x1, x2, x3, x4⟩) ∧ w.cell? ⟨b, off + k * 4, none⟩ = some (.int .i64 x1) ∧ w.cell? ⟨b, off + k * 4 + 1, none⟩ = some (.int .i64 x2) ∧ w.cell? ⟨b, off + k * 4 + 2, none⟩ = some (.int .i64 x3) ∧ w.cell? ⟨b, off + k * 4 + 3, none⟩ = some (.int .i64 x4) := by
  obtain ⟨⟨x1, x2, x3, x4⟩, hx⟩ := look_ex h.1 hk
  obtain ⟨b, off, h1, h2, h3, h4, h5, h6⟩ := h.2 k _ hx
  exact ⟨b, off, x1, x2, x3, x4, h1, Lib.hid hx, h3, h4, h5, h6⟩
set_option maxHeartbeats 1000000 in
/-- ALL NODES ARE FORMED. -/
theorem areFormed_as {A : Option Addr} {n c : Nat} {L : List Nd} {w : World} (h : Ns w A n L) (hn : n ≤ 1000000) (v : Bool) (hv : L.all (formedS n) = v) :
    Calls Try.prog 97 #[.slice A n c] w fun e w' => e = .returned (.bool v) ∧ Below w.heap.size w w' := by
  have HV := Lib.hid hv
  clear hv
  go_enter Try.func97, Try.ntmps97
  go_wp2_with fail
  go_loopw [7] (fun i wr => ∃ j : Nat, j ≤ n ∧ i = .int .i64 j ∧ (L.take j).all (formedS n) = true ∧ Below w.heap.size w wr) (fun i _ => n - (intOf i).toNat)
  case atStart => exact ⟨0, Nat.zero_le _, rfl, rfl, Below.refl _ _⟩
  case round =>
    obtain ⟨j, hj, rfl, ha, BW⟩ := hrel
    have HA := Lib.hid ha
    clear ha
    have h1 := h.on BW
    by_cases hlt : j < n
    · obtain ⟨b0, off, x1, x2, x3, x4, rfl, HX, c1, c2, c3, c4⟩ := h1.at hlt
      go_upto_region 4 with fail
      clear c1 c2 c3 c4
      obtain ⟨w1, e_w1⟩ : ∃ w', wr.alloc (.cells #[.int .i64 x1, .int .i64 x2, .int .i64 x3, .int .i64 x4] 43) = w' := ⟨_, rfl⟩
      have z0 : Bx w1 wr.heap.size [.int .i64 x1, .int .i64 x2, .int .i64 x3, .int .i64 x4] := e_w1 ▸ Bx.made_k wr rfl #[.int .i64 x1, .int .i64 x2, .int .i64 x3, .int .i64 x4] 43
      replace BW : Below w.heap.size w w1 := e_w1 ▸ below_k BW _
      rw [e_w1]
      clear e_w1
      have z0c0 := z0.2 0 _ rfl
      have z0c1 := z0.2 1 _ rfl
      have z0c2 := z0.2 2 _ rfl
      have z0c3 := z0.2 3 _ rfl
      obtain ⟨u, hu⟩ : ∃ u, formedS n ⟨x1, x2, x3, x4⟩ = u := ⟨_, rfl⟩
      have HU := Lib.hid hu
      cases u
      · have HR := Lib.hid (notall (p := formedS n) HX.out hu)
        clear hu
        go_wp2_with fail
        refine (isFormed_as x1 x2 x3 x4 n _ false HU.out).mono ?_
        rintro en w9 ⟨rfl, b⟩
        replace BW := Below.step BW b
        go_wp2_with fail
        go_ret
        exact ⟨ret_bool (by rw [← HV.out, HR.out]), BW⟩
      · have HT := Lib.hid (takeall (p := formedS n) HA.out HX.out hu)
        clear hu
        go_wp2_with fail
        refine (isFormed_as x1 x2 x3 x4 n _ true HU.out).mono ?_
        rintro en w9 ⟨rfl, b⟩
        replace BW := Below.step BW b
        go_wp2_with fail
        go_roundw
        case rel => exact ⟨j + 1, by omega, by go_num, HT.out, BW⟩
        case measure => simp [intOf]; omega
    · have HR : Hid (L.all (formedS n) = true) := by
        have := HA.out
        rw [List.take_of_length_le (by rw [h.1]; omega)] at this
        exact Lib.hid this
      go_wp2_with fail
      go_ret
      exact ⟨ret_bool (by rw [← HV.out, HR.out]), BW⟩
end Go.Proofs.Ytcehklnonhalhaa
