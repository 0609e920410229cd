
/-
  ieee's terms: what is put together, and their bits.
-/
import Derived.Test.YtpachoeignpcbaaGreatDoorIb
namespace Go.Proofs.YtpachoeignpcbaaGreatDoor
open Go.RowKit
set_option linter.unusedVariables false

/-- block s is a variable of a term: five cells. -/
abbrev tob (neg inf dn : Bool) (A : Option Addr) (n c : Nat) (e : Int) (ty : TypeId) : Obj := .cells #[.bool neg, .bool inf, .bool dn, .slice A n c, .int .i64 e] ty
def TB (w : World) (s : Nat) (ty : TypeId) (neg inf dn : Bool) (A : Option Addr) (n c : Nat) (e : Int) : Prop := Own w s ty [.bool neg, .bool inf, .bool dn, .slice A n c, .int .i64 e]
section
variable {w w' : World} {s : Nat} {ty : TypeId} {neg inf dn : Bool} {A : Option Addr} {n c : Nat} {e : Int}
theorem TB.cells (h : TB w s ty neg inf dn A n c e) : w.cell? ⟨s, 0, none⟩ = some (.bool neg) ∧ w.cell? ⟨s, 1, none⟩ = some (.bool inf) ∧ w.cell? ⟨s, 2, none⟩ = some (.bool dn) ∧ w.cell? ⟨s, 3, none⟩ = some (.slice A n c) ∧ w.cell? ⟨s, 4, none⟩ = some (.int .i64 e) ∧
    w.frozen? ⟨s, 0, none⟩ = false ∧ w.frozen? ⟨s, 1, none⟩ = false ∧ w.frozen? ⟨s, 2, none⟩ = false ∧ w.frozen? ⟨s, 3, none⟩ = false ∧ w.frozen? ⟨s, 4, none⟩ = false ∧ s < w.heap.size :=
  ⟨h.cell 0, h.cell 1, h.cell 2, h.cell 3, h.cell 4, h.free 0, h.free 1, h.free 2, h.free 3, h.free 4, h.lt⟩
theorem TB.on (h : TB w s ty neg inf dn A n c e) (hb : Below w.heap.size w w') : TB w' s ty neg inf dn A n c e := Own.below h hb (Own.lt h)
theorem TB.made (w : World) {s : Nat} (hs : w.heap.size = s) (ty : TypeId) (neg inf dn : Bool) (A : Option Addr) (n c : Nat) (e : Int) : TB (w.alloc (tob neg inf dn A n c e ty)) s ty neg inf dn A n c e := by
  subst hs; exact Own.made w ty [.bool neg, .bool inf, .bool dn, .slice A n c, .int .i64 e]
theorem TB.alloc (h : TB w s ty neg inf dn A n c e) (o : Obj) : TB (w.alloc o) s ty neg inf dn A n c e := h.on ((Below.refl _ _).alloc (by simp) o)
theorem TB.put (h : TB w s ty neg inf dn A n c e) (neg' inf' dn' : Bool) (A' : Option Addr) (n' c' : Nat) (e' : Int) :
    TB (put5 w s (.bool neg') (.bool inf') (.bool dn') (.slice A' n' c') (.int .i64 e')) s ty neg' inf' dn' A' n' c' e' :=
  ((((Own.put h 0 (.bool neg')).put 1 (.bool inf')).put 2 (.bool dn')).put 3 (.slice A' n' c')).put 4 (.int .i64 e')
theorem TB.other {g : Nat} (h : TB w g ty neg inf dn A n c e) (hs : s ≠ g) (a b c' d e' : Value) : TB (put5 w s a b c' d e') g ty neg inf dn A n c e :=
  ((((Own.other h hs a).other hs b).other hs c').other hs d).other hs e'
theorem TB.res (h : TB w s ty neg inf dn A n c e) {A1 : Option Addr} {m x : Nat} (hr : Res w A1 m x) (a b c' d e' : Value) : Res (put5 w s a b c' d e') A1 m x :=
  ((((hr.put (Own.cell h 0) (notU_bool _) a).put (Own.cell (Own.put h 0 a) 1) (notU_bool _) b).put (Own.cell (Own.put (Own.put h 0 a) 1 b) 2) (notU_bool _) c').put (Own.cell (Own.put (Own.put (Own.put h 0 a) 1 b) 2 c') 3) (notU_slice _ _ _) d).put (Own.cell (Own.put (Own.put (Own.put (Own.put h 0 a) 1 b) 2 c') 3 d) 4) (notU_int _) e'
end
theorem Box.other5 {w : World} {s g : Nat} {t : TypeId} {a b c : Value} (h : Box w g t a b c) (hs : s ≠ g) (a' b' c' d' e' : Value) : Box (put5 w s a' b' c' d' e') g t a b c :=
  ⟨((((h.1.other hs _).other hs _).other hs _).other hs _).other hs _, h.2⟩
theorem put5_size (w : World) (s : Nat) (a b c d e : Value) : (put5 w s a b c d e).heap.size = w.heap.size := by simp [put5, World.setCell]
/-- a form and a term at a function's start. -/
theorem tframe (w : World) (t t1 : TypeId) (a b c : Int) (neg inf dn : Bool) (A : Option Addr) (l k : Nat) (e : Int) : ∃ W, (w.alloc (.cells #[.int .i64 a, .int .i64 b, .int .i64 c] t)).alloc (tob neg inf dn A l k e t1) = W ∧ FB W w.heap.size t a b c ∧ TB W (w.heap.size + 1) t1 neg inf dn A l k e ∧ Below w.heap.size w W ∧ W.heap.size = w.heap.size + 2 :=
  ⟨_, rfl, (Box.made w t (notU_int _) (notU_int _) (notU_int _)).alloc _, TB.made _ (by simp) t1 neg inf dn A l k e, ((Below.refl _ _).alloc (by simp <;> omega) _).alloc (by simp <;> omega) _, by simp⟩
theorem tframe' (w : World) (t t1 : TypeId) (a b c : Int) (neg inf dn : Bool) (A : Option Addr) (l k : Nat) (e : Int) : ∃ W, (w.alloc (tob neg inf dn A l k e t1)).alloc (.cells #[.int .i64 a, .int .i64 b, .int .i64 c] t) = W ∧ TB W w.heap.size t1 neg inf dn A l k e ∧ FB W (w.heap.size + 1) t a b c ∧ Below w.heap.size w W ∧ W.heap.size = w.heap.size + 2 :=
  ⟨_, rfl, (TB.made w rfl t1 neg inf dn A l k e).alloc _, FB.made_k _ (by simp) t a b c, ((Below.refl _ _).alloc (by simp <;> omega) _).alloc (by simp <;> omega) _, by simp⟩
/-- a function that tells a term. -/
def TmX (w : World) (ng iv dn : Bool) (dx : Nat) (de : Int) (en : Ending) (w' : World) : Prop := ∃ A k, en = .returned (.agg #[.bool ng, .bool iv, .bool dn, .slice A k k, .int .i64 de]) ∧ Res w' A k dx ∧ Below w.heap.size w w'
set_option maxHeartbeats 4000000 in
theorem term_walk {B P W M E H : Nat} {low : Int} (hf : Fm B P W M E H low) (b : Nat) (hb : b < 18446744073709551616) {w : World} (hT : Tab w) {dn : Bool} {dx : Nat} {de err : Int} (hv : valS M E H low b = (⟨dn, dx, de⟩, err)) (ng iv : Bool) (hn : decide (b / H % 2 = 1) = ng) (q : Int) (hq : clsS M E b = q) (d3 : (q == 3) = iv) :
    Calls Tryz.prog 20 #[.agg #[.int .i64 (B : Int), .int .i64 (P : Int), .int .i64 (W : Int)], .int .u64 (b : Int)] w (TmX w ng iv dn dx de) := by
  have HV := Lib.hid hv
  have HN := Lib.hid hn
  have HC := Lib.hid hq
  clear hv hn hq
  go_enter Tryz.func20, Tryz.ntmps20
  go_wp2_with fail
  obtain ⟨V, hV, z0, z4, BW, sW⟩ := tframe w 25 50 (B : Int) (P : Int) (W : Int) false false false none 0 0 0
  rw [hV]
  clear hV sW
  replace hT := hT.on BW
  refine (value_as hf b hb hT HV.out).mono ?_
  rintro en w1 ⟨V_r, v_r, rfl, r, b⟩
  replace z0 := z0.on b
  replace z4 := z4.on b
  replace hT := hT.on b
  replace BW := Below.step BW b
  clear b
  have lz4 := z4.cells.2.2.2.2.2.2.2.2.2.2
  obtain ⟨z0c0, z0c1, z0c2, z0f0, z0f1, z0f2, z0l⟩ := z0.cells
  obtain ⟨z4c0, z4c1, z4c2, z4f0, z4f1, z4f2, z4l⟩ := z4.cells
  go_upto_region 2 with fail
  clear z0c0 z0c1 z0c2 z0f0 z0f1 z0f2 z0l z4c0 z4c1 z4c2 z4f0 z4f1 z4f2 z4l
  obtain ⟨w2, e_w2⟩ : ∃ w', w1.alloc (dob dn V_r v_r v_r de 48) = w' := ⟨_, rfl⟩
  have b : Below w1.heap.size w1 w2 := e_w2 ▸ below_lit _ _
  have hs_w2 : w2.heap.size = w1.heap.size + 1 := e_w2 ▸ size_lit w1 _ rfl
  have zd : DB w2 w1.heap.size 48 dn V_r v_r v_r de := e_w2 ▸ DB.made w1 rfl 48 dn V_r v_r v_r de
  rw [e_w2]
  clear e_w2
  replace z0 := z0.on b
  replace z4 := z4.on b
  replace hT := hT.on b
  replace r := r.on b
  replace BW := Below.step BW b
  clear b
  clear hs_w2
  have n0 : w.heap.size ≠ w.heap.size + 1 := by omega
  have n1 : w.heap.size + 1 ≠ w.heap.size := by omega
  have n2 : w1.heap.size ≠ w.heap.size + 1 := by omega
  have n3 : w.heap.size + 1 ≠ w1.heap.size := by omega
  replace z0 := z0.on ((Below.refl _ _).drew : Below w2.heap.size w2 w2.drew)
  replace z4 := z4.on ((Below.refl _ _).drew : Below w2.heap.size w2 w2.drew)
  replace hT := hT.on ((Below.refl _ _).drew : Below w2.heap.size w2 w2.drew)
  replace r := r.on ((Below.refl _ _).drew : Below w2.heap.size w2 w2.drew)
  replace zd := zd.on ((Below.refl _ _).drew : Below w2.heap.size w2 w2.drew)
  replace BW := Lib.hid (Below.step BW ((Below.refl _ _).drew : Below w2.heap.size w2 w2.drew))
  go_region_held3 (fun w' => w'.cell? ⟨w.heap.size, 0, none⟩ = some (.int .i64 (B : Int)) ∧ w'.cell? ⟨w.heap.size, 1, none⟩ = some (.int .i64 (P : Int)) ∧ w'.cell? ⟨w.heap.size, 2, none⟩ = some (.int .i64 (W : Int)) ∧ w'.cell? ⟨w1.heap.size, 0, none⟩ = some (.bool dn) ∧ w'.cell? ⟨w1.heap.size, 1, none⟩ = some (.slice V_r v_r v_r) ∧ w'.cell? ⟨w1.heap.size, 2, none⟩ = some (.int .i64 de))
    ((first | (with_reducible exact ⟨z0.cells.1, z0.cells.2.1, z0.cells.2.2.1, zd.cells.1, zd.cells.2.1, zd.cells.2.2.1⟩) | (with_reducible exact ⟨(Box.other5 z0 (by omega) _ _ _ _ _).cells.1, (Box.other5 z0 (by omega) _ _ _ _ _).cells.2.1, (Box.other5 z0 (by omega) _ _ _ _ _).cells.2.2.1, (Box.other5 zd (by omega) _ _ _ _ _).cells.1, (Box.other5 zd (by omega) _ _ _ _ _).cells.2.1, (Box.other5 zd (by omega) _ _ _ _ _).cells.2.2.1⟩)))
    (first
      | (go_at_call 47
         (with_reducible refine (fneg_as hf b hb ng HN.out _).mono ?_)
         rintro en w3 ⟨rfl, b⟩
         replace z0 := z0.on b
         replace z4 := z4.on b
         replace hT := hT.on b
         replace r := r.on b
         replace zd := zd.on b
         replace BW := Lib.hid (Below.step BW.out b)
         obtain ⟨zq0, zq1, zq2, zq3, zq4, zg0, zg1, zg2, zg3, zg4, zql⟩ := z4.cells
         clear b)
      | (go_at_call 43
         (with_reducible refine (class_as hf b q hb HC.out _).mono ?_)
         rintro en w4 ⟨rfl, b⟩
         replace z0 := z0.on b
         replace z4 := z4.on b
         replace hT := hT.on b
         replace r := r.on b
         replace zd := zd.on b
         replace BW := Lib.hid (Below.step BW.out b)
         obtain ⟨zq0, zq1, zq2, zq3, zq4, zg0, zg1, zg2, zg3, zg4, zql⟩ := z4.cells
         clear b))
  all_goals replace BW := BW.out
  all_goals (
    obtain ⟨z4c0, z4c1, z4c2, z4c3, z4c4, z4f0, z4f1, z4f2, z4f3, z4f4, z4l⟩ := z4.cells
    go_wp2_with fail
    clear z4c0 z4c1 z4c2 z4c3 z4c4 z4f0 z4f1 z4f2 z4f3 z4f4 z4l
    have y4 := z4.put ng iv dn V_r v_r v_r de
    have yl := z4.res r (.bool ng) (.bool iv) (.bool dn) (.slice V_r v_r v_r) (.int .i64 de)
    have yb := below_put5 BW (show w.heap.size ≤ w.heap.size + 1 by omega) (.bool ng) (.bool iv) (.bool dn) (.slice V_r v_r v_r) (.int .i64 de)
    obtain ⟨p0, p1, p2, p3, p4, _⟩ := y4.cells
    refine bodyPost_ret (v := .agg #[.bool ng, .bool iv, .bool dn, .slice V_r v_r v_r, .int .i64 de]) (by simp [results, Tryz.results20, go_sem, p0, p1, p2, p3, p4]) rfl ?_
    exact ⟨_, _, rfl, yl, yb⟩)
theorem term_as {B P W M E H : Nat} {low : Int} (hf : Fm B P W M E H low) (b : Nat) (hb : b < 18446744073709551616) {w : World} (hT : Tab w) {ng iv dn : Bool} {dx : Nat} {de : Int} (hv : tmS M E H low b = ⟨ng, iv, ⟨dn, dx, de⟩⟩) :
    Calls Tryz.prog 20 #[.agg #[.int .i64 (B : Int), .int .i64 (P : Int), .int .i64 (W : Int)], .int .u64 (b : Int)] w (TmX w ng iv dn dx de) := by
  unfold tmS at hv
  simp only [Tm.mk.injEq] at hv
  obtain ⟨h1, h2, h3⟩ := hv
  refine term_walk hf b hb hT (err := (valS M E H low b).2) (by rw [← h3]) ng iv h1 _ rfl ?_
  rw [← h2]
  unfold infB
  rw [Bool.eq_iff_iff]
  simp
theorem bits_inf {B P W M E H : Nat} {low : Int} (hf : Fm B P W M E H low) {A : Option Addr} {n c x : Nat} {neg dn : Bool} {e : Int} {w : World} (h : Arg w A n c x) (hs : n ≤ 30000) (hT : Tab w) (mode : Int) (v : Nat) (hv : sgn H neg (M * E) = v) :
    Calls Tryz.prog 29 #[.agg #[.bool neg, .bool true, .bool dn, .slice A n c, .int .i64 e], .agg #[.int .i64 (B : Int), .int .i64 (P : Int), .int .i64 (W : Int)], .int .i64 mode] w (ToX w v 0 0) := by
  have HI := Lib.hid (fun V => infinite_as hf neg v hv V)
  clear hv
  go_enter Tryz.func29, Tryz.ntmps29
  go_wp2_with fail
  obtain ⟨V, hV, z3, z4, BW, sW⟩ := tframe' w 25 50 (B : Int) (P : Int) (W : Int) neg true dn A n c e
  rw [hV]
  clear hV sW
  replace hT := hT.on BW
  replace h := h.on BW
  obtain ⟨z3c0, z3c1, z3c2, z3c3, z3c4, z3f0, z3f1, z3f2, z3f3, z3f4, z3l⟩ := z3.cells
  obtain ⟨z4c0, z4c1, z4c2, z4f0, z4f1, z4f2, z4l⟩ := z4.cells
  go_wp2_with fail
  refine (HI.out _).mono ?_
  rintro en w1 ⟨rfl, b⟩
  clear z3c0 z3c1 z3c2 z3c3 z3c4 z3f0 z3f1 z3f2 z3f3 z3f4 z3l z4c0 z4c1 z4c2 z4f0 z4f1 z4f2 z4l
  replace z3 := z3.on b
  replace z4 := z4.on b
  replace hT := hT.on b
  replace h := h.on b
  replace BW := Below.step BW b
  clear b
  go_wp2_with fail
  refine bodyPost_ret (v := .tuple #[.int .u64 (v : Int), .int .i64 0, .int .i64 0]) (by simp [results, Tryz.results29, go_sem]) rfl ⟨rfl, BW⟩
theorem bits_fin {B P W M E H : Nat} {low : Int} (hf : Fm B P W M E H low) {A : Option Addr} {n c x : Nat} {neg dn : Bool} {e : Int} {w : World} (h : Arg w A n c x) (hs : n ≤ 30000) (hT : Tab w) (mode : Int) {v : Nat} {fl err : Int} (hr : roundS P M E H low mode ⟨dn, x, e⟩ neg = (v, fl, err)) :
    Calls Tryz.prog 29 #[.agg #[.bool neg, .bool false, .bool dn, .slice A n c, .int .i64 e], .agg #[.int .i64 (B : Int), .int .i64 (P : Int), .int .i64 (W : Int)], .int .i64 mode] w (ToX w v fl err) := by
  have HR := Lib.hid hr
  clear hr
  go_enter Tryz.func29, Tryz.ntmps29
  go_wp2_with fail
  obtain ⟨V, hV, z3, z4, BW, sW⟩ := tframe' w 25 50 (B : Int) (P : Int) (W : Int) neg false dn A n c e
  rw [hV]
  clear hV sW
  replace hT := hT.on BW
  replace h := h.on BW
  obtain ⟨z3c0, z3c1, z3c2, z3c3, z3c4, z3f0, z3f1, z3f2, z3f3, z3f4, z3l⟩ := z3.cells
  obtain ⟨z4c0, z4c1, z4c2, z4f0, z4f1, z4f2, z4l⟩ := z4.cells
  go_wp2_with fail
  refine (to_as hf h hs hT mode neg HR.out).mono ?_
  rintro en w1 ⟨rfl, b⟩
  clear z3c0 z3c1 z3c2 z3c3 z3c4 z3f0 z3f1 z3f2 z3f3 z3f4 z3l z4c0 z4c1 z4c2 z4f0 z4f1 z4f2 z4l
  replace z3 := z3.on b
  replace z4 := z4.on b
  replace hT := hT.on b
  replace h := h.on b
  replace BW := Below.step BW b
  clear b
  go_wp2_with fail
  refine bodyPost_ret (v := .tuple #[.int .u64 (v : Int), .int .i64 fl, .int .i64 err]) (by simp [results, Tryz.results29, go_sem]) rfl ⟨rfl, BW⟩
theorem bits_as {B P W M E H : Nat} {low : Int} (hf : Fm B P W M E H low) {A : Option Addr} {n c x : Nat} {neg dn : Bool} {e : Int} {w : World} (h : Arg w A n c x) (hs : n ≤ 30000) (hT : Tab w) (mode : Int) {inf : Bool} {v : Nat} {fl err : Int} (hr : bitsS P M E H low mode ⟨neg, inf, ⟨dn, x, e⟩⟩ = (v, fl, err)) :
    Calls Tryz.prog 29 #[.agg #[.bool neg, .bool inf, .bool dn, .slice A n c, .int .i64 e], .agg #[.int .i64 (B : Int), .int .i64 (P : Int), .int .i64 (W : Int)], .int .i64 mode] w (ToX w v fl err) := by
  unfold bitsS at hr
  cases inf
  · exact bits_fin hf h hs hT mode (by simpa using hr)
  · simp only [if_true, Prod.mk.injEq] at hr
    obtain ⟨h1, rfl, rfl⟩ := hr
    exact bits_inf hf h hs hT mode v h1
theorem nought_is {A1 A2 : Option Addr} {n1 c1 n2 c2 : Nat} {g1 i1 d1 g2 i2 d2 : Bool} {e1 e2 : Int} (mode : Int) (v : Bool) (hv : ntS mode g1 g2 = v) (w : World) :
    Calls Tryz.prog 45 #[.int .i64 mode, .agg #[.bool g1, .bool i1, .bool d1, .slice A1 n1 c1, .int .i64 e1], .agg #[.bool g2, .bool i2, .bool d2, .slice A2 n2 c2, .int .i64 e2]] w fun en w' => en = .returned (.bool v) ∧ Below w.heap.size w w' := by
  by_cases hg : g1 = g2
  · subst hg
    obtain rfl : g1 = v := by rw [← hv]; unfold ntS; rw [if_pos rfl]
    clear hv
    have d1 : (g1 == g1) = true := by simp
    go_enter Tryz.func45, Tryz.ntmps45
    go_wp2_with fail
    go_ret
    exact ⟨rfl, below_k (below_lit _ _) _⟩
  · have d1 : (g1 == g2) = false := by simpa using hg
    have d2 : (mode == 2) = v := by rw [← hv]; unfold ntS; rw [if_neg hg, Bool.eq_iff_iff]; simp
    clear hv hg
    go_enter Tryz.func45, Tryz.ntmps45
    go_wp2_with fail
    go_ret
    exact ⟨rfl, below_k (below_lit _ _) _⟩
theorem unmade_as {B P W M E H : Nat} {low : Int} (hf : Fm B P W M E H low) (v : Nat) (hv : M * E + M / 2 = v) (w : World) :
    Calls Tryz.prog 27 #[.agg #[.int .i64 (B : Int), .int .i64 (P : Int), .int .i64 (W : Int)]] w (ToX w v 16 0) := by
  have HN := Lib.hid (fun V => fnone_as hf v hv V)
  clear hv
  go_enter Tryz.func27, Tryz.ntmps27
  go_wp2_with fail
  obtain ⟨V, hV, z0, BW, sW⟩ := fframe1 w 25 (B : Int) (P : Int) (W : Int)
  rw [hV]
  clear hV sW
  refine (HN.out _).mono ?_
  rintro en w2 ⟨rfl, b2⟩
  go_wp2_with fail
  refine bodyPost_ret (v := .tuple #[.int .u64 (v : Int), .int .i64 16, .int .i64 0]) (by simp [results, Tryz.results27, go_sem]) rfl ⟨rfl, Below.step BW b2⟩
set_option maxHeartbeats 4000000 in
theorem makes_as {B P W M E H : Nat} {low : Int} (hf : Fm B P W M E H low) (a b : Nat) (ha : a < 18446744073709551616) (hb : b < 18446744073709551616) (v : Bool) (hv : vainB M E a b = v) (w : World) :
    Calls Tryz.prog 26 #[.agg #[.int .i64 (B : Int), .int .i64 (P : Int), .int .i64 (W : Int)], .int .u64 (a : Int), .int .u64 (b : Int)] w fun en w' => en = .returned (.bool v) ∧ Below w.heap.size w w' := by
  obtain ⟨p, hp⟩ : ∃ p, clsS M E a = p := ⟨_, rfl⟩
  obtain ⟨q, hq⟩ : ∃ q, clsS M E b = q := ⟨_, rfl⟩
  have HA := Lib.hid (fun V => class_as hf a p ha hp V)
  have HB := Lib.hid (fun V => class_as hf b q hb hq V)
  have hv2 : ((p == 3) && (q == 0) || (p == 0) && (q == 3)) = v := by
    rw [← hv, ← hp, ← hq]
    unfold vainB infB zerB
    rw [Bool.eq_iff_iff]
    simp
  obtain ⟨x1, h1⟩ : ∃ x, (p == 3) = x := ⟨_, rfl⟩
  obtain ⟨x2, h2⟩ : ∃ x, (q == 0) = x := ⟨_, rfl⟩
  obtain ⟨x3, h3⟩ : ∃ x, (p == 0) = x := ⟨_, rfl⟩
  obtain ⟨x4, h4⟩ : ∃ x, (q == 3) = x := ⟨_, rfl⟩
  rw [h1, h2, h3, h4] at hv2
  have HV := Lib.hid hv2
  clear hv hv2 hp hq
  cases x1 <;> cases x2 <;> cases x3 <;> cases x4
  all_goals
    go_enter Tryz.func26, Tryz.ntmps26
    go_wp2_with fail
    obtain ⟨V, hV, z0, BW, sW⟩ := fframe1 w 25 (B : Int) (P : Int) (W : Int)
    rw [hV]
    clear hV sW
    replace z0 := z0.on ((Below.refl _ _).drew : Below V.heap.size V V.drew)
    replace BW := Lib.hid (Below.step BW ((Below.refl _ _).drew : Below V.heap.size V V.drew))
    go_region_held3 (fun w' => w'.cell? ⟨w.heap.size, 0, none⟩ = some (.int .i64 (B : Int)) ∧ w'.cell? ⟨w.heap.size, 1, none⟩ = some (.int .i64 (P : Int)) ∧ w'.cell? ⟨w.heap.size, 2, none⟩ = some (.int .i64 (W : Int)))
      ((first | (with_reducible exact ⟨z0.cells.1, z0.cells.2.1, z0.cells.2.2.1⟩)))
      (first
        | (go_at_call 43
           (with_reducible refine (HA.out _).mono ?_)
           rintro en w1 ⟨rfl, b⟩
           replace z0 := z0.on b
           replace BW := Lib.hid (Below.step BW.out b)
           clear b)
        | (go_at_call 43
           (with_reducible refine (HB.out _).mono ?_)
           rintro en w2 ⟨rfl, b⟩
           replace z0 := z0.on b
           replace BW := Lib.hid (Below.step BW.out b)
           clear b))
    all_goals replace BW := BW.out
    all_goals (
      go_wp2_with fail
      go_ret
      exact ⟨ret_bool (by rw [← HV.out]; rfl), BW⟩)
theorem turned_as {B P W M E H : Nat} {low : Int} (hf : Fm B P W M E H low) (b : Nat) (hb : b < 18446744073709551616) (v : Nat) (hv : trnS H b = v) (w : World) :
    Calls Tryz.prog 15 #[.agg #[.int .i64 (B : Int), .int .i64 (P : Int), .int .i64 (W : Int)], .int .u64 (b : Int)] w fun en w' => en = .returned (.int .u64 (v : Int)) ∧ Below w.heap.size w w' := by
  obtain ⟨b1, b2, b3, b4, b5, b6, b7, b8, b9, b10, b11, b12, b13, b14, b15⟩ := hf.bd
  have HN := Lib.hid (fun V => nought_as hf true H (by unfold sgn; rw [if_pos rfl, Nat.add_zero]) V)
  have k1 : bits BinOp.or IntKind.u64 (H : Int) ((H : Int) - 1) = ((2 * H - 1 : Nat) : Int) := by
    rw [show (H : Int) - 1 = ((H - 1 : Nat) : Int) by omega, or_u64 _ _ (by omega) (by omega), ← hf.pB, or_above' _ _ (by have := Nat.two_pow_pos (B - 1); omega), hf.pB]
    congr 1; omega
  have k2 : bits BinOp.and IntKind.u64 (b : Int) ((2 * H - 1 : Nat) : Int) = ((b % (2 * H) : Nat) : Int) := by
    rw [and_mod b B (2 * H - 1) hb (by omega) (by rw [hf.pB2]; omega), hf.pB2]
  have k3 : bits BinOp.xor IntKind.u64 ((b % (2 * H) : Nat) : Int) (H : Int) = (v : Int) := by
    have h1 : b % (2 * H) < 2 * H := Nat.mod_lt _ (by omega)
    have h2 := (bits_sgn hf (b % (2 * H)) h1).1
    have h3 : b % (2 * H) % H = b % H := Nat.mod_mod_of_dvd _ ⟨2, by omega⟩
    have h4 : b % (2 * H) / H % 2 = b / H % 2 := by rw [Nat.mul_comm, Nat.mod_mul_right_div_self, Nat.mod_mod]
    rw [h3, h4] at h2
    rw [xor_u64 _ _ (by omega) (by omega), ← hv]
    congr 1
    have h5 := sgn_xor hf (decide (b / H % 2 = 1)) (b % H) (Nat.mod_lt _ (by omega))
    rw [← h2] at h5
    have h6 : trnS H b = sgn H (!decide (b / H % 2 = 1)) (b % H) := rfl
    rw [h6]
    generalize sgn H (!decide (b / H % 2 = 1)) (b % H) = Y at *
    generalize b % (2 * H) = X at *
    rw [← h5, ← Nat.xor_assoc, Nat.xor_self, Nat.zero_xor]
  clear hv b1
  go_enter Tryz.func15, Tryz.ntmps15
  go_wp2_with fail
  obtain ⟨V, hV, z0, BW, sW⟩ := fframe1 w 25 (B : Int) (P : Int) (W : Int)
  rw [hV]
  clear hV sW
  refine (HN.out _).mono ?_
  rintro en w2 ⟨rfl, b2⟩
  go_wp2_with fail
  go_ret
  exact ⟨ret_int (by first | (rw [k1, k2, k3]) | exact k3), Below.step BW b2⟩
end Go.Proofs.YtpachoeignpcbaaGreatDoor
