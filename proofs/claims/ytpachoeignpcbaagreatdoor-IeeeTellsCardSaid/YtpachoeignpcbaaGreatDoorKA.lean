/-
  The walk of round's take.
  The walks of round's small functions.
  The walks of round's place, tiny, flags, away, againstHalf.
  The walks of round's away, againstHalf.
  The walk of round's rounded.
  round's rounded by exact numbers: a multiple of the place and its neighbours, with their sign.
-/
import Derived.Test.YtpachoeignpcbaaGreatDoorFval
import Derived.Test.YtpachoeignpcbaaGreatDoorRM
import Derived.Test.YtpachoeignpcbaaGreatDoorDj
import Derived.Deep.DeepCutAuto
namespace Go.Proofs.YtpachoeignpcbaaGreatDoor
open Go.RowKit
set_option linter.unusedVariables false

/-- block s is a variable of a number that may be rounded: five cells. -/
abbrev nob (neg : Bool) (A : Option Addr) (n c : Nat) (e t : Int) (z : Bool) (ty : TypeId) : Obj := .cells #[.bool neg, .slice A n c, .int .i64 e, .int .i64 t, .bool z] ty
def NB (w : World) (s : Nat) (ty : TypeId) (neg : Bool) (A : Option Addr) (n c : Nat) (e t : Int) (z : Bool) : Prop := Own w s ty [.bool neg, .slice A n c, .int .i64 e, .int .i64 t, .bool z]
section
variable {w w' : World} {s : Nat} {ty : TypeId} {neg : Bool} {A : Option Addr} {n c : Nat} {e t : Int} {z : Bool}
theorem NB.cells (h : NB w s ty neg A n c e t z) : w.cell? ⟨s, 0, none⟩ = some (.bool neg) ∧ w.cell? ⟨s, 1, none⟩ = some (.slice A n c) ∧ w.cell? ⟨s, 2, none⟩ = some (.int .i64 e) ∧ w.cell? ⟨s, 3, none⟩ = some (.int .i64 t) ∧ w.cell? ⟨s, 4, none⟩ = some (.bool z) ∧
    w.frozen? ⟨s, 0, none⟩ = false ∧ w.frozen? ⟨s, 1, none⟩ = false ∧ w.frozen? ⟨s, 2, none⟩ = false ∧ w.frozen? ⟨s, 3, none⟩ = false ∧ w.frozen? ⟨s, 4, none⟩ = false ∧ s < w.heap.size :=
  ⟨h.cell 0, h.cell 1, h.cell 2, h.cell 3, h.cell 4, h.free 0, h.free 1, h.free 2, h.free 3, h.free 4, h.lt⟩
theorem NB.on (h : NB w s ty neg A n c e t z) (hb : Below w.heap.size w w') : NB w' s ty neg A n c e t z := Own.below h hb (Own.lt h)
theorem NB.made (w : World) {s : Nat} (hs : w.heap.size = s) (ty : TypeId) (neg : Bool) (A : Option Addr) (n c : Nat) (e t : Int) (z : Bool) : NB (w.alloc (nob neg A n c e t z ty)) s ty neg A n c e t z := by
  subst hs; exact Own.made w ty [.bool neg, .slice A n c, .int .i64 e, .int .i64 t, .bool z]
theorem NB.alloc (h : NB w s ty neg A n c e t z) (o : Obj) : NB (w.alloc o) s ty neg A n c e t z := h.on ((Below.refl _ _).alloc (by simp) o)
end
/-- the variable is written. -/
abbrev put5 (w : World) (s : Nat) (a b c d e : Value) : World := ((((w.setCell ⟨s, 0, none⟩ a).setCell ⟨s, 1, none⟩ b).setCell ⟨s, 2, none⟩ c).setCell ⟨s, 3, none⟩ d).setCell ⟨s, 4, none⟩ e
theorem NB.put {w : World} {s : Nat} {ty : TypeId} {neg : Bool} {A : Option Addr} {n c : Nat} {e t : Int} {z : Bool} (h : NB w s ty neg A n c e t z) (neg' : Bool) (A' : Option Addr) (n' c' : Nat) (e' t' : Int) (z' : Bool) :
    NB (put5 w s (.bool neg') (.slice A' n' c') (.int .i64 e') (.int .i64 t') (.bool z')) s ty neg' A' n' c' e' t' z' :=
  ((((Own.put h 0 (.bool neg')).put 1 (.slice A' n' c')).put 2 (.int .i64 e')).put 3 (.int .i64 t')).put 4 (.bool z')
theorem NB.res {w : World} {s : Nat} {ty : TypeId} {neg : Bool} {A : Option Addr} {n c : Nat} {e t : Int} {z : Bool} (h : NB w s ty neg A n c e t z) {A1 : Option Addr} {m x : Nat} (hr : Res w A1 m x) (a b c' d e' : Value) : Res (put5 w s a b c' d e') A1 m x :=
  ((((hr.put (Own.cell h 0) (notU_bool _) a).put (Own.cell (Own.put h 0 a) 1) (notU_slice _ _ _) b).put (Own.cell (Own.put (Own.put h 0 a) 1 b) 2) (notU_int _) c').put (Own.cell (Own.put (Own.put (Own.put h 0 a) 1 b) 2 c') 3) (notU_int _) d).put (Own.cell (Own.put (Own.put (Own.put (Own.put h 0 a) 1 b) 2 c') 3 d) 4) (notU_bool _) e'
theorem below_put5 {B : Nat} {v w : World} (h : Below B v w) {s : Nat} (hs : B ≤ s) (a b c d e : Value) : Below B v (put5 w s a b c d e) := ((((h.setCell (p := ⟨s, 0, none⟩) hs a).setCell (p := ⟨s, 1, none⟩) hs b).setCell (p := ⟨s, 2, none⟩) hs c).setCell (p := ⟨s, 3, none⟩) hs d).setCell (p := ⟨s, 4, none⟩) hs e
theorem kframe (w : World) (t1 t2 : TypeId) (n : Bool) (A : Option Addr) (l k : Nat) (e : Int) : ∃ W, (w.alloc (dob n A l k e t1)).alloc (nob false none 0 0 0 0 false t2) = W ∧ DB W w.heap.size t1 n A l k e ∧ NB W (w.heap.size + 1) t2 false none 0 0 0 0 false ∧ Below w.heap.size w W ∧ W.heap.size = w.heap.size + 2 :=
  ⟨_, rfl, (DB.made w rfl t1 n A l k e).alloc _, NB.made _ (by simp) t2 false none 0 0 0 0 false, ((Below.refl _ _).alloc (by simp <;> omega) _).alloc (by simp <;> omega) _, by simp⟩
/-- what take tells. -/
def TkX (w : World) (dn : Bool) (dx : Nat) (de t : Int) (z : Bool) (err : Int) (en : Ending) (w' : World) : Prop :=
  ∃ A k, en = .returned (.tuple #[.agg #[.bool dn, .slice A k k, .int .i64 de, .int .i64 t, .bool z], .int .i64 err]) ∧ Res w' A k dx ∧ Below w.heap.size w w'
set_option maxHeartbeats 1000000 in
theorem take_range {A : Option Addr} {n c x : Nat} {neg : Bool} {e : Int} {w : World} (h : Arg w A n c x) (hs : n ≤ 30000) (hT : Tab w) (hd : plainS ⟨neg, x, e⟩ = (⟨false, 0, 0⟩, 3)) :
    Calls Tryz.prog 91 #[.agg #[.bool neg, .slice A n c, .int .i64 e]] w (TkX w false 0 0 0 false 3) := by
  have HD := Lib.hid hd
  clear hd
  go_enter Tryz.func91, Tryz.ntmps91
  go_wp2_with fail
  obtain ⟨V, hV, z0, z1, BW, sW⟩ := kframe w 48 121 neg A n c e
  rw [hV]
  clear hV sW
  replace hT := hT.on BW
  replace h := h.on BW
  refine (dplain_as h hs hT HD.out).mono ?_
  rintro en w1 ⟨V_rd, v_rd, rfl, rd, b⟩
  replace z0 := z0.on b
  replace z1 := z1.on b
  replace hT := hT.on b
  replace h := h.on b
  replace BW := Below.step BW b
  clear b
  obtain ⟨z0c0, z0c1, z0c2, z0f0, z0f1, z0f2, z0l⟩ := z0.cells
  obtain ⟨z1c0, z1c1, z1c2, z1c3, z1c4, z1f0, z1f1, z1f2, z1f3, z1f4, z1l⟩ := z1.cells
  go_upto_region 2 with fail
  clear z0c0 z0c1 z0c2 z0f0 z0f1 z0f2 z0l z1c0 z1c1 z1c2 z1c3 z1c4 z1f0 z1f1 z1f2 z1f3 z1f4 z1l
  obtain ⟨w2, e_w2⟩ : ∃ w', w1.alloc (dob false V_rd v_rd v_rd 0 48) = w' := ⟨_, rfl⟩
  have b : Below w1.heap.size w1 w2 := e_w2 ▸ below_lit _ _
  have hs_w2 : w2.heap.size = w1.heap.size + 1 := e_w2 ▸ size_lit w1 _ rfl
  have zp : DB w2 w1.heap.size 48 false V_rd v_rd v_rd 0 := e_w2 ▸ DB.made w1 rfl 48 false V_rd v_rd v_rd 0
  rw [e_w2]
  clear e_w2
  replace z0 := z0.on b
  replace z1 := z1.on b
  replace hT := hT.on b
  replace h := h.on b
  replace rd := rd.on b
  replace BW := Below.step BW b
  clear b
  clear hs_w2
  obtain ⟨z0c0, z0c1, z0c2, z0f0, z0f1, z0f2, z0l⟩ := z0.cells
  obtain ⟨z1c0, z1c1, z1c2, z1c3, z1c4, z1f0, z1f1, z1f2, z1f3, z1f4, z1l⟩ := z1.cells
  go_wp2_with fail
  have y1 := z1.put false none 0 0 0 0 false
  obtain ⟨p0, p1, p2, p3, p4, _⟩ := y1.cells
  refine bodyPost_ret (v := .tuple #[.agg #[.bool false, .slice none 0 0, .int .i64 0, .int .i64 0, .bool false], .int .i64 3]) (by simp [results, Tryz.results91, go_sem, p0, p1, p2, p3, p4]) rfl ?_
  exact ⟨_, _, rfl, Res.none_ _, below_put5 BW (by omega) _ _ _ _ _⟩
set_option maxHeartbeats 1000000 in
theorem take_zero {A : Option Addr} {n c x : Nat} {neg : Bool} {e : Int} {w : World} (h : Arg w A n c x) (hs : n ≤ 30000) (hT : Tab w) {dn : Bool} {dx : Nat} {de t : Int} (hd : plainS ⟨neg, x, e⟩ = (⟨dn, dx, de⟩, 0)) (hk : blen dx ≤ 4096) (hp : topS ⟨dn, dx, de⟩ = (0, 1)) :
    Calls Tryz.prog 91 #[.agg #[.bool neg, .slice A n c, .int .i64 e]] w (TkX w false 0 0 0 true 0) := by
  have HD := Lib.hid hd
  have HP := Lib.hid hp
  have ld := hk
  clear hd hp hk
  go_enter Tryz.func91, Tryz.ntmps91
  go_wp2_with fail
  obtain ⟨V, hV, z0, z1, BW, sW⟩ := kframe w 48 121 neg A n c e
  rw [hV]
  clear hV sW
  replace hT := hT.on BW
  replace h := h.on BW
  refine (dplain_as h hs hT HD.out).mono ?_
  rintro en w1 ⟨V_rd, v_rd, rfl, rd, b⟩
  replace z0 := z0.on b
  replace z1 := z1.on b
  replace hT := hT.on b
  replace h := h.on b
  replace BW := Below.step BW b
  clear b
  obtain ⟨z0c0, z0c1, z0c2, z0f0, z0f1, z0f2, z0l⟩ := z0.cells
  obtain ⟨z1c0, z1c1, z1c2, z1c3, z1c4, z1f0, z1f1, z1f2, z1f3, z1f4, z1l⟩ := z1.cells
  go_upto_region 2 with fail
  clear z0c0 z0c1 z0c2 z0f0 z0f1 z0f2 z0l z1c0 z1c1 z1c2 z1c3 z1c4 z1f0 z1f1 z1f2 z1f3 z1f4 z1l
  obtain ⟨w2, e_w2⟩ : ∃ w', w1.alloc (dob dn V_rd v_rd v_rd de 48) = w' := ⟨_, rfl⟩
  have b : Below w1.heap.size w1 w2 := e_w2 ▸ below_lit _ _
  have hs_w2 : w2.heap.size = w1.heap.size + 1 := e_w2 ▸ size_lit w1 _ rfl
  have zp : DB w2 w1.heap.size 48 dn V_rd v_rd v_rd de := e_w2 ▸ DB.made w1 rfl 48 dn V_rd v_rd v_rd de
  rw [e_w2]
  clear e_w2
  replace z0 := z0.on b
  replace z1 := z1.on b
  replace hT := hT.on b
  replace h := h.on b
  replace rd := rd.on b
  replace BW := Below.step BW b
  clear b
  clear hs_w2
  have lk := res_n_le rd (k := 128) (by omega)
  obtain ⟨z0c0, z0c1, z0c2, z0f0, z0f1, z0f2, z0l⟩ := z0.cells
  obtain ⟨z1c0, z1c1, z1c2, z1c3, z1c4, z1f0, z1f1, z1f2, z1f3, z1f4, z1l⟩ := z1.cells
  obtain ⟨zpc0, zpc1, zpc2, zpf0, zpf1, zpf2, zpl⟩ := zp.cells
  go_wp2_with fail
  refine (dtop_as (rd.arg (by omega)) (by omega) hT HP.out).mono ?_
  rintro en w3 ⟨rfl, b⟩
  clear z0c0 z0c1 z0c2 z0f0 z0f1 z0f2 z0l z1c0 z1c1 z1c2 z1c3 z1c4 z1f0 z1f1 z1f2 z1f3 z1f4 z1l zpc0 zpc1 zpc2 zpf0 zpf1 zpf2 zpl
  replace z0 := z0.on b
  replace z1 := z1.on b
  replace hT := hT.on b
  replace h := h.on b
  replace rd := rd.on b
  replace zp := zp.on b
  replace BW := Below.step BW b
  clear b
  obtain ⟨z0c0, z0c1, z0c2, z0f0, z0f1, z0f2, z0l⟩ := z0.cells
  obtain ⟨z1c0, z1c1, z1c2, z1c3, z1c4, z1f0, z1f1, z1f2, z1f3, z1f4, z1l⟩ := z1.cells
  obtain ⟨zpc0, zpc1, zpc2, zpf0, zpf1, zpf2, zpl⟩ := zp.cells
  go_wp2_with fail
  have y1 := z1.put false none 0 0 0 0 true
  obtain ⟨p0, p1, p2, p3, p4, _⟩ := y1.cells
  refine bodyPost_ret (v := .tuple #[.agg #[.bool false, .slice none 0 0, .int .i64 0, .int .i64 0, .bool true], .int .i64 0]) (by simp [results, Tryz.results91, go_sem, p0, p1, p2, p3, p4]) rfl ?_
  exact ⟨_, _, rfl, Res.none_ _, below_put5 BW (by omega) _ _ _ _ _⟩
set_option maxHeartbeats 1000000 in
theorem take_bad {A : Option Addr} {n c x : Nat} {neg : Bool} {e : Int} {w : World} (h : Arg w A n c x) (hs : n ≤ 30000) (hT : Tab w) {dn : Bool} {dx : Nat} {de t : Int} (hd : plainS ⟨neg, x, e⟩ = (⟨dn, dx, de⟩, 0)) (hk : blen dx ≤ 4096) (hp : topS ⟨dn, dx, de⟩ = (0, 3)) :
    Calls Tryz.prog 91 #[.agg #[.bool neg, .slice A n c, .int .i64 e]] w (TkX w false 0 0 0 false 3) := by
  have HD := Lib.hid hd
  have HP := Lib.hid hp
  have ld := hk
  clear hd hp hk
  go_enter Tryz.func91, Tryz.ntmps91
  go_wp2_with fail
  obtain ⟨V, hV, z0, z1, BW, sW⟩ := kframe w 48 121 neg A n c e
  rw [hV]
  clear hV sW
  replace hT := hT.on BW
  replace h := h.on BW
  refine (dplain_as h hs hT HD.out).mono ?_
  rintro en w1 ⟨V_rd, v_rd, rfl, rd, b⟩
  replace z0 := z0.on b
  replace z1 := z1.on b
  replace hT := hT.on b
  replace h := h.on b
  replace BW := Below.step BW b
  clear b
  obtain ⟨z0c0, z0c1, z0c2, z0f0, z0f1, z0f2, z0l⟩ := z0.cells
  obtain ⟨z1c0, z1c1, z1c2, z1c3, z1c4, z1f0, z1f1, z1f2, z1f3, z1f4, z1l⟩ := z1.cells
  go_upto_region 2 with fail
  clear z0c0 z0c1 z0c2 z0f0 z0f1 z0f2 z0l z1c0 z1c1 z1c2 z1c3 z1c4 z1f0 z1f1 z1f2 z1f3 z1f4 z1l
  obtain ⟨w2, e_w2⟩ : ∃ w', w1.alloc (dob dn V_rd v_rd v_rd de 48) = w' := ⟨_, rfl⟩
  have b : Below w1.heap.size w1 w2 := e_w2 ▸ below_lit _ _
  have hs_w2 : w2.heap.size = w1.heap.size + 1 := e_w2 ▸ size_lit w1 _ rfl
  have zp : DB w2 w1.heap.size 48 dn V_rd v_rd v_rd de := e_w2 ▸ DB.made w1 rfl 48 dn V_rd v_rd v_rd de
  rw [e_w2]
  clear e_w2
  replace z0 := z0.on b
  replace z1 := z1.on b
  replace hT := hT.on b
  replace h := h.on b
  replace rd := rd.on b
  replace BW := Below.step BW b
  clear b
  clear hs_w2
  have lk := res_n_le rd (k := 128) (by omega)
  obtain ⟨z0c0, z0c1, z0c2, z0f0, z0f1, z0f2, z0l⟩ := z0.cells
  obtain ⟨z1c0, z1c1, z1c2, z1c3, z1c4, z1f0, z1f1, z1f2, z1f3, z1f4, z1l⟩ := z1.cells
  obtain ⟨zpc0, zpc1, zpc2, zpf0, zpf1, zpf2, zpl⟩ := zp.cells
  go_wp2_with fail
  refine (dtop_as (rd.arg (by omega)) (by omega) hT HP.out).mono ?_
  rintro en w3 ⟨rfl, b⟩
  clear z0c0 z0c1 z0c2 z0f0 z0f1 z0f2 z0l z1c0 z1c1 z1c2 z1c3 z1c4 z1f0 z1f1 z1f2 z1f3 z1f4 z1l zpc0 zpc1 zpc2 zpf0 zpf1 zpf2 zpl
  replace z0 := z0.on b
  replace z1 := z1.on b
  replace hT := hT.on b
  replace h := h.on b
  replace rd := rd.on b
  replace zp := zp.on b
  replace BW := Below.step BW b
  clear b
  obtain ⟨z0c0, z0c1, z0c2, z0f0, z0f1, z0f2, z0l⟩ := z0.cells
  obtain ⟨z1c0, z1c1, z1c2, z1c3, z1c4, z1f0, z1f1, z1f2, z1f3, z1f4, z1l⟩ := z1.cells
  obtain ⟨zpc0, zpc1, zpc2, zpf0, zpf1, zpf2, zpl⟩ := zp.cells
  go_wp2_with fail
  have y1 := z1.put false none 0 0 0 0 false
  obtain ⟨p0, p1, p2, p3, p4, _⟩ := y1.cells
  refine bodyPost_ret (v := .tuple #[.agg #[.bool false, .slice none 0 0, .int .i64 0, .int .i64 0, .bool false], .int .i64 3]) (by simp [results, Tryz.results91, go_sem, p0, p1, p2, p3, p4]) rfl ?_
  exact ⟨_, _, rfl, Res.none_ _, below_put5 BW (by omega) _ _ _ _ _⟩
set_option maxHeartbeats 1000000 in
theorem take_high {A : Option Addr} {n c x : Nat} {neg : Bool} {e : Int} {w : World} (h : Arg w A n c x) (hs : n ≤ 30000) (hT : Tab w) {dn : Bool} {dx : Nat} {de t : Int} (hd : plainS ⟨neg, x, e⟩ = (⟨dn, dx, de⟩, 0)) (hk : blen dx ≤ 4096) (hp : topS ⟨dn, dx, de⟩ = (t, 0)) (d1 : decide (8000 < t) = true) :
    Calls Tryz.prog 91 #[.agg #[.bool neg, .slice A n c, .int .i64 e]] w (TkX w false 0 0 0 false 3) := by
  have HD := Lib.hid hd
  have HP := Lib.hid hp
  have ld := hk
  clear hd hp hk
  go_enter Tryz.func91, Tryz.ntmps91
  go_wp2_with fail
  obtain ⟨V, hV, z0, z1, BW, sW⟩ := kframe w 48 121 neg A n c e
  rw [hV]
  clear hV sW
  replace hT := hT.on BW
  replace h := h.on BW
  refine (dplain_as h hs hT HD.out).mono ?_
  rintro en w1 ⟨V_rd, v_rd, rfl, rd, b⟩
  replace z0 := z0.on b
  replace z1 := z1.on b
  replace hT := hT.on b
  replace h := h.on b
  replace BW := Below.step BW b
  clear b
  obtain ⟨z0c0, z0c1, z0c2, z0f0, z0f1, z0f2, z0l⟩ := z0.cells
  obtain ⟨z1c0, z1c1, z1c2, z1c3, z1c4, z1f0, z1f1, z1f2, z1f3, z1f4, z1l⟩ := z1.cells
  go_upto_region 2 with fail
  clear z0c0 z0c1 z0c2 z0f0 z0f1 z0f2 z0l z1c0 z1c1 z1c2 z1c3 z1c4 z1f0 z1f1 z1f2 z1f3 z1f4 z1l
  obtain ⟨w2, e_w2⟩ : ∃ w', w1.alloc (dob dn V_rd v_rd v_rd de 48) = w' := ⟨_, rfl⟩
  have b : Below w1.heap.size w1 w2 := e_w2 ▸ below_lit _ _
  have hs_w2 : w2.heap.size = w1.heap.size + 1 := e_w2 ▸ size_lit w1 _ rfl
  have zp : DB w2 w1.heap.size 48 dn V_rd v_rd v_rd de := e_w2 ▸ DB.made w1 rfl 48 dn V_rd v_rd v_rd de
  rw [e_w2]
  clear e_w2
  replace z0 := z0.on b
  replace z1 := z1.on b
  replace hT := hT.on b
  replace h := h.on b
  replace rd := rd.on b
  replace BW := Below.step BW b
  clear b
  clear hs_w2
  have lk := res_n_le rd (k := 128) (by omega)
  obtain ⟨z0c0, z0c1, z0c2, z0f0, z0f1, z0f2, z0l⟩ := z0.cells
  obtain ⟨z1c0, z1c1, z1c2, z1c3, z1c4, z1f0, z1f1, z1f2, z1f3, z1f4, z1l⟩ := z1.cells
  obtain ⟨zpc0, zpc1, zpc2, zpf0, zpf1, zpf2, zpl⟩ := zp.cells
  go_wp2_with fail
  refine (dtop_as (rd.arg (by omega)) (by omega) hT HP.out).mono ?_
  rintro en w3 ⟨rfl, b⟩
  clear z0c0 z0c1 z0c2 z0f0 z0f1 z0f2 z0l z1c0 z1c1 z1c2 z1c3 z1c4 z1f0 z1f1 z1f2 z1f3 z1f4 z1l zpc0 zpc1 zpc2 zpf0 zpf1 zpf2 zpl
  replace z0 := z0.on b
  replace z1 := z1.on b
  replace hT := hT.on b
  replace h := h.on b
  replace rd := rd.on b
  replace zp := zp.on b
  replace BW := Below.step BW b
  clear b
  obtain ⟨z0c0, z0c1, z0c2, z0f0, z0f1, z0f2, z0l⟩ := z0.cells
  obtain ⟨z1c0, z1c1, z1c2, z1c3, z1c4, z1f0, z1f1, z1f2, z1f3, z1f4, z1l⟩ := z1.cells
  obtain ⟨zpc0, zpc1, zpc2, zpf0, zpf1, zpf2, zpl⟩ := zp.cells
  go_wp2_with fail
  have y1 := z1.put false none 0 0 0 0 false
  obtain ⟨p0, p1, p2, p3, p4, _⟩ := y1.cells
  refine bodyPost_ret (v := .tuple #[.agg #[.bool false, .slice none 0 0, .int .i64 0, .int .i64 0, .bool false], .int .i64 3]) (by simp [results, Tryz.results91, go_sem, p0, p1, p2, p3, p4]) rfl ?_
  exact ⟨_, _, rfl, Res.none_ _, below_put5 BW (by omega) _ _ _ _ _⟩
set_option maxHeartbeats 1000000 in
theorem take_ok {A : Option Addr} {n c x : Nat} {neg : Bool} {e : Int} {w : World} (h : Arg w A n c x) (hs : n ≤ 30000) (hT : Tab w) {dn : Bool} {dx : Nat} {de t : Int} (hd : plainS ⟨neg, x, e⟩ = (⟨dn, dx, de⟩, 0)) (hk : blen dx ≤ 4096) (hp : topS ⟨dn, dx, de⟩ = (t, 0)) (d1 : decide (8000 < t) = false) :
    Calls Tryz.prog 91 #[.agg #[.bool neg, .slice A n c, .int .i64 e]] w (TkX w dn dx de t false 0) := by
  have HD := Lib.hid hd
  have HP := Lib.hid hp
  have ld := hk
  clear hd hp hk
  go_enter Tryz.func91, Tryz.ntmps91
  go_wp2_with fail
  obtain ⟨V, hV, z0, z1, BW, sW⟩ := kframe w 48 121 neg A n c e
  rw [hV]
  clear hV sW
  replace hT := hT.on BW
  replace h := h.on BW
  refine (dplain_as h hs hT HD.out).mono ?_
  rintro en w1 ⟨V_rd, v_rd, rfl, rd, b⟩
  replace z0 := z0.on b
  replace z1 := z1.on b
  replace hT := hT.on b
  replace h := h.on b
  replace BW := Below.step BW b
  clear b
  obtain ⟨z0c0, z0c1, z0c2, z0f0, z0f1, z0f2, z0l⟩ := z0.cells
  obtain ⟨z1c0, z1c1, z1c2, z1c3, z1c4, z1f0, z1f1, z1f2, z1f3, z1f4, z1l⟩ := z1.cells
  go_upto_region 2 with fail
  clear z0c0 z0c1 z0c2 z0f0 z0f1 z0f2 z0l z1c0 z1c1 z1c2 z1c3 z1c4 z1f0 z1f1 z1f2 z1f3 z1f4 z1l
  obtain ⟨w2, e_w2⟩ : ∃ w', w1.alloc (dob dn V_rd v_rd v_rd de 48) = w' := ⟨_, rfl⟩
  have b : Below w1.heap.size w1 w2 := e_w2 ▸ below_lit _ _
  have hs_w2 : w2.heap.size = w1.heap.size + 1 := e_w2 ▸ size_lit w1 _ rfl
  have zp : DB w2 w1.heap.size 48 dn V_rd v_rd v_rd de := e_w2 ▸ DB.made w1 rfl 48 dn V_rd v_rd v_rd de
  rw [e_w2]
  clear e_w2
  replace z0 := z0.on b
  replace z1 := z1.on b
  replace hT := hT.on b
  replace h := h.on b
  replace rd := rd.on b
  replace BW := Below.step BW b
  clear b
  clear hs_w2
  have lk := res_n_le rd (k := 128) (by omega)
  obtain ⟨z0c0, z0c1, z0c2, z0f0, z0f1, z0f2, z0l⟩ := z0.cells
  obtain ⟨z1c0, z1c1, z1c2, z1c3, z1c4, z1f0, z1f1, z1f2, z1f3, z1f4, z1l⟩ := z1.cells
  obtain ⟨zpc0, zpc1, zpc2, zpf0, zpf1, zpf2, zpl⟩ := zp.cells
  go_wp2_with fail
  refine (dtop_as (rd.arg (by omega)) (by omega) hT HP.out).mono ?_
  rintro en w3 ⟨rfl, b⟩
  clear z0c0 z0c1 z0c2 z0f0 z0f1 z0f2 z0l z1c0 z1c1 z1c2 z1c3 z1c4 z1f0 z1f1 z1f2 z1f3 z1f4 z1l zpc0 zpc1 zpc2 zpf0 zpf1 zpf2 zpl
  replace z0 := z0.on b
  replace z1 := z1.on b
  replace hT := hT.on b
  replace h := h.on b
  replace rd := rd.on b
  replace zp := zp.on b
  replace BW := Below.step BW b
  clear b
  obtain ⟨z0c0, z0c1, z0c2, z0f0, z0f1, z0f2, z0l⟩ := z0.cells
  obtain ⟨z1c0, z1c1, z1c2, z1c3, z1c4, z1f0, z1f1, z1f2, z1f3, z1f4, z1l⟩ := z1.cells
  obtain ⟨zpc0, zpc1, zpc2, zpf0, zpf1, zpf2, zpl⟩ := zp.cells
  go_wp2_with fail
  have y1 := z1.put dn V_rd v_rd v_rd de t false
  obtain ⟨p0, p1, p2, p3, p4, _⟩ := y1.cells
  refine bodyPost_ret (v := .tuple #[.agg #[.bool dn, .slice V_rd v_rd v_rd, .int .i64 de, .int .i64 t, .bool false], .int .i64 0]) (by simp [results, Tryz.results91, go_sem, p0, p1, p2, p3, p4]) rfl ?_
  exact ⟨_, _, rfl, z1.res rd _ _ _ _ _, below_put5 BW (by omega) _ _ _ _ _⟩
theorem top_of {a : D} (hm : a.may = true) (h0 : a.x ≠ 0) {dn : Bool} {dx : Nat} {de : Int} (hd : a.pl = ⟨dn, dx, de⟩) : dx ≠ 0 ∧ (blen dx : Int) - 1 + de = (blen a.x : Int) - 1 + a.e ∧ blen dx ≤ 4096 ∧ plainS a = (⟨dn, dx, de⟩, 0) := by
  have hpp := D.pl_pos h0
  have hbt := blen_div_tz h0
  have htz := (tz_blen h0).2.2
  have hb := (pl_bounds hm).1
  rw [hd] at hpp hb
  simp only [D.mk.injEq] at hpp hb
  obtain ⟨_, h2, h3⟩ := hpp
  rw [← h2] at hbt htz
  refine ⟨fun h => by rw [h] at htz; simp at htz, by omega, hb, ?_⟩
  unfold plainS
  rw [hm, if_pos rfl, hd]
/-- TAKE: a number that may not be rounded. -/
theorem take_none {A : Option Addr} {n c x : Nat} {neg : Bool} {e : Int} {w : World} (h : Arg w A n c x) (hs : n ≤ 30000) (hT : Tab w) (hm : mayR ⟨neg, x, e⟩ = false) :
    Calls Tryz.prog 91 #[.agg #[.bool neg, .slice A n c, .int .i64 e]] w (TkX w false 0 0 0 false 3) := by
  unfold mayR at hm
  by_cases h1 : D.may ⟨neg, x, e⟩ = true
  · rw [h1, Bool.true_and, Bool.or_eq_false_iff] at hm
    obtain ⟨h2, h3⟩ := hm
    have h0 : x ≠ 0 := by simpa using h2
    obtain ⟨dn, dx, de, hd⟩ : ∃ dn dx de, D.pl ⟨neg, x, e⟩ = ⟨dn, dx, de⟩ := ⟨_, _, _, rfl⟩
    obtain ⟨k1, k2, k3, k4⟩ := top_of h1 h0 hd
    rw [hd] at h3
    by_cases h4 : D.may ⟨dn, dx, de⟩ = true
    · rw [h4, Bool.true_and, decide_eq_false_iff_not] at h3
      exact take_high h hs hT k4 k3 (t := (blen dx : Int) - 1 + de) (by unfold topS; rw [h4, if_pos rfl, if_neg k1]) (decide_eq_true (by simp only at h3 k2; omega))
    · exact take_bad h hs hT k4 k3 (t := 0) (by unfold topS; rw [if_neg h4])
  · exact take_range h hs hT (by unfold plainS; rw [if_neg h1])
/-- 0. -/
theorem take_nought {A : Option Addr} {n c x : Nat} {neg : Bool} {e : Int} {w : World} (h : Arg w A n c x) (hs : n ≤ 30000) (hT : Tab w) (hm : mayR ⟨neg, x, e⟩ = true) (h0 : x = 0) :
    Calls Tryz.prog 91 #[.agg #[.bool neg, .slice A n c, .int .i64 e]] w (TkX w false 0 0 0 true 0) := by
  unfold mayR at hm
  rw [Bool.and_eq_true] at hm
  have hd : D.pl ⟨neg, x, e⟩ = ⟨false, 0, 0⟩ := D.pl_zero h0
  exact take_zero (dn := false) (dx := 0) (de := 0) (t := 0) h hs hT (by unfold plainS; rw [hm.1, if_pos rfl, hd]) (by rw [blen_zero]; omega) (by unfold topS; rw [may_small (by decide) (by decide) (by decide), if_pos rfl, if_pos rfl])
/-- one that isn't 0. -/
theorem take_num {A : Option Addr} {n c x : Nat} {neg : Bool} {e : Int} {w : World} (h : Arg w A n c x) (hs : n ≤ 30000) (hT : Tab w) (hm : mayR ⟨neg, x, e⟩ = true) (h0 : x ≠ 0) {dn : Bool} {dx : Nat} {de t : Int} (hd : D.pl ⟨neg, x, e⟩ = ⟨dn, dx, de⟩) (ht : (blen x : Int) - 1 + e = t) :
    Calls Tryz.prog 91 #[.agg #[.bool neg, .slice A n c, .int .i64 e]] w (TkX w dn dx de t false 0) := by
  obtain ⟨k1, k2, k3, k4⟩ := mayR_bd hm h0
  obtain ⟨j1, j2, j3, j4⟩ := top_of k1 h0 hd
  rw [hd] at k2
  simp only at k3 j2
  exact take_ok h hs hT j4 j3 (t := t) (by unfold topS; rw [k2, if_pos rfl, if_neg j1]; simp only [Prod.mk.injEq, and_true]; omega) (decide_eq_false (by omega))
end Go.Proofs.YtpachoeignpcbaaGreatDoor

namespace Go.Proofs.YtpachoeignpcbaaGreatDoor
open Go.RowKit
set_option linter.unusedVariables false

theorem mode_yes (mode : Int) (w : World) (h1 : decide ((0 : Int) ≤ mode) = true) (h2 : decide (mode < 5) = true) :
    Calls Tryz.prog 90 #[.int .i64 mode] w fun e w' => e = .returned (.bool true) ∧ w = w' := by
  go_enter Tryz.func90, Tryz.ntmps90
  go_wp2_with fail
  go_ret
  exact ⟨rfl, rfl⟩
theorem mode_low (mode : Int) (w : World) (h1 : decide ((0 : Int) ≤ mode) = false) :
    Calls Tryz.prog 90 #[.int .i64 mode] w fun e w' => e = .returned (.bool false) ∧ w = w' := by
  go_enter Tryz.func90, Tryz.ntmps90
  go_wp2_with fail
  go_ret
  exact ⟨rfl, rfl⟩
theorem mode_high (mode : Int) (w : World) (h1 : decide ((0 : Int) ≤ mode) = true) (h2 : decide (mode < 5) = false) :
    Calls Tryz.prog 90 #[.int .i64 mode] w fun e w' => e = .returned (.bool false) ∧ w = w' := by
  go_enter Tryz.func90, Tryz.ntmps90
  go_wp2_with fail
  go_ret
  exact ⟨rfl, rfl⟩
theorem isMode_as (mode : Int) (b : Bool) (hb : (decide (0 ≤ mode) && decide (mode ≤ 4)) = b) (w : World) :
    Calls Tryz.prog 90 #[.int .i64 mode] w fun e w' => e = .returned (.bool b) ∧ w = w' := by
  by_cases h1 : 0 ≤ mode
  · by_cases h2 : mode ≤ 4
    · rw [decide_eq_true h1, decide_eq_true h2] at hb
      subst hb
      exact mode_yes mode w (decide_eq_true h1) (decide_eq_true (by omega))
    · rw [decide_eq_true h1, decide_eq_false h2] at hb
      subst hb
      exact mode_high mode w (decide_eq_true h1) (decide_eq_false (by omega))
  · rw [decide_eq_false h1] at hb
    subst hb
    exact mode_low mode w (decide_eq_false h1)
theorem ga_tie {neg odd : Bool} {half : Int} (h0 : (half == 0) = true) (ho : odd = false) (w : World) :
    Calls Tryz.prog 120 #[.int .i64 0, .bool neg, .int .i64 half, .bool odd] w fun e w' => e = .returned (.bool false) ∧ w = w' := by
  subst ho
  go_enter Tryz.func120, Tryz.ntmps120
  go_wp2_with fail
  go_ret
  exact ⟨rfl, rfl⟩
theorem ga_odd {neg odd : Bool} {half : Int} (h0 : (half == 0) = true) (ho : odd = true) (b : Bool) (h1 : decide ((0 : Int) ≤ half) = b) (w : World) :
    Calls Tryz.prog 120 #[.int .i64 0, .bool neg, .int .i64 half, .bool odd] w fun e w' => e = .returned (.bool b) ∧ w = w' := by
  subst ho
  go_enter Tryz.func120, Tryz.ntmps120
  go_wp2_with fail
  go_ret
  exact ⟨rfl, rfl⟩
theorem ga_near {neg odd : Bool} {half : Int} (h0 : (half == 0) = false) (b : Bool) (h1 : decide ((0 : Int) ≤ half) = b) (w : World) :
    Calls Tryz.prog 120 #[.int .i64 0, .bool neg, .int .i64 half, .bool odd] w fun e w' => e = .returned (.bool b) ∧ w = w' := by
  go_enter Tryz.func120, Tryz.ntmps120
  go_wp2_with fail
  go_ret
  exact ⟨rfl, rfl⟩
theorem ga_away {neg odd : Bool} {half : Int} (b : Bool) (h1 : decide ((0 : Int) ≤ half) = b) (w : World) :
    Calls Tryz.prog 120 #[.int .i64 4, .bool neg, .int .i64 half, .bool odd] w fun e w' => e = .returned (.bool b) ∧ w = w' := by
  go_enter Tryz.func120, Tryz.ntmps120
  go_wp2_with fail
  go_ret
  exact ⟨rfl, rfl⟩
theorem ga_up {neg odd : Bool} {half : Int} (w : World) :
    Calls Tryz.prog 120 #[.int .i64 3, .bool neg, .int .i64 half, .bool odd] w fun e w' => e = .returned (.bool (!neg)) ∧ w = w' := by
  go_enter Tryz.func120, Tryz.ntmps120
  go_wp2_with fail
  go_ret
  exact ⟨rfl, rfl⟩
theorem ga_down {neg odd : Bool} {half : Int} (w : World) :
    Calls Tryz.prog 120 #[.int .i64 2, .bool neg, .int .i64 half, .bool odd] w fun e w' => e = .returned (.bool neg) ∧ w = w' := by
  go_enter Tryz.func120, Tryz.ntmps120
  go_wp2_with fail
  go_ret
  exact ⟨rfl, rfl⟩
theorem ga_other {neg odd : Bool} {half mode : Int} (m0 : (mode == 0) = false) (m4 : (mode == 4) = false) (m3 : (mode == 3) = false) (m2 : (mode == 2) = false) (w : World) :
    Calls Tryz.prog 120 #[.int .i64 mode, .bool neg, .int .i64 half, .bool odd] w fun e w' => e = .returned (.bool false) ∧ w = w' := by
  go_enter Tryz.func120, Tryz.ntmps120
  go_wp2_with fail
  go_ret
  exact ⟨rfl, rfl⟩
theorem goesAway_as (mode : Int) (neg : Bool) (half : Int) (odd : Bool) (hh : half = -1 ∨ half = 0 ∨ half = 1) (b : Bool) (hb : upR mode neg half (!odd) = b) (w : World) :
    Calls Tryz.prog 120 #[.int .i64 mode, .bool neg, .int .i64 half, .bool odd] w fun e w' => e = .returned (.bool b) ∧ w = w' := by
  unfold upR at hb
  by_cases m0 : mode = 0
  · subst m0
    rw [if_pos rfl] at hb
    by_cases h0 : half = 0
    · cases odd
      · rw [h0] at hb
        obtain rfl : b = false := by rw [← hb]; rfl
        exact ga_tie (by simpa using h0) rfl w
      · exact ga_odd (by simpa using h0) rfl b (by rw [h0] at hb ⊢; rw [← hb]; rfl) w
    · exact ga_near (by simpa using h0) b (by rw [decide_eq_false h0, Bool.false_and, Bool.or_false] at hb; rw [← hb]; exact decide_eq_decide.2 (by omega)) w
  · rw [if_neg m0] at hb
    by_cases m2 : mode = 2
    · subst m2
      rw [if_pos rfl] at hb
      subst hb
      exact ga_down w
    · rw [if_neg m2] at hb
      by_cases m3 : mode = 3
      · subst m3
        rw [if_pos rfl] at hb
        subst hb
        exact ga_up w
      · rw [if_neg m3] at hb
        by_cases m4 : mode = 4
        · subst m4
          rw [if_pos rfl] at hb
          exact ga_away b hb w
        · rw [if_neg m4] at hb
          subst hb
          exact ga_other (by simpa using m0) (by simpa using m4) (by simpa using m3) (by simpa using m2) w
theorem bey_inf {B P W : Nat} {mode : Int} {neg : Bool} {v : Nat} {w : World}
    (HI : Hid (∀ V, Calls Tryz.prog 90 #[.int .i64 mode] V fun e w' => e = .returned (.bool true) ∧ V = w'))
    (HG : Hid (∀ V, Calls Tryz.prog 120 #[.int .i64 mode, .bool neg, .int .i64 1, .bool false] V fun e w' => e = .returned (.bool true) ∧ V = w'))
    (HV : Hid (∀ V, Calls Tryz.prog 53 #[.agg #[.int .i64 (B : Int), .int .i64 (P : Int), .int .i64 (W : Int)], .bool neg] V fun e w' => e = .returned (.int .u64 (v : Int)) ∧ Below V.heap.size V w')) :
    Calls Tryz.prog 95 #[.agg #[.int .i64 (B : Int), .int .i64 (P : Int), .int .i64 (W : Int)], .int .i64 mode, .bool neg] w fun en w' => en = .returned (.int .u64 (v : Int)) ∧ Below w.heap.size w w' := by
  go_enter Tryz.func95, Tryz.ntmps95
  go_wp2_with fail
  obtain ⟨V, hV, z0, BW, sW⟩ := fframe1 w 25 (B : Int) (P : Int) (W : Int)
  rw [hV]
  clear hV sW
  refine (HI.out _).mono ?_
  rintro en w' ⟨rfl, rfl⟩
  obtain ⟨z0c0, z0c1, z0c2, z0f0, z0f1, z0f2, z0l⟩ := z0.cells
  go_wp2_with fail
  refine (HG.out _).mono ?_
  rintro en w' ⟨rfl, rfl⟩
  go_wp2_with fail
  refine (HV.out _).mono ?_
  rintro en w1 ⟨rfl, b⟩
  clear z0c0 z0c1 z0c2 z0f0 z0f1 z0f2 z0l
  replace z0 := z0.on b
  replace BW := Below.step BW b
  clear b
  go_wp2_with fail
  refine bodyPost_ret (v := .int .u64 (v : Int)) (by simp [results, Tryz.results95, go_sem]) rfl ?_
  exact ⟨rfl, BW⟩
theorem bey_gr {B P W : Nat} {mode : Int} {neg : Bool} {v : Nat} {w : World}
    (HI : Hid (∀ V, Calls Tryz.prog 90 #[.int .i64 mode] V fun e w' => e = .returned (.bool true) ∧ V = w'))
    (HG : Hid (∀ V, Calls Tryz.prog 120 #[.int .i64 mode, .bool neg, .int .i64 1, .bool false] V fun e w' => e = .returned (.bool false) ∧ V = w'))
    (HV : Hid (∀ V, Calls Tryz.prog 125 #[.agg #[.int .i64 (B : Int), .int .i64 (P : Int), .int .i64 (W : Int)], .bool neg] V fun e w' => e = .returned (.int .u64 (v : Int)) ∧ Below V.heap.size V w')) :
    Calls Tryz.prog 95 #[.agg #[.int .i64 (B : Int), .int .i64 (P : Int), .int .i64 (W : Int)], .int .i64 mode, .bool neg] w fun en w' => en = .returned (.int .u64 (v : Int)) ∧ Below w.heap.size w w' := by
  go_enter Tryz.func95, Tryz.ntmps95
  go_wp2_with fail
  obtain ⟨V, hV, z0, BW, sW⟩ := fframe1 w 25 (B : Int) (P : Int) (W : Int)
  rw [hV]
  clear hV sW
  refine (HI.out _).mono ?_
  rintro en w' ⟨rfl, rfl⟩
  obtain ⟨z0c0, z0c1, z0c2, z0f0, z0f1, z0f2, z0l⟩ := z0.cells
  go_wp2_with fail
  refine (HG.out _).mono ?_
  rintro en w' ⟨rfl, rfl⟩
  go_wp2_with fail
  refine (HV.out _).mono ?_
  rintro en w1 ⟨rfl, b⟩
  clear z0c0 z0c1 z0c2 z0f0 z0f1 z0f2 z0l
  replace z0 := z0.on b
  replace BW := Below.step BW b
  clear b
  go_wp2_with fail
  refine bodyPost_ret (v := .int .u64 (v : Int)) (by simp [results, Tryz.results95, go_sem]) rfl ?_
  exact ⟨rfl, BW⟩
theorem bey_bad {B P W : Nat} {mode : Int} {neg : Bool} {v : Nat} {w : World}
    (HI : Hid (∀ V, Calls Tryz.prog 90 #[.int .i64 mode] V fun e w' => e = .returned (.bool false) ∧ V = w'))
    (HG : Hid (∀ V, Calls Tryz.prog 120 #[.int .i64 0, .bool neg, .int .i64 1, .bool false] V fun e w' => e = .returned (.bool true) ∧ V = w'))
    (HV : Hid (∀ V, Calls Tryz.prog 53 #[.agg #[.int .i64 (B : Int), .int .i64 (P : Int), .int .i64 (W : Int)], .bool neg] V fun e w' => e = .returned (.int .u64 (v : Int)) ∧ Below V.heap.size V w')) :
    Calls Tryz.prog 95 #[.agg #[.int .i64 (B : Int), .int .i64 (P : Int), .int .i64 (W : Int)], .int .i64 mode, .bool neg] w fun en w' => en = .returned (.int .u64 (v : Int)) ∧ Below w.heap.size w w' := by
  go_enter Tryz.func95, Tryz.ntmps95
  go_wp2_with fail
  obtain ⟨V, hV, z0, BW, sW⟩ := fframe1 w 25 (B : Int) (P : Int) (W : Int)
  rw [hV]
  clear hV sW
  refine (HI.out _).mono ?_
  rintro en w' ⟨rfl, rfl⟩
  obtain ⟨z0c0, z0c1, z0c2, z0f0, z0f1, z0f2, z0l⟩ := z0.cells
  go_wp2_with fail
  refine (HG.out _).mono ?_
  rintro en w' ⟨rfl, rfl⟩
  go_wp2_with fail
  refine (HV.out _).mono ?_
  rintro en w1 ⟨rfl, b⟩
  clear z0c0 z0c1 z0c2 z0f0 z0f1 z0f2 z0l
  replace z0 := z0.on b
  replace BW := Below.step BW b
  clear b
  go_wp2_with fail
  refine bodyPost_ret (v := .int .u64 (v : Int)) (by simp [results, Tryz.results95, go_sem]) rfl ?_
  exact ⟨rfl, BW⟩
theorem beyond_as {B P W M E H : Nat} {low : Int} (hf : Fm B P W M E H low) (mode : Int) (neg : Bool) (v : Nat) (hv : begS M E H mode neg = v) (w : World) :
    Calls Tryz.prog 95 #[.agg #[.int .i64 (B : Int), .int .i64 (P : Int), .int .i64 (W : Int)], .int .i64 mode, .bool neg] w fun en w' => en = .returned (.int .u64 (v : Int)) ∧ Below w.heap.size w w' := by
  obtain ⟨b1, b2, b3, b4, b5, b6, b7, b8, b9, b10, b11, b12, b13, b14, b15⟩ := hf.bd
  have hME := (ME_lt hf).1
  by_cases hm : 0 ≤ mode ∧ mode ≤ 4
  · have HI := Lib.hid (fun V => isMode_as mode true (by rw [decide_eq_true hm.1, decide_eq_true hm.2]; rfl) V)
    cases ht : tow0 mode neg
    · refine bey_inf HI (Lib.hid fun V => goesAway_as mode neg 1 false (by omega) true ?_ V) (Lib.hid fun V => infinite_as hf neg v ?_ V)
      · unfold upR
        unfold tow0 at ht
        obtain rfl | rfl | rfl | rfl | rfl : mode = 0 ∨ mode = 1 ∨ mode = 2 ∨ mode = 3 ∨ mode = 4 := by omega
        all_goals (cases neg <;> first | rfl | simp at ht)
      · rw [← hv]
        unfold begS
        rw [ht]
        rfl
    · refine bey_gr HI (Lib.hid fun V => goesAway_as mode neg 1 false (by omega) false ?_ V) (Lib.hid fun V => greatest_as hf neg v ?_ V)
      · unfold upR
        unfold tow0 at ht
        obtain rfl | rfl | rfl | rfl | rfl : mode = 0 ∨ mode = 1 ∨ mode = 2 ∨ mode = 3 ∨ mode = 4 := by omega
        all_goals (cases neg <;> first | rfl | simp at ht)
      · rw [← hv]
        unfold begS
        rw [ht, if_pos rfl]
        unfold sgn
        split <;> omega
  · refine bey_bad (Lib.hid fun V => isMode_as mode false ?_ V) (Lib.hid fun V => goesAway_as 0 neg 1 false (by omega) true rfl V) (Lib.hid fun V => infinite_as hf neg v ?_ V)
    · by_cases h1 : 0 ≤ mode
      · rw [decide_eq_false (p := mode ≤ 4) (by omega), Bool.and_false]
      · rw [decide_eq_false h1, Bool.false_and]
    · have ht : tow0 mode neg = false := by
        unfold tow0
        rw [show (mode == 1) = false by simp; omega, show (mode == 2) = false by simp; omega, show (mode == 3) = false by simp; omega]
        rfl
      rw [← hv]
      unfold begS
      rw [ht]
      rfl
end Go.Proofs.YtpachoeignpcbaaGreatDoor

namespace Go.Proofs.YtpachoeignpcbaaGreatDoor
open Go.RowKit
set_option linter.unusedVariables false

theorem FB.made_k (w : World) {s : Nat} (hs : w.heap.size = s) (t : TypeId) (a b c : Int) : FB (w.alloc (.cells #[.int .i64 a, .int .i64 b, .int .i64 c] t)) s t a b c := by
  subst hs; exact Box.made w t (notU_int _) (notU_int _) (notU_int _)
theorem nfframe (w : World) (t1 t2 : TypeId) (n : Bool) (A : Option Addr) (l k : Nat) (e t : Int) (z : Bool) (a b c : Int) : ∃ W, (w.alloc (nob n A l k e t z t1)).alloc (.cells #[.int .i64 a, .int .i64 b, .int .i64 c] t2) = W ∧ NB W w.heap.size t1 n A l k e t z ∧ FB W (w.heap.size + 1) t2 a b c ∧ Below w.heap.size w W ∧ W.heap.size = w.heap.size + 2 :=
  ⟨_, rfl, (NB.made w rfl t1 n A l k e t z).alloc _, FB.made_k _ (by simp) t2 a b c, ((Below.refl _ _).alloc (by simp <;> omega) _).alloc (by simp <;> omega) _, by simp⟩
theorem ndframe (w : World) (t1 t2 : TypeId) (n : Bool) (A : Option Addr) (l k : Nat) (e t : Int) (z : Bool) (n2 : Bool) (A2 : Option Addr) (l2 k2 : Nat) (e2 : Int) : ∃ W, (w.alloc (nob n A l k e t z t1)).alloc (dob n2 A2 l2 k2 e2 t2) = W ∧ NB W w.heap.size t1 n A l k e t z ∧ DB W (w.heap.size + 1) t2 n2 A2 l2 k2 e2 ∧ Below w.heap.size w W ∧ W.heap.size = w.heap.size + 2 :=
  ⟨_, rfl, (NB.made w rfl t1 n A l k e t z).alloc _, DB.made _ (by simp) t2 n2 A2 l2 k2 e2, ((Below.refl _ _).alloc (by simp <;> omega) _).alloc (by simp <;> omega) _, by simp⟩
theorem nddframe (w : World) (t1 t2 : TypeId) (n : Bool) (A : Option Addr) (l k : Nat) (e t : Int) (z : Bool) (n2 : Bool) (A2 : Option Addr) (l2 k2 : Nat) (e2 : Int) : ∃ W, ((w.alloc (nob n A l k e t z t1)).alloc (dob n2 A2 l2 k2 e2 t2)).alloc (dob false none 0 0 0 t2) = W ∧ NB W w.heap.size t1 n A l k e t z ∧ DB W (w.heap.size + 1) t2 n2 A2 l2 k2 e2 ∧ DB W (w.heap.size + 1 + 1) t2 false none 0 0 0 ∧ Below w.heap.size w W ∧ W.heap.size = w.heap.size + 3 :=
  ⟨_, rfl, ((NB.made w rfl t1 n A l k e t z).alloc _).alloc _, (DB.made _ (by simp) t2 n2 A2 l2 k2 e2).alloc _, DB.made _ (by simp) t2 false none 0 0 0, (((Below.refl _ _).alloc (by simp <;> omega) _).alloc (by simp <;> omega) _).alloc (by simp <;> omega) _, by simp⟩
/-- a variable with a number, made within an assignment. -/
def CutD (w0 : World) (rn : Bool) (rx : Nat) (re : Int) (s7 : Value) (wx : World) : Prop :=
  ∃ g A n, s7 = .pointer (some ⟨g, 0, none⟩) ∧ DB wx g 48 rn A n n re ∧ Res wx A n rx ∧ w0.heap.size ≤ g ∧ Below w0.heap.size w0 wx
theorem kmade_drew (w : World) {s : Nat} (hs : w.heap.size = s) (t : TypeId) (neg : Bool) (A : Option Addr) (n c : Nat) (e : Int) : DB (w.alloc (dob neg A n c e t)).drew s t neg A n c e := (DB.made w hs t neg A n c e).on ((Below.refl _ _).drew)
theorem below_k {w0 w : World} (h : Below w0.heap.size w0 w) (o : Obj) : Below w0.heap.size w0 (w.alloc o) := h.alloc h.size o
set_option maxHeartbeats 1000000 in
theorem place_as {B P W M E H : Nat} {low : Int} (hf : Fm B P W M E H low) {dn nz : Bool} {A : Option Addr} {n c : Nat} {de t : Int} {w : World} (t1 : -20000 ≤ t) (t2 : t ≤ 20000) {p : Int} (hp : max (t - ((P : Int) - 1)) low = p) :
    Calls Tryz.prog 93 #[.agg #[.bool dn, .slice A n c, .int .i64 de, .int .i64 t, .bool nz], .agg #[.int .i64 (B : Int), .int .i64 (P : Int), .int .i64 (W : Int)]] w fun en w' => en = .returned (.int .i64 p) ∧ Below w.heap.size w w' := by
  obtain ⟨b1, b2, b3, b4, b5, b6, b7, b8, b9, b10, b11, b12, b13, b14, b15⟩ := hf.bd
  have HL := Lib.hid (fun (V : World) => flow_as hf low rfl V)
  have q1 : IntKind.i64.wrap ((P : Int) - 1) = (P : Int) - 1 := IntWalk.i64_in _ (by omega)
  have q2 : IntKind.i64.wrap (t - ((P : Int) - 1)) = t - ((P : Int) - 1) := IntWalk.i64_in _ (by omega)
  clear b1 hf
  go_enter Tryz.func93, Tryz.ntmps93
  go_wp2_with fail
  obtain ⟨V, hV, z0, z1, BW, sW⟩ := nfframe w 121 25 dn A n c de t nz (B : Int) (P : Int) (W : Int)
  rw [hV]
  clear hV sW
  replace z0 := z0.on ((Below.refl _ _).drew : Below V.heap.size V V.drew)
  replace z1 := z1.on ((Below.refl _ _).drew : Below V.heap.size V V.drew)
  replace BW := Lib.hid (Below.step BW ((Below.refl _ _).drew : Below V.heap.size V V.drew))
  go_region_held3 (fun w' => w'.cell? ⟨w.heap.size, 0, none⟩ = some (.bool dn) ∧ w'.cell? ⟨w.heap.size, 1, none⟩ = some (.slice A n c) ∧ w'.cell? ⟨w.heap.size, 2, none⟩ = some (.int .i64 de) ∧ w'.cell? ⟨w.heap.size, 3, none⟩ = some (.int .i64 t) ∧ w'.cell? ⟨w.heap.size, 4, none⟩ = some (.bool nz) ∧ w'.cell? ⟨(w.heap.size + 1), 0, none⟩ = some (.int .i64 (B : Int)) ∧ w'.cell? ⟨(w.heap.size + 1), 1, none⟩ = some (.int .i64 (P : Int)) ∧ w'.cell? ⟨(w.heap.size + 1), 2, none⟩ = some (.int .i64 (W : Int)))
    ((exact ⟨z0.cells.1, z0.cells.2.1, z0.cells.2.2.1, z0.cells.2.2.2.1, z0.cells.2.2.2.2.1, z1.cells.1, z1.cells.2.1, z1.cells.2.2.1⟩))
    (first
      | (go_at_call 85
         (with_reducible refine (HL.out _).mono ?_)
         rintro en w1 ⟨rfl, b⟩
         replace z0 := z0.on b
         replace z1 := z1.on b
         replace BW := Lib.hid (Below.step BW.out b)
         clear b))
  replace BW := BW.out
  all_goals (
    obtain ⟨z0c0, z0c1, z0c2, z0c3, z0c4, z0f0, z0f1, z0f2, z0f3, z0f4, z0l⟩ := z0.cells
    obtain ⟨z1c0, z1c1, z1c2, z1f0, z1f1, z1f2, z1l⟩ := z1.cells
    go_wp2_with fail
    refine bodyPost_ret (v := .int .i64 p) (by simp [results, Tryz.results93, go_sem]) rfl ⟨rfl, BW⟩)
set_option maxHeartbeats 1000000 in
theorem tiny_as {B P W M E H : Nat} {low : Int} (hf : Fm B P W M E H low) {dn nz : Bool} {A : Option Addr} {n c : Nat} {de t : Int} {w : World} (b : Bool) (hb : decide (t < low + (P : Int) - 1) = b) :
    Calls Tryz.prog 126 #[.agg #[.bool dn, .slice A n c, .int .i64 de, .int .i64 t, .bool nz], .agg #[.int .i64 (B : Int), .int .i64 (P : Int), .int .i64 (W : Int)]] w fun en w' => en = .returned (.bool b) ∧ Below w.heap.size w w' := by
  obtain ⟨b1, b2, b3, b4, b5, b6, b7, b8, b9, b10, b11, b12, b13, b14, b15⟩ := hf.bd
  have HL := Lib.hid (fun (V : World) => flow_as hf low rfl V)
  have q1 : IntKind.i64.wrap (low + (P : Int)) = low + (P : Int) := IntWalk.i64_in _ (by omega)
  have q2 : IntKind.i64.wrap (low + (P : Int) - 1) = low + (P : Int) - 1 := IntWalk.i64_in _ (by omega)
  clear b1 hf
  go_enter Tryz.func126, Tryz.ntmps126
  go_wp2_with fail
  obtain ⟨V, hV, z0, z1, BW, sW⟩ := nfframe w 121 25 dn A n c de t nz (B : Int) (P : Int) (W : Int)
  rw [hV]
  clear hV sW
  replace z0 := z0.on ((Below.refl _ _).drew : Below V.heap.size V V.drew)
  replace z1 := z1.on ((Below.refl _ _).drew : Below V.heap.size V V.drew)
  replace BW := Lib.hid (Below.step BW ((Below.refl _ _).drew : Below V.heap.size V V.drew))
  go_region_held3 (fun w' => w'.cell? ⟨w.heap.size, 0, none⟩ = some (.bool dn) ∧ w'.cell? ⟨w.heap.size, 1, none⟩ = some (.slice A n c) ∧ w'.cell? ⟨w.heap.size, 2, none⟩ = some (.int .i64 de) ∧ w'.cell? ⟨w.heap.size, 3, none⟩ = some (.int .i64 t) ∧ w'.cell? ⟨w.heap.size, 4, none⟩ = some (.bool nz) ∧ w'.cell? ⟨(w.heap.size + 1), 0, none⟩ = some (.int .i64 (B : Int)) ∧ w'.cell? ⟨(w.heap.size + 1), 1, none⟩ = some (.int .i64 (P : Int)) ∧ w'.cell? ⟨(w.heap.size + 1), 2, none⟩ = some (.int .i64 (W : Int)))
    ((exact ⟨z0.cells.1, z0.cells.2.1, z0.cells.2.2.1, z0.cells.2.2.2.1, z0.cells.2.2.2.2.1, z1.cells.1, z1.cells.2.1, z1.cells.2.2.1⟩))
    (first
      | (go_at_call 85
         (with_reducible refine (HL.out _).mono ?_)
         rintro en w1 ⟨rfl, b⟩
         replace z0 := z0.on b
         replace z1 := z1.on b
         replace BW := Lib.hid (Below.step BW.out b)
         clear b))
  replace BW := BW.out
  all_goals (
    obtain ⟨z0c0, z0c1, z0c2, z0c3, z0c4, z0f0, z0f1, z0f2, z0f3, z0f4, z0l⟩ := z0.cells
    obtain ⟨z1c0, z1c1, z1c2, z1f0, z1f1, z1f2, z1l⟩ := z1.cells
    go_wp2_with fail
    refine bodyPost_ret (v := .bool b) (by simp [results, Tryz.results126, go_sem]) rfl ⟨rfl, BW⟩)
theorem flags_as {B P W M E H : Nat} {low : Int} (hf : Fm B P W M E H low) {dn nz : Bool} {A : Option Addr} {n c : Nat} {de t : Int} {w : World} (lost b : Bool) (hb : decide (t < low + (P : Int) - 1) = b) (q : Int) (hq : (if lost then if b then 3 else 1 else 0) = q) :
    Calls Tryz.prog 96 #[.agg #[.bool dn, .slice A n c, .int .i64 de, .int .i64 t, .bool nz], .agg #[.int .i64 (B : Int), .int .i64 (P : Int), .int .i64 (W : Int)], .bool lost] w fun en w' => en = .returned (.int .i64 q) ∧ Below w.heap.size w w' := by
  have HT := Lib.hid (fun V => tiny_as hf (dn := dn) (nz := nz) (A := A) (n := n) (c := c) (de := de) (w := V) b hb)
  clear hf hb
  cases lost
  · obtain rfl : q = 0 := by rw [← hq]; rfl
    clear hq
    go_enter Tryz.func96, Tryz.ntmps96
    go_wp2_with fail
    obtain ⟨V, hV, z0, z1, BW, sW⟩ := nfframe w 121 25 dn A n c de t nz (B : Int) (P : Int) (W : Int)
    rw [hV]
    clear hV sW
    obtain ⟨z0c0, z0c1, z0c2, z0c3, z0c4, z0f0, z0f1, z0f2, z0f3, z0f4, z0l⟩ := z0.cells
    obtain ⟨z1c0, z1c1, z1c2, z1f0, z1f1, z1f2, z1l⟩ := z1.cells
    go_wp2_with fail
    refine bodyPost_ret (v := .int .i64 0) (by simp [results, Tryz.results96, go_sem]) rfl ⟨rfl, BW⟩
  · cases b
    · obtain rfl : q = 1 := by rw [← hq]; rfl
      clear hq
      go_enter Tryz.func96, Tryz.ntmps96
      go_wp2_with fail
      obtain ⟨V, hV, z0, z1, BW, sW⟩ := nfframe w 121 25 dn A n c de t nz (B : Int) (P : Int) (W : Int)
      rw [hV]
      clear hV sW
      obtain ⟨z0c0, z0c1, z0c2, z0c3, z0c4, z0f0, z0f1, z0f2, z0f3, z0f4, z0l⟩ := z0.cells
      obtain ⟨z1c0, z1c1, z1c2, z1f0, z1f1, z1f2, z1l⟩ := z1.cells
      go_wp2_with fail
      refine (HT.out _).mono ?_
      rintro en w1 ⟨rfl, b⟩
      clear z0c0 z0c1 z0c2 z0c3 z0c4 z0f0 z0f1 z0f2 z0f3 z0f4 z0l z1c0 z1c1 z1c2 z1f0 z1f1 z1f2 z1l
      replace z0 := z0.on b
      replace z1 := z1.on b
      replace BW := Below.step BW b
      clear b
      obtain ⟨z0c0, z0c1, z0c2, z0c3, z0c4, z0f0, z0f1, z0f2, z0f3, z0f4, z0l⟩ := z0.cells
      obtain ⟨z1c0, z1c1, z1c2, z1f0, z1f1, z1f2, z1l⟩ := z1.cells
      go_wp2_with fail
      refine bodyPost_ret (v := .int .i64 1) (by simp [results, Tryz.results96, go_sem]) rfl ⟨rfl, BW⟩
    · obtain rfl : q = 3 := by rw [← hq]; rfl
      clear hq
      go_enter Tryz.func96, Tryz.ntmps96
      go_wp2_with fail
      obtain ⟨V, hV, z0, z1, BW, sW⟩ := nfframe w 121 25 dn A n c de t nz (B : Int) (P : Int) (W : Int)
      rw [hV]
      clear hV sW
      obtain ⟨z0c0, z0c1, z0c2, z0c3, z0c4, z0f0, z0f1, z0f2, z0f3, z0f4, z0l⟩ := z0.cells
      obtain ⟨z1c0, z1c1, z1c2, z1f0, z1f1, z1f2, z1l⟩ := z1.cells
      go_wp2_with fail
      refine (HT.out _).mono ?_
      rintro en w1 ⟨rfl, b⟩
      clear z0c0 z0c1 z0c2 z0c3 z0c4 z0f0 z0f1 z0f2 z0f3 z0f4 z0l z1c0 z1c1 z1c2 z1f0 z1f1 z1f2 z1l
      replace z0 := z0.on b
      replace z1 := z1.on b
      replace BW := Below.step BW b
      clear b
      obtain ⟨z0c0, z0c1, z0c2, z0c3, z0c4, z0f0, z0f1, z0f2, z0f3, z0f4, z0l⟩ := z0.cells
      obtain ⟨z1c0, z1c1, z1c2, z1f0, z1f1, z1f2, z1l⟩ := z1.cells
      go_wp2_with fail
      refine bodyPost_ret (v := .int .i64 3) (by simp [results, Tryz.results96, go_sem]) rfl ⟨rfl, BW⟩
end Go.Proofs.YtpachoeignpcbaaGreatDoor

namespace Go.Proofs.YtpachoeignpcbaaGreatDoor
open Go.RowKit
set_option linter.unusedVariables false

set_option maxHeartbeats 1000000 in
theorem away_as {dn nz : Bool} {A : Option Addr} {n c : Nat} {de t : Int} {ln : Bool} {A2 : Option Addr} {n2 c2 lx : Nat} {le : Int} {w : World} (h : Arg w A2 n2 c2 lx) (hs : n2 ≤ 30000) (hT : Tab w) {p : Int} {rn : Bool} {rx : Nat} {re : Int} (ha : addS ⟨ln, lx, le⟩ ⟨dn, 1, p⟩ = (⟨rn, rx, re⟩, 0)) :
    Calls Tryz.prog 122 #[.agg #[.bool dn, .slice A n c, .int .i64 de, .int .i64 t, .bool nz], .agg #[.bool ln, .slice A2 n2 c2, .int .i64 le], .int .i64 p] w (PlX w rn rx re) := by
  have HA := Lib.hid ha
  clear ha
  go_enter Tryz.func122, Tryz.ntmps122
  go_wp2_with fail
  obtain ⟨V, hV, z0, z1, z2, BW, sW⟩ := nddframe w 121 48 dn A n c de t nz ln A2 n2 c2 le
  rw [hV]
  clear hV sW
  replace hT := hT.on BW
  replace h := h.on BW
  go_cut [7] (CutD V dn 1 p)
  case first =>
    have HS : Hid (∀ w', Below V.heap.size V w' → w'.cell? ⟨w.heap.size, 0, none⟩ = some (.bool dn) ∧ w'.cell? ⟨w.heap.size, 1, none⟩ = some (.slice A n c) ∧ w'.cell? ⟨w.heap.size, 2, none⟩ = some (.int .i64 de) ∧ w'.cell? ⟨w.heap.size, 3, none⟩ = some (.int .i64 t) ∧ w'.cell? ⟨w.heap.size, 4, none⟩ = some (.bool nz)) := fun w' hb => by
      have p0 := (z0.on hb).cells
      exact ⟨p0.1, p0.2.1, p0.2.2.1, p0.2.2.2.1, p0.2.2.2.2.1⟩
    have kk : Below V.heap.size V V.drew := (Below.refl _ _).drew
    have kd : Below V.heap.size V (V.alloc (dob false none 0 0 0 48)).drew := (below_k (Below.refl _ _) _).drew
    clear z0 z1 z2 hT h BW
    go_region_held3 (fun w' => w'.cell? ⟨w.heap.size, 0, none⟩ = some (.bool dn) ∧ w'.cell? ⟨w.heap.size, 1, none⟩ = some (.slice A n c) ∧ w'.cell? ⟨w.heap.size, 2, none⟩ = some (.int .i64 de) ∧ w'.cell? ⟨w.heap.size, 3, none⟩ = some (.int .i64 t) ∧ w'.cell? ⟨w.heap.size, 4, none⟩ = some (.bool nz))
      ((refine HS.out _ ?_; first | (with_reducible assumption) | (with_reducible exact below_k (by assumption) _) | ((with_reducible refine below_put3 ?_ ?_ _ _ _) <;> first | (with_reducible assumption) | omega)))
      (first
      | (go_at_call 88
         refine (fof_as 1 (by omega) _).mono ?_
         rintro e v8 ⟨B3, m3, rfl, r3, b8⟩
         have kk := Below.step (show Below V.heap.size V _ from (by first | (with_reducible assumption) | (with_reducible exact below_k (by assumption) _))) b8
         have hz8 := kk.size
         have r3 := Lib.hid r3
         first | (have zz := (kmade_drew V rfl 48 false none 0 0 0).on b8; obtain ⟨p0, p1, p2, g0, g1, g2, _⟩ := zz.cells; have zz := Lib.hid zz) | skip
         clear b8))
    all_goals go_wp2_with fail
    all_goals go_meet
    all_goals (first | (exact ⟨_, B3, m3, rfl, zz.out.put_d dn B3 m3 m3 p, zz.out.res r3.out _ _ _, (by first | exact Nat.le_refl _ | omega), below_put3 kk (by omega) _ _ _⟩) | (exact ⟨_, B3, m3, rfl, DB.made v8 rfl 48 dn B3 m3 m3 p, r3.out.on (below_lit _ _), (by omega), below_k kk _⟩))
  case rest =>
    obtain ⟨gzh, Azh, nzh, rfl, zh, rh, hg, b⟩ := hcut
    clear hg
    obtain ⟨w1, rfl⟩ : ∃ w1 : World, w1 = wc := ⟨_, rfl⟩
    replace z0 := z0.on b
    replace z1 := z1.on b
    replace z2 := z2.on b
    replace hT := hT.on b
    replace h := h.on b
    replace BW := Below.step BW b
    clear b
    have lh := rh.le2 (by omega)
    obtain ⟨z1c0, z1c1, z1c2, z1f0, z1f1, z1f2, z1l⟩ := z1.cells
    obtain ⟨z2c0, z2c1, z2c2, z2f0, z2f1, z2f2, z2l⟩ := z2.cells
    obtain ⟨zhc0, zhc1, zhc2, zhf0, zhf1, zhf2, zhl⟩ := zh.cells
    go_wp2_with fail
    refine (dadd_as h (rh.arg (by omega)) hs (by omega) hT HA).mono ?_
    rintro en w2 ⟨V_ra, v_ra, rfl, ra, b⟩
    clear z1c0 z1c1 z1c2 z1f0 z1f1 z1f2 z1l z2c0 z2c1 z2c2 z2f0 z2f1 z2f2 z2l zhc0 zhc1 zhc2 zhf0 zhf1 zhf2 zhl
    replace z0 := z0.on b
    replace z1 := z1.on b
    replace z2 := z2.on b
    replace hT := hT.on b
    replace h := h.on b
    replace zh := zh.on b
    replace rh := rh.on b
    replace BW := Below.step BW b
    clear b
    obtain ⟨z2c0, z2c1, z2c2, z2f0, z2f1, z2f2, z2l⟩ := z2.cells
    go_wp2_with fail
    have y2 := z2.put_d rn V_ra v_ra v_ra re
    have yl := z2.res ra (.bool rn) (.slice V_ra v_ra v_ra) (.int .i64 re)
    have yb := below_put3 BW (show w.heap.size ≤ (w.heap.size + 1 + 1) by omega) (.bool rn) (.slice V_ra v_ra v_ra) (.int .i64 re)
    replace y2 := y2.on (below_lit _ (dob rn V_ra v_ra v_ra re 48))
    replace yl := yl.on (below_lit _ (dob rn V_ra v_ra v_ra re 48))
    replace yb := below_k yb (dob rn V_ra v_ra v_ra re 48)
    obtain ⟨p0, p1, p2, _⟩ := y2.cells
    refine bodyPost_ret (v := .agg #[.bool rn, .slice V_ra v_ra v_ra, .int .i64 re]) (by simp [results, Tryz.results122, go_sem, p0, p1, p2]) rfl ?_
    exact ⟨_, _, rfl, yl, yb⟩
theorem half_walk {dn nz : Bool} {A : Option Addr} {n c : Nat} {de t : Int} {ln : Bool} {A2 : Option Addr} {n2 c2 lx : Nat} {le : Int} {x : Nat} {w : World} (h : Arg w A n c x) (hs : n ≤ 30000) (h2 : Arg w A2 n2 c2 lx) (hs2 : n2 ≤ 30000) (hT : Tab w) {p : Int} (p1 : -10000 ≤ p) (p2 : p ≤ 10000) {hn : Bool} {hx : Nat} {he : Int} (same more : Bool) (q : Int)
    (hf : floorS ⟨dn, x, de⟩ (p - 1) = (⟨hn, hx, he⟩, more, 0)) (hhx : blen hx ≤ 4096) (hq : (if same then -1 else if more then 1 else 0) = q)
    (hm : D.may ⟨hn, hx, he⟩ = true) (hm2 : D.may ⟨ln, lx, le⟩ = true) (hv : decide (D.vl ⟨hn, hx, he⟩ = D.vl ⟨ln, lx, le⟩) = same) :
    Calls Tryz.prog 121 #[.agg #[.bool dn, .slice A n c, .int .i64 de, .int .i64 t, .bool nz], .agg #[.bool ln, .slice A2 n2 c2, .int .i64 le], .int .i64 p] w fun en w' => en = .returned (.int .i64 q) ∧ Below w.heap.size w w' := by
  have q1 : IntKind.i64.wrap (p - 1) = p - 1 := IntWalk.i64_in _ (by omega)
  have HF := Lib.hid hf
  have HS := Lib.hid (fun (V : World) (A1 : Option Addr) (n1 : Nat) (g1 : Arg V A1 n1 n1 hx) (g2 : Arg V A2 n2 c2 lx) (g3 : Tab V) (g4 : n1 ≤ 30000) => dsame_vl g1 g2 g4 hs2 g3 hm hm2 same hv)
  clear hf hv hm hm2
  cases same
  · cases more
    · obtain rfl : q = 0 := by rw [← hq]; rfl
      clear hq
      go_enter Tryz.func121, Tryz.ntmps121
      go_wp2_with fail
      obtain ⟨V, hV, z0, z1, BW, sW⟩ := ndframe w 121 48 dn A n c de t nz ln A2 n2 c2 le
      rw [hV]
      clear hV sW
      replace hT := hT.on BW
      replace h := h.on BW
      replace h2 := h2.on BW
      obtain ⟨z0c0, z0c1, z0c2, z0c3, z0c4, z0f0, z0f1, z0f2, z0f3, z0f4, z0l⟩ := z0.cells
      obtain ⟨z1c0, z1c1, z1c2, z1f0, z1f1, z1f2, z1l⟩ := z1.cells
      go_wp2_with fail
      refine (dfloor_as h hs hT HF.out).mono ?_
      rintro en w1 ⟨V_rl, v_rl, rfl, rl, b⟩
      clear z0c0 z0c1 z0c2 z0c3 z0c4 z0f0 z0f1 z0f2 z0f3 z0f4 z0l z1c0 z1c1 z1c2 z1f0 z1f1 z1f2 z1l
      replace z0 := z0.on b
      replace z1 := z1.on b
      replace hT := hT.on b
      replace h := h.on b
      replace h2 := h2.on b
      replace BW := Below.step BW b
      clear b
      have ll := res_n_le rl (k := 128) (by omega)
      obtain ⟨z0c0, z0c1, z0c2, z0c3, z0c4, z0f0, z0f1, z0f2, z0f3, z0f4, z0l⟩ := z0.cells
      obtain ⟨z1c0, z1c1, z1c2, z1f0, z1f1, z1f2, z1l⟩ := z1.cells
      go_upto_region 2 with fail
      clear z0c0 z0c1 z0c2 z0c3 z0c4 z0f0 z0f1 z0f2 z0f3 z0f4 z0l z1c0 z1c1 z1c2 z1f0 z1f1 z1f2 z1l
      obtain ⟨w2, e_w2⟩ : ∃ w', w1.alloc (dob hn V_rl v_rl v_rl he 48) = w' := ⟨_, rfl⟩
      have b : Below w1.heap.size w1 w2 := e_w2 ▸ below_lit _ _
      have hs_w2 : w2.heap.size = w1.heap.size + 1 := e_w2 ▸ size_lit w1 _ rfl
      have zl : DB w2 w1.heap.size 48 hn V_rl v_rl v_rl he := e_w2 ▸ DB.made w1 rfl 48 hn V_rl v_rl v_rl he
      rw [e_w2]
      clear e_w2
      replace z0 := z0.on b
      replace z1 := z1.on b
      replace hT := hT.on b
      replace h := h.on b
      replace h2 := h2.on b
      replace rl := rl.on b
      replace BW := Below.step BW b
      clear b
      clear hs_w2
      obtain ⟨z1c0, z1c1, z1c2, z1f0, z1f1, z1f2, z1l⟩ := z1.cells
      obtain ⟨zlc0, zlc1, zlc2, zlf0, zlf1, zlf2, zll⟩ := zl.cells
      go_wp2_with fail
      refine (HS.out _ V_rl v_rl (rl.arg (by omega)) h2 hT (by omega)).mono ?_
      rintro en w3 ⟨rfl, b⟩
      clear z1c0 z1c1 z1c2 z1f0 z1f1 z1f2 z1l zlc0 zlc1 zlc2 zlf0 zlf1 zlf2 zll
      replace z0 := z0.on b
      replace z1 := z1.on b
      replace hT := hT.on b
      replace h := h.on b
      replace h2 := h2.on b
      replace rl := rl.on b
      replace zl := zl.on b
      replace BW := Below.step BW b
      clear b
      obtain ⟨z1c0, z1c1, z1c2, z1f0, z1f1, z1f2, z1l⟩ := z1.cells
      obtain ⟨zlc0, zlc1, zlc2, zlf0, zlf1, zlf2, zll⟩ := zl.cells
      go_wp2_with fail
      refine bodyPost_ret (v := .int .i64 0) (by simp [results, Tryz.results121, go_sem]) rfl ⟨rfl, BW⟩
    · obtain rfl : q = 1 := by rw [← hq]; rfl
      clear hq
      go_enter Tryz.func121, Tryz.ntmps121
      go_wp2_with fail
      obtain ⟨V, hV, z0, z1, BW, sW⟩ := ndframe w 121 48 dn A n c de t nz ln A2 n2 c2 le
      rw [hV]
      clear hV sW
      replace hT := hT.on BW
      replace h := h.on BW
      replace h2 := h2.on BW
      obtain ⟨z0c0, z0c1, z0c2, z0c3, z0c4, z0f0, z0f1, z0f2, z0f3, z0f4, z0l⟩ := z0.cells
      obtain ⟨z1c0, z1c1, z1c2, z1f0, z1f1, z1f2, z1l⟩ := z1.cells
      go_wp2_with fail
      refine (dfloor_as h hs hT HF.out).mono ?_
      rintro en w1 ⟨V_rl, v_rl, rfl, rl, b⟩
      clear z0c0 z0c1 z0c2 z0c3 z0c4 z0f0 z0f1 z0f2 z0f3 z0f4 z0l z1c0 z1c1 z1c2 z1f0 z1f1 z1f2 z1l
      replace z0 := z0.on b
      replace z1 := z1.on b
      replace hT := hT.on b
      replace h := h.on b
      replace h2 := h2.on b
      replace BW := Below.step BW b
      clear b
      have ll := res_n_le rl (k := 128) (by omega)
      obtain ⟨z0c0, z0c1, z0c2, z0c3, z0c4, z0f0, z0f1, z0f2, z0f3, z0f4, z0l⟩ := z0.cells
      obtain ⟨z1c0, z1c1, z1c2, z1f0, z1f1, z1f2, z1l⟩ := z1.cells
      go_upto_region 2 with fail
      clear z0c0 z0c1 z0c2 z0c3 z0c4 z0f0 z0f1 z0f2 z0f3 z0f4 z0l z1c0 z1c1 z1c2 z1f0 z1f1 z1f2 z1l
      obtain ⟨w2, e_w2⟩ : ∃ w', w1.alloc (dob hn V_rl v_rl v_rl he 48) = w' := ⟨_, rfl⟩
      have b : Below w1.heap.size w1 w2 := e_w2 ▸ below_lit _ _
      have hs_w2 : w2.heap.size = w1.heap.size + 1 := e_w2 ▸ size_lit w1 _ rfl
      have zl : DB w2 w1.heap.size 48 hn V_rl v_rl v_rl he := e_w2 ▸ DB.made w1 rfl 48 hn V_rl v_rl v_rl he
      rw [e_w2]
      clear e_w2
      replace z0 := z0.on b
      replace z1 := z1.on b
      replace hT := hT.on b
      replace h := h.on b
      replace h2 := h2.on b
      replace rl := rl.on b
      replace BW := Below.step BW b
      clear b
      clear hs_w2
      obtain ⟨z1c0, z1c1, z1c2, z1f0, z1f1, z1f2, z1l⟩ := z1.cells
      obtain ⟨zlc0, zlc1, zlc2, zlf0, zlf1, zlf2, zll⟩ := zl.cells
      go_wp2_with fail
      refine (HS.out _ V_rl v_rl (rl.arg (by omega)) h2 hT (by omega)).mono ?_
      rintro en w3 ⟨rfl, b⟩
      clear z1c0 z1c1 z1c2 z1f0 z1f1 z1f2 z1l zlc0 zlc1 zlc2 zlf0 zlf1 zlf2 zll
      replace z0 := z0.on b
      replace z1 := z1.on b
      replace hT := hT.on b
      replace h := h.on b
      replace h2 := h2.on b
      replace rl := rl.on b
      replace zl := zl.on b
      replace BW := Below.step BW b
      clear b
      obtain ⟨z1c0, z1c1, z1c2, z1f0, z1f1, z1f2, z1l⟩ := z1.cells
      obtain ⟨zlc0, zlc1, zlc2, zlf0, zlf1, zlf2, zll⟩ := zl.cells
      go_wp2_with fail
      refine bodyPost_ret (v := .int .i64 1) (by simp [results, Tryz.results121, go_sem]) rfl ⟨rfl, BW⟩
  · obtain rfl : q = -1 := by rw [← hq]; rfl
    clear hq
    go_enter Tryz.func121, Tryz.ntmps121
    go_wp2_with fail
    obtain ⟨V, hV, z0, z1, BW, sW⟩ := ndframe w 121 48 dn A n c de t nz ln A2 n2 c2 le
    rw [hV]
    clear hV sW
    replace hT := hT.on BW
    replace h := h.on BW
    replace h2 := h2.on BW
    obtain ⟨z0c0, z0c1, z0c2, z0c3, z0c4, z0f0, z0f1, z0f2, z0f3, z0f4, z0l⟩ := z0.cells
    obtain ⟨z1c0, z1c1, z1c2, z1f0, z1f1, z1f2, z1l⟩ := z1.cells
    go_wp2_with fail
    refine (dfloor_as h hs hT HF.out).mono ?_
    rintro en w1 ⟨V_rl, v_rl, rfl, rl, b⟩
    clear z0c0 z0c1 z0c2 z0c3 z0c4 z0f0 z0f1 z0f2 z0f3 z0f4 z0l z1c0 z1c1 z1c2 z1f0 z1f1 z1f2 z1l
    replace z0 := z0.on b
    replace z1 := z1.on b
    replace hT := hT.on b
    replace h := h.on b
    replace h2 := h2.on b
    replace BW := Below.step BW b
    clear b
    have ll := res_n_le rl (k := 128) (by omega)
    obtain ⟨z0c0, z0c1, z0c2, z0c3, z0c4, z0f0, z0f1, z0f2, z0f3, z0f4, z0l⟩ := z0.cells
    obtain ⟨z1c0, z1c1, z1c2, z1f0, z1f1, z1f2, z1l⟩ := z1.cells
    go_upto_region 2 with fail
    clear z0c0 z0c1 z0c2 z0c3 z0c4 z0f0 z0f1 z0f2 z0f3 z0f4 z0l z1c0 z1c1 z1c2 z1f0 z1f1 z1f2 z1l
    obtain ⟨w2, e_w2⟩ : ∃ w', w1.alloc (dob hn V_rl v_rl v_rl he 48) = w' := ⟨_, rfl⟩
    have b : Below w1.heap.size w1 w2 := e_w2 ▸ below_lit _ _
    have hs_w2 : w2.heap.size = w1.heap.size + 1 := e_w2 ▸ size_lit w1 _ rfl
    have zl : DB w2 w1.heap.size 48 hn V_rl v_rl v_rl he := e_w2 ▸ DB.made w1 rfl 48 hn V_rl v_rl v_rl he
    rw [e_w2]
    clear e_w2
    replace z0 := z0.on b
    replace z1 := z1.on b
    replace hT := hT.on b
    replace h := h.on b
    replace h2 := h2.on b
    replace rl := rl.on b
    replace BW := Below.step BW b
    clear b
    clear hs_w2
    obtain ⟨z1c0, z1c1, z1c2, z1f0, z1f1, z1f2, z1l⟩ := z1.cells
    obtain ⟨zlc0, zlc1, zlc2, zlf0, zlf1, zlf2, zll⟩ := zl.cells
    go_wp2_with fail
    refine (HS.out _ V_rl v_rl (rl.arg (by omega)) h2 hT (by omega)).mono ?_
    rintro en w3 ⟨rfl, b⟩
    clear z1c0 z1c1 z1c2 z1f0 z1f1 z1f2 z1l zlc0 zlc1 zlc2 zlf0 zlf1 zlf2 zll
    replace z0 := z0.on b
    replace z1 := z1.on b
    replace hT := hT.on b
    replace h := h.on b
    replace h2 := h2.on b
    replace rl := rl.on b
    replace zl := zl.on b
    replace BW := Below.step BW b
    clear b
    obtain ⟨z1c0, z1c1, z1c2, z1f0, z1f1, z1f2, z1l⟩ := z1.cells
    obtain ⟨zlc0, zlc1, zlc2, zlf0, zlf1, zlf2, zll⟩ := zl.cells
    go_wp2_with fail
    refine bodyPost_ret (v := .int .i64 (-1)) (by simp [results, Tryz.results121, go_sem]) rfl ⟨rfl, BW⟩
end Go.Proofs.YtpachoeignpcbaaGreatDoor

namespace Go.Proofs.YtpachoeignpcbaaGreatDoor
open Go.RowKit
set_option linter.unusedVariables false

theorem nrframe (w : World) (t1 t2 : TypeId) (n : Bool) (A : Option Addr) (l k : Nat) (e t : Int) (z : Bool) : ∃ W, (w.alloc (nob n A l k e t z t1)).alloc (dob false none 0 0 0 t2) = W ∧ NB W w.heap.size t1 n A l k e t z ∧ DB W (w.heap.size + 1) t2 false none 0 0 0 ∧ Below w.heap.size w W ∧ W.heap.size = w.heap.size + 2 :=
  ⟨_, rfl, (NB.made w rfl t1 n A l k e t z).alloc _, DB.made _ (by simp) t2 false none 0 0 0, ((Below.refl _ _).alloc (by simp <;> omega) _).alloc (by simp <;> omega) _, by simp⟩
/-- what rounded tells. -/
def RoX (w : World) (rn : Bool) (rx : Nat) (re : Int) (lost : Bool) (en : Ending) (w' : World) : Prop :=
  ∃ A k, en = .returned (.tuple #[.agg #[.bool rn, .slice A k k, .int .i64 re], .bool lost]) ∧ Res w' A k rx ∧ Below w.heap.size w w'
theorem rounded_same {dn nz : Bool} {A : Option Addr} {n c : Nat} {de t : Int} {x : Nat} {w : World} (h : Arg w A n c x) (hs : n ≤ 30000) (hT : Tab w) (mode : Int) {p : Int} {ln : Bool} {lx : Nat} {le : Int} (hf : floorS ⟨dn, x, de⟩ p = (⟨ln, lx, le⟩, false, 0)) (hlx : blen lx ≤ 4096) :
    Calls Tryz.prog 92 #[.agg #[.bool dn, .slice A n c, .int .i64 de, .int .i64 t, .bool nz], .int .i64 mode, .int .i64 p] w (RoX w ln lx le false) := by
  have HF := Lib.hid hf
  clear hf
  go_enter Tryz.func92, Tryz.ntmps92
  go_wp2_with fail
  obtain ⟨V, hV, z0, z1, BW, sW⟩ := nrframe w 121 48 dn A n c de t nz
  rw [hV]
  clear hV sW
  replace hT := hT.on BW
  replace h := h.on BW
  obtain ⟨z0c0, z0c1, z0c2, z0c3, z0c4, z0f0, z0f1, z0f2, z0f3, z0f4, z0l⟩ := z0.cells
  obtain ⟨z1c0, z1c1, z1c2, z1f0, z1f1, z1f2, z1l⟩ := z1.cells
  go_wp2_with fail
  refine (dfloor_as h hs hT HF.out).mono ?_
  rintro en w1 ⟨V_rl, v_rl, rfl, rl, b⟩
  clear z0c0 z0c1 z0c2 z0c3 z0c4 z0f0 z0f1 z0f2 z0f3 z0f4 z0l z1c0 z1c1 z1c2 z1f0 z1f1 z1f2 z1l
  replace z0 := z0.on b
  replace z1 := z1.on b
  replace hT := hT.on b
  replace h := h.on b
  replace BW := Below.step BW b
  clear b
  have ll := res_n_le rl (k := 128) (by omega)
  obtain ⟨z0c0, z0c1, z0c2, z0c3, z0c4, z0f0, z0f1, z0f2, z0f3, z0f4, z0l⟩ := z0.cells
  obtain ⟨z1c0, z1c1, z1c2, z1f0, z1f1, z1f2, z1l⟩ := z1.cells
  go_upto_region 2 with fail
  clear z0c0 z0c1 z0c2 z0c3 z0c4 z0f0 z0f1 z0f2 z0f3 z0f4 z0l z1c0 z1c1 z1c2 z1f0 z1f1 z1f2 z1l
  obtain ⟨w2, e_w2⟩ : ∃ w', w1.alloc (dob ln V_rl v_rl v_rl le 48) = w' := ⟨_, rfl⟩
  have b : Below w1.heap.size w1 w2 := e_w2 ▸ below_lit _ _
  have hs_w2 : w2.heap.size = w1.heap.size + 1 := e_w2 ▸ size_lit w1 _ rfl
  have zl : DB w2 w1.heap.size 48 ln V_rl v_rl v_rl le := e_w2 ▸ DB.made w1 rfl 48 ln V_rl v_rl v_rl le
  rw [e_w2]
  clear e_w2
  replace z0 := z0.on b
  replace z1 := z1.on b
  replace hT := hT.on b
  replace h := h.on b
  replace rl := rl.on b
  replace BW := Below.step BW b
  clear b
  clear hs_w2
  obtain ⟨z0c0, z0c1, z0c2, z0c3, z0c4, z0f0, z0f1, z0f2, z0f3, z0f4, z0l⟩ := z0.cells
  obtain ⟨z1c0, z1c1, z1c2, z1f0, z1f1, z1f2, z1l⟩ := z1.cells
  obtain ⟨zlc0, zlc1, zlc2, zlf0, zlf1, zlf2, zll⟩ := zl.cells
  go_wp2_with fail
  have y2 := z1.put_d ln V_rl v_rl v_rl le
  have yl := z1.res rl (.bool ln) (.slice V_rl v_rl v_rl) (.int .i64 le)
  have yb := below_put3 BW (show w.heap.size ≤ (w.heap.size + 1) by omega) (.bool ln) (.slice V_rl v_rl v_rl) (.int .i64 le)
  obtain ⟨p0, p1, p2, _⟩ := y2.cells
  refine bodyPost_ret (v := .tuple #[.agg #[.bool ln, .slice V_rl v_rl v_rl, .int .i64 le], .bool false]) (by simp [results, Tryz.results92, go_sem, p0, p1, p2]) rfl ?_
  exact ⟨_, _, rfl, yl, yb⟩
set_option maxHeartbeats 2000000 in
theorem rounded_down {dn nz : Bool} {A : Option Addr} {n c : Nat} {de t : Int} {x : Nat} {w : World} (h : Arg w A n c x) (hs : n ≤ 30000) (hT : Tab w) (mode : Int) {p : Int} {ln : Bool} {lx : Nat} {le : Int} (p1 : -10000 ≤ p) (p2 : p ≤ 10000) (hf : floorS ⟨dn, x, de⟩ p = (⟨ln, lx, le⟩, true, 0)) (hlx : blen lx ≤ 4096) {mn : Bool} {mx : Nat} {me : Int} {odd : Bool} (hf2 : floorS ⟨ln, lx, le⟩ (p + 1) = (⟨mn, mx, me⟩, odd, 0)) {q : Int}
    (HH : Hid (∀ (V : World) (A2 : Option Addr) (n2 : Nat), Arg V A n c x → Arg V A2 n2 n2 lx → Tab V → n2 ≤ 30000 → Calls Tryz.prog 121 #[.agg #[.bool dn, .slice A n c, .int .i64 de, .int .i64 t, .bool nz], .agg #[.bool ln, .slice A2 n2 n2, .int .i64 le], .int .i64 p] V fun en w' => en = .returned (.int .i64 q) ∧ Below V.heap.size V w')) (HG : Hid (∀ (V : World), Calls Tryz.prog 120 #[.int .i64 mode, .bool dn, .int .i64 q, .bool odd] V fun en w' => en = .returned (.bool false) ∧ Below V.heap.size V w')) :
    Calls Tryz.prog 92 #[.agg #[.bool dn, .slice A n c, .int .i64 de, .int .i64 t, .bool nz], .int .i64 mode, .int .i64 p] w (RoX w ln lx le true) := by
  have HF := Lib.hid hf
  have HF2 := Lib.hid hf2
  have q1 : IntKind.i64.wrap (p + 1) = p + 1 := IntWalk.i64_in _ (by omega)
  clear hf hf2
  go_enter Tryz.func92, Tryz.ntmps92
  go_wp2_with fail
  obtain ⟨V, hV, z0, z1, BW, sW⟩ := nrframe w 121 48 dn A n c de t nz
  rw [hV]
  clear hV sW
  replace hT := hT.on BW
  replace h := h.on BW
  obtain ⟨z0c0, z0c1, z0c2, z0c3, z0c4, z0f0, z0f1, z0f2, z0f3, z0f4, z0l⟩ := z0.cells
  obtain ⟨z1c0, z1c1, z1c2, z1f0, z1f1, z1f2, z1l⟩ := z1.cells
  go_wp2_with fail
  refine (dfloor_as h hs hT HF.out).mono ?_
  rintro en w1 ⟨V_rl, v_rl, rfl, rl, b⟩
  clear z0c0 z0c1 z0c2 z0c3 z0c4 z0f0 z0f1 z0f2 z0f3 z0f4 z0l z1c0 z1c1 z1c2 z1f0 z1f1 z1f2 z1l
  replace z0 := z0.on b
  replace z1 := z1.on b
  replace hT := hT.on b
  replace h := h.on b
  replace BW := Below.step BW b
  clear b
  have ll := res_n_le rl (k := 128) (by omega)
  obtain ⟨z0c0, z0c1, z0c2, z0c3, z0c4, z0f0, z0f1, z0f2, z0f3, z0f4, z0l⟩ := z0.cells
  obtain ⟨z1c0, z1c1, z1c2, z1f0, z1f1, z1f2, z1l⟩ := z1.cells
  go_upto_region 2 with fail
  clear z0c0 z0c1 z0c2 z0c3 z0c4 z0f0 z0f1 z0f2 z0f3 z0f4 z0l z1c0 z1c1 z1c2 z1f0 z1f1 z1f2 z1l
  obtain ⟨w2, e_w2⟩ : ∃ w', w1.alloc (dob ln V_rl v_rl v_rl le 48) = w' := ⟨_, rfl⟩
  have b : Below w1.heap.size w1 w2 := e_w2 ▸ below_lit _ _
  have hs_w2 : w2.heap.size = w1.heap.size + 1 := e_w2 ▸ size_lit w1 _ rfl
  have zl : DB w2 w1.heap.size 48 ln V_rl v_rl v_rl le := e_w2 ▸ DB.made w1 rfl 48 ln V_rl v_rl v_rl le
  rw [e_w2]
  clear e_w2
  replace z0 := z0.on b
  replace z1 := z1.on b
  replace hT := hT.on b
  replace h := h.on b
  replace rl := rl.on b
  replace BW := Below.step BW b
  clear b
  clear hs_w2
  obtain ⟨z0c0, z0c1, z0c2, z0c3, z0c4, z0f0, z0f1, z0f2, z0f3, z0f4, z0l⟩ := z0.cells
  obtain ⟨z1c0, z1c1, z1c2, z1f0, z1f1, z1f2, z1l⟩ := z1.cells
  obtain ⟨zlc0, zlc1, zlc2, zlf0, zlf1, zlf2, zll⟩ := zl.cells
  go_wp2_with fail
  refine (dfloor_as (rl.arg (by omega)) (by omega) hT HF2.out).mono ?_
  rintro en w3 ⟨V_rm, v_rm, rfl, rm, b⟩
  clear z0c0 z0c1 z0c2 z0c3 z0c4 z0f0 z0f1 z0f2 z0f3 z0f4 z0l z1c0 z1c1 z1c2 z1f0 z1f1 z1f2 z1l zlc0 zlc1 zlc2 zlf0 zlf1 zlf2 zll
  replace z0 := z0.on b
  replace z1 := z1.on b
  replace hT := hT.on b
  replace h := h.on b
  replace rl := rl.on b
  replace zl := zl.on b
  replace BW := Below.step BW b
  clear b
  obtain ⟨z0c0, z0c1, z0c2, z0c3, z0c4, z0f0, z0f1, z0f2, z0f3, z0f4, z0l⟩ := z0.cells
  obtain ⟨z1c0, z1c1, z1c2, z1f0, z1f1, z1f2, z1l⟩ := z1.cells
  obtain ⟨zlc0, zlc1, zlc2, zlf0, zlf1, zlf2, zll⟩ := zl.cells
  go_upto_region 5 with fail
  clear z0c0 z0c1 z0c2 z0c3 z0c4 z0f0 z0f1 z0f2 z0f3 z0f4 z0l z1c0 z1c1 z1c2 z1f0 z1f1 z1f2 z1l zlc0 zlc1 zlc2 zlf0 zlf1 zlf2 zll
  obtain ⟨w4, e_w4⟩ : ∃ w', w3.alloc (dob mn V_rm v_rm v_rm me 48) = w' := ⟨_, rfl⟩
  have b : Below w3.heap.size w3 w4 := e_w4 ▸ below_lit _ _
  have hs_w4 : w4.heap.size = w3.heap.size + 1 := e_w4 ▸ size_lit w3 _ rfl
  have zm : DB w4 w3.heap.size 48 mn V_rm v_rm v_rm me := e_w4 ▸ DB.made w3 rfl 48 mn V_rm v_rm v_rm me
  rw [e_w4]
  clear e_w4
  replace z0 := z0.on b
  replace z1 := z1.on b
  replace hT := hT.on b
  replace h := h.on b
  replace rl := rl.on b
  replace zl := zl.on b
  replace rm := rm.on b
  replace BW := Below.step BW b
  clear b
  clear hs_w4
  clear zm rm
  replace z0 := z0.on ((Below.refl _ _).drew : Below w4.heap.size w4 w4.drew)
  replace z1 := z1.on ((Below.refl _ _).drew : Below w4.heap.size w4 w4.drew)
  replace hT := hT.on ((Below.refl _ _).drew : Below w4.heap.size w4 w4.drew)
  replace h := h.on ((Below.refl _ _).drew : Below w4.heap.size w4 w4.drew)
  replace rl := rl.on ((Below.refl _ _).drew : Below w4.heap.size w4 w4.drew)
  replace zl := zl.on ((Below.refl _ _).drew : Below w4.heap.size w4 w4.drew)
  replace BW := Lib.hid (Below.step BW ((Below.refl _ _).drew : Below w4.heap.size w4 w4.drew))
  go_region_held3 (fun w' => w'.cell? ⟨w.heap.size, 0, none⟩ = some (.bool dn) ∧ w'.cell? ⟨w.heap.size, 1, none⟩ = some (.slice A n c) ∧ w'.cell? ⟨w.heap.size, 2, none⟩ = some (.int .i64 de) ∧ w'.cell? ⟨w.heap.size, 3, none⟩ = some (.int .i64 t) ∧ w'.cell? ⟨w.heap.size, 4, none⟩ = some (.bool nz) ∧ w'.cell? ⟨w1.heap.size, 0, none⟩ = some (.bool ln) ∧ w'.cell? ⟨w1.heap.size, 1, none⟩ = some (.slice V_rl v_rl v_rl) ∧ w'.cell? ⟨w1.heap.size, 2, none⟩ = some (.int .i64 le))
    ((exact ⟨z0.cells.1, z0.cells.2.1, z0.cells.2.2.1, z0.cells.2.2.2.1, z0.cells.2.2.2.2.1, zl.cells.1, zl.cells.2.1, zl.cells.2.2.1⟩))
    (first
      | (go_at_call 121
         (with_reducible refine (HH.out _ V_rl v_rl h (rl.arg (by omega)) hT (by omega)).mono ?_)
         rintro en w5 ⟨rfl, b⟩
         replace z0 := z0.on b
         replace z1 := z1.on b
         replace hT := hT.on b
         replace h := h.on b
         replace rl := rl.on b
         replace zl := zl.on b
         replace BW := Lib.hid (Below.step BW.out b)
         clear b)
      | (go_at_call 120
         (with_reducible refine (HG.out _).mono ?_)
         rintro en w6 ⟨rfl, b⟩
         replace z0 := z0.on b
         replace z1 := z1.on b
         replace hT := hT.on b
         replace h := h.on b
         replace rl := rl.on b
         replace zl := zl.on b
         replace BW := Lib.hid (Below.step BW.out b)
         clear b))
  replace BW := BW.out
  all_goals (
    obtain ⟨z1c0, z1c1, z1c2, z1f0, z1f1, z1f2, z1l⟩ := z1.cells
    obtain ⟨zlc0, zlc1, zlc2, zlf0, zlf1, zlf2, zll⟩ := zl.cells
    go_wp2_with fail
    have y2 := z1.put_d ln V_rl v_rl v_rl le
    have yl := z1.res rl (.bool ln) (.slice V_rl v_rl v_rl) (.int .i64 le)
    have yb := below_put3 BW (show w.heap.size ≤ (w.heap.size + 1) by omega) (.bool ln) (.slice V_rl v_rl v_rl) (.int .i64 le)
    obtain ⟨p0, p1, p2, _⟩ := y2.cells
    refine bodyPost_ret (v := .tuple #[.agg #[.bool ln, .slice V_rl v_rl v_rl, .int .i64 le], .bool true]) (by simp [results, Tryz.results92, go_sem, p0, p1, p2]) rfl ?_
    exact ⟨_, _, rfl, yl, yb⟩)
set_option maxHeartbeats 2000000 in
theorem rounded_up {dn nz : Bool} {A : Option Addr} {n c : Nat} {de t : Int} {x : Nat} {w : World} (h : Arg w A n c x) (hs : n ≤ 30000) (hT : Tab w) (mode : Int) {p : Int} {ln : Bool} {lx : Nat} {le : Int} (p1 : -10000 ≤ p) (p2 : p ≤ 10000) (hf : floorS ⟨dn, x, de⟩ p = (⟨ln, lx, le⟩, true, 0)) (hlx : blen lx ≤ 4096) {mn : Bool} {mx : Nat} {me : Int} {odd : Bool} (hf2 : floorS ⟨ln, lx, le⟩ (p + 1) = (⟨mn, mx, me⟩, odd, 0)) {q : Int}
    (HH : Hid (∀ (V : World) (A2 : Option Addr) (n2 : Nat), Arg V A n c x → Arg V A2 n2 n2 lx → Tab V → n2 ≤ 30000 → Calls Tryz.prog 121 #[.agg #[.bool dn, .slice A n c, .int .i64 de, .int .i64 t, .bool nz], .agg #[.bool ln, .slice A2 n2 n2, .int .i64 le], .int .i64 p] V fun en w' => en = .returned (.int .i64 q) ∧ Below V.heap.size V w')) (HG : Hid (∀ (V : World), Calls Tryz.prog 120 #[.int .i64 mode, .bool dn, .int .i64 q, .bool odd] V fun en w' => en = .returned (.bool true) ∧ Below V.heap.size V w')) {rn : Bool} {rx : Nat} {re : Int}
    (HW : Hid (∀ (V : World) (A2 : Option Addr) (n2 : Nat), Arg V A2 n2 n2 lx → Tab V → n2 ≤ 30000 → Calls Tryz.prog 122 #[.agg #[.bool dn, .slice A n c, .int .i64 de, .int .i64 t, .bool nz], .agg #[.bool ln, .slice A2 n2 n2, .int .i64 le], .int .i64 p] V (PlX V rn rx re))) :
    Calls Tryz.prog 92 #[.agg #[.bool dn, .slice A n c, .int .i64 de, .int .i64 t, .bool nz], .int .i64 mode, .int .i64 p] w (RoX w rn rx re true) := by
  have HF := Lib.hid hf
  have HF2 := Lib.hid hf2
  have q1 : IntKind.i64.wrap (p + 1) = p + 1 := IntWalk.i64_in _ (by omega)
  clear hf hf2
  go_enter Tryz.func92, Tryz.ntmps92
  go_wp2_with fail
  obtain ⟨V, hV, z0, z1, BW, sW⟩ := nrframe w 121 48 dn A n c de t nz
  rw [hV]
  clear hV sW
  replace hT := hT.on BW
  replace h := h.on BW
  obtain ⟨z0c0, z0c1, z0c2, z0c3, z0c4, z0f0, z0f1, z0f2, z0f3, z0f4, z0l⟩ := z0.cells
  obtain ⟨z1c0, z1c1, z1c2, z1f0, z1f1, z1f2, z1l⟩ := z1.cells
  go_wp2_with fail
  refine (dfloor_as h hs hT HF.out).mono ?_
  rintro en w1 ⟨V_rl, v_rl, rfl, rl, b⟩
  clear z0c0 z0c1 z0c2 z0c3 z0c4 z0f0 z0f1 z0f2 z0f3 z0f4 z0l z1c0 z1c1 z1c2 z1f0 z1f1 z1f2 z1l
  replace z0 := z0.on b
  replace z1 := z1.on b
  replace hT := hT.on b
  replace h := h.on b
  replace BW := Below.step BW b
  clear b
  have ll := res_n_le rl (k := 128) (by omega)
  obtain ⟨z0c0, z0c1, z0c2, z0c3, z0c4, z0f0, z0f1, z0f2, z0f3, z0f4, z0l⟩ := z0.cells
  obtain ⟨z1c0, z1c1, z1c2, z1f0, z1f1, z1f2, z1l⟩ := z1.cells
  go_upto_region 2 with fail
  clear z0c0 z0c1 z0c2 z0c3 z0c4 z0f0 z0f1 z0f2 z0f3 z0f4 z0l z1c0 z1c1 z1c2 z1f0 z1f1 z1f2 z1l
  obtain ⟨w2, e_w2⟩ : ∃ w', w1.alloc (dob ln V_rl v_rl v_rl le 48) = w' := ⟨_, rfl⟩
  have b : Below w1.heap.size w1 w2 := e_w2 ▸ below_lit _ _
  have hs_w2 : w2.heap.size = w1.heap.size + 1 := e_w2 ▸ size_lit w1 _ rfl
  have zl : DB w2 w1.heap.size 48 ln V_rl v_rl v_rl le := e_w2 ▸ DB.made w1 rfl 48 ln V_rl v_rl v_rl le
  rw [e_w2]
  clear e_w2
  replace z0 := z0.on b
  replace z1 := z1.on b
  replace hT := hT.on b
  replace h := h.on b
  replace rl := rl.on b
  replace BW := Below.step BW b
  clear b
  clear hs_w2
  obtain ⟨z0c0, z0c1, z0c2, z0c3, z0c4, z0f0, z0f1, z0f2, z0f3, z0f4, z0l⟩ := z0.cells
  obtain ⟨z1c0, z1c1, z1c2, z1f0, z1f1, z1f2, z1l⟩ := z1.cells
  obtain ⟨zlc0, zlc1, zlc2, zlf0, zlf1, zlf2, zll⟩ := zl.cells
  go_wp2_with fail
  refine (dfloor_as (rl.arg (by omega)) (by omega) hT HF2.out).mono ?_
  rintro en w3 ⟨V_rm, v_rm, rfl, rm, b⟩
  clear z0c0 z0c1 z0c2 z0c3 z0c4 z0f0 z0f1 z0f2 z0f3 z0f4 z0l z1c0 z1c1 z1c2 z1f0 z1f1 z1f2 z1l zlc0 zlc1 zlc2 zlf0 zlf1 zlf2 zll
  replace z0 := z0.on b
  replace z1 := z1.on b
  replace hT := hT.on b
  replace h := h.on b
  replace rl := rl.on b
  replace zl := zl.on b
  replace BW := Below.step BW b
  clear b
  obtain ⟨z0c0, z0c1, z0c2, z0c3, z0c4, z0f0, z0f1, z0f2, z0f3, z0f4, z0l⟩ := z0.cells
  obtain ⟨z1c0, z1c1, z1c2, z1f0, z1f1, z1f2, z1l⟩ := z1.cells
  obtain ⟨zlc0, zlc1, zlc2, zlf0, zlf1, zlf2, zll⟩ := zl.cells
  go_upto_region 5 with fail
  clear z0c0 z0c1 z0c2 z0c3 z0c4 z0f0 z0f1 z0f2 z0f3 z0f4 z0l z1c0 z1c1 z1c2 z1f0 z1f1 z1f2 z1l zlc0 zlc1 zlc2 zlf0 zlf1 zlf2 zll
  obtain ⟨w4, e_w4⟩ : ∃ w', w3.alloc (dob mn V_rm v_rm v_rm me 48) = w' := ⟨_, rfl⟩
  have b : Below w3.heap.size w3 w4 := e_w4 ▸ below_lit _ _
  have hs_w4 : w4.heap.size = w3.heap.size + 1 := e_w4 ▸ size_lit w3 _ rfl
  have zm : DB w4 w3.heap.size 48 mn V_rm v_rm v_rm me := e_w4 ▸ DB.made w3 rfl 48 mn V_rm v_rm v_rm me
  rw [e_w4]
  clear e_w4
  replace z0 := z0.on b
  replace z1 := z1.on b
  replace hT := hT.on b
  replace h := h.on b
  replace rl := rl.on b
  replace zl := zl.on b
  replace rm := rm.on b
  replace BW := Below.step BW b
  clear b
  clear hs_w4
  clear zm rm
  replace z0 := z0.on ((Below.refl _ _).drew : Below w4.heap.size w4 w4.drew)
  replace z1 := z1.on ((Below.refl _ _).drew : Below w4.heap.size w4 w4.drew)
  replace hT := hT.on ((Below.refl _ _).drew : Below w4.heap.size w4 w4.drew)
  replace h := h.on ((Below.refl _ _).drew : Below w4.heap.size w4 w4.drew)
  replace rl := rl.on ((Below.refl _ _).drew : Below w4.heap.size w4 w4.drew)
  replace zl := zl.on ((Below.refl _ _).drew : Below w4.heap.size w4 w4.drew)
  replace BW := Lib.hid (Below.step BW ((Below.refl _ _).drew : Below w4.heap.size w4 w4.drew))
  go_region_held3 (fun w' => w'.cell? ⟨w.heap.size, 0, none⟩ = some (.bool dn) ∧ w'.cell? ⟨w.heap.size, 1, none⟩ = some (.slice A n c) ∧ w'.cell? ⟨w.heap.size, 2, none⟩ = some (.int .i64 de) ∧ w'.cell? ⟨w.heap.size, 3, none⟩ = some (.int .i64 t) ∧ w'.cell? ⟨w.heap.size, 4, none⟩ = some (.bool nz) ∧ w'.cell? ⟨w1.heap.size, 0, none⟩ = some (.bool ln) ∧ w'.cell? ⟨w1.heap.size, 1, none⟩ = some (.slice V_rl v_rl v_rl) ∧ w'.cell? ⟨w1.heap.size, 2, none⟩ = some (.int .i64 le))
    ((exact ⟨z0.cells.1, z0.cells.2.1, z0.cells.2.2.1, z0.cells.2.2.2.1, z0.cells.2.2.2.2.1, zl.cells.1, zl.cells.2.1, zl.cells.2.2.1⟩))
    (first
      | (go_at_call 121
         (with_reducible refine (HH.out _ V_rl v_rl h (rl.arg (by omega)) hT (by omega)).mono ?_)
         rintro en w5 ⟨rfl, b⟩
         replace z0 := z0.on b
         replace z1 := z1.on b
         replace hT := hT.on b
         replace h := h.on b
         replace rl := rl.on b
         replace zl := zl.on b
         replace BW := Lib.hid (Below.step BW.out b)
         clear b)
      | (go_at_call 120
         (with_reducible refine (HG.out _).mono ?_)
         rintro en w6 ⟨rfl, b⟩
         replace z0 := z0.on b
         replace z1 := z1.on b
         replace hT := hT.on b
         replace h := h.on b
         replace rl := rl.on b
         replace zl := zl.on b
         replace BW := Lib.hid (Below.step BW.out b)
         clear b))
  replace BW := BW.out
  all_goals (
    obtain ⟨z0c0, z0c1, z0c2, z0c3, z0c4, z0f0, z0f1, z0f2, z0f3, z0f4, z0l⟩ := z0.cells
    obtain ⟨z1c0, z1c1, z1c2, z1f0, z1f1, z1f2, z1l⟩ := z1.cells
    obtain ⟨zlc0, zlc1, zlc2, zlf0, zlf1, zlf2, zll⟩ := zl.cells
    go_wp2_with fail
    refine (HW.out _ V_rl v_rl (rl.arg (by omega)) hT (by omega)).mono ?_
    rintro en w7 ⟨V_rr, v_rr, rfl, rr, b⟩
    clear z0c0 z0c1 z0c2 z0c3 z0c4 z0f0 z0f1 z0f2 z0f3 z0f4 z0l z1c0 z1c1 z1c2 z1f0 z1f1 z1f2 z1l zlc0 zlc1 zlc2 zlf0 zlf1 zlf2 zll
    replace z0 := z0.on b
    replace z1 := z1.on b
    replace hT := hT.on b
    replace h := h.on b
    replace rl := rl.on b
    replace zl := zl.on b
    replace BW := Below.step BW b
    clear b
    obtain ⟨z1c0, z1c1, z1c2, z1f0, z1f1, z1f2, z1l⟩ := z1.cells
    obtain ⟨zlc0, zlc1, zlc2, zlf0, zlf1, zlf2, zll⟩ := zl.cells
    go_wp2_with fail
    have y2 := z1.put_d rn V_rr v_rr v_rr re
    have yl := z1.res rr (.bool rn) (.slice V_rr v_rr v_rr) (.int .i64 re)
    have yb := below_put3 BW (show w.heap.size ≤ (w.heap.size + 1) by omega) (.bool rn) (.slice V_rr v_rr v_rr) (.int .i64 re)
    obtain ⟨p0, p1, p2, _⟩ := y2.cells
    refine bodyPost_ret (v := .tuple #[.agg #[.bool rn, .slice V_rr v_rr v_rr, .int .i64 re], .bool true]) (by simp [results, Tryz.results92, go_sem, p0, p1, p2]) rfl ?_
    exact ⟨_, _, rfl, yl, yb⟩)
end Go.Proofs.YtpachoeignpcbaaGreatDoor

namespace Go.Proofs.YtpachoeignpcbaaGreatDoor
open Go.RowKit
set_option linter.unusedVariables false

theorem pl_sgn (neg : Bool) (n : Nat) (p : Int) : (D.pl ⟨neg, n, p⟩).x = (D.pl ⟨false, n, p⟩).x ∧ (D.pl ⟨neg, n, p⟩).e = (D.pl ⟨false, n, p⟩).e := by
  by_cases h0 : n = 0
  · rw [D.pl_zero (d := ⟨neg, n, p⟩) h0, D.pl_zero (d := ⟨false, n, p⟩) h0]
    exact ⟨rfl, rfl⟩
  · rw [D.pl_pos (d := ⟨neg, n, p⟩) h0, D.pl_pos (d := ⟨false, n, p⟩) h0]
    exact ⟨rfl, rfl⟩
theorem sz_vl (neg : Bool) (n : Nat) (p : Int) : (⟨neg, n, p⟩ : D).vl = if neg then -((n * 2 ^ (p + 40000).toNat : Nat) : Int) else ((n * 2 ^ (p + 40000).toNat : Nat) : Int) := by
  unfold D.vl D.sz
  simp only
  cases neg
  · simp
  · simp [Int.neg_mul]
/-- a multiple of a place, of either sign. -/
theorem ns_may {n : Nat} {p : Int} (neg : Bool) (hn : n ≤ 18446744073709551615) (h1 : -2000 ≤ p) (h2 : p ≤ 8000) : (D.pl ⟨neg, n, p⟩).may = true ∧ (D.pl ⟨neg, n, p⟩).plain ∧ -2000 ≤ (D.pl ⟨neg, n, p⟩).e ∧ blen (D.pl ⟨neg, n, p⟩).x ≤ 64 ∧ (D.pl ⟨neg, n, p⟩).e ≤ 8064 ∧ (D.pl ⟨neg, n, p⟩).vl = (⟨neg, n, p⟩ : D).vl ∧ (D.pl ⟨neg, n, p⟩).vl.natAbs = n * 2 ^ (p + 40000).toNat := by
  obtain ⟨k1, _, k3, _, k5, _, k7⟩ := nb_may (n := n) hn h1 h2
  obtain ⟨e1, e2⟩ := pl_sgn neg n p
  rw [← e1] at k5
  rw [← e2] at k3 k7
  have hv := D.pl_vl (d := ⟨neg, n, p⟩) (by show -40000 ≤ p; omega)
  refine ⟨?_, D.pl_plain _, k3, k5, k7, hv, by rw [hv, D.vl_natAbs]⟩
  rw [D.may_iff] at k1 ⊢
  rw [e1, e2]
  exact k1
/-- the neighbour away from 0. -/
theorem ns_next (neg : Bool) {n : Nat} {p : Int} (hn : n < 18446744073709551615) (h1 : -2000 ≤ p) (h2 : p ≤ 8000) : addS (D.pl ⟨neg, n, p⟩) ⟨neg, 1, p⟩ = (D.pl ⟨neg, n + 1, p⟩, 0) := by
  obtain ⟨m1, m2, m3, m4, m5, m6, m7⟩ := ns_may (n := n) neg (by omega) h1 h2
  obtain ⟨k1, k2, k3, k4, k5, k6, k7⟩ := ns_may (n := n + 1) neg (by omega) h1 h2
  have mo : (⟨neg, 1, p⟩ : D).may = true := may_small (by show 1 < 18446744073709551616; omega) (by show -8192 ≤ p; omega) (by show p ≤ 8192; omega)
  rw [addS_ok m1 mo]
  have h := D.add_of (a := D.pl ⟨neg, n, p⟩) (b := ⟨neg, 1, p⟩) (c := D.pl ⟨neg, n + 1, p⟩) (by omega) (by show -40000 ≤ p; omega) (by omega) k2 (by
    rw [k6, m6, sz_vl, sz_vl, sz_vl]
    generalize 2 ^ (p + 40000).toNat = U
    rw [Nat.add_mul]
    cases neg
    · simp only [Bool.false_eq_true, if_false]; omega
    · simp only [if_true]; omega)
  rw [← h, tld_ok k1]
/-- a number that isn't 0, towards 0 to a place. -/
theorem pl_floor {a : D} (hm : mayR a = true) (h0 : a.x ≠ 0) {p : Int} (h1 : -2000 ≤ p) (h2 : p ≤ 8000) :
    floorS a.pl p = (D.pl ⟨a.neg, a.vl.natAbs / 2 ^ (p + 40000).toNat, p⟩, decide (a.vl.natAbs % 2 ^ (p + 40000).toNat ≠ 0), 0) := by
  obtain ⟨k1, k2, k3, k4⟩ := mayR_bd hm h0
  have h := floor_units k2 ((plB_iff p).2 ⟨by omega, by omega⟩)
  rw [pl_vl_abs (by omega)] at h
  rw [h, D.pl_pos h0]
theorem half_math {A T U : Nat} (hU : 0 < U) (hT : T = 2 * U) (hr : A % T ≠ 0) {near : Int} (hn : cmpI ((2 * (A % T) : Nat) : Int) (T : Int) = near) :
    (if decide (A / U * U = A / T * T) then -1 else if decide (A % U ≠ 0) then 1 else 0) = near := by
  subst hT
  have h1 := Nat.div_add_mod A (2 * U)
  have h2 := Nat.div_add_mod A U
  have h3 := Nat.mod_lt A (show 0 < 2 * U by omega)
  have h4 := Nat.mod_lt A hU
  have h5 : A / (2 * U) = A / U / 2 := by rw [Nat.mul_comm, Nat.div_div_eq_div_mul]
  have hc := cmpI_cases ((2 * (A % (2 * U)) : Nat) : Int) ((2 * U : Nat) : Int)
  rw [hn] at hc
  generalize hq : A / (2 * U) = q at *
  generalize hg : A / U = g at *
  generalize hrr : A % (2 * U) = r at *
  generalize hs : A % U = s at *
  have e1 : 2 * U * q = 2 * (U * q) := Nat.mul_assoc _ _ _
  have e2 : q * (2 * U) = 2 * (U * q) := by rw [Nat.mul_comm, e1]
  have e3 : g * U = U * g := Nat.mul_comm _ _
  rw [e2, e3]
  rw [e1] at h1
  obtain h6 | h6 : g = 2 * q ∨ g = 2 * q + 1 := by omega
  · rw [h6, Nat.mul_left_comm] at h2 ⊢
    rw [if_pos (by simp)]
    omega
  · rw [h6, Nat.mul_add, Nat.mul_left_comm, Nat.mul_one] at h2 ⊢
    rw [if_neg (by simp; omega)]
    by_cases h7 : s = 0
    · rw [if_neg (by simp [h7])]
      omega
    · rw [if_pos (by simp [h7])]
      omega
/-- ROUNDED: the neighbour that the mode has, and whether something is lost. -/
theorem rounded_as {B P W M E H : Nat} {low : Int} (hf : Fm B P W M E H low) {nz : Bool} {A : Option Addr} {n c : Nat} {t : Int} {w : World} {a : D} (hm : mayR a = true) (h0 : a.x ≠ 0) {dn : Bool} {dx : Nat} {de : Int} (hd : D.pl a = ⟨dn, dx, de⟩)
    (h : Arg w A n c dx) (hs : n ≤ 30000) (hT : Tab w) (mode : Int) {p : Int} (hp : plcS P low a = p) {lost : Bool} (hl : decide (a.vl.natAbs % 2 ^ (p + 40000).toNat ≠ 0) = lost) {rn : Bool} {rx : Nat} {re : Int}
    (hr : D.pl ⟨a.neg, a.vl.natAbs / 2 ^ (p + 40000).toNat + (if upB mode a.neg (flC P M low a.vl.natAbs) (a.vl.natAbs - valU M low (flC P M low a.vl.natAbs)) (wid M low (flC P M low a.vl.natAbs)) then 1 else 0), p⟩ = ⟨rn, rx, re⟩) :
    Calls Tryz.prog 92 #[.agg #[.bool dn, .slice A n c, .int .i64 de, .int .i64 t, .bool nz], .int .i64 mode, .int .i64 p] w (RoX w rn rx re lost) := by
  obtain ⟨b1, b2, b3, b4, b5, b6, b7, b8, b9, b10, b11, b12, b13, b14, b15⟩ := hf.bd
  obtain ⟨k1, k2, k3, k4⟩ := mayR_bd hm h0
  obtain ⟨p1, p2⟩ := plc_bd hf hm h0
  have hplc := plc_cell (P := P) (low := low) h0 (by omega)
  rw [hp] at p1 p2 hplc
  obtain ⟨hq, hpar⟩ := flq hf a.vl.natAbs
  obtain ⟨fs1, fs2⟩ := flC_spec hf a.vl.natAbs
  rw [← hplc] at hq hpar fs1 fs2
  rw [fs1, fs2] at hr
  have hdn : dn = a.neg := by
    have := D.pl_pos h0
    rw [hd] at this
    simp only [D.mk.injEq] at this
    exact this.1
  subst hdn
  have hfl := pl_floor hm h0 (p := p) (by omega) (by omega)
  have hfh := pl_floor hm h0 (p := p - 1) (by omega) (by omega)
  rw [hd] at hfl hfh
  obtain ⟨Z, hZ⟩ : ∃ Z, a.vl.natAbs = Z := ⟨_, rfl⟩
  rw [hZ] at hfl hfh hr hq hpar hl
  obtain ⟨T, hT'⟩ : ∃ T, 2 ^ (p + 40000).toNat = T := ⟨_, rfl⟩
  obtain ⟨U, hU⟩ : ∃ U, 2 ^ (p - 1 + 40000).toNat = U := ⟨_, rfl⟩
  have hU0 : 0 < U := by rw [← hU]; exact Nat.two_pow_pos _
  have hTU : T = 2 * U := by rw [← hT', ← hU, show (p + 40000).toNat = (p - 1 + 40000).toNat + 1 by omega, Nat.pow_succ, Nat.mul_comm]
  rw [hT'] at hfl hr hq hpar hl
  rw [hU] at hfh
  obtain ⟨c0, hc0⟩ : ∃ c0, flC P M low Z = c0 := ⟨_, rfl⟩
  rw [hc0] at hr
  rw [hc0] at hpar
  obtain ⟨q, hqq⟩ : ∃ q, Z / T = q := ⟨_, rfl⟩
  have hdm := Nat.div_add_mod Z T
  rw [hqq] at hfl hr hq hpar hdm
  rw [show Z - q * T = Z % T by rw [Nat.mul_comm]; omega] at hr
  obtain ⟨ln, lx, le, hlow⟩ : ∃ ln lx le, D.pl ⟨a.neg, q, p⟩ = ⟨ln, lx, le⟩ := ⟨_, _, _, rfl⟩
  obtain ⟨l1, l2, l3, l4, l5, l6, l7⟩ := ns_may (n := q) a.neg (p := p) (by omega) (by omega) (by omega)
  rw [hlow] at hfl l1 l2 l3 l4 l5 l6 l7
  simp only at l3 l4 l5
  by_cases hz : Z % T = 0
  · rw [show upB mode a.neg c0 (Z % T) T = false by unfold upB; rw [if_pos hz], if_neg (by decide), Nat.add_zero, hlow] at hr
    simp only [D.mk.injEq] at hr
    obtain ⟨rfl, rfl, rfl⟩ := hr
    rw [decide_eq_false (by simpa using hz)] at hfl hl
    subst hl
    exact rounded_same h hs hT mode hfl (by omega)
  · rw [decide_eq_true hz] at hfl hl
    subst hl
    -- odd
    have ho := floor_units l1 ((plB_iff (p + 1)).2 ⟨by omega, by omega⟩)
    rw [l7, hT', show 2 ^ (p + 1 + 40000).toNat = T * 2 by rw [← hT', show (p + 1 + 40000).toNat = (p + 40000).toNat + 1 by omega, Nat.pow_succ]] at ho
    rw [show decide (q * T % (T * 2) ≠ 0) = decide (q % 2 ≠ 0) by
      rw [Nat.mul_comm q T, Nat.mul_mod_mul_left]
      have : 0 < T := by omega
      refine decide_eq_decide.2 ⟨fun h hx => h (by rw [hx, Nat.mul_zero]), fun h hx => h ?_⟩
      rcases Nat.mul_eq_zero.1 hx with h1 | h1
      · omega
      · exact h1] at ho
    obtain ⟨mn, mx, me, hmm⟩ : ∃ mn mx me, D.pl ⟨ln, q * T / (T * 2), p + 1⟩ = ⟨mn, mx, me⟩ := ⟨_, _, _, rfl⟩
    simp only at ho
    rw [hmm] at ho
    -- half
    obtain ⟨g, hg⟩ : ∃ g, Z / U = g := ⟨_, rfl⟩
    have hgq : g ≤ 2 * q + 1 := by
      have h5 : Z / (2 * U) = Z / U / 2 := by rw [Nat.mul_comm, Nat.div_div_eq_div_mul]
      rw [← hTU, hqq, hg] at h5
      omega
    rw [hg] at hfh
    obtain ⟨hn, hx, he, hhh⟩ : ∃ hn hx he, D.pl ⟨a.neg, g, p - 1⟩ = ⟨hn, hx, he⟩ := ⟨_, _, _, rfl⟩
    obtain ⟨g1, g2, g3, g4, g5, g6, g7⟩ := ns_may (n := g) a.neg (p := p - 1) (by omega) (by omega) (by omega)
    rw [hhh] at hfh g1 g2 g3 g4 g5 g6 g7
    simp only at g3 g4 g5
    obtain ⟨near, hne⟩ : ∃ near, cmpI ((2 * (Z % T) : Nat) : Int) (T : Int) = near := ⟨_, rfl⟩
    have hn3 : near = -1 ∨ near = 0 ∨ near = 1 := by
      have := cmpI_cases ((2 * (Z % T) : Nat) : Int) (T : Int)
      rw [hne] at this
      omega
    have hhm := half_math hU0 hTU hz hne
    rw [hg, hqq] at hhm
    have hsame : decide ((⟨hn, hx, he⟩ : D).vl = (⟨ln, lx, le⟩ : D).vl) = decide (g * U = q * T) := by
      rw [g6, l6, sz_vl, sz_vl, hU, hT']
      refine decide_eq_decide.2 ?_
      cases a.neg
      · simp only [Bool.false_eq_true, if_false]; omega
      · simp only [if_true]; omega
    have hup : upR mode a.neg near (!decide (q % 2 ≠ 0)) = upB mode a.neg c0 (Z % T) T := by
      rw [show (!decide (q % 2 ≠ 0)) = decide (q % 2 = 0) by by_cases h : q % 2 = 0 <;> simp [h]]
      exact upR_upB hz hpar hne
    have HH := Lib.hid (fun (V : World) (A2 : Option Addr) (n2 : Nat) (g1' : Arg V A n c dx) (g2' : Arg V A2 n2 n2 lx) (g3' : Tab V) (g4' : n2 ≤ 30000) =>
      half_walk (nz := nz) (t := t) g1' hs g2' g4' g3' (by omega) (by omega) (decide (g * U = q * T)) (decide (Z % U ≠ 0)) near hfh (by omega) hhm g1 l1 hsame)
    cases hu : upB mode a.neg c0 (Z % T) T
    · rw [hu, if_neg (by decide), Nat.add_zero, hlow] at hr
      simp only [D.mk.injEq] at hr
      obtain ⟨rfl, rfl, rfl⟩ := hr
      exact rounded_down h hs hT mode (by omega) (by omega) hfl (by omega) ho HH (Lib.hid fun V => (goesAway_as mode a.neg near _ hn3 false (by rw [hup, hu]) V).mono fun e w' ⟨h1, h2⟩ => ⟨h1, h2 ▸ Below.refl _ _⟩)
    · rw [hu, if_pos rfl] at hr
      have hadd := ns_next a.neg (n := q) (p := p) (by omega) (by omega) (by omega)
      rw [hlow, hr] at hadd
      exact rounded_up h hs hT mode (by omega) (by omega) hfl (by omega) ho HH (Lib.hid fun V => (goesAway_as mode a.neg near _ hn3 true (by rw [hup, hu]) V).mono fun e w' ⟨h1, h2⟩ => ⟨h1, h2 ▸ Below.refl _ _⟩)
        (Lib.hid fun V A2 n2 g1' g2' g3' => away_as g1' g3' g2' hadd)
end Go.Proofs.YtpachoeignpcbaaGreatDoor
