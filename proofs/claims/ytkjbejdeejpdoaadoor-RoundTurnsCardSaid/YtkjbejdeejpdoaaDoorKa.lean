
/-
  The walk of round's take.
-/
import Derived.Test.YtkjbejdeejpdoaaDoorFval
import Derived.Test.YtkjbejdeejpdoaaDoorRmg
import Derived.Test.YtkjbejdeejpdoaaDoorDj
import Derived.Deep.DeepCutAuto
namespace Go.Proofs.YtkjbejdeejpdoaaDoor
open Go.RowKit
set_option linter.unusedVariables false

/-- block s is a variable of a number that may be rounded: five cells. -/
abbrev nob (neg : Bool) (A : Option Addr) (n c : Nat) (e t : Int) (z : Bool) (ty : TypeId) : Obj := .cells #[.bool neg, .slice A n c, .int .i64 e, .int .i64 t, .bool z] ty
def NB (w : World) (s : Nat) (ty : TypeId) (neg : Bool) (A : Option Addr) (n c : Nat) (e t : Int) (z : Bool) : Prop := Own w s ty [.bool neg, .slice A n c, .int .i64 e, .int .i64 t, .bool z]
section
variable {w w' : World} {s : Nat} {ty : TypeId} {neg : Bool} {A : Option Addr} {n c : Nat} {e t : Int} {z : Bool}
theorem NB.cells (h : NB w s ty neg A n c e t z) : w.cell? ⟨s, 0, none⟩ = some (.bool neg) ∧ w.cell? ⟨s, 1, none⟩ = some (.slice A n c) ∧ w.cell? ⟨s, 2, none⟩ = some (.int .i64 e) ∧ w.cell? ⟨s, 3, none⟩ = some (.int .i64 t) ∧ w.cell? ⟨s, 4, none⟩ = some (.bool z) ∧
    w.frozen? ⟨s, 0, none⟩ = false ∧ w.frozen? ⟨s, 1, none⟩ = false ∧ w.frozen? ⟨s, 2, none⟩ = false ∧ w.frozen? ⟨s, 3, none⟩ = false ∧ w.frozen? ⟨s, 4, none⟩ = false ∧ s < w.heap.size :=
  ⟨h.cell 0, h.cell 1, h.cell 2, h.cell 3, h.cell 4, h.free 0, h.free 1, h.free 2, h.free 3, h.free 4, h.lt⟩
theorem NB.on (h : NB w s ty neg A n c e t z) (hb : Below w.heap.size w w') : NB w' s ty neg A n c e t z := Own.below h hb (Own.lt h)
theorem NB.made (w : World) {s : Nat} (hs : w.heap.size = s) (ty : TypeId) (neg : Bool) (A : Option Addr) (n c : Nat) (e t : Int) (z : Bool) : NB (w.alloc (nob neg A n c e t z ty)) s ty neg A n c e t z := by
  subst hs; exact Own.made w ty [.bool neg, .slice A n c, .int .i64 e, .int .i64 t, .bool z]
theorem NB.alloc (h : NB w s ty neg A n c e t z) (o : Obj) : NB (w.alloc o) s ty neg A n c e t z := h.on ((Below.refl _ _).alloc (by simp) o)
end
/-- the variable is written. -/
abbrev put5 (w : World) (s : Nat) (a b c d e : Value) : World := ((((w.setCell ⟨s, 0, none⟩ a).setCell ⟨s, 1, none⟩ b).setCell ⟨s, 2, none⟩ c).setCell ⟨s, 3, none⟩ d).setCell ⟨s, 4, none⟩ e
theorem NB.put {w : World} {s : Nat} {ty : TypeId} {neg : Bool} {A : Option Addr} {n c : Nat} {e t : Int} {z : Bool} (h : NB w s ty neg A n c e t z) (neg' : Bool) (A' : Option Addr) (n' c' : Nat) (e' t' : Int) (z' : Bool) :
    NB (put5 w s (.bool neg') (.slice A' n' c') (.int .i64 e') (.int .i64 t') (.bool z')) s ty neg' A' n' c' e' t' z' :=
  ((((Own.put h 0 (.bool neg')).put 1 (.slice A' n' c')).put 2 (.int .i64 e')).put 3 (.int .i64 t')).put 4 (.bool z')
theorem NB.res {w : World} {s : Nat} {ty : TypeId} {neg : Bool} {A : Option Addr} {n c : Nat} {e t : Int} {z : Bool} (h : NB w s ty neg A n c e t z) {A1 : Option Addr} {m x : Nat} (hr : Res w A1 m x) (a b c' d e' : Value) : Res (put5 w s a b c' d e') A1 m x :=
  ((((hr.put (Own.cell h 0) (notU_bool _) a).put (Own.cell (Own.put h 0 a) 1) (notU_slice _ _ _) b).put (Own.cell (Own.put (Own.put h 0 a) 1 b) 2) (notU_int _) c').put (Own.cell (Own.put (Own.put (Own.put h 0 a) 1 b) 2 c') 3) (notU_int _) d).put (Own.cell (Own.put (Own.put (Own.put (Own.put h 0 a) 1 b) 2 c') 3 d) 4) (notU_bool _) e'
theorem below_put5 {B : Nat} {v w : World} (h : Below B v w) {s : Nat} (hs : B ≤ s) (a b c d e : Value) : Below B v (put5 w s a b c d e) := ((((h.setCell (p := ⟨s, 0, none⟩) hs a).setCell (p := ⟨s, 1, none⟩) hs b).setCell (p := ⟨s, 2, none⟩) hs c).setCell (p := ⟨s, 3, none⟩) hs d).setCell (p := ⟨s, 4, none⟩) hs e
theorem kframe (w : World) (t1 t2 : TypeId) (n : Bool) (A : Option Addr) (l k : Nat) (e : Int) : ∃ W, (w.alloc (dob n A l k e t1)).alloc (nob false none 0 0 0 0 false t2) = W ∧ DB W w.heap.size t1 n A l k e ∧ NB W (w.heap.size + 1) t2 false none 0 0 0 0 false ∧ Below w.heap.size w W ∧ W.heap.size = w.heap.size + 2 :=
  ⟨_, rfl, (DB.made w rfl t1 n A l k e).alloc _, NB.made _ (by simp) t2 false none 0 0 0 0 false, ((Below.refl _ _).alloc (by simp <;> omega) _).alloc (by simp <;> omega) _, by simp⟩
/-- what take tells. -/
def TkX (w : World) (dn : Bool) (dx : Nat) (de t : Int) (z : Bool) (err : Int) (en : Ending) (w' : World) : Prop :=
  ∃ A k, en = .returned (.tuple #[.agg #[.bool dn, .slice A k k, .int .i64 de, .int .i64 t, .bool z], .int .i64 err]) ∧ Res w' A k dx ∧ Below w.heap.size w w'
set_option maxHeartbeats 1000000 in
theorem take_range {A : Option Addr} {n c x : Nat} {neg : Bool} {e : Int} {w : World} (h : Arg w A n c x) (hs : n ≤ 30000) (hT : Tab w) (hd : plainS ⟨neg, x, e⟩ = (⟨false, 0, 0⟩, 3)) :
    Calls Tryd.prog 33 #[.agg #[.bool neg, .slice A n c, .int .i64 e]] w (TkX w false 0 0 0 false 3) := by
  have HD := Lib.hid hd
  clear hd
  go_enter Tryd.func33, Tryd.ntmps33
  go_wp2_with fail
  obtain ⟨V, hV, z0, z1, BW, sW⟩ := kframe w 25 73 neg A n c e
  rw [hV]
  clear hV sW
  replace hT := hT.on BW
  replace h := h.on BW
  refine (dplain_as h hs hT HD.out).mono ?_
  rintro en w1 ⟨V_rd, v_rd, rfl, rd, b⟩
  replace z0 := z0.on b
  replace z1 := z1.on b
  replace hT := hT.on b
  replace h := h.on b
  replace BW := Below.step BW b
  clear b
  obtain ⟨z0c0, z0c1, z0c2, z0f0, z0f1, z0f2, z0l⟩ := z0.cells
  obtain ⟨z1c0, z1c1, z1c2, z1c3, z1c4, z1f0, z1f1, z1f2, z1f3, z1f4, z1l⟩ := z1.cells
  go_upto_region 2 with fail
  clear z0c0 z0c1 z0c2 z0f0 z0f1 z0f2 z0l z1c0 z1c1 z1c2 z1c3 z1c4 z1f0 z1f1 z1f2 z1f3 z1f4 z1l
  obtain ⟨w2, e_w2⟩ : ∃ w', w1.alloc (dob false V_rd v_rd v_rd 0 25) = w' := ⟨_, rfl⟩
  have b : Below w1.heap.size w1 w2 := e_w2 ▸ below_lit _ _
  have hs_w2 : w2.heap.size = w1.heap.size + 1 := e_w2 ▸ size_lit w1 _ rfl
  have zp : DB w2 w1.heap.size 25 false V_rd v_rd v_rd 0 := e_w2 ▸ DB.made w1 rfl 25 false V_rd v_rd v_rd 0
  rw [e_w2]
  clear e_w2
  replace z0 := z0.on b
  replace z1 := z1.on b
  replace hT := hT.on b
  replace h := h.on b
  replace rd := rd.on b
  replace BW := Below.step BW b
  clear b
  clear hs_w2
  obtain ⟨z0c0, z0c1, z0c2, z0f0, z0f1, z0f2, z0l⟩ := z0.cells
  obtain ⟨z1c0, z1c1, z1c2, z1c3, z1c4, z1f0, z1f1, z1f2, z1f3, z1f4, z1l⟩ := z1.cells
  go_wp2_with fail
  have y1 := z1.put false none 0 0 0 0 false
  obtain ⟨p0, p1, p2, p3, p4, _⟩ := y1.cells
  refine bodyPost_ret (v := .tuple #[.agg #[.bool false, .slice none 0 0, .int .i64 0, .int .i64 0, .bool false], .int .i64 3]) (by simp [results, Tryd.results33, go_sem, p0, p1, p2, p3, p4]) rfl ?_
  exact ⟨_, _, rfl, Res.none_ _, below_put5 BW (by omega) _ _ _ _ _⟩
set_option maxHeartbeats 1000000 in
theorem take_zero {A : Option Addr} {n c x : Nat} {neg : Bool} {e : Int} {w : World} (h : Arg w A n c x) (hs : n ≤ 30000) (hT : Tab w) {dn : Bool} {dx : Nat} {de t : Int} (hd : plainS ⟨neg, x, e⟩ = (⟨dn, dx, de⟩, 0)) (hk : blen dx ≤ 4096) (hp : topS ⟨dn, dx, de⟩ = (0, 1)) :
    Calls Tryd.prog 33 #[.agg #[.bool neg, .slice A n c, .int .i64 e]] w (TkX w false 0 0 0 true 0) := by
  have HD := Lib.hid hd
  have HP := Lib.hid hp
  have ld := hk
  clear hd hp hk
  go_enter Tryd.func33, Tryd.ntmps33
  go_wp2_with fail
  obtain ⟨V, hV, z0, z1, BW, sW⟩ := kframe w 25 73 neg A n c e
  rw [hV]
  clear hV sW
  replace hT := hT.on BW
  replace h := h.on BW
  refine (dplain_as h hs hT HD.out).mono ?_
  rintro en w1 ⟨V_rd, v_rd, rfl, rd, b⟩
  replace z0 := z0.on b
  replace z1 := z1.on b
  replace hT := hT.on b
  replace h := h.on b
  replace BW := Below.step BW b
  clear b
  obtain ⟨z0c0, z0c1, z0c2, z0f0, z0f1, z0f2, z0l⟩ := z0.cells
  obtain ⟨z1c0, z1c1, z1c2, z1c3, z1c4, z1f0, z1f1, z1f2, z1f3, z1f4, z1l⟩ := z1.cells
  go_upto_region 2 with fail
  clear z0c0 z0c1 z0c2 z0f0 z0f1 z0f2 z0l z1c0 z1c1 z1c2 z1c3 z1c4 z1f0 z1f1 z1f2 z1f3 z1f4 z1l
  obtain ⟨w2, e_w2⟩ : ∃ w', w1.alloc (dob dn V_rd v_rd v_rd de 25) = w' := ⟨_, rfl⟩
  have b : Below w1.heap.size w1 w2 := e_w2 ▸ below_lit _ _
  have hs_w2 : w2.heap.size = w1.heap.size + 1 := e_w2 ▸ size_lit w1 _ rfl
  have zp : DB w2 w1.heap.size 25 dn V_rd v_rd v_rd de := e_w2 ▸ DB.made w1 rfl 25 dn V_rd v_rd v_rd de
  rw [e_w2]
  clear e_w2
  replace z0 := z0.on b
  replace z1 := z1.on b
  replace hT := hT.on b
  replace h := h.on b
  replace rd := rd.on b
  replace BW := Below.step BW b
  clear b
  clear hs_w2
  have lk := res_n_le rd (k := 128) (by omega)
  obtain ⟨z0c0, z0c1, z0c2, z0f0, z0f1, z0f2, z0l⟩ := z0.cells
  obtain ⟨z1c0, z1c1, z1c2, z1c3, z1c4, z1f0, z1f1, z1f2, z1f3, z1f4, z1l⟩ := z1.cells
  obtain ⟨zpc0, zpc1, zpc2, zpf0, zpf1, zpf2, zpl⟩ := zp.cells
  go_wp2_with fail
  refine (dtop_as (rd.arg (by omega)) (by omega) hT HP.out).mono ?_
  rintro en w3 ⟨rfl, b⟩
  clear z0c0 z0c1 z0c2 z0f0 z0f1 z0f2 z0l z1c0 z1c1 z1c2 z1c3 z1c4 z1f0 z1f1 z1f2 z1f3 z1f4 z1l zpc0 zpc1 zpc2 zpf0 zpf1 zpf2 zpl
  replace z0 := z0.on b
  replace z1 := z1.on b
  replace hT := hT.on b
  replace h := h.on b
  replace rd := rd.on b
  replace zp := zp.on b
  replace BW := Below.step BW b
  clear b
  obtain ⟨z0c0, z0c1, z0c2, z0f0, z0f1, z0f2, z0l⟩ := z0.cells
  obtain ⟨z1c0, z1c1, z1c2, z1c3, z1c4, z1f0, z1f1, z1f2, z1f3, z1f4, z1l⟩ := z1.cells
  obtain ⟨zpc0, zpc1, zpc2, zpf0, zpf1, zpf2, zpl⟩ := zp.cells
  go_wp2_with fail
  have y1 := z1.put false none 0 0 0 0 true
  obtain ⟨p0, p1, p2, p3, p4, _⟩ := y1.cells
  refine bodyPost_ret (v := .tuple #[.agg #[.bool false, .slice none 0 0, .int .i64 0, .int .i64 0, .bool true], .int .i64 0]) (by simp [results, Tryd.results33, go_sem, p0, p1, p2, p3, p4]) rfl ?_
  exact ⟨_, _, rfl, Res.none_ _, below_put5 BW (by omega) _ _ _ _ _⟩
set_option maxHeartbeats 1000000 in
theorem take_bad {A : Option Addr} {n c x : Nat} {neg : Bool} {e : Int} {w : World} (h : Arg w A n c x) (hs : n ≤ 30000) (hT : Tab w) {dn : Bool} {dx : Nat} {de t : Int} (hd : plainS ⟨neg, x, e⟩ = (⟨dn, dx, de⟩, 0)) (hk : blen dx ≤ 4096) (hp : topS ⟨dn, dx, de⟩ = (0, 3)) :
    Calls Tryd.prog 33 #[.agg #[.bool neg, .slice A n c, .int .i64 e]] w (TkX w false 0 0 0 false 3) := by
  have HD := Lib.hid hd
  have HP := Lib.hid hp
  have ld := hk
  clear hd hp hk
  go_enter Tryd.func33, Tryd.ntmps33
  go_wp2_with fail
  obtain ⟨V, hV, z0, z1, BW, sW⟩ := kframe w 25 73 neg A n c e
  rw [hV]
  clear hV sW
  replace hT := hT.on BW
  replace h := h.on BW
  refine (dplain_as h hs hT HD.out).mono ?_
  rintro en w1 ⟨V_rd, v_rd, rfl, rd, b⟩
  replace z0 := z0.on b
  replace z1 := z1.on b
  replace hT := hT.on b
  replace h := h.on b
  replace BW := Below.step BW b
  clear b
  obtain ⟨z0c0, z0c1, z0c2, z0f0, z0f1, z0f2, z0l⟩ := z0.cells
  obtain ⟨z1c0, z1c1, z1c2, z1c3, z1c4, z1f0, z1f1, z1f2, z1f3, z1f4, z1l⟩ := z1.cells
  go_upto_region 2 with fail
  clear z0c0 z0c1 z0c2 z0f0 z0f1 z0f2 z0l z1c0 z1c1 z1c2 z1c3 z1c4 z1f0 z1f1 z1f2 z1f3 z1f4 z1l
  obtain ⟨w2, e_w2⟩ : ∃ w', w1.alloc (dob dn V_rd v_rd v_rd de 25) = w' := ⟨_, rfl⟩
  have b : Below w1.heap.size w1 w2 := e_w2 ▸ below_lit _ _
  have hs_w2 : w2.heap.size = w1.heap.size + 1 := e_w2 ▸ size_lit w1 _ rfl
  have zp : DB w2 w1.heap.size 25 dn V_rd v_rd v_rd de := e_w2 ▸ DB.made w1 rfl 25 dn V_rd v_rd v_rd de
  rw [e_w2]
  clear e_w2
  replace z0 := z0.on b
  replace z1 := z1.on b
  replace hT := hT.on b
  replace h := h.on b
  replace rd := rd.on b
  replace BW := Below.step BW b
  clear b
  clear hs_w2
  have lk := res_n_le rd (k := 128) (by omega)
  obtain ⟨z0c0, z0c1, z0c2, z0f0, z0f1, z0f2, z0l⟩ := z0.cells
  obtain ⟨z1c0, z1c1, z1c2, z1c3, z1c4, z1f0, z1f1, z1f2, z1f3, z1f4, z1l⟩ := z1.cells
  obtain ⟨zpc0, zpc1, zpc2, zpf0, zpf1, zpf2, zpl⟩ := zp.cells
  go_wp2_with fail
  refine (dtop_as (rd.arg (by omega)) (by omega) hT HP.out).mono ?_
  rintro en w3 ⟨rfl, b⟩
  clear z0c0 z0c1 z0c2 z0f0 z0f1 z0f2 z0l z1c0 z1c1 z1c2 z1c3 z1c4 z1f0 z1f1 z1f2 z1f3 z1f4 z1l zpc0 zpc1 zpc2 zpf0 zpf1 zpf2 zpl
  replace z0 := z0.on b
  replace z1 := z1.on b
  replace hT := hT.on b
  replace h := h.on b
  replace rd := rd.on b
  replace zp := zp.on b
  replace BW := Below.step BW b
  clear b
  obtain ⟨z0c0, z0c1, z0c2, z0f0, z0f1, z0f2, z0l⟩ := z0.cells
  obtain ⟨z1c0, z1c1, z1c2, z1c3, z1c4, z1f0, z1f1, z1f2, z1f3, z1f4, z1l⟩ := z1.cells
  obtain ⟨zpc0, zpc1, zpc2, zpf0, zpf1, zpf2, zpl⟩ := zp.cells
  go_wp2_with fail
  have y1 := z1.put false none 0 0 0 0 false
  obtain ⟨p0, p1, p2, p3, p4, _⟩ := y1.cells
  refine bodyPost_ret (v := .tuple #[.agg #[.bool false, .slice none 0 0, .int .i64 0, .int .i64 0, .bool false], .int .i64 3]) (by simp [results, Tryd.results33, go_sem, p0, p1, p2, p3, p4]) rfl ?_
  exact ⟨_, _, rfl, Res.none_ _, below_put5 BW (by omega) _ _ _ _ _⟩
set_option maxHeartbeats 1000000 in
theorem take_high {A : Option Addr} {n c x : Nat} {neg : Bool} {e : Int} {w : World} (h : Arg w A n c x) (hs : n ≤ 30000) (hT : Tab w) {dn : Bool} {dx : Nat} {de t : Int} (hd : plainS ⟨neg, x, e⟩ = (⟨dn, dx, de⟩, 0)) (hk : blen dx ≤ 4096) (hp : topS ⟨dn, dx, de⟩ = (t, 0)) (d1 : decide (8000 < t) = true) :
    Calls Tryd.prog 33 #[.agg #[.bool neg, .slice A n c, .int .i64 e]] w (TkX w false 0 0 0 false 3) := by
  have HD := Lib.hid hd
  have HP := Lib.hid hp
  have ld := hk
  clear hd hp hk
  go_enter Tryd.func33, Tryd.ntmps33
  go_wp2_with fail
  obtain ⟨V, hV, z0, z1, BW, sW⟩ := kframe w 25 73 neg A n c e
  rw [hV]
  clear hV sW
  replace hT := hT.on BW
  replace h := h.on BW
  refine (dplain_as h hs hT HD.out).mono ?_
  rintro en w1 ⟨V_rd, v_rd, rfl, rd, b⟩
  replace z0 := z0.on b
  replace z1 := z1.on b
  replace hT := hT.on b
  replace h := h.on b
  replace BW := Below.step BW b
  clear b
  obtain ⟨z0c0, z0c1, z0c2, z0f0, z0f1, z0f2, z0l⟩ := z0.cells
  obtain ⟨z1c0, z1c1, z1c2, z1c3, z1c4, z1f0, z1f1, z1f2, z1f3, z1f4, z1l⟩ := z1.cells
  go_upto_region 2 with fail
  clear z0c0 z0c1 z0c2 z0f0 z0f1 z0f2 z0l z1c0 z1c1 z1c2 z1c3 z1c4 z1f0 z1f1 z1f2 z1f3 z1f4 z1l
  obtain ⟨w2, e_w2⟩ : ∃ w', w1.alloc (dob dn V_rd v_rd v_rd de 25) = w' := ⟨_, rfl⟩
  have b : Below w1.heap.size w1 w2 := e_w2 ▸ below_lit _ _
  have hs_w2 : w2.heap.size = w1.heap.size + 1 := e_w2 ▸ size_lit w1 _ rfl
  have zp : DB w2 w1.heap.size 25 dn V_rd v_rd v_rd de := e_w2 ▸ DB.made w1 rfl 25 dn V_rd v_rd v_rd de
  rw [e_w2]
  clear e_w2
  replace z0 := z0.on b
  replace z1 := z1.on b
  replace hT := hT.on b
  replace h := h.on b
  replace rd := rd.on b
  replace BW := Below.step BW b
  clear b
  clear hs_w2
  have lk := res_n_le rd (k := 128) (by omega)
  obtain ⟨z0c0, z0c1, z0c2, z0f0, z0f1, z0f2, z0l⟩ := z0.cells
  obtain ⟨z1c0, z1c1, z1c2, z1c3, z1c4, z1f0, z1f1, z1f2, z1f3, z1f4, z1l⟩ := z1.cells
  obtain ⟨zpc0, zpc1, zpc2, zpf0, zpf1, zpf2, zpl⟩ := zp.cells
  go_wp2_with fail
  refine (dtop_as (rd.arg (by omega)) (by omega) hT HP.out).mono ?_
  rintro en w3 ⟨rfl, b⟩
  clear z0c0 z0c1 z0c2 z0f0 z0f1 z0f2 z0l z1c0 z1c1 z1c2 z1c3 z1c4 z1f0 z1f1 z1f2 z1f3 z1f4 z1l zpc0 zpc1 zpc2 zpf0 zpf1 zpf2 zpl
  replace z0 := z0.on b
  replace z1 := z1.on b
  replace hT := hT.on b
  replace h := h.on b
  replace rd := rd.on b
  replace zp := zp.on b
  replace BW := Below.step BW b
  clear b
  obtain ⟨z0c0, z0c1, z0c2, z0f0, z0f1, z0f2, z0l⟩ := z0.cells
  obtain ⟨z1c0, z1c1, z1c2, z1c3, z1c4, z1f0, z1f1, z1f2, z1f3, z1f4, z1l⟩ := z1.cells
  obtain ⟨zpc0, zpc1, zpc2, zpf0, zpf1, zpf2, zpl⟩ := zp.cells
  go_wp2_with fail
  have y1 := z1.put false none 0 0 0 0 false
  obtain ⟨p0, p1, p2, p3, p4, _⟩ := y1.cells
  refine bodyPost_ret (v := .tuple #[.agg #[.bool false, .slice none 0 0, .int .i64 0, .int .i64 0, .bool false], .int .i64 3]) (by simp [results, Tryd.results33, go_sem, p0, p1, p2, p3, p4]) rfl ?_
  exact ⟨_, _, rfl, Res.none_ _, below_put5 BW (by omega) _ _ _ _ _⟩
set_option maxHeartbeats 1000000 in
theorem take_ok {A : Option Addr} {n c x : Nat} {neg : Bool} {e : Int} {w : World} (h : Arg w A n c x) (hs : n ≤ 30000) (hT : Tab w) {dn : Bool} {dx : Nat} {de t : Int} (hd : plainS ⟨neg, x, e⟩ = (⟨dn, dx, de⟩, 0)) (hk : blen dx ≤ 4096) (hp : topS ⟨dn, dx, de⟩ = (t, 0)) (d1 : decide (8000 < t) = false) :
    Calls Tryd.prog 33 #[.agg #[.bool neg, .slice A n c, .int .i64 e]] w (TkX w dn dx de t false 0) := by
  have HD := Lib.hid hd
  have HP := Lib.hid hp
  have ld := hk
  clear hd hp hk
  go_enter Tryd.func33, Tryd.ntmps33
  go_wp2_with fail
  obtain ⟨V, hV, z0, z1, BW, sW⟩ := kframe w 25 73 neg A n c e
  rw [hV]
  clear hV sW
  replace hT := hT.on BW
  replace h := h.on BW
  refine (dplain_as h hs hT HD.out).mono ?_
  rintro en w1 ⟨V_rd, v_rd, rfl, rd, b⟩
  replace z0 := z0.on b
  replace z1 := z1.on b
  replace hT := hT.on b
  replace h := h.on b
  replace BW := Below.step BW b
  clear b
  obtain ⟨z0c0, z0c1, z0c2, z0f0, z0f1, z0f2, z0l⟩ := z0.cells
  obtain ⟨z1c0, z1c1, z1c2, z1c3, z1c4, z1f0, z1f1, z1f2, z1f3, z1f4, z1l⟩ := z1.cells
  go_upto_region 2 with fail
  clear z0c0 z0c1 z0c2 z0f0 z0f1 z0f2 z0l z1c0 z1c1 z1c2 z1c3 z1c4 z1f0 z1f1 z1f2 z1f3 z1f4 z1l
  obtain ⟨w2, e_w2⟩ : ∃ w', w1.alloc (dob dn V_rd v_rd v_rd de 25) = w' := ⟨_, rfl⟩
  have b : Below w1.heap.size w1 w2 := e_w2 ▸ below_lit _ _
  have hs_w2 : w2.heap.size = w1.heap.size + 1 := e_w2 ▸ size_lit w1 _ rfl
  have zp : DB w2 w1.heap.size 25 dn V_rd v_rd v_rd de := e_w2 ▸ DB.made w1 rfl 25 dn V_rd v_rd v_rd de
  rw [e_w2]
  clear e_w2
  replace z0 := z0.on b
  replace z1 := z1.on b
  replace hT := hT.on b
  replace h := h.on b
  replace rd := rd.on b
  replace BW := Below.step BW b
  clear b
  clear hs_w2
  have lk := res_n_le rd (k := 128) (by omega)
  obtain ⟨z0c0, z0c1, z0c2, z0f0, z0f1, z0f2, z0l⟩ := z0.cells
  obtain ⟨z1c0, z1c1, z1c2, z1c3, z1c4, z1f0, z1f1, z1f2, z1f3, z1f4, z1l⟩ := z1.cells
  obtain ⟨zpc0, zpc1, zpc2, zpf0, zpf1, zpf2, zpl⟩ := zp.cells
  go_wp2_with fail
  refine (dtop_as (rd.arg (by omega)) (by omega) hT HP.out).mono ?_
  rintro en w3 ⟨rfl, b⟩
  clear z0c0 z0c1 z0c2 z0f0 z0f1 z0f2 z0l z1c0 z1c1 z1c2 z1c3 z1c4 z1f0 z1f1 z1f2 z1f3 z1f4 z1l zpc0 zpc1 zpc2 zpf0 zpf1 zpf2 zpl
  replace z0 := z0.on b
  replace z1 := z1.on b
  replace hT := hT.on b
  replace h := h.on b
  replace rd := rd.on b
  replace zp := zp.on b
  replace BW := Below.step BW b
  clear b
  obtain ⟨z0c0, z0c1, z0c2, z0f0, z0f1, z0f2, z0l⟩ := z0.cells
  obtain ⟨z1c0, z1c1, z1c2, z1c3, z1c4, z1f0, z1f1, z1f2, z1f3, z1f4, z1l⟩ := z1.cells
  obtain ⟨zpc0, zpc1, zpc2, zpf0, zpf1, zpf2, zpl⟩ := zp.cells
  go_wp2_with fail
  have y1 := z1.put dn V_rd v_rd v_rd de t false
  obtain ⟨p0, p1, p2, p3, p4, _⟩ := y1.cells
  refine bodyPost_ret (v := .tuple #[.agg #[.bool dn, .slice V_rd v_rd v_rd, .int .i64 de, .int .i64 t, .bool false], .int .i64 0]) (by simp [results, Tryd.results33, go_sem, p0, p1, p2, p3, p4]) rfl ?_
  exact ⟨_, _, rfl, z1.res rd _ _ _ _ _, below_put5 BW (by omega) _ _ _ _ _⟩
theorem top_of {a : D} (hm : a.may = true) (h0 : a.x ≠ 0) {dn : Bool} {dx : Nat} {de : Int} (hd : a.pl = ⟨dn, dx, de⟩) : dx ≠ 0 ∧ (blen dx : Int) - 1 + de = (blen a.x : Int) - 1 + a.e ∧ blen dx ≤ 4096 ∧ plainS a = (⟨dn, dx, de⟩, 0) := by
  have hpp := D.pl_pos h0
  have hbt := blen_div_tz h0
  have htz := (tz_blen h0).2.2
  have hb := (pl_bounds hm).1
  rw [hd] at hpp hb
  simp only [D.mk.injEq] at hpp hb
  obtain ⟨_, h2, h3⟩ := hpp
  rw [← h2] at hbt htz
  refine ⟨fun h => by rw [h] at htz; simp at htz, by omega, hb, ?_⟩
  unfold plainS
  rw [hm, if_pos rfl, hd]
/-- TAKE: a number that may not be rounded. -/
theorem take_none {A : Option Addr} {n c x : Nat} {neg : Bool} {e : Int} {w : World} (h : Arg w A n c x) (hs : n ≤ 30000) (hT : Tab w) (hm : mayR ⟨neg, x, e⟩ = false) :
    Calls Tryd.prog 33 #[.agg #[.bool neg, .slice A n c, .int .i64 e]] w (TkX w false 0 0 0 false 3) := by
  unfold mayR at hm
  by_cases h1 : D.may ⟨neg, x, e⟩ = true
  · rw [h1, Bool.true_and, Bool.or_eq_false_iff] at hm
    obtain ⟨h2, h3⟩ := hm
    have h0 : x ≠ 0 := by simpa using h2
    obtain ⟨dn, dx, de, hd⟩ : ∃ dn dx de, D.pl ⟨neg, x, e⟩ = ⟨dn, dx, de⟩ := ⟨_, _, _, rfl⟩
    obtain ⟨k1, k2, k3, k4⟩ := top_of h1 h0 hd
    rw [hd] at h3
    by_cases h4 : D.may ⟨dn, dx, de⟩ = true
    · rw [h4, Bool.true_and, decide_eq_false_iff_not] at h3
      exact take_high h hs hT k4 k3 (t := (blen dx : Int) - 1 + de) (by unfold topS; rw [h4, if_pos rfl, if_neg k1]) (decide_eq_true (by simp only at h3 k2; omega))
    · exact take_bad h hs hT k4 k3 (t := 0) (by unfold topS; rw [if_neg h4])
  · exact take_range h hs hT (by unfold plainS; rw [if_neg h1])
/-- 0. -/
theorem take_nought {A : Option Addr} {n c x : Nat} {neg : Bool} {e : Int} {w : World} (h : Arg w A n c x) (hs : n ≤ 30000) (hT : Tab w) (hm : mayR ⟨neg, x, e⟩ = true) (h0 : x = 0) :
    Calls Tryd.prog 33 #[.agg #[.bool neg, .slice A n c, .int .i64 e]] w (TkX w false 0 0 0 true 0) := by
  unfold mayR at hm
  rw [Bool.and_eq_true] at hm
  have hd : D.pl ⟨neg, x, e⟩ = ⟨false, 0, 0⟩ := D.pl_zero h0
  exact take_zero (dn := false) (dx := 0) (de := 0) (t := 0) h hs hT (by unfold plainS; rw [hm.1, if_pos rfl, hd]) (by rw [blen_zero]; omega) (by unfold topS; rw [may_small (by decide) (by decide) (by decide), if_pos rfl, if_pos rfl])
/-- one that isn't 0. -/
theorem take_num {A : Option Addr} {n c x : Nat} {neg : Bool} {e : Int} {w : World} (h : Arg w A n c x) (hs : n ≤ 30000) (hT : Tab w) (hm : mayR ⟨neg, x, e⟩ = true) (h0 : x ≠ 0) {dn : Bool} {dx : Nat} {de t : Int} (hd : D.pl ⟨neg, x, e⟩ = ⟨dn, dx, de⟩) (ht : (blen x : Int) - 1 + e = t) :
    Calls Tryd.prog 33 #[.agg #[.bool neg, .slice A n c, .int .i64 e]] w (TkX w dn dx de t false 0) := by
  obtain ⟨k1, k2, k3, k4⟩ := mayR_bd hm h0
  obtain ⟨j1, j2, j3, j4⟩ := top_of k1 h0 hd
  rw [hd] at k2
  simp only at k3 j2
  exact take_ok h hs hT j4 j3 (t := t) (by unfold topS; rw [k2, if_pos rfl, if_neg j1]; simp only [Prod.mk.injEq, and_true]; omega) (decide_eq_false (by omega))
end Go.Proofs.YtkjbejdeejpdoaaDoor
