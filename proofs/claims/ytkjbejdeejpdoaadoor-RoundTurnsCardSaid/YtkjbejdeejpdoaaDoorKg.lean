
/-
  The walk of round's To.
-/
import Derived.Test.YtkjbejdeejpdoaaDoorKf
import Derived.Test.YtkjbejdeejpdoaaDoorFf
namespace Go.Proofs.YtkjbejdeejpdoaaDoor
open Go.RowKit
set_option linter.unusedVariables false

/-- a variable with a number, made within an assignment, and whether something is lost. -/
def CutL (w0 : World) (rn : Bool) (rx : Nat) (re : Int) (lost : Bool) (s7 s8 : Value) (wx : World) : Prop :=
  ∃ g A n, s7 = .pointer (some ⟨g, 0, none⟩) ∧ s8 = .bool lost ∧ DB wx g 25 rn A n n re ∧ Res wx A n rx ∧ w0.heap.size ≤ g ∧ Below w0.heap.size w0 wx
def ToX (w : World) (v : Nat) (fl err : Int) (en : Ending) (w' : World) : Prop := en = .returned (.tuple #[.int .u64 (v : Int), .int .i64 fl, .int .i64 err]) ∧ Below w.heap.size w w'
theorem to_mode {B P W M E H : Nat} {low : Int} (hf : Fm B P W M E H low) {A : Option Addr} {n c x : Nat} {neg : Bool} {e : Int} {w : World} (h : Arg w A n c x) (hs : n ≤ 30000) (hT : Tab w) {ng : Bool} {mode : Int} (HI : Hid (∀ V, Calls Tryd.prog 52 #[.int .i64 mode] V fun e w' => e = .returned (.bool false) ∧ V = w')) :
    Calls Tryd.prog 19 #[.agg #[.int .i64 (B : Int), .int .i64 (P : Int), .int .i64 (W : Int)], .int .i64 mode, .agg #[.bool neg, .slice A n c, .int .i64 e], .bool ng] w (ToX w 0 0 1) := by
  clear hf
  go_enter Tryd.func19, Tryd.ntmps19
  go_wp2_with fail
  obtain ⟨V, hV, z0, z1, BW, sW⟩ := fframe2 w 28 25 (B : Int) (P : Int) (W : Int) neg A n c e
  rw [hV]
  clear hV sW
  replace hT := hT.on BW
  replace h := h.on BW
  refine (HI.out _).mono ?_
  rintro en w' ⟨rfl, rfl⟩
  go_wp2_with fail
  refine bodyPost_ret (v := .tuple #[.int .u64 0, .int .i64 0, .int .i64 1]) (by simp [results, Tryd.results19, go_sem]) rfl ⟨rfl, BW⟩
theorem to_range {B P W M E H : Nat} {low : Int} (hf : Fm B P W M E H low) {A : Option Addr} {n c x : Nat} {neg : Bool} {e : Int} {w : World} (h : Arg w A n c x) (hs : n ≤ 30000) (hT : Tab w) {ng : Bool} {mode : Int} (HI : Hid (∀ V, Calls Tryd.prog 52 #[.int .i64 mode] V fun e w' => e = .returned (.bool true) ∧ V = w')) (HK : Hid (∀ (V : World), Arg V A n c x → n ≤ 30000 → Tab V → Calls Tryd.prog 33 #[.agg #[.bool neg, .slice A n c, .int .i64 e]] V (TkX V false 0 0 0 false 3))) :
    Calls Tryd.prog 19 #[.agg #[.int .i64 (B : Int), .int .i64 (P : Int), .int .i64 (W : Int)], .int .i64 mode, .agg #[.bool neg, .slice A n c, .int .i64 e], .bool ng] w (ToX w 0 0 3) := by
  clear hf
  go_enter Tryd.func19, Tryd.ntmps19
  go_wp2_with fail
  obtain ⟨V, hV, z0, z1, BW, sW⟩ := fframe2 w 28 25 (B : Int) (P : Int) (W : Int) neg A n c e
  rw [hV]
  clear hV sW
  replace hT := hT.on BW
  replace h := h.on BW
  refine (HI.out _).mono ?_
  rintro en w' ⟨rfl, rfl⟩
  obtain ⟨z0c0, z0c1, z0c2, z0f0, z0f1, z0f2, z0l⟩ := z0.cells
  obtain ⟨z1c0, z1c1, z1c2, z1f0, z1f1, z1f2, z1l⟩ := z1.cells
  go_wp2_with fail
  refine (HK.out _ h hs hT).mono ?_
  rintro en w1 ⟨V_rd, v_rd, rfl, rd, b⟩
  clear z0c0 z0c1 z0c2 z0f0 z0f1 z0f2 z0l z1c0 z1c1 z1c2 z1f0 z1f1 z1f2 z1l
  replace z0 := z0.on b
  replace z1 := z1.on b
  replace hT := hT.on b
  replace h := h.on b
  replace BW := Below.step BW b
  clear b
  obtain ⟨z0c0, z0c1, z0c2, z0f0, z0f1, z0f2, z0l⟩ := z0.cells
  obtain ⟨z1c0, z1c1, z1c2, z1f0, z1f1, z1f2, z1l⟩ := z1.cells
  go_upto_region 4 with fail
  clear z0c0 z0c1 z0c2 z0f0 z0f1 z0f2 z0l z1c0 z1c1 z1c2 z1f0 z1f1 z1f2 z1l
  obtain ⟨w2, e_w2⟩ : ∃ w', w1.alloc (nob false V_rd v_rd v_rd 0 0 false 73) = w' := ⟨_, rfl⟩
  have b : Below w1.heap.size w1 w2 := e_w2 ▸ below_lit _ _
  have hs_w2 : w2.heap.size = w1.heap.size + 1 := e_w2 ▸ size_lit w1 _ rfl
  have zn : NB w2 w1.heap.size 73 false V_rd v_rd v_rd 0 0 false := e_w2 ▸ NB.made w1 rfl 73 false V_rd v_rd v_rd 0 0 false
  rw [e_w2]
  clear e_w2
  replace z0 := z0.on b
  replace z1 := z1.on b
  replace hT := hT.on b
  replace h := h.on b
  replace rd := rd.on b
  replace BW := Below.step BW b
  clear b
  clear hs_w2
  go_wp2_with fail
  refine bodyPost_ret (v := .tuple #[.int .u64 0, .int .i64 0, .int .i64 3]) (by simp [results, Tryd.results19, go_sem]) rfl ⟨rfl, BW⟩
theorem to_zero {B P W M E H : Nat} {low : Int} (hf : Fm B P W M E H low) {A : Option Addr} {n c x : Nat} {neg : Bool} {e : Int} {w : World} (h : Arg w A n c x) (hs : n ≤ 30000) (hT : Tab w) {ng : Bool} {mode : Int} (HI : Hid (∀ V, Calls Tryd.prog 52 #[.int .i64 mode] V fun e w' => e = .returned (.bool true) ∧ V = w')) (HK : Hid (∀ (V : World), Arg V A n c x → n ≤ 30000 → Tab V → Calls Tryd.prog 33 #[.agg #[.bool neg, .slice A n c, .int .i64 e]] V (TkX V false 0 0 0 true 0))) {v : Nat} (hv : sgn H ng 0 = v) :
    Calls Tryd.prog 19 #[.agg #[.int .i64 (B : Int), .int .i64 (P : Int), .int .i64 (W : Int)], .int .i64 mode, .agg #[.bool neg, .slice A n c, .int .i64 e], .bool ng] w (ToX w v 0 0) := by
  have HN := Lib.hid (fun (V : World) => nought_as hf ng v hv V)
  clear hf hv
  go_enter Tryd.func19, Tryd.ntmps19
  go_wp2_with fail
  obtain ⟨V, hV, z0, z1, BW, sW⟩ := fframe2 w 28 25 (B : Int) (P : Int) (W : Int) neg A n c e
  rw [hV]
  clear hV sW
  replace hT := hT.on BW
  replace h := h.on BW
  refine (HI.out _).mono ?_
  rintro en w' ⟨rfl, rfl⟩
  obtain ⟨z0c0, z0c1, z0c2, z0f0, z0f1, z0f2, z0l⟩ := z0.cells
  obtain ⟨z1c0, z1c1, z1c2, z1f0, z1f1, z1f2, z1l⟩ := z1.cells
  go_wp2_with fail
  refine (HK.out _ h hs hT).mono ?_
  rintro en w1 ⟨V_rd, v_rd, rfl, rd, b⟩
  clear z0c0 z0c1 z0c2 z0f0 z0f1 z0f2 z0l z1c0 z1c1 z1c2 z1f0 z1f1 z1f2 z1l
  replace z0 := z0.on b
  replace z1 := z1.on b
  replace hT := hT.on b
  replace h := h.on b
  replace BW := Below.step BW b
  clear b
  obtain ⟨z0c0, z0c1, z0c2, z0f0, z0f1, z0f2, z0l⟩ := z0.cells
  obtain ⟨z1c0, z1c1, z1c2, z1f0, z1f1, z1f2, z1l⟩ := z1.cells
  go_upto_region 4 with fail
  clear z0c0 z0c1 z0c2 z0f0 z0f1 z0f2 z0l z1c0 z1c1 z1c2 z1f0 z1f1 z1f2 z1l
  obtain ⟨w2, e_w2⟩ : ∃ w', w1.alloc (nob false V_rd v_rd v_rd 0 0 true 73) = w' := ⟨_, rfl⟩
  have b : Below w1.heap.size w1 w2 := e_w2 ▸ below_lit _ _
  have hs_w2 : w2.heap.size = w1.heap.size + 1 := e_w2 ▸ size_lit w1 _ rfl
  have zn : NB w2 w1.heap.size 73 false V_rd v_rd v_rd 0 0 true := e_w2 ▸ NB.made w1 rfl 73 false V_rd v_rd v_rd 0 0 true
  rw [e_w2]
  clear e_w2
  replace z0 := z0.on b
  replace z1 := z1.on b
  replace hT := hT.on b
  replace h := h.on b
  replace rd := rd.on b
  replace BW := Below.step BW b
  clear b
  clear hs_w2
  obtain ⟨z0c0, z0c1, z0c2, z0f0, z0f1, z0f2, z0l⟩ := z0.cells
  obtain ⟨znc0, znc1, znc2, znc3, znc4, znf0, znf1, znf2, znf3, znf4, znl⟩ := zn.cells
  go_wp2_with fail
  refine (HN.out _).mono ?_
  rintro en w3 ⟨rfl, b⟩
  clear z0c0 z0c1 z0c2 z0f0 z0f1 z0f2 z0l znc0 znc1 znc2 znc3 znc4 znf0 znf1 znf2 znf3 znf4 znl
  replace z0 := z0.on b
  replace z1 := z1.on b
  replace hT := hT.on b
  replace h := h.on b
  replace rd := rd.on b
  replace zn := zn.on b
  replace BW := Below.step BW b
  clear b
  go_wp2_with fail
  refine bodyPost_ret (v := .tuple #[.int .u64 (v : Int), .int .i64 0, .int .i64 0]) (by simp [results, Tryd.results19, go_sem]) rfl ⟨rfl, BW⟩
set_option maxHeartbeats 4000000 in
set_option maxRecDepth 100000 in
theorem to_beyond {B P W M E H : Nat} {low : Int} (hf : Fm B P W M E H low) {A : Option Addr} {n c x : Nat} {neg : Bool} {e : Int} {w : World} (h : Arg w A n c x) (hs : n ≤ 30000) (hT : Tab w) {ng : Bool} {mode : Int} {dx : Nat} {de t : Int} (HI : Hid (∀ V, Calls Tryd.prog 52 #[.int .i64 mode] V fun e w' => e = .returned (.bool true) ∧ V = w')) (HK : Hid (∀ (V : World), Arg V A n c x → n ≤ 30000 → Tab V → Calls Tryd.prog 33 #[.agg #[.bool neg, .slice A n c, .int .i64 e]] V (TkX V neg dx de t false 0))) (hdx : blen dx ≤ 4096) {p : Int}
    (HP : Hid (∀ (V : World) (A1 : Option Addr) (n1 : Nat), Calls Tryd.prog 34 #[.agg #[.bool neg, .slice A1 n1 n1, .int .i64 de, .int .i64 t, .bool false], .agg #[.int .i64 (B : Int), .int .i64 (P : Int), .int .i64 (W : Int)]] V fun en w' => en = .returned (.int .i64 p) ∧ Below V.heap.size V w'))
    {rn : Bool} {rx : Nat} {re : Int} {lost : Bool}
    (HR : Hid (∀ (V : World) (A1 : Option Addr) (n1 : Nat), Arg V A1 n1 n1 dx → n1 ≤ 30000 → Tab V → Calls Tryd.prog 53 #[.agg #[.bool neg, .slice A1 n1 n1, .int .i64 de, .int .i64 t, .bool false], .int .i64 mode, .int .i64 p] V (RoX V rn rx re lost))) (hrx : blen rx ≤ 4096) {b : Nat} {pe : Int} (HPU : Hid (putS P M E H low ⟨rn, rx, re⟩ = (b, pe))) (hpe : (pe != 0) = true) {v : Nat} (HB : Hid (∀ V, Calls Tryd.prog 32 #[.agg #[.int .i64 (B : Int), .int .i64 (P : Int), .int .i64 (W : Int)], .int .i64 mode, .bool neg] V fun en w' => en = .returned (.int .u64 (v : Int)) ∧ Below V.heap.size V w')) :
    Calls Tryd.prog 19 #[.agg #[.int .i64 (B : Int), .int .i64 (P : Int), .int .i64 (W : Int)], .int .i64 mode, .agg #[.bool neg, .slice A n c, .int .i64 e], .bool ng] w (ToX w v 5 0) := by
  go_enter Tryd.func19, Tryd.ntmps19
  go_wp2_with fail
  obtain ⟨V, hV, z0, z1, BW, sW⟩ := fframe2 w 28 25 (B : Int) (P : Int) (W : Int) neg A n c e
  rw [hV]
  clear hV sW
  replace hT := hT.on BW
  replace h := h.on BW
  refine (HI.out _).mono ?_
  rintro en w' ⟨rfl, rfl⟩
  obtain ⟨z0c0, z0c1, z0c2, z0f0, z0f1, z0f2, z0l⟩ := z0.cells
  obtain ⟨z1c0, z1c1, z1c2, z1f0, z1f1, z1f2, z1l⟩ := z1.cells
  go_wp2_with fail
  refine (HK.out _ h hs hT).mono ?_
  rintro en w1 ⟨V_rd, v_rd, rfl, rd, b⟩
  clear z0c0 z0c1 z0c2 z0f0 z0f1 z0f2 z0l z1c0 z1c1 z1c2 z1f0 z1f1 z1f2 z1l
  replace z0 := z0.on b
  replace z1 := z1.on b
  replace hT := hT.on b
  replace h := h.on b
  replace BW := Below.step BW b
  clear b
  obtain ⟨z0c0, z0c1, z0c2, z0f0, z0f1, z0f2, z0l⟩ := z0.cells
  obtain ⟨z1c0, z1c1, z1c2, z1f0, z1f1, z1f2, z1l⟩ := z1.cells
  go_upto_region 4 with fail
  clear z0c0 z0c1 z0c2 z0f0 z0f1 z0f2 z0l z1c0 z1c1 z1c2 z1f0 z1f1 z1f2 z1l
  obtain ⟨w2, e_w2⟩ : ∃ w', w1.alloc (nob neg V_rd v_rd v_rd de t false 73) = w' := ⟨_, rfl⟩
  have b : Below w1.heap.size w1 w2 := e_w2 ▸ below_lit _ _
  have hs_w2 : w2.heap.size = w1.heap.size + 1 := e_w2 ▸ size_lit w1 _ rfl
  have zn : NB w2 w1.heap.size 73 neg V_rd v_rd v_rd de t false := e_w2 ▸ NB.made w1 rfl 73 neg V_rd v_rd v_rd de t false
  rw [e_w2]
  clear e_w2
  replace z0 := z0.on b
  replace z1 := z1.on b
  replace hT := hT.on b
  replace h := h.on b
  replace rd := rd.on b
  replace BW := Below.step BW b
  clear b
  clear hs_w2
  have lk := res_n_le rd (k := 128) (by omega)
  have ra := rd.arg (by omega)
  clear rd h
  obtain ⟨z0c0, z0c1, z0c2, z0f0, z0f1, z0f2, z0l⟩ := z0.cells
  obtain ⟨z1c0, z1c1, z1c2, z1f0, z1f1, z1f2, z1l⟩ := z1.cells
  obtain ⟨znc0, znc1, znc2, znc3, znc4, znf0, znf1, znf2, znf3, znf4, znl⟩ := zn.cells
  go_upto_region 8 with fail
  clear z0c0 z0c1 z0c2 z0f0 z0f1 z0f2 z0l z1c0 z1c1 z1c2 z1f0 z1f1 z1f2 z1l znc0 znc1 znc2 znc3 znc4 znf0 znf1 znf2 znf3 znf4 znl
  go_cut [13, 14] (CutL w2 rn rx re lost)
  case first =>
    have HS : Hid (∀ w', Below w2.heap.size w2 w' → w'.cell? ⟨w.heap.size, 0, none⟩ = some (.int .i64 (B : Int)) ∧ w'.cell? ⟨w.heap.size, 1, none⟩ = some (.int .i64 (P : Int)) ∧ w'.cell? ⟨w.heap.size, 2, none⟩ = some (.int .i64 (W : Int)) ∧ w'.cell? ⟨w1.heap.size, 0, none⟩ = some (.bool neg) ∧ w'.cell? ⟨w1.heap.size, 1, none⟩ = some (.slice V_rd v_rd v_rd) ∧ w'.cell? ⟨w1.heap.size, 2, none⟩ = some (.int .i64 de) ∧ w'.cell? ⟨w1.heap.size, 3, none⟩ = some (.int .i64 t) ∧ w'.cell? ⟨w1.heap.size, 4, none⟩ = some (.bool false)) := fun w' hb => by
      have p0 := (z0.on hb).cells
      have p1 := (zn.on hb).cells
      exact ⟨p0.1, p0.2.1, p0.2.2.1, p1.1, p1.2.1, p1.2.2.1, p1.2.2.2.1, p1.2.2.2.2.1⟩
    have kk : Below w2.heap.size w2 w2.drew := (Below.refl _ _).drew
    have kd : Below w2.heap.size w2 (w2.alloc (dob false none 0 0 0 25)).drew := (below_k (Below.refl _ _) _).drew
    have KhT := Lib.hid hT
    have Kra := Lib.hid ra
    clear z0 z1 hT zn ra BW
    go_region_held3 (fun w' => w'.cell? ⟨w.heap.size, 0, none⟩ = some (.int .i64 (B : Int)) ∧ w'.cell? ⟨w.heap.size, 1, none⟩ = some (.int .i64 (P : Int)) ∧ w'.cell? ⟨w.heap.size, 2, none⟩ = some (.int .i64 (W : Int)) ∧ w'.cell? ⟨w1.heap.size, 0, none⟩ = some (.bool neg) ∧ w'.cell? ⟨w1.heap.size, 1, none⟩ = some (.slice V_rd v_rd v_rd) ∧ w'.cell? ⟨w1.heap.size, 2, none⟩ = some (.int .i64 de) ∧ w'.cell? ⟨w1.heap.size, 3, none⟩ = some (.int .i64 t) ∧ w'.cell? ⟨w1.heap.size, 4, none⟩ = some (.bool false))
      ((refine HS.out _ ?_; first | (with_reducible assumption) | (with_reducible exact below_k (by assumption) _) | ((with_reducible refine below_put3 ?_ ?_ _ _ _) <;> first | (with_reducible assumption) | omega)))
      (first
      | (go_at_call 34
         refine (HP.out _ _ _).mono ?_
         rintro e v6 ⟨rfl, b6⟩
         have kk := Below.step (show Below w2.heap.size w2 _ from (by first | (with_reducible assumption) | (with_reducible exact below_k (by assumption) _))) b6
         have hz6 := kk.size
         have b6 := Lib.hid b6)
      | (go_at_call 53
         refine (HR.out _ _ _ (Kra.out.on (by first | (with_reducible assumption) | (with_reducible exact below_k (by assumption) _))) (by omega) (KhT.out.on (by first | (with_reducible assumption) | (with_reducible exact below_k (by assumption) _)))).mono ?_
         rintro e v8 ⟨B3, m3, rfl, r3, b8⟩
         have kk := Below.step (show Below w2.heap.size w2 _ from (by first | (with_reducible assumption) | (with_reducible exact below_k (by assumption) _))) b8
         have hz8 := kk.size
         have r3 := Lib.hid r3
         first | (have zz := ((kmade_drew w2 rfl 25 false none 0 0 0).on b6.out).on b8; obtain ⟨p0, p1, p2, g0, g1, g2, _⟩ := zz.cells; have zz := Lib.hid zz) | (have zz := (DB.made v6 rfl 25 false none 0 0 0).on b8; obtain ⟨p0, p1, p2, g0, g1, g2, _⟩ := zz.cells; have zz := Lib.hid zz) | skip
         clear b8))
    all_goals go_wp2_with fail
    all_goals go_meet
    all_goals (first | (exact ⟨_, B3, m3, rfl, rfl, zz.out.put_d rn B3 m3 m3 re, zz.out.res r3.out _ _ _, (by first | exact Nat.le_refl _ | omega), below_put3 kk (by omega) _ _ _⟩) | (exact ⟨_, B3, m3, rfl, rfl, DB.made v8 rfl 25 rn B3 m3 m3 re, r3.out.on (below_lit _ _), (by omega), below_k kk _⟩))
  case rest =>
    obtain ⟨gzh, Azh, nzh, rfl, rfl, zh, rh, hg, b⟩ := hcut
    clear hg
    obtain ⟨w3, rfl⟩ : ∃ w3 : World, w3 = wc := ⟨_, rfl⟩
    replace z0 := z0.on b
    replace z1 := z1.on b
    replace hT := hT.on b
    replace zn := zn.on b
    replace ra := ra.on b
    replace BW := Below.step BW b
    clear b
    have lh := res_n_le rh (k := 128) (by omega)
    obtain ⟨z0c0, z0c1, z0c2, z0f0, z0f1, z0f2, z0l⟩ := z0.cells
    obtain ⟨zhc0, zhc1, zhc2, zhf0, zhf1, zhf2, zhl⟩ := zh.cells
    obtain ⟨znc0, znc1, znc2, znc3, znc4, znf0, znf1, znf2, znf3, znf4, znl⟩ := zn.cells
    go_wp2_with fail
    refine (put_as hf (rh.arg (by omega)) (by omega) hT HPU.out).mono ?_
    rintro en w4 ⟨rfl, b⟩
    clear z0c0 z0c1 z0c2 z0f0 z0f1 z0f2 z0l zhc0 zhc1 zhc2 zhf0 zhf1 zhf2 zhl znc0 znc1 znc2 znc3 znc4 znf0 znf1 znf2 znf3 znf4 znl
    replace z0 := z0.on b
    replace z1 := z1.on b
    replace hT := hT.on b
    replace zn := zn.on b
    replace ra := ra.on b
    replace zh := zh.on b
    replace rh := rh.on b
    replace BW := Below.step BW b
    clear b
    obtain ⟨z0c0, z0c1, z0c2, z0f0, z0f1, z0f2, z0l⟩ := z0.cells
    obtain ⟨zhc0, zhc1, zhc2, zhf0, zhf1, zhf2, zhl⟩ := zh.cells
    obtain ⟨znc0, znc1, znc2, znc3, znc4, znf0, znf1, znf2, znf3, znf4, znl⟩ := zn.cells
    go_wp2_with fail
    refine (HB.out _).mono ?_
    rintro en w5 ⟨rfl, b⟩
    clear z0c0 z0c1 z0c2 z0f0 z0f1 z0f2 z0l zhc0 zhc1 zhc2 zhf0 zhf1 zhf2 zhl znc0 znc1 znc2 znc3 znc4 znf0 znf1 znf2 znf3 znf4 znl
    replace z0 := z0.on b
    replace z1 := z1.on b
    replace hT := hT.on b
    replace zn := zn.on b
    replace ra := ra.on b
    replace zh := zh.on b
    replace rh := rh.on b
    replace BW := Below.step BW b
    clear b
    go_wp2_with fail
    refine bodyPost_ret (v := .tuple #[.int .u64 (v : Int), .int .i64 5, .int .i64 0]) (by simp [results, Tryd.results19, go_sem]) rfl ⟨rfl, BW⟩
set_option maxHeartbeats 4000000 in
set_option maxRecDepth 100000 in
theorem to_within {B P W M E H : Nat} {low : Int} (hf : Fm B P W M E H low) {A : Option Addr} {n c x : Nat} {neg : Bool} {e : Int} {w : World} (h : Arg w A n c x) (hs : n ≤ 30000) (hT : Tab w) {ng : Bool} {mode : Int} {dx : Nat} {de t : Int} (HI : Hid (∀ V, Calls Tryd.prog 52 #[.int .i64 mode] V fun e w' => e = .returned (.bool true) ∧ V = w')) (HK : Hid (∀ (V : World), Arg V A n c x → n ≤ 30000 → Tab V → Calls Tryd.prog 33 #[.agg #[.bool neg, .slice A n c, .int .i64 e]] V (TkX V neg dx de t false 0))) (hdx : blen dx ≤ 4096) {p : Int}
    (HP : Hid (∀ (V : World) (A1 : Option Addr) (n1 : Nat), Calls Tryd.prog 34 #[.agg #[.bool neg, .slice A1 n1 n1, .int .i64 de, .int .i64 t, .bool false], .agg #[.int .i64 (B : Int), .int .i64 (P : Int), .int .i64 (W : Int)]] V fun en w' => en = .returned (.int .i64 p) ∧ Below V.heap.size V w'))
    {rn : Bool} {rx : Nat} {re : Int} {lost : Bool}
    (HR : Hid (∀ (V : World) (A1 : Option Addr) (n1 : Nat), Arg V A1 n1 n1 dx → n1 ≤ 30000 → Tab V → Calls Tryd.prog 53 #[.agg #[.bool neg, .slice A1 n1 n1, .int .i64 de, .int .i64 t, .bool false], .int .i64 mode, .int .i64 p] V (RoX V rn rx re lost))) (hrx : blen rx ≤ 4096) {b : Nat} {pe : Int} (HPU : Hid (putS P M E H low ⟨rn, rx, re⟩ = (b, pe))) (hpe : (pe != 0) = false) {z v : Nat} {fl : Int} (HN : Hid (∀ V, Calls Tryd.prog 24 #[.agg #[.int .i64 (B : Int), .int .i64 (P : Int), .int .i64 (W : Int)], .bool neg] V fun en w' => en = .returned (.int .u64 (z : Int)) ∧ Below V.heap.size V w'))
    (HF : Hid (∀ (V : World) (A1 : Option Addr) (n1 : Nat), Calls Tryd.prog 55 #[.agg #[.bool neg, .slice A1 n1 n1, .int .i64 de, .int .i64 t, .bool false], .agg #[.int .i64 (B : Int), .int .i64 (P : Int), .int .i64 (W : Int)], .bool lost] V fun en w' => en = .returned (.int .i64 fl) ∧ Below V.heap.size V w')) (q7 : bits BinOp.or IntKind.u64 (b : Int) (z : Int) = (v : Int)) :
    Calls Tryd.prog 19 #[.agg #[.int .i64 (B : Int), .int .i64 (P : Int), .int .i64 (W : Int)], .int .i64 mode, .agg #[.bool neg, .slice A n c, .int .i64 e], .bool ng] w (ToX w v fl 0) := by
  go_enter Tryd.func19, Tryd.ntmps19
  go_wp2_with fail
  obtain ⟨V, hV, z0, z1, BW, sW⟩ := fframe2 w 28 25 (B : Int) (P : Int) (W : Int) neg A n c e
  rw [hV]
  clear hV sW
  replace hT := hT.on BW
  replace h := h.on BW
  refine (HI.out _).mono ?_
  rintro en w' ⟨rfl, rfl⟩
  obtain ⟨z0c0, z0c1, z0c2, z0f0, z0f1, z0f2, z0l⟩ := z0.cells
  obtain ⟨z1c0, z1c1, z1c2, z1f0, z1f1, z1f2, z1l⟩ := z1.cells
  go_wp2_with fail
  refine (HK.out _ h hs hT).mono ?_
  rintro en w1 ⟨V_rd, v_rd, rfl, rd, b⟩
  clear z0c0 z0c1 z0c2 z0f0 z0f1 z0f2 z0l z1c0 z1c1 z1c2 z1f0 z1f1 z1f2 z1l
  replace z0 := z0.on b
  replace z1 := z1.on b
  replace hT := hT.on b
  replace h := h.on b
  replace BW := Below.step BW b
  clear b
  obtain ⟨z0c0, z0c1, z0c2, z0f0, z0f1, z0f2, z0l⟩ := z0.cells
  obtain ⟨z1c0, z1c1, z1c2, z1f0, z1f1, z1f2, z1l⟩ := z1.cells
  go_upto_region 4 with fail
  clear z0c0 z0c1 z0c2 z0f0 z0f1 z0f2 z0l z1c0 z1c1 z1c2 z1f0 z1f1 z1f2 z1l
  obtain ⟨w2, e_w2⟩ : ∃ w', w1.alloc (nob neg V_rd v_rd v_rd de t false 73) = w' := ⟨_, rfl⟩
  have b : Below w1.heap.size w1 w2 := e_w2 ▸ below_lit _ _
  have hs_w2 : w2.heap.size = w1.heap.size + 1 := e_w2 ▸ size_lit w1 _ rfl
  have zn : NB w2 w1.heap.size 73 neg V_rd v_rd v_rd de t false := e_w2 ▸ NB.made w1 rfl 73 neg V_rd v_rd v_rd de t false
  rw [e_w2]
  clear e_w2
  replace z0 := z0.on b
  replace z1 := z1.on b
  replace hT := hT.on b
  replace h := h.on b
  replace rd := rd.on b
  replace BW := Below.step BW b
  clear b
  clear hs_w2
  have lk := res_n_le rd (k := 128) (by omega)
  have ra := rd.arg (by omega)
  clear rd h
  obtain ⟨z0c0, z0c1, z0c2, z0f0, z0f1, z0f2, z0l⟩ := z0.cells
  obtain ⟨z1c0, z1c1, z1c2, z1f0, z1f1, z1f2, z1l⟩ := z1.cells
  obtain ⟨znc0, znc1, znc2, znc3, znc4, znf0, znf1, znf2, znf3, znf4, znl⟩ := zn.cells
  go_upto_region 8 with fail
  clear z0c0 z0c1 z0c2 z0f0 z0f1 z0f2 z0l z1c0 z1c1 z1c2 z1f0 z1f1 z1f2 z1l znc0 znc1 znc2 znc3 znc4 znf0 znf1 znf2 znf3 znf4 znl
  go_cut [13, 14] (CutL w2 rn rx re lost)
  case first =>
    have HS : Hid (∀ w', Below w2.heap.size w2 w' → w'.cell? ⟨w.heap.size, 0, none⟩ = some (.int .i64 (B : Int)) ∧ w'.cell? ⟨w.heap.size, 1, none⟩ = some (.int .i64 (P : Int)) ∧ w'.cell? ⟨w.heap.size, 2, none⟩ = some (.int .i64 (W : Int)) ∧ w'.cell? ⟨w1.heap.size, 0, none⟩ = some (.bool neg) ∧ w'.cell? ⟨w1.heap.size, 1, none⟩ = some (.slice V_rd v_rd v_rd) ∧ w'.cell? ⟨w1.heap.size, 2, none⟩ = some (.int .i64 de) ∧ w'.cell? ⟨w1.heap.size, 3, none⟩ = some (.int .i64 t) ∧ w'.cell? ⟨w1.heap.size, 4, none⟩ = some (.bool false)) := fun w' hb => by
      have p0 := (z0.on hb).cells
      have p1 := (zn.on hb).cells
      exact ⟨p0.1, p0.2.1, p0.2.2.1, p1.1, p1.2.1, p1.2.2.1, p1.2.2.2.1, p1.2.2.2.2.1⟩
    have kk : Below w2.heap.size w2 w2.drew := (Below.refl _ _).drew
    have kd : Below w2.heap.size w2 (w2.alloc (dob false none 0 0 0 25)).drew := (below_k (Below.refl _ _) _).drew
    have KhT := Lib.hid hT
    have Kra := Lib.hid ra
    clear z0 z1 hT zn ra BW
    go_region_held3 (fun w' => w'.cell? ⟨w.heap.size, 0, none⟩ = some (.int .i64 (B : Int)) ∧ w'.cell? ⟨w.heap.size, 1, none⟩ = some (.int .i64 (P : Int)) ∧ w'.cell? ⟨w.heap.size, 2, none⟩ = some (.int .i64 (W : Int)) ∧ w'.cell? ⟨w1.heap.size, 0, none⟩ = some (.bool neg) ∧ w'.cell? ⟨w1.heap.size, 1, none⟩ = some (.slice V_rd v_rd v_rd) ∧ w'.cell? ⟨w1.heap.size, 2, none⟩ = some (.int .i64 de) ∧ w'.cell? ⟨w1.heap.size, 3, none⟩ = some (.int .i64 t) ∧ w'.cell? ⟨w1.heap.size, 4, none⟩ = some (.bool false))
      ((refine HS.out _ ?_; first | (with_reducible assumption) | (with_reducible exact below_k (by assumption) _) | ((with_reducible refine below_put3 ?_ ?_ _ _ _) <;> first | (with_reducible assumption) | omega)))
      (first
      | (go_at_call 34
         refine (HP.out _ _ _).mono ?_
         rintro e v6 ⟨rfl, b6⟩
         have kk := Below.step (show Below w2.heap.size w2 _ from (by first | (with_reducible assumption) | (with_reducible exact below_k (by assumption) _))) b6
         have hz6 := kk.size
         have b6 := Lib.hid b6)
      | (go_at_call 53
         refine (HR.out _ _ _ (Kra.out.on (by first | (with_reducible assumption) | (with_reducible exact below_k (by assumption) _))) (by omega) (KhT.out.on (by first | (with_reducible assumption) | (with_reducible exact below_k (by assumption) _)))).mono ?_
         rintro e v8 ⟨B3, m3, rfl, r3, b8⟩
         have kk := Below.step (show Below w2.heap.size w2 _ from (by first | (with_reducible assumption) | (with_reducible exact below_k (by assumption) _))) b8
         have hz8 := kk.size
         have r3 := Lib.hid r3
         first | (have zz := ((kmade_drew w2 rfl 25 false none 0 0 0).on b6.out).on b8; obtain ⟨p0, p1, p2, g0, g1, g2, _⟩ := zz.cells; have zz := Lib.hid zz) | (have zz := (DB.made v6 rfl 25 false none 0 0 0).on b8; obtain ⟨p0, p1, p2, g0, g1, g2, _⟩ := zz.cells; have zz := Lib.hid zz) | skip
         clear b8))
    all_goals go_wp2_with fail
    all_goals go_meet
    all_goals (first | (exact ⟨_, B3, m3, rfl, rfl, zz.out.put_d rn B3 m3 m3 re, zz.out.res r3.out _ _ _, (by first | exact Nat.le_refl _ | omega), below_put3 kk (by omega) _ _ _⟩) | (exact ⟨_, B3, m3, rfl, rfl, DB.made v8 rfl 25 rn B3 m3 m3 re, r3.out.on (below_lit _ _), (by omega), below_k kk _⟩))
  case rest =>
    obtain ⟨gzh, Azh, nzh, rfl, rfl, zh, rh, hg, b⟩ := hcut
    clear hg
    obtain ⟨w3, rfl⟩ : ∃ w3 : World, w3 = wc := ⟨_, rfl⟩
    replace z0 := z0.on b
    replace z1 := z1.on b
    replace hT := hT.on b
    replace zn := zn.on b
    replace ra := ra.on b
    replace BW := Below.step BW b
    clear b
    have lh := res_n_le rh (k := 128) (by omega)
    obtain ⟨z0c0, z0c1, z0c2, z0f0, z0f1, z0f2, z0l⟩ := z0.cells
    obtain ⟨zhc0, zhc1, zhc2, zhf0, zhf1, zhf2, zhl⟩ := zh.cells
    obtain ⟨znc0, znc1, znc2, znc3, znc4, znf0, znf1, znf2, znf3, znf4, znl⟩ := zn.cells
    go_wp2_with fail
    refine (put_as hf (rh.arg (by omega)) (by omega) hT HPU.out).mono ?_
    rintro en w4 ⟨rfl, b⟩
    clear z0c0 z0c1 z0c2 z0f0 z0f1 z0f2 z0l zhc0 zhc1 zhc2 zhf0 zhf1 zhf2 zhl znc0 znc1 znc2 znc3 znc4 znf0 znf1 znf2 znf3 znf4 znl
    replace z0 := z0.on b
    replace z1 := z1.on b
    replace hT := hT.on b
    replace zn := zn.on b
    replace ra := ra.on b
    replace zh := zh.on b
    replace rh := rh.on b
    replace BW := Below.step BW b
    clear b
    obtain ⟨z0c0, z0c1, z0c2, z0f0, z0f1, z0f2, z0l⟩ := z0.cells
    obtain ⟨zhc0, zhc1, zhc2, zhf0, zhf1, zhf2, zhl⟩ := zh.cells
    obtain ⟨znc0, znc1, znc2, znc3, znc4, znf0, znf1, znf2, znf3, znf4, znl⟩ := zn.cells
    go_wp2_with fail
    clear z0c0 z0c1 z0c2 z0f0 z0f1 z0f2 z0l zhc0 zhc1 zhc2 zhf0 zhf1 zhf2 zhl znc0 znc1 znc2 znc3 znc4 znf0 znf1 znf2 znf3 znf4 znl
    replace z0 := z0.on ((Below.refl _ _).drew : Below w4.heap.size w4 w4.drew)
    replace z1 := z1.on ((Below.refl _ _).drew : Below w4.heap.size w4 w4.drew)
    replace hT := hT.on ((Below.refl _ _).drew : Below w4.heap.size w4 w4.drew)
    replace zn := zn.on ((Below.refl _ _).drew : Below w4.heap.size w4 w4.drew)
    replace ra := ra.on ((Below.refl _ _).drew : Below w4.heap.size w4 w4.drew)
    replace zh := zh.on ((Below.refl _ _).drew : Below w4.heap.size w4 w4.drew)
    replace rh := rh.on ((Below.refl _ _).drew : Below w4.heap.size w4 w4.drew)
    replace BW := Lib.hid (Below.step BW ((Below.refl _ _).drew : Below w4.heap.size w4 w4.drew))
    go_region_held3 (fun w' => w'.cell? ⟨w.heap.size, 0, none⟩ = some (.int .i64 (B : Int)) ∧ w'.cell? ⟨w.heap.size, 1, none⟩ = some (.int .i64 (P : Int)) ∧ w'.cell? ⟨w.heap.size, 2, none⟩ = some (.int .i64 (W : Int)) ∧ w'.cell? ⟨w1.heap.size, 0, none⟩ = some (.bool neg) ∧ w'.cell? ⟨w1.heap.size, 1, none⟩ = some (.slice V_rd v_rd v_rd) ∧ w'.cell? ⟨w1.heap.size, 2, none⟩ = some (.int .i64 de) ∧ w'.cell? ⟨w1.heap.size, 3, none⟩ = some (.int .i64 t) ∧ w'.cell? ⟨w1.heap.size, 4, none⟩ = some (.bool false))
      ((exact ⟨z0.cells.1, z0.cells.2.1, z0.cells.2.2.1, zn.cells.1, zn.cells.2.1, zn.cells.2.2.1, zn.cells.2.2.2.1, zn.cells.2.2.2.2.1⟩))
      (first
        | (go_at_call 24
           (with_reducible refine (HN.out _).mono ?_)
           rintro en w5 ⟨rfl, b⟩
           replace z0 := z0.on b
           replace z1 := z1.on b
           replace hT := hT.on b
           replace zn := zn.on b
           replace ra := ra.on b
           replace zh := zh.on b
           replace rh := rh.on b
           replace BW := Lib.hid (Below.step BW.out b)
           clear b)
        | (go_at_call 55
           (with_reducible refine (HF.out _ _ _).mono ?_)
           rintro en w6 ⟨rfl, b⟩
           replace z0 := z0.on b
           replace z1 := z1.on b
           replace hT := hT.on b
           replace zn := zn.on b
           replace ra := ra.on b
           replace zh := zh.on b
           replace rh := rh.on b
           replace BW := Lib.hid (Below.step BW.out b)
           clear b))
    replace BW := BW.out
    all_goals (
      go_wp2_with fail
      refine bodyPost_ret (v := .tuple #[.int .u64 (v : Int), .int .i64 fl, .int .i64 0]) (by simp [results, Tryd.results19, go_sem]) rfl ⟨rfl, BW⟩)
end Go.Proofs.YtkjbejdeejpdoaaDoor
