/-
  The walk of round's To.
  round's To tells roundS.
  The walks of round's Neighbours and Tiny.
  What round's Neighbours and Tiny tell.
-/
import Derived.Test.YtpachoeignpcbaaGreatDoorKA
import Derived.Test.YtpachoeignpcbaaGreatDoorFA
namespace Go.Proofs.YtpachoeignpcbaaGreatDoor
open Go.RowKit
set_option linter.unusedVariables false

/-- a variable with a number, made within an assignment, and whether something is lost. -/
def CutL (w0 : World) (rn : Bool) (rx : Nat) (re : Int) (lost : Bool) (s7 s8 : Value) (wx : World) : Prop :=
  ∃ g A n, s7 = .pointer (some ⟨g, 0, none⟩) ∧ s8 = .bool lost ∧ DB wx g 48 rn A n n re ∧ Res wx A n rx ∧ w0.heap.size ≤ g ∧ Below w0.heap.size w0 wx
def ToX (w : World) (v : Nat) (fl err : Int) (en : Ending) (w' : World) : Prop := en = .returned (.tuple #[.int .u64 (v : Int), .int .i64 fl, .int .i64 err]) ∧ Below w.heap.size w w'
theorem to_mode {B P W M E H : Nat} {low : Int} (hf : Fm B P W M E H low) {A : Option Addr} {n c x : Nat} {neg : Bool} {e : Int} {w : World} (h : Arg w A n c x) (hs : n ≤ 30000) (hT : Tab w) {ng : Bool} {mode : Int} (HI : Hid (∀ V, Calls Tryz.prog 90 #[.int .i64 mode] V fun e w' => e = .returned (.bool false) ∧ V = w')) :
    Calls Tryz.prog 54 #[.agg #[.int .i64 (B : Int), .int .i64 (P : Int), .int .i64 (W : Int)], .int .i64 mode, .agg #[.bool neg, .slice A n c, .int .i64 e], .bool ng] w (ToX w 0 0 1) := by
  clear hf
  go_enter Tryz.func54, Tryz.ntmps54
  go_wp2_with fail
  obtain ⟨V, hV, z0, z1, BW, sW⟩ := fframe2 w 25 48 (B : Int) (P : Int) (W : Int) neg A n c e
  rw [hV]
  clear hV sW
  replace hT := hT.on BW
  replace h := h.on BW
  refine (HI.out _).mono ?_
  rintro en w' ⟨rfl, rfl⟩
  go_wp2_with fail
  refine bodyPost_ret (v := .tuple #[.int .u64 0, .int .i64 0, .int .i64 1]) (by simp [results, Tryz.results54, go_sem]) rfl ⟨rfl, BW⟩
theorem to_range {B P W M E H : Nat} {low : Int} (hf : Fm B P W M E H low) {A : Option Addr} {n c x : Nat} {neg : Bool} {e : Int} {w : World} (h : Arg w A n c x) (hs : n ≤ 30000) (hT : Tab w) {ng : Bool} {mode : Int} (HI : Hid (∀ V, Calls Tryz.prog 90 #[.int .i64 mode] V fun e w' => e = .returned (.bool true) ∧ V = w')) (HK : Hid (∀ (V : World), Arg V A n c x → n ≤ 30000 → Tab V → Calls Tryz.prog 91 #[.agg #[.bool neg, .slice A n c, .int .i64 e]] V (TkX V false 0 0 0 false 3))) :
    Calls Tryz.prog 54 #[.agg #[.int .i64 (B : Int), .int .i64 (P : Int), .int .i64 (W : Int)], .int .i64 mode, .agg #[.bool neg, .slice A n c, .int .i64 e], .bool ng] w (ToX w 0 0 3) := by
  clear hf
  go_enter Tryz.func54, Tryz.ntmps54
  go_wp2_with fail
  obtain ⟨V, hV, z0, z1, BW, sW⟩ := fframe2 w 25 48 (B : Int) (P : Int) (W : Int) neg A n c e
  rw [hV]
  clear hV sW
  replace hT := hT.on BW
  replace h := h.on BW
  refine (HI.out _).mono ?_
  rintro en w' ⟨rfl, rfl⟩
  obtain ⟨z0c0, z0c1, z0c2, z0f0, z0f1, z0f2, z0l⟩ := z0.cells
  obtain ⟨z1c0, z1c1, z1c2, z1f0, z1f1, z1f2, z1l⟩ := z1.cells
  go_wp2_with fail
  refine (HK.out _ h hs hT).mono ?_
  rintro en w1 ⟨V_rd, v_rd, rfl, rd, b⟩
  clear z0c0 z0c1 z0c2 z0f0 z0f1 z0f2 z0l z1c0 z1c1 z1c2 z1f0 z1f1 z1f2 z1l
  replace z0 := z0.on b
  replace z1 := z1.on b
  replace hT := hT.on b
  replace h := h.on b
  replace BW := Below.step BW b
  clear b
  obtain ⟨z0c0, z0c1, z0c2, z0f0, z0f1, z0f2, z0l⟩ := z0.cells
  obtain ⟨z1c0, z1c1, z1c2, z1f0, z1f1, z1f2, z1l⟩ := z1.cells
  go_upto_region 4 with fail
  clear z0c0 z0c1 z0c2 z0f0 z0f1 z0f2 z0l z1c0 z1c1 z1c2 z1f0 z1f1 z1f2 z1l
  obtain ⟨w2, e_w2⟩ : ∃ w', w1.alloc (nob false V_rd v_rd v_rd 0 0 false 121) = w' := ⟨_, rfl⟩
  have b : Below w1.heap.size w1 w2 := e_w2 ▸ below_lit _ _
  have hs_w2 : w2.heap.size = w1.heap.size + 1 := e_w2 ▸ size_lit w1 _ rfl
  have zn : NB w2 w1.heap.size 121 false V_rd v_rd v_rd 0 0 false := e_w2 ▸ NB.made w1 rfl 121 false V_rd v_rd v_rd 0 0 false
  rw [e_w2]
  clear e_w2
  replace z0 := z0.on b
  replace z1 := z1.on b
  replace hT := hT.on b
  replace h := h.on b
  replace rd := rd.on b
  replace BW := Below.step BW b
  clear b
  clear hs_w2
  go_wp2_with fail
  refine bodyPost_ret (v := .tuple #[.int .u64 0, .int .i64 0, .int .i64 3]) (by simp [results, Tryz.results54, go_sem]) rfl ⟨rfl, BW⟩
theorem to_zero {B P W M E H : Nat} {low : Int} (hf : Fm B P W M E H low) {A : Option Addr} {n c x : Nat} {neg : Bool} {e : Int} {w : World} (h : Arg w A n c x) (hs : n ≤ 30000) (hT : Tab w) {ng : Bool} {mode : Int} (HI : Hid (∀ V, Calls Tryz.prog 90 #[.int .i64 mode] V fun e w' => e = .returned (.bool true) ∧ V = w')) (HK : Hid (∀ (V : World), Arg V A n c x → n ≤ 30000 → Tab V → Calls Tryz.prog 91 #[.agg #[.bool neg, .slice A n c, .int .i64 e]] V (TkX V false 0 0 0 true 0))) {v : Nat} (hv : sgn H ng 0 = v) :
    Calls Tryz.prog 54 #[.agg #[.int .i64 (B : Int), .int .i64 (P : Int), .int .i64 (W : Int)], .int .i64 mode, .agg #[.bool neg, .slice A n c, .int .i64 e], .bool ng] w (ToX w v 0 0) := by
  have HN := Lib.hid (fun (V : World) => nought_as hf ng v hv V)
  clear hf hv
  go_enter Tryz.func54, Tryz.ntmps54
  go_wp2_with fail
  obtain ⟨V, hV, z0, z1, BW, sW⟩ := fframe2 w 25 48 (B : Int) (P : Int) (W : Int) neg A n c e
  rw [hV]
  clear hV sW
  replace hT := hT.on BW
  replace h := h.on BW
  refine (HI.out _).mono ?_
  rintro en w' ⟨rfl, rfl⟩
  obtain ⟨z0c0, z0c1, z0c2, z0f0, z0f1, z0f2, z0l⟩ := z0.cells
  obtain ⟨z1c0, z1c1, z1c2, z1f0, z1f1, z1f2, z1l⟩ := z1.cells
  go_wp2_with fail
  refine (HK.out _ h hs hT).mono ?_
  rintro en w1 ⟨V_rd, v_rd, rfl, rd, b⟩
  clear z0c0 z0c1 z0c2 z0f0 z0f1 z0f2 z0l z1c0 z1c1 z1c2 z1f0 z1f1 z1f2 z1l
  replace z0 := z0.on b
  replace z1 := z1.on b
  replace hT := hT.on b
  replace h := h.on b
  replace BW := Below.step BW b
  clear b
  obtain ⟨z0c0, z0c1, z0c2, z0f0, z0f1, z0f2, z0l⟩ := z0.cells
  obtain ⟨z1c0, z1c1, z1c2, z1f0, z1f1, z1f2, z1l⟩ := z1.cells
  go_upto_region 4 with fail
  clear z0c0 z0c1 z0c2 z0f0 z0f1 z0f2 z0l z1c0 z1c1 z1c2 z1f0 z1f1 z1f2 z1l
  obtain ⟨w2, e_w2⟩ : ∃ w', w1.alloc (nob false V_rd v_rd v_rd 0 0 true 121) = w' := ⟨_, rfl⟩
  have b : Below w1.heap.size w1 w2 := e_w2 ▸ below_lit _ _
  have hs_w2 : w2.heap.size = w1.heap.size + 1 := e_w2 ▸ size_lit w1 _ rfl
  have zn : NB w2 w1.heap.size 121 false V_rd v_rd v_rd 0 0 true := e_w2 ▸ NB.made w1 rfl 121 false V_rd v_rd v_rd 0 0 true
  rw [e_w2]
  clear e_w2
  replace z0 := z0.on b
  replace z1 := z1.on b
  replace hT := hT.on b
  replace h := h.on b
  replace rd := rd.on b
  replace BW := Below.step BW b
  clear b
  clear hs_w2
  obtain ⟨z0c0, z0c1, z0c2, z0f0, z0f1, z0f2, z0l⟩ := z0.cells
  obtain ⟨znc0, znc1, znc2, znc3, znc4, znf0, znf1, znf2, znf3, znf4, znl⟩ := zn.cells
  go_wp2_with fail
  refine (HN.out _).mono ?_
  rintro en w3 ⟨rfl, b⟩
  clear z0c0 z0c1 z0c2 z0f0 z0f1 z0f2 z0l znc0 znc1 znc2 znc3 znc4 znf0 znf1 znf2 znf3 znf4 znl
  replace z0 := z0.on b
  replace z1 := z1.on b
  replace hT := hT.on b
  replace h := h.on b
  replace rd := rd.on b
  replace zn := zn.on b
  replace BW := Below.step BW b
  clear b
  go_wp2_with fail
  refine bodyPost_ret (v := .tuple #[.int .u64 (v : Int), .int .i64 0, .int .i64 0]) (by simp [results, Tryz.results54, go_sem]) rfl ⟨rfl, BW⟩
set_option maxHeartbeats 4000000 in
set_option maxRecDepth 100000 in
theorem to_beyond {B P W M E H : Nat} {low : Int} (hf : Fm B P W M E H low) {A : Option Addr} {n c x : Nat} {neg : Bool} {e : Int} {w : World} (h : Arg w A n c x) (hs : n ≤ 30000) (hT : Tab w) {ng : Bool} {mode : Int} {dx : Nat} {de t : Int} (HI : Hid (∀ V, Calls Tryz.prog 90 #[.int .i64 mode] V fun e w' => e = .returned (.bool true) ∧ V = w')) (HK : Hid (∀ (V : World), Arg V A n c x → n ≤ 30000 → Tab V → Calls Tryz.prog 91 #[.agg #[.bool neg, .slice A n c, .int .i64 e]] V (TkX V neg dx de t false 0))) (hdx : blen dx ≤ 4096) {p : Int}
    (HP : Hid (∀ (V : World) (A1 : Option Addr) (n1 : Nat), Calls Tryz.prog 93 #[.agg #[.bool neg, .slice A1 n1 n1, .int .i64 de, .int .i64 t, .bool false], .agg #[.int .i64 (B : Int), .int .i64 (P : Int), .int .i64 (W : Int)]] V fun en w' => en = .returned (.int .i64 p) ∧ Below V.heap.size V w'))
    {rn : Bool} {rx : Nat} {re : Int} {lost : Bool}
    (HR : Hid (∀ (V : World) (A1 : Option Addr) (n1 : Nat), Arg V A1 n1 n1 dx → n1 ≤ 30000 → Tab V → Calls Tryz.prog 92 #[.agg #[.bool neg, .slice A1 n1 n1, .int .i64 de, .int .i64 t, .bool false], .int .i64 mode, .int .i64 p] V (RoX V rn rx re lost))) (hrx : blen rx ≤ 4096) {b : Nat} {pe : Int} (HPU : Hid (putS P M E H low ⟨rn, rx, re⟩ = (b, pe))) (hpe : (pe != 0) = true) {v : Nat} (HB : Hid (∀ V, Calls Tryz.prog 95 #[.agg #[.int .i64 (B : Int), .int .i64 (P : Int), .int .i64 (W : Int)], .int .i64 mode, .bool neg] V fun en w' => en = .returned (.int .u64 (v : Int)) ∧ Below V.heap.size V w')) :
    Calls Tryz.prog 54 #[.agg #[.int .i64 (B : Int), .int .i64 (P : Int), .int .i64 (W : Int)], .int .i64 mode, .agg #[.bool neg, .slice A n c, .int .i64 e], .bool ng] w (ToX w v 5 0) := by
  go_enter Tryz.func54, Tryz.ntmps54
  go_wp2_with fail
  obtain ⟨V, hV, z0, z1, BW, sW⟩ := fframe2 w 25 48 (B : Int) (P : Int) (W : Int) neg A n c e
  rw [hV]
  clear hV sW
  replace hT := hT.on BW
  replace h := h.on BW
  refine (HI.out _).mono ?_
  rintro en w' ⟨rfl, rfl⟩
  obtain ⟨z0c0, z0c1, z0c2, z0f0, z0f1, z0f2, z0l⟩ := z0.cells
  obtain ⟨z1c0, z1c1, z1c2, z1f0, z1f1, z1f2, z1l⟩ := z1.cells
  go_wp2_with fail
  refine (HK.out _ h hs hT).mono ?_
  rintro en w1 ⟨V_rd, v_rd, rfl, rd, b⟩
  clear z0c0 z0c1 z0c2 z0f0 z0f1 z0f2 z0l z1c0 z1c1 z1c2 z1f0 z1f1 z1f2 z1l
  replace z0 := z0.on b
  replace z1 := z1.on b
  replace hT := hT.on b
  replace h := h.on b
  replace BW := Below.step BW b
  clear b
  obtain ⟨z0c0, z0c1, z0c2, z0f0, z0f1, z0f2, z0l⟩ := z0.cells
  obtain ⟨z1c0, z1c1, z1c2, z1f0, z1f1, z1f2, z1l⟩ := z1.cells
  go_upto_region 4 with fail
  clear z0c0 z0c1 z0c2 z0f0 z0f1 z0f2 z0l z1c0 z1c1 z1c2 z1f0 z1f1 z1f2 z1l
  obtain ⟨w2, e_w2⟩ : ∃ w', w1.alloc (nob neg V_rd v_rd v_rd de t false 121) = w' := ⟨_, rfl⟩
  have b : Below w1.heap.size w1 w2 := e_w2 ▸ below_lit _ _
  have hs_w2 : w2.heap.size = w1.heap.size + 1 := e_w2 ▸ size_lit w1 _ rfl
  have zn : NB w2 w1.heap.size 121 neg V_rd v_rd v_rd de t false := e_w2 ▸ NB.made w1 rfl 121 neg V_rd v_rd v_rd de t false
  rw [e_w2]
  clear e_w2
  replace z0 := z0.on b
  replace z1 := z1.on b
  replace hT := hT.on b
  replace h := h.on b
  replace rd := rd.on b
  replace BW := Below.step BW b
  clear b
  clear hs_w2
  have lk := res_n_le rd (k := 128) (by omega)
  have ra := rd.arg (by omega)
  clear rd h
  obtain ⟨z0c0, z0c1, z0c2, z0f0, z0f1, z0f2, z0l⟩ := z0.cells
  obtain ⟨z1c0, z1c1, z1c2, z1f0, z1f1, z1f2, z1l⟩ := z1.cells
  obtain ⟨znc0, znc1, znc2, znc3, znc4, znf0, znf1, znf2, znf3, znf4, znl⟩ := zn.cells
  go_upto_region 8 with fail
  clear z0c0 z0c1 z0c2 z0f0 z0f1 z0f2 z0l z1c0 z1c1 z1c2 z1f0 z1f1 z1f2 z1l znc0 znc1 znc2 znc3 znc4 znf0 znf1 znf2 znf3 znf4 znl
  go_cut [13, 14] (CutL w2 rn rx re lost)
  case first =>
    have HS : Hid (∀ w', Below w2.heap.size w2 w' → w'.cell? ⟨w.heap.size, 0, none⟩ = some (.int .i64 (B : Int)) ∧ w'.cell? ⟨w.heap.size, 1, none⟩ = some (.int .i64 (P : Int)) ∧ w'.cell? ⟨w.heap.size, 2, none⟩ = some (.int .i64 (W : Int)) ∧ w'.cell? ⟨w1.heap.size, 0, none⟩ = some (.bool neg) ∧ w'.cell? ⟨w1.heap.size, 1, none⟩ = some (.slice V_rd v_rd v_rd) ∧ w'.cell? ⟨w1.heap.size, 2, none⟩ = some (.int .i64 de) ∧ w'.cell? ⟨w1.heap.size, 3, none⟩ = some (.int .i64 t) ∧ w'.cell? ⟨w1.heap.size, 4, none⟩ = some (.bool false)) := fun w' hb => by
      have p0 := (z0.on hb).cells
      have p1 := (zn.on hb).cells
      exact ⟨p0.1, p0.2.1, p0.2.2.1, p1.1, p1.2.1, p1.2.2.1, p1.2.2.2.1, p1.2.2.2.2.1⟩
    have kk : Below w2.heap.size w2 w2.drew := (Below.refl _ _).drew
    have kd : Below w2.heap.size w2 (w2.alloc (dob false none 0 0 0 48)).drew := (below_k (Below.refl _ _) _).drew
    have KhT := Lib.hid hT
    have Kra := Lib.hid ra
    clear z0 z1 hT zn ra BW
    go_region_held3 (fun w' => w'.cell? ⟨w.heap.size, 0, none⟩ = some (.int .i64 (B : Int)) ∧ w'.cell? ⟨w.heap.size, 1, none⟩ = some (.int .i64 (P : Int)) ∧ w'.cell? ⟨w.heap.size, 2, none⟩ = some (.int .i64 (W : Int)) ∧ w'.cell? ⟨w1.heap.size, 0, none⟩ = some (.bool neg) ∧ w'.cell? ⟨w1.heap.size, 1, none⟩ = some (.slice V_rd v_rd v_rd) ∧ w'.cell? ⟨w1.heap.size, 2, none⟩ = some (.int .i64 de) ∧ w'.cell? ⟨w1.heap.size, 3, none⟩ = some (.int .i64 t) ∧ w'.cell? ⟨w1.heap.size, 4, none⟩ = some (.bool false))
      ((refine HS.out _ ?_; first | (with_reducible assumption) | (with_reducible exact below_k (by assumption) _) | ((with_reducible refine below_put3 ?_ ?_ _ _ _) <;> first | (with_reducible assumption) | omega)))
      (first
      | (go_at_call 93
         refine (HP.out _ _ _).mono ?_
         rintro e v6 ⟨rfl, b6⟩
         have kk := Below.step (show Below w2.heap.size w2 _ from (by first | (with_reducible assumption) | (with_reducible exact below_k (by assumption) _))) b6
         have hz6 := kk.size
         have b6 := Lib.hid b6)
      | (go_at_call 92
         refine (HR.out _ _ _ (Kra.out.on (by first | (with_reducible assumption) | (with_reducible exact below_k (by assumption) _))) (by omega) (KhT.out.on (by first | (with_reducible assumption) | (with_reducible exact below_k (by assumption) _)))).mono ?_
         rintro e v8 ⟨B3, m3, rfl, r3, b8⟩
         have kk := Below.step (show Below w2.heap.size w2 _ from (by first | (with_reducible assumption) | (with_reducible exact below_k (by assumption) _))) b8
         have hz8 := kk.size
         have r3 := Lib.hid r3
         first | (have zz := ((kmade_drew w2 rfl 48 false none 0 0 0).on b6.out).on b8; obtain ⟨p0, p1, p2, g0, g1, g2, _⟩ := zz.cells; have zz := Lib.hid zz) | (have zz := (DB.made v6 rfl 48 false none 0 0 0).on b8; obtain ⟨p0, p1, p2, g0, g1, g2, _⟩ := zz.cells; have zz := Lib.hid zz) | skip
         clear b8))
    all_goals go_wp2_with fail
    all_goals go_meet
    all_goals (first | (exact ⟨_, B3, m3, rfl, rfl, zz.out.put_d rn B3 m3 m3 re, zz.out.res r3.out _ _ _, (by first | exact Nat.le_refl _ | omega), below_put3 kk (by omega) _ _ _⟩) | (exact ⟨_, B3, m3, rfl, rfl, DB.made v8 rfl 48 rn B3 m3 m3 re, r3.out.on (below_lit _ _), (by omega), below_k kk _⟩))
  case rest =>
    obtain ⟨gzh, Azh, nzh, rfl, rfl, zh, rh, hg, b⟩ := hcut
    clear hg
    obtain ⟨w3, rfl⟩ : ∃ w3 : World, w3 = wc := ⟨_, rfl⟩
    replace z0 := z0.on b
    replace z1 := z1.on b
    replace hT := hT.on b
    replace zn := zn.on b
    replace ra := ra.on b
    replace BW := Below.step BW b
    clear b
    have lh := res_n_le rh (k := 128) (by omega)
    obtain ⟨z0c0, z0c1, z0c2, z0f0, z0f1, z0f2, z0l⟩ := z0.cells
    obtain ⟨zhc0, zhc1, zhc2, zhf0, zhf1, zhf2, zhl⟩ := zh.cells
    obtain ⟨znc0, znc1, znc2, znc3, znc4, znf0, znf1, znf2, znf3, znf4, znl⟩ := zn.cells
    go_wp2_with fail
    refine (put_as hf (rh.arg (by omega)) (by omega) hT HPU.out).mono ?_
    rintro en w4 ⟨rfl, b⟩
    clear z0c0 z0c1 z0c2 z0f0 z0f1 z0f2 z0l zhc0 zhc1 zhc2 zhf0 zhf1 zhf2 zhl znc0 znc1 znc2 znc3 znc4 znf0 znf1 znf2 znf3 znf4 znl
    replace z0 := z0.on b
    replace z1 := z1.on b
    replace hT := hT.on b
    replace zn := zn.on b
    replace ra := ra.on b
    replace zh := zh.on b
    replace rh := rh.on b
    replace BW := Below.step BW b
    clear b
    obtain ⟨z0c0, z0c1, z0c2, z0f0, z0f1, z0f2, z0l⟩ := z0.cells
    obtain ⟨zhc0, zhc1, zhc2, zhf0, zhf1, zhf2, zhl⟩ := zh.cells
    obtain ⟨znc0, znc1, znc2, znc3, znc4, znf0, znf1, znf2, znf3, znf4, znl⟩ := zn.cells
    go_wp2_with fail
    refine (HB.out _).mono ?_
    rintro en w5 ⟨rfl, b⟩
    clear z0c0 z0c1 z0c2 z0f0 z0f1 z0f2 z0l zhc0 zhc1 zhc2 zhf0 zhf1 zhf2 zhl znc0 znc1 znc2 znc3 znc4 znf0 znf1 znf2 znf3 znf4 znl
    replace z0 := z0.on b
    replace z1 := z1.on b
    replace hT := hT.on b
    replace zn := zn.on b
    replace ra := ra.on b
    replace zh := zh.on b
    replace rh := rh.on b
    replace BW := Below.step BW b
    clear b
    go_wp2_with fail
    refine bodyPost_ret (v := .tuple #[.int .u64 (v : Int), .int .i64 5, .int .i64 0]) (by simp [results, Tryz.results54, go_sem]) rfl ⟨rfl, BW⟩
set_option maxHeartbeats 4000000 in
set_option maxRecDepth 100000 in
theorem to_within {B P W M E H : Nat} {low : Int} (hf : Fm B P W M E H low) {A : Option Addr} {n c x : Nat} {neg : Bool} {e : Int} {w : World} (h : Arg w A n c x) (hs : n ≤ 30000) (hT : Tab w) {ng : Bool} {mode : Int} {dx : Nat} {de t : Int} (HI : Hid (∀ V, Calls Tryz.prog 90 #[.int .i64 mode] V fun e w' => e = .returned (.bool true) ∧ V = w')) (HK : Hid (∀ (V : World), Arg V A n c x → n ≤ 30000 → Tab V → Calls Tryz.prog 91 #[.agg #[.bool neg, .slice A n c, .int .i64 e]] V (TkX V neg dx de t false 0))) (hdx : blen dx ≤ 4096) {p : Int}
    (HP : Hid (∀ (V : World) (A1 : Option Addr) (n1 : Nat), Calls Tryz.prog 93 #[.agg #[.bool neg, .slice A1 n1 n1, .int .i64 de, .int .i64 t, .bool false], .agg #[.int .i64 (B : Int), .int .i64 (P : Int), .int .i64 (W : Int)]] V fun en w' => en = .returned (.int .i64 p) ∧ Below V.heap.size V w'))
    {rn : Bool} {rx : Nat} {re : Int} {lost : Bool}
    (HR : Hid (∀ (V : World) (A1 : Option Addr) (n1 : Nat), Arg V A1 n1 n1 dx → n1 ≤ 30000 → Tab V → Calls Tryz.prog 92 #[.agg #[.bool neg, .slice A1 n1 n1, .int .i64 de, .int .i64 t, .bool false], .int .i64 mode, .int .i64 p] V (RoX V rn rx re lost))) (hrx : blen rx ≤ 4096) {b : Nat} {pe : Int} (HPU : Hid (putS P M E H low ⟨rn, rx, re⟩ = (b, pe))) (hpe : (pe != 0) = false) {z v : Nat} {fl : Int} (HN : Hid (∀ V, Calls Tryz.prog 40 #[.agg #[.int .i64 (B : Int), .int .i64 (P : Int), .int .i64 (W : Int)], .bool neg] V fun en w' => en = .returned (.int .u64 (z : Int)) ∧ Below V.heap.size V w'))
    (HF : Hid (∀ (V : World) (A1 : Option Addr) (n1 : Nat), Calls Tryz.prog 96 #[.agg #[.bool neg, .slice A1 n1 n1, .int .i64 de, .int .i64 t, .bool false], .agg #[.int .i64 (B : Int), .int .i64 (P : Int), .int .i64 (W : Int)], .bool lost] V fun en w' => en = .returned (.int .i64 fl) ∧ Below V.heap.size V w')) (q7 : bits BinOp.or IntKind.u64 (b : Int) (z : Int) = (v : Int)) :
    Calls Tryz.prog 54 #[.agg #[.int .i64 (B : Int), .int .i64 (P : Int), .int .i64 (W : Int)], .int .i64 mode, .agg #[.bool neg, .slice A n c, .int .i64 e], .bool ng] w (ToX w v fl 0) := by
  go_enter Tryz.func54, Tryz.ntmps54
  go_wp2_with fail
  obtain ⟨V, hV, z0, z1, BW, sW⟩ := fframe2 w 25 48 (B : Int) (P : Int) (W : Int) neg A n c e
  rw [hV]
  clear hV sW
  replace hT := hT.on BW
  replace h := h.on BW
  refine (HI.out _).mono ?_
  rintro en w' ⟨rfl, rfl⟩
  obtain ⟨z0c0, z0c1, z0c2, z0f0, z0f1, z0f2, z0l⟩ := z0.cells
  obtain ⟨z1c0, z1c1, z1c2, z1f0, z1f1, z1f2, z1l⟩ := z1.cells
  go_wp2_with fail
  refine (HK.out _ h hs hT).mono ?_
  rintro en w1 ⟨V_rd, v_rd, rfl, rd, b⟩
  clear z0c0 z0c1 z0c2 z0f0 z0f1 z0f2 z0l z1c0 z1c1 z1c2 z1f0 z1f1 z1f2 z1l
  replace z0 := z0.on b
  replace z1 := z1.on b
  replace hT := hT.on b
  replace h := h.on b
  replace BW := Below.step BW b
  clear b
  obtain ⟨z0c0, z0c1, z0c2, z0f0, z0f1, z0f2, z0l⟩ := z0.cells
  obtain ⟨z1c0, z1c1, z1c2, z1f0, z1f1, z1f2, z1l⟩ := z1.cells
  go_upto_region 4 with fail
  clear z0c0 z0c1 z0c2 z0f0 z0f1 z0f2 z0l z1c0 z1c1 z1c2 z1f0 z1f1 z1f2 z1l
  obtain ⟨w2, e_w2⟩ : ∃ w', w1.alloc (nob neg V_rd v_rd v_rd de t false 121) = w' := ⟨_, rfl⟩
  have b : Below w1.heap.size w1 w2 := e_w2 ▸ below_lit _ _
  have hs_w2 : w2.heap.size = w1.heap.size + 1 := e_w2 ▸ size_lit w1 _ rfl
  have zn : NB w2 w1.heap.size 121 neg V_rd v_rd v_rd de t false := e_w2 ▸ NB.made w1 rfl 121 neg V_rd v_rd v_rd de t false
  rw [e_w2]
  clear e_w2
  replace z0 := z0.on b
  replace z1 := z1.on b
  replace hT := hT.on b
  replace h := h.on b
  replace rd := rd.on b
  replace BW := Below.step BW b
  clear b
  clear hs_w2
  have lk := res_n_le rd (k := 128) (by omega)
  have ra := rd.arg (by omega)
  clear rd h
  obtain ⟨z0c0, z0c1, z0c2, z0f0, z0f1, z0f2, z0l⟩ := z0.cells
  obtain ⟨z1c0, z1c1, z1c2, z1f0, z1f1, z1f2, z1l⟩ := z1.cells
  obtain ⟨znc0, znc1, znc2, znc3, znc4, znf0, znf1, znf2, znf3, znf4, znl⟩ := zn.cells
  go_upto_region 8 with fail
  clear z0c0 z0c1 z0c2 z0f0 z0f1 z0f2 z0l z1c0 z1c1 z1c2 z1f0 z1f1 z1f2 z1l znc0 znc1 znc2 znc3 znc4 znf0 znf1 znf2 znf3 znf4 znl
  go_cut [13, 14] (CutL w2 rn rx re lost)
  case first =>
    have HS : Hid (∀ w', Below w2.heap.size w2 w' → w'.cell? ⟨w.heap.size, 0, none⟩ = some (.int .i64 (B : Int)) ∧ w'.cell? ⟨w.heap.size, 1, none⟩ = some (.int .i64 (P : Int)) ∧ w'.cell? ⟨w.heap.size, 2, none⟩ = some (.int .i64 (W : Int)) ∧ w'.cell? ⟨w1.heap.size, 0, none⟩ = some (.bool neg) ∧ w'.cell? ⟨w1.heap.size, 1, none⟩ = some (.slice V_rd v_rd v_rd) ∧ w'.cell? ⟨w1.heap.size, 2, none⟩ = some (.int .i64 de) ∧ w'.cell? ⟨w1.heap.size, 3, none⟩ = some (.int .i64 t) ∧ w'.cell? ⟨w1.heap.size, 4, none⟩ = some (.bool false)) := fun w' hb => by
      have p0 := (z0.on hb).cells
      have p1 := (zn.on hb).cells
      exact ⟨p0.1, p0.2.1, p0.2.2.1, p1.1, p1.2.1, p1.2.2.1, p1.2.2.2.1, p1.2.2.2.2.1⟩
    have kk : Below w2.heap.size w2 w2.drew := (Below.refl _ _).drew
    have kd : Below w2.heap.size w2 (w2.alloc (dob false none 0 0 0 48)).drew := (below_k (Below.refl _ _) _).drew
    have KhT := Lib.hid hT
    have Kra := Lib.hid ra
    clear z0 z1 hT zn ra BW
    go_region_held3 (fun w' => w'.cell? ⟨w.heap.size, 0, none⟩ = some (.int .i64 (B : Int)) ∧ w'.cell? ⟨w.heap.size, 1, none⟩ = some (.int .i64 (P : Int)) ∧ w'.cell? ⟨w.heap.size, 2, none⟩ = some (.int .i64 (W : Int)) ∧ w'.cell? ⟨w1.heap.size, 0, none⟩ = some (.bool neg) ∧ w'.cell? ⟨w1.heap.size, 1, none⟩ = some (.slice V_rd v_rd v_rd) ∧ w'.cell? ⟨w1.heap.size, 2, none⟩ = some (.int .i64 de) ∧ w'.cell? ⟨w1.heap.size, 3, none⟩ = some (.int .i64 t) ∧ w'.cell? ⟨w1.heap.size, 4, none⟩ = some (.bool false))
      ((refine HS.out _ ?_; first | (with_reducible assumption) | (with_reducible exact below_k (by assumption) _) | ((with_reducible refine below_put3 ?_ ?_ _ _ _) <;> first | (with_reducible assumption) | omega)))
      (first
      | (go_at_call 93
         refine (HP.out _ _ _).mono ?_
         rintro e v6 ⟨rfl, b6⟩
         have kk := Below.step (show Below w2.heap.size w2 _ from (by first | (with_reducible assumption) | (with_reducible exact below_k (by assumption) _))) b6
         have hz6 := kk.size
         have b6 := Lib.hid b6)
      | (go_at_call 92
         refine (HR.out _ _ _ (Kra.out.on (by first | (with_reducible assumption) | (with_reducible exact below_k (by assumption) _))) (by omega) (KhT.out.on (by first | (with_reducible assumption) | (with_reducible exact below_k (by assumption) _)))).mono ?_
         rintro e v8 ⟨B3, m3, rfl, r3, b8⟩
         have kk := Below.step (show Below w2.heap.size w2 _ from (by first | (with_reducible assumption) | (with_reducible exact below_k (by assumption) _))) b8
         have hz8 := kk.size
         have r3 := Lib.hid r3
         first | (have zz := ((kmade_drew w2 rfl 48 false none 0 0 0).on b6.out).on b8; obtain ⟨p0, p1, p2, g0, g1, g2, _⟩ := zz.cells; have zz := Lib.hid zz) | (have zz := (DB.made v6 rfl 48 false none 0 0 0).on b8; obtain ⟨p0, p1, p2, g0, g1, g2, _⟩ := zz.cells; have zz := Lib.hid zz) | skip
         clear b8))
    all_goals go_wp2_with fail
    all_goals go_meet
    all_goals (first | (exact ⟨_, B3, m3, rfl, rfl, zz.out.put_d rn B3 m3 m3 re, zz.out.res r3.out _ _ _, (by first | exact Nat.le_refl _ | omega), below_put3 kk (by omega) _ _ _⟩) | (exact ⟨_, B3, m3, rfl, rfl, DB.made v8 rfl 48 rn B3 m3 m3 re, r3.out.on (below_lit _ _), (by omega), below_k kk _⟩))
  case rest =>
    obtain ⟨gzh, Azh, nzh, rfl, rfl, zh, rh, hg, b⟩ := hcut
    clear hg
    obtain ⟨w3, rfl⟩ : ∃ w3 : World, w3 = wc := ⟨_, rfl⟩
    replace z0 := z0.on b
    replace z1 := z1.on b
    replace hT := hT.on b
    replace zn := zn.on b
    replace ra := ra.on b
    replace BW := Below.step BW b
    clear b
    have lh := res_n_le rh (k := 128) (by omega)
    obtain ⟨z0c0, z0c1, z0c2, z0f0, z0f1, z0f2, z0l⟩ := z0.cells
    obtain ⟨zhc0, zhc1, zhc2, zhf0, zhf1, zhf2, zhl⟩ := zh.cells
    obtain ⟨znc0, znc1, znc2, znc3, znc4, znf0, znf1, znf2, znf3, znf4, znl⟩ := zn.cells
    go_wp2_with fail
    refine (put_as hf (rh.arg (by omega)) (by omega) hT HPU.out).mono ?_
    rintro en w4 ⟨rfl, b⟩
    clear z0c0 z0c1 z0c2 z0f0 z0f1 z0f2 z0l zhc0 zhc1 zhc2 zhf0 zhf1 zhf2 zhl znc0 znc1 znc2 znc3 znc4 znf0 znf1 znf2 znf3 znf4 znl
    replace z0 := z0.on b
    replace z1 := z1.on b
    replace hT := hT.on b
    replace zn := zn.on b
    replace ra := ra.on b
    replace zh := zh.on b
    replace rh := rh.on b
    replace BW := Below.step BW b
    clear b
    obtain ⟨z0c0, z0c1, z0c2, z0f0, z0f1, z0f2, z0l⟩ := z0.cells
    obtain ⟨zhc0, zhc1, zhc2, zhf0, zhf1, zhf2, zhl⟩ := zh.cells
    obtain ⟨znc0, znc1, znc2, znc3, znc4, znf0, znf1, znf2, znf3, znf4, znl⟩ := zn.cells
    go_wp2_with fail
    clear z0c0 z0c1 z0c2 z0f0 z0f1 z0f2 z0l zhc0 zhc1 zhc2 zhf0 zhf1 zhf2 zhl znc0 znc1 znc2 znc3 znc4 znf0 znf1 znf2 znf3 znf4 znl
    replace z0 := z0.on ((Below.refl _ _).drew : Below w4.heap.size w4 w4.drew)
    replace z1 := z1.on ((Below.refl _ _).drew : Below w4.heap.size w4 w4.drew)
    replace hT := hT.on ((Below.refl _ _).drew : Below w4.heap.size w4 w4.drew)
    replace zn := zn.on ((Below.refl _ _).drew : Below w4.heap.size w4 w4.drew)
    replace ra := ra.on ((Below.refl _ _).drew : Below w4.heap.size w4 w4.drew)
    replace zh := zh.on ((Below.refl _ _).drew : Below w4.heap.size w4 w4.drew)
    replace rh := rh.on ((Below.refl _ _).drew : Below w4.heap.size w4 w4.drew)
    replace BW := Lib.hid (Below.step BW ((Below.refl _ _).drew : Below w4.heap.size w4 w4.drew))
    go_region_held3 (fun w' => w'.cell? ⟨w.heap.size, 0, none⟩ = some (.int .i64 (B : Int)) ∧ w'.cell? ⟨w.heap.size, 1, none⟩ = some (.int .i64 (P : Int)) ∧ w'.cell? ⟨w.heap.size, 2, none⟩ = some (.int .i64 (W : Int)) ∧ w'.cell? ⟨w1.heap.size, 0, none⟩ = some (.bool neg) ∧ w'.cell? ⟨w1.heap.size, 1, none⟩ = some (.slice V_rd v_rd v_rd) ∧ w'.cell? ⟨w1.heap.size, 2, none⟩ = some (.int .i64 de) ∧ w'.cell? ⟨w1.heap.size, 3, none⟩ = some (.int .i64 t) ∧ w'.cell? ⟨w1.heap.size, 4, none⟩ = some (.bool false))
      ((exact ⟨z0.cells.1, z0.cells.2.1, z0.cells.2.2.1, zn.cells.1, zn.cells.2.1, zn.cells.2.2.1, zn.cells.2.2.2.1, zn.cells.2.2.2.2.1⟩))
      (first
        | (go_at_call 40
           (with_reducible refine (HN.out _).mono ?_)
           rintro en w5 ⟨rfl, b⟩
           replace z0 := z0.on b
           replace z1 := z1.on b
           replace hT := hT.on b
           replace zn := zn.on b
           replace ra := ra.on b
           replace zh := zh.on b
           replace rh := rh.on b
           replace BW := Lib.hid (Below.step BW.out b)
           clear b)
        | (go_at_call 96
           (with_reducible refine (HF.out _ _ _).mono ?_)
           rintro en w6 ⟨rfl, b⟩
           replace z0 := z0.on b
           replace z1 := z1.on b
           replace hT := hT.on b
           replace zn := zn.on b
           replace ra := ra.on b
           replace zh := zh.on b
           replace rh := rh.on b
           replace BW := Lib.hid (Below.step BW.out b)
           clear b))
    replace BW := BW.out
    all_goals (
      go_wp2_with fail
      refine bodyPost_ret (v := .tuple #[.int .u64 (v : Int), .int .i64 fl, .int .i64 0]) (by simp [results, Tryz.results54, go_sem]) rfl ⟨rfl, BW⟩)
end Go.Proofs.YtpachoeignpcbaaGreatDoor

namespace Go.Proofs.YtpachoeignpcbaaGreatDoor
open Go.RowKit
set_option linter.unusedVariables false

theorem or_sgn {B P W M E H : Nat} {low : Int} (hf : Fm B P W M E H low) (neg : Bool) (c : Nat) (hc : c < H) : bits BinOp.or IntKind.u64 ((sgn H neg c : Nat) : Int) ((sgn H neg 0 : Nat) : Int) = ((sgn H neg c : Nat) : Int) := by
  obtain ⟨b1, b2, b3, b4, b5, b6, b7, b8, b9, b10, b11, b12, b13, b14, b15⟩ := hf.bd
  have hB := hf.pB
  unfold sgn
  cases neg
  · rw [if_neg (by decide), if_neg (by decide), or_u64 _ _ (by omega) (by omega), Nat.or_zero]
  · rw [if_pos rfl, if_pos rfl, or_u64 _ _ (by omega) (by omega), Nat.add_zero, ← hB, or_one_bit, hB, if_pos]
    rw [show H + c = c + H * 1 by omega, Nat.add_mul_div_left _ _ (by omega), Nat.div_eq_of_lt hc]
theorem tiny_top {B P W M E H : Nat} {low : Int} (hf : Fm B P W M E H low) {a : D} (h0 : a.x ≠ 0) (he : -40000 ≤ a.e) : decide ((blen a.x : Int) - 1 + a.e < low + (P : Int) - 1) = tinyS M low a.vl.natAbs := by
  obtain ⟨b1, b2, b3, b4, b5, b6, b7, b8, b9, b10, b11, b12, b13, b14, b15⟩ := hf.bd
  have hv := vl_blen h0 he
  have hb := blen_le a.vl.natAbs (P - 1 + (low + 40000).toNat)
  rw [Nat.pow_add, hf.pP] at hb
  unfold tinyS
  rw [decide_eq_decide, ← hb]
  omega
theorem flags_flg {B P W M E H : Nat} {low : Int} (hf : Fm B P W M E H low) {a : D} (h0 : a.x ≠ 0) (he : -40000 ≤ a.e) {p : Int} (hp : plcS P low a = p) :
    (if decide (a.vl.natAbs % 2 ^ (p + 40000).toNat ≠ 0) then if decide ((blen a.x : Int) - 1 + a.e < low + (P : Int) - 1) then (3 : Int) else 1 else 0) = flgS P M low a.vl.natAbs := by
  have hplc := plc_cell (P := P) (low := low) h0 he
  rw [hp] at hplc
  have fs1 := (flC_spec hf a.vl.natAbs).1
  rw [← hplc] at fs1
  rw [tiny_top hf h0 he]
  unfold flgS
  rw [fs1]
  have hdm := Nat.div_add_mod a.vl.natAbs (2 ^ (p + 40000).toNat)
  rw [Nat.mul_comm] at hdm
  by_cases hz : a.vl.natAbs % 2 ^ (p + 40000).toNat = 0
  · rw [if_neg (by simpa using hz), if_pos (by omega)]
  · have hne : ¬ (a.vl.natAbs / 2 ^ (p + 40000).toNat * 2 ^ (p + 40000).toNat = a.vl.natAbs) := by omega
    rw [if_pos (by simpa using hz), if_neg hne]
/-- TO: what it tells. -/
theorem to_as {B P W M E H : Nat} {low : Int} (hf : Fm B P W M E H low) {A : Option Addr} {n c x : Nat} {neg : Bool} {e : Int} {w : World} (h : Arg w A n c x) (hs : n ≤ 30000) (hT : Tab w) (mode : Int) (ng : Bool) {v : Nat} {fl err : Int} (hr : roundS P M E H low mode ⟨neg, x, e⟩ ng = (v, fl, err)) :
    Calls Tryz.prog 54 #[.agg #[.int .i64 (B : Int), .int .i64 (P : Int), .int .i64 (W : Int)], .int .i64 mode, .agg #[.bool neg, .slice A n c, .int .i64 e], .bool ng] w (ToX w v fl err) := by
  obtain ⟨b1, b2, b3, b4, b5, b6, b7, b8, b9, b10, b11, b12, b13, b14, b15⟩ := hf.bd
  unfold roundS at hr
  by_cases hmode : mode < 0 ∨ 4 < mode
  · rw [if_pos hmode] at hr
    simp only [Prod.mk.injEq] at hr
    obtain ⟨rfl, rfl, rfl⟩ := hr
    exact to_mode hf h hs hT (Lib.hid fun V => isMode_as mode false (by rw [Bool.and_eq_false_iff, decide_eq_false_iff_not, decide_eq_false_iff_not]; omega) V)
  rw [if_neg hmode] at hr
  have HI := Lib.hid fun V => isMode_as mode true (by rw [Bool.and_eq_true, decide_eq_true_eq, decide_eq_true_eq]; omega) V
  by_cases hm0 : mayR ⟨neg, x, e⟩ = false
  · rw [hm0, if_neg (by decide)] at hr
    simp only [Prod.mk.injEq] at hr
    obtain ⟨rfl, rfl, rfl⟩ := hr
    exact to_range hf h hs hT HI (Lib.hid fun V g1 g2 g3 => take_none g1 g2 g3 hm0)
  have hm : mayR ⟨neg, x, e⟩ = true := by simpa using hm0
  rw [if_pos hm] at hr
  by_cases h0 : x = 0
  · rw [if_pos h0] at hr
    simp only [Prod.mk.injEq] at hr
    obtain ⟨hv, rfl, rfl⟩ := hr
    exact to_zero hf h hs hT HI (Lib.hid fun V g1 g2 g3 => take_nought g1 g2 g3 hm h0) hv
  rw [if_neg h0] at hr
  obtain ⟨k1, k2, k3, k4⟩ := mayR_bd hm h0
  obtain ⟨p, hp⟩ : ∃ p, plcS P low ⟨neg, x, e⟩ = p := ⟨_, rfl⟩
  obtain ⟨p1, p2⟩ := plc_bd hf hm h0
  rw [hp] at p1 p2
  obtain ⟨dn, dx, de, hd⟩ : ∃ dn dx de, D.pl ⟨neg, x, e⟩ = ⟨dn, dx, de⟩ := ⟨_, _, _, rfl⟩
  obtain ⟨j1, j2, j3, j4⟩ := top_of k1 h0 hd
  have hdn : dn = neg := by
    have := D.pl_pos (d := ⟨neg, x, e⟩) h0
    rw [hd] at this
    simp only [D.mk.injEq] at this
    exact this.1
  subst hdn
  obtain ⟨t, ht⟩ : ∃ t : Int, (blen x : Int) - 1 + e = t := ⟨_, rfl⟩
  have hfl := flags_flg hf (a := ⟨dn, x, e⟩) h0 (by omega) hp
  have hplc := plc_cell (P := P) (low := low) (a := ⟨dn, x, e⟩) h0 (by omega)
  rw [hp] at hplc
  have hup := nb_up hf mode dn (⟨dn, x, e⟩ : D).vl.natAbs
  have hq := (flq hf (⟨dn, x, e⟩ : D).vl.natAbs).1
  rw [← hplc] at hup hq
  obtain ⟨lost, hlost⟩ : ∃ b, decide ((⟨dn, x, e⟩ : D).vl.natAbs % 2 ^ (p + 40000).toNat ≠ 0) = b := ⟨_, rfl⟩
  simp only at k3 k4 hfl hr
  rw [hlost, ht] at hfl
  rw [ht] at k3
  -- the neighbour
  obtain ⟨u, hu⟩ : ∃ u, (⟨dn, x, e⟩ : D).vl.natAbs / 2 ^ (p + 40000).toNat + (if upB mode dn (flC P M low (⟨dn, x, e⟩ : D).vl.natAbs) ((⟨dn, x, e⟩ : D).vl.natAbs - valU M low (flC P M low (⟨dn, x, e⟩ : D).vl.natAbs)) (wid M low (flC P M low (⟨dn, x, e⟩ : D).vl.natAbs)) then 1 else 0) = u := ⟨_, rfl⟩
  have hu1 : u ≤ 2 * M := by rw [← hu]; split <;> omega
  rw [hu] at hup
  obtain ⟨rn, rx, re, hpl⟩ : ∃ rn rx re, D.pl ⟨dn, u, p⟩ = ⟨rn, rx, re⟩ := ⟨_, _, _, rfl⟩
  obtain ⟨l1, l2, l3, l4, l5, l6, l7⟩ := ns_may (n := u) dn (p := p) (by omega) (by omega) (by omega)
  rw [hpl] at l1 l2 l3 l4 l5 l6 l7
  rw [hup] at l7
  simp only at l3 l4 l5
  obtain ⟨C, hC⟩ : ∃ C, rC P M low mode dn (⟨dn, x, e⟩ : D).vl.natAbs = C := ⟨_, rfl⟩
  rw [hC] at hr hup l7
  have HK := Lib.hid fun (V : World) (g1 : Arg V A n c x) g2 (g3 : Tab V) => take_num g1 g2 g3 hm h0 hd ht
  have HP := Lib.hid fun (V : World) (A1 : Option Addr) (n1 : Nat) => place_as hf (dn := dn) (nz := false) (A := A1) (n := n1) (c := n1) (de := de) (w := V) (t := t) (by omega) (by omega) (p := p) (by rw [← ht, ← hp]; rfl)
  have HR := Lib.hid fun (V : World) (A1 : Option Addr) (n1 : Nat) (g1 : Arg V A1 n1 n1 dx) (g2 : n1 ≤ 30000) (g3 : Tab V) => rounded_as hf (nz := false) (t := t) hm h0 hd g1 g2 g3 mode hp hlost (rn := rn) (rx := rx) (re := re) (by simp only [hu]; exact hpl)
  have hrn : rx ≠ 0 → rn = dn := fun hx => by
    by_cases hu0 : u = 0
    · rw [D.pl_zero (d := ⟨dn, u, p⟩) hu0] at hpl
      simp only [D.mk.injEq] at hpl
      exact absurd hpl.2.1.symm hx
    · rw [D.pl_pos (d := ⟨dn, u, p⟩) hu0] at hpl
      simp only [D.mk.injEq] at hpl
      exact hpl.1.symm
  have hME := ME_lt hf
  by_cases hlt : C < M * E
  · rw [if_pos hlt] at hr
    simp only [Prod.mk.injEq] at hr
    obtain ⟨hv, hfl2, rfl⟩ := hr
    have hsub : ∃ b, putS P M E H low ⟨rn, rx, re⟩ = (b, 0) ∧ bits BinOp.or IntKind.u64 (b : Int) ((sgn H dn 0 : Nat) : Int) = (v : Int) := by
      by_cases hx : rx = 0
      · have hC0 : C = 0 := by
          rw [D.vl_natAbs] at l7
          simp only [hx, Nat.zero_mul] at l7
          have := (valU_mono hf (a := 0) (b := C)).1
          rw [valU_zero hf] at this
          omega
        refine ⟨0, by unfold putS; rw [l1, if_pos rfl, if_pos hx], ?_⟩
        rw [← hv, hC0]
        have := or_u64 0 (sgn H dn 0) (by omega) (by unfold sgn; split <;> omega)
        rw [Nat.zero_or] at this
        exact this
      · refine ⟨sgn H dn C, ?_, by rw [← hv]; exact or_sgn hf dn C (by omega)⟩
        have := put_mul hf l2 (by show -40000 ≤ re; omega) hx hlt l7
        rw [this]
        simp only [hrn hx]
    obtain ⟨b, hb1, hb2⟩ := hsub
    exact to_within hf h hs hT HI HK j3 HP HR (by omega) (Lib.hid hb1) (by decide) (Lib.hid fun V => nought_as hf dn _ rfl V)
      (Lib.hid fun V A1 n1 => flags_as hf (dn := dn) (nz := false) (A := A1) (n := n1) (c := n1) (de := de) (t := t) (w := V) lost _ rfl fl (by rw [hfl]; exact hfl2)) hb2
  · rw [if_neg hlt] at hr
    simp only [Prod.mk.injEq] at hr
    obtain ⟨hv, rfl, rfl⟩ := hr
    have hx : rx ≠ 0 := by
      intro hx
      rw [D.vl_natAbs] at l7
      simp only [hx, Nat.zero_mul] at l7
      have := (valU_mono hf (a := 0) (b := C)).1
      rw [valU_zero hf] at this
      omega
    have := put_none hf l1 hx (by omega) l7
    exact to_beyond hf h hs hT HI HK j3 HP HR (by omega) (Lib.hid this) (by decide) (Lib.hid fun V => beyond_as hf mode dn v hv V)
end Go.Proofs.YtpachoeignpcbaaGreatDoor

namespace Go.Proofs.YtpachoeignpcbaaGreatDoor
open Go.RowKit
set_option linter.unusedVariables false

theorem knframe (w : World) (t tr : TypeId) (a b c : Int) (n : Bool) (A : Option Addr) (l k : Nat) (e : Int) : ∃ W, (((w.alloc (.cells #[.int .i64 a, .int .i64 b, .int .i64 c] t)).alloc (dob n A l k e tr)).alloc (dob false none 0 0 0 tr)).alloc (dob false none 0 0 0 tr) = W ∧
    FB W w.heap.size t a b c ∧ DB W (w.heap.size + 1) tr n A l k e ∧ DB W (w.heap.size + 1 + 1) tr false none 0 0 0 ∧ DB W (w.heap.size + 1 + 1 + 1) tr false none 0 0 0 ∧ Below w.heap.size w W ∧ W.heap.size = w.heap.size + 4 :=
  ⟨_, rfl, (((Box.made w t (notU_int _) (notU_int _) (notU_int _)).alloc _).alloc _).alloc _, ((DB.made _ (by simp) tr n A l k e).alloc _).alloc _, (DB.made _ (by simp) tr false none 0 0 0).alloc _, DB.made _ (by simp) tr false none 0 0 0,
    ((((Below.refl _ _).alloc (by simp <;> omega) _).alloc (by simp <;> omega) _).alloc (by simp <;> omega) _).alloc (by simp <;> omega) _, by simp⟩
/-- what Neighbours tells. -/
def NkX (w : World) (ln : Bool) (lx : Nat) (le : Int) (hn : Bool) (hx : Nat) (he : Int) (err : Int) (en : Ending) (w' : World) : Prop :=
  ∃ A n A' n', en = .returned (.tuple #[.agg #[.bool ln, .slice A n n, .int .i64 le], .agg #[.bool hn, .slice A' n' n', .int .i64 he], .int .i64 err]) ∧ Res w' A n lx ∧ Res w' A' n' hx ∧ Below w.heap.size w w'
end Go.Proofs.YtpachoeignpcbaaGreatDoor

namespace Go.Proofs.YtpachoeignpcbaaGreatDoor
open Go.RowKit
set_option linter.unusedVariables false

end Go.Proofs.YtpachoeignpcbaaGreatDoor
