
/-
  The walks of round's away, againstHalf.
-/
import Derived.Test.YtkjbejdeejpdoaaDoorKc
namespace Go.Proofs.YtkjbejdeejpdoaaDoor
open Go.RowKit
set_option linter.unusedVariables false

set_option maxHeartbeats 1000000 in
theorem away_as {dn nz : Bool} {A : Option Addr} {n c : Nat} {de t : Int} {ln : Bool} {A2 : Option Addr} {n2 c2 lx : Nat} {le : Int} {w : World} (h : Arg w A2 n2 c2 lx) (hs : n2 ≤ 30000) (hT : Tab w) {p : Int} {rn : Bool} {rx : Nat} {re : Int} (ha : addS ⟨ln, lx, le⟩ ⟨dn, 1, p⟩ = (⟨rn, rx, re⟩, 0)) :
    Calls Tryd.prog 36 #[.agg #[.bool dn, .slice A n c, .int .i64 de, .int .i64 t, .bool nz], .agg #[.bool ln, .slice A2 n2 c2, .int .i64 le], .int .i64 p] w (PlX w rn rx re) := by
  have HA := Lib.hid ha
  clear ha
  go_enter Tryd.func36, Tryd.ntmps36
  go_wp2_with fail
  obtain ⟨V, hV, z0, z1, z2, BW, sW⟩ := nddframe w 73 25 dn A n c de t nz ln A2 n2 c2 le
  rw [hV]
  clear hV sW
  replace hT := hT.on BW
  replace h := h.on BW
  go_cut [7] (CutD V dn 1 p)
  case first =>
    have HS : Hid (∀ w', Below V.heap.size V w' → w'.cell? ⟨w.heap.size, 0, none⟩ = some (.bool dn) ∧ w'.cell? ⟨w.heap.size, 1, none⟩ = some (.slice A n c) ∧ w'.cell? ⟨w.heap.size, 2, none⟩ = some (.int .i64 de) ∧ w'.cell? ⟨w.heap.size, 3, none⟩ = some (.int .i64 t) ∧ w'.cell? ⟨w.heap.size, 4, none⟩ = some (.bool nz)) := fun w' hb => by
      have p0 := (z0.on hb).cells
      exact ⟨p0.1, p0.2.1, p0.2.2.1, p0.2.2.2.1, p0.2.2.2.2.1⟩
    have kk : Below V.heap.size V V.drew := (Below.refl _ _).drew
    have kd : Below V.heap.size V (V.alloc (dob false none 0 0 0 25)).drew := (below_k (Below.refl _ _) _).drew
    clear z0 z1 z2 hT h BW
    go_region_held3 (fun w' => w'.cell? ⟨w.heap.size, 0, none⟩ = some (.bool dn) ∧ w'.cell? ⟨w.heap.size, 1, none⟩ = some (.slice A n c) ∧ w'.cell? ⟨w.heap.size, 2, none⟩ = some (.int .i64 de) ∧ w'.cell? ⟨w.heap.size, 3, none⟩ = some (.int .i64 t) ∧ w'.cell? ⟨w.heap.size, 4, none⟩ = some (.bool nz))
      ((refine HS.out _ ?_; first | (with_reducible assumption) | (with_reducible exact below_k (by assumption) _) | ((with_reducible refine below_put3 ?_ ?_ _ _ _) <;> first | (with_reducible assumption) | omega)))
      (first
      | (go_at_call 28
         refine (fof_as 1 (by omega) _).mono ?_
         rintro e v8 ⟨B3, m3, rfl, r3, b8⟩
         have kk := Below.step (show Below V.heap.size V _ from (by first | (with_reducible assumption) | (with_reducible exact below_k (by assumption) _))) b8
         have hz8 := kk.size
         have r3 := Lib.hid r3
         first | (have zz := (kmade_drew V rfl 25 false none 0 0 0).on b8; obtain ⟨p0, p1, p2, g0, g1, g2, _⟩ := zz.cells; have zz := Lib.hid zz) | skip
         clear b8))
    all_goals go_wp2_with fail
    all_goals go_meet
    all_goals (first | (exact ⟨_, B3, m3, rfl, zz.out.put_d dn B3 m3 m3 p, zz.out.res r3.out _ _ _, (by first | exact Nat.le_refl _ | omega), below_put3 kk (by omega) _ _ _⟩) | (exact ⟨_, B3, m3, rfl, DB.made v8 rfl 25 dn B3 m3 m3 p, r3.out.on (below_lit _ _), (by omega), below_k kk _⟩))
  case rest =>
    obtain ⟨gzh, Azh, nzh, rfl, zh, rh, hg, b⟩ := hcut
    clear hg
    obtain ⟨w1, rfl⟩ : ∃ w1 : World, w1 = wc := ⟨_, rfl⟩
    replace z0 := z0.on b
    replace z1 := z1.on b
    replace z2 := z2.on b
    replace hT := hT.on b
    replace h := h.on b
    replace BW := Below.step BW b
    clear b
    have lh := rh.le2 (by omega)
    obtain ⟨z1c0, z1c1, z1c2, z1f0, z1f1, z1f2, z1l⟩ := z1.cells
    obtain ⟨z2c0, z2c1, z2c2, z2f0, z2f1, z2f2, z2l⟩ := z2.cells
    obtain ⟨zhc0, zhc1, zhc2, zhf0, zhf1, zhf2, zhl⟩ := zh.cells
    go_wp2_with fail
    refine (dadd_as h (rh.arg (by omega)) hs (by omega) hT HA).mono ?_
    rintro en w2 ⟨V_ra, v_ra, rfl, ra, b⟩
    clear z1c0 z1c1 z1c2 z1f0 z1f1 z1f2 z1l z2c0 z2c1 z2c2 z2f0 z2f1 z2f2 z2l zhc0 zhc1 zhc2 zhf0 zhf1 zhf2 zhl
    replace z0 := z0.on b
    replace z1 := z1.on b
    replace z2 := z2.on b
    replace hT := hT.on b
    replace h := h.on b
    replace zh := zh.on b
    replace rh := rh.on b
    replace BW := Below.step BW b
    clear b
    obtain ⟨z2c0, z2c1, z2c2, z2f0, z2f1, z2f2, z2l⟩ := z2.cells
    go_wp2_with fail
    have y2 := z2.put_d rn V_ra v_ra v_ra re
    have yl := z2.res ra (.bool rn) (.slice V_ra v_ra v_ra) (.int .i64 re)
    have yb := below_put3 BW (show w.heap.size ≤ (w.heap.size + 1 + 1) by omega) (.bool rn) (.slice V_ra v_ra v_ra) (.int .i64 re)
    replace y2 := y2.on (below_lit _ (dob rn V_ra v_ra v_ra re 25))
    replace yl := yl.on (below_lit _ (dob rn V_ra v_ra v_ra re 25))
    replace yb := below_k yb (dob rn V_ra v_ra v_ra re 25)
    obtain ⟨p0, p1, p2, _⟩ := y2.cells
    refine bodyPost_ret (v := .agg #[.bool rn, .slice V_ra v_ra v_ra, .int .i64 re]) (by simp [results, Tryd.results36, go_sem, p0, p1, p2]) rfl ?_
    exact ⟨_, _, rfl, yl, yb⟩
theorem half_walk {dn nz : Bool} {A : Option Addr} {n c : Nat} {de t : Int} {ln : Bool} {A2 : Option Addr} {n2 c2 lx : Nat} {le : Int} {x : Nat} {w : World} (h : Arg w A n c x) (hs : n ≤ 30000) (h2 : Arg w A2 n2 c2 lx) (hs2 : n2 ≤ 30000) (hT : Tab w) {p : Int} (p1 : -10000 ≤ p) (p2 : p ≤ 10000) {hn : Bool} {hx : Nat} {he : Int} (same more : Bool) (q : Int)
    (hf : floorS ⟨dn, x, de⟩ (p - 1) = (⟨hn, hx, he⟩, more, 0)) (hhx : blen hx ≤ 4096) (hq : (if same then -1 else if more then 1 else 0) = q)
    (hm : D.may ⟨hn, hx, he⟩ = true) (hm2 : D.may ⟨ln, lx, le⟩ = true) (hv : decide (D.vl ⟨hn, hx, he⟩ = D.vl ⟨ln, lx, le⟩) = same) :
    Calls Tryd.prog 86 #[.agg #[.bool dn, .slice A n c, .int .i64 de, .int .i64 t, .bool nz], .agg #[.bool ln, .slice A2 n2 c2, .int .i64 le], .int .i64 p] w fun en w' => en = .returned (.int .i64 q) ∧ Below w.heap.size w w' := by
  have q1 : IntKind.i64.wrap (p - 1) = p - 1 := IntWalk.i64_in _ (by omega)
  have HF := Lib.hid hf
  have HS := Lib.hid (fun (V : World) (A1 : Option Addr) (n1 : Nat) (g1 : Arg V A1 n1 n1 hx) (g2 : Arg V A2 n2 c2 lx) (g3 : Tab V) (g4 : n1 ≤ 30000) => dsame_vl g1 g2 g4 hs2 g3 hm hm2 same hv)
  clear hf hv hm hm2
  cases same
  · cases more
    · obtain rfl : q = 0 := by rw [← hq]; rfl
      clear hq
      go_enter Tryd.func86, Tryd.ntmps86
      go_wp2_with fail
      obtain ⟨V, hV, z0, z1, BW, sW⟩ := ndframe w 73 25 dn A n c de t nz ln A2 n2 c2 le
      rw [hV]
      clear hV sW
      replace hT := hT.on BW
      replace h := h.on BW
      replace h2 := h2.on BW
      obtain ⟨z0c0, z0c1, z0c2, z0c3, z0c4, z0f0, z0f1, z0f2, z0f3, z0f4, z0l⟩ := z0.cells
      obtain ⟨z1c0, z1c1, z1c2, z1f0, z1f1, z1f2, z1l⟩ := z1.cells
      go_wp2_with fail
      refine (dfloor_as h hs hT HF.out).mono ?_
      rintro en w1 ⟨V_rl, v_rl, rfl, rl, b⟩
      clear z0c0 z0c1 z0c2 z0c3 z0c4 z0f0 z0f1 z0f2 z0f3 z0f4 z0l z1c0 z1c1 z1c2 z1f0 z1f1 z1f2 z1l
      replace z0 := z0.on b
      replace z1 := z1.on b
      replace hT := hT.on b
      replace h := h.on b
      replace h2 := h2.on b
      replace BW := Below.step BW b
      clear b
      have ll := res_n_le rl (k := 128) (by omega)
      obtain ⟨z0c0, z0c1, z0c2, z0c3, z0c4, z0f0, z0f1, z0f2, z0f3, z0f4, z0l⟩ := z0.cells
      obtain ⟨z1c0, z1c1, z1c2, z1f0, z1f1, z1f2, z1l⟩ := z1.cells
      go_upto_region 2 with fail
      clear z0c0 z0c1 z0c2 z0c3 z0c4 z0f0 z0f1 z0f2 z0f3 z0f4 z0l z1c0 z1c1 z1c2 z1f0 z1f1 z1f2 z1l
      obtain ⟨w2, e_w2⟩ : ∃ w', w1.alloc (dob hn V_rl v_rl v_rl he 25) = w' := ⟨_, rfl⟩
      have b : Below w1.heap.size w1 w2 := e_w2 ▸ below_lit _ _
      have hs_w2 : w2.heap.size = w1.heap.size + 1 := e_w2 ▸ size_lit w1 _ rfl
      have zl : DB w2 w1.heap.size 25 hn V_rl v_rl v_rl he := e_w2 ▸ DB.made w1 rfl 25 hn V_rl v_rl v_rl he
      rw [e_w2]
      clear e_w2
      replace z0 := z0.on b
      replace z1 := z1.on b
      replace hT := hT.on b
      replace h := h.on b
      replace h2 := h2.on b
      replace rl := rl.on b
      replace BW := Below.step BW b
      clear b
      clear hs_w2
      obtain ⟨z1c0, z1c1, z1c2, z1f0, z1f1, z1f2, z1l⟩ := z1.cells
      obtain ⟨zlc0, zlc1, zlc2, zlf0, zlf1, zlf2, zll⟩ := zl.cells
      go_wp2_with fail
      refine (HS.out _ V_rl v_rl (rl.arg (by omega)) h2 hT (by omega)).mono ?_
      rintro en w3 ⟨rfl, b⟩
      clear z1c0 z1c1 z1c2 z1f0 z1f1 z1f2 z1l zlc0 zlc1 zlc2 zlf0 zlf1 zlf2 zll
      replace z0 := z0.on b
      replace z1 := z1.on b
      replace hT := hT.on b
      replace h := h.on b
      replace h2 := h2.on b
      replace rl := rl.on b
      replace zl := zl.on b
      replace BW := Below.step BW b
      clear b
      obtain ⟨z1c0, z1c1, z1c2, z1f0, z1f1, z1f2, z1l⟩ := z1.cells
      obtain ⟨zlc0, zlc1, zlc2, zlf0, zlf1, zlf2, zll⟩ := zl.cells
      go_wp2_with fail
      refine bodyPost_ret (v := .int .i64 0) (by simp [results, Tryd.results86, go_sem]) rfl ⟨rfl, BW⟩
    · obtain rfl : q = 1 := by rw [← hq]; rfl
      clear hq
      go_enter Tryd.func86, Tryd.ntmps86
      go_wp2_with fail
      obtain ⟨V, hV, z0, z1, BW, sW⟩ := ndframe w 73 25 dn A n c de t nz ln A2 n2 c2 le
      rw [hV]
      clear hV sW
      replace hT := hT.on BW
      replace h := h.on BW
      replace h2 := h2.on BW
      obtain ⟨z0c0, z0c1, z0c2, z0c3, z0c4, z0f0, z0f1, z0f2, z0f3, z0f4, z0l⟩ := z0.cells
      obtain ⟨z1c0, z1c1, z1c2, z1f0, z1f1, z1f2, z1l⟩ := z1.cells
      go_wp2_with fail
      refine (dfloor_as h hs hT HF.out).mono ?_
      rintro en w1 ⟨V_rl, v_rl, rfl, rl, b⟩
      clear z0c0 z0c1 z0c2 z0c3 z0c4 z0f0 z0f1 z0f2 z0f3 z0f4 z0l z1c0 z1c1 z1c2 z1f0 z1f1 z1f2 z1l
      replace z0 := z0.on b
      replace z1 := z1.on b
      replace hT := hT.on b
      replace h := h.on b
      replace h2 := h2.on b
      replace BW := Below.step BW b
      clear b
      have ll := res_n_le rl (k := 128) (by omega)
      obtain ⟨z0c0, z0c1, z0c2, z0c3, z0c4, z0f0, z0f1, z0f2, z0f3, z0f4, z0l⟩ := z0.cells
      obtain ⟨z1c0, z1c1, z1c2, z1f0, z1f1, z1f2, z1l⟩ := z1.cells
      go_upto_region 2 with fail
      clear z0c0 z0c1 z0c2 z0c3 z0c4 z0f0 z0f1 z0f2 z0f3 z0f4 z0l z1c0 z1c1 z1c2 z1f0 z1f1 z1f2 z1l
      obtain ⟨w2, e_w2⟩ : ∃ w', w1.alloc (dob hn V_rl v_rl v_rl he 25) = w' := ⟨_, rfl⟩
      have b : Below w1.heap.size w1 w2 := e_w2 ▸ below_lit _ _
      have hs_w2 : w2.heap.size = w1.heap.size + 1 := e_w2 ▸ size_lit w1 _ rfl
      have zl : DB w2 w1.heap.size 25 hn V_rl v_rl v_rl he := e_w2 ▸ DB.made w1 rfl 25 hn V_rl v_rl v_rl he
      rw [e_w2]
      clear e_w2
      replace z0 := z0.on b
      replace z1 := z1.on b
      replace hT := hT.on b
      replace h := h.on b
      replace h2 := h2.on b
      replace rl := rl.on b
      replace BW := Below.step BW b
      clear b
      clear hs_w2
      obtain ⟨z1c0, z1c1, z1c2, z1f0, z1f1, z1f2, z1l⟩ := z1.cells
      obtain ⟨zlc0, zlc1, zlc2, zlf0, zlf1, zlf2, zll⟩ := zl.cells
      go_wp2_with fail
      refine (HS.out _ V_rl v_rl (rl.arg (by omega)) h2 hT (by omega)).mono ?_
      rintro en w3 ⟨rfl, b⟩
      clear z1c0 z1c1 z1c2 z1f0 z1f1 z1f2 z1l zlc0 zlc1 zlc2 zlf0 zlf1 zlf2 zll
      replace z0 := z0.on b
      replace z1 := z1.on b
      replace hT := hT.on b
      replace h := h.on b
      replace h2 := h2.on b
      replace rl := rl.on b
      replace zl := zl.on b
      replace BW := Below.step BW b
      clear b
      obtain ⟨z1c0, z1c1, z1c2, z1f0, z1f1, z1f2, z1l⟩ := z1.cells
      obtain ⟨zlc0, zlc1, zlc2, zlf0, zlf1, zlf2, zll⟩ := zl.cells
      go_wp2_with fail
      refine bodyPost_ret (v := .int .i64 1) (by simp [results, Tryd.results86, go_sem]) rfl ⟨rfl, BW⟩
  · obtain rfl : q = -1 := by rw [← hq]; rfl
    clear hq
    go_enter Tryd.func86, Tryd.ntmps86
    go_wp2_with fail
    obtain ⟨V, hV, z0, z1, BW, sW⟩ := ndframe w 73 25 dn A n c de t nz ln A2 n2 c2 le
    rw [hV]
    clear hV sW
    replace hT := hT.on BW
    replace h := h.on BW
    replace h2 := h2.on BW
    obtain ⟨z0c0, z0c1, z0c2, z0c3, z0c4, z0f0, z0f1, z0f2, z0f3, z0f4, z0l⟩ := z0.cells
    obtain ⟨z1c0, z1c1, z1c2, z1f0, z1f1, z1f2, z1l⟩ := z1.cells
    go_wp2_with fail
    refine (dfloor_as h hs hT HF.out).mono ?_
    rintro en w1 ⟨V_rl, v_rl, rfl, rl, b⟩
    clear z0c0 z0c1 z0c2 z0c3 z0c4 z0f0 z0f1 z0f2 z0f3 z0f4 z0l z1c0 z1c1 z1c2 z1f0 z1f1 z1f2 z1l
    replace z0 := z0.on b
    replace z1 := z1.on b
    replace hT := hT.on b
    replace h := h.on b
    replace h2 := h2.on b
    replace BW := Below.step BW b
    clear b
    have ll := res_n_le rl (k := 128) (by omega)
    obtain ⟨z0c0, z0c1, z0c2, z0c3, z0c4, z0f0, z0f1, z0f2, z0f3, z0f4, z0l⟩ := z0.cells
    obtain ⟨z1c0, z1c1, z1c2, z1f0, z1f1, z1f2, z1l⟩ := z1.cells
    go_upto_region 2 with fail
    clear z0c0 z0c1 z0c2 z0c3 z0c4 z0f0 z0f1 z0f2 z0f3 z0f4 z0l z1c0 z1c1 z1c2 z1f0 z1f1 z1f2 z1l
    obtain ⟨w2, e_w2⟩ : ∃ w', w1.alloc (dob hn V_rl v_rl v_rl he 25) = w' := ⟨_, rfl⟩
    have b : Below w1.heap.size w1 w2 := e_w2 ▸ below_lit _ _
    have hs_w2 : w2.heap.size = w1.heap.size + 1 := e_w2 ▸ size_lit w1 _ rfl
    have zl : DB w2 w1.heap.size 25 hn V_rl v_rl v_rl he := e_w2 ▸ DB.made w1 rfl 25 hn V_rl v_rl v_rl he
    rw [e_w2]
    clear e_w2
    replace z0 := z0.on b
    replace z1 := z1.on b
    replace hT := hT.on b
    replace h := h.on b
    replace h2 := h2.on b
    replace rl := rl.on b
    replace BW := Below.step BW b
    clear b
    clear hs_w2
    obtain ⟨z1c0, z1c1, z1c2, z1f0, z1f1, z1f2, z1l⟩ := z1.cells
    obtain ⟨zlc0, zlc1, zlc2, zlf0, zlf1, zlf2, zll⟩ := zl.cells
    go_wp2_with fail
    refine (HS.out _ V_rl v_rl (rl.arg (by omega)) h2 hT (by omega)).mono ?_
    rintro en w3 ⟨rfl, b⟩
    clear z1c0 z1c1 z1c2 z1f0 z1f1 z1f2 z1l zlc0 zlc1 zlc2 zlf0 zlf1 zlf2 zll
    replace z0 := z0.on b
    replace z1 := z1.on b
    replace hT := hT.on b
    replace h := h.on b
    replace h2 := h2.on b
    replace rl := rl.on b
    replace zl := zl.on b
    replace BW := Below.step BW b
    clear b
    obtain ⟨z1c0, z1c1, z1c2, z1f0, z1f1, z1f2, z1l⟩ := z1.cells
    obtain ⟨zlc0, zlc1, zlc2, zlf0, zlf1, zlf2, zll⟩ := zl.cells
    go_wp2_with fail
    refine bodyPost_ret (v := .int .i64 (-1)) (by simp [results, Tryd.results86, go_sem]) rfl ⟨rfl, BW⟩
end Go.Proofs.YtkjbejdeejpdoaaDoor
