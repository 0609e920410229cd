
/-
  The reference of layer 5: Fma, by what it tells.
-/
import Derived.Test.YtpachoeignpcbaaGreatDoorIq
namespace Go.Proofs.YtpachoeignpcbaaGreatDoor
open Go.RowKit
set_option linter.unusedVariables false

theorem len_ne {n x : Nat} (h : n = blen x) (h0 : x ≠ 0) : ((n : Int) == 0) = false := by
  have := blen_pos h0
  simp only [beq_eq_false_iff_ne, ne_eq]
  omega
set_option maxHeartbeats 8000000 in
set_option maxRecDepth 100000 in
theorem rfma_mmA {B P W M E H : Nat} {low : Int} (hf : Fm B P W M E H low) (mode : Int) (ba bb bc : Nat) (hba : ba < 18446744073709551616) (hbb : bb < 18446744073709551616) (hbc : bc < 18446744073709551616) {w : World} (q : Int) (hw : wrongS H mode [ba, bb, bc] = q) (dq : (q != 0) = false) {qa qb qc : Int} (ca : clsS M E ba = qa) (cb : clsS M E bb = qb) (cc : clsS M E bc = qc) (e0 : (qa == 3) = false) (e1 : (qb == 3) = false) {r1 : Nat} (hn : fstS M E H [ba, bb, bc] = (r1, false)) {ga gb gc : Bool} (na : ngB H ba = ga) (nb : ngB H bb = gb) (nc : ngB H bc = gc) (ec : (qc == 3) = false) {un vn yn pn sn : Bool} {ux vx yx px sx : Nat} {ue ve ye pe se : Int} (hu : valS M E H low ba = (⟨un, ux, ue⟩, 0)) (hv : valS M E H low bb = (⟨vn, vx, ve⟩, 0)) (hx : valS M E H low bc = (⟨yn, yx, ye⟩, 0)) (hp : mulS ⟨un, ux, ue⟩ ⟨vn, vx, ve⟩ = (⟨pn, px, pe⟩, 0)) (hs : addS ⟨pn, px, pe⟩ ⟨yn, yx, ye⟩ = (⟨sn, sx, se⟩, 0)) (lu' : blen ux ≤ 100000) (lv' : blen vx ≤ 100000) (ly' : blen yx ≤ 100000) (lp' : blen px ≤ 100000) (ls' : blen sx ≤ 100000) {v : Nat} {fl err : Int} (hp0 : px ≠ 0) (hr : roundS P M E H low mode ⟨sn, sx, se⟩ (mode == 2) = (v, fl, err)) :
    Calls Tryz.prog 14 #[.agg #[.int .i64 (B : Int), .int .i64 (P : Int), .int .i64 (W : Int)], .int .i64 mode, .int .u64 (ba : Int), .int .u64 (bb : Int), .int .u64 (bc : Int)] w (ToX w v fl err) := by
  have HL : Hid (∀ x ∈ [ba, bb, bc], x < 18446744073709551616) := Lib.hid (by intro x hx; simp only [List.mem_cons, List.not_mem_nil, or_false] at hx; omega)
  have HW := Lib.hid hw
  clear hw
  have HA := Lib.hid ca
  have HB := Lib.hid cb
  have HC := Lib.hid cc
  clear ca cb cc
  have HF := Lib.hid hn
  clear hn
  have HNA := Lib.hid na
  have HNB := Lib.hid nb
  have HNC := Lib.hid nc
  clear na nb nc
  have HU := Lib.hid hu
  have HV := Lib.hid hv
  have HX := Lib.hid hx
  have HP := Lib.hid hp
  have HS := Lib.hid hs
  have HR := Lib.hid hr
  clear hu hv hx hp hs hr
  go_enter Tryz.func14, Tryz.ntmps14
  go_wp2_with fail
  obtain ⟨V, hV, z4, BW, sW⟩ := fframe1 w 29 (B : Int) (P : Int) (W : Int)
  rw [hV]
  clear hV
  obtain ⟨w1, e_w1⟩ : ∃ w', V.alloc (.cells #[.int .u64 (ba : Int), .int .u64 (bb : Int), .int .u64 (bc : Int)] 22) = w' := ⟨_, rfl⟩
  have b : Below V.heap.size V w1 := e_w1 ▸ below_lit _ _
  have hs_w1 : w1.heap.size = (w.heap.size + 1) + 1 := e_w1 ▸ size_lit V _ sW
  have ob : OB w1 (w.heap.size + 1) [ba, bb, bc] := e_w1 ▸ OB.three V sW ba bb bc
  rw [e_w1]
  clear e_w1
  replace z4 := z4.on b
  replace BW := Below.step BW b
  clear b
  clear hs_w1
  clear sW
  refine (rwrong_as hf [ba, bb, bc] HL.out (n := 3) rfl (by omega) ob mode q HW.out).mono ?_
  rintro en w2 ⟨rfl, b⟩
  replace z4 := z4.on b
  replace ob := ob.on b
  replace BW := Below.step BW b
  clear b
  obtain ⟨z4c0, z4c1, z4c2, z4f0, z4f1, z4f2, z4l⟩ := z4.cells
  go_wp2_with fail
  refine (rclass_as hf ba qa hba HA.out _).mono ?_
  rintro en w3 ⟨rfl, b⟩
  clear z4c0 z4c1 z4c2 z4f0 z4f1 z4f2 z4l
  replace z4 := z4.on b
  replace ob := ob.on b
  replace BW := Below.step BW b
  clear b
  obtain ⟨z4c0, z4c1, z4c2, z4f0, z4f1, z4f2, z4l⟩ := z4.cells
  go_wp2_with fail
  refine (rclass_as hf bb qb hbb HB.out _).mono ?_
  rintro en w4 ⟨rfl, b⟩
  clear z4c0 z4c1 z4c2 z4f0 z4f1 z4f2 z4l
  replace z4 := z4.on b
  replace ob := ob.on b
  replace BW := Below.step BW b
  clear b
  obtain ⟨z4c0, z4c1, z4c2, z4f0, z4f1, z4f2, z4l⟩ := z4.cells
  go_wp2_with fail
  refine (rclass_as hf bc qc hbc HC.out _).mono ?_
  rintro en w5 ⟨rfl, b⟩
  clear z4c0 z4c1 z4c2 z4f0 z4f1 z4f2 z4l
  replace z4 := z4.on b
  replace ob := ob.on b
  replace BW := Below.step BW b
  clear b
  obtain ⟨z4c0, z4c1, z4c2, z4f0, z4f1, z4f2, z4l⟩ := z4.cells
  obtain ⟨za, hza⟩ : ∃ z, (qa == 0) = z := ⟨_, rfl⟩
  cases za
  all_goals (
    go_wp2_with fail
    refine (rfirst_as hf [ba, bb, bc] HL.out (n := 3) rfl (by omega) ob HF.out).mono ?_
    rintro en w6 ⟨rfl, b⟩
    clear z4c0 z4c1 z4c2 z4f0 z4f1 z4f2 z4l
    replace z4 := z4.on b
    replace ob := ob.on b
    replace BW := Below.step BW b
    clear b
    obtain ⟨z4c0, z4c1, z4c2, z4f0, z4f1, z4f2, z4l⟩ := z4.cells
    go_wp2_with fail
    clear z4c0 z4c1 z4c2 z4f0 z4f1 z4f2 z4l
    clear ob
    replace z4 := z4.on ((Below.refl _ _).drew : Below w6.heap.size w6 w6.drew)
    replace BW := Lib.hid (Below.step BW ((Below.refl _ _).drew : Below w6.heap.size w6 w6.drew))
    go_region_held3 (fun w' => w'.cell? ⟨w.heap.size, 0, none⟩ = some (.int .i64 (B : Int)) ∧ w'.cell? ⟨w.heap.size, 1, none⟩ = some (.int .i64 (P : Int)) ∧ w'.cell? ⟨w.heap.size, 2, none⟩ = some (.int .i64 (W : Int)))
      ((first | (with_reducible exact ⟨z4.cells.1, z4.cells.2.1, z4.cells.2.2.1⟩)))
      (first
        | (go_at_call 31
           (with_reducible refine (rneg_as5 hf ba hba _ HNA.out _).mono ?_)
           rintro en w7 ⟨rfl, b⟩
           replace z4 := z4.on b
           replace BW := Lib.hid (Below.step BW.out b)
           clear b)
        | (go_at_call 31
           (with_reducible refine (rneg_as5 hf bb hbb _ HNB.out _).mono ?_)
           rintro en w7 ⟨rfl, b⟩
           replace z4 := z4.on b
           replace BW := Lib.hid (Below.step BW.out b)
           clear b))
    all_goals replace BW := BW.out
    all_goals (
      obtain ⟨z4c0, z4c1, z4c2, z4f0, z4f1, z4f2, z4l⟩ := z4.cells
      go_wp2_with fail
      clear z4c0 z4c1 z4c2 z4f0 z4f1 z4f2 z4l
      refine (rvalue_as hf ba hba HU.out).mono ?_
      rintro en w8 ⟨V_ru, v_ru, c_ru, rfl, ru, b⟩
      replace z4 := z4.on b
      replace BW := Below.step BW b
      clear b
      have lu := ru.le (k := 100000) lu'
      go_upto_region 23 with fail
      obtain ⟨w9, e_w9⟩ : ∃ w', w8.alloc (dob un V_ru v_ru c_ru ue 71) = w' := ⟨_, rfl⟩
      have b : Below w8.heap.size w8 w9 := e_w9 ▸ below_lit _ _
      have hs_w9 : w9.heap.size = w8.heap.size + 1 := e_w9 ▸ size_lit w8 _ rfl
      have zu : DB w9 w8.heap.size 71 un V_ru v_ru c_ru ue := e_w9 ▸ DB.made w8 rfl 71 un V_ru v_ru c_ru ue
      rw [e_w9]
      clear e_w9
      replace z4 := z4.on b
      replace ru := ru.on b
      replace BW := Below.step BW b
      clear b
      clear hs_w9
      obtain ⟨z4c0, z4c1, z4c2, z4f0, z4f1, z4f2, z4l⟩ := z4.cells
      go_wp2_with fail
      refine (rvalue_as hf bb hbb HV.out).mono ?_
      rintro en w10 ⟨V_rv, v_rv, c_rv, rfl, rv, b⟩
      clear z4c0 z4c1 z4c2 z4f0 z4f1 z4f2 z4l
      replace z4 := z4.on b
      replace ru := ru.on b
      replace zu := zu.on b
      replace BW := Below.step BW b
      clear b
      have lv := rv.le (k := 100000) lv'
      go_upto_region 24 with fail
      obtain ⟨w11, e_w11⟩ : ∃ w', w10.alloc (dob vn V_rv v_rv c_rv ve 71) = w' := ⟨_, rfl⟩
      have b : Below w10.heap.size w10 w11 := e_w11 ▸ below_lit _ _
      have hs_w11 : w11.heap.size = w10.heap.size + 1 := e_w11 ▸ size_lit w10 _ rfl
      have zv : DB w11 w10.heap.size 71 vn V_rv v_rv c_rv ve := e_w11 ▸ DB.made w10 rfl 71 vn V_rv v_rv c_rv ve
      rw [e_w11]
      clear e_w11
      replace z4 := z4.on b
      replace ru := ru.on b
      replace zu := zu.on b
      replace rv := rv.on b
      replace BW := Below.step BW b
      clear b
      clear hs_w11
      obtain ⟨z4c0, z4c1, z4c2, z4f0, z4f1, z4f2, z4l⟩ := z4.cells
      go_wp2_with fail
      refine (rvalue_as hf bc hbc HX.out).mono ?_
      rintro en w12 ⟨V_ry, v_ry, c_ry, rfl, ry, b⟩
      clear z4c0 z4c1 z4c2 z4f0 z4f1 z4f2 z4l
      replace z4 := z4.on b
      replace ru := ru.on b
      replace zu := zu.on b
      replace rv := rv.on b
      replace zv := zv.on b
      replace BW := Below.step BW b
      clear b
      have ly := ry.le (k := 100000) ly'
      go_upto_region 25 with fail
      obtain ⟨w13, e_w13⟩ : ∃ w', w12.alloc (dob yn V_ry v_ry c_ry ye 71) = w' := ⟨_, rfl⟩
      have b : Below w12.heap.size w12 w13 := e_w13 ▸ below_lit _ _
      have hs_w13 : w13.heap.size = w12.heap.size + 1 := e_w13 ▸ size_lit w12 _ rfl
      have zy : DB w13 w12.heap.size 71 yn V_ry v_ry c_ry ye := e_w13 ▸ DB.made w12 rfl 71 yn V_ry v_ry c_ry ye
      rw [e_w13]
      clear e_w13
      replace z4 := z4.on b
      replace ru := ru.on b
      replace zu := zu.on b
      replace rv := rv.on b
      replace zv := zv.on b
      replace ry := ry.on b
      replace BW := Below.step BW b
      clear b
      clear hs_w13
      obtain ⟨zuc0, zuc1, zuc2, zuf0, zuf1, zuf2, zul⟩ := zu.cells
      obtain ⟨zvc0, zvc1, zvc2, zvf0, zvf1, zvf2, zvl⟩ := zv.cells
      go_wp2_with fail
      refine (rMul_as ru rv (by omega) (by omega) HP).mono ?_
      rintro en w14 ⟨V_rp, v_rp, c_rp, rfl, rp, b⟩
      clear zuc0 zuc1 zuc2 zuf0 zuf1 zuf2 zul zvc0 zvc1 zvc2 zvf0 zvf1 zvf2 zvl
      replace z4 := z4.on b
      replace ru := ru.on b
      replace zu := zu.on b
      replace rv := rv.on b
      replace zv := zv.on b
      replace ry := ry.on b
      replace zy := zy.on b
      replace BW := Below.step BW b
      clear b
      have lp := rp.le (k := 100000) lp'
      go_upto_region 26 with fail
      obtain ⟨w15, e_w15⟩ : ∃ w', w14.alloc (dob pn V_rp v_rp c_rp pe 71) = w' := ⟨_, rfl⟩
      have b : Below w14.heap.size w14 w15 := e_w15 ▸ below_lit _ _
      have hs_w15 : w15.heap.size = w14.heap.size + 1 := e_w15 ▸ size_lit w14 _ rfl
      have zp : DB w15 w14.heap.size 71 pn V_rp v_rp c_rp pe := e_w15 ▸ DB.made w14 rfl 71 pn V_rp v_rp c_rp pe
      rw [e_w15]
      clear e_w15
      replace z4 := z4.on b
      replace ru := ru.on b
      replace zu := zu.on b
      replace rv := rv.on b
      replace zv := zv.on b
      replace ry := ry.on b
      replace zy := zy.on b
      replace rp := rp.on b
      replace BW := Below.step BW b
      clear b
      clear hs_w15
      obtain ⟨zpc0, zpc1, zpc2, zpf0, zpf1, zpf2, zpl⟩ := zp.cells
      obtain ⟨zyc0, zyc1, zyc2, zyf0, zyf1, zyf2, zyl⟩ := zy.cells
      go_wp2_with fail
      refine (rAdd_as rp ry (by omega) (by omega) HS).mono ?_
      rintro en w16 ⟨V_rs, v_rs, c_rs, rfl, rs, b⟩
      clear zpc0 zpc1 zpc2 zpf0 zpf1 zpf2 zpl zyc0 zyc1 zyc2 zyf0 zyf1 zyf2 zyl
      replace z4 := z4.on b
      replace ru := ru.on b
      replace zu := zu.on b
      replace rv := rv.on b
      replace zv := zv.on b
      replace ry := ry.on b
      replace zy := zy.on b
      replace rp := rp.on b
      replace zp := zp.on b
      replace BW := Below.step BW b
      clear b
      have ls := rs.le (k := 100000) ls'
      go_upto_region 27 with fail
      obtain ⟨w17, e_w17⟩ : ∃ w', w16.alloc (dob sn V_rs v_rs c_rs se 71) = w' := ⟨_, rfl⟩
      have b : Below w16.heap.size w16 w17 := e_w17 ▸ below_lit _ _
      have hs_w17 : w17.heap.size = w16.heap.size + 1 := e_w17 ▸ size_lit w16 _ rfl
      have zs : DB w17 w16.heap.size 71 sn V_rs v_rs c_rs se := e_w17 ▸ DB.made w16 rfl 71 sn V_rs v_rs c_rs se
      rw [e_w17]
      clear e_w17
      replace z4 := z4.on b
      replace ru := ru.on b
      replace zu := zu.on b
      replace rv := rv.on b
      replace zv := zv.on b
      replace ry := ry.on b
      replace zy := zy.on b
      replace rp := rp.on b
      replace zp := zp.on b
      replace rs := rs.on b
      replace BW := Below.step BW b
      clear b
      clear hs_w17
      have n_p := rp.size
      have n_w := ry.size
      have j1 : ((v_rp : Int) == 0) = false := len_ne n_p hp0
      clear n_p n_w
      obtain ⟨z4c0, z4c1, z4c2, z4f0, z4f1, z4f2, z4l⟩ := z4.cells
      obtain ⟨zpc0, zpc1, zpc2, zpf0, zpf1, zpf2, zpl⟩ := zp.cells
      obtain ⟨zyc0, zyc1, zyc2, zyf0, zyf1, zyf2, zyl⟩ := zy.cells
      obtain ⟨zsc0, zsc1, zsc2, zsf0, zsf1, zsf2, zsl⟩ := zs.cells
      go_wp2_with fail
      refine (rto_as hf rs (by omega) mode (mode == 2) HR.out).mono ?_
      rintro en w18 ⟨rfl, b⟩
      clear z4c0 z4c1 z4c2 z4f0 z4f1 z4f2 z4l zpc0 zpc1 zpc2 zpf0 zpf1 zpf2 zpl zyc0 zyc1 zyc2 zyf0 zyf1 zyf2 zyl zsc0 zsc1 zsc2 zsf0 zsf1 zsf2 zsl
      replace z4 := z4.on b
      replace ru := ru.on b
      replace zu := zu.on b
      replace rv := rv.on b
      replace zv := zv.on b
      replace ry := ry.on b
      replace zy := zy.on b
      replace rp := rp.on b
      replace zp := zp.on b
      replace rs := rs.on b
      replace zs := zs.on b
      replace BW := Below.step BW b
      clear b
      go_wp2_with fail
      refine bodyPost_ret (v := .tuple #[.int .u64 (v : Int), .int .i64 fl, .int .i64 err]) (by simp [results, Tryz.results14, go_sem]) rfl ⟨rfl, BW⟩))
set_option maxHeartbeats 8000000 in
set_option maxRecDepth 100000 in
theorem rfma_mmB {B P W M E H : Nat} {low : Int} (hf : Fm B P W M E H low) (mode : Int) (ba bb bc : Nat) (hba : ba < 18446744073709551616) (hbb : bb < 18446744073709551616) (hbc : bc < 18446744073709551616) {w : World} (q : Int) (hw : wrongS H mode [ba, bb, bc] = q) (dq : (q != 0) = false) {qa qb qc : Int} (ca : clsS M E ba = qa) (cb : clsS M E bb = qb) (cc : clsS M E bc = qc) (e0 : (qa == 3) = false) (e1 : (qb == 3) = false) {r1 : Nat} (hn : fstS M E H [ba, bb, bc] = (r1, false)) {ga gb gc : Bool} (na : ngB H ba = ga) (nb : ngB H bb = gb) (nc : ngB H bc = gc) (ec : (qc == 3) = false) {un vn yn pn sn : Bool} {ux vx yx px sx : Nat} {ue ve ye pe se : Int} (hu : valS M E H low ba = (⟨un, ux, ue⟩, 0)) (hv : valS M E H low bb = (⟨vn, vx, ve⟩, 0)) (hx : valS M E H low bc = (⟨yn, yx, ye⟩, 0)) (hp : mulS ⟨un, ux, ue⟩ ⟨vn, vx, ve⟩ = (⟨pn, px, pe⟩, 0)) (hs : addS ⟨pn, px, pe⟩ ⟨yn, yx, ye⟩ = (⟨sn, sx, se⟩, 0)) (lu' : blen ux ≤ 100000) (lv' : blen vx ≤ 100000) (ly' : blen yx ≤ 100000) (lp' : blen px ≤ 100000) (ls' : blen sx ≤ 100000) {v : Nat} {fl err : Int} (hp0 : px = 0) (hw0 : yx ≠ 0) (hr : roundS P M E H low mode ⟨sn, sx, se⟩ (mode == 2) = (v, fl, err)) :
    Calls Tryz.prog 14 #[.agg #[.int .i64 (B : Int), .int .i64 (P : Int), .int .i64 (W : Int)], .int .i64 mode, .int .u64 (ba : Int), .int .u64 (bb : Int), .int .u64 (bc : Int)] w (ToX w v fl err) := by
  have HL : Hid (∀ x ∈ [ba, bb, bc], x < 18446744073709551616) := Lib.hid (by intro x hx; simp only [List.mem_cons, List.not_mem_nil, or_false] at hx; omega)
  have HW := Lib.hid hw
  clear hw
  have HA := Lib.hid ca
  have HB := Lib.hid cb
  have HC := Lib.hid cc
  clear ca cb cc
  have HF := Lib.hid hn
  clear hn
  have HNA := Lib.hid na
  have HNB := Lib.hid nb
  have HNC := Lib.hid nc
  clear na nb nc
  have HU := Lib.hid hu
  have HV := Lib.hid hv
  have HX := Lib.hid hx
  have HP := Lib.hid hp
  have HS := Lib.hid hs
  have HR := Lib.hid hr
  clear hu hv hx hp hs hr
  go_enter Tryz.func14, Tryz.ntmps14
  go_wp2_with fail
  obtain ⟨V, hV, z4, BW, sW⟩ := fframe1 w 29 (B : Int) (P : Int) (W : Int)
  rw [hV]
  clear hV
  obtain ⟨w1, e_w1⟩ : ∃ w', V.alloc (.cells #[.int .u64 (ba : Int), .int .u64 (bb : Int), .int .u64 (bc : Int)] 22) = w' := ⟨_, rfl⟩
  have b : Below V.heap.size V w1 := e_w1 ▸ below_lit _ _
  have hs_w1 : w1.heap.size = (w.heap.size + 1) + 1 := e_w1 ▸ size_lit V _ sW
  have ob : OB w1 (w.heap.size + 1) [ba, bb, bc] := e_w1 ▸ OB.three V sW ba bb bc
  rw [e_w1]
  clear e_w1
  replace z4 := z4.on b
  replace BW := Below.step BW b
  clear b
  clear hs_w1
  clear sW
  refine (rwrong_as hf [ba, bb, bc] HL.out (n := 3) rfl (by omega) ob mode q HW.out).mono ?_
  rintro en w2 ⟨rfl, b⟩
  replace z4 := z4.on b
  replace ob := ob.on b
  replace BW := Below.step BW b
  clear b
  obtain ⟨z4c0, z4c1, z4c2, z4f0, z4f1, z4f2, z4l⟩ := z4.cells
  go_wp2_with fail
  refine (rclass_as hf ba qa hba HA.out _).mono ?_
  rintro en w3 ⟨rfl, b⟩
  clear z4c0 z4c1 z4c2 z4f0 z4f1 z4f2 z4l
  replace z4 := z4.on b
  replace ob := ob.on b
  replace BW := Below.step BW b
  clear b
  obtain ⟨z4c0, z4c1, z4c2, z4f0, z4f1, z4f2, z4l⟩ := z4.cells
  go_wp2_with fail
  refine (rclass_as hf bb qb hbb HB.out _).mono ?_
  rintro en w4 ⟨rfl, b⟩
  clear z4c0 z4c1 z4c2 z4f0 z4f1 z4f2 z4l
  replace z4 := z4.on b
  replace ob := ob.on b
  replace BW := Below.step BW b
  clear b
  obtain ⟨z4c0, z4c1, z4c2, z4f0, z4f1, z4f2, z4l⟩ := z4.cells
  go_wp2_with fail
  refine (rclass_as hf bc qc hbc HC.out _).mono ?_
  rintro en w5 ⟨rfl, b⟩
  clear z4c0 z4c1 z4c2 z4f0 z4f1 z4f2 z4l
  replace z4 := z4.on b
  replace ob := ob.on b
  replace BW := Below.step BW b
  clear b
  obtain ⟨z4c0, z4c1, z4c2, z4f0, z4f1, z4f2, z4l⟩ := z4.cells
  obtain ⟨za, hza⟩ : ∃ z, (qa == 0) = z := ⟨_, rfl⟩
  cases za
  all_goals (
    go_wp2_with fail
    refine (rfirst_as hf [ba, bb, bc] HL.out (n := 3) rfl (by omega) ob HF.out).mono ?_
    rintro en w6 ⟨rfl, b⟩
    clear z4c0 z4c1 z4c2 z4f0 z4f1 z4f2 z4l
    replace z4 := z4.on b
    replace ob := ob.on b
    replace BW := Below.step BW b
    clear b
    obtain ⟨z4c0, z4c1, z4c2, z4f0, z4f1, z4f2, z4l⟩ := z4.cells
    go_wp2_with fail
    clear z4c0 z4c1 z4c2 z4f0 z4f1 z4f2 z4l
    clear ob
    replace z4 := z4.on ((Below.refl _ _).drew : Below w6.heap.size w6 w6.drew)
    replace BW := Lib.hid (Below.step BW ((Below.refl _ _).drew : Below w6.heap.size w6 w6.drew))
    go_region_held3 (fun w' => w'.cell? ⟨w.heap.size, 0, none⟩ = some (.int .i64 (B : Int)) ∧ w'.cell? ⟨w.heap.size, 1, none⟩ = some (.int .i64 (P : Int)) ∧ w'.cell? ⟨w.heap.size, 2, none⟩ = some (.int .i64 (W : Int)))
      ((first | (with_reducible exact ⟨z4.cells.1, z4.cells.2.1, z4.cells.2.2.1⟩)))
      (first
        | (go_at_call 31
           (with_reducible refine (rneg_as5 hf ba hba _ HNA.out _).mono ?_)
           rintro en w7 ⟨rfl, b⟩
           replace z4 := z4.on b
           replace BW := Lib.hid (Below.step BW.out b)
           clear b)
        | (go_at_call 31
           (with_reducible refine (rneg_as5 hf bb hbb _ HNB.out _).mono ?_)
           rintro en w7 ⟨rfl, b⟩
           replace z4 := z4.on b
           replace BW := Lib.hid (Below.step BW.out b)
           clear b))
    all_goals replace BW := BW.out
    all_goals (
      obtain ⟨z4c0, z4c1, z4c2, z4f0, z4f1, z4f2, z4l⟩ := z4.cells
      go_wp2_with fail
      clear z4c0 z4c1 z4c2 z4f0 z4f1 z4f2 z4l
      refine (rvalue_as hf ba hba HU.out).mono ?_
      rintro en w8 ⟨V_ru, v_ru, c_ru, rfl, ru, b⟩
      replace z4 := z4.on b
      replace BW := Below.step BW b
      clear b
      have lu := ru.le (k := 100000) lu'
      go_upto_region 23 with fail
      obtain ⟨w9, e_w9⟩ : ∃ w', w8.alloc (dob un V_ru v_ru c_ru ue 71) = w' := ⟨_, rfl⟩
      have b : Below w8.heap.size w8 w9 := e_w9 ▸ below_lit _ _
      have hs_w9 : w9.heap.size = w8.heap.size + 1 := e_w9 ▸ size_lit w8 _ rfl
      have zu : DB w9 w8.heap.size 71 un V_ru v_ru c_ru ue := e_w9 ▸ DB.made w8 rfl 71 un V_ru v_ru c_ru ue
      rw [e_w9]
      clear e_w9
      replace z4 := z4.on b
      replace ru := ru.on b
      replace BW := Below.step BW b
      clear b
      clear hs_w9
      obtain ⟨z4c0, z4c1, z4c2, z4f0, z4f1, z4f2, z4l⟩ := z4.cells
      go_wp2_with fail
      refine (rvalue_as hf bb hbb HV.out).mono ?_
      rintro en w10 ⟨V_rv, v_rv, c_rv, rfl, rv, b⟩
      clear z4c0 z4c1 z4c2 z4f0 z4f1 z4f2 z4l
      replace z4 := z4.on b
      replace ru := ru.on b
      replace zu := zu.on b
      replace BW := Below.step BW b
      clear b
      have lv := rv.le (k := 100000) lv'
      go_upto_region 24 with fail
      obtain ⟨w11, e_w11⟩ : ∃ w', w10.alloc (dob vn V_rv v_rv c_rv ve 71) = w' := ⟨_, rfl⟩
      have b : Below w10.heap.size w10 w11 := e_w11 ▸ below_lit _ _
      have hs_w11 : w11.heap.size = w10.heap.size + 1 := e_w11 ▸ size_lit w10 _ rfl
      have zv : DB w11 w10.heap.size 71 vn V_rv v_rv c_rv ve := e_w11 ▸ DB.made w10 rfl 71 vn V_rv v_rv c_rv ve
      rw [e_w11]
      clear e_w11
      replace z4 := z4.on b
      replace ru := ru.on b
      replace zu := zu.on b
      replace rv := rv.on b
      replace BW := Below.step BW b
      clear b
      clear hs_w11
      obtain ⟨z4c0, z4c1, z4c2, z4f0, z4f1, z4f2, z4l⟩ := z4.cells
      go_wp2_with fail
      refine (rvalue_as hf bc hbc HX.out).mono ?_
      rintro en w12 ⟨V_ry, v_ry, c_ry, rfl, ry, b⟩
      clear z4c0 z4c1 z4c2 z4f0 z4f1 z4f2 z4l
      replace z4 := z4.on b
      replace ru := ru.on b
      replace zu := zu.on b
      replace rv := rv.on b
      replace zv := zv.on b
      replace BW := Below.step BW b
      clear b
      have ly := ry.le (k := 100000) ly'
      go_upto_region 25 with fail
      obtain ⟨w13, e_w13⟩ : ∃ w', w12.alloc (dob yn V_ry v_ry c_ry ye 71) = w' := ⟨_, rfl⟩
      have b : Below w12.heap.size w12 w13 := e_w13 ▸ below_lit _ _
      have hs_w13 : w13.heap.size = w12.heap.size + 1 := e_w13 ▸ size_lit w12 _ rfl
      have zy : DB w13 w12.heap.size 71 yn V_ry v_ry c_ry ye := e_w13 ▸ DB.made w12 rfl 71 yn V_ry v_ry c_ry ye
      rw [e_w13]
      clear e_w13
      replace z4 := z4.on b
      replace ru := ru.on b
      replace zu := zu.on b
      replace rv := rv.on b
      replace zv := zv.on b
      replace ry := ry.on b
      replace BW := Below.step BW b
      clear b
      clear hs_w13
      obtain ⟨zuc0, zuc1, zuc2, zuf0, zuf1, zuf2, zul⟩ := zu.cells
      obtain ⟨zvc0, zvc1, zvc2, zvf0, zvf1, zvf2, zvl⟩ := zv.cells
      go_wp2_with fail
      refine (rMul_as ru rv (by omega) (by omega) HP).mono ?_
      rintro en w14 ⟨V_rp, v_rp, c_rp, rfl, rp, b⟩
      clear zuc0 zuc1 zuc2 zuf0 zuf1 zuf2 zul zvc0 zvc1 zvc2 zvf0 zvf1 zvf2 zvl
      replace z4 := z4.on b
      replace ru := ru.on b
      replace zu := zu.on b
      replace rv := rv.on b
      replace zv := zv.on b
      replace ry := ry.on b
      replace zy := zy.on b
      replace BW := Below.step BW b
      clear b
      have lp := rp.le (k := 100000) lp'
      go_upto_region 26 with fail
      obtain ⟨w15, e_w15⟩ : ∃ w', w14.alloc (dob pn V_rp v_rp c_rp pe 71) = w' := ⟨_, rfl⟩
      have b : Below w14.heap.size w14 w15 := e_w15 ▸ below_lit _ _
      have hs_w15 : w15.heap.size = w14.heap.size + 1 := e_w15 ▸ size_lit w14 _ rfl
      have zp : DB w15 w14.heap.size 71 pn V_rp v_rp c_rp pe := e_w15 ▸ DB.made w14 rfl 71 pn V_rp v_rp c_rp pe
      rw [e_w15]
      clear e_w15
      replace z4 := z4.on b
      replace ru := ru.on b
      replace zu := zu.on b
      replace rv := rv.on b
      replace zv := zv.on b
      replace ry := ry.on b
      replace zy := zy.on b
      replace rp := rp.on b
      replace BW := Below.step BW b
      clear b
      clear hs_w15
      obtain ⟨zpc0, zpc1, zpc2, zpf0, zpf1, zpf2, zpl⟩ := zp.cells
      obtain ⟨zyc0, zyc1, zyc2, zyf0, zyf1, zyf2, zyl⟩ := zy.cells
      go_wp2_with fail
      refine (rAdd_as rp ry (by omega) (by omega) HS).mono ?_
      rintro en w16 ⟨V_rs, v_rs, c_rs, rfl, rs, b⟩
      clear zpc0 zpc1 zpc2 zpf0 zpf1 zpf2 zpl zyc0 zyc1 zyc2 zyf0 zyf1 zyf2 zyl
      replace z4 := z4.on b
      replace ru := ru.on b
      replace zu := zu.on b
      replace rv := rv.on b
      replace zv := zv.on b
      replace ry := ry.on b
      replace zy := zy.on b
      replace rp := rp.on b
      replace zp := zp.on b
      replace BW := Below.step BW b
      clear b
      have ls := rs.le (k := 100000) ls'
      go_upto_region 27 with fail
      obtain ⟨w17, e_w17⟩ : ∃ w', w16.alloc (dob sn V_rs v_rs c_rs se 71) = w' := ⟨_, rfl⟩
      have b : Below w16.heap.size w16 w17 := e_w17 ▸ below_lit _ _
      have hs_w17 : w17.heap.size = w16.heap.size + 1 := e_w17 ▸ size_lit w16 _ rfl
      have zs : DB w17 w16.heap.size 71 sn V_rs v_rs c_rs se := e_w17 ▸ DB.made w16 rfl 71 sn V_rs v_rs c_rs se
      rw [e_w17]
      clear e_w17
      replace z4 := z4.on b
      replace ru := ru.on b
      replace zu := zu.on b
      replace rv := rv.on b
      replace zv := zv.on b
      replace ry := ry.on b
      replace zy := zy.on b
      replace rp := rp.on b
      replace zp := zp.on b
      replace rs := rs.on b
      replace BW := Below.step BW b
      clear b
      clear hs_w17
      have n_p := rp.size
      have n_w := ry.size
      have j1 : ((v_rp : Int) == 0) = true := by rw [n_p, hp0]; rfl
      have j2 : ((v_ry : Int) == 0) = false := len_ne n_w hw0
      clear n_p n_w
      obtain ⟨z4c0, z4c1, z4c2, z4f0, z4f1, z4f2, z4l⟩ := z4.cells
      obtain ⟨zpc0, zpc1, zpc2, zpf0, zpf1, zpf2, zpl⟩ := zp.cells
      obtain ⟨zyc0, zyc1, zyc2, zyf0, zyf1, zyf2, zyl⟩ := zy.cells
      obtain ⟨zsc0, zsc1, zsc2, zsf0, zsf1, zsf2, zsl⟩ := zs.cells
      go_wp2_with fail
      refine (rto_as hf rs (by omega) mode (mode == 2) HR.out).mono ?_
      rintro en w18 ⟨rfl, b⟩
      clear z4c0 z4c1 z4c2 z4f0 z4f1 z4f2 z4l zpc0 zpc1 zpc2 zpf0 zpf1 zpf2 zpl zyc0 zyc1 zyc2 zyf0 zyf1 zyf2 zyl zsc0 zsc1 zsc2 zsf0 zsf1 zsf2 zsl
      replace z4 := z4.on b
      replace ru := ru.on b
      replace zu := zu.on b
      replace rv := rv.on b
      replace zv := zv.on b
      replace ry := ry.on b
      replace zy := zy.on b
      replace rp := rp.on b
      replace zp := zp.on b
      replace rs := rs.on b
      replace zs := zs.on b
      replace BW := Below.step BW b
      clear b
      go_wp2_with fail
      refine bodyPost_ret (v := .tuple #[.int .u64 (v : Int), .int .i64 fl, .int .i64 err]) (by simp [results, Tryz.results14, go_sem]) rfl ⟨rfl, BW⟩))
set_option maxHeartbeats 8000000 in
set_option maxRecDepth 100000 in
theorem rfma_mmC {B P W M E H : Nat} {low : Int} (hf : Fm B P W M E H low) (mode : Int) (ba bb bc : Nat) (hba : ba < 18446744073709551616) (hbb : bb < 18446744073709551616) (hbc : bc < 18446744073709551616) {w : World} (q : Int) (hw : wrongS H mode [ba, bb, bc] = q) (dq : (q != 0) = false) {qa qb qc : Int} (ca : clsS M E ba = qa) (cb : clsS M E bb = qb) (cc : clsS M E bc = qc) (e0 : (qa == 3) = false) (e1 : (qb == 3) = false) {r1 : Nat} (hn : fstS M E H [ba, bb, bc] = (r1, false)) {ga gb gc : Bool} (na : ngB H ba = ga) (nb : ngB H bb = gb) (nc : ngB H bc = gc) (ec : (qc == 3) = false) {un vn yn pn sn : Bool} {ux vx yx px sx : Nat} {ue ve ye pe se : Int} (hu : valS M E H low ba = (⟨un, ux, ue⟩, 0)) (hv : valS M E H low bb = (⟨vn, vx, ve⟩, 0)) (hx : valS M E H low bc = (⟨yn, yx, ye⟩, 0)) (hp : mulS ⟨un, ux, ue⟩ ⟨vn, vx, ve⟩ = (⟨pn, px, pe⟩, 0)) (hs : addS ⟨pn, px, pe⟩ ⟨yn, yx, ye⟩ = (⟨sn, sx, se⟩, 0)) (lu' : blen ux ≤ 100000) (lv' : blen vx ≤ 100000) (ly' : blen yx ≤ 100000) (lp' : blen px ≤ 100000) (ls' : blen sx ≤ 100000) {v : Nat} {fl err : Int} (hp0 : px = 0) (hw0 : yx = 0) (eg : (gc == (!(ga == gb))) = false) (hr : roundS P M E H low mode ⟨sn, sx, se⟩ (mode == 2) = (v, fl, err)) :
    Calls Tryz.prog 14 #[.agg #[.int .i64 (B : Int), .int .i64 (P : Int), .int .i64 (W : Int)], .int .i64 mode, .int .u64 (ba : Int), .int .u64 (bb : Int), .int .u64 (bc : Int)] w (ToX w v fl err) := by
  have HL : Hid (∀ x ∈ [ba, bb, bc], x < 18446744073709551616) := Lib.hid (by intro x hx; simp only [List.mem_cons, List.not_mem_nil, or_false] at hx; omega)
  have HW := Lib.hid hw
  clear hw
  have HA := Lib.hid ca
  have HB := Lib.hid cb
  have HC := Lib.hid cc
  clear ca cb cc
  have HF := Lib.hid hn
  clear hn
  have HNA := Lib.hid na
  have HNB := Lib.hid nb
  have HNC := Lib.hid nc
  clear na nb nc
  have HU := Lib.hid hu
  have HV := Lib.hid hv
  have HX := Lib.hid hx
  have HP := Lib.hid hp
  have HS := Lib.hid hs
  have HR := Lib.hid hr
  clear hu hv hx hp hs hr
  go_enter Tryz.func14, Tryz.ntmps14
  go_wp2_with fail
  obtain ⟨V, hV, z4, BW, sW⟩ := fframe1 w 29 (B : Int) (P : Int) (W : Int)
  rw [hV]
  clear hV
  obtain ⟨w1, e_w1⟩ : ∃ w', V.alloc (.cells #[.int .u64 (ba : Int), .int .u64 (bb : Int), .int .u64 (bc : Int)] 22) = w' := ⟨_, rfl⟩
  have b : Below V.heap.size V w1 := e_w1 ▸ below_lit _ _
  have hs_w1 : w1.heap.size = (w.heap.size + 1) + 1 := e_w1 ▸ size_lit V _ sW
  have ob : OB w1 (w.heap.size + 1) [ba, bb, bc] := e_w1 ▸ OB.three V sW ba bb bc
  rw [e_w1]
  clear e_w1
  replace z4 := z4.on b
  replace BW := Below.step BW b
  clear b
  clear hs_w1
  clear sW
  refine (rwrong_as hf [ba, bb, bc] HL.out (n := 3) rfl (by omega) ob mode q HW.out).mono ?_
  rintro en w2 ⟨rfl, b⟩
  replace z4 := z4.on b
  replace ob := ob.on b
  replace BW := Below.step BW b
  clear b
  obtain ⟨z4c0, z4c1, z4c2, z4f0, z4f1, z4f2, z4l⟩ := z4.cells
  go_wp2_with fail
  refine (rclass_as hf ba qa hba HA.out _).mono ?_
  rintro en w3 ⟨rfl, b⟩
  clear z4c0 z4c1 z4c2 z4f0 z4f1 z4f2 z4l
  replace z4 := z4.on b
  replace ob := ob.on b
  replace BW := Below.step BW b
  clear b
  obtain ⟨z4c0, z4c1, z4c2, z4f0, z4f1, z4f2, z4l⟩ := z4.cells
  go_wp2_with fail
  refine (rclass_as hf bb qb hbb HB.out _).mono ?_
  rintro en w4 ⟨rfl, b⟩
  clear z4c0 z4c1 z4c2 z4f0 z4f1 z4f2 z4l
  replace z4 := z4.on b
  replace ob := ob.on b
  replace BW := Below.step BW b
  clear b
  obtain ⟨z4c0, z4c1, z4c2, z4f0, z4f1, z4f2, z4l⟩ := z4.cells
  go_wp2_with fail
  refine (rclass_as hf bc qc hbc HC.out _).mono ?_
  rintro en w5 ⟨rfl, b⟩
  clear z4c0 z4c1 z4c2 z4f0 z4f1 z4f2 z4l
  replace z4 := z4.on b
  replace ob := ob.on b
  replace BW := Below.step BW b
  clear b
  obtain ⟨z4c0, z4c1, z4c2, z4f0, z4f1, z4f2, z4l⟩ := z4.cells
  obtain ⟨za, hza⟩ : ∃ z, (qa == 0) = z := ⟨_, rfl⟩
  cases za
  all_goals (
    go_wp2_with fail
    refine (rfirst_as hf [ba, bb, bc] HL.out (n := 3) rfl (by omega) ob HF.out).mono ?_
    rintro en w6 ⟨rfl, b⟩
    clear z4c0 z4c1 z4c2 z4f0 z4f1 z4f2 z4l
    replace z4 := z4.on b
    replace ob := ob.on b
    replace BW := Below.step BW b
    clear b
    obtain ⟨z4c0, z4c1, z4c2, z4f0, z4f1, z4f2, z4l⟩ := z4.cells
    go_wp2_with fail
    clear z4c0 z4c1 z4c2 z4f0 z4f1 z4f2 z4l
    clear ob
    replace z4 := z4.on ((Below.refl _ _).drew : Below w6.heap.size w6 w6.drew)
    replace BW := Lib.hid (Below.step BW ((Below.refl _ _).drew : Below w6.heap.size w6 w6.drew))
    go_region_held3 (fun w' => w'.cell? ⟨w.heap.size, 0, none⟩ = some (.int .i64 (B : Int)) ∧ w'.cell? ⟨w.heap.size, 1, none⟩ = some (.int .i64 (P : Int)) ∧ w'.cell? ⟨w.heap.size, 2, none⟩ = some (.int .i64 (W : Int)))
      ((first | (with_reducible exact ⟨z4.cells.1, z4.cells.2.1, z4.cells.2.2.1⟩)))
      (first
        | (go_at_call 31
           (with_reducible refine (rneg_as5 hf ba hba _ HNA.out _).mono ?_)
           rintro en w7 ⟨rfl, b⟩
           replace z4 := z4.on b
           replace BW := Lib.hid (Below.step BW.out b)
           clear b)
        | (go_at_call 31
           (with_reducible refine (rneg_as5 hf bb hbb _ HNB.out _).mono ?_)
           rintro en w7 ⟨rfl, b⟩
           replace z4 := z4.on b
           replace BW := Lib.hid (Below.step BW.out b)
           clear b))
    all_goals replace BW := BW.out
    all_goals (
      obtain ⟨z4c0, z4c1, z4c2, z4f0, z4f1, z4f2, z4l⟩ := z4.cells
      go_wp2_with fail
      clear z4c0 z4c1 z4c2 z4f0 z4f1 z4f2 z4l
      refine (rvalue_as hf ba hba HU.out).mono ?_
      rintro en w8 ⟨V_ru, v_ru, c_ru, rfl, ru, b⟩
      replace z4 := z4.on b
      replace BW := Below.step BW b
      clear b
      have lu := ru.le (k := 100000) lu'
      go_upto_region 23 with fail
      obtain ⟨w9, e_w9⟩ : ∃ w', w8.alloc (dob un V_ru v_ru c_ru ue 71) = w' := ⟨_, rfl⟩
      have b : Below w8.heap.size w8 w9 := e_w9 ▸ below_lit _ _
      have hs_w9 : w9.heap.size = w8.heap.size + 1 := e_w9 ▸ size_lit w8 _ rfl
      have zu : DB w9 w8.heap.size 71 un V_ru v_ru c_ru ue := e_w9 ▸ DB.made w8 rfl 71 un V_ru v_ru c_ru ue
      rw [e_w9]
      clear e_w9
      replace z4 := z4.on b
      replace ru := ru.on b
      replace BW := Below.step BW b
      clear b
      clear hs_w9
      obtain ⟨z4c0, z4c1, z4c2, z4f0, z4f1, z4f2, z4l⟩ := z4.cells
      go_wp2_with fail
      refine (rvalue_as hf bb hbb HV.out).mono ?_
      rintro en w10 ⟨V_rv, v_rv, c_rv, rfl, rv, b⟩
      clear z4c0 z4c1 z4c2 z4f0 z4f1 z4f2 z4l
      replace z4 := z4.on b
      replace ru := ru.on b
      replace zu := zu.on b
      replace BW := Below.step BW b
      clear b
      have lv := rv.le (k := 100000) lv'
      go_upto_region 24 with fail
      obtain ⟨w11, e_w11⟩ : ∃ w', w10.alloc (dob vn V_rv v_rv c_rv ve 71) = w' := ⟨_, rfl⟩
      have b : Below w10.heap.size w10 w11 := e_w11 ▸ below_lit _ _
      have hs_w11 : w11.heap.size = w10.heap.size + 1 := e_w11 ▸ size_lit w10 _ rfl
      have zv : DB w11 w10.heap.size 71 vn V_rv v_rv c_rv ve := e_w11 ▸ DB.made w10 rfl 71 vn V_rv v_rv c_rv ve
      rw [e_w11]
      clear e_w11
      replace z4 := z4.on b
      replace ru := ru.on b
      replace zu := zu.on b
      replace rv := rv.on b
      replace BW := Below.step BW b
      clear b
      clear hs_w11
      obtain ⟨z4c0, z4c1, z4c2, z4f0, z4f1, z4f2, z4l⟩ := z4.cells
      go_wp2_with fail
      refine (rvalue_as hf bc hbc HX.out).mono ?_
      rintro en w12 ⟨V_ry, v_ry, c_ry, rfl, ry, b⟩
      clear z4c0 z4c1 z4c2 z4f0 z4f1 z4f2 z4l
      replace z4 := z4.on b
      replace ru := ru.on b
      replace zu := zu.on b
      replace rv := rv.on b
      replace zv := zv.on b
      replace BW := Below.step BW b
      clear b
      have ly := ry.le (k := 100000) ly'
      go_upto_region 25 with fail
      obtain ⟨w13, e_w13⟩ : ∃ w', w12.alloc (dob yn V_ry v_ry c_ry ye 71) = w' := ⟨_, rfl⟩
      have b : Below w12.heap.size w12 w13 := e_w13 ▸ below_lit _ _
      have hs_w13 : w13.heap.size = w12.heap.size + 1 := e_w13 ▸ size_lit w12 _ rfl
      have zy : DB w13 w12.heap.size 71 yn V_ry v_ry c_ry ye := e_w13 ▸ DB.made w12 rfl 71 yn V_ry v_ry c_ry ye
      rw [e_w13]
      clear e_w13
      replace z4 := z4.on b
      replace ru := ru.on b
      replace zu := zu.on b
      replace rv := rv.on b
      replace zv := zv.on b
      replace ry := ry.on b
      replace BW := Below.step BW b
      clear b
      clear hs_w13
      obtain ⟨zuc0, zuc1, zuc2, zuf0, zuf1, zuf2, zul⟩ := zu.cells
      obtain ⟨zvc0, zvc1, zvc2, zvf0, zvf1, zvf2, zvl⟩ := zv.cells
      go_wp2_with fail
      refine (rMul_as ru rv (by omega) (by omega) HP).mono ?_
      rintro en w14 ⟨V_rp, v_rp, c_rp, rfl, rp, b⟩
      clear zuc0 zuc1 zuc2 zuf0 zuf1 zuf2 zul zvc0 zvc1 zvc2 zvf0 zvf1 zvf2 zvl
      replace z4 := z4.on b
      replace ru := ru.on b
      replace zu := zu.on b
      replace rv := rv.on b
      replace zv := zv.on b
      replace ry := ry.on b
      replace zy := zy.on b
      replace BW := Below.step BW b
      clear b
      have lp := rp.le (k := 100000) lp'
      go_upto_region 26 with fail
      obtain ⟨w15, e_w15⟩ : ∃ w', w14.alloc (dob pn V_rp v_rp c_rp pe 71) = w' := ⟨_, rfl⟩
      have b : Below w14.heap.size w14 w15 := e_w15 ▸ below_lit _ _
      have hs_w15 : w15.heap.size = w14.heap.size + 1 := e_w15 ▸ size_lit w14 _ rfl
      have zp : DB w15 w14.heap.size 71 pn V_rp v_rp c_rp pe := e_w15 ▸ DB.made w14 rfl 71 pn V_rp v_rp c_rp pe
      rw [e_w15]
      clear e_w15
      replace z4 := z4.on b
      replace ru := ru.on b
      replace zu := zu.on b
      replace rv := rv.on b
      replace zv := zv.on b
      replace ry := ry.on b
      replace zy := zy.on b
      replace rp := rp.on b
      replace BW := Below.step BW b
      clear b
      clear hs_w15
      obtain ⟨zpc0, zpc1, zpc2, zpf0, zpf1, zpf2, zpl⟩ := zp.cells
      obtain ⟨zyc0, zyc1, zyc2, zyf0, zyf1, zyf2, zyl⟩ := zy.cells
      go_wp2_with fail
      refine (rAdd_as rp ry (by omega) (by omega) HS).mono ?_
      rintro en w16 ⟨V_rs, v_rs, c_rs, rfl, rs, b⟩
      clear zpc0 zpc1 zpc2 zpf0 zpf1 zpf2 zpl zyc0 zyc1 zyc2 zyf0 zyf1 zyf2 zyl
      replace z4 := z4.on b
      replace ru := ru.on b
      replace zu := zu.on b
      replace rv := rv.on b
      replace zv := zv.on b
      replace ry := ry.on b
      replace zy := zy.on b
      replace rp := rp.on b
      replace zp := zp.on b
      replace BW := Below.step BW b
      clear b
      have ls := rs.le (k := 100000) ls'
      go_upto_region 27 with fail
      obtain ⟨w17, e_w17⟩ : ∃ w', w16.alloc (dob sn V_rs v_rs c_rs se 71) = w' := ⟨_, rfl⟩
      have b : Below w16.heap.size w16 w17 := e_w17 ▸ below_lit _ _
      have hs_w17 : w17.heap.size = w16.heap.size + 1 := e_w17 ▸ size_lit w16 _ rfl
      have zs : DB w17 w16.heap.size 71 sn V_rs v_rs c_rs se := e_w17 ▸ DB.made w16 rfl 71 sn V_rs v_rs c_rs se
      rw [e_w17]
      clear e_w17
      replace z4 := z4.on b
      replace ru := ru.on b
      replace zu := zu.on b
      replace rv := rv.on b
      replace zv := zv.on b
      replace ry := ry.on b
      replace zy := zy.on b
      replace rp := rp.on b
      replace zp := zp.on b
      replace rs := rs.on b
      replace BW := Below.step BW b
      clear b
      clear hs_w17
      have n_p := rp.size
      have n_w := ry.size
      have j1 : ((v_rp : Int) == 0) = true := by rw [n_p, hp0]; rfl
      have j2 : ((v_ry : Int) == 0) = true := by rw [n_w, hw0]; rfl
      clear n_p n_w
      obtain ⟨z4c0, z4c1, z4c2, z4f0, z4f1, z4f2, z4l⟩ := z4.cells
      obtain ⟨zpc0, zpc1, zpc2, zpf0, zpf1, zpf2, zpl⟩ := zp.cells
      obtain ⟨zyc0, zyc1, zyc2, zyf0, zyf1, zyf2, zyl⟩ := zy.cells
      obtain ⟨zsc0, zsc1, zsc2, zsf0, zsf1, zsf2, zsl⟩ := zs.cells
      go_wp2_with fail
      refine (rneg_as5 hf bc hbc _ HNC.out _).mono ?_
      rintro en w18 ⟨rfl, b⟩
      clear z4c0 z4c1 z4c2 z4f0 z4f1 z4f2 z4l zpc0 zpc1 zpc2 zpf0 zpf1 zpf2 zpl zyc0 zyc1 zyc2 zyf0 zyf1 zyf2 zyl zsc0 zsc1 zsc2 zsf0 zsf1 zsf2 zsl
      replace z4 := z4.on b
      replace ru := ru.on b
      replace zu := zu.on b
      replace rv := rv.on b
      replace zv := zv.on b
      replace ry := ry.on b
      replace zy := zy.on b
      replace rp := rp.on b
      replace zp := zp.on b
      replace rs := rs.on b
      replace zs := zs.on b
      replace BW := Below.step BW b
      clear b
      obtain ⟨z4c0, z4c1, z4c2, z4f0, z4f1, z4f2, z4l⟩ := z4.cells
      obtain ⟨zsc0, zsc1, zsc2, zsf0, zsf1, zsf2, zsl⟩ := zs.cells
      go_wp2_with fail
      refine (rto_as hf rs (by omega) mode (mode == 2) HR.out).mono ?_
      rintro en w19 ⟨rfl, b⟩
      clear z4c0 z4c1 z4c2 z4f0 z4f1 z4f2 z4l zsc0 zsc1 zsc2 zsf0 zsf1 zsf2 zsl
      replace z4 := z4.on b
      replace ru := ru.on b
      replace zu := zu.on b
      replace rv := rv.on b
      replace zv := zv.on b
      replace ry := ry.on b
      replace zy := zy.on b
      replace rp := rp.on b
      replace zp := zp.on b
      replace rs := rs.on b
      replace zs := zs.on b
      replace BW := Below.step BW b
      clear b
      go_wp2_with fail
      refine bodyPost_ret (v := .tuple #[.int .u64 (v : Int), .int .i64 fl, .int .i64 err]) (by simp [results, Tryz.results14, go_sem]) rfl ⟨rfl, BW⟩))
set_option maxHeartbeats 8000000 in
set_option maxRecDepth 100000 in
theorem rfma_mmD {B P W M E H : Nat} {low : Int} (hf : Fm B P W M E H low) (mode : Int) (ba bb bc : Nat) (hba : ba < 18446744073709551616) (hbb : bb < 18446744073709551616) (hbc : bc < 18446744073709551616) {w : World} (q : Int) (hw : wrongS H mode [ba, bb, bc] = q) (dq : (q != 0) = false) {qa qb qc : Int} (ca : clsS M E ba = qa) (cb : clsS M E bb = qb) (cc : clsS M E bc = qc) (e0 : (qa == 3) = false) (e1 : (qb == 3) = false) {r1 : Nat} (hn : fstS M E H [ba, bb, bc] = (r1, false)) {ga gb gc : Bool} (na : ngB H ba = ga) (nb : ngB H bb = gb) (nc : ngB H bc = gc) (ec : (qc == 3) = false) {un vn yn pn sn : Bool} {ux vx yx px sx : Nat} {ue ve ye pe se : Int} (hu : valS M E H low ba = (⟨un, ux, ue⟩, 0)) (hv : valS M E H low bb = (⟨vn, vx, ve⟩, 0)) (hx : valS M E H low bc = (⟨yn, yx, ye⟩, 0)) (hp : mulS ⟨un, ux, ue⟩ ⟨vn, vx, ve⟩ = (⟨pn, px, pe⟩, 0)) (hs : addS ⟨pn, px, pe⟩ ⟨yn, yx, ye⟩ = (⟨sn, sx, se⟩, 0)) (lu' : blen ux ≤ 100000) (lv' : blen vx ≤ 100000) (ly' : blen yx ≤ 100000) (lp' : blen px ≤ 100000) (ls' : blen sx ≤ 100000) {v : Nat} {fl err : Int} (hp0 : px = 0) (hw0 : yx = 0) (eg : (gc == (!(ga == gb))) = true) (hr : roundS P M E H low mode ⟨sn, sx, se⟩ (!(ga == gb)) = (v, fl, err)) :
    Calls Tryz.prog 14 #[.agg #[.int .i64 (B : Int), .int .i64 (P : Int), .int .i64 (W : Int)], .int .i64 mode, .int .u64 (ba : Int), .int .u64 (bb : Int), .int .u64 (bc : Int)] w (ToX w v fl err) := by
  have HL : Hid (∀ x ∈ [ba, bb, bc], x < 18446744073709551616) := Lib.hid (by intro x hx; simp only [List.mem_cons, List.not_mem_nil, or_false] at hx; omega)
  have HW := Lib.hid hw
  clear hw
  have HA := Lib.hid ca
  have HB := Lib.hid cb
  have HC := Lib.hid cc
  clear ca cb cc
  have HF := Lib.hid hn
  clear hn
  have HNA := Lib.hid na
  have HNB := Lib.hid nb
  have HNC := Lib.hid nc
  clear na nb nc
  have HU := Lib.hid hu
  have HV := Lib.hid hv
  have HX := Lib.hid hx
  have HP := Lib.hid hp
  have HS := Lib.hid hs
  have HR := Lib.hid hr
  clear hu hv hx hp hs hr
  go_enter Tryz.func14, Tryz.ntmps14
  go_wp2_with fail
  obtain ⟨V, hV, z4, BW, sW⟩ := fframe1 w 29 (B : Int) (P : Int) (W : Int)
  rw [hV]
  clear hV
  obtain ⟨w1, e_w1⟩ : ∃ w', V.alloc (.cells #[.int .u64 (ba : Int), .int .u64 (bb : Int), .int .u64 (bc : Int)] 22) = w' := ⟨_, rfl⟩
  have b : Below V.heap.size V w1 := e_w1 ▸ below_lit _ _
  have hs_w1 : w1.heap.size = (w.heap.size + 1) + 1 := e_w1 ▸ size_lit V _ sW
  have ob : OB w1 (w.heap.size + 1) [ba, bb, bc] := e_w1 ▸ OB.three V sW ba bb bc
  rw [e_w1]
  clear e_w1
  replace z4 := z4.on b
  replace BW := Below.step BW b
  clear b
  clear hs_w1
  clear sW
  refine (rwrong_as hf [ba, bb, bc] HL.out (n := 3) rfl (by omega) ob mode q HW.out).mono ?_
  rintro en w2 ⟨rfl, b⟩
  replace z4 := z4.on b
  replace ob := ob.on b
  replace BW := Below.step BW b
  clear b
  obtain ⟨z4c0, z4c1, z4c2, z4f0, z4f1, z4f2, z4l⟩ := z4.cells
  go_wp2_with fail
  refine (rclass_as hf ba qa hba HA.out _).mono ?_
  rintro en w3 ⟨rfl, b⟩
  clear z4c0 z4c1 z4c2 z4f0 z4f1 z4f2 z4l
  replace z4 := z4.on b
  replace ob := ob.on b
  replace BW := Below.step BW b
  clear b
  obtain ⟨z4c0, z4c1, z4c2, z4f0, z4f1, z4f2, z4l⟩ := z4.cells
  go_wp2_with fail
  refine (rclass_as hf bb qb hbb HB.out _).mono ?_
  rintro en w4 ⟨rfl, b⟩
  clear z4c0 z4c1 z4c2 z4f0 z4f1 z4f2 z4l
  replace z4 := z4.on b
  replace ob := ob.on b
  replace BW := Below.step BW b
  clear b
  obtain ⟨z4c0, z4c1, z4c2, z4f0, z4f1, z4f2, z4l⟩ := z4.cells
  go_wp2_with fail
  refine (rclass_as hf bc qc hbc HC.out _).mono ?_
  rintro en w5 ⟨rfl, b⟩
  clear z4c0 z4c1 z4c2 z4f0 z4f1 z4f2 z4l
  replace z4 := z4.on b
  replace ob := ob.on b
  replace BW := Below.step BW b
  clear b
  obtain ⟨z4c0, z4c1, z4c2, z4f0, z4f1, z4f2, z4l⟩ := z4.cells
  obtain ⟨za, hza⟩ : ∃ z, (qa == 0) = z := ⟨_, rfl⟩
  cases za
  all_goals (
    go_wp2_with fail
    refine (rfirst_as hf [ba, bb, bc] HL.out (n := 3) rfl (by omega) ob HF.out).mono ?_
    rintro en w6 ⟨rfl, b⟩
    clear z4c0 z4c1 z4c2 z4f0 z4f1 z4f2 z4l
    replace z4 := z4.on b
    replace ob := ob.on b
    replace BW := Below.step BW b
    clear b
    obtain ⟨z4c0, z4c1, z4c2, z4f0, z4f1, z4f2, z4l⟩ := z4.cells
    go_wp2_with fail
    clear z4c0 z4c1 z4c2 z4f0 z4f1 z4f2 z4l
    clear ob
    replace z4 := z4.on ((Below.refl _ _).drew : Below w6.heap.size w6 w6.drew)
    replace BW := Lib.hid (Below.step BW ((Below.refl _ _).drew : Below w6.heap.size w6 w6.drew))
    go_region_held3 (fun w' => w'.cell? ⟨w.heap.size, 0, none⟩ = some (.int .i64 (B : Int)) ∧ w'.cell? ⟨w.heap.size, 1, none⟩ = some (.int .i64 (P : Int)) ∧ w'.cell? ⟨w.heap.size, 2, none⟩ = some (.int .i64 (W : Int)))
      ((first | (with_reducible exact ⟨z4.cells.1, z4.cells.2.1, z4.cells.2.2.1⟩)))
      (first
        | (go_at_call 31
           (with_reducible refine (rneg_as5 hf ba hba _ HNA.out _).mono ?_)
           rintro en w7 ⟨rfl, b⟩
           replace z4 := z4.on b
           replace BW := Lib.hid (Below.step BW.out b)
           clear b)
        | (go_at_call 31
           (with_reducible refine (rneg_as5 hf bb hbb _ HNB.out _).mono ?_)
           rintro en w7 ⟨rfl, b⟩
           replace z4 := z4.on b
           replace BW := Lib.hid (Below.step BW.out b)
           clear b))
    all_goals replace BW := BW.out
    all_goals (
      obtain ⟨z4c0, z4c1, z4c2, z4f0, z4f1, z4f2, z4l⟩ := z4.cells
      go_wp2_with fail
      clear z4c0 z4c1 z4c2 z4f0 z4f1 z4f2 z4l
      refine (rvalue_as hf ba hba HU.out).mono ?_
      rintro en w8 ⟨V_ru, v_ru, c_ru, rfl, ru, b⟩
      replace z4 := z4.on b
      replace BW := Below.step BW b
      clear b
      have lu := ru.le (k := 100000) lu'
      go_upto_region 23 with fail
      obtain ⟨w9, e_w9⟩ : ∃ w', w8.alloc (dob un V_ru v_ru c_ru ue 71) = w' := ⟨_, rfl⟩
      have b : Below w8.heap.size w8 w9 := e_w9 ▸ below_lit _ _
      have hs_w9 : w9.heap.size = w8.heap.size + 1 := e_w9 ▸ size_lit w8 _ rfl
      have zu : DB w9 w8.heap.size 71 un V_ru v_ru c_ru ue := e_w9 ▸ DB.made w8 rfl 71 un V_ru v_ru c_ru ue
      rw [e_w9]
      clear e_w9
      replace z4 := z4.on b
      replace ru := ru.on b
      replace BW := Below.step BW b
      clear b
      clear hs_w9
      obtain ⟨z4c0, z4c1, z4c2, z4f0, z4f1, z4f2, z4l⟩ := z4.cells
      go_wp2_with fail
      refine (rvalue_as hf bb hbb HV.out).mono ?_
      rintro en w10 ⟨V_rv, v_rv, c_rv, rfl, rv, b⟩
      clear z4c0 z4c1 z4c2 z4f0 z4f1 z4f2 z4l
      replace z4 := z4.on b
      replace ru := ru.on b
      replace zu := zu.on b
      replace BW := Below.step BW b
      clear b
      have lv := rv.le (k := 100000) lv'
      go_upto_region 24 with fail
      obtain ⟨w11, e_w11⟩ : ∃ w', w10.alloc (dob vn V_rv v_rv c_rv ve 71) = w' := ⟨_, rfl⟩
      have b : Below w10.heap.size w10 w11 := e_w11 ▸ below_lit _ _
      have hs_w11 : w11.heap.size = w10.heap.size + 1 := e_w11 ▸ size_lit w10 _ rfl
      have zv : DB w11 w10.heap.size 71 vn V_rv v_rv c_rv ve := e_w11 ▸ DB.made w10 rfl 71 vn V_rv v_rv c_rv ve
      rw [e_w11]
      clear e_w11
      replace z4 := z4.on b
      replace ru := ru.on b
      replace zu := zu.on b
      replace rv := rv.on b
      replace BW := Below.step BW b
      clear b
      clear hs_w11
      obtain ⟨z4c0, z4c1, z4c2, z4f0, z4f1, z4f2, z4l⟩ := z4.cells
      go_wp2_with fail
      refine (rvalue_as hf bc hbc HX.out).mono ?_
      rintro en w12 ⟨V_ry, v_ry, c_ry, rfl, ry, b⟩
      clear z4c0 z4c1 z4c2 z4f0 z4f1 z4f2 z4l
      replace z4 := z4.on b
      replace ru := ru.on b
      replace zu := zu.on b
      replace rv := rv.on b
      replace zv := zv.on b
      replace BW := Below.step BW b
      clear b
      have ly := ry.le (k := 100000) ly'
      go_upto_region 25 with fail
      obtain ⟨w13, e_w13⟩ : ∃ w', w12.alloc (dob yn V_ry v_ry c_ry ye 71) = w' := ⟨_, rfl⟩
      have b : Below w12.heap.size w12 w13 := e_w13 ▸ below_lit _ _
      have hs_w13 : w13.heap.size = w12.heap.size + 1 := e_w13 ▸ size_lit w12 _ rfl
      have zy : DB w13 w12.heap.size 71 yn V_ry v_ry c_ry ye := e_w13 ▸ DB.made w12 rfl 71 yn V_ry v_ry c_ry ye
      rw [e_w13]
      clear e_w13
      replace z4 := z4.on b
      replace ru := ru.on b
      replace zu := zu.on b
      replace rv := rv.on b
      replace zv := zv.on b
      replace ry := ry.on b
      replace BW := Below.step BW b
      clear b
      clear hs_w13
      obtain ⟨zuc0, zuc1, zuc2, zuf0, zuf1, zuf2, zul⟩ := zu.cells
      obtain ⟨zvc0, zvc1, zvc2, zvf0, zvf1, zvf2, zvl⟩ := zv.cells
      go_wp2_with fail
      refine (rMul_as ru rv (by omega) (by omega) HP).mono ?_
      rintro en w14 ⟨V_rp, v_rp, c_rp, rfl, rp, b⟩
      clear zuc0 zuc1 zuc2 zuf0 zuf1 zuf2 zul zvc0 zvc1 zvc2 zvf0 zvf1 zvf2 zvl
      replace z4 := z4.on b
      replace ru := ru.on b
      replace zu := zu.on b
      replace rv := rv.on b
      replace zv := zv.on b
      replace ry := ry.on b
      replace zy := zy.on b
      replace BW := Below.step BW b
      clear b
      have lp := rp.le (k := 100000) lp'
      go_upto_region 26 with fail
      obtain ⟨w15, e_w15⟩ : ∃ w', w14.alloc (dob pn V_rp v_rp c_rp pe 71) = w' := ⟨_, rfl⟩
      have b : Below w14.heap.size w14 w15 := e_w15 ▸ below_lit _ _
      have hs_w15 : w15.heap.size = w14.heap.size + 1 := e_w15 ▸ size_lit w14 _ rfl
      have zp : DB w15 w14.heap.size 71 pn V_rp v_rp c_rp pe := e_w15 ▸ DB.made w14 rfl 71 pn V_rp v_rp c_rp pe
      rw [e_w15]
      clear e_w15
      replace z4 := z4.on b
      replace ru := ru.on b
      replace zu := zu.on b
      replace rv := rv.on b
      replace zv := zv.on b
      replace ry := ry.on b
      replace zy := zy.on b
      replace rp := rp.on b
      replace BW := Below.step BW b
      clear b
      clear hs_w15
      obtain ⟨zpc0, zpc1, zpc2, zpf0, zpf1, zpf2, zpl⟩ := zp.cells
      obtain ⟨zyc0, zyc1, zyc2, zyf0, zyf1, zyf2, zyl⟩ := zy.cells
      go_wp2_with fail
      refine (rAdd_as rp ry (by omega) (by omega) HS).mono ?_
      rintro en w16 ⟨V_rs, v_rs, c_rs, rfl, rs, b⟩
      clear zpc0 zpc1 zpc2 zpf0 zpf1 zpf2 zpl zyc0 zyc1 zyc2 zyf0 zyf1 zyf2 zyl
      replace z4 := z4.on b
      replace ru := ru.on b
      replace zu := zu.on b
      replace rv := rv.on b
      replace zv := zv.on b
      replace ry := ry.on b
      replace zy := zy.on b
      replace rp := rp.on b
      replace zp := zp.on b
      replace BW := Below.step BW b
      clear b
      have ls := rs.le (k := 100000) ls'
      go_upto_region 27 with fail
      obtain ⟨w17, e_w17⟩ : ∃ w', w16.alloc (dob sn V_rs v_rs c_rs se 71) = w' := ⟨_, rfl⟩
      have b : Below w16.heap.size w16 w17 := e_w17 ▸ below_lit _ _
      have hs_w17 : w17.heap.size = w16.heap.size + 1 := e_w17 ▸ size_lit w16 _ rfl
      have zs : DB w17 w16.heap.size 71 sn V_rs v_rs c_rs se := e_w17 ▸ DB.made w16 rfl 71 sn V_rs v_rs c_rs se
      rw [e_w17]
      clear e_w17
      replace z4 := z4.on b
      replace ru := ru.on b
      replace zu := zu.on b
      replace rv := rv.on b
      replace zv := zv.on b
      replace ry := ry.on b
      replace zy := zy.on b
      replace rp := rp.on b
      replace zp := zp.on b
      replace rs := rs.on b
      replace BW := Below.step BW b
      clear b
      clear hs_w17
      have n_p := rp.size
      have n_w := ry.size
      have j1 : ((v_rp : Int) == 0) = true := by rw [n_p, hp0]; rfl
      have j2 : ((v_ry : Int) == 0) = true := by rw [n_w, hw0]; rfl
      clear n_p n_w
      obtain ⟨z4c0, z4c1, z4c2, z4f0, z4f1, z4f2, z4l⟩ := z4.cells
      obtain ⟨zpc0, zpc1, zpc2, zpf0, zpf1, zpf2, zpl⟩ := zp.cells
      obtain ⟨zyc0, zyc1, zyc2, zyf0, zyf1, zyf2, zyl⟩ := zy.cells
      obtain ⟨zsc0, zsc1, zsc2, zsf0, zsf1, zsf2, zsl⟩ := zs.cells
      go_wp2_with fail
      refine (rneg_as5 hf bc hbc _ HNC.out _).mono ?_
      rintro en w18 ⟨rfl, b⟩
      clear z4c0 z4c1 z4c2 z4f0 z4f1 z4f2 z4l zpc0 zpc1 zpc2 zpf0 zpf1 zpf2 zpl zyc0 zyc1 zyc2 zyf0 zyf1 zyf2 zyl zsc0 zsc1 zsc2 zsf0 zsf1 zsf2 zsl
      replace z4 := z4.on b
      replace ru := ru.on b
      replace zu := zu.on b
      replace rv := rv.on b
      replace zv := zv.on b
      replace ry := ry.on b
      replace zy := zy.on b
      replace rp := rp.on b
      replace zp := zp.on b
      replace rs := rs.on b
      replace zs := zs.on b
      replace BW := Below.step BW b
      clear b
      obtain ⟨z4c0, z4c1, z4c2, z4f0, z4f1, z4f2, z4l⟩ := z4.cells
      obtain ⟨zsc0, zsc1, zsc2, zsf0, zsf1, zsf2, zsl⟩ := zs.cells
      go_wp2_with fail
      refine (rto_as hf rs (by omega) mode (!(ga == gb)) HR.out).mono ?_
      rintro en w19 ⟨rfl, b⟩
      clear z4c0 z4c1 z4c2 z4f0 z4f1 z4f2 z4l zsc0 zsc1 zsc2 zsf0 zsf1 zsf2 zsl
      replace z4 := z4.on b
      replace ru := ru.on b
      replace zu := zu.on b
      replace rv := rv.on b
      replace zv := zv.on b
      replace ry := ry.on b
      replace zy := zy.on b
      replace rp := rp.on b
      replace zp := zp.on b
      replace rs := rs.on b
      replace zs := zs.on b
      replace BW := Below.step BW b
      clear b
      go_wp2_with fail
      refine bodyPost_ret (v := .tuple #[.int .u64 (v : Int), .int .i64 fl, .int .i64 err]) (by simp [results, Tryz.results14, go_sem]) rfl ⟨rfl, BW⟩))
end Go.Proofs.YtpachoeignpcbaaGreatDoor
