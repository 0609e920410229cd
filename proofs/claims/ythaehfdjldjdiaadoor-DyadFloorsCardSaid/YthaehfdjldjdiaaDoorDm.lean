
/-
  The walk of the law DyadFloors.
-/
import Derived.Test.YthaehfdjldjdiaaDoorDk
namespace Go.Proofs.YthaehfdjldjdiaaDoor
open Go.RowKit
set_option linter.unusedVariables false

theorem pl_pl {d : D} (h : d.plain) : d.pl = d := by
  obtain ⟨n, x, e⟩ := d
  rcases h with ⟨h1, h2, h3⟩ | h1
  · simp only at h1 h2 h3
    subst h1 h2 h3
    exact D.pl_zero rfl
  · exact pl_eval n 0 x (by simp) h1 (by simp)
theorem floor_again {l : D} {to : Int} (hp : l.plain) (hm : l.may = true) (ht : plB to = true) (h : l.x = 0 ∨ to ≤ l.e) : floorS l to = (l, false, 0) := by
  have e1 := pl_pl hp
  obtain ⟨f1, f2⟩ := floor_pl hm ht
  rw [e1] at f1 f2
  by_cases hle : to ≤ l.e
  · exact f1 hle
  · have h0 : l.x = 0 := by rcases h with h | h; exact h; exact (hle h).elim
    rw [f2 (by omega), h0, Nat.zero_div, Nat.zero_mod]
    have hz : l = ⟨false, 0, 0⟩ := by
      obtain ⟨n, x, e⟩ := l
      rcases hp with ⟨h1, h2, h3⟩ | h1
      · simp only at h1 h2 h3; rw [h1, h2, h3]
      · simp only at h1 h0; omega
    rw [D.pl_zero rfl, hz]
    rfl
theorem floors_math {a : D} {to : Int} (ha : blen a.x ≤ 640) (a1 : -1000 ≤ a.e) (a2 : a.e ≤ 1000) (t1 : -1500 ≤ to) (t2 : to ≤ 1500) :
    ∃ (l d : D) (lost : Bool), a.may = true ∧ l.may = true ∧ d.may = true ∧ floorS a to = (l, lost, 0) ∧ addS a l.turn = (d, 0) ∧ floorS l to = (l, false, 0) ∧ decide (a.vl = l.vl) = !lost ∧
      ((lost = false ∧ d.x = 0) ∨ (lost = true ∧ d.x ≠ 0 ∧ d.neg = a.neg ∧ (l.x = 0 ∨ (l.neg = a.neg ∧ to ≤ l.e)) ∧ ∃ t, topS d = (t, 0) ∧ t < to)) := by
  obtain ⟨ma, ia⟩ := small_in ha a1 a2
  have ht : plB to = true := (plB_iff to).2 ⟨by omega, by omega⟩
  by_cases hc : to ≤ a.e
  · have e1 : floorS a to = (a.pl, false, 0) := by unfold floorS; rw [ma, ht, if_pos rfl, if_pos rfl, if_pos hc]
    have il := inn_pl ia
    have ml := inn_may a.pl_plain il (by omega) (by omega) (by omega)
    have hv : a.pl.vl = a.vl := D.pl_vl (by omega)
    have ele := D.pl_low (d := a) (m := -1000) a1 (by omega)
    obtain ⟨ed, md, _⟩ := addS_to (hi' := 1641) 2641 ma (show a.pl.turn.may = true from ml) ia (inn_turn il) (by omega) (by omega) (by omega) (by omega) (by omega) (by omega)
    have hd : (a.add a.pl.turn).vl = 0 := by rw [D.add_vl (by omega) (by show -40000 ≤ a.pl.e; omega), D.turn_vl, hv]; omega
    refine ⟨a.pl, _, false, ma, ml, md, e1, ed, ?_, ?_, .inl ⟨rfl, D.vl_zero.1 hd⟩⟩
    · refine floor_again a.pl_plain ml ht ?_
      by_cases h0 : a.x = 0
      · left; rw [D.pl_zero h0]
      · right; have := (D.pl_e a).2 h0; omega
    · rw [hv]; simp
  · obtain ⟨k, hk⟩ := Int.eq_ofNat_of_zero_le (show 0 ≤ to - a.e by omega)
    have e1 : floorS a to = (D.pl ⟨a.neg, a.x / 2 ^ k, to⟩, decide (a.x % 2 ^ k ≠ 0), 0) := by
      unfold floorS; rw [ma, ht, if_pos rfl, if_pos rfl, if_neg hc, hk, Int.toNat_natCast]
    have il0 : (⟨a.neg, a.x / 2 ^ k, to⟩ : D).inn (-1500) 2140 640 := fun _ => by
      have := blen_le_of (Nat.div_le_self a.x (2 ^ k))
      exact ⟨by show -1500 ≤ to; omega, by show (blen (a.x / 2 ^ k) : Int) + to ≤ 2140; omega, by show blen (a.x / 2 ^ k) ≤ 640; omega⟩
    have il := inn_pl il0
    have hpl := D.pl_plain ⟨a.neg, a.x / 2 ^ k, to⟩
    have hv : (D.pl ⟨a.neg, a.x / 2 ^ k, to⟩).vl = (⟨a.neg, a.x / 2 ^ k, to⟩ : D).vl := D.pl_vl (by show -40000 ≤ to; omega)
    have ele := D.pl_low (d := ⟨a.neg, a.x / 2 ^ k, to⟩) (m := -1500) (by show -1500 ≤ to; omega) (by omega)
    have hlx : (D.pl ⟨a.neg, a.x / 2 ^ k, to⟩).x = 0 ∨ ((D.pl ⟨a.neg, a.x / 2 ^ k, to⟩).neg = a.neg ∧ to ≤ (D.pl ⟨a.neg, a.x / 2 ^ k, to⟩).e) := by
      by_cases h0 : a.x / 2 ^ k = 0
      · left; rw [D.pl_zero (d := ⟨a.neg, a.x / 2 ^ k, to⟩) h0]
      · right
        rw [D.pl_pos (d := ⟨a.neg, a.x / 2 ^ k, to⟩) h0]
        exact ⟨rfl, by show to ≤ to + (tz (a.x / 2 ^ k) : Int); omega⟩
    generalize D.pl ⟨a.neg, a.x / 2 ^ k, to⟩ = l at *
    have ml := inn_may hpl il (by omega) (by omega) (by omega)
    obtain ⟨ed, md, _⟩ := addS_to (hi' := 2141) 3641 ma (show l.turn.may = true from ml) (inn_more ia (by omega) (by omega) (Nat.le_refl _)) (inn_turn il) (by omega) (by omega) (by omega) (by omega) (by omega) (by omega)
    have key : a.vl = l.vl + (⟨a.neg, a.x % 2 ^ k, a.e⟩ : D).vl := by
      rw [hv]
      have e3 : (⟨a.neg, a.x / 2 ^ k, to⟩ : D).vl = (⟨a.neg, a.x / 2 ^ k * 2 ^ k, a.e⟩ : D).vl := by
        unfold D.vl
        rw [sz_shift a.neg (a.x / 2 ^ k) k a.e to]
        show _ = (⟨a.neg, a.x / 2 ^ k, to⟩ : D).sz * 2 ^ k * 2 ^ (a.e + 40000).toNat
        rw [Int.mul_assoc, ← Int.pow_add, show k + (a.e + 40000).toNat = (to + 40000).toNat by omega]
      rw [e3]
      unfold D.vl
      rw [← Int.add_mul]
      congr 1
      have e4 := Nat.div_add_mod a.x (2 ^ k)
      rw [Nat.mul_comm] at e4
      unfold D.sz
      cases a.neg <;> simp only [if_true, if_false, Bool.false_eq_true] <;> omega
    have hd : (⟨a.neg, a.x % 2 ^ k, a.e⟩ : D).pl = a.add l.turn := by
      refine D.add_of (by omega) (by show -40000 ≤ l.e; omega) (D.pl_low (m := -40000) (by show -40000 ≤ a.e; omega) (by omega)) (D.pl_plain _) ?_
      rw [D.pl_vl (by show -40000 ≤ a.e; omega), D.turn_vl]
      omega
    have hmod := Nat.mod_lt a.x (Nat.two_pow_pos k)
    refine ⟨l, _, decide (a.x % 2 ^ k ≠ 0), ma, ml, md, e1, ed, floor_again hpl ml ht (by rcases hlx with h | h; exact .inl h; exact .inr h.2), ?_, ?_⟩
    · have h0 := D.vl_zero (d := ⟨a.neg, a.x % 2 ^ k, a.e⟩)
      simp only at h0
      by_cases hz : a.x % 2 ^ k = 0
      · have := h0.2 hz
        rw [decide_eq_true (by omega), decide_eq_false (by omega)]; rfl
      · have : ¬ (⟨a.neg, a.x % 2 ^ k, a.e⟩ : D).vl = 0 := fun e => hz (h0.1 e)
        rw [decide_eq_false (by omega), decide_eq_true hz]; rfl
    · by_cases hz : a.x % 2 ^ k = 0
      · left
        refine ⟨decide_eq_false (by omega), ?_⟩
        rw [← hd, D.pl_zero (d := ⟨a.neg, a.x % 2 ^ k, a.e⟩) hz]
      · right
        have hp := D.pl_pos (d := ⟨a.neg, a.x % 2 ^ k, a.e⟩) hz
        have hb := blen_div_tz hz
        have hb2 := (blen_le (a.x % 2 ^ k) k).2 hmod
        have ho := (tz_blen hz).2.2
        simp only at hp
        rw [hd] at hp
        refine ⟨decide_eq_true hz, by rw [hp]; show a.x % 2 ^ k / 2 ^ tz (a.x % 2 ^ k) ≠ 0; omega, by rw [hp], hlx, ?_⟩
        refine ⟨(blen (a.add l.turn).x : Int) - 1 + (a.add l.turn).e, ?_, ?_⟩
        · unfold topS
          rw [md, if_pos rfl, if_neg (by rw [hp]; show ¬ a.x % 2 ^ k / 2 ^ tz (a.x % 2 ^ k) = 0; omega)]
        · rw [hp]
          show (blen (a.x % 2 ^ k / 2 ^ tz (a.x % 2 ^ k)) : Int) - 1 + (a.e + (tz (a.x % 2 ^ k) : Int)) < to
          omega

set_option maxHeartbeats 4000000 in
set_option maxRecDepth 100000 in
theorem floors_none {A1 : Option Addr} {n1 c1 x : Nat} {na : Bool} {ea at_ to : Int} {w : World} (h1 : Arg w A1 n1 c1 x) (hT : Tab w) (s1 : n1 ≤ 20) (ea1 : -1000 ≤ ea) (ea2 : ea ≤ 1000) (t1 : -32768 ≤ at_) (t2 : at_ ≤ 32767) (hto : at_.tmod 1500 = to) (to1 : -1500 ≤ to) (to2 : to ≤ 1500)
    {ln dn : Bool} {lx : Nat} {le de : Int} (ma : Hid (D.may ⟨na, x, ea⟩ = true)) (ml : Hid (D.may ⟨ln, lx, le⟩ = true)) (md : Hid (D.may ⟨dn, 0, de⟩ = true)) (el : Hid (floorS ⟨na, x, ea⟩ to = (⟨ln, lx, le⟩, false, 0))) (ed : Hid (addS ⟨na, x, ea⟩ (D.turn ⟨ln, lx, le⟩) = (⟨dn, 0, de⟩, 0))) (eg : Hid (floorS ⟨ln, lx, le⟩ to = (⟨ln, lx, le⟩, false, 0))) (sv : Hid (decide (D.vl ⟨na, x, ea⟩ = D.vl ⟨ln, lx, le⟩) = true)) :
    Calls Tryd.prog 7 #[.agg #[.bool na, .slice A1 n1 c1, .int .i64 ea], .int .i16 at_] w fun e w' => e = .returned (.bool true) ∧ Below w.heap.size w w' := by
  go_enter Tryd.func7, Tryd.ntmps7
  go_wp2_with fail
  obtain ⟨W, hW, za, BW, sW⟩ := frame1 w 25 na A1 n1 c1 ea
  rw [hW]
  clear hW
  replace hT := hT.on BW
  replace h1 := h1.on BW
  refine (awake2_any hT).mono ?_
  rintro en w1 ⟨rfl, b⟩
  replace za := za.on b
  replace hT := hT.on b
  replace h1 := h1.on b
  replace BW := Below.step BW b
  clear b
  obtain ⟨zac0, zac1, zac2, zaf0, zaf1, zaf2, zal⟩ := za.cells
  go_wp2_with fail
  refine (dfloor_as h1 (by omega) hT el.out).mono ?_
  rintro en w2 ⟨V_Rl, v_Rl, rfl, Rl, b⟩
  clear zac0 zac1 zac2 zaf0 zaf1 zaf2 zal
  replace za := za.on b
  replace hT := hT.on b
  replace h1 := h1.on b
  replace BW := Below.step BW b
  clear b
  have l_Rl := res_n_le Rl (k := 128) (may_blen ml.out)
  obtain ⟨zac0, zac1, zac2, zaf0, zaf1, zaf2, zal⟩ := za.cells
  go_wp2_with fail
  clear zac0 zac1 zac2 zaf0 zaf1 zaf2 zal
  obtain ⟨w3, e_w3⟩ : ∃ w', w2.alloc (dob ln V_Rl v_Rl v_Rl le 25) = w' := ⟨_, rfl⟩
  have b : Below w2.heap.size w2 w3 := e_w3 ▸ below_lit _ _
  have hs_w3 : w3.heap.size = w2.heap.size + 1 := e_w3 ▸ size_lit w2 _ rfl
  have zl : DB w3 w2.heap.size 25 ln V_Rl v_Rl v_Rl le := e_w3 ▸ DB.made w2 rfl 25 ln V_Rl v_Rl v_Rl le
  rw [e_w3]
  clear e_w3
  replace za := za.on b
  replace hT := hT.on b
  replace h1 := h1.on b
  replace Rl := Rl.on b
  replace BW := Below.step BW b
  clear b
  refine (dsub_as h1 (Rl.arg (by omega)) (by omega) (by omega) hT ed.out).mono ?_
  rintro en w4 ⟨V_Rd, v_Rd, rfl, Rd, b⟩
  replace za := za.on b
  replace hT := hT.on b
  replace h1 := h1.on b
  replace Rl := Rl.on b
  replace zl := zl.on b
  replace BW := Below.step BW b
  clear b
  have l_Rd := res_n_le Rd (k := 128) (may_blen md.out)
  obtain ⟨zlc0, zlc1, zlc2, zlf0, zlf1, zlf2, zll⟩ := zl.cells
  go_wp2_with fail
  clear zlc0 zlc1 zlc2 zlf0 zlf1 zlf2 zll
  obtain ⟨w5, e_w5⟩ : ∃ w', w4.alloc (dob dn V_Rd v_Rd v_Rd de 25) = w' := ⟨_, rfl⟩
  have b : Below w4.heap.size w4 w5 := e_w5 ▸ below_lit _ _
  have hs_w5 : w5.heap.size = w4.heap.size + 1 := e_w5 ▸ size_lit w4 _ rfl
  have zd : DB w5 w4.heap.size 25 dn V_Rd v_Rd v_Rd de := e_w5 ▸ DB.made w4 rfl 25 dn V_Rd v_Rd v_Rd de
  rw [e_w5]
  clear e_w5
  replace za := za.on b
  replace hT := hT.on b
  replace h1 := h1.on b
  replace Rl := Rl.on b
  replace zl := zl.on b
  replace Rd := Rd.on b
  replace BW := Below.step BW b
  clear b
  refine (dfloor_as (Rl.arg (by omega)) (by omega) hT eg.out).mono ?_
  rintro en w6 ⟨V_Rg, v_Rg, rfl, Rg, b⟩
  replace za := za.on b
  replace hT := hT.on b
  replace h1 := h1.on b
  replace Rl := Rl.on b
  replace zl := zl.on b
  replace Rd := Rd.on b
  replace zd := zd.on b
  replace BW := Below.step BW b
  clear b
  have l_Rg := res_n_le Rg (k := 128) (may_blen ml.out)
  obtain rfl : v_Rd = 0 := Rd.zero_n
  obtain ⟨zlc0, zlc1, zlc2, zlf0, zlf1, zlf2, zll⟩ := zl.cells
  go_wp2_with fail
  clear zlc0 zlc1 zlc2 zlf0 zlf1 zlf2 zll
  obtain ⟨w7, e_w7⟩ : ∃ w', w6.alloc (dob ln V_Rg v_Rg v_Rg le 25) = w' := ⟨_, rfl⟩
  have b : Below w6.heap.size w6 w7 := e_w7 ▸ below_lit _ _
  have hs_w7 : w7.heap.size = w6.heap.size + 1 := e_w7 ▸ size_lit w6 _ rfl
  have zg : DB w7 w6.heap.size 25 ln V_Rg v_Rg v_Rg le := e_w7 ▸ DB.made w6 rfl 25 ln V_Rg v_Rg v_Rg le
  rw [e_w7]
  clear e_w7
  replace za := za.on b
  replace hT := hT.on b
  replace h1 := h1.on b
  replace Rl := Rl.on b
  replace zl := zl.on b
  replace Rd := Rd.on b
  replace zd := zd.on b
  replace Rg := Rg.on b
  replace BW := Below.step BW b
  clear b
  refine (dsame_eq (Rg.arg (by omega)) (Rl.arg (by omega)) (by omega) (by omega) hT ml.out rfl).mono ?_
  rintro en w8 ⟨rfl, b⟩
  replace za := za.on b
  replace hT := hT.on b
  replace h1 := h1.on b
  replace Rl := Rl.on b
  replace zl := zl.on b
  replace Rd := Rd.on b
  replace zd := zd.on b
  replace Rg := Rg.on b
  replace zg := zg.on b
  replace BW := Below.step BW b
  clear b
  obtain ⟨zac0, zac1, zac2, zaf0, zaf1, zaf2, zal⟩ := za.cells
  obtain ⟨zlc0, zlc1, zlc2, zlf0, zlf1, zlf2, zll⟩ := zl.cells
  go_wp2_with fail
  refine (dsame_vl h1 (Rl.arg (by omega)) (by omega) (by omega) hT ma.out ml.out true sv.out).mono ?_
  rintro en w9 ⟨rfl, b⟩
  clear zac0 zac1 zac2 zaf0 zaf1 zaf2 zal zlc0 zlc1 zlc2 zlf0 zlf1 zlf2 zll
  replace za := za.on b
  replace hT := hT.on b
  replace h1 := h1.on b
  replace Rl := Rl.on b
  replace zl := zl.on b
  replace Rd := Rd.on b
  replace zd := zd.on b
  replace Rg := Rg.on b
  replace zg := zg.on b
  replace BW := Below.step BW b
  clear b
  obtain ⟨zdc0, zdc1, zdc2, zdf0, zdf1, zdf2, zdl⟩ := zd.cells
  go_wp2_with fail
  go_ret
  exact ⟨rfl, BW⟩

set_option maxHeartbeats 4000000 in
set_option maxRecDepth 100000 in
theorem floors_some {A1 : Option Addr} {n1 c1 x : Nat} {na : Bool} {ea at_ to : Int} {w : World} (h1 : Arg w A1 n1 c1 x) (hT : Tab w) (s1 : n1 ≤ 20) (ea1 : -1000 ≤ ea) (ea2 : ea ≤ 1000) (t1 : -32768 ≤ at_) (t2 : at_ ≤ 32767) (hto : at_.tmod 1500 = to) (to1 : -1500 ≤ to) (to2 : to ≤ 1500)
    {ln : Bool} {lx dx : Nat} {le de t : Int} (hdx : dx ≠ 0) (hl : lx = 0 ∨ (ln = na ∧ to ≤ le)) (ht : t < to) (ma : Hid (D.may ⟨na, x, ea⟩ = true)) (ml : Hid (D.may ⟨ln, lx, le⟩ = true)) (md : Hid (D.may ⟨na, dx, de⟩ = true)) (el : Hid (floorS ⟨na, x, ea⟩ to = (⟨ln, lx, le⟩, true, 0))) (ed : Hid (addS ⟨na, x, ea⟩ (D.turn ⟨ln, lx, le⟩) = (⟨na, dx, de⟩, 0))) (eg : Hid (floorS ⟨ln, lx, le⟩ to = (⟨ln, lx, le⟩, false, 0))) (sv : Hid (decide (D.vl ⟨na, x, ea⟩ = D.vl ⟨ln, lx, le⟩) = false)) (et : Hid (topS ⟨na, dx, de⟩ = (t, 0))) :
    Calls Tryd.prog 7 #[.agg #[.bool na, .slice A1 n1 c1, .int .i64 ea], .int .i16 at_] w fun e w' => e = .returned (.bool true) ∧ Below w.heap.size w w' := by
  go_enter Tryd.func7, Tryd.ntmps7
  go_wp2_with fail
  obtain ⟨W, hW, za, BW, sW⟩ := frame1 w 25 na A1 n1 c1 ea
  rw [hW]
  clear hW
  replace hT := hT.on BW
  replace h1 := h1.on BW
  refine (awake2_any hT).mono ?_
  rintro en w1 ⟨rfl, b⟩
  replace za := za.on b
  replace hT := hT.on b
  replace h1 := h1.on b
  replace BW := Below.step BW b
  clear b
  obtain ⟨zac0, zac1, zac2, zaf0, zaf1, zaf2, zal⟩ := za.cells
  go_wp2_with fail
  refine (dfloor_as h1 (by omega) hT el.out).mono ?_
  rintro en w2 ⟨V_Rl, v_Rl, rfl, Rl, b⟩
  clear zac0 zac1 zac2 zaf0 zaf1 zaf2 zal
  replace za := za.on b
  replace hT := hT.on b
  replace h1 := h1.on b
  replace BW := Below.step BW b
  clear b
  have l_Rl := res_n_le Rl (k := 128) (may_blen ml.out)
  obtain ⟨zac0, zac1, zac2, zaf0, zaf1, zaf2, zal⟩ := za.cells
  go_wp2_with fail
  clear zac0 zac1 zac2 zaf0 zaf1 zaf2 zal
  obtain ⟨w3, e_w3⟩ : ∃ w', w2.alloc (dob ln V_Rl v_Rl v_Rl le 25) = w' := ⟨_, rfl⟩
  have b : Below w2.heap.size w2 w3 := e_w3 ▸ below_lit _ _
  have hs_w3 : w3.heap.size = w2.heap.size + 1 := e_w3 ▸ size_lit w2 _ rfl
  have zl : DB w3 w2.heap.size 25 ln V_Rl v_Rl v_Rl le := e_w3 ▸ DB.made w2 rfl 25 ln V_Rl v_Rl v_Rl le
  rw [e_w3]
  clear e_w3
  replace za := za.on b
  replace hT := hT.on b
  replace h1 := h1.on b
  replace Rl := Rl.on b
  replace BW := Below.step BW b
  clear b
  refine (dsub_as h1 (Rl.arg (by omega)) (by omega) (by omega) hT ed.out).mono ?_
  rintro en w4 ⟨V_Rd, v_Rd, rfl, Rd, b⟩
  replace za := za.on b
  replace hT := hT.on b
  replace h1 := h1.on b
  replace Rl := Rl.on b
  replace zl := zl.on b
  replace BW := Below.step BW b
  clear b
  have l_Rd := res_n_le Rd (k := 128) (may_blen md.out)
  obtain ⟨zlc0, zlc1, zlc2, zlf0, zlf1, zlf2, zll⟩ := zl.cells
  go_wp2_with fail
  clear zlc0 zlc1 zlc2 zlf0 zlf1 zlf2 zll
  obtain ⟨w5, e_w5⟩ : ∃ w', w4.alloc (dob na V_Rd v_Rd v_Rd de 25) = w' := ⟨_, rfl⟩
  have b : Below w4.heap.size w4 w5 := e_w5 ▸ below_lit _ _
  have hs_w5 : w5.heap.size = w4.heap.size + 1 := e_w5 ▸ size_lit w4 _ rfl
  have zd : DB w5 w4.heap.size 25 na V_Rd v_Rd v_Rd de := e_w5 ▸ DB.made w4 rfl 25 na V_Rd v_Rd v_Rd de
  rw [e_w5]
  clear e_w5
  replace za := za.on b
  replace hT := hT.on b
  replace h1 := h1.on b
  replace Rl := Rl.on b
  replace zl := zl.on b
  replace Rd := Rd.on b
  replace BW := Below.step BW b
  clear b
  refine (dfloor_as (Rl.arg (by omega)) (by omega) hT eg.out).mono ?_
  rintro en w6 ⟨V_Rg, v_Rg, rfl, Rg, b⟩
  replace za := za.on b
  replace hT := hT.on b
  replace h1 := h1.on b
  replace Rl := Rl.on b
  replace zl := zl.on b
  replace Rd := Rd.on b
  replace zd := zd.on b
  replace BW := Below.step BW b
  clear b
  have l_Rg := res_n_le Rg (k := 128) (may_blen ml.out)
  have hvd : v_Rd ≠ 0 := fun e => hdx (by subst e; exact Rd.zero_len)
  have hvd2 : ((v_Rd : Int) == 0) = false := by simp; omega
  obtain ⟨zlc0, zlc1, zlc2, zlf0, zlf1, zlf2, zll⟩ := zl.cells
  go_wp2_with fail
  clear zlc0 zlc1 zlc2 zlf0 zlf1 zlf2 zll
  obtain ⟨w7, e_w7⟩ : ∃ w', w6.alloc (dob ln V_Rg v_Rg v_Rg le 25) = w' := ⟨_, rfl⟩
  have b : Below w6.heap.size w6 w7 := e_w7 ▸ below_lit _ _
  have hs_w7 : w7.heap.size = w6.heap.size + 1 := e_w7 ▸ size_lit w6 _ rfl
  have zg : DB w7 w6.heap.size 25 ln V_Rg v_Rg v_Rg le := e_w7 ▸ DB.made w6 rfl 25 ln V_Rg v_Rg v_Rg le
  rw [e_w7]
  clear e_w7
  replace za := za.on b
  replace hT := hT.on b
  replace h1 := h1.on b
  replace Rl := Rl.on b
  replace zl := zl.on b
  replace Rd := Rd.on b
  replace zd := zd.on b
  replace Rg := Rg.on b
  replace BW := Below.step BW b
  clear b
  refine (dsame_eq (Rg.arg (by omega)) (Rl.arg (by omega)) (by omega) (by omega) hT ml.out rfl).mono ?_
  rintro en w8 ⟨rfl, b⟩
  replace za := za.on b
  replace hT := hT.on b
  replace h1 := h1.on b
  replace Rl := Rl.on b
  replace zl := zl.on b
  replace Rd := Rd.on b
  replace zd := zd.on b
  replace Rg := Rg.on b
  replace zg := zg.on b
  replace BW := Below.step BW b
  clear b
  obtain ⟨zac0, zac1, zac2, zaf0, zaf1, zaf2, zal⟩ := za.cells
  obtain ⟨zlc0, zlc1, zlc2, zlf0, zlf1, zlf2, zll⟩ := zl.cells
  go_wp2_with fail
  refine (dsame_vl h1 (Rl.arg (by omega)) (by omega) (by omega) hT ma.out ml.out false sv.out).mono ?_
  rintro en w9 ⟨rfl, b⟩
  clear zac0 zac1 zac2 zaf0 zaf1 zaf2 zal zlc0 zlc1 zlc2 zlf0 zlf1 zlf2 zll
  replace za := za.on b
  replace hT := hT.on b
  replace h1 := h1.on b
  replace Rl := Rl.on b
  replace zl := zl.on b
  replace Rd := Rd.on b
  replace zd := zd.on b
  replace Rg := Rg.on b
  replace zg := zg.on b
  replace BW := Below.step BW b
  clear b
  obtain ⟨zdc0, zdc1, zdc2, zdf0, zdf1, zdf2, zdl⟩ := zd.cells
  go_wp2_with fail
  refine (dtop_as (Rd.arg (by omega)) (by omega) hT et.out).mono ?_
  rintro en w10 ⟨rfl, b⟩
  clear zdc0 zdc1 zdc2 zdf0 zdf1 zdf2 zdl
  replace za := za.on b
  replace hT := hT.on b
  replace h1 := h1.on b
  replace Rl := Rl.on b
  replace zl := zl.on b
  replace Rd := Rd.on b
  replace zd := zd.on b
  replace Rg := Rg.on b
  replace zg := zg.on b
  replace BW := Below.step BW b
  clear b
  rcases hl with hl | ⟨hl, hl2⟩
  · subst hl
    obtain rfl : v_Rl = 0 := Rl.zero_n
    obtain ⟨zdc0, zdc1, zdc2, zdf0, zdf1, zdf2, zdl⟩ := zd.cells
    obtain ⟨zac0, zac1, zac2, zaf0, zaf1, zaf2, zal⟩ := za.cells
    obtain ⟨zlc0, zlc1, zlc2, zlf0, zlf1, zlf2, zll⟩ := zl.cells
    go_wp2_with fail
    go_ret
    exact ⟨rfl, BW⟩
  · subst hl
    have hvl : ((v_Rl : Int) == 0) = false ∨ v_Rl = 0 := by rcases Nat.eq_zero_or_pos v_Rl with e | e; exact .inr e; exact .inl (by simp; omega)
    have tl : decide (to ≤ le) = true := decide_eq_true hl2
    rcases hvl with hvl | hvl
    · skip
      obtain ⟨zdc0, zdc1, zdc2, zdf0, zdf1, zdf2, zdl⟩ := zd.cells
      obtain ⟨zac0, zac1, zac2, zaf0, zaf1, zaf2, zal⟩ := za.cells
      obtain ⟨zlc0, zlc1, zlc2, zlf0, zlf1, zlf2, zll⟩ := zl.cells
      go_wp2_with fail
      go_ret
      exact ⟨rfl, BW⟩
    · subst hvl
      obtain ⟨zdc0, zdc1, zdc2, zdf0, zdf1, zdf2, zdl⟩ := zd.cells
      obtain ⟨zac0, zac1, zac2, zaf0, zaf1, zaf2, zal⟩ := za.cells
      obtain ⟨zlc0, zlc1, zlc2, zlf0, zlf1, zlf2, zll⟩ := zl.cells
      go_wp2_with fail
      go_ret
      exact ⟨rfl, BW⟩

set_option maxHeartbeats 4000000 in
set_option maxRecDepth 100000 in
theorem floors_bad {A1 : Option Addr} {n1 c1 : Nat} {na : Bool} {ea at_ : Int} {w : World} (hT : Tab w) (l1 : n1 ≤ 9223372036854775807) (t1 : -32768 ≤ at_) (t2 : at_ ≤ 32767) (hb : 20 < n1 ∨ n1 ≤ 20 ∧ ea < -1000 ∨ n1 ≤ 20 ∧ -1000 ≤ ea ∧ 1000 < ea) :
    Calls Tryd.prog 7 #[.agg #[.bool na, .slice A1 n1 c1, .int .i64 ea], .int .i16 at_] w fun e w' => e = .returned (.bool true) ∧ Below w.heap.size w w' := by
  rcases hb with hb | ⟨hb, hb2⟩ | ⟨hb, hb2, hb3⟩
  all_goals
    go_enter Tryd.func7, Tryd.ntmps7
    go_wp2_with fail
    obtain ⟨W, hW, za, BW, sW⟩ := frame1 w 25 na A1 n1 c1 ea
    rw [hW]
    clear hW
    replace hT := hT.on BW
    refine (awake2_any hT).mono ?_
    rintro en w1 ⟨rfl, b⟩
    replace za := za.on b
    replace hT := hT.on b
    replace BW := Below.step BW b
    clear b
    obtain ⟨zac0, zac1, zac2, zaf0, zaf1, zaf2, zal⟩ := za.cells
    go_wp2_with fail
    go_ret
    exact ⟨rfl, BW⟩

theorem floors_walk {A1 : Option Addr} {n1 c1 x : Nat} {na : Bool} {ea at_ : Int} {w : World} (h1 : Arg w A1 n1 c1 x) (_ : (Lit.int .i64 ea).wf = true) (ha : (Lit.int .i16 at_).wf = true) (hT : Tab w) :
    Calls Tryd.prog 7 #[.agg #[.bool na, .slice A1 n1 c1, .int .i64 ea], .int .i16 at_] w fun e w' => e = .returned (.bool true) ∧ Below w.heap.size w w' := by
  have hat : -32768 ≤ at_ ∧ at_ ≤ 32767 := by
    simp [Lit.wf, IntKind.min, IntKind.max, IntKind.signed, IntKind.bits] at ha
    omega
  by_cases g1 : n1 ≤ 20 ∧ -1000 ≤ ea ∧ ea ≤ 1000
  · obtain ⟨s1, e1, e2⟩ := g1
    have q1 := h1.blen
    obtain ⟨to, hto⟩ : ∃ to, at_.tmod 1500 = to := ⟨_, rfl⟩
    have hb : -1500 ≤ to ∧ to ≤ 1500 := by
      subst hto
      have h1 := Int.tmod_lt_of_pos at_ (show (0 : Int) < 1500 by decide)
      have h2 := Int.lt_tmod_of_pos at_ (show (0 : Int) < 1500 by decide)
      omega
    obtain ⟨⟨ln, lx, le⟩, ⟨dn, dx, de⟩, lost, ma, ml, md, el, ed, eg, sv, hcase⟩ := floors_math (a := ⟨na, x, ea⟩) (to := to) (by show blen x ≤ 640; omega) e1 e2 hb.1 hb.2
    rcases hcase with ⟨rfl, h0⟩ | ⟨rfl, h0, hn, hl, t, et, ht⟩
    · simp only at h0
      subst h0
      exact floors_none h1 hT s1 e1 e2 hat.1 hat.2 hto hb.1 hb.2 ma ml md el ed eg sv
    · simp only at h0 hn hl
      subst hn
      exact floors_some h1 hT s1 e1 e2 hat.1 hat.2 hto hb.1 hb.2 h0 hl ht ma ml md el ed eg sv et
  · exact floors_bad hT h1.n_le hat.1 hat.2 (by omega)
end Go.Proofs.YthaehfdjldjdiaaDoor
