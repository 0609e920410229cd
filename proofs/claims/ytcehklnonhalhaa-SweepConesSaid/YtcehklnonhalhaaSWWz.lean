/-
  What the proofs of SweepTells and SweepCones and SweepSame need: Wz.
-/
import Derived.Test.YtcehklnonhalhaaSWWn
import Derived.Test.YtcehklnonhalhaaSWYe
namespace Go.Proofs.Ytcehklnonhalhaa
open Go.RowKit
open Go.Maps (Keyed)
set_option linter.unusedVariables false
set_option maxRecDepth 4000

/-- the call's own set of places, whatever was put into it. -/
def Ms (w : World) (mb n : Nat) (V : List Nat) : Prop := ∃ D : DataW Unit, MapS w mb n D ∧ Se V D
theorem Ms.below {w w' : World} {mb n : Nat} {V : List Nat} (h : Ms w mb n V) (hb : Below w.heap.size w w') : Ms w' mb n V := by
  obtain ⟨D, h1, h2⟩ := h
  exact ⟨D, h1.below hb, h2⟩
theorem Ms.lt {w : World} {mb n : Nat} {V : List Nat} (h : Ms w mb n V) : mb < w.heap.size := by
  obtain ⟨D, h1, _⟩ := h
  exact World.ownsMap.lt h1
theorem Se.put2 {V : List Nat} {D : DataW Unit} (h : Se V D) (hm : Maps.IsMap D) (ht : Maps.Tidy D) (q : Nat) : ∃ V', Se V' (D.put (kJ q) (.lit (.bool true))) ∧ ∀ x, x ∈ V' ↔ x = q ∨ x ∈ V := by
  by_cases hq : q ∈ V
  · refine ⟨V, ⟨h.nd, ?_, fun m => ?_, fun m => ?_⟩, fun x => ⟨.inr, fun k => by
      rcases k with rfl | k
      · exact hq
      · exact k⟩⟩
    · rw [Maps.size_put ht, h.has q, h.size]
      simp [hq]
    · by_cases e : m = q
      · subst e
        rw [Maps.atKey_put_same hm (by trivial)]
        simp [hq]
      · rw [Maps.atKey_put_other (kJ_ne e), h.at_ m]
    · by_cases e : m = q
      · subst e
        rw [Maps.has_put_same hm (by trivial)]
        simp [hq]
      · rw [Maps.has_put_other (kJ_ne e), h.has m]
  · exact ⟨q :: V, h.put hm ht hq, fun x => List.mem_cons⟩
theorem kJ_key {q : Nat} (hq : q ≤ 1000000) : keyOf Try.prog 3 (.int .i64 (q : Int)) = some (kJ q) := Maps.keyOf_int_mk Try.underlying3 (wf_j64 (by omega) (by omega))
theorem Ms.look {w : World} {mb n : Nat} {V : List Nat} (h : Ms w mb n V) {q : Nat} (hq : q ≤ 1000000) : (Instr.lookup 38 (.map (some mb)) (.int .i64 (q : Int)) false).run Try.prog w = .ok (.bool (decide (q ∈ V))) w := by
  obtain ⟨D, h1, h2⟩ := h
  obtain ⟨v, ps, hrun, hv⟩ := World.ownsMap.lookup h1 (Maps.int_keyed Try.underlying3) Try.underlying38 (by kernel_rfl) (plainElem_bool Try.underlying4 false) (kJ_key hq)
  rw [h2.at_ q] at hv
  have e : v = .bool (decide (q ∈ V)) := by
    unfold plainElem at hv
    rw [Try.underlying4] at hv
    cases v <;> simp at hv
    obtain ⟨h1, _⟩ := hv
    rw [h1]
  rw [← e]
  exact hrun
theorem wpList_lookS {w : World} {ops : Array Oper} {rest : List Oper} {o : Oper} {a : Act} {Q : Exit → Act → World → Prop} (hg : o.guard = none) (m x : Operand) (hop : o.op = Op.lookup 38 m x false) (mb n : Nat) (V : List Nat) (h : Ms w mb n V) (q : Nat) (hq : q ≤ 1000000) (hm : a.eval m = .map (some mb)) (hx : a.eval x = .int .i64 (q : Int)) (hK : wpList Try.prog ops Q rest (a.put o.dst (.bool (decide (q ∈ V)))) w) : wpList Try.prog ops Q (o :: rest) a w := by
  refine wpList_plain hg fun K' hK' => ?_
  have hrun := h.look hq
  unfold Oper.wp
  simp [execOp, hop, hm, hx, hrun, Result.andThen]
  exact hK' _ _ hK
theorem wpList_putS {w : World} {ops : Array Oper} {rest : List Oper} {o : Oper} {a : Act} {Q : Exit → Act → World → Prop} (hg : o.guard = none) (m x v : Operand) (hop : o.op = Op.mapUpdate 38 m x v) (mb n : Nat) (V : List Nat) (h : Ms w mb n V) (hn : n ≤ 100000000) (q : Nat) (hq : q ≤ 1000000) (hm : a.eval m = .map (some mb)) (hx : a.eval x = .int .i64 (q : Int)) (hv : a.eval v = .bool true)
    (hK : ∀ V' w', Ms w' mb (n + 1) V' → Hid (∀ x, x ∈ V' ↔ x = q ∨ x ∈ V) → w.grownBy w' (some mb) → wpList Try.prog ops Q rest (a.put o.dst undef) w') : wpList Try.prog ops Q (o :: rest) a w := by
  obtain ⟨D, h1, h2⟩ := h
  obtain ⟨V', hV', hmem⟩ := h2.put2 (World.ownsMap.isMap h1) (World.ownsMap.tidy h1 (Maps.int_keyed Try.underlying3)) q
  exact wpList_mapUpdate_own w hg m x v _ hop 3 4 (Maps.int_keyed Try.underlying3) Try.underlying38 _ mb n D hm h1 (by unfold maxLen; omega) _ _ (kJ q) hx hv (kJ_key hq) (.lit (.bool true)) [] (plainElem_bool Try.underlying4 true) fun w' r1 r2 => hK V' w' ⟨_, r1, hV'⟩ (Lib.hid hmem) r2
theorem cnL_mem {B : List Bool} {n : Nat} {x : Int} : x ∈ cnL B n ↔ ∃ m : Nat, x = (m : Int) ∧ m < n ∧ B.getD m false = true := by
  unfold cnL nI
  rw [List.mem_map]
  constructor
  · rintro ⟨m, hm, rfl⟩
    rw [List.mem_filter, List.mem_range] at hm
    exact ⟨m, rfl, hm.1, hm.2⟩
  · rintro ⟨m, rfl, h1, h2⟩
    exact ⟨m, by rw [List.mem_filter, List.mem_range]; exact ⟨h1, h2⟩, rfl⟩
/-- what was put in counts; and all Inputs are, and the cones of these. -/
structure Wc (N : List Nd) (F : Nat → Prop) (Y : List Int) (V : List Nat) : Prop where
  snd : ∀ x ∈ V, Rch N F x
  inp : ∀ x, x < N.length → (N.getD x nd0).k = 1 → x ∈ V
  cmp : ∀ y ∈ Y, ∀ x, Rch N (fun p => (p : Int) ∈ [y]) x → x ∈ V
theorem u8_bd11 {y : Int} (h : (Lit.int .u8 y).wf = true) : 0 ≤ y ∧ y < 256 := by
  have e1 : IntKind.u8.min = 0 := rfl
  have e2 : IntKind.u8.max = 255 := rfl
  simp [Lit.wf] at h
  omega
theorem rem11 (y : Int) (n : Nat) (h : (Lit.int .u8 y).wf = true) (hn : 0 < n) : ∃ p : Nat, (wrap64 y).tmod (n : Int) = (p : Int) ∧ p < n := by
  obtain ⟨h0, h1⟩ := u8_bd11 h
  have e : wrap64 y = y := by unfold wrap64; omega
  rw [e, Int.tmod_eq_emod_of_nonneg h0]
  have g0 := Int.emod_nonneg y (show (n : Int) ≠ 0 by omega)
  have g1 := Int.emod_lt_of_pos y (show (0 : Int) < (n : Int) by omega)
  exact ⟨(y % (n : Int)).toNat, by omega, by omega⟩
theorem rch_lt {N : List Nd} {F : Nat → Prop} (hF : ∀ p, F p → p < N.length) (hu : ∀ q, q < N.length → Plc N.length (usesS (N.getD q nd0))) {p : Nat} (h : Rch N F p) : p < N.length := h.closed hF fun q hq y hy => by
  obtain ⟨m, rfl, hm⟩ := hu q hq y hy
  rw [Int.toNat_natCast]
  exact hm
set_option maxRecDepth 20000 in
set_option maxHeartbeats 16000000 in
theorem sweepCones_as {An Ai Ao : Option Addr} {nn cn ni ci no co : Nat} {N : List Nd} {I O : List Pt} {w : World} (h : NetIn w An nn cn Ai ni ci Ao no co N I O) (k : Int) (hk8 : (Lit.int .u8 k).wf = true) :
    Calls Try.prog 9 #[.agg #[.slice An nn cn, .slice Ai ni ci, .slice Ao no co], .int .u8 k] w fun en w' => en = .returned (.bool true) ∧ Below w.heap.size w w' := by
  have HK8 := Lib.hid hk8
  clear hk8
  go_enter Try.func9, Try.ntmps9
  go_upto_region 1 with fail
  obtain ⟨w1, e_w1⟩ : ∃ w', w.alloc (.cells #[.slice An nn cn, .slice Ai ni ci, .slice Ao no co] 25) = w' := ⟨_, rfl⟩
  have z0 : Bx w1 w.heap.size [.slice An nn cn, .slice Ai ni ci, .slice Ao no co] := e_w1 ▸ Bx.made_k w rfl #[.slice An nn cn, .slice Ai ni ci, .slice Ao no co] 25
  have BW : Below w.heap.size w w1 := e_w1 ▸ below_lit _ _
  rw [e_w1]
  clear e_w1
  replace h := h.on BW
  go_wp2_with fail
  refine (awake11_any _).mono ?_
  rintro en w2 ⟨rfl, b⟩
  replace h := h.on b
  replace z0 := z0.on b
  replace BW := Below.step BW b
  clear b
  obtain ⟨v, hv⟩ : ∃ v, largeS nn ni no I O 60 = v := ⟨_, rfl⟩
  have HV := Lib.hid hv
  clear hv
  have c0 := z0.2 0 _ rfl; have c1 := z0.2 1 _ rfl; have c2 := z0.2 2 _ rfl
  go_wp2_with fail
  refine (h.large v HV.out).mono ?_
  rintro en w3 ⟨rfl, b⟩
  clear c0 c1 c2
  replace h := h.on b
  replace z0 := z0.on b
  replace BW := Below.step BW b
  clear b
  cases v
  case true =>
    go_wp2_with fail
    go_ret
    exact ⟨rfl, BW⟩
  have c0 := z0.2 0 _ rfl; have c1 := z0.2 1 _ rfl; have c2 := z0.2 2 _ rfl
  by_cases hn0 : nn = 0
  case pos =>
    subst hn0
    have e1 : (((0 : Nat) : Int) == 0) = true := by simp
    go_wp2_with fail
    go_ret
    exact ⟨rfl, BW⟩
  have e1 : ((nn : Int) == 0) = false := by simp; omega
  obtain ⟨hn, hn60, hi66, ho66, hbb⟩ := h.nt HV.out
  have HB4 : Hid (∀ p ∈ I ++ O, p.bits.length ≤ 4000) := Lib.hid fun p hp => (hbb p hp).1
  clear h hbb HV
  obtain ⟨d, e, hl⟩ : ∃ d e, levelS N I O = (d, e) := ⟨_, _, rfl⟩
  by_cases he : e = 0
  case neg =>
    have d0 : (e != 0) = true := by simpa using he
    have HL := Lib.hid hl
    have e2 : (e == e) = true := by simp
    clear hl he
    go_wp2_with fail
    refine (scount_no hn HL.out d0).mono ?_
    rintro en w4 ⟨rfl, b⟩
    clear c0 c1 c2
    replace hn := hn.on b
    replace z0 := z0.on b
    replace BW := Below.step BW b
    clear b
    have c0 := z0.2 0 _ rfl; have c1 := z0.2 1 _ rfl; have c2 := z0.2 2 _ rfl
    go_wp2_with fail
    refine (check_as hn HL.out).mono ?_
    rintro en w5 ⟨rfl, b⟩
    clear c0 c1 c2
    replace BW := Below.step BW b
    clear b
    go_wp2_with fail
    go_ret
    exact ⟨rfl, BW⟩
  subst he
  obtain ⟨dd, rfl⟩ := some_of9 hl
  obtain ⟨L, lx⟩ := lv_x hl
  have LX := Lib.hid lx
  have HLN := Lib.hid hn.n.1
  have HLO := Lib.hid hn.o.1
  clear hl lx
  go_wp2_with fail
  refine (scount_yes hn hi66 ho66 HB4.out LX.out).mono ?_
  rintro en w4 ⟨⟨g, B, rfl, hct, _⟩, b⟩
  clear c0 c1 c2
  replace hn := hn.on b
  replace z0 := z0.on b
  replace BW := Below.step BW b
  have zb : Bx w4 g (B.map .bool) := ⟨hct.1.lt, fun i u hu => (hct.1.cell i).trans hu⟩
  have hlb := hct.2.1
  have HRB := Lib.hid hct.2.2
  clear b hct
  have e2 : ((nn : Int) != (nn : Int)) = false := by simp
  have c0 := z0.2 0 _ rfl
  have hmm := @run_makeMap Try.prog
  go_upto_region 9 with fail
  clear hmm e1 e2
  obtain ⟨w5, e_w5⟩ : ∃ w', w4.alloc (.map #[] 0) = w' := ⟨_, rfl⟩
  have b : Below w4.heap.size w4 w5 := e_w5 ▸ below_lit _ _
  obtain ⟨mb, hmb⟩ : ∃ mb, w4.heap.size = mb := ⟨_, rfl⟩
  have hM : MapS w5 mb 0 (.map []) := by rw [← hmb]; exact e_w5 ▸ World.ownsMap_made w4 Try.prog 3 _
  have hmb1 : w4.heap.size ≤ mb := Nat.le_of_eq hmb
  have HMS : Hid (Ms w5 mb 0 []) := Lib.hid ⟨_, hM, Se.start⟩
  rw [e_w5, hmb]
  clear e_w5 hmb hM
  have HB5 := Lib.hid b
  clear b c0
  have c0 := (z0.on HB5.out).2 0 _ rfl
  go_wp2_with fail
  clear c0
  go_loopw [68] (fun iv wr => ∃ (i n : Nat) (V : List Nat), i ≤ nn ∧ iv = .int .i64 i ∧ n ≤ i ∧ Hid (Ms wr mb n V) ∧ Hid (∀ x, x ∈ V ↔ x < i ∧ (N.getD x nd0).k = 1) ∧ Hid (Below w4.heap.size w4 wr)) (fun iv _ => nn - (intOf iv).toNat)
  case atStart => exact ⟨0, 0, [], Nat.zero_le _, rfl, Nat.le_refl _, HMS, Lib.hid (fun x => by simp), HB5⟩
  case round =>
    clear HMS HB5
    obtain ⟨i, n, V, hi, rfl, hni, HMS, HV, HBR⟩ := hrel
    by_cases hlt : i < nn
    · have hi1 : (i : Int) < (nn : Int) := by omega
      have hi0 : (0 : Int) ≤ (i : Int) := by omega
      obtain ⟨bn, off, x1, x2, x3, x4, eA, HX, hA⟩ := (hn.n.on HBR.out).nat hlt
      subst eA
      have HNX : Hid (N.getD i nd0 = ⟨x1, x2, x3, x4⟩) := Lib.hid (getD_of HX.out)
      have d1 := hA.c1; have d2 := hA.c2; have d3 := hA.c3; have d4 := hA.c4
      go_upto_region 12 with fail
      obtain ⟨w9, e_w9⟩ : ∃ w', wr.alloc (.cells #[.int .i64 x1, .int .i64 x2, .int .i64 x3, .int .i64 x4] 43) = w' := ⟨_, rfl⟩
      have z9 : Bx w9 wr.heap.size [.int .i64 x1, .int .i64 x2, .int .i64 x3, .int .i64 x4] := e_w9 ▸ Bx.made_k wr rfl #[.int .i64 x1, .int .i64 x2, .int .i64 x3, .int .i64 x4] 43
      have b9 : Below wr.heap.size wr w9 := e_w9 ▸ below_lit _ _
      rw [e_w9]
      have HM9 := Lib.hid (HMS.out.below b9)
      have HB9 := Lib.hid (Below.step HBR.out b9)
      clear e_w9 b9 d1 d2 d3 d4 hA HMS HBR
      obtain ⟨s9, hs9⟩ : ∃ s9, wr.heap.size = s9 := ⟨_, rfl⟩
      rw [hs9] at z9 ⊢
      clear hs9
      have c0 := z9.2 0 _ rfl
      by_cases h1 : x1 = 1
      · have f1 : (x1 == 1) = true := by simpa using h1
        have hM := HM9.out
        clear h1
        go_wp2_with (at_mapUpdate; refine wpList_putS rfl _ _ _ rfl mb n V hM (by omega) i (by omega) rfl rfl rfl ?_; intro V5 w11 hM5 hV5 hG5)
        have HM11 := Lib.hid hM5
        have HV11 : Hid (∀ x, x ∈ V5 ↔ x < i + 1 ∧ (N.getD x nd0).k = 1) := Lib.hid fun x => by
          rw [hV5.out, HV.out]
          constructor
          · rintro (rfl | ⟨a, b⟩)
            · exact ⟨by omega, by rw [HNX.out]; simpa using f1⟩
            · exact ⟨by omega, b⟩
          · rintro ⟨a, b⟩
            by_cases e : x = i
            · exact .inl e
            · exact .inr ⟨by omega, b⟩
        have HB11 := Lib.hid (HB9.out.grown hG5 HB9.out.size (fun k hk => by injection hk with hk; omega))
        clear hM hM5 hV5 hG5 c0 HM9 HB9 f1
        go_roundw
        case rel => exact ⟨i + 1, n + 1, V5, by omega, by go_num, by omega, HM11, HV11, HB11⟩
        case measure => simp [intOf]; omega
      · have f1 : (x1 == 1) = false := by simpa using h1
        have HV11 : Hid (∀ x, x ∈ V ↔ x < i + 1 ∧ (N.getD x nd0).k = 1) := Lib.hid fun x => by
          rw [HV.out]
          constructor
          · rintro ⟨a, b⟩
            exact ⟨by omega, b⟩
          · rintro ⟨a, b⟩
            refine ⟨?_, b⟩
            by_cases e : x = i
            · subst e
              rw [HNX.out] at b
              exact absurd b h1
            · omega
        clear h1
        go_wp2_with fail
        go_roundw
        case rel => exact ⟨i + 1, n, V, by omega, by go_num, by omega, HM9, HV11, HB9⟩
        case measure => simp [intOf]; omega
    · obtain rfl : i = nn := by omega
      have hi1 : ¬ (i : Int) < (i : Int) := by omega
      have HU : Hid (∀ q, q < N.length → Plc N.length (usesS (N.getD q nd0))) := Lib.hid (plc_uses LX.out.fm rfl)
      have HWC : Hid (Wc N (fun p => (p : Int) ∈ comesS I ++ comesS O) (comesS (O.take 0)) V) := Lib.hid ⟨fun x hx => .base (List.mem_append_left _ ((fed_in LX.out (by rw [HLN.out]; exact ((HV.out x).1 hx).1)).1 ((HV.out x).1 hx).2)), fun x hx hk => (HV.out x).2 ⟨by rw [← HLN.out]; exact hx, hk⟩, fun y hy => by cases hy⟩
      have c2 := (z0.on HBR.out).2 2 _ rfl
      go_wp2_with fail
      clear c2
      go_loopw [82] (fun jv wr => ∃ (j n : Nat) (V : List Nat), j ≤ no ∧ jv = .int .i64 j ∧ n ≤ 60 + j * 240000 ∧ Hid (Ms wr mb n V) ∧ Hid (Wc N (fun p => (p : Int) ∈ comesS I ++ comesS O) (comesS (O.take j)) V) ∧ Hid (Below w4.heap.size w4 wr)) (fun jv _ => no - (intOf jv).toNat)
      case atStart => exact ⟨0, n, V, Nat.zero_le _, rfl, by omega, HMS, HWC, HBR⟩
      case round =>
        clear HMS HWC HBR HV hni
        obtain ⟨j, n, V, hj, rfl, hnj, HMS, HWC, HBR⟩ := hrel
        by_cases hjn : j < no
        · have hj1 : (j : Int) < (no : Int) := by omega
          have hj0 : (0 : Int) ≤ (j : Int) := by omega
          obtain ⟨⟨nm, bs⟩, hp⟩ := look_ex HLO.out hjn
          obtain ⟨b0, off, A', m', c', eA, h2, k1, k2, h5, h6, hbs⟩ := hn.o.2 j ⟨nm, bs⟩ hp
          dsimp only at k1 k2 hbs
          have HIB := Lib.hid hbs
          have k1 := (HBR.out.cell (p := ⟨b0, off + j * 2, none⟩) h2).trans k1
          have k2 := (HBR.out.cell (p := ⟨b0, off + j * 2 + 1, none⟩) h2).trans k2
          subst eA
          have HPN : Hid (comesS (O.take (j + 1)) = comesS (O.take j) ++ bs) := Lib.hid (by
            rw [List.take_add_one, hp]
            unfold comesS
            rw [List.flatMap_append]
            simp)
          have HBP : Hid (Plc i bs ∧ ∀ y ∈ bs, y ∈ comesS O) := Lib.hid (by
            have hin : ∀ y ∈ bs, y ∈ comesS O := fun y hy => List.mem_flatMap.2 ⟨_, List.mem_of_getElem? hp, hy⟩
            refine ⟨fun y hy => ?_, hin⟩
            have := lx_plc LX.out y (List.mem_append_right _ (hin y hy))
            rw [HLN.out] at this
            exact this)
          have hm4 : m' ≤ 4000 := by rw [← hbs.1]; exact HB4.out _ (List.mem_append_right _ (List.mem_of_getElem? hp))
          go_upto_region 18 with fail
          obtain ⟨w9, e_w9⟩ : ∃ w', wr.alloc (.cells #[.string nm, .slice A' m' c'] 41) = w' := ⟨_, rfl⟩
          have z9 : Bx w9 wr.heap.size [.string nm, .slice A' m' c'] := e_w9 ▸ Bx.made_k wr rfl #[.string nm, .slice A' m' c'] 41
          have b9 : Below wr.heap.size wr w9 := e_w9 ▸ below_lit _ _
          rw [e_w9]
          have HM9 := Lib.hid (HMS.out.below b9)
          have HB9 := Lib.hid (Below.step HBR.out b9)
          clear e_w9 b9 k1 k2 h2 hp hbs HMS HBR
          obtain ⟨s9, hs9⟩ : ∃ s9, wr.heap.size = s9 := ⟨_, rfl⟩
          rw [hs9] at z9 ⊢
          clear hs9
          have c1 := z9.2 1 _ rfl
          go_wp2_with fail
          clear c1 z9
          have HWC0 : Hid (Wc N (fun p => (p : Int) ∈ comesS I ++ comesS O) (comesS (O.take j) ++ bs.take 0) V) := Lib.hid (by rw [List.take_zero, List.append_nil]; exact HWC.out)
          go_loopw [89] (fun kv wr => ∃ (k n : Nat) (V : List Nat), k ≤ m' ∧ kv = .int .i64 k ∧ n ≤ 60 + j * 240000 + k * 60 ∧ Hid (Ms wr mb n V) ∧ Hid (Wc N (fun p => (p : Int) ∈ comesS I ++ comesS O) (comesS (O.take j) ++ bs.take k) V) ∧ Hid (Below w4.heap.size w4 wr)) (fun kv _ => m' - (intOf kv).toNat)
          case atStart => exact ⟨0, n, V, Nat.zero_le _, rfl, by omega, HM9, HWC0, HB9⟩
          case round =>
            clear HM9 HWC0 HB9 HWC hnj
            obtain ⟨k, n, V, hk, rfl, hnk, HMS, HWC, HBR⟩ := hrel
            by_cases hkm : k < m'
            · have hk1 : (k : Int) < (m' : Int) := by omega
              have hk0 : (0 : Int) ≤ (k : Int) := by omega
              obtain ⟨b3, o3, eY, iY⟩ := (HIB.out.on HBR.out).iat hkm
              subst eY
              have hkl : k < bs.length := by rw [HIB.out.1]; exact hkm
              obtain ⟨m, hmy, hmn⟩ := HBP.out.1 (bs.getD k 0) (igetD_mem hkl)
              have HMO : Hid ((m : Int) ∈ comesS O) := Lib.hid (by rw [← hmy]; exact HBP.out.2 _ (igetD_mem hkl))
              have HSN : Hid (bs.take (k + 1) = bs.take k ++ [(m : Int)]) := Lib.hid (by
                rw [List.take_add_one, List.getElem?_eq_getElem hkl, ← hmy, List.getD_eq_getElem?_getD, List.getElem?_eq_getElem hkl]
                rfl)
              rw [hmy] at iY
              have cy := iY.2
              have z6 := z0.on HBR.out
              have c0 := z6.2 0 _ rfl; have c1 := z6.2 1 _ rfl; have c2 := z6.2 2 _ rfl
              clear hmy z6
              go_wp2_with fail
              refine (scone_yes (hn.on HBR.out) LX.out (k := m) hmn).mono ?_
              rintro en w6 ⟨⟨Ac, mc, cc, Bc, rfl, hrow, hic, _, hlc, hrc⟩, b⟩
              clear c0 c1 c2 cy iY
              have HM6 := Lib.hid (HMS.out.below b)
              have HB6 := Lib.hid (Below.step HBR.out b)
              have hwr4 : w4.heap.size ≤ wr.heap.size := HBR.out.size
              have HROW := Lib.hid (row_low hrow hwr4)
              have HLC : Hid ((cnL Bc i).length = mc ∧ ∀ x ∈ cnL Bc i, ∃ q : Nat, x = (q : Int) ∧ q < i ∧ Rch N (fun p => (p : Int) ∈ [(m : Int)]) q) := Lib.hid ⟨hic.1, fun x hx => by
                obtain ⟨q, e, h1, h2⟩ := cnL_mem.1 hx
                exact ⟨q, e, h1, (hrc q).1 h2⟩⟩
              have HCV : Hid (∀ x, Rch N (fun p => (p : Int) ∈ [(m : Int)]) x → (x : Int) ∈ cnL Bc i) := Lib.hid fun x hx => cnL_mem.2 ⟨x, rfl, by
                have := rch_lt (fun p hp => by
                  have : (p : Int) = (m : Int) := by simpa using hp
                  rw [HLN.out]
                  omega) HU.out hx
                rw [HLN.out] at this
                exact this, (hrc x).2 hx⟩
              have hmc : mc ≤ 60 := by rw [← hic.1]; exact Nat.le_trans (cnL_len Bc i) hn60
              have HV6 : Hid (∀ x : Nat, x ∈ V ↔ x ∈ V ∨ (x : Int) ∈ (cnL Bc i).take 0) := Lib.hid fun x => by simp
              obtain ⟨Lc, hLc⟩ : ∃ Lc, cnL Bc i = Lc := ⟨_, rfl⟩
              rw [hLc] at HROW HLC HCV HV6
              clear hLc hrow hic hlc hrc b HMS HBR
              go_wp2_with fail
              go_loopw [101] (fun lv wr => ∃ (l n2 : Nat) (V2 : List Nat), l ≤ mc ∧ lv = .int .i64 l ∧ n2 ≤ n + l ∧ Hid (Ms wr mb n2 V2) ∧ Hid (∀ x : Nat, x ∈ V2 ↔ x ∈ V ∨ (x : Int) ∈ Lc.take l) ∧ Hid (Below w4.heap.size w4 wr) ∧ Hid (wr.ownsRow w4.heap.size 3 1 (.slice Ac mc cc) mc (Lc.flatMap inC))) (fun lv _ => mc - (intOf lv).toNat)
              case atStart => exact ⟨0, n, V, Nat.zero_le _, rfl, by omega, HM6, HV6, HB6, HROW⟩
              case round =>
                clear HM6 HV6 HB6 HROW
                obtain ⟨l, n2, V2, hl, rfl, hn2, HMS, HV2, HBR, HROW⟩ := hrel
                by_cases hlm : l < mc
                · have hl1 : (l : Int) < (mc : Int) := by omega
                  have hl0 : (0 : Int) ≤ (l : Int) := by omega
                  obtain ⟨A9, c9, e9, _, hoff, hi9⟩ := row_is HROW.out
                  injection e9 with e91 e92 e93
                  subst e91 e93
                  obtain ⟨b5, o5, e5, iq⟩ := hi9.iat hlm
                  obtain rfl : o5 = 0 := (hoff _ _ e5).2
                  subst e5
                  rw [Nat.zero_add] at iq
                  have hll : l < Lc.length := by rw [HLC.out.1]; exact hlm
                  obtain ⟨q, hqy, hqn, _⟩ := HLC.out.2 (Lc.getD l 0) (igetD_mem hll)
                  have HSL : Hid (Lc.take (l + 1) = Lc.take l ++ [(q : Int)]) := Lib.hid (by
                    rw [List.take_add_one, List.getElem?_eq_getElem hll, ← hqy, List.getD_eq_getElem?_getD, List.getElem?_eq_getElem hll]
                    rfl)
                  rw [hqy] at iq
                  have cq := iq.2
                  have hM := HMS.out
                  have hn3 : n2 ≤ 100000000 := by omega
                  have hq6 : q ≤ 1000000 := by omega
                  clear hqy iq hoff hi9
                  go_upto_region 25 with fail
                  go_wp2_with (at_mapUpdate; refine wpList_putS rfl _ _ _ rfl mb n2 V2 hM hn3 q hq6 rfl rfl rfl ?_; intro V5 w11 hM5 hV5 hG5)
                  have HM11 := Lib.hid hM5
                  have HV11 : Hid (∀ x : Nat, x ∈ V5 ↔ x ∈ V ∨ (x : Int) ∈ Lc.take (l + 1)) := Lib.hid fun x => by
                    rw [hV5.out, HV2.out, HSL.out, List.mem_append, List.mem_singleton]
                    constructor
                    · rintro (rfl | h | h)
                      · exact .inr (.inr rfl)
                      · exact .inl h
                      · exact .inr (.inl h)
                    · rintro (h | h | h)
                      · exact .inr (.inl h)
                      · exact .inr (.inr h)
                      · exact .inl (by omega)
                  have HB11 := Lib.hid (HBR.out.grown hG5 HBR.out.size (fun k hk => by injection hk with hk; omega))
                  have HR11 := Lib.hid (HROW.out.kept hG5 (.inr fun e => by
                    obtain ⟨D, h1, _⟩ := hM
                    exact map_ne HROW.out h1 e.symm))
                  clear hM hM5 hV5 hG5 cq HMS HBR HROW
                  go_roundw
                  case rel => exact ⟨l + 1, n2 + 1, V5, by omega, by go_num, by omega, HM11, HV11, HB11, HR11⟩
                  case measure => simp [intOf]; omega
                · obtain rfl : l = mc := by omega
                  have hl1 : ¬ (l : Int) < (l : Int) := by omega
                  have HWC2 : Hid (Wc N (fun p => (p : Int) ∈ comesS I ++ comesS O) (comesS (O.take j) ++ bs.take (k + 1)) V2) := Lib.hid (by
                    have hv : ∀ x : Nat, x ∈ V2 ↔ x ∈ V ∨ (x : Int) ∈ Lc := fun x => by
                      have := HV2.out x
                      rw [List.take_of_length_le (by rw [HLC.out.1]; exact Nat.le_refl _)] at this
                      exact this
                    refine ⟨fun x hx => ?_, fun x hx hk => (hv x).2 (.inl (HWC.out.inp x hx hk)), fun y hy x hx => ?_⟩
                    · rcases (hv x).1 hx with h | h
                      · exact HWC.out.snd x h
                      · obtain ⟨q, e, _, hr⟩ := HLC.out.2 _ h
                        obtain rfl : x = q := by omega
                        refine hr.mono fun p hp => ?_
                        have : (p : Int) = (m : Int) := by simpa using hp
                        rw [this]
                        exact List.mem_append_right _ HMO.out
                    · rw [HSN.out, ← List.append_assoc] at hy
                      rcases List.mem_append.1 hy with hy | hy
                      · exact (hv x).2 (.inl (HWC.out.cmp y hy x hx))
                      · rw [List.mem_singleton.1 hy] at hx
                        exact (hv x).2 (.inr (HCV.out x hx)))
                  go_wp2_with fail
                  go_roundw
                  case rel => exact ⟨k + 1, n2, V2, by omega, by go_num, by omega, HMS, HWC2, HBR⟩
                  case measure => simp [intOf]; omega
            · obtain rfl : k = m' := by omega
              have hk1 : ¬ (k : Int) < (k : Int) := by omega
              have HWC2 : Hid (Wc N (fun p => (p : Int) ∈ comesS I ++ comesS O) (comesS (O.take (j + 1))) V) := Lib.hid (by
                have := HWC.out
                have eb : bs.take k = bs := List.take_of_length_le (by rw [HIB.out.1]; exact Nat.le_refl _)
                rw [eb, ← HPN.out] at this
                exact this)
              go_wp2_with fail
              go_roundw
              case rel => exact ⟨j + 1, n, V, by omega, by go_num, by omega, HMS, HWC2, HBR⟩
              case measure => simp [intOf]; omega
        · obtain rfl : j = no := by omega
          have hj1 : ¬ (j : Int) < (j : Int) := by omega
          have HBV : Hid (∀ x, x < i → B.getD x false = decide (x ∈ V)) := Lib.hid fun x hx => by
            have hw := HWC.out
            have eo : O.take j = O := List.take_of_length_le (by rw [HLO.out]; exact Nat.le_refl _)
            rw [eo] at hw
            have key : B.getD x false = true ↔ x ∈ V := by
              rw [HRB.out]
              constructor
              · intro hr
                obtain ⟨q, hq, hr⟩ := hr.one
                rcases List.mem_append.1 hq with hq | hq
                · have hqn : q < N.length := by
                    obtain ⟨m, e, hm⟩ := lx_plc LX.out _ (List.mem_append_left _ hq)
                    omega
                  have hk1 := (fed_in LX.out hqn).2 hq
                  have e : x = q := hr.closed (G := fun p => p = q) (fun p hp => hp) fun p hp y hy => by
                    rw [hp, uses_none (.inr hk1)] at hy
                    cases hy
                  rw [e]
                  exact hw.inp q hqn hk1
                · exact hw.cmp _ hq x (hr.mono fun p hp => by simp [hp])
              · exact hw.snd x
            by_cases hv : x ∈ V
            · rw [key.2 hv, decide_eq_true hv]
            · rw [decide_eq_false hv]
              cases hb : B.getD x false
              · rfl
              · exact absurd (key.1 hb) hv
          have hnb : n ≤ 60 + j * 240000 := hnj
          clear HWC hnj
          go_wp2_with fail
          go_loopw [112] (fun iv wr => ∃ i2 : Nat, i2 ≤ i ∧ iv = .int .i64 i2 ∧ Hid (Ms wr mb n V) ∧ Hid (Below w4.heap.size w4 wr)) (fun iv _ => i - (intOf iv).toNat)
          case atStart => exact ⟨0, Nat.zero_le _, rfl, HMS, HBR⟩
          case round =>
            clear HMS HBR
            obtain ⟨i2, hi2, rfl, HMS, HBR⟩ := hrel
            by_cases hlt : i2 < i
            · have hl1 : (i2 : Int) < (i : Int) := by omega
              have hl0 : (0 : Int) ≤ (i2 : Int) := by omega
              obtain ⟨u, hu⟩ : ∃ u, (B.map Value.bool)[i2]? = some (.bool u) := ⟨B[i2], by rw [List.getElem?_map, List.getElem?_eq_getElem (by omega)]; rfl⟩
              have hd : decide (i2 ∈ V) = u := by
                rw [← HBV.out i2 hlt, List.getD_eq_getElem?_getD]
                rw [List.getElem?_map] at hu
                cases hb : B[i2]? with
                | none => rw [hb] at hu; cases hu
                | some v => rw [hb] at hu; injection hu with hu; injection hu
              have HUU := Lib.hid hu
              have HD := Lib.hid hd
              clear hu hd
              go_upto_region 32 with fail
              refine LexG.region_plan LexG.below_ok 0 [0, 1, 2, 3, 4, 5, 6, 7] (by kernel_rfl) (by kernel_rfl) (by kernel_rfl) (by kernel_rfl) (by kernel_rfl) ?_
              dsimp only [LexG.pick, LexG.nth]
              have bd : Below wr.heap.size wr wr.drew := (Below.refl _ _).drew
              have hM7 := HMS.out.below bd
              have hB7 := Below.step HBR.out bd
              obtain ⟨w7, e7⟩ : ∃ w', wr.drew = w' := ⟨_, rfl⟩
              rw [e7] at hM7 hB7 ⊢
              clear e7 bd HMS HBR
              have hzb := zb.on hB7
              have lf1 := fun s : LexG.Wd (fun w w' => Below w.heap.size w w') w7 => (hzb.on s.rel).2 i2 _ HUU.out
              refine LexG.lex_plain 6 (by kernel_rfl) ?_
              dsimp only [List.take, List.drop]
              repeat go_big_quiet_step (fail)
              refine wpQuiet_nil ?_
              clear lf1 hzb
              have hrun := hM7.look (q := i2) (by omega)
              rw [HD.out] at hrun
              refine LexG.lex_call (by kernel_rfl) (by kernel_rfl) (fun K hK => ?_)
              go_simp
              clear hrun
              refine hK _ _ (Below.refl _ _) ?_
              clear hK K
              have e2 : (u != u) = false := by simp
              refine LexG.lex_plain 1 (by kernel_rfl) ?_
              dsimp only [List.take, List.drop]
              repeat go_big_quiet_step (fail)
              refine wpQuiet_nil ?_
              refine LexG.lex_nil ?_
              dsimp only [NoPanic]
              have HM7 := Lib.hid hM7
              have HB7 := Lib.hid hB7
              clear hM7 hB7
              go_wp2_with fail
              go_roundw
              case rel => exact ⟨i2 + 1, by omega, by go_num, HM7, HB7⟩
              case measure => simp [intOf]; omega
            · obtain rfl : i2 = i := by omega
              have hl1 : ¬ (i2 : Int) < (i2 : Int) := by omega
              obtain ⟨q, hq, hqn⟩ := rem11 k i2 HK8.out (by omega)
              have hnz : (i2 : Int) ≠ 0 := by omega
              replace hn := hn.on HBR.out
              replace z0 := z0.on HBR.out
              replace BW := Below.step BW HBR.out
              clear HMS HBV HBR hnb zb hmb1
              have c0 := z0.2 0 _ rfl; have c1 := z0.2 1 _ rfl; have c2 := z0.2 2 _ rfl
              go_wp2_with fail
              refine (scone_yes hn LX.out (k := q) hqn).mono ?_
              rintro en w6 ⟨⟨Ac, mc, cc, Bc, rfl, _, hic, _, hlc, hrc⟩, b⟩
              clear c0 c1 c2 hq
              replace hn := hn.on b
              replace z0 := z0.on b
              replace BW := Below.step BW b
              clear b
              have hmc : mc ≤ 60 := by rw [← hic.1]; exact Nat.le_trans (cnL_len Bc i2) hn60
              have hlt : ∀ x, Rch N (fun p => (p : Int) ∈ [(q : Int)]) x → x < i2 := fun x hx => by
                have := rch_lt (fun p hp => by
                  have : (p : Int) = (q : Int) := by simpa using hp
                  rw [HLN.out]
                  omega) HU.out hx
                rw [HLN.out] at this
                exact this
              have HCV : Hid (∀ x : Nat, (x : Int) ∈ cnL Bc i2 ↔ Rch N (fun p => (p : Int) ∈ [(q : Int)]) x) := Lib.hid fun x => by
                rw [cnL_mem]
                constructor
                · rintro ⟨m, e, _, h2⟩
                  obtain rfl : x = m := by omega
                  exact (hrc x).1 h2
                · intro h
                  exact ⟨x, rfl, hlt x h, (hrc x).2 h⟩
              have HLC : Hid ((cnL Bc i2).length = mc ∧ ∀ x ∈ cnL Bc i2, ∃ m : Nat, x = (m : Int) ∧ m < i2) := Lib.hid ⟨hic.1, fun x hx => by
                obtain ⟨m, e, h1, _⟩ := cnL_mem.1 hx
                exact ⟨m, e, h1⟩⟩
              obtain ⟨Lc, hLc⟩ : ∃ Lc, cnL Bc i2 = Lc := ⟨_, rfl⟩
              rw [hLc] at hic HCV HLC
              clear hLc hlc hrc hlt
              have hmm := @run_makeMap Try.prog
              go_upto_region 38 with fail
              clear hmm
              obtain ⟨w7, e_w7⟩ : ∃ w', w6.alloc (.map #[] 0) = w' := ⟨_, rfl⟩
              have b : Below w6.heap.size w6 w7 := e_w7 ▸ below_lit _ _
              obtain ⟨mb2, hmb⟩ : ∃ mb, w6.heap.size = mb := ⟨_, rfl⟩
              have hM : MapS w7 mb2 0 (.map []) := by rw [← hmb]; exact e_w7 ▸ World.ownsMap_made w6 Try.prog 3 _
              have hmb2 : w6.heap.size ≤ mb2 := Nat.le_of_eq hmb
              have HMS : Hid (Ms w7 mb2 0 []) := Lib.hid ⟨_, hM, Se.start⟩
              rw [e_w7, hmb]
              clear e_w7 hmb hM
              have HB7 := Lib.hid b
              clear b
              go_wp2_with fail
              go_loopw [139] (fun lv wr => ∃ (l n2 : Nat) (V2 : List Nat), l ≤ mc ∧ lv = .int .i64 l ∧ n2 ≤ l ∧ Hid (Ms wr mb2 n2 V2) ∧ Hid (∀ x : Nat, x ∈ V2 ↔ (x : Int) ∈ Lc.take l) ∧ Hid (Below w6.heap.size w6 wr)) (fun lv _ => mc - (intOf lv).toNat)
              case atStart => exact ⟨0, 0, [], Nat.zero_le _, rfl, Nat.le_refl _, HMS, Lib.hid (fun x => by simp), HB7⟩
              case round =>
                clear HMS HB7
                obtain ⟨l, n2, V2, hl, rfl, hn2, HMS, HV2, HBR⟩ := hrel
                by_cases hlm : l < mc
                · have hl1 : (l : Int) < (mc : Int) := by omega
                  have hl0 : (0 : Int) ≤ (l : Int) := by omega
                  obtain ⟨b5, o5, e5, iq⟩ := (hic.on HBR.out).iat hlm
                  subst e5
                  have hll : l < Lc.length := by rw [HLC.out.1]; exact hlm
                  obtain ⟨m, hmy, hmn⟩ := HLC.out.2 (Lc.getD l 0) (igetD_mem hll)
                  have HSL : Hid (Lc.take (l + 1) = Lc.take l ++ [(m : Int)]) := Lib.hid (by
                    rw [List.take_add_one, List.getElem?_eq_getElem hll, ← hmy, List.getD_eq_getElem?_getD, List.getElem?_eq_getElem hll]
                    rfl)
                  rw [hmy] at iq
                  have cq := iq.2
                  have hM := HMS.out
                  have hn3 : n2 ≤ 100000000 := by omega
                  have hq6 : m ≤ 1000000 := by omega
                  clear hmy iq
                  go_upto_region 41 with fail
                  go_wp2_with (at_mapUpdate; refine wpList_putS rfl _ _ _ rfl mb2 n2 V2 hM hn3 m hq6 rfl rfl rfl ?_; intro V5 w11 hM5 hV5 hG5)
                  have HM11 := Lib.hid hM5
                  have HV11 : Hid (∀ x : Nat, x ∈ V5 ↔ (x : Int) ∈ Lc.take (l + 1)) := Lib.hid fun x => by
                    rw [hV5.out, HV2.out, HSL.out, List.mem_append, List.mem_singleton]
                    constructor
                    · rintro (rfl | h)
                      · exact .inr rfl
                      · exact .inl h
                    · rintro (h | h)
                      · exact .inr h
                      · exact .inl (by omega)
                  have HB11 := Lib.hid (HBR.out.grown hG5 HBR.out.size (fun k hk => by injection hk with hk; omega))
                  clear hM hM5 hV5 hG5 cq HMS HBR
                  go_roundw
                  case rel => exact ⟨l + 1, n2 + 1, V5, by omega, by go_num, by omega, HM11, HV11, HB11⟩
                  case measure => simp [intOf]; omega
                · obtain rfl : l = mc := by omega
                  have hl1 : ¬ (l : Int) < (l : Int) := by omega
                  have HV3 : Hid (∀ x : Nat, x ∈ V2 ↔ Rch N (fun p => (p : Int) ∈ [(q : Int)]) x) := Lib.hid fun x => by
                    rw [← HCV.out x]
                    have := HV2.out x
                    rw [List.take_of_length_le (by rw [HLC.out.1]; exact Nat.le_refl _)] at this
                    exact this
                  go_wp2_with fail
                  go_loopw [148] (fun lv wr => ∃ l2 : Nat, l2 ≤ l ∧ lv = .int .i64 l2 ∧ Hid (Ms wr mb2 n2 V2) ∧ Hid (Below w6.heap.size w6 wr)) (fun lv _ => l - (intOf lv).toNat)
                  case atStart => exact ⟨0, Nat.zero_le _, rfl, HMS, HBR⟩
                  case round =>
                    clear HMS HBR HV2
                    obtain ⟨l2, hl2, rfl, HMS, HBR⟩ := hrel
                    by_cases hlm : l2 < l
                    · have hm1 : (l2 : Int) < (l : Int) := by omega
                      have hm0 : (0 : Int) ≤ (l2 : Int) := by omega
                      obtain ⟨b5, o5, e5, iq⟩ := (hic.on HBR.out).iat hlm
                      subst e5
                      have hll : l2 < Lc.length := by rw [HLC.out.1]; exact hlm
                      obtain ⟨m, hmy, hmn⟩ := HLC.out.2 (Lc.getD l2 0) (igetD_mem hll)
                      have HMR : Hid (Rch N (fun p => (p : Int) ∈ [(q : Int)]) m) := Lib.hid ((HCV.out m).1 (by rw [← hmy]; exact igetD_mem hll))
                      rw [hmy] at iq
                      have cq := iq.2
                      have z6 := z0.on HBR.out
                      have c0 := z6.2 0 _ rfl; have c1 := z6.2 1 _ rfl; have c2 := z6.2 2 _ rfl
                      clear hmy iq z6
                      go_wp2_with fail
                      refine (scone_yes (hn.on HBR.out) LX.out (k := m) hmn).mono ?_
                      rintro en w9 ⟨⟨Ad, md, cd, Bq, rfl, _, hid, _, hld, hrd⟩, b⟩
                      clear c0 c1 c2 cq
                      have hM9 := HMS.out.below b
                      have HB9 := Lib.hid (Below.step HBR.out b)
                      have hmd : md ≤ 60 := by rw [← hid.1]; exact Nat.le_trans (cnL_len Bq i2) hn60
                      have HLD : Hid ((cnL Bq i2).length = md ∧ ∀ x ∈ cnL Bq i2, ∃ p : Nat, x = (p : Int) ∧ p < i2 ∧ p ∈ V2) := Lib.hid ⟨hid.1, fun x hx => by
                        obtain ⟨p, e, h1, h2⟩ := cnL_mem.1 hx
                        refine ⟨p, e, h1, (HV3.out p).2 (((hrd p).1 h2).trans fun r hr => ?_)⟩
                        have : (r : Int) = (m : Int) := by simpa using hr
                        obtain rfl : r = m := by omega
                        exact HMR.out⟩
                      have HID := Lib.hid hid
                      have HM9 := Lib.hid hM9
                      clear hid hld hrd b HMS HBR hM9
                      go_wp2_with fail
                      go_loopw [162] (fun lv wr => ∃ l3 : Nat, l3 ≤ md ∧ lv = .int .i64 l3 ∧ wr = w9) (fun lv _ => md - (intOf lv).toNat)
                      case atStart => exact ⟨0, Nat.zero_le _, rfl, rfl⟩
                      case round =>
                        obtain ⟨l3, hl3, rfl, rfl⟩ := hrel
                        by_cases hl4 : l3 < md
                        · have hn1 : (l3 : Int) < (md : Int) := by omega
                          have hn0 : (0 : Int) ≤ (l3 : Int) := by omega
                          obtain ⟨b5, o5, e5, iq⟩ := HID.out.iat hl4
                          subst e5
                          have hll : l3 < (cnL Bq i2).length := by rw [HLD.out.1]; exact hl4
                          obtain ⟨p, hpy, hpn, hpv⟩ := HLD.out.2 ((cnL Bq i2).getD l3 0) (igetD_mem hll)
                          rw [hpy] at iq
                          have cq := iq.2
                          have hdt : decide (p ∈ V2) = true := decide_eq_true hpv
                          have hM := HM9.out
                          have hp6 : p ≤ 1000000 := by omega
                          clear hpy iq hpv
                          go_upto_region 52 with fail
                          go_wp2_with (at_lookup; refine wpList_lookS rfl _ _ rfl mb2 n2 V2 hM p hp6 rfl rfl ?_; rw [hdt]; dsimp only [Act.put]; simp only [List.setIfInBounds_toArray, List.set_cons_succ, List.set_cons_zero])
                          go_roundw
                          case rel => exact ⟨l3 + 1, by omega, by go_num, by trivial⟩
                          case measure => simp [intOf]; omega
                        · obtain rfl : l3 = md := by omega
                          have hn1 : ¬ (l3 : Int) < (l3 : Int) := by omega
                          go_wp2_with fail
                          go_roundw
                          case rel => exact ⟨l2 + 1, by omega, by go_num, HM9, HB9⟩
                          case measure => simp [intOf]; omega
                    · obtain rfl : l2 = l := by omega
                      have hm1 : ¬ (l2 : Int) < (l2 : Int) := by omega
                      have hqV : q ∈ V2 := (HV3.out q).2 (.base (by simp))
                      have hdt : decide (q ∈ V2) = true := decide_eq_true hqV
                      have hrun := HMS.out.look (q := q) (by omega)
                      rw [hdt] at hrun
                      have BE := BW.trans (HBR.out.mono BW.size)
                      clear hqV hdt
                      go_wp2_with fail
                      go_ret
                      exact ⟨rfl, BE⟩
end Go.Proofs.Ytcehklnonhalhaa
