
/-
  Layer 6: the walk of NetGrows.
-/
import Derived.Test.YtcmdfkmjbfppgaaGcd
import Derived.Test.YtcmdfkmjbfppgaaGz
import Derived.Test.YtcmdfkmjbfppgaaGr
namespace Go.Proofs.Ytcmdfkmjbfppgaa
open Go.RowKit
set_option linter.unusedVariables false
set_option maxRecDepth 4000

theorem some_of {N : List Nd} {I O : List Pt} {d : Option (List Nat)} (hl : levelS N I O = (d, 0)) : ∃ dd, d = some dd := by
  unfold levelS at hl
  split at hl
  · rename_i h
    injection hl with h1 h2
    exact absurd h2 h
  · split at hl
    · injection hl with h1 h2
      exact ⟨_, h1.symm⟩
    · injection hl with h1 h2
      cases h2
theorem row_ne {w : World} {B : Nat} {e t : TypeId} {s : Nat} {A : Option Addr} {n c g : Nat} {xs cs : List Value} (h : w.ownsRow B e s (.slice A n c) n xs) (z : Own w g t cs) (hne : e ≠ t) : ∀ b, A = some ⟨b, 0, none⟩ → b ≠ g := by
  intro b e1 e2
  subst e1 e2
  rcases h.2 with ⟨h1, h2⟩ | ⟨b', cap, cur, h1, h2, h3, h4⟩
  · cases h1
  · injection h1 with h1 _ _
    injection h1 with h1
    injection h1 with h1
    subst h1
    unfold Own at z
    rw [h3] at z
    simp at z
    exact hne z.2
theorem PsH.move {w w' : World} {s : Nat} {A : Option Addr} {n : Nat} {L : List Pt} (h : PsH s w A n L) (hsz : w.heap.size ≤ w'.heap.size) (hc : ∀ b, s ≤ b → b < w.heap.size → w'.heap[b]? = w.heap[b]?) : Ps w' A n L := ⟨h.1, fun k p hp => by
  obtain ⟨b, off, A', m, c, h1, h0, h2, h3, h4, h5, h6, h7⟩ := h.2 k p hp
  have key := hc b h0 h2
  refine ⟨b, off, A', m, c, h1, Nat.lt_of_lt_of_le h2 hsz, (World.cell?_of_block (w := w) (a := ⟨b, off + k * 2, none⟩) key).trans h3, (World.cell?_of_block (w := w) (a := ⟨b, off + k * 2 + 1, none⟩) key).trans h4, h5, h6, h7.1, fun j x hx => ?_⟩
  obtain ⟨b2, o2, g1, g2, g3, g4⟩ := h7.2 j x hx
  exact ⟨b2, o2, g1, Nat.lt_of_lt_of_le g3 hsz, (World.cell?_of_block (w := w) (a := ⟨b2, o2 + j, none⟩) (hc b2 g2 g3)).trans g4⟩⟩
theorem u8_bd {y : Int} (h : (Lit.int .u8 y).wf = true) : 0 ≤ y ∧ y < 256 := by
  simp [Lit.wf] at h
  have e1 : IntKind.u8.min = 0 := rfl
  have e2 : IntKind.u8.max = 255 := rfl
  omega
theorem kind_rem (y : Int) (h : (Lit.int .u8 y).wf = true) : ∃ K : Int, y.tmod 6 = K ∧ 0 ≤ K ∧ K ≤ 5 := by
  obtain ⟨h0, h1⟩ := u8_bd h
  refine ⟨_, rfl, ?_⟩
  rw [Int.tmod_eq_emod_of_nonneg h0]
  omega
theorem wrap_id {y : Int} (h0 : 0 ≤ y) (h1 : y < 256) : wrap64 y = y := by
  unfold wrap64
  omega
theorem place_rem (y : Int) (n : Nat) (h : (Lit.int .u8 y).wf = true) (hn : 0 < n) : ∃ p : Nat, (wrap64 y).tmod (n : Int) = (p : Int) ∧ p < n := by
  obtain ⟨h0, h1⟩ := u8_bd h
  rw [wrap_id h0 h1, Int.tmod_eq_emod_of_nonneg h0]
  have g0 := Int.emod_nonneg y (show (n : Int) ≠ 0 by omega)
  have g1 := Int.emod_lt_of_pos y (show 0 < (n : Int) by omega)
  exact ⟨(y % (n : Int)).toNat, by omega, by omega⟩
theorem bit_rem (y : Int) (h : (Lit.int .u8 y).wf = true) : ∃ p : Nat, wrap64 (y.tmod 2) = (p : Int) ∧ p ≤ 1 := by
  obtain ⟨h0, h1⟩ := u8_bd h
  rw [Int.tmod_eq_emod_of_nonneg h0, wrap_id (by omega) (by omega)]
  exact ⟨(y % 2).toNat, by omega, by omega⟩
set_option maxRecDepth 20000 in
set_option maxHeartbeats 8000000 in
theorem netGrows_as {An Ai Ao : Option Addr} {nn cn ni ci no co : Nat} {N : List Nd} {I O : List Pt} {w : World} (h : NetIn w An nn cn Ai ni ci Ao no co N I O) (y1 y2 y3 y4 : Int) (g1 : (Lit.int .u8 y1).wf = true) (g2 : (Lit.int .u8 y2).wf = true) (g3 : (Lit.int .u8 y3).wf = true) (g4 : (Lit.int .u8 y4).wf = true) :
    Calls Try.prog 6 #[.agg #[.slice An nn cn, .slice Ai ni ci, .slice Ao no co], .int .u8 y1, .int .u8 y2, .int .u8 y3, .int .u8 y4] w fun en w' => en = .returned (.bool true) ∧ Below w.heap.size w w' := by
  go_enter Try.func6, Try.ntmps6
  go_upto_region 1 with fail
  obtain ⟨w1, e_w1⟩ : ∃ w', w.alloc (.cells #[.slice An nn cn, .slice Ai ni ci, .slice Ao no co] 25) = w' := ⟨_, rfl⟩
  have b : Below w.heap.size w w1 := e_w1 ▸ below_lit _ _
  have hs_w1 : w1.heap.size = w.heap.size + 1 := e_w1 ▸ size_lit w _ rfl
  have z0 : Bx w1 w.heap.size [.slice An nn cn, .slice Ai ni ci, .slice Ao no co] := e_w1 ▸ Bx.made_k w rfl #[.slice An nn cn, .slice Ai ni ci, .slice Ao no co] 25
  rw [e_w1]
  clear e_w1
  replace h := h.on b
  have BW := b
  clear b
  clear hs_w1
  go_wp2_with fail
  refine (awake6_any _).mono ?_
  rintro en w2 ⟨rfl, b⟩
  replace h := h.on b
  replace z0 := z0.on b
  replace BW := Below.step BW b
  clear b
  have z0c0 := z0.2 0 _ rfl
  have z0c1 := z0.2 1 _ rfl
  have z0c2 := z0.2 2 _ rfl
  go_wp2_with fail
  obtain ⟨v, hv⟩ : ∃ v, largeS nn ni no I O 60 = v := ⟨_, rfl⟩
  have HV := Lib.hid hv
  clear hv
  refine (h.large v HV.out).mono ?_
  rintro en w3 ⟨rfl, b⟩
  clear z0c0 z0c1 z0c2
  replace h := h.on b
  replace z0 := z0.on b
  replace BW := Below.step BW b
  clear b
  have z0c0 := z0.2 0 _ rfl
  have z0c1 := z0.2 1 _ rfl
  have z0c2 := z0.2 2 _ rfl
  cases v
  case true =>
    go_wp2_with fail
    go_ret
    exact ⟨rfl, BW⟩
  by_cases hn0 : nn = 0
  · have e0 : ((nn : Int) == 0) = true := by simp [hn0]
    go_wp2_with fail
    go_ret
    exact ⟨rfl, BW⟩
  have e0 : ((nn : Int) == 0) = false := by simp [hn0]
  obtain ⟨hn, hn60, hi66, ho66, hbb⟩ := h.nt HV.out
  obtain ⟨d, e, hl⟩ : ∃ d e, levelS N I O = (d, e) := ⟨_, _, rfl⟩
  have HL := Lib.hid hl
  have HIL : Hid ((ints d).length ≤ 60) := Lib.hid (by have := ints_len hl; rw [hn.n.1] at this; omega)
  have sn := h.sn
  have HBB := Lib.hid hbb
  clear h
  clear hl hbb HV
  go_wp2_with fail
  refine (levels_as hn HL.out).mono ?_
  rintro en w4 ⟨A1, m1, c1, rfl, hi1, _, b⟩
  clear z0c0 z0c1 z0c2
  replace z0 := z0.on b
  replace hn := hn.on b
  replace BW := Below.step BW b
  clear b
  by_cases he : e = 0
  case neg =>
    have e1 : (e != 0) = true := by simp [he]
    go_wp2_with fail
    go_ret
    exact ⟨rfl, BW⟩
  subst he
  have z0c0 := z0.2 0 _ rfl
  have z0c1 := z0.2 1 _ rfl
  have z0c2 := z0.2 2 _ rfl
  obtain ⟨dd, rfl⟩ := some_of HL.out
  have hnn : 0 < nn := by omega
  have hnz : (0 : Int) < (nn : Int) := by omega
  obtain ⟨K, hK, hK2⟩ := kind_rem y1 g1
  obtain ⟨pa, hpa, hpa1⟩ := place_rem y2 nn g2 hnn
  obtain ⟨pb, hpb, hpb1⟩ := place_rem y3 nn g3 hnn
  obtain ⟨pc, hpc, hpc1⟩ := place_rem y4 nn g4 hnn
  obtain ⟨pd, hpd, hpd1⟩ := bit_rem y3 g3
  clear g1 g2 g3 g4
  have hmod : (nn : Int) ≠ 0 := by omega
  clear z0c0 z0c1 z0c2
  by_cases ck7 : K = 5
  case pos =>
    subst ck7
    have hx : formedS ((N.length + 1 : Nat) : Int) ⟨7, (pa : Int), (pd : Int), 0⟩ = true := by
      have hnl := hn.n.1
      unfold formedS usesS manyS kindS sameN bareS restS placeS bitS
      simp <;> omega
    have hneed : ∀ j ∈ needS ⟨7, (pa : Int), (pd : Int), 0⟩, j < N.length := by
      have hnl := hn.n.1
      unfold needS usesS manyS
      simp <;> omega
    obtain ⟨hdl, v, hlv⟩ := levelS_app HL.out hx hneed (by simp)
    have HLV := Lib.hid hlv
    clear hx hneed hlv
    have z0c0 := z0.2 0 _ rfl
    have z0c1 := z0.2 1 _ rfl
    have z0c2 := z0.2 2 _ rfl
    go_upto_region 16 with fail
    clear z0c0 z0c1 z0c2
    obtain ⟨w5, e_w5⟩ : ∃ w', w4.alloc (.cells #[.int .i64 7, .int .i64 (pa : Int), .int .i64 (pd : Int), .int .i64 0] 38) = w' := ⟨_, rfl⟩
    have b : Below w4.heap.size w4 w5 := e_w5 ▸ below_lit _ _
    have hs_w5 : w5.heap.size = w4.heap.size + 1 := e_w5 ▸ size_lit w4 _ rfl
    have zx : Bx w5 w4.heap.size [.int .i64 7, .int .i64 (pa : Int), .int .i64 (pd : Int), .int .i64 0] := e_w5 ▸ Bx.made_k w4 rfl #[.int .i64 7, .int .i64 (pa : Int), .int .i64 (pd : Int), .int .i64 0] 38
    rw [e_w5]
    clear e_w5
    replace z0 := z0.on b
    replace hn := hn.on b
    replace hi1 := hi1.on b
    replace BW := Below.step BW b
    clear b
    clear hs_w5
    have z0c0 := z0.2 0 _ rfl
    have z0c1 := z0.2 1 _ rfl
    have z0c2 := z0.2 2 _ rfl
    go_wp2_with fail
    have hnC := hn; have hi1C := hi1; have z0C := z0; have zxC := zx; have BWC := BW
    refine (clone_as hn sn (fun p hp => by have := (HBB.out p hp).1; omega)).mono ?_
    rintro en w6 ⟨Bn, dn, Bi, di, Bo, do', sg, rfl, hrow, hgs, swn, hpi, swi, hpo, swo, b⟩
    clear z0c0 z0c1 z0c2
    have BC := b
    replace z0 := z0.on b
    replace hn := hn.on b
    replace hi1 := hi1.on b
    replace zx := zx.on b
    replace BW := Below.step BW b
    clear b
    obtain ⟨hb, rfl, hb1, hb2⟩ : ∃ hb, Bn = some ⟨hb, 0, none⟩ ∧ w5.heap.size ≤ hb ∧ hb < w6.heap.size := by
      rcases row_own hrow with ⟨_, h5, _⟩ | ⟨b, e, h1, h2⟩
      · omega
      · exact ⟨b, e, h1, h2⟩
    have hbs : hb < sg := hgs hb rfl
    go_upto_region 17 with fail
    obtain ⟨w7, e_w7⟩ : ∃ w', w6.alloc (.cells #[.slice (some ⟨hb, 0, none⟩) nn dn, .slice Bi ni di, .slice Bo no do'] 25) = w' := ⟨_, rfl⟩
    have ZC : Own w7 w6.heap.size 25 [.slice (some ⟨hb, 0, none⟩) nn dn, .slice Bi ni di, .slice Bo no do'] := e_w7 ▸ Own.made w6 25 [.slice (some ⟨hb, 0, none⟩) nn dn, .slice Bi ni di, .slice Bo no do']
    have b : Below w6.heap.size w6 w7 := e_w7 ▸ below_lit _ _
    have b9 := b
    rw [e_w7]
    clear e_w7
    replace zx := zx.on b
    have hrow9 := row_on hrow b
    have BC9 := Below.step BC b
    have hzc0 := ZC.cell 0
    simp only [List.getElem?_cons_zero] at hzc0
    have zxc0 := zx.2 0 _ rfl
    have zxc1 := zx.2 1 _ rfl
    have zxc2 := zx.2 2 _ rfl
    have zxc3 := zx.2 3 _ rfl
    obtain ⟨w8, e_w8⟩ : ∃ w', w7.alloc (.cells #[.int .i64 7, .int .i64 (pa : Int), .int .i64 (pd : Int), .int .i64 0] 38) = w' := ⟨_, rfl⟩
    have b10 : Below w7.heap.size w7 w8 := e_w8 ▸ below_lit _ _
    have R10 := row_on hrow9 b10
    have Z10 := ZC.below b10 ZC.lt
    have BC10 := Below.step BC9 b10
    have hnil := Bx.ns (L := [⟨7, (pa : Int), (pd : Int), 0⟩]) (e_w8 ▸ Bx.made_k w7 rfl #[.int .i64 7, .int .i64 (pa : Int), .int .i64 (pd : Int), .int .i64 0] 38)
    have hbs10 : w5.heap.size ≤ w8.heap.size := BC10.size
    have cn10 : ∀ ad : Addr, (some ⟨w7.heap.size, 0, none⟩ : Option Addr) = some ad → ∀ (j : Nat) (u : Value), (ndC ⟨7, (pa : Int), (pd : Int), 0⟩)[j]? = some u → w8.cell? (ad.add j) = some u := fun ad e j u hu => hnil.cells ad e j u (by simpa using hu)
    have on10 : ∀ u ∈ ndC ⟨7, (pa : Int), (pd : Int), 0⟩, u.oneCell' = true := fun u hu => one_nd [⟨7, (pa : Int), (pd : Int), 0⟩] u (by simpa using hu)
    have hn61 : nn + 1 ≤ 1000000 := by omega
    go_upto_region 18 with (at_builtin; refine wpList_app (A := some ⟨w7.heap.size, 0, none⟩) (m := 1) (c := 1) rfl _ _ 22 rfl elm_node (by omega) (by omega) w5.heap.size _ _ _ rfl R10 (ndC ⟨7, (pa : Int), (pd : Int), 0⟩) rfl (fun e => by cases e) rfl cn10 on10 hn61 hbs10 ?_; intro v11 w9 R11 G11; obtain ⟨A11, c11, rfl, sw11, hl11, _⟩ := row_at R11; have Z11 := Z10.kept G11 (own_ne R10 (fun b e => by cases e; omega)); have z11c := Z11.cell 0; have z11f := Z11.free 0; simp only [List.getElem?_cons_zero] at z11c)
    have Z12 := Z11.put 0 (.slice A11 (nn + 1) c11)
    have G12 := grown_set w9 ⟨w6.heap.size, 0, none⟩ (.slice A11 (nn + 1) c11)
    have R12 := R11.kept G12 (own_ne2 R11 (row_ne R11 Z11 (by decide)))
    have BC12 := (row_below R10 BC10 (Nat.le_refl _) G11).setCell (p := ⟨w6.heap.size, 0, none⟩) (Nat.le_trans hb1 (Nat.le_of_lt hb2)) (.slice A11 (nn + 1) c11)
    have hmove : ∀ b, sg ≤ b → b < w6.heap.size → (w9.setCell ⟨w6.heap.size, 0, none⟩ (.slice A11 (nn + 1) c11)).heap[b]? = w6.heap[b]? := fun b h1 h2 => by
      have l9 := b9.size
      have l10 := b10.size
      rw [Below.heap_setCell w9 _ _ b (show b ≠ w6.heap.size by omega), G11.block b (by omega) (own_ne R10 (fun q e => by cases e; omega)), b10.block b (by omega), b9.block b h2]
    have hsz12 : w6.heap.size ≤ (w9.setCell ⟨w6.heap.size, 0, none⟩ (.slice A11 (nn + 1) c11)).heap.size := by have := b9.size; have := b10.size; have := G11.size; have := G12.size; omega
    obtain ⟨w10, e_w10⟩ : ∃ w', w9.setCell ⟨w6.heap.size, 0, none⟩ (.slice A11 (nn + 1) c11) = w' := ⟨_, rfl⟩
    clear z11c z11f hzc0 zxc0 zxc1 zxc2 zxc3
    rw [e_w10] at Z12 R12 BC12 hmove hsz12 ⊢
    clear e_w10 G12 G11 R11 R10 Z11 Z10 ZC hrow9 BC9 BC10 b9 b10 hnil e_w8 cn10 on10 hbs10 zx zxC hrow BC BW hn hi1 z0
    have BW := Below.step BWC BC12
    have hi1 := hi1C.on BC12
    have hfl : (N ++ [(⟨7, (pa : Int), (pd : Int), 0⟩ : Nd)]).flatMap ndC = N.flatMap ndC ++ ndC ⟨7, (pa : Int), (pd : Int), 0⟩ := by rw [List.flatMap_append]; simp
    rw [← hfl] at R12
    have hm : Nt w10 A11 (nn + 1) c11 Bi ni di Bo no do' (N ++ [⟨7, (pa : Int), (pd : Int), 0⟩]) I O := by
      obtain ⟨A', c', q0, _, _, q1⟩ := row_ns R12
      injection q0 with qa qb qc
      subst qa qc
      exact ⟨q1, hpi.move hsz12 hmove, hpo.move hsz12 hmove, swi, swo, by omega, hnC.hs, hnC.hb⟩
    have hlen : Hid ((ints (some (dd ++ [v]))).length = nn + 1) := Lib.hid (by have := hnC.n.1; unfold ints; rw [List.length_map]; simp; omega)
    have hpre : Hid (ints (some (dd ++ [v])) = ints (some dd) ++ [(v : Int)]) := Lib.hid (by unfold ints; simp)
    have hil : Hid ((ints (some dd)).length = nn) := Lib.hid (by have := hnC.n.1; unfold ints; rw [List.length_map]; simp; omega)
    clear hmove hsz12 R12 hfl hpi hpo hnC hi1C z0C BWC BC12
    have zm0 := Z12.cell 0
    have zm1 := Z12.cell 1
    have zm2 := Z12.cell 2
    simp only [List.set_cons_zero, List.getElem?_cons_succ, List.getElem?_cons_zero] at zm0 zm1 zm2
    go_wp2_with fail
    refine (levels_as hm HLV.out).mono ?_
    rintro en w11 ⟨A2, m2, c2, rfl, hi2, hmc2, b⟩
    replace hi1 := hi1.on b
    replace BW := Below.step BW b
    clear b
    obtain rfl : m2 = nn + 1 := by rw [← hi2.1]; exact hlen.out
    clear zm0 zm1 zm2 Z12
    have hi3 : Is w11 A2 nn (ints (some dd)) := ⟨hil.out, fun k x hx => hi2.2 k x (by rw [hpre.out, List.getElem?_append_left (List.getElem?_eq_some_iff.1 hx).1]; exact hx)⟩
    have f1 : (0 : Int) ≤ (nn : Int) := by omega
    have f2 : (nn : Int) ≤ (c2 : Int) := by omega
    clear hm
    go_wp2_with fail
    refine (rints_as hi3 hi1 (by omega) true (by simp)).mono ?_
    rintro en w12 ⟨rfl, b⟩
    replace hi1 := hi1.on b
    replace hi2 := hi2.on b
    replace hi3 := hi3.on b
    replace BW := Below.step BW b
    clear b
    go_wp2_with fail
    go_ret
    exact ⟨rfl, BW⟩
  by_cases ck2 : K = 0
  case pos =>
    subst ck2
    have hx : formedS ((N.length + 1 : Nat) : Int) ⟨2, (pa : Int), 0, 0⟩ = true := by
      have hnl := hn.n.1
      unfold formedS usesS manyS kindS sameN bareS restS placeS bitS
      simp <;> omega
    have hneed : ∀ j ∈ needS ⟨2, (pa : Int), 0, 0⟩, j < N.length := by
      have hnl := hn.n.1
      unfold needS usesS manyS
      simp <;> omega
    obtain ⟨hdl, v, hlv⟩ := levelS_app HL.out hx hneed (by simp)
    have HLV := Lib.hid hlv
    clear hx hneed hlv
    have z0c0 := z0.2 0 _ rfl
    have z0c1 := z0.2 1 _ rfl
    have z0c2 := z0.2 2 _ rfl
    go_upto_region 16 with fail
    clear z0c0 z0c1 z0c2
    obtain ⟨w5, e_w5⟩ : ∃ w', w4.alloc (.cells #[.int .i64 2, .int .i64 (pa : Int), .int .i64 0, .int .i64 0] 38) = w' := ⟨_, rfl⟩
    have b : Below w4.heap.size w4 w5 := e_w5 ▸ below_lit _ _
    have hs_w5 : w5.heap.size = w4.heap.size + 1 := e_w5 ▸ size_lit w4 _ rfl
    have zx : Bx w5 w4.heap.size [.int .i64 2, .int .i64 (pa : Int), .int .i64 0, .int .i64 0] := e_w5 ▸ Bx.made_k w4 rfl #[.int .i64 2, .int .i64 (pa : Int), .int .i64 0, .int .i64 0] 38
    rw [e_w5]
    clear e_w5
    replace z0 := z0.on b
    replace hn := hn.on b
    replace hi1 := hi1.on b
    replace BW := Below.step BW b
    clear b
    clear hs_w5
    have z0c0 := z0.2 0 _ rfl
    have z0c1 := z0.2 1 _ rfl
    have z0c2 := z0.2 2 _ rfl
    go_wp2_with fail
    have hnC := hn; have hi1C := hi1; have z0C := z0; have zxC := zx; have BWC := BW
    refine (clone_as hn sn (fun p hp => by have := (HBB.out p hp).1; omega)).mono ?_
    rintro en w6 ⟨Bn, dn, Bi, di, Bo, do', sg, rfl, hrow, hgs, swn, hpi, swi, hpo, swo, b⟩
    clear z0c0 z0c1 z0c2
    have BC := b
    replace z0 := z0.on b
    replace hn := hn.on b
    replace hi1 := hi1.on b
    replace zx := zx.on b
    replace BW := Below.step BW b
    clear b
    obtain ⟨hb, rfl, hb1, hb2⟩ : ∃ hb, Bn = some ⟨hb, 0, none⟩ ∧ w5.heap.size ≤ hb ∧ hb < w6.heap.size := by
      rcases row_own hrow with ⟨_, h5, _⟩ | ⟨b, e, h1, h2⟩
      · omega
      · exact ⟨b, e, h1, h2⟩
    have hbs : hb < sg := hgs hb rfl
    go_upto_region 17 with fail
    obtain ⟨w7, e_w7⟩ : ∃ w', w6.alloc (.cells #[.slice (some ⟨hb, 0, none⟩) nn dn, .slice Bi ni di, .slice Bo no do'] 25) = w' := ⟨_, rfl⟩
    have ZC : Own w7 w6.heap.size 25 [.slice (some ⟨hb, 0, none⟩) nn dn, .slice Bi ni di, .slice Bo no do'] := e_w7 ▸ Own.made w6 25 [.slice (some ⟨hb, 0, none⟩) nn dn, .slice Bi ni di, .slice Bo no do']
    have b : Below w6.heap.size w6 w7 := e_w7 ▸ below_lit _ _
    have b9 := b
    rw [e_w7]
    clear e_w7
    replace zx := zx.on b
    have hrow9 := row_on hrow b
    have BC9 := Below.step BC b
    have hzc0 := ZC.cell 0
    simp only [List.getElem?_cons_zero] at hzc0
    have zxc0 := zx.2 0 _ rfl
    have zxc1 := zx.2 1 _ rfl
    have zxc2 := zx.2 2 _ rfl
    have zxc3 := zx.2 3 _ rfl
    obtain ⟨w8, e_w8⟩ : ∃ w', w7.alloc (.cells #[.int .i64 2, .int .i64 (pa : Int), .int .i64 0, .int .i64 0] 38) = w' := ⟨_, rfl⟩
    have b10 : Below w7.heap.size w7 w8 := e_w8 ▸ below_lit _ _
    have R10 := row_on hrow9 b10
    have Z10 := ZC.below b10 ZC.lt
    have BC10 := Below.step BC9 b10
    have hnil := Bx.ns (L := [⟨2, (pa : Int), 0, 0⟩]) (e_w8 ▸ Bx.made_k w7 rfl #[.int .i64 2, .int .i64 (pa : Int), .int .i64 0, .int .i64 0] 38)
    have hbs10 : w5.heap.size ≤ w8.heap.size := BC10.size
    have cn10 : ∀ ad : Addr, (some ⟨w7.heap.size, 0, none⟩ : Option Addr) = some ad → ∀ (j : Nat) (u : Value), (ndC ⟨2, (pa : Int), 0, 0⟩)[j]? = some u → w8.cell? (ad.add j) = some u := fun ad e j u hu => hnil.cells ad e j u (by simpa using hu)
    have on10 : ∀ u ∈ ndC ⟨2, (pa : Int), 0, 0⟩, u.oneCell' = true := fun u hu => one_nd [⟨2, (pa : Int), 0, 0⟩] u (by simpa using hu)
    have hn61 : nn + 1 ≤ 1000000 := by omega
    go_upto_region 18 with (at_builtin; refine wpList_app (A := some ⟨w7.heap.size, 0, none⟩) (m := 1) (c := 1) rfl _ _ 22 rfl elm_node (by omega) (by omega) w5.heap.size _ _ _ rfl R10 (ndC ⟨2, (pa : Int), 0, 0⟩) rfl (fun e => by cases e) rfl cn10 on10 hn61 hbs10 ?_; intro v11 w9 R11 G11; obtain ⟨A11, c11, rfl, sw11, hl11, _⟩ := row_at R11; have Z11 := Z10.kept G11 (own_ne R10 (fun b e => by cases e; omega)); have z11c := Z11.cell 0; have z11f := Z11.free 0; simp only [List.getElem?_cons_zero] at z11c)
    have Z12 := Z11.put 0 (.slice A11 (nn + 1) c11)
    have G12 := grown_set w9 ⟨w6.heap.size, 0, none⟩ (.slice A11 (nn + 1) c11)
    have R12 := R11.kept G12 (own_ne2 R11 (row_ne R11 Z11 (by decide)))
    have BC12 := (row_below R10 BC10 (Nat.le_refl _) G11).setCell (p := ⟨w6.heap.size, 0, none⟩) (Nat.le_trans hb1 (Nat.le_of_lt hb2)) (.slice A11 (nn + 1) c11)
    have hmove : ∀ b, sg ≤ b → b < w6.heap.size → (w9.setCell ⟨w6.heap.size, 0, none⟩ (.slice A11 (nn + 1) c11)).heap[b]? = w6.heap[b]? := fun b h1 h2 => by
      have l9 := b9.size
      have l10 := b10.size
      rw [Below.heap_setCell w9 _ _ b (show b ≠ w6.heap.size by omega), G11.block b (by omega) (own_ne R10 (fun q e => by cases e; omega)), b10.block b (by omega), b9.block b h2]
    have hsz12 : w6.heap.size ≤ (w9.setCell ⟨w6.heap.size, 0, none⟩ (.slice A11 (nn + 1) c11)).heap.size := by have := b9.size; have := b10.size; have := G11.size; have := G12.size; omega
    obtain ⟨w10, e_w10⟩ : ∃ w', w9.setCell ⟨w6.heap.size, 0, none⟩ (.slice A11 (nn + 1) c11) = w' := ⟨_, rfl⟩
    clear z11c z11f hzc0 zxc0 zxc1 zxc2 zxc3
    rw [e_w10] at Z12 R12 BC12 hmove hsz12 ⊢
    clear e_w10 G12 G11 R11 R10 Z11 Z10 ZC hrow9 BC9 BC10 b9 b10 hnil e_w8 cn10 on10 hbs10 zx zxC hrow BC BW hn hi1 z0
    have BW := Below.step BWC BC12
    have hi1 := hi1C.on BC12
    have hfl : (N ++ [(⟨2, (pa : Int), 0, 0⟩ : Nd)]).flatMap ndC = N.flatMap ndC ++ ndC ⟨2, (pa : Int), 0, 0⟩ := by rw [List.flatMap_append]; simp
    rw [← hfl] at R12
    have hm : Nt w10 A11 (nn + 1) c11 Bi ni di Bo no do' (N ++ [⟨2, (pa : Int), 0, 0⟩]) I O := by
      obtain ⟨A', c', q0, _, _, q1⟩ := row_ns R12
      injection q0 with qa qb qc
      subst qa qc
      exact ⟨q1, hpi.move hsz12 hmove, hpo.move hsz12 hmove, swi, swo, by omega, hnC.hs, hnC.hb⟩
    have hlen : Hid ((ints (some (dd ++ [v]))).length = nn + 1) := Lib.hid (by have := hnC.n.1; unfold ints; rw [List.length_map]; simp; omega)
    have hpre : Hid (ints (some (dd ++ [v])) = ints (some dd) ++ [(v : Int)]) := Lib.hid (by unfold ints; simp)
    have hil : Hid ((ints (some dd)).length = nn) := Lib.hid (by have := hnC.n.1; unfold ints; rw [List.length_map]; simp; omega)
    clear hmove hsz12 R12 hfl hpi hpo hnC hi1C z0C BWC BC12
    have zm0 := Z12.cell 0
    have zm1 := Z12.cell 1
    have zm2 := Z12.cell 2
    simp only [List.set_cons_zero, List.getElem?_cons_succ, List.getElem?_cons_zero] at zm0 zm1 zm2
    go_wp2_with fail
    refine (levels_as hm HLV.out).mono ?_
    rintro en w11 ⟨A2, m2, c2, rfl, hi2, hmc2, b⟩
    replace hi1 := hi1.on b
    replace BW := Below.step BW b
    clear b
    obtain rfl : m2 = nn + 1 := by rw [← hi2.1]; exact hlen.out
    clear zm0 zm1 zm2 Z12
    have hi3 : Is w11 A2 nn (ints (some dd)) := ⟨hil.out, fun k x hx => hi2.2 k x (by rw [hpre.out, List.getElem?_append_left (List.getElem?_eq_some_iff.1 hx).1]; exact hx)⟩
    have f1 : (0 : Int) ≤ (nn : Int) := by omega
    have f2 : (nn : Int) ≤ (c2 : Int) := by omega
    clear hm
    go_wp2_with fail
    refine (rints_as hi3 hi1 (by omega) true (by simp)).mono ?_
    rintro en w12 ⟨rfl, b⟩
    replace hi1 := hi1.on b
    replace hi2 := hi2.on b
    replace hi3 := hi3.on b
    replace BW := Below.step BW b
    clear b
    go_wp2_with fail
    go_ret
    exact ⟨rfl, BW⟩
  by_cases ck6 : K = 4
  case pos =>
    subst ck6
    have hx : formedS ((N.length + 1 : Nat) : Int) ⟨6, (pa : Int), (pb : Int), (pc : Int)⟩ = true := by
      have hnl := hn.n.1
      unfold formedS usesS manyS kindS sameN bareS restS placeS bitS
      simp <;> omega
    have hneed : ∀ j ∈ needS ⟨6, (pa : Int), (pb : Int), (pc : Int)⟩, j < N.length := by
      have hnl := hn.n.1
      unfold needS usesS manyS
      simp <;> omega
    obtain ⟨hdl, v, hlv⟩ := levelS_app HL.out hx hneed (by simp)
    have HLV := Lib.hid hlv
    clear hx hneed hlv
    have z0c0 := z0.2 0 _ rfl
    have z0c1 := z0.2 1 _ rfl
    have z0c2 := z0.2 2 _ rfl
    go_upto_region 16 with fail
    clear z0c0 z0c1 z0c2
    obtain ⟨w5, e_w5⟩ : ∃ w', w4.alloc (.cells #[.int .i64 6, .int .i64 (pa : Int), .int .i64 (pb : Int), .int .i64 (pc : Int)] 38) = w' := ⟨_, rfl⟩
    have b : Below w4.heap.size w4 w5 := e_w5 ▸ below_lit _ _
    have hs_w5 : w5.heap.size = w4.heap.size + 1 := e_w5 ▸ size_lit w4 _ rfl
    have zx : Bx w5 w4.heap.size [.int .i64 6, .int .i64 (pa : Int), .int .i64 (pb : Int), .int .i64 (pc : Int)] := e_w5 ▸ Bx.made_k w4 rfl #[.int .i64 6, .int .i64 (pa : Int), .int .i64 (pb : Int), .int .i64 (pc : Int)] 38
    rw [e_w5]
    clear e_w5
    replace z0 := z0.on b
    replace hn := hn.on b
    replace hi1 := hi1.on b
    replace BW := Below.step BW b
    clear b
    clear hs_w5
    have z0c0 := z0.2 0 _ rfl
    have z0c1 := z0.2 1 _ rfl
    have z0c2 := z0.2 2 _ rfl
    go_wp2_with fail
    have hnC := hn; have hi1C := hi1; have z0C := z0; have zxC := zx; have BWC := BW
    refine (clone_as hn sn (fun p hp => by have := (HBB.out p hp).1; omega)).mono ?_
    rintro en w6 ⟨Bn, dn, Bi, di, Bo, do', sg, rfl, hrow, hgs, swn, hpi, swi, hpo, swo, b⟩
    clear z0c0 z0c1 z0c2
    have BC := b
    replace z0 := z0.on b
    replace hn := hn.on b
    replace hi1 := hi1.on b
    replace zx := zx.on b
    replace BW := Below.step BW b
    clear b
    obtain ⟨hb, rfl, hb1, hb2⟩ : ∃ hb, Bn = some ⟨hb, 0, none⟩ ∧ w5.heap.size ≤ hb ∧ hb < w6.heap.size := by
      rcases row_own hrow with ⟨_, h5, _⟩ | ⟨b, e, h1, h2⟩
      · omega
      · exact ⟨b, e, h1, h2⟩
    have hbs : hb < sg := hgs hb rfl
    go_upto_region 17 with fail
    obtain ⟨w7, e_w7⟩ : ∃ w', w6.alloc (.cells #[.slice (some ⟨hb, 0, none⟩) nn dn, .slice Bi ni di, .slice Bo no do'] 25) = w' := ⟨_, rfl⟩
    have ZC : Own w7 w6.heap.size 25 [.slice (some ⟨hb, 0, none⟩) nn dn, .slice Bi ni di, .slice Bo no do'] := e_w7 ▸ Own.made w6 25 [.slice (some ⟨hb, 0, none⟩) nn dn, .slice Bi ni di, .slice Bo no do']
    have b : Below w6.heap.size w6 w7 := e_w7 ▸ below_lit _ _
    have b9 := b
    rw [e_w7]
    clear e_w7
    replace zx := zx.on b
    have hrow9 := row_on hrow b
    have BC9 := Below.step BC b
    have hzc0 := ZC.cell 0
    simp only [List.getElem?_cons_zero] at hzc0
    have zxc0 := zx.2 0 _ rfl
    have zxc1 := zx.2 1 _ rfl
    have zxc2 := zx.2 2 _ rfl
    have zxc3 := zx.2 3 _ rfl
    obtain ⟨w8, e_w8⟩ : ∃ w', w7.alloc (.cells #[.int .i64 6, .int .i64 (pa : Int), .int .i64 (pb : Int), .int .i64 (pc : Int)] 38) = w' := ⟨_, rfl⟩
    have b10 : Below w7.heap.size w7 w8 := e_w8 ▸ below_lit _ _
    have R10 := row_on hrow9 b10
    have Z10 := ZC.below b10 ZC.lt
    have BC10 := Below.step BC9 b10
    have hnil := Bx.ns (L := [⟨6, (pa : Int), (pb : Int), (pc : Int)⟩]) (e_w8 ▸ Bx.made_k w7 rfl #[.int .i64 6, .int .i64 (pa : Int), .int .i64 (pb : Int), .int .i64 (pc : Int)] 38)
    have hbs10 : w5.heap.size ≤ w8.heap.size := BC10.size
    have cn10 : ∀ ad : Addr, (some ⟨w7.heap.size, 0, none⟩ : Option Addr) = some ad → ∀ (j : Nat) (u : Value), (ndC ⟨6, (pa : Int), (pb : Int), (pc : Int)⟩)[j]? = some u → w8.cell? (ad.add j) = some u := fun ad e j u hu => hnil.cells ad e j u (by simpa using hu)
    have on10 : ∀ u ∈ ndC ⟨6, (pa : Int), (pb : Int), (pc : Int)⟩, u.oneCell' = true := fun u hu => one_nd [⟨6, (pa : Int), (pb : Int), (pc : Int)⟩] u (by simpa using hu)
    have hn61 : nn + 1 ≤ 1000000 := by omega
    go_upto_region 18 with (at_builtin; refine wpList_app (A := some ⟨w7.heap.size, 0, none⟩) (m := 1) (c := 1) rfl _ _ 22 rfl elm_node (by omega) (by omega) w5.heap.size _ _ _ rfl R10 (ndC ⟨6, (pa : Int), (pb : Int), (pc : Int)⟩) rfl (fun e => by cases e) rfl cn10 on10 hn61 hbs10 ?_; intro v11 w9 R11 G11; obtain ⟨A11, c11, rfl, sw11, hl11, _⟩ := row_at R11; have Z11 := Z10.kept G11 (own_ne R10 (fun b e => by cases e; omega)); have z11c := Z11.cell 0; have z11f := Z11.free 0; simp only [List.getElem?_cons_zero] at z11c)
    have Z12 := Z11.put 0 (.slice A11 (nn + 1) c11)
    have G12 := grown_set w9 ⟨w6.heap.size, 0, none⟩ (.slice A11 (nn + 1) c11)
    have R12 := R11.kept G12 (own_ne2 R11 (row_ne R11 Z11 (by decide)))
    have BC12 := (row_below R10 BC10 (Nat.le_refl _) G11).setCell (p := ⟨w6.heap.size, 0, none⟩) (Nat.le_trans hb1 (Nat.le_of_lt hb2)) (.slice A11 (nn + 1) c11)
    have hmove : ∀ b, sg ≤ b → b < w6.heap.size → (w9.setCell ⟨w6.heap.size, 0, none⟩ (.slice A11 (nn + 1) c11)).heap[b]? = w6.heap[b]? := fun b h1 h2 => by
      have l9 := b9.size
      have l10 := b10.size
      rw [Below.heap_setCell w9 _ _ b (show b ≠ w6.heap.size by omega), G11.block b (by omega) (own_ne R10 (fun q e => by cases e; omega)), b10.block b (by omega), b9.block b h2]
    have hsz12 : w6.heap.size ≤ (w9.setCell ⟨w6.heap.size, 0, none⟩ (.slice A11 (nn + 1) c11)).heap.size := by have := b9.size; have := b10.size; have := G11.size; have := G12.size; omega
    obtain ⟨w10, e_w10⟩ : ∃ w', w9.setCell ⟨w6.heap.size, 0, none⟩ (.slice A11 (nn + 1) c11) = w' := ⟨_, rfl⟩
    clear z11c z11f hzc0 zxc0 zxc1 zxc2 zxc3
    rw [e_w10] at Z12 R12 BC12 hmove hsz12 ⊢
    clear e_w10 G12 G11 R11 R10 Z11 Z10 ZC hrow9 BC9 BC10 b9 b10 hnil e_w8 cn10 on10 hbs10 zx zxC hrow BC BW hn hi1 z0
    have BW := Below.step BWC BC12
    have hi1 := hi1C.on BC12
    have hfl : (N ++ [(⟨6, (pa : Int), (pb : Int), (pc : Int)⟩ : Nd)]).flatMap ndC = N.flatMap ndC ++ ndC ⟨6, (pa : Int), (pb : Int), (pc : Int)⟩ := by rw [List.flatMap_append]; simp
    rw [← hfl] at R12
    have hm : Nt w10 A11 (nn + 1) c11 Bi ni di Bo no do' (N ++ [⟨6, (pa : Int), (pb : Int), (pc : Int)⟩]) I O := by
      obtain ⟨A', c', q0, _, _, q1⟩ := row_ns R12
      injection q0 with qa qb qc
      subst qa qc
      exact ⟨q1, hpi.move hsz12 hmove, hpo.move hsz12 hmove, swi, swo, by omega, hnC.hs, hnC.hb⟩
    have hlen : Hid ((ints (some (dd ++ [v]))).length = nn + 1) := Lib.hid (by have := hnC.n.1; unfold ints; rw [List.length_map]; simp; omega)
    have hpre : Hid (ints (some (dd ++ [v])) = ints (some dd) ++ [(v : Int)]) := Lib.hid (by unfold ints; simp)
    have hil : Hid ((ints (some dd)).length = nn) := Lib.hid (by have := hnC.n.1; unfold ints; rw [List.length_map]; simp; omega)
    clear hmove hsz12 R12 hfl hpi hpo hnC hi1C z0C BWC BC12
    have zm0 := Z12.cell 0
    have zm1 := Z12.cell 1
    have zm2 := Z12.cell 2
    simp only [List.set_cons_zero, List.getElem?_cons_succ, List.getElem?_cons_zero] at zm0 zm1 zm2
    go_wp2_with fail
    refine (levels_as hm HLV.out).mono ?_
    rintro en w11 ⟨A2, m2, c2, rfl, hi2, hmc2, b⟩
    replace hi1 := hi1.on b
    replace BW := Below.step BW b
    clear b
    obtain rfl : m2 = nn + 1 := by rw [← hi2.1]; exact hlen.out
    clear zm0 zm1 zm2 Z12
    have hi3 : Is w11 A2 nn (ints (some dd)) := ⟨hil.out, fun k x hx => hi2.2 k x (by rw [hpre.out, List.getElem?_append_left (List.getElem?_eq_some_iff.1 hx).1]; exact hx)⟩
    have f1 : (0 : Int) ≤ (nn : Int) := by omega
    have f2 : (nn : Int) ≤ (c2 : Int) := by omega
    clear hm
    go_wp2_with fail
    refine (rints_as hi3 hi1 (by omega) true (by simp)).mono ?_
    rintro en w12 ⟨rfl, b⟩
    replace hi1 := hi1.on b
    replace hi2 := hi2.on b
    replace hi3 := hi3.on b
    replace BW := Below.step BW b
    clear b
    go_wp2_with fail
    go_ret
    exact ⟨rfl, BW⟩
  by_cases ck3 : K = 1
  case pos =>
    subst ck3
    have hx : formedS ((N.length + 1 : Nat) : Int) ⟨3, (pa : Int), (pb : Int), 0⟩ = true := by
      have hnl := hn.n.1
      unfold formedS usesS manyS kindS sameN bareS restS placeS bitS
      simp <;> omega
    have hneed : ∀ j ∈ needS ⟨3, (pa : Int), (pb : Int), 0⟩, j < N.length := by
      have hnl := hn.n.1
      unfold needS usesS manyS
      simp <;> omega
    obtain ⟨hdl, v, hlv⟩ := levelS_app HL.out hx hneed (by simp)
    have HLV := Lib.hid hlv
    clear hx hneed hlv
    have z0c0 := z0.2 0 _ rfl
    have z0c1 := z0.2 1 _ rfl
    have z0c2 := z0.2 2 _ rfl
    go_upto_region 16 with fail
    clear z0c0 z0c1 z0c2
    obtain ⟨w5, e_w5⟩ : ∃ w', w4.alloc (.cells #[.int .i64 3, .int .i64 (pa : Int), .int .i64 (pb : Int), .int .i64 0] 38) = w' := ⟨_, rfl⟩
    have b : Below w4.heap.size w4 w5 := e_w5 ▸ below_lit _ _
    have hs_w5 : w5.heap.size = w4.heap.size + 1 := e_w5 ▸ size_lit w4 _ rfl
    have zx : Bx w5 w4.heap.size [.int .i64 3, .int .i64 (pa : Int), .int .i64 (pb : Int), .int .i64 0] := e_w5 ▸ Bx.made_k w4 rfl #[.int .i64 3, .int .i64 (pa : Int), .int .i64 (pb : Int), .int .i64 0] 38
    rw [e_w5]
    clear e_w5
    replace z0 := z0.on b
    replace hn := hn.on b
    replace hi1 := hi1.on b
    replace BW := Below.step BW b
    clear b
    clear hs_w5
    have z0c0 := z0.2 0 _ rfl
    have z0c1 := z0.2 1 _ rfl
    have z0c2 := z0.2 2 _ rfl
    go_wp2_with fail
    have hnC := hn; have hi1C := hi1; have z0C := z0; have zxC := zx; have BWC := BW
    refine (clone_as hn sn (fun p hp => by have := (HBB.out p hp).1; omega)).mono ?_
    rintro en w6 ⟨Bn, dn, Bi, di, Bo, do', sg, rfl, hrow, hgs, swn, hpi, swi, hpo, swo, b⟩
    clear z0c0 z0c1 z0c2
    have BC := b
    replace z0 := z0.on b
    replace hn := hn.on b
    replace hi1 := hi1.on b
    replace zx := zx.on b
    replace BW := Below.step BW b
    clear b
    obtain ⟨hb, rfl, hb1, hb2⟩ : ∃ hb, Bn = some ⟨hb, 0, none⟩ ∧ w5.heap.size ≤ hb ∧ hb < w6.heap.size := by
      rcases row_own hrow with ⟨_, h5, _⟩ | ⟨b, e, h1, h2⟩
      · omega
      · exact ⟨b, e, h1, h2⟩
    have hbs : hb < sg := hgs hb rfl
    go_upto_region 17 with fail
    obtain ⟨w7, e_w7⟩ : ∃ w', w6.alloc (.cells #[.slice (some ⟨hb, 0, none⟩) nn dn, .slice Bi ni di, .slice Bo no do'] 25) = w' := ⟨_, rfl⟩
    have ZC : Own w7 w6.heap.size 25 [.slice (some ⟨hb, 0, none⟩) nn dn, .slice Bi ni di, .slice Bo no do'] := e_w7 ▸ Own.made w6 25 [.slice (some ⟨hb, 0, none⟩) nn dn, .slice Bi ni di, .slice Bo no do']
    have b : Below w6.heap.size w6 w7 := e_w7 ▸ below_lit _ _
    have b9 := b
    rw [e_w7]
    clear e_w7
    replace zx := zx.on b
    have hrow9 := row_on hrow b
    have BC9 := Below.step BC b
    have hzc0 := ZC.cell 0
    simp only [List.getElem?_cons_zero] at hzc0
    have zxc0 := zx.2 0 _ rfl
    have zxc1 := zx.2 1 _ rfl
    have zxc2 := zx.2 2 _ rfl
    have zxc3 := zx.2 3 _ rfl
    obtain ⟨w8, e_w8⟩ : ∃ w', w7.alloc (.cells #[.int .i64 3, .int .i64 (pa : Int), .int .i64 (pb : Int), .int .i64 0] 38) = w' := ⟨_, rfl⟩
    have b10 : Below w7.heap.size w7 w8 := e_w8 ▸ below_lit _ _
    have R10 := row_on hrow9 b10
    have Z10 := ZC.below b10 ZC.lt
    have BC10 := Below.step BC9 b10
    have hnil := Bx.ns (L := [⟨3, (pa : Int), (pb : Int), 0⟩]) (e_w8 ▸ Bx.made_k w7 rfl #[.int .i64 3, .int .i64 (pa : Int), .int .i64 (pb : Int), .int .i64 0] 38)
    have hbs10 : w5.heap.size ≤ w8.heap.size := BC10.size
    have cn10 : ∀ ad : Addr, (some ⟨w7.heap.size, 0, none⟩ : Option Addr) = some ad → ∀ (j : Nat) (u : Value), (ndC ⟨3, (pa : Int), (pb : Int), 0⟩)[j]? = some u → w8.cell? (ad.add j) = some u := fun ad e j u hu => hnil.cells ad e j u (by simpa using hu)
    have on10 : ∀ u ∈ ndC ⟨3, (pa : Int), (pb : Int), 0⟩, u.oneCell' = true := fun u hu => one_nd [⟨3, (pa : Int), (pb : Int), 0⟩] u (by simpa using hu)
    have hn61 : nn + 1 ≤ 1000000 := by omega
    go_upto_region 18 with (at_builtin; refine wpList_app (A := some ⟨w7.heap.size, 0, none⟩) (m := 1) (c := 1) rfl _ _ 22 rfl elm_node (by omega) (by omega) w5.heap.size _ _ _ rfl R10 (ndC ⟨3, (pa : Int), (pb : Int), 0⟩) rfl (fun e => by cases e) rfl cn10 on10 hn61 hbs10 ?_; intro v11 w9 R11 G11; obtain ⟨A11, c11, rfl, sw11, hl11, _⟩ := row_at R11; have Z11 := Z10.kept G11 (own_ne R10 (fun b e => by cases e; omega)); have z11c := Z11.cell 0; have z11f := Z11.free 0; simp only [List.getElem?_cons_zero] at z11c)
    have Z12 := Z11.put 0 (.slice A11 (nn + 1) c11)
    have G12 := grown_set w9 ⟨w6.heap.size, 0, none⟩ (.slice A11 (nn + 1) c11)
    have R12 := R11.kept G12 (own_ne2 R11 (row_ne R11 Z11 (by decide)))
    have BC12 := (row_below R10 BC10 (Nat.le_refl _) G11).setCell (p := ⟨w6.heap.size, 0, none⟩) (Nat.le_trans hb1 (Nat.le_of_lt hb2)) (.slice A11 (nn + 1) c11)
    have hmove : ∀ b, sg ≤ b → b < w6.heap.size → (w9.setCell ⟨w6.heap.size, 0, none⟩ (.slice A11 (nn + 1) c11)).heap[b]? = w6.heap[b]? := fun b h1 h2 => by
      have l9 := b9.size
      have l10 := b10.size
      rw [Below.heap_setCell w9 _ _ b (show b ≠ w6.heap.size by omega), G11.block b (by omega) (own_ne R10 (fun q e => by cases e; omega)), b10.block b (by omega), b9.block b h2]
    have hsz12 : w6.heap.size ≤ (w9.setCell ⟨w6.heap.size, 0, none⟩ (.slice A11 (nn + 1) c11)).heap.size := by have := b9.size; have := b10.size; have := G11.size; have := G12.size; omega
    obtain ⟨w10, e_w10⟩ : ∃ w', w9.setCell ⟨w6.heap.size, 0, none⟩ (.slice A11 (nn + 1) c11) = w' := ⟨_, rfl⟩
    clear z11c z11f hzc0 zxc0 zxc1 zxc2 zxc3
    rw [e_w10] at Z12 R12 BC12 hmove hsz12 ⊢
    clear e_w10 G12 G11 R11 R10 Z11 Z10 ZC hrow9 BC9 BC10 b9 b10 hnil e_w8 cn10 on10 hbs10 zx zxC hrow BC BW hn hi1 z0
    have BW := Below.step BWC BC12
    have hi1 := hi1C.on BC12
    have hfl : (N ++ [(⟨3, (pa : Int), (pb : Int), 0⟩ : Nd)]).flatMap ndC = N.flatMap ndC ++ ndC ⟨3, (pa : Int), (pb : Int), 0⟩ := by rw [List.flatMap_append]; simp
    rw [← hfl] at R12
    have hm : Nt w10 A11 (nn + 1) c11 Bi ni di Bo no do' (N ++ [⟨3, (pa : Int), (pb : Int), 0⟩]) I O := by
      obtain ⟨A', c', q0, _, _, q1⟩ := row_ns R12
      injection q0 with qa qb qc
      subst qa qc
      exact ⟨q1, hpi.move hsz12 hmove, hpo.move hsz12 hmove, swi, swo, by omega, hnC.hs, hnC.hb⟩
    have hlen : Hid ((ints (some (dd ++ [v]))).length = nn + 1) := Lib.hid (by have := hnC.n.1; unfold ints; rw [List.length_map]; simp; omega)
    have hpre : Hid (ints (some (dd ++ [v])) = ints (some dd) ++ [(v : Int)]) := Lib.hid (by unfold ints; simp)
    have hil : Hid ((ints (some dd)).length = nn) := Lib.hid (by have := hnC.n.1; unfold ints; rw [List.length_map]; simp; omega)
    clear hmove hsz12 R12 hfl hpi hpo hnC hi1C z0C BWC BC12
    have zm0 := Z12.cell 0
    have zm1 := Z12.cell 1
    have zm2 := Z12.cell 2
    simp only [List.set_cons_zero, List.getElem?_cons_succ, List.getElem?_cons_zero] at zm0 zm1 zm2
    go_wp2_with fail
    refine (levels_as hm HLV.out).mono ?_
    rintro en w11 ⟨A2, m2, c2, rfl, hi2, hmc2, b⟩
    replace hi1 := hi1.on b
    replace BW := Below.step BW b
    clear b
    obtain rfl : m2 = nn + 1 := by rw [← hi2.1]; exact hlen.out
    clear zm0 zm1 zm2 Z12
    have hi3 : Is w11 A2 nn (ints (some dd)) := ⟨hil.out, fun k x hx => hi2.2 k x (by rw [hpre.out, List.getElem?_append_left (List.getElem?_eq_some_iff.1 hx).1]; exact hx)⟩
    have f1 : (0 : Int) ≤ (nn : Int) := by omega
    have f2 : (nn : Int) ≤ (c2 : Int) := by omega
    clear hm
    go_wp2_with fail
    refine (rints_as hi3 hi1 (by omega) true (by simp)).mono ?_
    rintro en w12 ⟨rfl, b⟩
    replace hi1 := hi1.on b
    replace hi2 := hi2.on b
    replace hi3 := hi3.on b
    replace BW := Below.step BW b
    clear b
    go_wp2_with fail
    go_ret
    exact ⟨rfl, BW⟩
  by_cases ck4 : K = 2
  case pos =>
    subst ck4
    have hx : formedS ((N.length + 1 : Nat) : Int) ⟨4, (pa : Int), (pb : Int), 0⟩ = true := by
      have hnl := hn.n.1
      unfold formedS usesS manyS kindS sameN bareS restS placeS bitS
      simp <;> omega
    have hneed : ∀ j ∈ needS ⟨4, (pa : Int), (pb : Int), 0⟩, j < N.length := by
      have hnl := hn.n.1
      unfold needS usesS manyS
      simp <;> omega
    obtain ⟨hdl, v, hlv⟩ := levelS_app HL.out hx hneed (by simp)
    have HLV := Lib.hid hlv
    clear hx hneed hlv
    have z0c0 := z0.2 0 _ rfl
    have z0c1 := z0.2 1 _ rfl
    have z0c2 := z0.2 2 _ rfl
    go_upto_region 16 with fail
    clear z0c0 z0c1 z0c2
    obtain ⟨w5, e_w5⟩ : ∃ w', w4.alloc (.cells #[.int .i64 4, .int .i64 (pa : Int), .int .i64 (pb : Int), .int .i64 0] 38) = w' := ⟨_, rfl⟩
    have b : Below w4.heap.size w4 w5 := e_w5 ▸ below_lit _ _
    have hs_w5 : w5.heap.size = w4.heap.size + 1 := e_w5 ▸ size_lit w4 _ rfl
    have zx : Bx w5 w4.heap.size [.int .i64 4, .int .i64 (pa : Int), .int .i64 (pb : Int), .int .i64 0] := e_w5 ▸ Bx.made_k w4 rfl #[.int .i64 4, .int .i64 (pa : Int), .int .i64 (pb : Int), .int .i64 0] 38
    rw [e_w5]
    clear e_w5
    replace z0 := z0.on b
    replace hn := hn.on b
    replace hi1 := hi1.on b
    replace BW := Below.step BW b
    clear b
    clear hs_w5
    have z0c0 := z0.2 0 _ rfl
    have z0c1 := z0.2 1 _ rfl
    have z0c2 := z0.2 2 _ rfl
    go_wp2_with fail
    have hnC := hn; have hi1C := hi1; have z0C := z0; have zxC := zx; have BWC := BW
    refine (clone_as hn sn (fun p hp => by have := (HBB.out p hp).1; omega)).mono ?_
    rintro en w6 ⟨Bn, dn, Bi, di, Bo, do', sg, rfl, hrow, hgs, swn, hpi, swi, hpo, swo, b⟩
    clear z0c0 z0c1 z0c2
    have BC := b
    replace z0 := z0.on b
    replace hn := hn.on b
    replace hi1 := hi1.on b
    replace zx := zx.on b
    replace BW := Below.step BW b
    clear b
    obtain ⟨hb, rfl, hb1, hb2⟩ : ∃ hb, Bn = some ⟨hb, 0, none⟩ ∧ w5.heap.size ≤ hb ∧ hb < w6.heap.size := by
      rcases row_own hrow with ⟨_, h5, _⟩ | ⟨b, e, h1, h2⟩
      · omega
      · exact ⟨b, e, h1, h2⟩
    have hbs : hb < sg := hgs hb rfl
    go_upto_region 17 with fail
    obtain ⟨w7, e_w7⟩ : ∃ w', w6.alloc (.cells #[.slice (some ⟨hb, 0, none⟩) nn dn, .slice Bi ni di, .slice Bo no do'] 25) = w' := ⟨_, rfl⟩
    have ZC : Own w7 w6.heap.size 25 [.slice (some ⟨hb, 0, none⟩) nn dn, .slice Bi ni di, .slice Bo no do'] := e_w7 ▸ Own.made w6 25 [.slice (some ⟨hb, 0, none⟩) nn dn, .slice Bi ni di, .slice Bo no do']
    have b : Below w6.heap.size w6 w7 := e_w7 ▸ below_lit _ _
    have b9 := b
    rw [e_w7]
    clear e_w7
    replace zx := zx.on b
    have hrow9 := row_on hrow b
    have BC9 := Below.step BC b
    have hzc0 := ZC.cell 0
    simp only [List.getElem?_cons_zero] at hzc0
    have zxc0 := zx.2 0 _ rfl
    have zxc1 := zx.2 1 _ rfl
    have zxc2 := zx.2 2 _ rfl
    have zxc3 := zx.2 3 _ rfl
    obtain ⟨w8, e_w8⟩ : ∃ w', w7.alloc (.cells #[.int .i64 4, .int .i64 (pa : Int), .int .i64 (pb : Int), .int .i64 0] 38) = w' := ⟨_, rfl⟩
    have b10 : Below w7.heap.size w7 w8 := e_w8 ▸ below_lit _ _
    have R10 := row_on hrow9 b10
    have Z10 := ZC.below b10 ZC.lt
    have BC10 := Below.step BC9 b10
    have hnil := Bx.ns (L := [⟨4, (pa : Int), (pb : Int), 0⟩]) (e_w8 ▸ Bx.made_k w7 rfl #[.int .i64 4, .int .i64 (pa : Int), .int .i64 (pb : Int), .int .i64 0] 38)
    have hbs10 : w5.heap.size ≤ w8.heap.size := BC10.size
    have cn10 : ∀ ad : Addr, (some ⟨w7.heap.size, 0, none⟩ : Option Addr) = some ad → ∀ (j : Nat) (u : Value), (ndC ⟨4, (pa : Int), (pb : Int), 0⟩)[j]? = some u → w8.cell? (ad.add j) = some u := fun ad e j u hu => hnil.cells ad e j u (by simpa using hu)
    have on10 : ∀ u ∈ ndC ⟨4, (pa : Int), (pb : Int), 0⟩, u.oneCell' = true := fun u hu => one_nd [⟨4, (pa : Int), (pb : Int), 0⟩] u (by simpa using hu)
    have hn61 : nn + 1 ≤ 1000000 := by omega
    go_upto_region 18 with (at_builtin; refine wpList_app (A := some ⟨w7.heap.size, 0, none⟩) (m := 1) (c := 1) rfl _ _ 22 rfl elm_node (by omega) (by omega) w5.heap.size _ _ _ rfl R10 (ndC ⟨4, (pa : Int), (pb : Int), 0⟩) rfl (fun e => by cases e) rfl cn10 on10 hn61 hbs10 ?_; intro v11 w9 R11 G11; obtain ⟨A11, c11, rfl, sw11, hl11, _⟩ := row_at R11; have Z11 := Z10.kept G11 (own_ne R10 (fun b e => by cases e; omega)); have z11c := Z11.cell 0; have z11f := Z11.free 0; simp only [List.getElem?_cons_zero] at z11c)
    have Z12 := Z11.put 0 (.slice A11 (nn + 1) c11)
    have G12 := grown_set w9 ⟨w6.heap.size, 0, none⟩ (.slice A11 (nn + 1) c11)
    have R12 := R11.kept G12 (own_ne2 R11 (row_ne R11 Z11 (by decide)))
    have BC12 := (row_below R10 BC10 (Nat.le_refl _) G11).setCell (p := ⟨w6.heap.size, 0, none⟩) (Nat.le_trans hb1 (Nat.le_of_lt hb2)) (.slice A11 (nn + 1) c11)
    have hmove : ∀ b, sg ≤ b → b < w6.heap.size → (w9.setCell ⟨w6.heap.size, 0, none⟩ (.slice A11 (nn + 1) c11)).heap[b]? = w6.heap[b]? := fun b h1 h2 => by
      have l9 := b9.size
      have l10 := b10.size
      rw [Below.heap_setCell w9 _ _ b (show b ≠ w6.heap.size by omega), G11.block b (by omega) (own_ne R10 (fun q e => by cases e; omega)), b10.block b (by omega), b9.block b h2]
    have hsz12 : w6.heap.size ≤ (w9.setCell ⟨w6.heap.size, 0, none⟩ (.slice A11 (nn + 1) c11)).heap.size := by have := b9.size; have := b10.size; have := G11.size; have := G12.size; omega
    obtain ⟨w10, e_w10⟩ : ∃ w', w9.setCell ⟨w6.heap.size, 0, none⟩ (.slice A11 (nn + 1) c11) = w' := ⟨_, rfl⟩
    clear z11c z11f hzc0 zxc0 zxc1 zxc2 zxc3
    rw [e_w10] at Z12 R12 BC12 hmove hsz12 ⊢
    clear e_w10 G12 G11 R11 R10 Z11 Z10 ZC hrow9 BC9 BC10 b9 b10 hnil e_w8 cn10 on10 hbs10 zx zxC hrow BC BW hn hi1 z0
    have BW := Below.step BWC BC12
    have hi1 := hi1C.on BC12
    have hfl : (N ++ [(⟨4, (pa : Int), (pb : Int), 0⟩ : Nd)]).flatMap ndC = N.flatMap ndC ++ ndC ⟨4, (pa : Int), (pb : Int), 0⟩ := by rw [List.flatMap_append]; simp
    rw [← hfl] at R12
    have hm : Nt w10 A11 (nn + 1) c11 Bi ni di Bo no do' (N ++ [⟨4, (pa : Int), (pb : Int), 0⟩]) I O := by
      obtain ⟨A', c', q0, _, _, q1⟩ := row_ns R12
      injection q0 with qa qb qc
      subst qa qc
      exact ⟨q1, hpi.move hsz12 hmove, hpo.move hsz12 hmove, swi, swo, by omega, hnC.hs, hnC.hb⟩
    have hlen : Hid ((ints (some (dd ++ [v]))).length = nn + 1) := Lib.hid (by have := hnC.n.1; unfold ints; rw [List.length_map]; simp; omega)
    have hpre : Hid (ints (some (dd ++ [v])) = ints (some dd) ++ [(v : Int)]) := Lib.hid (by unfold ints; simp)
    have hil : Hid ((ints (some dd)).length = nn) := Lib.hid (by have := hnC.n.1; unfold ints; rw [List.length_map]; simp; omega)
    clear hmove hsz12 R12 hfl hpi hpo hnC hi1C z0C BWC BC12
    have zm0 := Z12.cell 0
    have zm1 := Z12.cell 1
    have zm2 := Z12.cell 2
    simp only [List.set_cons_zero, List.getElem?_cons_succ, List.getElem?_cons_zero] at zm0 zm1 zm2
    go_wp2_with fail
    refine (levels_as hm HLV.out).mono ?_
    rintro en w11 ⟨A2, m2, c2, rfl, hi2, hmc2, b⟩
    replace hi1 := hi1.on b
    replace BW := Below.step BW b
    clear b
    obtain rfl : m2 = nn + 1 := by rw [← hi2.1]; exact hlen.out
    clear zm0 zm1 zm2 Z12
    have hi3 : Is w11 A2 nn (ints (some dd)) := ⟨hil.out, fun k x hx => hi2.2 k x (by rw [hpre.out, List.getElem?_append_left (List.getElem?_eq_some_iff.1 hx).1]; exact hx)⟩
    have f1 : (0 : Int) ≤ (nn : Int) := by omega
    have f2 : (nn : Int) ≤ (c2 : Int) := by omega
    clear hm
    go_wp2_with fail
    refine (rints_as hi3 hi1 (by omega) true (by simp)).mono ?_
    rintro en w12 ⟨rfl, b⟩
    replace hi1 := hi1.on b
    replace hi2 := hi2.on b
    replace hi3 := hi3.on b
    replace BW := Below.step BW b
    clear b
    go_wp2_with fail
    go_ret
    exact ⟨rfl, BW⟩
  by_cases ck5 : K = 3
  case pos =>
    subst ck5
    have hx : formedS ((N.length + 1 : Nat) : Int) ⟨5, (pa : Int), (pb : Int), 0⟩ = true := by
      have hnl := hn.n.1
      unfold formedS usesS manyS kindS sameN bareS restS placeS bitS
      simp <;> omega
    have hneed : ∀ j ∈ needS ⟨5, (pa : Int), (pb : Int), 0⟩, j < N.length := by
      have hnl := hn.n.1
      unfold needS usesS manyS
      simp <;> omega
    obtain ⟨hdl, v, hlv⟩ := levelS_app HL.out hx hneed (by simp)
    have HLV := Lib.hid hlv
    clear hx hneed hlv
    have z0c0 := z0.2 0 _ rfl
    have z0c1 := z0.2 1 _ rfl
    have z0c2 := z0.2 2 _ rfl
    go_upto_region 16 with fail
    clear z0c0 z0c1 z0c2
    obtain ⟨w5, e_w5⟩ : ∃ w', w4.alloc (.cells #[.int .i64 5, .int .i64 (pa : Int), .int .i64 (pb : Int), .int .i64 0] 38) = w' := ⟨_, rfl⟩
    have b : Below w4.heap.size w4 w5 := e_w5 ▸ below_lit _ _
    have hs_w5 : w5.heap.size = w4.heap.size + 1 := e_w5 ▸ size_lit w4 _ rfl
    have zx : Bx w5 w4.heap.size [.int .i64 5, .int .i64 (pa : Int), .int .i64 (pb : Int), .int .i64 0] := e_w5 ▸ Bx.made_k w4 rfl #[.int .i64 5, .int .i64 (pa : Int), .int .i64 (pb : Int), .int .i64 0] 38
    rw [e_w5]
    clear e_w5
    replace z0 := z0.on b
    replace hn := hn.on b
    replace hi1 := hi1.on b
    replace BW := Below.step BW b
    clear b
    clear hs_w5
    have z0c0 := z0.2 0 _ rfl
    have z0c1 := z0.2 1 _ rfl
    have z0c2 := z0.2 2 _ rfl
    go_wp2_with fail
    have hnC := hn; have hi1C := hi1; have z0C := z0; have zxC := zx; have BWC := BW
    refine (clone_as hn sn (fun p hp => by have := (HBB.out p hp).1; omega)).mono ?_
    rintro en w6 ⟨Bn, dn, Bi, di, Bo, do', sg, rfl, hrow, hgs, swn, hpi, swi, hpo, swo, b⟩
    clear z0c0 z0c1 z0c2
    have BC := b
    replace z0 := z0.on b
    replace hn := hn.on b
    replace hi1 := hi1.on b
    replace zx := zx.on b
    replace BW := Below.step BW b
    clear b
    obtain ⟨hb, rfl, hb1, hb2⟩ : ∃ hb, Bn = some ⟨hb, 0, none⟩ ∧ w5.heap.size ≤ hb ∧ hb < w6.heap.size := by
      rcases row_own hrow with ⟨_, h5, _⟩ | ⟨b, e, h1, h2⟩
      · omega
      · exact ⟨b, e, h1, h2⟩
    have hbs : hb < sg := hgs hb rfl
    go_upto_region 17 with fail
    obtain ⟨w7, e_w7⟩ : ∃ w', w6.alloc (.cells #[.slice (some ⟨hb, 0, none⟩) nn dn, .slice Bi ni di, .slice Bo no do'] 25) = w' := ⟨_, rfl⟩
    have ZC : Own w7 w6.heap.size 25 [.slice (some ⟨hb, 0, none⟩) nn dn, .slice Bi ni di, .slice Bo no do'] := e_w7 ▸ Own.made w6 25 [.slice (some ⟨hb, 0, none⟩) nn dn, .slice Bi ni di, .slice Bo no do']
    have b : Below w6.heap.size w6 w7 := e_w7 ▸ below_lit _ _
    have b9 := b
    rw [e_w7]
    clear e_w7
    replace zx := zx.on b
    have hrow9 := row_on hrow b
    have BC9 := Below.step BC b
    have hzc0 := ZC.cell 0
    simp only [List.getElem?_cons_zero] at hzc0
    have zxc0 := zx.2 0 _ rfl
    have zxc1 := zx.2 1 _ rfl
    have zxc2 := zx.2 2 _ rfl
    have zxc3 := zx.2 3 _ rfl
    obtain ⟨w8, e_w8⟩ : ∃ w', w7.alloc (.cells #[.int .i64 5, .int .i64 (pa : Int), .int .i64 (pb : Int), .int .i64 0] 38) = w' := ⟨_, rfl⟩
    have b10 : Below w7.heap.size w7 w8 := e_w8 ▸ below_lit _ _
    have R10 := row_on hrow9 b10
    have Z10 := ZC.below b10 ZC.lt
    have BC10 := Below.step BC9 b10
    have hnil := Bx.ns (L := [⟨5, (pa : Int), (pb : Int), 0⟩]) (e_w8 ▸ Bx.made_k w7 rfl #[.int .i64 5, .int .i64 (pa : Int), .int .i64 (pb : Int), .int .i64 0] 38)
    have hbs10 : w5.heap.size ≤ w8.heap.size := BC10.size
    have cn10 : ∀ ad : Addr, (some ⟨w7.heap.size, 0, none⟩ : Option Addr) = some ad → ∀ (j : Nat) (u : Value), (ndC ⟨5, (pa : Int), (pb : Int), 0⟩)[j]? = some u → w8.cell? (ad.add j) = some u := fun ad e j u hu => hnil.cells ad e j u (by simpa using hu)
    have on10 : ∀ u ∈ ndC ⟨5, (pa : Int), (pb : Int), 0⟩, u.oneCell' = true := fun u hu => one_nd [⟨5, (pa : Int), (pb : Int), 0⟩] u (by simpa using hu)
    have hn61 : nn + 1 ≤ 1000000 := by omega
    go_upto_region 18 with (at_builtin; refine wpList_app (A := some ⟨w7.heap.size, 0, none⟩) (m := 1) (c := 1) rfl _ _ 22 rfl elm_node (by omega) (by omega) w5.heap.size _ _ _ rfl R10 (ndC ⟨5, (pa : Int), (pb : Int), 0⟩) rfl (fun e => by cases e) rfl cn10 on10 hn61 hbs10 ?_; intro v11 w9 R11 G11; obtain ⟨A11, c11, rfl, sw11, hl11, _⟩ := row_at R11; have Z11 := Z10.kept G11 (own_ne R10 (fun b e => by cases e; omega)); have z11c := Z11.cell 0; have z11f := Z11.free 0; simp only [List.getElem?_cons_zero] at z11c)
    have Z12 := Z11.put 0 (.slice A11 (nn + 1) c11)
    have G12 := grown_set w9 ⟨w6.heap.size, 0, none⟩ (.slice A11 (nn + 1) c11)
    have R12 := R11.kept G12 (own_ne2 R11 (row_ne R11 Z11 (by decide)))
    have BC12 := (row_below R10 BC10 (Nat.le_refl _) G11).setCell (p := ⟨w6.heap.size, 0, none⟩) (Nat.le_trans hb1 (Nat.le_of_lt hb2)) (.slice A11 (nn + 1) c11)
    have hmove : ∀ b, sg ≤ b → b < w6.heap.size → (w9.setCell ⟨w6.heap.size, 0, none⟩ (.slice A11 (nn + 1) c11)).heap[b]? = w6.heap[b]? := fun b h1 h2 => by
      have l9 := b9.size
      have l10 := b10.size
      rw [Below.heap_setCell w9 _ _ b (show b ≠ w6.heap.size by omega), G11.block b (by omega) (own_ne R10 (fun q e => by cases e; omega)), b10.block b (by omega), b9.block b h2]
    have hsz12 : w6.heap.size ≤ (w9.setCell ⟨w6.heap.size, 0, none⟩ (.slice A11 (nn + 1) c11)).heap.size := by have := b9.size; have := b10.size; have := G11.size; have := G12.size; omega
    obtain ⟨w10, e_w10⟩ : ∃ w', w9.setCell ⟨w6.heap.size, 0, none⟩ (.slice A11 (nn + 1) c11) = w' := ⟨_, rfl⟩
    clear z11c z11f hzc0 zxc0 zxc1 zxc2 zxc3
    rw [e_w10] at Z12 R12 BC12 hmove hsz12 ⊢
    clear e_w10 G12 G11 R11 R10 Z11 Z10 ZC hrow9 BC9 BC10 b9 b10 hnil e_w8 cn10 on10 hbs10 zx zxC hrow BC BW hn hi1 z0
    have BW := Below.step BWC BC12
    have hi1 := hi1C.on BC12
    have hfl : (N ++ [(⟨5, (pa : Int), (pb : Int), 0⟩ : Nd)]).flatMap ndC = N.flatMap ndC ++ ndC ⟨5, (pa : Int), (pb : Int), 0⟩ := by rw [List.flatMap_append]; simp
    rw [← hfl] at R12
    have hm : Nt w10 A11 (nn + 1) c11 Bi ni di Bo no do' (N ++ [⟨5, (pa : Int), (pb : Int), 0⟩]) I O := by
      obtain ⟨A', c', q0, _, _, q1⟩ := row_ns R12
      injection q0 with qa qb qc
      subst qa qc
      exact ⟨q1, hpi.move hsz12 hmove, hpo.move hsz12 hmove, swi, swo, by omega, hnC.hs, hnC.hb⟩
    have hlen : Hid ((ints (some (dd ++ [v]))).length = nn + 1) := Lib.hid (by have := hnC.n.1; unfold ints; rw [List.length_map]; simp; omega)
    have hpre : Hid (ints (some (dd ++ [v])) = ints (some dd) ++ [(v : Int)]) := Lib.hid (by unfold ints; simp)
    have hil : Hid ((ints (some dd)).length = nn) := Lib.hid (by have := hnC.n.1; unfold ints; rw [List.length_map]; simp; omega)
    clear hmove hsz12 R12 hfl hpi hpo hnC hi1C z0C BWC BC12
    have zm0 := Z12.cell 0
    have zm1 := Z12.cell 1
    have zm2 := Z12.cell 2
    simp only [List.set_cons_zero, List.getElem?_cons_succ, List.getElem?_cons_zero] at zm0 zm1 zm2
    go_wp2_with fail
    refine (levels_as hm HLV.out).mono ?_
    rintro en w11 ⟨A2, m2, c2, rfl, hi2, hmc2, b⟩
    replace hi1 := hi1.on b
    replace BW := Below.step BW b
    clear b
    obtain rfl : m2 = nn + 1 := by rw [← hi2.1]; exact hlen.out
    clear zm0 zm1 zm2 Z12
    have hi3 : Is w11 A2 nn (ints (some dd)) := ⟨hil.out, fun k x hx => hi2.2 k x (by rw [hpre.out, List.getElem?_append_left (List.getElem?_eq_some_iff.1 hx).1]; exact hx)⟩
    have f1 : (0 : Int) ≤ (nn : Int) := by omega
    have f2 : (nn : Int) ≤ (c2 : Int) := by omega
    clear hm
    go_wp2_with fail
    refine (rints_as hi3 hi1 (by omega) true (by simp)).mono ?_
    rintro en w12 ⟨rfl, b⟩
    replace hi1 := hi1.on b
    replace hi2 := hi2.on b
    replace hi3 := hi3.on b
    replace BW := Below.step BW b
    clear b
    go_wp2_with fail
    go_ret
    exact ⟨rfl, BW⟩
  omega
end Go.Proofs.Ytcmdfkmjbfppgaa
