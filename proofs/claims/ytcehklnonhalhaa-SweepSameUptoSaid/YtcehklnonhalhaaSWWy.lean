/-
  What the proofs of SweepTells and SweepCones and SweepSame need: Wy.
-/
import Derived.Test.YtcehklnonhalhaaSWWn
import Derived.Test.YtcehklnonhalhaaSWHR
import Derived.Test.YtcehklnonhalhaaSWLexG
namespace Go.Proofs.Ytcehklnonhalhaa
open Go.RowKit
set_option linter.unusedVariables false
set_option maxRecDepth 4000

/-- swept again all counts. -/
theorem sw_again {N M : List Nd} {I O : List Pt} {K : List Nat} {P : List Int} (re : Re N M K P) (hI : PK K I) (hO : PK K O) (hf : N.all (formedS N.length) = true) (hr : ∀ q ∈ K, Rch N (fun p => (p : Int) ∈ comesS I ++ comesS O) q) {B : List Bool} (hB : ∀ p, B.getD p false = true ↔ Rch M (fun p => (p : Int) ∈ comesS (I.map (outF P)) ++ comesS (O.map (outF P))) p) : ∀ p, p < M.length → B.getD p false = true := fun p hp => by
  obtain ⟨q, hq, hm⟩ := idx_of (K := K) (j := p) (by rw [← re.len]; exact hp)
  obtain ⟨j, hj, hrj⟩ := re.rch hf (Y := comesS I ++ comesS O) (fun y hy => by
    rcases List.mem_append.1 hy with hy | hy
    · exact hI.comes y hy
    · exact hO.comes y hy) (hr q hm)
  have e1 := re.inv _ _ hq
  have e2 := re.inv _ _ hj
  obtain rfl : p = j := by omega
  rw [hB, comes_mv, comes_mv, ← List.map_append]
  exact hrj

set_option maxRecDepth 20000 in
set_option maxHeartbeats 8000000 in
theorem sweepSame_as {An Ai Ao : Option Addr} {nn cn ni ci no co : Nat} {N : List Nd} {I O : List Pt} {w : World} (h : NetIn w An nn cn Ai ni ci Ao no co N I O) {As : Option Addr} {ns cs : Nat} {T : List (Sm × List Sn)} (hs : NnE 1048576 w As ns T) (hns : ns ≤ 1048576) :
    Calls Try.prog 8 #[.agg #[.slice An nn cn, .slice Ai ni ci, .slice Ao no co], .slice As ns cs] w fun en w' => en = .returned (.bool true) ∧ Below w.heap.size w w' := by
  go_enter Try.func8, Try.ntmps8
  go_upto_region 1 with fail
  obtain ⟨w1, e_w1⟩ : ∃ w', w.alloc (.cells #[.slice An nn cn, .slice Ai ni ci, .slice Ao no co] 25) = w' := ⟨_, rfl⟩
  have z0 : Bx w1 w.heap.size [.slice An nn cn, .slice Ai ni ci, .slice Ao no co] := e_w1 ▸ Bx.made_k w rfl #[.slice An nn cn, .slice Ai ni ci, .slice Ao no co] 25
  have BW : Below w.heap.size w w1 := e_w1 ▸ below_lit _ _
  rw [e_w1]
  clear e_w1
  replace h := h.on BW
  replace hs := hs.on BW
  go_wp2_with fail
  refine (awake11_any _).mono ?_
  rintro en w2 ⟨rfl, b⟩
  replace h := h.on b
  replace hs := hs.on b
  replace z0 := z0.on b
  replace BW := Below.step BW b
  clear b
  go_upto_region 3 with fail
  have bd : Below w2.heap.size w2 w2.drew := (Below.refl _ _).drew
  replace h := h.on bd
  replace hs := hs.on bd
  replace z0 := z0.on bd
  replace BW := Lib.hid (Below.step BW bd)
  clear bd
  go_region_held3 (fun w' => w'.cell? ⟨w.heap.size, 0, none⟩ = some (.slice An nn cn) ∧ w'.cell? ⟨w.heap.size, 1, none⟩ = some (.slice Ai ni ci) ∧ w'.cell? ⟨w.heap.size, 2, none⟩ = some (.slice Ao no co))
    ((with_reducible exact bx3 z0))
    (first
      | (go_at_call 16
         (with_reducible refine (scriptE_as hs hns).mono ?_)
         rintro en w5 ⟨A5, c5, T5, rfl, hs5, hsnd, hscr, b⟩
         replace hsnd := Lib.hid hsnd
         replace hscr := Lib.hid hscr
         replace h := h.on b
         replace hs := hs.on b
         replace z0 := z0.on b
         replace BW := Lib.hid (Below.step BW.out b)
         clear b)
      | (go_at_call 15
         (with_reducible refine (large9_as h hs5 hns).mono ?_)
         rintro en w6 ⟨v, rfl, hv, b⟩
         replace hv := Lib.hid hv
         replace h := h.on b
         replace hs := hs.on b
         replace hs5 := hs5.on b
         replace z0 := z0.on b
         replace BW := Lib.hid (Below.step BW.out b)
         clear b))
  replace BW := BW.out
  cases v
  case true =>
    go_wp2_with fail
    go_ret
    exact ⟨rfl, BW⟩
  obtain ⟨hlg, hns20, hle5⟩ := hv.out rfl
  have hle : Le 1000 T := Le.same hs hs5 hsnd.out hle5
  obtain ⟨hn, hn60, hi66, ho66, hbb⟩ := h.nt hlg
  have HB4 : Hid (∀ p ∈ I ++ O, p.bits.length ≤ 4000) := Lib.hid fun p hp => (hbb p hp).1
  have HBB : Hid (∀ p ∈ I ++ O, p.bits.length ≤ 100000) := Lib.hid fun p hp => by have := (hbb p hp).1; omega
  have sn := h.sn
  have hs2 : NnB 30000 w6 As ns (scr T) := (hs.nb hle).le (by omega)
  have hsE := hs
  have hLE := Lib.hid hle
  clear h hlg hbb hv hle5 hs5 hsnd hscr hle hs
  obtain ⟨d, e, hl⟩ : ∃ d e, levelS N I O = (d, e) := ⟨_, _, rfl⟩
  have c0 := z0.2 0 _ rfl; have c1 := z0.2 1 _ rfl; have c2 := z0.2 2 _ rfl
  by_cases he : e = 0
  · subst he
    obtain ⟨dd, rfl⟩ := some_of9 hl
    obtain ⟨L, lx⟩ := lv_x hl
    have LX := Lib.hid lx
    have HLN := Lib.hid hn.n.1
    clear hl lx
    go_upto_region 6 with (go_at_call 26; (with_reducible refine (ssweep_yes hn sn hi66 ho66 HB4.out LX.out).mono ?_); (rintro en w7 ⟨⟨B, Bk, kk, ck, Bi, di, Bo, do', rfl, hlB, hrB, hkl, hf, sf⟩, b⟩; clear c0 c1 c2; replace hn := hn.on b; replace hs2 := hs2.on b; replace hsE := hsE.on b; replace z0 := z0.on b; replace BW := Below.step BW b; clear b))
    have HRE : Hid (Re N ((kpL N B nn).map (mvN (plS N B nn nn))) (kpQ B nn) (plS N B nn nn) ∧ PK (kpQ B nn) I ∧ PK (kpQ B nn) O) := Lib.hid (by
      have e := HLN.out
      subst e
      exact re_sweep hlB LX.out.fm (lx_plc LX.out) hrB)
    have HKR : Hid (∀ q ∈ kpQ B nn, Rch N (fun p => (p : Int) ∈ comesS I ++ comesS O) q) := Lib.hid fun q hq => (hrB q).1 (kpQ_mem.1 hq).2
    obtain ⟨P, hP⟩ : ∃ P, plS N B nn nn = P := ⟨_, rfl⟩
    obtain ⟨K, hK⟩ : ∃ K, kpQ B nn = K := ⟨_, rfl⟩
    rw [hP] at hf HRE
    rw [hK] at HRE HKR
    obtain ⟨M, hM⟩ : ∃ M, (kpL N B nn).map (mvN P) = M := ⟨_, rfl⟩
    have hml : M.length = kk := by rw [← hM, List.length_map]; exact hkl
    rw [hM] at hf HRE
    have HML := Lib.hid hml
    clear hM hK hP hlB hrB hkl hml
    have hx := HRE.out.1.all HRE.out.2.1 HRE.out.2.2 LX.out.lev LX.out.all
    have HX := Lib.hid hx
    obtain ⟨d2, hd2⟩ := hx.lev
    have HD2 := Lib.hid hd2
    obtain ⟨L2, lx2⟩ := lv_x hd2
    have LX2 := Lib.hid lx2
    have HF4 : Hid (∀ p ∈ I.map (outF P) ++ O.map (outF P), p.bits.length ≤ 4000) := Lib.hid fun p hp => by
      rw [← List.map_append] at hp
      obtain ⟨q, hq, rfl⟩ := List.mem_map.1 hp
      unfold outF
      rw [List.length_map]
      exact HB4.out q hq
    have HFB : Hid (∀ p ∈ I.map (outF P) ++ O.map (outF P), p.bits.length ≤ 100000) := Lib.hid fun p hp => by have := HF4.out p hp; omega
    have HF1 : Hid (N.all (formedS nn) = true ∧ (I ++ O).all (bitsS nn) = true) := Lib.hid (by rw [← HLN.out]; exact ⟨LX.out.fm, LX.out.bits⟩)
    have HF2 : Hid (M.all (formedS kk) = true ∧ (I.map (outF P) ++ O.map (outF P)).all (bitsS kk) = true) := Lib.hid (by rw [← HML.out]; exact ⟨hx.fm, hx.bits⟩)
    obtain ⟨f, hfa⟩ := LX.out.all
    obtain ⟨g, hga⟩ := HX.out.all
    have HFA := Lib.hid hfa
    have HGA := Lib.hid hga
    have HRUN : Hid (∀ L L2, Odr N L → Odr M L2 → rrunX M (I.map (outF P)) (O.map (outF P)) (nI L2) (scr T) = rrunX N I O (nI L) (scr T)) := Lib.hid (HX.out.run (scr T))
    have HAG : Hid (∀ B2 : List Bool, (∀ p, B2.getD p false = true ↔ Rch M (fun p => (p : Int) ∈ comesS (I.map (outF P)) ++ comesS (O.map (outF P))) p) → (kpL M B2 kk).length = kk ∧ (kpL M B2 kk).map (mvN (plS M B2 kk kk)) = M ∧ (I.map (outF P)).map (outF (plS M B2 kk kk)) = I.map (outF P) ∧ (O.map (outF P)).map (outF (plS M B2 kk kk)) = O.map (outF P)) := Lib.hid fun B2 hB2 => by
      have e := HML.out
      subst e
      exact again_id hx.fm hx.bits (sw_again HRE.out.1 HRE.out.2.1 HRE.out.2.2 LX.out.fm HKR.out hB2)
    clear hx hd2 lx2 hfa hga
    obtain ⟨I2, hI2⟩ : ∃ I2, I.map (outF P) = I2 := ⟨_, rfl⟩
    obtain ⟨O2, hO2⟩ : ∃ O2, O.map (outF P) = O2 := ⟨_, rfl⟩
    have HPI : Hid (Pa I I2 ∧ Pa O O2) := Lib.hid (by rw [← hI2, ← hO2]; exact ⟨outF_pa P I, outF_pa P O⟩)
    rw [hI2, hO2] at hf HD2 LX2 HF4 HFB HF2 HRUN HAG
    clear hI2 hO2 HX HRE HKR
    obtain ⟨w8, e_w8⟩ : ∃ w', w7.alloc (.cells #[.slice Bk kk ck, .slice Bi ni di, .slice Bo no do'] 25) = w' := ⟨_, rfl⟩
    have zf : Bx w8 w7.heap.size [.slice Bk kk ck, .slice Bi ni di, .slice Bo no do'] := e_w8 ▸ Bx.made_k w7 rfl #[.slice Bk kk ck, .slice Bi ni di, .slice Bo no do'] 25
    have b : Below w7.heap.size w7 w8 := e_w8 ▸ below_lit _ _
    rw [e_w8]
    replace hn := hn.on b
    replace hs2 := hs2.on b
    replace hsE := hsE.on b
    replace z0 := z0.on b
    replace hf := hf.on b
    replace BW := Below.step BW b
    obtain ⟨s5, hs5⟩ : ∃ s5, w7.heap.size = s5 := ⟨_, rfl⟩
    rw [hs5] at zf ⊢
    clear e_w8 b hs5
    have c0 := zf.2 0 _ rfl; have c1 := zf.2 1 _ rfl; have c2 := zf.2 2 _ rfl
    go_upto_region 9 with (go_at_call 26; (with_reducible refine (ssweep_yes hf sf hi66 ho66 HF4.out LX2.out).mono ?_); (rintro en w9 ⟨⟨B2, Ck, k2, ck2, Ci, di2, Co, do2, rfl, hlB2, hrB2, hkl2, hg, _⟩, b⟩; clear c0 c1 c2; replace hn := hn.on b; replace hs2 := hs2.on b; replace hsE := hsE.on b; replace z0 := z0.on b; replace hf := hf.on b; replace zf := zf.on b; replace BW := Below.step BW b; clear b))
    obtain ⟨hk2, hm2, hi2, ho2⟩ := HAG.out B2 hrB2
    obtain rfl : k2 = kk := hkl2.symm.trans hk2
    rw [hm2, hi2, ho2] at hg
    have q1 : IntKind.i64.wrap ((nn : Int) - ((nn : Int) - (k2 : Int))) = (k2 : Int) := by rw [IntKind.wrap_i64]; have := hf.hn; omega
    have q3 : (k2 : Int) - (k2 : Int) = 0 := by omega
    have q2 : ((k2 : Int) == (k2 : Int)) = true := by simp
    rw [q3]
    clear hk2 hm2 hi2 ho2 hlB2 hrB2 hkl2 q3 HAG
    obtain ⟨w10, e_w10⟩ : ∃ w', w9.alloc (.cells #[.slice Ck k2 ck2, .slice Ci ni di2, .slice Co no do2] 25) = w' := ⟨_, rfl⟩
    have zg : Bx w10 w9.heap.size [.slice Ck k2 ck2, .slice Ci ni di2, .slice Co no do2] := e_w10 ▸ Bx.made_k w9 rfl #[.slice Ck k2 ck2, .slice Ci ni di2, .slice Co no do2] 25
    have b : Below w9.heap.size w9 w10 := e_w10 ▸ below_lit _ _
    rw [e_w10]
    replace hn := hn.on b
    replace hs2 := hs2.on b
    replace hsE := hsE.on b
    replace z0 := z0.on b
    replace hf := hf.on b
    replace hg := hg.on b
    replace zf := zf.on b
    replace BW := Below.step BW b
    obtain ⟨s8, hs8⟩ : ∃ s8, w9.heap.size = s8 := ⟨_, rfl⟩
    rw [hs8] at zg ⊢
    clear e_w10 b hs8
    replace BW := Lib.hid BW
    try dsimp only [List.append]
    refine LexG.region_plan LexG.below_ok 0 [0, 1, 2, 3, 4, 5, 6, 7, 8, 9, 10, 11, 12, 13, 14, 15, 16, 17, 18, 19, 20, 21, 22, 23, 24, 25, 26, 27, 28, 29, 30, 31, 32, 33, 34] (by kernel_rfl) (by kernel_rfl) (by kernel_rfl) (by kernel_rfl) (by kernel_rfl) ?_
    dsimp only [LexG.pick, LexG.nth]
    have bd : Below w10.heap.size w10 w10.drew := (Below.refl _ _).drew
    replace hn := hn.on bd
    replace hs2 := hs2.on bd
    replace hsE := hsE.on bd
    replace z0 := z0.on bd
    replace hf := hf.on bd
    replace hg := hg.on bd
    replace zf := zf.on bd
    replace zg := zg.on bd
    replace BW := Lib.hid (Below.step BW.out bd)
    clear bd
    obtain ⟨w21, e_w⟩ : ∃ w', w10.drew = w' := ⟨_, rfl⟩
    rw [e_w] at hn hs2 hsE z0 hf hg zf zg BW ⊢
    clear e_w
    have lf0 := fun s : LexG.Wd (fun w w' => Below w.heap.size w w') w21 => (z0.on s.rel).n0
    have lf1 := fun s : LexG.Wd (fun w w' => Below w.heap.size w w') w21 => (z0.on s.rel).n1
    have lf2 := fun s : LexG.Wd (fun w w' => Below w.heap.size w w') w21 => (z0.on s.rel).n2
    have lf3 := fun s : LexG.Wd (fun w w' => Below w.heap.size w w') w21 => (zf.on s.rel).n0
    have lf4 := fun s : LexG.Wd (fun w w' => Below w.heap.size w w') w21 => (zf.on s.rel).n1
    have lf5 := fun s : LexG.Wd (fun w w' => Below w.heap.size w w') w21 => (zf.on s.rel).n2
    have lf6 := fun s : LexG.Wd (fun w w' => Below w.heap.size w w') w21 => (zg.on s.rel).n0
    have lf7 := fun s : LexG.Wd (fun w w' => Below w.heap.size w w') w21 => (zg.on s.rel).n1
    have lf8 := fun s : LexG.Wd (fun w w' => Below w.heap.size w w') w21 => (zg.on s.rel).n2
    refine LexG.lex_plain 1 (by kernel_rfl) ?_
    dsimp only [List.take, List.drop]
    repeat go_big_quiet_step (fail)
    refine wpQuiet_nil ?_
    clear lf0 lf1 lf2 lf3 lf4 lf5 lf6 lf7 lf8
    refine LexG.lex_call (by kernel_rfl) (by kernel_rfl) (fun K hK => ?_)
    go_simp
    refine (check_as hf HD2.out).mono ?_
    rintro en w22 ⟨rfl, b⟩
    dsimp only
    refine hK _ _ b ?_
    clear hK K
    replace hn := hn.on b
    replace hs2 := hs2.on b
    replace hsE := hsE.on b
    replace z0 := z0.on b
    replace hf := hf.on b
    replace hg := hg.on b
    replace zf := zf.on b
    replace zg := zg.on b
    replace BW := Lib.hid (Below.step BW.out b)
    clear b
    have lf0 := fun s : LexG.Wd (fun w w' => Below w.heap.size w w') w22 => (z0.on s.rel).n0
    have lf1 := fun s : LexG.Wd (fun w w' => Below w.heap.size w w') w22 => (z0.on s.rel).n1
    have lf2 := fun s : LexG.Wd (fun w w' => Below w.heap.size w w') w22 => (z0.on s.rel).n2
    have lf3 := fun s : LexG.Wd (fun w w' => Below w.heap.size w w') w22 => (zf.on s.rel).n0
    have lf4 := fun s : LexG.Wd (fun w w' => Below w.heap.size w w') w22 => (zf.on s.rel).n1
    have lf5 := fun s : LexG.Wd (fun w w' => Below w.heap.size w w') w22 => (zf.on s.rel).n2
    have lf6 := fun s : LexG.Wd (fun w w' => Below w.heap.size w w') w22 => (zg.on s.rel).n0
    have lf7 := fun s : LexG.Wd (fun w w' => Below w.heap.size w w') w22 => (zg.on s.rel).n1
    have lf8 := fun s : LexG.Wd (fun w w' => Below w.heap.size w w') w22 => (zg.on s.rel).n2
    refine LexG.lex_plain 23 (by kernel_rfl) ?_
    dsimp only [List.take, List.drop]
    repeat go_big_quiet_step (fail)
    refine wpQuiet_nil ?_
    clear lf0 lf1 lf2 lf3 lf4 lf5 lf6 lf7 lf8
    refine LexG.lex_call (by kernel_rfl) (by kernel_rfl) (fun K hK => ?_)
    go_simp
    refine (rsame_as hg hf true (sameS_me _ _ _)).mono ?_
    rintro en w23 ⟨rfl, b⟩
    dsimp only
    refine hK _ _ b ?_
    clear hK K
    replace hn := hn.on b
    replace hs2 := hs2.on b
    replace hsE := hsE.on b
    replace z0 := z0.on b
    replace hf := hf.on b
    replace hg := hg.on b
    replace zf := zf.on b
    replace zg := zg.on b
    replace BW := Lib.hid (Below.step BW.out b)
    clear b
    have lf0 := fun s : LexG.Wd (fun w w' => Below w.heap.size w w') w23 => (z0.on s.rel).n0
    have lf1 := fun s : LexG.Wd (fun w w' => Below w.heap.size w w') w23 => (z0.on s.rel).n1
    have lf2 := fun s : LexG.Wd (fun w w' => Below w.heap.size w w') w23 => (z0.on s.rel).n2
    have lf3 := fun s : LexG.Wd (fun w w' => Below w.heap.size w w') w23 => (zf.on s.rel).n0
    have lf4 := fun s : LexG.Wd (fun w w' => Below w.heap.size w w') w23 => (zf.on s.rel).n1
    have lf5 := fun s : LexG.Wd (fun w w' => Below w.heap.size w w') w23 => (zf.on s.rel).n2
    have lf6 := fun s : LexG.Wd (fun w w' => Below w.heap.size w w') w23 => (zg.on s.rel).n0
    have lf7 := fun s : LexG.Wd (fun w w' => Below w.heap.size w w') w23 => (zg.on s.rel).n1
    have lf8 := fun s : LexG.Wd (fun w w' => Below w.heap.size w w') w23 => (zg.on s.rel).n2
    refine LexG.lex_plain 5 (by kernel_rfl) ?_
    dsimp only [List.take, List.drop]
    repeat go_big_quiet_step (fail)
    refine wpQuiet_nil ?_
    clear lf0 lf1 lf2 lf3 lf4 lf5 lf6 lf7 lf8
    refine LexG.lex_call (by kernel_rfl) (by kernel_rfl) (fun K hK => ?_)
    go_simp
    refine (scriptE_as hsE hns).mono ?_
    rintro en w24 ⟨A8, c8, T8, rfl, hs8, hsnd, hscr, b⟩
    dsimp only
    refine hK _ _ b ?_
    clear hK K
    replace hn := hn.on b
    replace hs2 := hs2.on b
    replace hsE := hsE.on b
    replace z0 := z0.on b
    replace hf := hf.on b
    replace hg := hg.on b
    replace zf := zf.on b
    replace zg := zg.on b
    replace BW := Lib.hid (Below.step BW.out b)
    clear b
    replace hsnd := Lib.hid hsnd
    replace hscr := Lib.hid hscr
    have hs9 := (hs8.nb (Le.same hs8 hsE hsnd.out.symm hLE.out)).le (show 1000 ≤ 30000 by omega)
    rw [hscr.out] at hs9
    refine LexG.lex_call (by kernel_rfl) (by kernel_rfl) (fun K hK => ?_)
    go_simp
    refine (alike_as hn hf HBB.out HFB.out HF1.out.1 HF1.out.2 HF2.out.1 HF2.out.2 HFA.out HGA.out HPI.out.1 HPI.out.2 hs9 (by omega) HRUN.out).mono ?_
    rintro en w25 ⟨rfl, b⟩
    dsimp only
    refine hK _ _ b ?_
    clear hK K
    replace hn := hn.on b
    replace hs2 := hs2.on b
    replace hsE := hsE.on b
    replace z0 := z0.on b
    replace hf := hf.on b
    replace hg := hg.on b
    replace zf := zf.on b
    replace zg := zg.on b
    replace hs8 := hs8.on b
    replace BW := Lib.hid (Below.step BW.out b)
    clear b
    clear hs9
    have lf0 := fun s : LexG.Wd (fun w w' => Below w.heap.size w w') w25 => (z0.on s.rel).n0
    have lf1 := fun s : LexG.Wd (fun w w' => Below w.heap.size w w') w25 => (z0.on s.rel).n1
    have lf2 := fun s : LexG.Wd (fun w w' => Below w.heap.size w w') w25 => (z0.on s.rel).n2
    have lf3 := fun s : LexG.Wd (fun w w' => Below w.heap.size w w') w25 => (zf.on s.rel).n0
    have lf4 := fun s : LexG.Wd (fun w w' => Below w.heap.size w w') w25 => (zf.on s.rel).n1
    have lf5 := fun s : LexG.Wd (fun w w' => Below w.heap.size w w') w25 => (zf.on s.rel).n2
    have lf6 := fun s : LexG.Wd (fun w w' => Below w.heap.size w w') w25 => (zg.on s.rel).n0
    have lf7 := fun s : LexG.Wd (fun w w' => Below w.heap.size w w') w25 => (zg.on s.rel).n1
    have lf8 := fun s : LexG.Wd (fun w w' => Below w.heap.size w w') w25 => (zg.on s.rel).n2
    refine LexG.lex_plain 2 (by kernel_rfl) ?_
    dsimp only [List.take, List.drop]
    repeat go_big_quiet_step (fail)
    refine wpQuiet_nil ?_
    clear lf0 lf1 lf2 lf3 lf4 lf5 lf6 lf7 lf8
    refine LexG.lex_nil ?_
    dsimp only [NoPanic]
    go_wp2_with fail
    go_ret
    exact ⟨rfl, BW.out⟩
  · have d0 : (e != 0) = true := by simpa using he
    have HL := Lib.hid hl
    have e2 : (e == e) = true := by simp
    clear hl he
    go_upto_region 6 with (go_at_call 26; (with_reducible refine (ssweep_no hn HL.out d0).mono ?_); (rintro en w7 ⟨rfl, b⟩; clear c0 c1 c2; replace hn := hn.on b; replace z0 := z0.on b; replace BW := Below.step BW b; clear b))
    obtain ⟨w8, e_w8⟩ : ∃ w', w7.alloc (.cells #[.slice none 0 0, .slice none 0 0, .slice none 0 0] 25) = w' := ⟨_, rfl⟩
    have zf : Bx w8 w7.heap.size [.slice none 0 0, .slice none 0 0, .slice none 0 0] := e_w8 ▸ Bx.made_k w7 rfl #[.slice none 0 0, .slice none 0 0, .slice none 0 0] 25
    have b : Below w7.heap.size w7 w8 := e_w8 ▸ below_lit _ _
    rw [e_w8]
    clear e_w8
    replace hn := hn.on b
    replace z0 := z0.on b
    replace BW := Below.step BW b
    clear b
    have c0 := z0.2 0 _ rfl; have c1 := z0.2 1 _ rfl; have c2 := z0.2 2 _ rfl
    go_wp2_with fail
    refine (check_as hn HL.out).mono ?_
    rintro en w9 ⟨rfl, b⟩
    clear c0 c1 c2
    replace zf := zf.on b
    replace BW := Below.step BW b
    have c0 := zf.2 0 _ rfl
    go_wp2_with fail
    go_ret
    exact ⟨rfl, BW⟩
end Go.Proofs.Ytcehklnonhalhaa
