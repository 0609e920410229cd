/-
  What the proofs of FoldSame and FoldLeft need: Yz.
-/
import Derived.Test.YtcehklnonhalhaaFSYv
import Derived.Test.YtcehklnonhalhaaFSYw
import Derived.Test.YtcehklnonhalhaaFSHR
import Derived.Test.YtcehklnonhalhaaFSLexG
namespace Go.Proofs.Ytcehklnonhalhaa
open Go.RowKit
set_option linter.unusedVariables false
set_option maxRecDepth 4000

set_option maxRecDepth 20000 in
set_option maxHeartbeats 8000000 in
theorem foldSame_as {An Ai Ao : Option Addr} {nn cn ni ci no co : Nat} {N : List Nd} {I O : List Pt} {w : World} (h : NetIn w An nn cn Ai ni ci Ao no co N I O) {As : Option Addr} {ns cs : Nat} {T : List (Sm × List Sn)} (hs : NnE 1048576 w As ns T) (hns : ns ≤ 1048576) :
    Calls Try.prog 3 #[.agg #[.slice An nn cn, .slice Ai ni ci, .slice Ao no co], .slice As ns cs] w fun en w' => en = .returned (.bool true) ∧ Below w.heap.size w w' := by
  go_enter Try.func3, Try.ntmps3
  go_upto_region 1 with fail
  obtain ⟨w1, e_w1⟩ : ∃ w', w.alloc (.cells #[.slice An nn cn, .slice Ai ni ci, .slice Ao no co] 25) = w' := ⟨_, rfl⟩
  have z0 : Bx w1 w.heap.size [.slice An nn cn, .slice Ai ni ci, .slice Ao no co] := e_w1 ▸ Bx.made_k w rfl #[.slice An nn cn, .slice Ai ni ci, .slice Ao no co] 25
  have BW : Below w.heap.size w w1 := e_w1 ▸ below_lit _ _
  rw [e_w1]
  clear e_w1
  replace h := h.on BW
  replace hs := hs.on BW
  go_wp2_with fail
  refine (awake9_any _).mono ?_
  rintro en w2 ⟨rfl, b⟩
  replace h := h.on b
  replace hs := hs.on b
  replace z0 := z0.on b
  replace BW := Below.step BW b
  clear b
  go_upto_region 3 with fail
  have bd : Below w2.heap.size w2 w2.drew := (Below.refl _ _).drew
  replace h := h.on bd
  replace hs := hs.on bd
  replace z0 := z0.on bd
  replace BW := Lib.hid (Below.step BW bd)
  clear bd
  go_region_held3 (fun w' => w'.cell? ⟨w.heap.size, 0, none⟩ = some (.slice An nn cn) ∧ w'.cell? ⟨w.heap.size, 1, none⟩ = some (.slice Ai ni ci) ∧ w'.cell? ⟨w.heap.size, 2, none⟩ = some (.slice Ao no co))
    ((with_reducible exact bx3 z0))
    (first
      | (go_at_call 16
         (with_reducible refine (scriptE_as hs hns).mono ?_)
         rintro en w5 ⟨A5, c5, T5, rfl, hs5, hsnd, hscr, b⟩
         replace hsnd := Lib.hid hsnd
         replace hscr := Lib.hid hscr
         replace h := h.on b
         replace hs := hs.on b
         replace z0 := z0.on b
         replace BW := Lib.hid (Below.step BW.out b)
         clear b)
      | (go_at_call 15
         (with_reducible refine (large9_as h hs5 hns).mono ?_)
         rintro en w6 ⟨v, rfl, hv, b⟩
         replace hv := Lib.hid hv
         replace h := h.on b
         replace hs := hs.on b
         replace hs5 := hs5.on b
         replace z0 := z0.on b
         replace BW := Lib.hid (Below.step BW.out b)
         clear b))
  replace BW := BW.out
  cases v
  case true =>
    go_wp2_with fail
    go_ret
    exact ⟨rfl, BW⟩
  obtain ⟨hlg, hns20, hle5⟩ := hv.out rfl
  have hle : Le 1000 T := Le.same hs hs5 hsnd.out hle5
  obtain ⟨hn, hn60, hi66, ho66, hbb⟩ := h.nt hlg
  have HBB : Hid (∀ p ∈ I ++ O, p.bits.length ≤ 100000) := Lib.hid fun p hp => by have := (hbb p hp).1; omega
  have sn := h.sn
  have hs2 : NnB 30000 w6 As ns (scr T) := (hs.nb hle).le (by omega)
  have hsE := hs
  have hLE := Lib.hid hle
  clear h hlg hbb hv hle5 hs5 hsnd hscr hle hs
  obtain ⟨d, e, hl⟩ : ∃ d e, levelS N I O = (d, e) := ⟨_, _, rfl⟩
  have c0 := z0.2 0 _ rfl; have c1 := z0.2 1 _ rfl; have c2 := z0.2 2 _ rfl
  by_cases he : e = 0
  · subst he
    obtain ⟨dd, rfl⟩ := some_of9 hl
    obtain ⟨L, lx⟩ := lv_x hl
    have LX := Lib.hid lx
    have HLN := Lib.hid hn.n.1
    clear hl lx
    go_upto_region 6 with (go_at_call 17; (with_reducible refine (fold_rw hn sn HBB.out LX.out).mono ?_); (rintro en w7 ⟨⟨Bn, dn, Bi, di, Bo, do', M, S, c, rfl, hrw, hf, sf⟩, b⟩; clear c0 c1 c2; replace hn := hn.on b; replace hs2 := hs2.on b; replace hsE := hsE.on b; replace z0 := z0.on b; replace BW := Below.step BW b; clear b))
    have hx := rw_all LX.out.lev LX.out.pos hrw (idx_lt LX.out.mem)
    have HX := Lib.hid hx
    obtain ⟨d2, hd2⟩ := hx.lev
    have HD2 := Lib.hid hd2
    have HFB : Hid (∀ p ∈ I ++ O.map (outF S), p.bits.length ≤ 100000) := Lib.hid fun p hp => by
      rcases List.mem_append.1 hp with hp | hp
      · exact HBB.out p (List.mem_append_left _ hp)
      · obtain ⟨q, hq, rfl⟩ := List.mem_map.1 hp
        unfold outF
        rw [List.length_map]
        exact HBB.out q (List.mem_append_right _ hq)
    have HF1 : Hid (N.all (formedS nn) = true ∧ (I ++ O).all (bitsS nn) = true) := Lib.hid (by rw [← HLN.out]; exact ⟨LX.out.fm, LX.out.bits⟩)
    have HF2 : Hid ((M.map (dffS S)).all (formedS nn) = true ∧ (I ++ O.map (outF S)).all (bitsS nn) = true) := Lib.hid (by have e := hf.n.1; rw [← e]; exact ⟨hx.fm, hx.bits⟩)
    clear hx hd2 hrw
    obtain ⟨f, hfa⟩ := LX.out.all
    obtain ⟨g, hga⟩ := HX.out.all
    have HFA := Lib.hid hfa
    have HGA := Lib.hid hga
    clear hfa hga
    have HRUN : Hid (∀ L L2, Odr N L → Odr (M.map (dffS S)) L2 → rrunX (M.map (dffS S)) I (O.map (outF S)) (nI L2) (scr T) = rrunX N I O (nI L) (scr T)) := Lib.hid (HX.out.run (scr T))
    obtain ⟨w1, e_w1⟩ : ∃ w', w7.alloc (.cells #[.slice Bn nn dn, .slice Bi ni di, .slice Bo no do'] 25) = w' := ⟨_, rfl⟩
    have b : Below w7.heap.size w7 w1 := e_w1 ▸ below_lit _ _
    have hs_w1 : w1.heap.size = w7.heap.size + 1 := e_w1 ▸ size_lit w7 _ rfl
    have zf : Bx w1 w7.heap.size [.slice Bn nn dn, .slice Bi ni di, .slice Bo no do'] := e_w1 ▸ Bx.made_k w7 rfl #[.slice Bn nn dn, .slice Bi ni di, .slice Bo no do'] 25
    rw [e_w1]
    clear e_w1
    replace hn := hn.on b
    replace hs2 := hs2.on b
    replace hsE := hsE.on b
    replace z0 := z0.on b
    replace hf := hf.on b
    replace BW := Below.step BW b
    clear b
    clear hs_w1
    go_upto_region 8 with fail
    replace BW := Lib.hid BW
    try dsimp only [List.append]
    refine LexG.region_plan LexG.below_ok 0 [0, 1, 2, 3, 4, 5, 6, 7, 8, 9, 10, 11, 12, 13, 14, 15, 16, 17, 18, 19] (by kernel_rfl) (by kernel_rfl) (by kernel_rfl) (by kernel_rfl) (by kernel_rfl) ?_
    dsimp only [LexG.pick, LexG.nth]
    have bd : Below w1.heap.size w1 w1.drew := (Below.refl _ _).drew
    replace hn := hn.on bd
    replace hs2 := hs2.on bd
    replace hsE := hsE.on bd
    replace z0 := z0.on bd
    replace hf := hf.on bd
    replace zf := zf.on bd
    replace BW := Lib.hid (Below.step BW.out bd)
    clear bd
    obtain ⟨w21, e_w⟩ : ∃ w', w1.drew = w' := ⟨_, rfl⟩
    rw [e_w] at hn hs2 hsE z0 hf zf BW ⊢
    clear e_w
    have lf0 := fun s : LexG.Wd (fun w w' => Below w.heap.size w w') w21 => (z0.on s.rel).n0
    have lf1 := fun s : LexG.Wd (fun w w' => Below w.heap.size w w') w21 => (z0.on s.rel).n1
    have lf2 := fun s : LexG.Wd (fun w w' => Below w.heap.size w w') w21 => (z0.on s.rel).n2
    have lf3 := fun s : LexG.Wd (fun w w' => Below w.heap.size w w') w21 => (zf.on s.rel).n0
    have lf4 := fun s : LexG.Wd (fun w w' => Below w.heap.size w w') w21 => (zf.on s.rel).n1
    have lf5 := fun s : LexG.Wd (fun w w' => Below w.heap.size w w') w21 => (zf.on s.rel).n2
    refine LexG.lex_plain 1 (by kernel_rfl) ?_
    dsimp only [List.take, List.drop]
    repeat go_big_quiet_step (fail)
    refine wpQuiet_nil ?_
    clear lf0 lf1 lf2 lf3 lf4 lf5
    refine LexG.lex_call (by kernel_rfl) (by kernel_rfl) (fun K hK => ?_)
    go_simp
    refine (check_as hf HD2.out).mono ?_
    rintro en w22 ⟨rfl, b⟩
    dsimp only
    refine hK _ _ b ?_
    clear hK K
    replace hn := hn.on b
    replace hs2 := hs2.on b
    replace hsE := hsE.on b
    replace z0 := z0.on b
    replace hf := hf.on b
    replace zf := zf.on b
    replace BW := Lib.hid (Below.step BW.out b)
    clear b
    have lf0 := fun s : LexG.Wd (fun w w' => Below w.heap.size w w') w22 => (z0.on s.rel).n0
    have lf1 := fun s : LexG.Wd (fun w w' => Below w.heap.size w w') w22 => (z0.on s.rel).n1
    have lf2 := fun s : LexG.Wd (fun w w' => Below w.heap.size w w') w22 => (z0.on s.rel).n2
    have lf3 := fun s : LexG.Wd (fun w w' => Below w.heap.size w w') w22 => (zf.on s.rel).n0
    have lf4 := fun s : LexG.Wd (fun w w' => Below w.heap.size w w') w22 => (zf.on s.rel).n1
    have lf5 := fun s : LexG.Wd (fun w w' => Below w.heap.size w w') w22 => (zf.on s.rel).n2
    refine LexG.lex_plain 14 (by kernel_rfl) ?_
    dsimp only [List.take, List.drop]
    repeat go_big_quiet_step (fail)
    refine wpQuiet_nil ?_
    clear lf0 lf1 lf2 lf3 lf4 lf5
    refine LexG.lex_call (by kernel_rfl) (by kernel_rfl) (fun K hK => ?_)
    go_simp
    refine (scriptE_as hsE hns).mono ?_
    rintro en w23 ⟨A8, c8, T8, rfl, hs8, hsnd, hscr, b⟩
    dsimp only
    refine hK _ _ b ?_
    clear hK K
    replace hn := hn.on b
    replace hs2 := hs2.on b
    replace hsE := hsE.on b
    replace z0 := z0.on b
    replace hf := hf.on b
    replace zf := zf.on b
    replace BW := Lib.hid (Below.step BW.out b)
    clear b
    replace hsnd := Lib.hid hsnd
    replace hscr := Lib.hid hscr
    have hs9 := (hs8.nb (Le.same hs8 hsE hsnd.out.symm hLE.out)).le (show 1000 ≤ 30000 by omega)
    rw [hscr.out] at hs9
    refine LexG.lex_call (by kernel_rfl) (by kernel_rfl) (fun K hK => ?_)
    go_simp
    refine (alike_as hn hf HBB.out HFB.out HF1.out.1 HF1.out.2 HF2.out.1 HF2.out.2 HFA.out HGA.out (Pa.self I) (outF_pa S O) hs9 (by omega) HRUN.out).mono ?_
    rintro en w24 ⟨rfl, b⟩
    dsimp only
    refine hK _ _ b ?_
    clear hK K
    replace hn := hn.on b
    replace hs2 := hs2.on b
    replace hsE := hsE.on b
    replace z0 := z0.on b
    replace hf := hf.on b
    replace zf := zf.on b
    replace hs8 := hs8.on b
    replace BW := Lib.hid (Below.step BW.out b)
    clear b
    clear hs9
    have lf0 := fun s : LexG.Wd (fun w w' => Below w.heap.size w w') w24 => (z0.on s.rel).n0
    have lf1 := fun s : LexG.Wd (fun w w' => Below w.heap.size w w') w24 => (z0.on s.rel).n1
    have lf2 := fun s : LexG.Wd (fun w w' => Below w.heap.size w w') w24 => (z0.on s.rel).n2
    have lf3 := fun s : LexG.Wd (fun w w' => Below w.heap.size w w') w24 => (zf.on s.rel).n0
    have lf4 := fun s : LexG.Wd (fun w w' => Below w.heap.size w w') w24 => (zf.on s.rel).n1
    have lf5 := fun s : LexG.Wd (fun w w' => Below w.heap.size w w') w24 => (zf.on s.rel).n2
    refine LexG.lex_plain 2 (by kernel_rfl) ?_
    dsimp only [List.take, List.drop]
    repeat go_big_quiet_step (fail)
    refine wpQuiet_nil ?_
    clear lf0 lf1 lf2 lf3 lf4 lf5
    refine LexG.lex_nil ?_
    dsimp only [NoPanic]
    go_wp2_with fail
    go_ret
    exact ⟨rfl, BW.out⟩
  · have d0 : (e != 0) = true := by simpa using he
    have HL := Lib.hid hl
    have e2 : (e == e) = true := by simp
    clear hl he
    go_upto_region 6 with (go_at_call 17; (with_reducible refine (fold_no hn HL.out d0).mono ?_); (rintro en w7 ⟨rfl, b⟩; clear c0 c1 c2; replace hn := hn.on b; replace z0 := z0.on b; replace BW := Below.step BW b; clear b))
    obtain ⟨w8, e_w8⟩ : ∃ w', w7.alloc (.cells #[.slice none 0 0, .slice none 0 0, .slice none 0 0] 25) = w' := ⟨_, rfl⟩
    have zf : Bx w8 w7.heap.size [.slice none 0 0, .slice none 0 0, .slice none 0 0] := e_w8 ▸ Bx.made_k w7 rfl #[.slice none 0 0, .slice none 0 0, .slice none 0 0] 25
    have b : Below w7.heap.size w7 w8 := e_w8 ▸ below_lit _ _
    rw [e_w8]
    clear e_w8
    replace hn := hn.on b
    replace z0 := z0.on b
    replace BW := Below.step BW b
    clear b
    have c0 := z0.2 0 _ rfl; have c1 := z0.2 1 _ rfl; have c2 := z0.2 2 _ rfl
    go_wp2_with fail
    refine (check_as hn HL.out).mono ?_
    rintro en w9 ⟨rfl, b⟩
    clear c0 c1 c2
    replace zf := zf.on b
    replace BW := Below.step BW b
    have c0 := zf.2 0 _ rfl
    go_wp2_with fail
    go_ret
    exact ⟨rfl, BW⟩
end Go.Proofs.Ytcehklnonhalhaa
