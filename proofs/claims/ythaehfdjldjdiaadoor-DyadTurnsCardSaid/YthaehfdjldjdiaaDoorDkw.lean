
/-
  The law's walk, whole.
-/
import Derived.Test.YthaehfdjldjdiaaDoorDk
namespace Go.Proofs.YthaehfdjldjdiaaDoor
open Go.RowKit
set_option linter.unusedVariables false

set_option maxHeartbeats 4000000 in
set_option maxRecDepth 100000 in
theorem turns_bad0 {A1 A2 A3 : Option Addr} {n1 c1 n2 c2 n3 c3 : Nat} {na nb nc : Bool} {ea eb ec : Int} {w : World} (hT : Tab w) (l1 : n1 ≤ 9223372036854775807) (l2 : n2 ≤ 9223372036854775807) (l3 : n3 ≤ 9223372036854775807) (hb : 20 < n1 ∨ n1 ≤ 20 ∧ ea < -1000 ∨ n1 ≤ 20 ∧ -1000 ≤ ea ∧ 1000 < ea) :
    Calls Tryd.prog 5 #[.agg #[.bool na, .slice A1 n1 c1, .int .i64 ea], .agg #[.bool nb, .slice A2 n2 c2, .int .i64 eb], .agg #[.bool nc, .slice A3 n3 c3, .int .i64 ec]] w fun e w' => e = .returned (.bool true) ∧ Below w.heap.size w w' := by
  rcases hb with hb | ⟨hb, hb2⟩ | ⟨hb, hb2, hb3⟩
  all_goals
    go_enter Tryd.func5, Tryd.ntmps5
    go_wp2_with fail
    obtain ⟨W, hW, za, zb, zc, BW, sW⟩ := frame3 w 25 25 25 na A1 n1 c1 ea nb A2 n2 c2 eb nc A3 n3 c3 ec
    rw [hW]
    clear hW
    replace hT := hT.on BW
    refine (awake2_any hT).mono ?_
    rintro en w1 ⟨rfl, b⟩
    replace za := za.on b
    replace zb := zb.on b
    replace zc := zc.on b
    replace hT := hT.on b
    replace BW := Below.step BW b
    clear b
    obtain ⟨zac0, zac1, zac2, zaf0, zaf1, zaf2, zal⟩ := za.cells
    obtain ⟨zbc0, zbc1, zbc2, zbf0, zbf1, zbf2, zbl⟩ := zb.cells
    obtain ⟨zcc0, zcc1, zcc2, zcf0, zcf1, zcf2, zcl⟩ := zc.cells
    go_wp2_with fail
    have ix0 := idx0 na A1 n1 c1 ea nb A2 n2 c2 eb nc A3 n3 c3 ec
    have ix1 := idx1 na A1 n1 c1 ea nb A2 n2 c2 eb nc A3 n3 c3 ec
    have ix2 := idx2 na A1 n1 c1 ea nb A2 n2 c2 eb nc A3 n3 c3 ec
    refine wp_loop_rounds 4 ?_
    rw [rounds_succ]
    go_wp2_with fail
    go_ret
    exact ⟨rfl, Below.step BW (below_lit _ _)⟩

set_option maxHeartbeats 4000000 in
set_option maxRecDepth 100000 in
theorem turns_bad1 {A1 A2 A3 : Option Addr} {n1 c1 n2 c2 n3 c3 : Nat} {na nb nc : Bool} {ea eb ec : Int} {w : World} (hT : Tab w) (l1 : n1 ≤ 9223372036854775807) (l2 : n2 ≤ 9223372036854775807) (l3 : n3 ≤ 9223372036854775807) (s1 : n1 ≤ 20) (ea1 : -1000 ≤ ea) (ea2 : ea ≤ 1000) (hb : 20 < n2 ∨ n2 ≤ 20 ∧ eb < -1000 ∨ n2 ≤ 20 ∧ -1000 ≤ eb ∧ 1000 < eb) :
    Calls Tryd.prog 5 #[.agg #[.bool na, .slice A1 n1 c1, .int .i64 ea], .agg #[.bool nb, .slice A2 n2 c2, .int .i64 eb], .agg #[.bool nc, .slice A3 n3 c3, .int .i64 ec]] w fun e w' => e = .returned (.bool true) ∧ Below w.heap.size w w' := by
  rcases hb with hb | ⟨hb, hb2⟩ | ⟨hb, hb2, hb3⟩
  all_goals
    go_enter Tryd.func5, Tryd.ntmps5
    go_wp2_with fail
    obtain ⟨W, hW, za, zb, zc, BW, sW⟩ := frame3 w 25 25 25 na A1 n1 c1 ea nb A2 n2 c2 eb nc A3 n3 c3 ec
    rw [hW]
    clear hW
    replace hT := hT.on BW
    refine (awake2_any hT).mono ?_
    rintro en w1 ⟨rfl, b⟩
    replace za := za.on b
    replace zb := zb.on b
    replace zc := zc.on b
    replace hT := hT.on b
    replace BW := Below.step BW b
    clear b
    obtain ⟨zac0, zac1, zac2, zaf0, zaf1, zaf2, zal⟩ := za.cells
    obtain ⟨zbc0, zbc1, zbc2, zbf0, zbf1, zbf2, zbl⟩ := zb.cells
    obtain ⟨zcc0, zcc1, zcc2, zcf0, zcf1, zcf2, zcl⟩ := zc.cells
    go_wp2_with fail
    have ix0 := idx0 na A1 n1 c1 ea nb A2 n2 c2 eb nc A3 n3 c3 ec
    have ix1 := idx1 na A1 n1 c1 ea nb A2 n2 c2 eb nc A3 n3 c3 ec
    have ix2 := idx2 na A1 n1 c1 ea nb A2 n2 c2 eb nc A3 n3 c3 ec
    refine wp_loop_rounds 4 ?_
    rw [rounds_succ]
    go_wp2_with fail
    clear zac0 zac1 zac2 zaf0 zaf1 zaf2 zal zbc0 zbc1 zbc2 zbf0 zbf1 zbf2 zbl zcc0 zcc1 zcc2 zcf0 zcf1 zcf2 zcl
    obtain ⟨w2, e_w2⟩ : ∃ w', w1.alloc (dob na A1 n1 c1 ea 25) = w' := ⟨_, rfl⟩
    have b : Below w1.heap.size w1 w2 := e_w2 ▸ below_lit _ _
    have hs_w2 : w2.heap.size = w1.heap.size + 1 := e_w2 ▸ size_lit w1 _ rfl
    have y0 : DB w2 w1.heap.size 25 na A1 n1 c1 ea := e_w2 ▸ DB.made w1 rfl 25 na A1 n1 c1 ea
    rw [e_w2]
    clear e_w2
    replace za := za.on b
    replace zb := zb.on b
    replace zc := zc.on b
    replace hT := hT.on b
    replace BW := Below.step BW b
    clear b
    clear y0
    rw [rounds_succ]
    go_wp2_with fail
    go_ret
    exact ⟨rfl, Below.step BW (below_lit _ _)⟩

set_option maxHeartbeats 4000000 in
set_option maxRecDepth 100000 in
theorem turns_bad2 {A1 A2 A3 : Option Addr} {n1 c1 n2 c2 n3 c3 : Nat} {na nb nc : Bool} {ea eb ec : Int} {w : World} (hT : Tab w) (l1 : n1 ≤ 9223372036854775807) (l2 : n2 ≤ 9223372036854775807) (l3 : n3 ≤ 9223372036854775807) (s1 : n1 ≤ 20) (ea1 : -1000 ≤ ea) (ea2 : ea ≤ 1000) (s2 : n2 ≤ 20) (eb1 : -1000 ≤ eb) (eb2 : eb ≤ 1000) (hb : 20 < n3 ∨ n3 ≤ 20 ∧ ec < -1000 ∨ n3 ≤ 20 ∧ -1000 ≤ ec ∧ 1000 < ec) :
    Calls Tryd.prog 5 #[.agg #[.bool na, .slice A1 n1 c1, .int .i64 ea], .agg #[.bool nb, .slice A2 n2 c2, .int .i64 eb], .agg #[.bool nc, .slice A3 n3 c3, .int .i64 ec]] w fun e w' => e = .returned (.bool true) ∧ Below w.heap.size w w' := by
  rcases hb with hb | ⟨hb, hb2⟩ | ⟨hb, hb2, hb3⟩
  all_goals
    go_enter Tryd.func5, Tryd.ntmps5
    go_wp2_with fail
    obtain ⟨W, hW, za, zb, zc, BW, sW⟩ := frame3 w 25 25 25 na A1 n1 c1 ea nb A2 n2 c2 eb nc A3 n3 c3 ec
    rw [hW]
    clear hW
    replace hT := hT.on BW
    refine (awake2_any hT).mono ?_
    rintro en w1 ⟨rfl, b⟩
    replace za := za.on b
    replace zb := zb.on b
    replace zc := zc.on b
    replace hT := hT.on b
    replace BW := Below.step BW b
    clear b
    obtain ⟨zac0, zac1, zac2, zaf0, zaf1, zaf2, zal⟩ := za.cells
    obtain ⟨zbc0, zbc1, zbc2, zbf0, zbf1, zbf2, zbl⟩ := zb.cells
    obtain ⟨zcc0, zcc1, zcc2, zcf0, zcf1, zcf2, zcl⟩ := zc.cells
    go_wp2_with fail
    have ix0 := idx0 na A1 n1 c1 ea nb A2 n2 c2 eb nc A3 n3 c3 ec
    have ix1 := idx1 na A1 n1 c1 ea nb A2 n2 c2 eb nc A3 n3 c3 ec
    have ix2 := idx2 na A1 n1 c1 ea nb A2 n2 c2 eb nc A3 n3 c3 ec
    refine wp_loop_rounds 4 ?_
    rw [rounds_succ]
    go_wp2_with fail
    clear zac0 zac1 zac2 zaf0 zaf1 zaf2 zal zbc0 zbc1 zbc2 zbf0 zbf1 zbf2 zbl zcc0 zcc1 zcc2 zcf0 zcf1 zcf2 zcl
    obtain ⟨w2, e_w2⟩ : ∃ w', w1.alloc (dob na A1 n1 c1 ea 25) = w' := ⟨_, rfl⟩
    have b : Below w1.heap.size w1 w2 := e_w2 ▸ below_lit _ _
    have hs_w2 : w2.heap.size = w1.heap.size + 1 := e_w2 ▸ size_lit w1 _ rfl
    have y0 : DB w2 w1.heap.size 25 na A1 n1 c1 ea := e_w2 ▸ DB.made w1 rfl 25 na A1 n1 c1 ea
    rw [e_w2]
    clear e_w2
    replace za := za.on b
    replace zb := zb.on b
    replace zc := zc.on b
    replace hT := hT.on b
    replace BW := Below.step BW b
    clear b
    clear y0
    rw [rounds_succ]
    go_wp2_with fail
    obtain ⟨w3, e_w3⟩ : ∃ w', w2.alloc (dob nb A2 n2 c2 eb 25) = w' := ⟨_, rfl⟩
    have b : Below w2.heap.size w2 w3 := e_w3 ▸ below_lit _ _
    have hs_w3 : w3.heap.size = w2.heap.size + 1 := e_w3 ▸ size_lit w2 _ rfl
    have y1 : DB w3 w2.heap.size 25 nb A2 n2 c2 eb := e_w3 ▸ DB.made w2 rfl 25 nb A2 n2 c2 eb
    rw [e_w3]
    clear e_w3
    replace za := za.on b
    replace zb := zb.on b
    replace zc := zc.on b
    replace hT := hT.on b
    replace BW := Below.step BW b
    clear b
    clear y1
    rw [rounds_succ]
    go_wp2_with fail
    go_ret
    exact ⟨rfl, Below.step BW (below_lit _ _)⟩

theorem turns_walk {A1 A2 A3 : Option Addr} {n1 c1 n2 c2 n3 c3 x y z : Nat} {na nb nc : Bool} {ea eb ec : Int} {w : World} (h1 : Arg w A1 n1 c1 x) (_ : (Lit.int .i64 ea).wf = true) (h2 : Arg w A2 n2 c2 y) (_ : (Lit.int .i64 eb).wf = true) (h3 : Arg w A3 n3 c3 z) (_ : (Lit.int .i64 ec).wf = true) (hT : Tab w) :
    Calls Tryd.prog 5 #[.agg #[.bool na, .slice A1 n1 c1, .int .i64 ea], .agg #[.bool nb, .slice A2 n2 c2, .int .i64 eb], .agg #[.bool nc, .slice A3 n3 c3, .int .i64 ec]] w fun e w' => e = .returned (.bool true) ∧ Below w.heap.size w w' := by
  by_cases g1 : n1 ≤ 20 ∧ -1000 ≤ ea ∧ ea ≤ 1000
  · by_cases g2 : n2 ≤ 20 ∧ -1000 ≤ eb ∧ eb ≤ 1000
    · by_cases g3 : n3 ≤ 20 ∧ -1000 ≤ ec ∧ ec ≤ 1000
      · exact turns_main h1 h2 h3 hT g1.1 g2.1 g3.1 g1.2.1 g1.2.2 g2.2.1 g2.2.2 g3.2.1 g3.2.2
      · exact turns_bad2 hT h1.n_le h2.n_le h3.n_le g1.1 g1.2.1 g1.2.2 g2.1 g2.2.1 g2.2.2 (by omega)
    · exact turns_bad1 hT h1.n_le h2.n_le h3.n_le g1.1 g1.2.1 g1.2.2 (by omega)
  · exact turns_bad0 hT h1.n_le h2.n_le h3.n_le (by omega)
end Go.Proofs.YthaehfdjldjdiaaDoor
