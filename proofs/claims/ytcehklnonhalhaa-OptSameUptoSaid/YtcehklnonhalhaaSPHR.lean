/-
  What the proofs of OptSame need: HR.
-/
import Derived.Test.YtcehklnonhalhaaSPHa
import Derived.Test.YtcehklnonhalhaaSPGbf
import Derived.Test.YtcehklnonhalhaaRows
set_option linter.unusedVariables false
namespace Go.Proofs.Ytcehklnonhalhaa
open Go.RowKit
set_option maxRecDepth 4000
/-! rows filled place by place -/
def fillL (f : Nd → Int) (N : List Nd) (nn j : Nat) : List Int := (N.take j).map f ++ List.replicate (nn - j) 0
theorem fill_set {f : Nd → Int} {N : List Nd} {nn j : Nat} {x : Nd} (hn : N.length = nn) (hx : N[j]? = some x) : (fillL f N nn j).set j (f x) = fillL f N nn (j + 1) := by
 have hj := (List.getElem?_eq_some_iff.1 hx).1
 unfold fillL
 rw [List.take_add_one, hx, show nn - j = (nn - (j + 1)) + 1 by omega, List.replicate_succ]
 have hl : (List.map f (N.take j)).length = j := by simp; omega
 rw [List.set_append_right _ _ (by omega), hl, Nat.sub_self, List.set_cons_zero]
 simp
theorem fill_skip {f : Nd → Int} {N : List Nd} {nn j : Nat} {x : Nd} (hn : N.length = nn) (hx : N[j]? = some x) (h0 : f x = 0) : fillL f N nn j = fillL f N nn (j + 1) := by
 rw [← fill_set hn hx, h0]
 unfold fillL
 have hj := (List.getElem?_eq_some_iff.1 hx).1
 have hl : ((N.take j).map f).length = j := by simp; omega
 rw [List.set_append_right _ _ (by omega), hl, Nat.sub_self, show nn - j = (nn - (j + 1)) + 1 by omega, List.replicate_succ, List.set_cons_zero]
theorem fill_end {f : Nd → Int} {N : List Nd} {nn : Nat} (hn : N.length = nn) : fillL f N nn nn = N.map f := by unfold fillL; rw [List.take_of_length_le (by omega)]; simp
theorem fill_len {f : Nd → Int} {N : List Nd} {nn j : Nat} (hn : N.length = nn) (hj : j ≤ nn) : (fillL f N nn j).length = nn := by unfold fillL; simp; omega
theorem fill_0 {f : Nd → Int} {N : List Nd} {nn : Nat} : ivs (fillL f N nn 0) = List.replicate nn (.int .i64 0) := by simp [fillL, ivs]
def stR (x : Nd) : Int := if x.k = 7 then x.b else 0
def nxR (v : List Int) (x : Nd) : Int := if x.k = 7 then atI v x.a else 0
def startR (N : List Nd) : List Int := N.map stR
def nextR (N : List Nd) (v : List Int) : List Int := N.map (nxR v)
def refR (N : List Nd) (L st inn : List Int) : Nat → List Int
 | 0 => List.replicate N.length 0
 | j + 1 => (refR N L st inn j).set (L.getD j 0).toNat (nodeS (N.getD (L.getD j 0).toNat nd0) st inn (L.getD j 0).toNat (refR N L st inn j))
theorem refR_len (N : List Nd) (L st inn : List Int) : ∀ j, (refR N L st inn j).length = N.length
 | 0 => by unfold refR; simp
 | j + 1 => by unfold refR; rw [List.length_set, refR_len N L st inn j]
structure Rx (w0 : World) (s g : Nat) (vals : List Value) (v : List Int) (w : World) : Prop where
  bw : Below w0.heap.size w0 w
  z : Bx w s vals
  own : Own w g 3 (ivs v)
  ne : s ≠ g
  lo : w0.heap.size ≤ g
theorem ivs_at7 {v : List Int} {k : Nat} {x : Int} (h : v[k]? = some x) : (ivs v)[k]? = some (.int .i64 x) := by unfold ivs; rw [List.getElem?_map, h]; rfl
theorem ivs_set7 (v : List Int) (k : Nat) (x : Int) : (ivs v).set k (.int .i64 x) = ivs (v.set k x) := by unfold ivs; rw [List.map_set]
theorem Rx.on {w0 w w' : World} {s g : Nat} {vals : List Value} {v : List Int} (h : Rx w0 s g vals v w) (hb : Below w.heap.size w w') : Rx w0 s g vals v w' := ⟨Below.step h.bw hb, h.z.on hb, h.own.below hb h.own.lt, h.ne, h.lo⟩
theorem Rx.put {w0 w : World} {s g : Nat} {vals : List Value} {v : List Int} (h : Rx w0 s g vals v w) (q : Nat) (y : Int) : Rx w0 s g vals (v.set q y) (w.setCell ⟨g, q, none⟩ (.int .i64 y)) :=
 ⟨h.bw.setCell h.lo _, h.z.apart h.ne q _, by rw [← ivs_set7]; exact h.own.put q _, h.ne, h.lo⟩
theorem Own.isI {w : World} {g n : Nat} {v : List Int} (h : Own w g 3 (ivs v)) (hn : v.length = n) : Is w (some ⟨g, 0, none⟩) n v := ⟨hn, fun k x hx => ⟨g, 0, rfl, h.lt, by rw [Nat.zero_add]; exact (h.cell k).trans (ivs_at7 hx)⟩⟩
set_option maxHeartbeats 2000000 in
theorem rstart_as {An Ai Ao : Option Addr} {nn cn ni ci no co : Nat} {N : List Nd} {w : World} (hN : Ns w An nn N) (hn : nn ≤ 100000) :
  Calls Try.prog 72 #[.agg #[.slice An nn cn, .slice Ai ni ci, .slice Ao no co]] w fun en w' => ∃ g, en = .returned (.slice (some ⟨g, 0, none⟩) nn nn) ∧ Own w' g 3 (ivs (startR N)) ∧ w.heap.size ≤ g ∧ Below w.heap.size w w' := by
 have hnl : N.length = nn := hN.1
 have HLN := Lib.hid hnl
 go_enter Try.func72, Try.ntmps72
 go_upto_region 1 with fail
 obtain ⟨w1, e_w1, z0, b1⟩ := zmB w [.slice An nn cn, .slice Ai ni ci, .slice Ao no co] 25
 have hs1 : w.heap.size < w1.heap.size := z0.1
 rw [e_w1]
 clear e_w1
 have z0c0 := z0.2 0 _ rfl
 go_upto_region 2 with (at_make; refine wpList_zeros _ rfl _ _ 39 rfl 3 (.int .i64 0) 8 Try.underlying39 i64_info7 rfl (by omega) _ nn rfl rfl rfl (by omega) ?_; intro w2 ho b2 hz2)
 have HR : Rx w w.heap.size w1.heap.size [.slice An nn cn, .slice Ai ni ci, .slice Ao no co] (fillL stR N nn 0) w2 := ⟨Below.step b1 b2, z0.on b2, by rw [fill_0]; exact ho, by omega, by omega⟩
 obtain ⟨g, hg⟩ : ∃ g, w1.heap.size = g := ⟨_, rfl⟩
 rw [hg] at HR ⊢
 clear z0c0 z0 b1 b2 hz2 ho hs1 hg
 clear hnl
 go_wp2_with fail
 go_loopw [4] (fun iv wr => ∃ j : Nat, j ≤ nn ∧ iv = .int .i64 j ∧ Hid (Rx w w.heap.size g [.slice An nn cn, .slice Ai ni ci, .slice Ao no co] (fillL stR N nn j) wr)) (fun iv _ => nn - (intOf iv).toNat)
 case atStart => exact ⟨0, Nat.zero_le _, rfl, Lib.hid HR⟩
 case round =>
  clear HR
  obtain ⟨j, hj, rfl, HR⟩ := hrel
  by_cases hlt : j < nn
  ·obtain ⟨b0, off, x1, x2, x3, x4, eA, HX, n0, n1, n2, n3⟩ := (hN.on HR.out.bw).at hlt
   have z0c0 := HR.out.z.2 0 _ rfl
   rw [eA] at z0c0
   have i0 : (0 : Int) ≤ (j : Int) := by omega
   have i1 : (j : Int) < (nn : Int) := by omega
   by_cases h7 : x1 = 7
   ·subst h7
    have ef : stR ⟨7, x2, x3, x4⟩ = x3 := rfl
    have HS : Hid (Rx w w.heap.size g [.slice An nn cn, .slice Ai ni ci, .slice Ao no co] (fillL stR N nn (j + 1)) (wr.setCell ⟨g, j, none⟩ (.int .i64 (x3)))) := Lib.hid (by
     rw [← fill_set HLN.out HX.out, ef]
     exact HR.out.put j _)
    obtain ⟨y, hy⟩ := look_ex (fill_len (f := stR) HLN.out hj) hlt
    have oc := (HR.out.own.cell j).trans (ivs_at7 hy)
    have of := HR.out.own.free j
    clear hy eA
    go_wp2_with fail
    go_roundw
    case rel => exact ⟨j + 1, by omega, by go_num, HS⟩
    case measure => simp [intOf]; omega
   ·have h7b : (x1 == 7) = false := by simpa using h7
    have HS : Hid (Rx w w.heap.size g [.slice An nn cn, .slice Ai ni ci, .slice Ao no co] (fillL stR N nn (j + 1)) wr) := Lib.hid (by
     rw [← fill_skip HLN.out HX.out (if_neg h7)]
     exact HR.out)
    clear h7 eA
    go_wp2_with fail
    go_roundw
    case rel => exact ⟨j + 1, by omega, by go_num, HS⟩
    case measure => simp [intOf]; omega
  ·obtain rfl : j = nn := by omega
   have hr := HR.out
   rw [fill_end HLN.out] at hr
   go_wp2_with fail
   go_ret
   exact ⟨g, rfl, hr.own, hr.lo, hr.bw⟩
set_option maxHeartbeats 2000000 in
theorem rnext_as {An Ai Ao : Option Addr} {nn cn ni ci no co : Nat} {N : List Nd} {w : World} (hN : Ns w An nn N) (hn : nn ≤ 100000) {Av : Option Addr} {cv : Nat} {v : List Int} (hv : Is w Av nn v) (hf : N.all (formedS nn) = true) :
  Calls Try.prog 76 #[.agg #[.slice An nn cn, .slice Ai ni ci, .slice Ao no co], .slice Av nn cv] w fun en w' => ∃ g, en = .returned (.slice (some ⟨g, 0, none⟩) nn nn) ∧ Own w' g 3 (ivs (nextR N v)) ∧ w.heap.size ≤ g ∧ Below w.heap.size w w' := by
 have hnl : N.length = nn := hN.1
 have HLN := Lib.hid hnl
 go_enter Try.func76, Try.ntmps76
 go_upto_region 1 with fail
 obtain ⟨w1, e_w1, z0, b1⟩ := zmB w [.slice An nn cn, .slice Ai ni ci, .slice Ao no co] 25
 have hs1 : w.heap.size < w1.heap.size := z0.1
 rw [e_w1]
 clear e_w1
 have z0c0 := z0.2 0 _ rfl
 go_upto_region 2 with (at_make; refine wpList_zeros _ rfl _ _ 39 rfl 3 (.int .i64 0) 8 Try.underlying39 i64_info7 rfl (by omega) _ nn rfl rfl rfl (by omega) ?_; intro w2 ho b2 hz2)
 have HR : Rx w w.heap.size w1.heap.size [.slice An nn cn, .slice Ai ni ci, .slice Ao no co] (fillL (nxR v) N nn 0) w2 := ⟨Below.step b1 b2, z0.on b2, by rw [fill_0]; exact ho, by omega, by omega⟩
 obtain ⟨g, hg⟩ : ∃ g, w1.heap.size = g := ⟨_, rfl⟩
 rw [hg] at HR ⊢
 clear z0c0 z0 b1 b2 hz2 ho hs1 hg
 clear hnl
 go_wp2_with fail
 go_loopw [6] (fun iv wr => ∃ j : Nat, j ≤ nn ∧ iv = .int .i64 j ∧ Hid (Rx w w.heap.size g [.slice An nn cn, .slice Ai ni ci, .slice Ao no co] (fillL (nxR v) N nn j) wr)) (fun iv _ => nn - (intOf iv).toNat)
 case atStart => exact ⟨0, Nat.zero_le _, rfl, Lib.hid HR⟩
 case round =>
  clear HR
  obtain ⟨j, hj, rfl, HR⟩ := hrel
  by_cases hlt : j < nn
  ·obtain ⟨b0, off, x1, x2, x3, x4, eA, HX, n0, n1, n2, n3⟩ := (hN.on HR.out.bw).at hlt
   have z0c0 := HR.out.z.2 0 _ rfl
   rw [eA] at z0c0
   have i0 : (0 : Int) ≤ (j : Int) := by omega
   have i1 : (j : Int) < (nn : Int) := by omega
   by_cases h7 : x1 = 7
   ·subst h7
    obtain ⟨a, rfl, han⟩ := reg_a hf HX.out rfl
    obtain ⟨b1, o1, y1, eV, HV, v1⟩ := (hv.on HR.out.bw).at han
    subst eV
    have a0 : (0 : Int) ≤ (a : Int) := by omega
    have a1 : (a : Int) < (nn : Int) := by omega
    have ef : nxR v ⟨7, (a : Int), x3, x4⟩ = y1 := by
     unfold nxR
     rw [if_pos rfl]
     unfold atI
     rw [Int.toNat_natCast]
     exact getD_of HV.out
    have HS : Hid (Rx w w.heap.size g [.slice An nn cn, .slice Ai ni ci, .slice Ao no co] (fillL (nxR v) N nn (j + 1)) (wr.setCell ⟨g, j, none⟩ (.int .i64 (y1)))) := Lib.hid (by
     rw [← fill_set HLN.out HX.out, ef]
     exact HR.out.put j _)
    obtain ⟨y, hy⟩ := look_ex (fill_len (f := (nxR v)) HLN.out hj) hlt
    have oc := (HR.out.own.cell j).trans (ivs_at7 hy)
    have of := HR.out.own.free j
    clear hy eA
    go_wp2_with fail
    go_roundw
    case rel => exact ⟨j + 1, by omega, by go_num, HS⟩
    case measure => simp [intOf]; omega
   ·have h7b : (x1 == 7) = false := by simpa using h7
    have HS : Hid (Rx w w.heap.size g [.slice An nn cn, .slice Ai ni ci, .slice Ao no co] (fillL (nxR v) N nn (j + 1)) wr) := Lib.hid (by
     rw [← fill_skip HLN.out HX.out (if_neg h7)]
     exact HR.out)
    clear h7 eA
    go_wp2_with fail
    go_roundw
    case rel => exact ⟨j + 1, by omega, by go_num, HS⟩
    case measure => simp [intOf]; omega
  ·obtain rfl : j = nn := by omega
   have hr := HR.out
   rw [fill_end HLN.out] at hr
   go_wp2_with fail
   go_ret
   exact ⟨g, rfl, hr.own, hr.lo, hr.bw⟩
set_option maxRecDepth 4000
set_option maxHeartbeats 2000000 in
theorem rone_2 {w : World} {n cc : Nat} {A : Option Addr} {v : List Int} (hv : Is w A n v) {a : Nat} {b : Int} {c : Int} {ya : Int} (ha : a < n) (ea : atI v a = ya) (za : ya = 0 ∨ ya = 1) :
  Calls Try.prog 107 #[.agg #[.int .i64 2, .int .i64 (a : Int), .int .i64 (b : Int), .int .i64 (c : Int)], .slice A n cc] w fun en w' => en = .returned (.int .i64 (1 - ya)) ∧ Below w.heap.size w w' := by
 go_enter Try.func107, Try.ntmps107
 go_upto_region 1 with fail
 obtain ⟨w1, e_w1, z0, bW⟩ := zmB w [.int .i64 2, .int .i64 (a : Int), .int .i64 (b : Int), .int .i64 (c : Int)] 43
 rw [e_w1]
 clear e_w1
 obtain ⟨z0c0, z0c1, z0c2, z0c3⟩ := z0.zb4
 obtain ⟨ba, oa, ua, sa, Ha, ca⟩ := (hv.on bW).at ha
 obtain rfl : ua = ya := by rw [← ea]; unfold atI; rw [Int.toNat_natCast]; exact (getD_of Ha.out).symm
 subst sa
 have a0 : (0 : Int) ≤ (a : Int) := by omega
 have a1 : (a : Int) < (n : Int) := by omega
 clear ea
 rcases za with rfl | rfl
 all_goals go_wp2_with fail
 all_goals go_ret
 all_goals exact ⟨rfl, bW⟩
set_option maxHeartbeats 2000000 in
theorem rone_3 {w : World} {n cc : Nat} {A : Option Addr} {v : List Int} (hv : Is w A n v) {a : Nat} {b : Nat} {c : Int} {ya : Int} (ha : a < n) (ea : atI v a = ya) (za : ya = 0 ∨ ya = 1) {yb : Int} (hb : b < n) (eb : atI v b = yb) (zb : yb = 0 ∨ yb = 1) :
  Calls Try.prog 107 #[.agg #[.int .i64 3, .int .i64 (a : Int), .int .i64 (b : Int), .int .i64 (c : Int)], .slice A n cc] w fun en w' => en = .returned (.int .i64 (min ya yb)) ∧ Below w.heap.size w w' := by
 go_enter Try.func107, Try.ntmps107
 go_upto_region 1 with fail
 obtain ⟨w1, e_w1, z0, bW⟩ := zmB w [.int .i64 3, .int .i64 (a : Int), .int .i64 (b : Int), .int .i64 (c : Int)] 43
 rw [e_w1]
 clear e_w1
 obtain ⟨z0c0, z0c1, z0c2, z0c3⟩ := z0.zb4
 obtain ⟨ba, oa, ua, sa, Ha, ca⟩ := (hv.on bW).at ha
 obtain rfl : ua = ya := by rw [← ea]; unfold atI; rw [Int.toNat_natCast]; exact (getD_of Ha.out).symm
 obtain ⟨bb, ob, ub, sb, Hb, cb⟩ := (hv.on bW).at hb
 obtain rfl : ub = yb := by rw [← eb]; unfold atI; rw [Int.toNat_natCast]; exact (getD_of Hb.out).symm
 subst sa
 cases sb
 have a0 : (0 : Int) ≤ (a : Int) := by omega
 have a1 : (a : Int) < (n : Int) := by omega
 have b0 : (0 : Int) ≤ (b : Int) := by omega
 have b1 : (b : Int) < (n : Int) := by omega
 clear ea eb
 rcases za with rfl | rfl <;> rcases zb with rfl | rfl
 all_goals go_upto_region 5 with fail
 all_goals go_region
 all_goals go_wp2_with fail
 all_goals go_ret
 all_goals exact ⟨rfl, bW.drew⟩
set_option maxHeartbeats 2000000 in
theorem rone_4 {w : World} {n cc : Nat} {A : Option Addr} {v : List Int} (hv : Is w A n v) {a : Nat} {b : Nat} {c : Int} {ya : Int} (ha : a < n) (ea : atI v a = ya) (za : ya = 0 ∨ ya = 1) {yb : Int} (hb : b < n) (eb : atI v b = yb) (zb : yb = 0 ∨ yb = 1) :
  Calls Try.prog 107 #[.agg #[.int .i64 4, .int .i64 (a : Int), .int .i64 (b : Int), .int .i64 (c : Int)], .slice A n cc] w fun en w' => en = .returned (.int .i64 (max ya yb)) ∧ Below w.heap.size w w' := by
 go_enter Try.func107, Try.ntmps107
 go_upto_region 1 with fail
 obtain ⟨w1, e_w1, z0, bW⟩ := zmB w [.int .i64 4, .int .i64 (a : Int), .int .i64 (b : Int), .int .i64 (c : Int)] 43
 rw [e_w1]
 clear e_w1
 obtain ⟨z0c0, z0c1, z0c2, z0c3⟩ := z0.zb4
 obtain ⟨ba, oa, ua, sa, Ha, ca⟩ := (hv.on bW).at ha
 obtain rfl : ua = ya := by rw [← ea]; unfold atI; rw [Int.toNat_natCast]; exact (getD_of Ha.out).symm
 obtain ⟨bb, ob, ub, sb, Hb, cb⟩ := (hv.on bW).at hb
 obtain rfl : ub = yb := by rw [← eb]; unfold atI; rw [Int.toNat_natCast]; exact (getD_of Hb.out).symm
 subst sa
 cases sb
 have a0 : (0 : Int) ≤ (a : Int) := by omega
 have a1 : (a : Int) < (n : Int) := by omega
 have b0 : (0 : Int) ≤ (b : Int) := by omega
 have b1 : (b : Int) < (n : Int) := by omega
 clear ea eb
 rcases za with rfl | rfl <;> rcases zb with rfl | rfl
 all_goals go_upto_region 7 with fail
 all_goals go_region
 all_goals go_wp2_with fail
 all_goals go_ret
 all_goals exact ⟨rfl, bW.drew⟩
set_option maxHeartbeats 2000000 in
theorem rone_5 {w : World} {n cc : Nat} {A : Option Addr} {v : List Int} (hv : Is w A n v) {a : Nat} {b : Nat} {c : Int} {ya : Int} (ha : a < n) (ea : atI v a = ya) (za : ya = 0 ∨ ya = 1) {yb : Int} (hb : b < n) (eb : atI v b = yb) (zb : yb = 0 ∨ yb = 1) :
  Calls Try.prog 107 #[.agg #[.int .i64 5, .int .i64 (a : Int), .int .i64 (b : Int), .int .i64 (c : Int)], .slice A n cc] w fun en w' => en = .returned (.int .i64 ((ya + yb) % 2)) ∧ Below w.heap.size w w' := by
 go_enter Try.func107, Try.ntmps107
 go_upto_region 1 with fail
 obtain ⟨w1, e_w1, z0, bW⟩ := zmB w [.int .i64 5, .int .i64 (a : Int), .int .i64 (b : Int), .int .i64 (c : Int)] 43
 rw [e_w1]
 clear e_w1
 obtain ⟨z0c0, z0c1, z0c2, z0c3⟩ := z0.zb4
 obtain ⟨ba, oa, ua, sa, Ha, ca⟩ := (hv.on bW).at ha
 obtain rfl : ua = ya := by rw [← ea]; unfold atI; rw [Int.toNat_natCast]; exact (getD_of Ha.out).symm
 obtain ⟨bb, ob, ub, sb, Hb, cb⟩ := (hv.on bW).at hb
 obtain rfl : ub = yb := by rw [← eb]; unfold atI; rw [Int.toNat_natCast]; exact (getD_of Hb.out).symm
 subst sa
 cases sb
 have a0 : (0 : Int) ≤ (a : Int) := by omega
 have a1 : (a : Int) < (n : Int) := by omega
 have b0 : (0 : Int) ≤ (b : Int) := by omega
 have b1 : (b : Int) < (n : Int) := by omega
 clear ea eb
 rcases za with rfl | rfl <;> rcases zb with rfl | rfl
 all_goals go_upto_region 9 with fail
 all_goals go_region
 all_goals go_wp2_with fail
 all_goals go_ret
 all_goals exact ⟨rfl, bW.drew⟩
set_option maxHeartbeats 2000000 in
theorem rone_61 {w : World} {n cc : Nat} {A : Option Addr} {v : List Int} (hv : Is w A n v) {a : Int} {b : Nat} {c : Nat} {yb : Int} (hb : b < n) (eb : atI v b = yb) (zb : yb = 0 ∨ yb = 1) {yc : Int} (hc : c < n) (ec : atI v c = yc) (zc : yc = 0 ∨ yc = 1) (h1 : yc = 1) :
  Calls Try.prog 107 #[.agg #[.int .i64 6, .int .i64 (a : Int), .int .i64 (b : Int), .int .i64 (c : Int)], .slice A n cc] w fun en w' => en = .returned (.int .i64 (yb)) ∧ Below w.heap.size w w' := by
 go_enter Try.func107, Try.ntmps107
 go_upto_region 1 with fail
 obtain ⟨w1, e_w1, z0, bW⟩ := zmB w [.int .i64 6, .int .i64 (a : Int), .int .i64 (b : Int), .int .i64 (c : Int)] 43
 rw [e_w1]
 clear e_w1
 obtain ⟨z0c0, z0c1, z0c2, z0c3⟩ := z0.zb4
 obtain ⟨bb, ob, ub, sb, Hb, cb⟩ := (hv.on bW).at hb
 obtain rfl : ub = yb := by rw [← eb]; unfold atI; rw [Int.toNat_natCast]; exact (getD_of Hb.out).symm
 obtain ⟨bc, oc, uc, sc, Hc, cc⟩ := (hv.on bW).at hc
 obtain rfl : uc = yc := by rw [← ec]; unfold atI; rw [Int.toNat_natCast]; exact (getD_of Hc.out).symm
 subst sb
 cases sc
 have b0 : (0 : Int) ≤ (b : Int) := by omega
 have b1 : (b : Int) < (n : Int) := by omega
 have c0 : (0 : Int) ≤ (c : Int) := by omega
 have c1 : (c : Int) < (n : Int) := by omega
 clear eb ec
 subst h1
 rcases zb with rfl | rfl
 all_goals go_wp2_with fail
 all_goals go_ret
 all_goals exact ⟨rfl, bW⟩
set_option maxHeartbeats 2000000 in
theorem rone_60 {w : World} {n cc : Nat} {A : Option Addr} {v : List Int} (hv : Is w A n v) {a : Nat} {b : Int} {c : Nat} {ya : Int} (ha : a < n) (ea : atI v a = ya) (za : ya = 0 ∨ ya = 1) {yc : Int} (hc : c < n) (ec : atI v c = yc) (zc : yc = 0 ∨ yc = 1) (h1 : yc = 0) :
  Calls Try.prog 107 #[.agg #[.int .i64 6, .int .i64 (a : Int), .int .i64 (b : Int), .int .i64 (c : Int)], .slice A n cc] w fun en w' => en = .returned (.int .i64 (ya)) ∧ Below w.heap.size w w' := by
 go_enter Try.func107, Try.ntmps107
 go_upto_region 1 with fail
 obtain ⟨w1, e_w1, z0, bW⟩ := zmB w [.int .i64 6, .int .i64 (a : Int), .int .i64 (b : Int), .int .i64 (c : Int)] 43
 rw [e_w1]
 clear e_w1
 obtain ⟨z0c0, z0c1, z0c2, z0c3⟩ := z0.zb4
 obtain ⟨ba, oa, ua, sa, Ha, ca⟩ := (hv.on bW).at ha
 obtain rfl : ua = ya := by rw [← ea]; unfold atI; rw [Int.toNat_natCast]; exact (getD_of Ha.out).symm
 obtain ⟨bc, oc, uc, sc, Hc, cc⟩ := (hv.on bW).at hc
 obtain rfl : uc = yc := by rw [← ec]; unfold atI; rw [Int.toNat_natCast]; exact (getD_of Hc.out).symm
 subst sa
 cases sc
 have a0 : (0 : Int) ≤ (a : Int) := by omega
 have a1 : (a : Int) < (n : Int) := by omega
 have c0 : (0 : Int) ≤ (c : Int) := by omega
 have c1 : (c : Int) < (n : Int) := by omega
 clear ea ec
 subst h1
 rcases za with rfl | rfl
 all_goals go_wp2_with fail
 all_goals go_ret
 all_goals exact ⟨rfl, bW⟩
theorem rone_as {w : World} {n cc : Nat} {A : Option Addr} {v : List Int} (hv : Is w A n v) (h01 : v01 v) {x : Nd} (hk : formedS n x = true) (hg : isGs x.k = true) {r : Int} (hr : gateS x v = r) :
  Calls Try.prog 107 #[.agg #[.int .i64 x.k, .int .i64 x.a, .int .i64 x.b, .int .i64 x.c], .slice A n cc] w fun en w' => en = .returned (.int .i64 r) ∧ Below w.heap.size w w' := by
 obtain ⟨k, a, b, c⟩ := x
 subst hr
 unfold formedS kindS at hk
 unfold isGs at hg
 simp only [Bool.and_eq_true, decide_eq_true_eq] at hk hg
 have hp : ∀ q ∈ usesS ⟨k, a, b, c⟩, ∃ p : Nat, q = (p : Int) ∧ p < n := fun q hq => by
  have h3 := List.all_eq_true.1 hk.2.2.1 q hq
  unfold placeS at h3
  obtain ⟨h4, h5⟩ := Bool.and_eq_true_iff.1 h3
  have h4 := of_decide_eq_true h4
  have h5 := of_decide_eq_true h5
  exact ⟨q.toNat, by omega, by omega⟩
 unfold usesS manyS at hp
 unfold gateS gvS
 dsimp only at hk hg hp ⊢
 rcases (show k = 2 ∨ k = 3 ∨ k = 4 ∨ k = 5 ∨ k = 6 by omega) with rfl | rfl | rfl | rfl | rfl
 ·obtain ⟨a, rfl, ha⟩ := hp a (by simp)
  exact rone_2 hv ha rfl (h01.at _)
 ·obtain ⟨a, rfl, ha⟩ := hp a (by simp)
  obtain ⟨b, rfl, hb⟩ := hp b (by simp)
  exact rone_3 hv ha rfl (h01.at _) hb rfl (h01.at _)
 ·obtain ⟨a, rfl, ha⟩ := hp a (by simp)
  obtain ⟨b, rfl, hb⟩ := hp b (by simp)
  exact rone_4 hv ha rfl (h01.at _) hb rfl (h01.at _)
 ·obtain ⟨a, rfl, ha⟩ := hp a (by simp)
  obtain ⟨b, rfl, hb⟩ := hp b (by simp)
  exact rone_5 hv ha rfl (h01.at _) hb rfl (h01.at _)
 ·obtain ⟨a, rfl, ha⟩ := hp a (by simp)
  obtain ⟨b, rfl, hb⟩ := hp b (by simp)
  obtain ⟨c, rfl, hc⟩ := hp c (by simp)
  simp only [show ((6 : Int) = 2) = False by decide, show ((6 : Int) = 3) = False by decide, show ((6 : Int) = 4) = False by decide, show ((6 : Int) = 5) = False by decide, if_false]
  rcases h01.at (c : Int) with h | h
  ·rw [h, if_neg (by decide)]
   exact rone_60 hv ha rfl (h01.at _) hc h (.inl rfl) rfl
  ·rw [h, if_pos rfl]
   exact rone_61 hv hb rfl (h01.at _) hc h (.inr rfl) rfl
theorem v01.getD {v : List Int} (h : v01 v) (i : Nat) : v.getD i 0 = 0 ∨ v.getD i 0 = 1 := by
 have := h.at (i : Int)
 unfold atI at this
 rwa [Int.toNat_natCast] at this
theorem node_01 {x : Nd} {n : Int} (hf : formedS n x = true) {st inn u : List Int} (hs : v01 st) (hi : v01 inn) (hu : v01 u) (i : Nat) : nodeS x st inn i u = 0 ∨ nodeS x st inn i u = 1 := by
 unfold nodeS
 unfold formedS restS bitS at hf
 simp only [Bool.and_eq_true] at hf
 have h2 := hf.2.2.2
 by_cases h0 : x.k = 0
 ·rw [if_pos h0] at h2 ⊢
  simpa using h2
 rw [if_neg h0]
 by_cases h1 : x.k = 1
 ·rw [if_pos h1]; exact hi.getD i
 rw [if_neg h1]
 by_cases h7 : x.k = 7
 ·rw [if_pos h7]; exact hs.getD i
 rw [if_neg h7]
 exact gvS_01 _ (hu.at _) (hu.at _)
theorem refR_01 {N : List Nd} {n : Int} (hf : N.all (formedS n) = true) {L st inn : List Int} (hq : ∀ q ∈ L, q.toNat < N.length) (hs : v01 st) (hi : v01 inn) : ∀ j, j ≤ L.length → v01 (refR N L st inn j)
 | 0, _ => fun x hx => by
  unfold refR at hx
  exact .inl (List.mem_replicate.1 hx).2
 | j + 1, hj => by
  unfold refR
  refine (refR_01 hf hq hs hi j (by omega)).set _ (node_01 (formed_at hf ?_) hs hi (refR_01 hf hq hs hi j (by omega)) _)
  rw [List.getD_eq_getElem?_getD, List.getElem?_eq_getElem (by omega)]
  exact hq _ (List.getElem_mem _)
set_option maxRecDepth 20000 in
set_option maxHeartbeats 4000000 in
theorem rvalues_as {An Ai Ao : Option Addr} {nn cn ni ci no co : Nat} {N : List Nd} {w : World} (hN : Ns w An nn N) (hn : nn ≤ 100000) (hf : N.all (formedS nn) = true) {Al As Ap : Option Addr} {ml cl cs cp : Nat} {L st inn : List Int} (hL : Is w Al ml L) (hml : ml ≤ 100000) (hq : ∀ q ∈ L, ∃ r : Nat, q = (r : Int) ∧ r < nn) (hs : Is w As nn st) (hi : Is w Ap nn inn) (s01 : v01 st) (i01 : v01 inn) :
  Calls Try.prog 74 #[.agg #[.slice An nn cn, .slice Ai ni ci, .slice Ao no co], .slice Al ml cl, .slice As nn cs, .slice Ap nn cp] w fun en w' => ∃ g, en = .returned (.slice (some ⟨g, 0, none⟩) nn nn) ∧ Own w' g 3 (ivs (refR N L st inn ml)) ∧ w.heap.size ≤ g ∧ Below w.heap.size w w' := by
 have hnl : N.length = nn := hN.1
 have HLN := Lib.hid hnl
 have HLL := Lib.hid hL.1
 have HQ := Lib.hid hq
 have HF := Lib.hid hf
 have H01 : Hid (∀ j ≤ ml, v01 (refR N L st inn j)) := Lib.hid fun j hj => refR_01 hf (fun q hm => by obtain ⟨r, e, h⟩ := hq q hm; rw [hnl]; omega) s01 i01 j (by rw [hL.1]; exact hj)
 clear hq hf s01 i01
 go_enter Try.func74, Try.ntmps74
 go_upto_region 1 with fail
 obtain ⟨w1, e_w1, z0, b1⟩ := zmB w [.slice An nn cn, .slice Ai ni ci, .slice Ao no co] 25
 have hs1 : w.heap.size < w1.heap.size := z0.1
 rw [e_w1]
 clear e_w1
 have z0c0 := z0.2 0 _ rfl
 go_upto_region 2 with (at_make; refine wpList_zeros _ rfl _ _ 39 rfl 3 (.int .i64 0) 8 Try.underlying39 i64_info7 rfl (by omega) _ nn rfl rfl rfl (by omega) ?_; intro w2 ho b2 hz2)
 have HR : Rx w w.heap.size w1.heap.size [.slice An nn cn, .slice Ai ni ci, .slice Ao no co] (refR N L st inn 0) w2 := ⟨Below.step b1 b2, z0.on b2, by simpa [fillL, refR, ivs, hnl] using ho, by omega, by omega⟩
 obtain ⟨g, hg⟩ : ∃ g, w1.heap.size = g := ⟨_, rfl⟩
 rw [hg] at HR ⊢
 clear z0c0 z0 b1 b2 hz2 ho hs1 hg
 clear hnl
 go_wp2_with fail
 go_loopw [10] (fun iv wr => ∃ j : Nat, j ≤ ml ∧ iv = .int .i64 j ∧ Hid (Rx w w.heap.size g [.slice An nn cn, .slice Ai ni ci, .slice Ao no co] (refR N L st inn j) wr)) (fun iv _ => ml - (intOf iv).toNat)
 case atStart => exact ⟨0, Nat.zero_le _, rfl, Lib.hid HR⟩
 case round =>
  clear HR
  obtain ⟨j, hj, rfl, HR⟩ := hrel
  by_cases hlt : j < ml
  ·obtain ⟨b1, o1, q, eL, HX, q1⟩ := (hL.on HR.out.bw).at hlt
   obtain ⟨q, rfl, hqn⟩ := HQ.out q (List.mem_of_getElem? HX.out)
   obtain ⟨b0, off, x1, x2, x3, x4, eA, HY, n0, n1, n2, n3⟩ := (hN.on HR.out.bw).at hqn
   have z0c0 := HR.out.z.2 0 _ rfl
   rw [eA] at z0c0
   rw [eL]
   have i0 : (0 : Int) ≤ (j : Int) := by omega
   have i1 : (j : Int) < (ml : Int) := by omega
   have j0 : (0 : Int) ≤ (q : Int) := by omega
   have j1 : (q : Int) < (nn : Int) := by omega
   go_upto_region 7 with fail
   obtain ⟨w4, e_w4, y0, b4⟩ := zmB wr [.int .i64 x1, .int .i64 x2, .int .i64 x3, .int .i64 x4] 43
   rw [e_w4]
   have HR4 := Lib.hid (HR.out.on b4)
   clear e_w4 n0 n1 n2 n3 z0c0 q1 eA eL b4
   obtain ⟨y0c0, y0c1, y0c2, y0c3⟩ := y0.zb4
   have hlen : (refR N L st inn j).length = nn := by rw [refR_len]; exact HLN.out
   obtain ⟨r, hr⟩ : ∃ r, nodeS ⟨x1, x2, x3, x4⟩ st inn q (refR N L st inn j) = r := ⟨_, rfl⟩
   have HRR : Hid ((refR N L st inn j).set q r = refR N L st inn (j + 1)) := Lib.hid (by rw [refR, getD_of HX.out, Int.toNat_natCast, getD_of HY.out, hr])
   obtain ⟨y, hy⟩ := look_ex hlen hqn
   have oc := (HR4.out.own.cell q).trans (ivs_at7 hy)
   have of := HR4.out.own.free q
   clear hy
   by_cases h0 : x1 = 0
   ·subst h0
    obtain rfl : x2 = r := hr
    go_wp2_with fail
    go_roundw
    case rel => exact ⟨j + 1, by omega, by go_num, Lib.hid (HRR.out ▸ HR4.out.put q _)⟩
    case measure => simp [intOf]; omega
   have h0b : (x1 == 0) = false := by simpa using h0
   by_cases h1 : x1 = 1
   ·subst h1
    obtain ⟨b2, o2, v2, eI, HI, c2⟩ := (hi.on HR4.out.bw).at hqn
    subst eI
    obtain rfl : v2 = r := by rw [← hr]; exact (getD_of HI.out).symm
    clear hr
    go_wp2_with fail
    go_roundw
    case rel => exact ⟨j + 1, by omega, by go_num, Lib.hid (HRR.out ▸ HR4.out.put q _)⟩
    case measure => simp [intOf]; omega
   have h1b : (x1 == 1) = false := by simpa using h1
   by_cases h7 : x1 = 7
   ·subst h7
    obtain ⟨b2, o2, v2, eI, HI, c2⟩ := (hs.on HR4.out.bw).at hqn
    subst eI
    obtain rfl : v2 = r := by rw [← hr]; exact (getD_of HI.out).symm
    clear hr
    go_wp2_with fail
    go_roundw
    case rel => exact ⟨j + 1, by omega, by go_num, Lib.hid (HRR.out ▸ HR4.out.put q _)⟩
    case measure => simp [intOf]; omega
   have h7b : (x1 == 7) = false := by simpa using h7
   have hr2 : gateS ⟨x1, x2, x3, x4⟩ (refR N L st inn j) = r := by
    rw [← hr]
    unfold nodeS
    rw [if_neg h0, if_neg h1, if_neg h7]
   have HG : Hid (isGs x1 = true) := Lib.hid (isGs_of h0 h1 h7)
   have HFX : Hid (formedS nn ⟨x1, x2, x3, x4⟩ = true) := Lib.hid (List.all_eq_true.1 HF.out _ (List.mem_of_getElem? HY.out))
   have HR2 := Lib.hid hr2
   clear hr hr2 h0 h1 h7 oc of
   go_wp2_with (go_at_call 107; refine (rone_as (x := ⟨x1, x2, x3, x4⟩) (HR4.out.own.isI hlen) (H01.out j hj) HFX.out HG.out HR2.out).mono ?_; rintro en w5 ⟨rfl, b5⟩; have HR5 := HR4.out.on b5; obtain ⟨y', hy'⟩ := look_ex hlen hqn; have oc := (HR5.own.cell q).trans (ivs_at7 hy'); have of := HR5.own.free q)
   go_roundw
   case rel => exact ⟨j + 1, by omega, by go_num, Lib.hid (HRR.out ▸ (HR4.out.on b5).put q _)⟩
   case measure => simp [intOf]; omega
  ·obtain rfl : j = ml := by omega
   have hr := HR.out
   go_wp2_with fail
   go_ret
   exact ⟨g, rfl, hr.own, hr.lo, hr.bw⟩
set_option maxRecDepth 4000
def PartsT (w : World) (x : Nat) (e : Ending) (w' : World) : Prop := ∃ A n c, e = .returned (.slice A n c) ∧ Res w' A n x ∧ n ≤ blen x / 32 + 1 ∧ Tg w' A n 136 ∧ Sw A n c ∧ Below w.heap.size w w'
set_option maxHeartbeats 1000000 in
theorem rparts_tag {A : Option Addr} {n c x : Nat} {w : World} (h : BR w A n c x) (hn : n ≤ 1000000) :
  Calls Try.prog 108 #[.slice A n c] w (PartsT w x) := by
 have HSZ := Lib.hid h.size
 obtain ⟨bs, hr, _, _, _, hv⟩ := h
 have HV := Lib.hid hv
 have HBL := Lib.hid hr.len
 clear hv
 go_enter Try.func108, Try.ntmps108
 go_wp2_with fail
 go_loopw [3, 4] (fun v iv wr => ∃ (q : Nat) (ds : List Nat), 32 * q < n + 32 ∧ iv = .int .i64 (32 * (q : Int)) ∧ PartsInv x ds q ∧ Grow wr w.heap.size 136 v (U ds) ∧ Below w.heap.size w wr) (fun _ iv _ => n + 64 - (intOf iv).toNat)
 case atStart => exact ⟨0, [], by omega, rfl, PartsInv.zero x, Grow.made w _ (Nat.le_refl _), (Below.refl _ _).alloc (Nat.le_refl _) _⟩
 case round =>
  obtain ⟨q, ds, hq, rfl, hinv, hgr, hb⟩ := hrel
  have HI := Lib.hid hinv
  have HG := Lib.hid hgr
  have hsz := hb.size
  clear hinv hgr
  by_cases hlt : 32 * q < n
  ·have hl2 : 32 * (q : Int) < (n : Int) := by omega
   go_wp2_with fail
   obtain ⟨wo, rfl⟩ : ∃ wo : World, wo = wr := ⟨_, rfl⟩
   go_loop [5, 6] (fun t kv => ∃ (k y : Nat), k ≤ 32 ∧ kv = .int .i64 ((k : Int) - 1) ∧ y = Part x q / 2 ^ k ∧ t = .int .u32 y) (fun _ kv => (intOf kv + 1).toNat)
   case atStart => exact ⟨32, 0, by omega, rfl, (Part.top x q).symm, rfl⟩
   case round =>
    obtain ⟨k, y, hk, rfl, hy, rfl⟩ := hrel
    have HY := Lib.hid hy
    have hyl : y < 4294967296 := by rw [hy]; exact Nat.lt_of_le_of_lt (Nat.div_le_self _ _) (Part.lt x q)
    clear hy
    by_cases h0 : k = 0
    ·subst h0
     go_wp2_with (at_builtin; refine wpList_push _ rfl _ _ 66 rfl w.heap.size 136 (.int .u32 0) 4 Try.underlying66 u32_info rfl (by omega) _ _ rfl HG.out _ rfl rfl (by rw [U_len, HI.out.len]; omega) hsz ?_; intro v' w1 hg1 hb1)
     go_roundw
     case rel =>
      have hy := HY.out
      rw [Nat.pow_zero, Nat.div_one] at hy
      rw [U_snoc, hy] at hg1
      exact ⟨q + 1, _, by omega, by go_num, HI.out.step, hg1, hb.trans hb1⟩
     case measure => simp [intOf]; omega
    ·obtain ⟨j, rfl⟩ : ∃ j, k = j + 1 := ⟨k - 1, by omega⟩
     clear h0
     have e0 : ((j + 1 : Nat) : Int) - 1 = (j : Int) := by omega
     rw [e0]
     clear e0
     have q0 : decide (0 ≤ (j : Int)) = true := decide_eq_true (by omega)
     have hy2 : y < 2147483648 := by
      rw [HY.out, div_succ]
      have := Nat.div_le_self (Part x q) (2 ^ j)
      have := Part.lt x q
      omega
     obtain ⟨b, eb⟩ : ∃ b, bs.getD (32 * q + j) false = b := ⟨_, rfl⟩
     have HC := Lib.hid (rbit_any (c := c) (hr.on hb) (by omega) (32 * (q : Int) + (j : Int)) b (by show _ = _; rw [show 32 * (q : Int) + (j : Int) = ((32 * q + j : Nat) : Int) from by omega, bitAt_nat, eb]))
     have HB := Lib.hid (bval_bit bs (32 * q + j) b eb)
     rw [HV.out, ← Part.bit x q j (by omega)] at HB
     have HD := Lib.hid (div_two (Part x q) j)
     clear eb
     cases b
     ·go_wp2_with fail
      refine (HC.out).mono ?_
      rintro e w' ⟨rfl, rfl⟩
      go_wp2_with fail
      go_round
      case rel =>
       refine ⟨j, 2 * y, by omega, rfl, ?_, by go_num⟩
       have h1 := HD.out; have h2 := HB.out; have h3 := HY.out
       simp only [Bool.toNat_false] at h2
       omega
      case measure => simp [intOf]
     ·go_wp2_with fail
      refine (HC.out).mono ?_
      rintro e w' ⟨rfl, rfl⟩
      go_wp2_with fail
      go_round
      case rel =>
       refine ⟨j, 2 * y + 1, by omega, rfl, ?_, by go_num⟩
       have h1 := HD.out; have h2 := HB.out; have h3 := HY.out
       simp only [Bool.toNat_true] at h2
       omega
      case measure => simp [intOf]
  ·have hl2 : ¬ 32 * (q : Int) < (n : Int) := by omega
   go_wp2_with fail
   obtain ⟨A', c', hv, hsl, hc1, hc2⟩ := HG.out.form
   have htg := HG.out
   rw [hv] at htg ⊢
   replace htg := htg.tag
   have hnl : A' = none → c' = 0 := by
    intro e
    subst e
    rcases HG.out.2 with ⟨h1, _⟩ | ⟨g, cap, cur, h1, _⟩
    ·rw [hv] at h1
     injection h1
    ·rw [hv] at h1
     injection h1 with h1
     cases h1
   go_ret
   have hb1 := HSZ.out
   obtain ⟨l1, l2⟩ := HI.out.last (by omega) (by omega)
   refine ⟨A', _, c', rfl, ⟨ds, ⟨hsl, l1.1⟩, l1, l2⟩, ?_, htg, ⟨hc1, hc2, hnl⟩, hb⟩
   rw [U_len, HI.out.len]
   omega
theorem rof_arg7 {A : Option Addr} {n c x : Nat} {w : World} (h : Arg w A n c x) (hn : n ≤ 30000) :
  Calls Try.prog 106 #[.slice A n c] w (BitsPost w x) := by
 obtain ⟨xs, h1, h2, h3, h4⟩ := h
 have := rof_any (c := c) h1 hn
 rwa [h4] at this
def NuB (b : Nat) (w : World) (A : Option Addr) (n : Nat) (xs : List Nat) : Prop := ∃ rs : List Sn, Rw w A n (rs.map snC) ∧ rs.map Sn.x = xs ∧ ∀ r ∈ rs, Arg w r.A r.m r.c r.x ∧ r.m ≤ b
theorem NuB.on {b : Nat} {w w' : World} {A : Option Addr} {n : Nat} {xs : List Nat} (h : NuB b w A n xs) (hb : Below w.heap.size w w') : NuB b w' A n xs := by
 obtain ⟨rs, h1, h2, h3⟩ := h
 exact ⟨rs, h1.on hb, h2, fun r hr => ⟨(h3 r hr).1.on hb, (h3 r hr).2⟩⟩
theorem NuB.len {b : Nat} {w : World} {A : Option Addr} {n : Nat} {xs : List Nat} (h : NuB b w A n xs) : xs.length = n := by
 obtain ⟨rs, h1, rfl, h3⟩ := h
 have := h1.1
 simpa using this
theorem NuB.at {B : Nat} {w : World} {A : Option Addr} {n : Nat} {xs : List Nat} (h : NuB B w A n xs) {k : Nat} (hk : k < n) : ∃ b off A' m c x, A = some ⟨b, off, none⟩ ∧ b < w.heap.size ∧ Hid (xs[k]? = some x) ∧ w.cell? ⟨b, off + k, none⟩ = some (.slice A' m c) ∧ Arg w A' m c x ∧ m ≤ B := by
 obtain ⟨rs, h1, rfl, h3⟩ := h
 obtain ⟨r, hr⟩ := look_ex (by have := h1.1; simpa using this) hk
 obtain ⟨b, off, e, hb, hc⟩ := h1.2 k (snC r) (by rw [List.getElem?_map, hr]; rfl)
 exact ⟨b, off, r.A, r.m, r.c, r.x, e, hb, Lib.hid (by rw [List.getElem?_map, hr]; rfl), hc, h3 r (List.mem_of_getElem? hr)⟩
theorem setR_in {bs : List Int} {x : Nat} {v : List Int} {k : Nat} {q : Int} (hb : bitI x k = 1) (hq : bs[k]? = some q) : (setR bs x v k).set q.toNat 1 = setR bs x v (k + 1) := by
 rw [setR, if_pos hb, getD_of hq]
theorem setR_out {bs : List Int} {x : Nat} {v : List Int} {k : Nat} (hb : bitI x k = 0) : setR bs x v k = setR bs x v (k + 1) := by
 rw [setR, if_neg (by omega)]
theorem BR.tk {w w' : World} {A : Option Addr} {n c x : Nat} (h : BR w A n c x) (hk : TK 4 w w') : BR w' A n c x := by
 obtain ⟨bs, h1, h2⟩ := h
 have := RwT.tk (t := 4) (w := w) (A := A) (n := n) (vs := Bo bs) ⟨⟨h1.1.1, fun k u hu => h1.1.2 k u hu⟩, h1.2⟩ hk
 exact ⟨bs, ⟨⟨this.1.1, fun k u hu => this.1.2 k u hu⟩, this.2⟩, h2⟩
theorem BR.bit {w : World} {A : Option Addr} {n c x k : Nat} (h : BR w A n c x) (hk : k < n) : ∃ b off u, A = some ⟨b, off, none⟩ ∧ w.cell? ⟨b, off + k, none⟩ = some (.bool u) ∧ Hid (bitI x k = if u then 1 else 0) := by
 obtain ⟨bs, h1, h2, h3, h4, h5⟩ := h
 obtain ⟨b, off, u, e, _, hu, hc⟩ := h1.look hk
 refine ⟨b, off, u, e, hc, Lib.hid ?_⟩
 have := bval_bit bs k u hu.out
 rw [h5] at this
 unfold bitI
 rw [this]
 cases u <;> rfl
set_option maxRecDepth 20000 in
set_option maxHeartbeats 4000000 in
theorem rinputs_as {An Ai Ao : Option Addr} {nn cn ni ci no co : Nat} {N : List Nd} {I : List Pt} {w : World} (hN : Ns w An nn N) (hI : Ps w Ai ni I) (hn : nn ≤ 100000) (hni : ni ≤ 1000) (hb : ∀ p ∈ I, p.bits.length ≤ 100000) (hq : ∀ p ∈ I, ∀ q ∈ p.bits, ∃ r : Nat, q = (r : Int) ∧ r < nn) {Ap : Option Addr} {mp cp : Nat} {xs : List Nat} (hx : NuB 30000 w Ap mp xs) (f : Bool) (hf : fitsS I xs = f) :
  Calls Try.prog 73 #[.agg #[.slice An nn cn, .slice Ai ni ci, .slice Ao no co], .slice Ap mp cp] w fun en w' => ∃ g, en = .returned (.tuple #[.slice (some ⟨g, 0, none⟩) nn nn, .bool f]) ∧ (f = true → Own w' g 3 (ivs (insR I xs (List.replicate nn 0) I.length))) ∧ w.heap.size ≤ g ∧ Below w.heap.size w w' := by
 have hnl : N.length = nn := hN.1
 have HLI := Lib.hid hI.1
 have HLX := Lib.hid hx.len
 have HF := Lib.hid hf
 have HQ := Lib.hid hq
 have HB := Lib.hid hb
 clear hf hq hb
 go_enter Try.func73, Try.ntmps73
 go_upto_region 1 with fail
 obtain ⟨w1, e_w1, z0, b1⟩ := zmB w [.slice An nn cn, .slice Ai ni ci, .slice Ao no co] 25
 have hs1 : w.heap.size < w1.heap.size := z0.1
 rw [e_w1]
 clear e_w1
 have z0c0 := z0.2 0 _ rfl
 have z0c1 := z0.2 1 _ rfl
 go_upto_region 2 with (at_make; refine wpList_zeros _ rfl _ _ 39 rfl 3 (.int .i64 0) 8 Try.underlying39 i64_info7 rfl (by omega) _ nn rfl rfl rfl (by omega) ?_; intro w2 ho b2 hz2)
 have HR : Rx w w.heap.size w1.heap.size [.slice An nn cn, .slice Ai ni ci, .slice Ao no co] (List.replicate nn 0) w2 := ⟨Below.step b1 b2, z0.on b2, by simpa [fillL, refR, ivs, hnl] using ho, by omega, by omega⟩
 obtain ⟨g, hg⟩ : ∃ g, w1.heap.size = g := ⟨_, rfl⟩
 rw [hg] at HR ⊢
 clear z0c0 z0c1 z0 b1 b2 hz2 ho hs1 hg
 clear hnl
 have z0c1 := HR.z.2 1 _ rfl
 by_cases he : mp = ni
 ·have he' := he.symm
  subst he'
  clear he
  go_wp2_with fail
  clear z0c1
  go_loopw [7] (fun iv wr => ∃ i : Nat, i ≤ ni ∧ iv = .int .i64 i ∧ Hid ((List.range i).all (fitAt I xs) = true) ∧ Hid (Rx w w.heap.size g [.slice An nn cn, .slice Ai ni ci, .slice Ao no co] (insR I xs (List.replicate nn 0) i) wr)) (fun iv _ => ni - (intOf iv).toNat)
  case atStart => exact ⟨0, Nat.zero_le _, rfl, Lib.hid rfl, Lib.hid HR⟩
  case round =>
   clear HR
   obtain ⟨i, hi, rfl, HA, HR⟩ := hrel
   by_cases hlt : i < ni
   ·obtain ⟨b2, o2, A2, m2, d2, x, eX, hb2, HX, q2, ha, hm2⟩ := (hx.on HR.out.bw).at hlt
    obtain ⟨b1, o1, nm, A1, m1, d1, bs, rfl, hb1, HP, p1, p2, hi1⟩ := hI.at0 hlt
    have p2b := (HR.out.bw.cell (p := ⟨b1, o1 + i * 2 + 1, none⟩) hb1).trans p2
    subst eX
    have i0 : (0 : Int) ≤ (i : Int) := by omega
    have i1 : (i : Int) < (ni : Int) := by omega
    have hm1 : m1 ≤ 100000 := by rw [← hi1.1]; exact HB.out _ (List.mem_of_getElem? HP.out)
    have HQB : Hid (∀ q ∈ bs, ∃ r : Nat, q = (r : Int) ∧ r < nn) := Lib.hid (HQ.out _ (List.mem_of_getElem? HP.out))
    have hfa : fitAt I xs i = decide (blen x ≤ m1) := by unfold fitAt; rw [getD_of HX.out, getD_of HP.out, ← hi1.1]
    have HFA := Lib.hid hfa
    clear hfa
    go_wp2_with fail
    refine (rof_arg7 ha hm2).mono ?_
    rintro en w4 ⟨A3, n3, c3, rfl, hbr, b4⟩
    have HR4 := Lib.hid (HR.out.on b4)
    have hn3 := hbr.size
    have p2' := (HR4.out.bw.cell (p := ⟨b1, o1 + i * 2 + 1, none⟩) hb1).trans p2
    have z4c1 := HR4.out.z.2 1 _ rfl
    clear q2 p1 p2b b4
    by_cases hl : n3 ≤ m1
    ·have HT : Hid (fitAt I xs i = true) := Lib.hid (by rw [HFA.out]; exact decide_eq_true (by omega))
     have hl2 : ¬ (m1 : Int) < (n3 : Int) := by omega
     go_wp2_with fail
     clear z4c1 p2'
     obtain ⟨wo, rfl⟩ : ∃ x, x = w4 := ⟨_, rfl⟩
     have h4 : Hid (Rx w w.heap.size g [.slice An nn cn, .slice (some ⟨b1, o1, none⟩) ni ci, .slice Ao no co] (setR bs x (insR I xs (List.replicate nn 0) i) 0) wo) := HR4
     have hlen : Hid (∀ k, (setR bs x (insR I xs (List.replicate nn 0) i) k).length = nn) := Lib.hid fun k => by rw [setR_len, insR_len, List.length_replicate]
     go_loopw [9] (fun kv wr => ∃ k : Nat, k ≤ n3 ∧ kv = .int .i64 k ∧ Hid (Rx w w.heap.size g [.slice An nn cn, .slice (some ⟨b1, o1, none⟩) ni ci, .slice Ao no co] (setR bs x (insR I xs (List.replicate nn 0) i) k) wr) ∧ Hid (TK 4 wo wr)) (fun kv _ => n3 - (intOf kv).toNat)
     case atStart => exact ⟨0, Nat.zero_le _, rfl, h4, Lib.hid (TK.below (Below.refl _ _))⟩
     case round =>
      clear h4
      obtain ⟨k, hk, rfl, HR5, HB5⟩ := hrel
      by_cases hlk : k < n3
      ·obtain ⟨b5, o5, u, e5, c5, HU⟩ := (hbr.tk HB5.out).bit hlk
       subst e5
       have k0 : (0 : Int) ≤ (k : Int) := by omega
       have k1 : (k : Int) < (n3 : Int) := by omega
       have k2 : (k : Int) < (m1 : Int) := by omega
       cases u
       case false =>
        have hs := HR5.out
        rw [setR_out (by rw [HU.out]; rfl)] at hs
        go_wp2_with fail
        go_roundw
        case rel => exact ⟨k + 1, by omega, by go_num, Lib.hid hs, HB5⟩
        case measure => simp [intOf]; omega
       case true =>
        obtain ⟨b6, o6, q, rfl, HQ6, q6⟩ := (hi1.on HR5.out.bw).at (show k < m1 by omega)
        obtain ⟨q, rfl, hqn⟩ := HQB.out q (List.mem_of_getElem? HQ6.out)
        have z5c1 := HR5.out.z.2 1 _ rfl
        have p5 := (HR5.out.bw.cell (p := ⟨b1, o1 + i * 2 + 1, none⟩) hb1).trans p2
        obtain ⟨y, hy⟩ := look_ex (hlen.out k) hqn
        have oc := (HR5.out.own.cell q).trans (ivs_at7 hy)
        have of := HR5.out.own.free q
        have hs := HR5.out.put q 1
        have e8 := setR_in (v := insR I xs (List.replicate nn 0) i) (x := x) (by rw [HU.out]; rfl) HQ6.out
        rw [Int.toNat_natCast] at e8
        rw [e8] at hs
        have HS := Lib.hid hs
        have HB6 := Lib.hid (HB5.out.trans (TK.grown (grown_set wr ⟨g, q, none⟩ (.int .i64 1)) HR5.out.own (by decide)))
        have q0 : (0 : Int) ≤ (q : Int) := by omega
        have q1 : (q : Int) < (nn : Int) := by omega
        clear hy e8 hs
        go_wp2_with fail
        go_roundw
        case rel => exact ⟨k + 1, by omega, by go_num, HS, HB6⟩
        case measure => simp [intOf]; omega
      ·obtain rfl : k = n3 := by omega
       have e9 : setR bs x (insR I xs (List.replicate nn 0) i) k = insR I xs (List.replicate nn 0) (i + 1) := by rw [insR, getD_of HP.out, getD_of HX.out, hn3]
       have HR6 := HR5.out
       rw [e9] at HR6
       clear e9 HR5
       go_wp2_with fail
       go_roundw
       case rel => exact ⟨i + 1, by omega, by go_num, Lib.hid (fit_succ HA.out HT.out), Lib.hid HR6⟩
       case measure => simp [intOf]; omega
    ·have HT : Hid (fitsS I xs = false) := Lib.hid (fit_no (by rw [HLI.out]; exact hlt) (by rw [HFA.out]; exact decide_eq_false (by omega)))
     have hl2 : (m1 : Int) < (n3 : Int) := by omega
     go_wp2_with fail
     go_ret2
     obtain rfl : f = false := by rw [← HF.out, HT.out]
     exact ⟨g, rfl, fun e => (by cases e), HR4.out.lo, HR4.out.bw⟩
   ·obtain rfl : i = ni := by omega
    have hr := HR.out
    have hfx : fitsS I xs = true := by
     unfold fitsS
     rw [HLI.out, HLX.out, HA.out]
     simp
    obtain rfl : f = true := by rw [← HF.out, hfx]
    clear hfx
    go_wp2_with fail
    go_ret2
    exact ⟨g, rfl, by rw [HLI.out]; exact hr.own, hr.lo, hr.bw⟩
 ·have he2 : ((mp : Int) != (ni : Int)) = true := by rw [bne_iff_ne]; omega
  have hff : fitsS I xs = false := by unfold fitsS; rw [HLI.out, HLX.out, decide_eq_false he]; rfl
  obtain rfl : f = false := by rw [← HF.out, hff]
  clear hff he
  go_wp2_with fail
  go_ret2
  exact ⟨g, rfl, fun e => (by cases e), HR.lo, HR.bw⟩
set_option maxRecDepth 4000
def bitL (bs v : List Int) : List Bool := bs.map fun q => decide (atI v q = 1)
theorem numS_bval {bs v : List Int} (h : v01 v) : ∀ k, k ≤ bs.length → numS bs v k = bval ((bitL bs v).take k)
 | 0, _ => rfl
 | k + 1, hk => by
  have hl : (bitL bs v).length = bs.length := by unfold bitL; rw [List.length_map]
  obtain ⟨q, hq⟩ := look_ex (L := bs) rfl (show k < bs.length by omega)
  rw [numS, numS_bval h k (by omega), List.take_add_one, show (bitL bs v)[k]? = some (decide (atI v q = 1)) by unfold bitL; rw [List.getElem?_map, hq]; rfl, getD_of hq, Option.toList_some, bval_snoc, List.length_take, hl, Nat.min_eq_left (by omega)]
  rcases h.at q with e | e
  ·rw [e, if_pos rfl]
   simp
  ·rw [e, if_neg (by decide)]
   simp
def lastL (bl : List Bool) : Nat → Nat
 | 0 => 0
 | k + 1 => if bl.getD k false then k + 1 else lastL bl k
theorem lastL_le (bl : List Bool) : ∀ k, lastL bl k ≤ k
 | 0 => Nat.le_refl _
 | k + 1 => by
  unfold lastL
  split
  ·exact Nat.le_refl _
  ·exact Nat.le_succ_of_le (lastL_le bl k)
theorem lastL_cut (bl : List Bool) : ∀ k, (∀ j, lastL bl k ≤ j → j < k → bl.getD j false = false) ∧ (0 < lastL bl k → bl.getD (lastL bl k - 1) false = true)
 | 0 => ⟨fun j _ h => by omega, fun h => by unfold lastL at h; omega⟩
 | k + 1 => by
  obtain ⟨h1, h2⟩ := lastL_cut bl k
  unfold lastL
  by_cases e : bl.getD k false = true
  ·rw [if_pos e]
   exact ⟨fun j h h' => by omega, fun _ => e⟩
  ·rw [if_neg e]
   refine ⟨fun j h h' => ?_, h2⟩
   by_cases ej : j = k
   ·subst ej
    simpa using e
   ·exact h1 j h (by omega)
theorem lastL_is (bl : List Bool) : BCutAt bl (lastL bl bl.length) := by
 obtain ⟨h1, h2⟩ := lastL_cut bl bl.length
 refine ⟨fun j hj => ?_, h2⟩
 by_cases e : j < bl.length
 ·exact h1 j hj e
 ·rw [List.getD_eq_getElem?_getD, List.getElem?_eq_none (by omega)]
  rfl
def partB (bl : List Bool) (m k : Nat) : List Bool := bl.take k ++ List.replicate (m - k) false
theorem partB_set {bl : List Bool} {m k : Nat} {b : Bool} (hm : bl.length = m) (hk : bl[k]? = some b) : (partB bl m k).set k b = partB bl m (k + 1) := by
 have hj := (List.getElem?_eq_some_iff.1 hk).1
 unfold partB
 rw [List.take_add_one, hk, show m - k = (m - (k + 1)) + 1 by omega, List.replicate_succ]
 have hl : (bl.take k).length = k := by simp; omega
 rw [List.set_append_right _ _ (by omega), hl, Nat.sub_self, List.set_cons_zero]
 simp
theorem partB_at {bl : List Bool} {m k : Nat} (hm : bl.length = m) (hk : k < m) : (Bo (partB bl m k))[k]? = some (.bool false) := by
 unfold Bo partB
 have hl : (bl.take k).length = k := by simp; omega
 rw [List.getElem?_map, List.getElem?_append_right (by omega), hl, Nat.sub_self, List.getElem?_replicate, if_pos (by omega)]
 rfl
theorem Bo_set (bs : List Bool) (k : Nat) (b : Bool) : (Bo bs).set k (.bool b) = Bo (bs.set k b) := by unfold Bo; rw [List.map_set]
theorem partB_in {bl : List Bool} {m k : Nat} {b : Bool} (hm : bl.length = m) (hk : bl[k]? = some b) : (Bo (partB bl m (k + 1)))[k]? = some (.bool b) := by
 rw [← partB_set hm hk, ← Bo_set]
 have hl : k < (Bo (partB bl m k)).length := by
  have hj := (List.getElem?_eq_some_iff.1 hk).1
  unfold Bo partB
  simp
  omega
 rw [List.getElem?_set_self hl]
theorem Own.br {w : World} {g m l x : Nat} {bl : List Bool} (h : Own w g 4 (Bo bl)) (hm : bl.length = m) (hc : BCutAt bl l) (hl : l ≤ m) (hx : bval bl = x) (hs : m ≤ 100000) : BR w (some ⟨g, 0, none⟩) l m x := by
 obtain ⟨c1, c2⟩ := bcut_val (by rw [hm]; exact hl) hc
 refine ⟨bl.take l, ⟨⟨by rw [Bo_len, List.length_take]; omega, fun i u hu => ⟨g, 0, rfl, h.lt, ?_⟩⟩, fun _ => ⟨g, 0, _, _, rfl, h⟩⟩, hl, by unfold maxLen; omega, c1, c2.trans hx⟩
 rw [Nat.zero_add]
 refine (h.cell i).trans ?_
 unfold Bo at hu ⊢
 rw [List.map_take, List.getElem?_take] at hu
 split at hu
 ·exact hu
 ·cases hu
theorem lu_ne : (136 : TypeId) ≠ 66 := by decide
set_option maxRecDepth 20000 in
set_option maxHeartbeats 4000000 in
theorem routs_as {An Ai Ao : Option Addr} {nn cn ni ci no co : Nat} {O : List Pt} {w : World} (hO : Ps w Ao no O) (hno : no ≤ 1000) (hb : ∀ p ∈ O, p.bits.length ≤ 100000) (hq : ∀ p ∈ O, ∀ q ∈ p.bits, ∃ r : Nat, q = (r : Int) ∧ r < nn) {Av : Option Addr} {cv : Nat} {v : List Int} (hv : Is w Av nn v) (h01 : v01 v) :
  Calls Try.prog 75 #[.agg #[.slice An nn cn, .slice Ai ni ci, .slice Ao no co], .slice Av nn cv] w fun en w' => ∃ A m c, en = .returned (.slice A m c) ∧ NuT 66 w' A m (outS O v) ∧ Sw A m c ∧ Below w.heap.size w w' := by
 have HQ := Lib.hid hq
 have HB := Lib.hid hb
 have H01 := Lib.hid h01
 clear hq hb h01
 go_enter Try.func75, Try.ntmps75
 go_upto_region 1 with fail
 obtain ⟨w1, e_w1, z0, b1⟩ := zmB w [.slice An nn cn, .slice Ai ni ci, .slice Ao no co] 25
 rw [e_w1]
 clear e_w1
 go_upto_region 3 with fail
 go_loopw [5, 6] (fun sv iv wr => ∃ (j : Nat) (rs : List Sn), j ≤ no ∧ iv = .int .i64 j ∧ Hid (Grow wr w1.heap.size 66 sv (rs.map snC)) ∧ Hid (rs.length = j) ∧ Hid (rs.map Sn.x = outS (O.take j) v) ∧ Hid (∀ r ∈ rs, ResT wr r.A r.m r.x ∧ r.m ≤ 3200 ∧ Sw r.A r.m r.c) ∧ Hid (Below w1.heap.size w1 wr)) (fun _ iv _ => no - (intOf iv).toNat)
 case atStart => exact ⟨0, [], Nat.zero_le _, rfl, Lib.hid (Grow.made w1 _ (Nat.le_refl _)), Lib.hid rfl, Lib.hid rfl, Lib.hid (fun r hr => by cases hr), Lib.hid ((Below.refl _ _).alloc (Nat.le_refl _) _)⟩
 case round =>
  obtain ⟨j, rs, hj, rfl, HG, HL, HX, HR, BR⟩ := hrel
  have z1 := z0.on BR.out
  have z1c2 := z1.2 2 _ rfl
  by_cases hlt : j < no
  ·obtain ⟨b2, o2, nm, A1, m1, d1, bs, rfl, hb2, HY, p1, p2, hi1⟩ := hO.at0 hlt
   have BW := Below.step b1 BR.out
   have p2' := (BW.cell (p := ⟨b2, o2 + j * 2 + 1, none⟩) hb2).trans p2
   have hm1 : m1 ≤ 100000 := by rw [← hi1.1]; exact HB.out _ (List.mem_of_getElem? HY.out)
   have HQB : Hid (∀ q ∈ bs, ∃ r : Nat, q = (r : Int) ∧ r < nn) := Lib.hid (HQ.out _ (List.mem_of_getElem? HY.out))
   have HM : Hid (outS (O.take (j + 1)) v = outS (O.take j) v ++ [numS bs v m1]) := Lib.hid (by
    unfold outS
    rw [List.take_add_one, HY.out, List.map_append, ← hi1.1]
    rfl)
   have HBL : Hid ((bitL bs v).length = m1) := Lib.hid (by unfold bitL; rw [List.length_map]; exact hi1.1)
   have HVL : Hid (bval (bitL bs v) = numS bs v m1) := Lib.hid (by
    rw [numS_bval H01.out m1 (by rw [hi1.1]; exact Nat.le_refl _), List.take_of_length_le (by rw [HBL.out]; exact Nat.le_refl _)])
   have i0 : (0 : Int) ≤ (j : Int) := by omega
   have i1 : (j : Int) < (no : Int) := by omega
   go_upto_region 6 with (at_make; refine wpList_zeros _ rfl _ _ 132 rfl 4 (.bool false) 1 Try.underlying132 bool_info rfl (by omega) _ m1 rfl rfl rfl (by omega) ?_; intro w4 ho b4 hz4)
   obtain ⟨gb, hgb⟩ : ∃ gb, wr.heap.size = gb := ⟨_, rfl⟩
   rw [hgb] at ho ⊢
   have hgw : wr.heap.size ≤ gb := by omega
   have HO0 : Hid (Own w4 gb 4 (Bo (partB (bitL bs v) m1 0))) := Lib.hid (by
    have e : Bo (partB (bitL bs v) m1 0) = List.replicate m1 (.bool false) := by simp [Bo, partB]
    rw [e]
    exact ho)
   have HB4 := Lib.hid b4
   clear ho b4 hz4 hgb z1c2 p2' p1 BW
   go_wp2_with fail
   obtain ⟨wo, rfl⟩ : ∃ x, x = wr := ⟨_, rfl⟩
   go_loopw [8, 9] (fun lv kv wr => ∃ k : Nat, k ≤ m1 ∧ kv = .int .i64 k ∧ lv = .int .i64 ((lastL (bitL bs v) k : Nat) : Int) ∧ Hid (Own wr gb 4 (Bo (partB (bitL bs v) m1 k))) ∧ Hid (Below wo.heap.size wo wr)) (fun _ kv _ => m1 - (intOf kv).toNat)
   case atStart => exact ⟨0, Nat.zero_le _, rfl, rfl, HO0, HB4⟩
   case round =>
    clear HO0 HB4
    obtain ⟨k, hk, rfl, rfl, HO, HB5⟩ := hrel
    have BW5 := Below.step b1 (Below.step BR.out HB5.out)
    by_cases hlk : k < m1
    ·obtain ⟨b6, o6, q, rfl, HQ6, q6⟩ := (hi1.on BW5).at hlk
     obtain ⟨q, rfl, hqn⟩ := HQB.out q (List.mem_of_getElem? HQ6.out)
     obtain ⟨b7, o7, y, rfl, HV, v7⟩ := (hv.on BW5).at hqn
     have hy : y = 0 ∨ y = 1 := H01.out y (List.mem_of_getElem? HV.out)
     have hyv : atI v (q : Int) = y := by unfold atI; rw [Int.toNat_natCast]; exact getD_of HV.out
     have hbk : (bitL bs v)[k]? = some (decide (y = 1)) := by unfold bitL; rw [List.getElem?_map, HQ6.out, ← hyv]; rfl
     have z5c2 := (z0.on (Below.step BR.out HB5.out)).2 2 _ rfl
     have p5 := (BW5.cell (p := ⟨b2, o2 + j * 2 + 1, none⟩) hb2).trans p2
     have oc := (HO.out.cell k).trans (partB_at HBL.out hlk)
     have of := HO.out.free k
     have hs := HO.out.put k (.bool (decide (y = 1)))
     rw [Bo_set, partB_set HBL.out hbk] at hs
     have rc := hs.cell k
     rw [partB_in HBL.out hbk] at rc
     have HS := Lib.hid hs
     have HB6 := Lib.hid (HB5.out.setCell (p := ⟨gb, k, none⟩) hgw (.bool (decide (y = 1))))
     have hlast : lastL (bitL bs v) (k + 1) = if decide (y = 1) then k + 1 else lastL (bitL bs v) k := by rw [lastL, getD_of hbk]
     have HLS := Lib.hid hlast
     obtain ⟨l0, hl0⟩ : ∃ l0, lastL (bitL bs v) k = l0 := ⟨_, rfl⟩
     rw [hl0] at HLS ⊢
     have k0 : (0 : Int) ≤ (k : Int) := by omega
     have k1 : (k : Int) < (m1 : Int) := by omega
     have q0 : (0 : Int) ≤ (q : Int) := by omega
     have q1 : (q : Int) < (nn : Int) := by omega
     clear hyv hbk hs hlast hl0 BW5 HO
     rcases hy with rfl | rfl
     ·replace rc : (wr.setCell ⟨gb, k, none⟩ (.bool false)).cell? ⟨gb, k, none⟩ = some (Value.bool false) := rc
      replace HS : Hid (Own (wr.setCell ⟨gb, k, none⟩ (.bool false)) gb 4 (Bo (partB (bitL bs v) m1 (k + 1)))) := HS
      replace HB6 : Hid (Below wo.heap.size wo (wr.setCell ⟨gb, k, none⟩ (.bool false))) := HB6
      go_wp2_with fail
      go_roundw
      case rel => exact ⟨k + 1, by omega, by go_num, by rw [HLS.out]; rfl, HS, HB6⟩
      case measure => simp [intOf]; omega
     ·replace rc : (wr.setCell ⟨gb, k, none⟩ (.bool true)).cell? ⟨gb, k, none⟩ = some (Value.bool true) := rc
      replace HS : Hid (Own (wr.setCell ⟨gb, k, none⟩ (.bool true)) gb 4 (Bo (partB (bitL bs v) m1 (k + 1)))) := HS
      replace HB6 : Hid (Below wo.heap.size wo (wr.setCell ⟨gb, k, none⟩ (.bool true))) := HB6
      go_wp2_with fail
      go_roundw
      case rel => exact ⟨k + 1, by omega, by go_num, by rw [HLS.out]; rfl, HS, HB6⟩
      case measure => simp [intOf]; omega
    ·obtain rfl : k = m1 := by omega
     have hO2 := HO.out
     rw [show partB (bitL bs v) k k = bitL bs v by unfold partB; rw [List.take_of_length_le (by rw [HBL.out]; exact Nat.le_refl _), Nat.sub_self, List.replicate_zero, List.append_nil]] at hO2
     have hcut : BCutAt (bitL bs v) (lastL (bitL bs v) k) := by have := lastL_is (bitL bs v); rwa [HBL.out] at this
     have hll := lastL_le (bitL bs v) k
     obtain ⟨l0, hl0⟩ : ∃ l0, lastL (bitL bs v) k = l0 := ⟨_, rfl⟩
     rw [hl0] at hcut hll ⊢
     have hbr := hO2.br HBL.out hcut hll HVL.out hm1
     have l1 : (0 : Int) ≤ (l0 : Int) := by omega
     have l2 : (l0 : Int) ≤ (k : Int) := by omega
     have hg5 : Grow wr w1.heap.size 66 _ (rs.map snC) := row_on HG.out HB5.out
     have hsz5 := (Below.step BR.out HB5.out).size
     have HR5 := Lib.hid (fun r hr => (⟨(HR.out r hr).1.tk (TK.below HB5.out), (HR.out r hr).2⟩ : ResT wr r.A r.m r.x ∧ r.m ≤ 3200 ∧ Sw r.A r.m r.c))
     have BR5 := Lib.hid (Below.step BR.out HB5.out)
     clear hO2 hcut hl0 HO BW5 HB5
     go_wp2_with fail
     refine (rparts_tag hbr (by omega)).mono ?_
     rintro en w6 ⟨A6, m6, c6, rfl, hres, hm6, htg6, sw6, b6⟩
     have hg6 : Grow w6 w1.heap.size 66 _ (rs.map snC) := row_on hg5 b6
     have hsz6 : w1.heap.size ≤ w6.heap.size := Nat.le_trans hsz5 b6.size
     have hln6 : (rs.map snC).length + 1 ≤ 1000000 := by rw [List.length_map, HL.out]; omega
     have hbx : m6 ≤ 3200 := by
      have : blen (numS bs v k) ≤ k := (blen_le _ _).2 (numS_lt bs v k)
      omega
     have HR6 := Lib.hid (fun r hr => (⟨(HR5.out r hr).1.tk (TK.below b6), (HR5.out r hr).2⟩ : ResT w6 r.A r.m r.x ∧ r.m ≤ 3200 ∧ Sw r.A r.m r.c))
     have BR6 := Lib.hid (Below.step BR5.out b6)
     have HRES := Lib.hid (hres.tg htg6)
     clear hg5 hbr hres htg6 b6 hm6 HR5 BR5
     go_wp2_with (at_builtin; refine wpList_push2 _ rfl _ _ 65 rfl elm_parts (by omega) w1.heap.size _ _ rfl hg6 (.slice A6 m6 c6) rfl rfl hln6 hsz6 ?_; intro v' w7 hg7 hb7 ht7)
     go_roundw
     case rel =>
      refine ⟨j + 1, rs ++ [⟨A6, m6, c6, numS bs v k⟩], by omega, by go_num, Lib.hid (by rw [List.map_append]; exact hg7), Lib.hid (by rw [List.length_append, HL.out]; rfl), Lib.hid ?_, Lib.hid fun r hr => ?_, Lib.hid (BR6.out.trans hb7)⟩
      ·rw [List.map_append, HX.out, HM.out]
       rfl
      ·rcases List.mem_append.1 hr with hr | hr
       ·exact ⟨(HR6.out r hr).1.tk (ht7 _ lu_ne), (HR6.out r hr).2⟩
       ·rw [List.mem_singleton.1 hr]
        exact ⟨HRES.out.tk (ht7 _ lu_ne), hbx, sw6⟩
     case measure => simp [intOf]; omega
  ·obtain rfl : j = no := by omega
   have hg := HG.out
   obtain ⟨A', c', rfl, sw, hl, hr⟩ := Grow.at hg (List.length_map snC)
   have htg := hg.tag
   have HW := Lib.hid (Below.step b1 BR.out)
   clear hg
   go_wp2_with fail
   go_ret
   refine ⟨A', _, c', rfl, ⟨rs, ⟨hr, htg⟩, ?_, HR.out⟩, sw, HW.out⟩
   have := HX.out
   rwa [List.take_of_length_le (by rw [hO.1]; exact Nat.le_refl _)] at this
set_option maxRecDepth 4000
theorem elm_outs : Elm Try.prog 29 65 1 24 := by
 obtain ⟨i, h1, h2, h3, h4⟩ := Go.info_parts (P := Try.prog) (e := 65) (z := .slice none 0 0) (size := 1) (bytes := 24) (by kernel_rfl)
 refine ⟨Try.underlying29, i, _, h1, h2, h3, h4, rfl, fun u hu => ?_⟩
 have hu2 : u ∈ (.slice none 0 0 : Value).cells.toList := hu
 simp [Value.cells] at hu2
 subst hu2
 rfl
/-! what the reference tells -/
def rval (N : List Nd) (I : List Pt) (L st : List Int) (xs : List Nat) : List Int := refR N L st (insR I xs (List.replicate N.length 0) I.length) L.length
def rst (N : List Nd) (I : List Pt) (L : List Int) (xss : List (List Nat)) : Nat → List Int
 | 0 => startR N
 | j + 1 => nextR N (rval N I L (rst N I L xss j) (xss.getD j []))
def rtold (N : List Nd) (I O : List Pt) (L : List Int) (xss : List (List Nat)) (j : Nat) : List Nat := outS O (rval N I L (rst N I L xss j) (xss.getD j []))
def rrunX (N : List Nd) (I O : List Pt) (L : List Int) (xss : List (List Nat)) : List (List Nat) × Int := if xss.all (fitsS I) then ((List.range xss.length).map (rtold N I O L xss), 0) else ([], 5)
def NnB (b : Nat) (w : World) (A : Option Addr) (n : Nat) (xss : List (List Nat)) : Prop := ∃ rs : List Sm, Rw w A n (rs.map smC) ∧ rs.map Sm.xs = xss ∧ ∀ r ∈ rs, NuB b w r.A r.m r.xs ∧ Sw r.A r.m r.c
section
variable {b : Nat} {w w' : World} {A : Option Addr} {n : Nat} {xss : List (List Nat)}
theorem NnB.on (h : NnB b w A n xss) (hb : Below w.heap.size w w') : NnB b w' A n xss := by
 obtain ⟨rs, h1, h2, h3⟩ := h
 exact ⟨rs, h1.on hb, h2, fun r hr => ⟨(h3 r hr).1.on hb, (h3 r hr).2⟩⟩
theorem NnB.len (h : NnB b w A n xss) : xss.length = n := by
 obtain ⟨rs, h1, rfl, h3⟩ := h
 have := h1.1
 simpa using this
theorem NnB.at (h : NnB b w A n xss) {k : Nat} (hk : k < n) : ∃ b' off A' m c xs, A = some ⟨b', off, none⟩ ∧ b' < w.heap.size ∧ Hid (xss[k]? = some xs) ∧ w.cell? ⟨b', off + k, none⟩ = some (.slice A' m c) ∧ NuB b w A' m xs ∧ Sw A' m c := by
 obtain ⟨rs, h1, rfl, h3⟩ := h
 obtain ⟨r, hr⟩ := look_ex (by have := h1.1; simpa using this) hk
 obtain ⟨b', off, e, hb, hc⟩ := h1.2 k (smC r) (by rw [List.getElem?_map, hr]; rfl)
 have g := h3 r (List.mem_of_getElem? hr)
 exact ⟨b', off, r.A, r.m, r.c, r.xs, e, hb, Lib.hid (by rw [List.getElem?_map, hr]; rfl), hc, g.1, g.2⟩
end
theorem start_01 {N : List Nd} {n : Int} (hf : N.all (formedS n) = true) : v01 (startR N) := fun x hx => by
 unfold startR at hx
 obtain ⟨y, hy, rfl⟩ := List.mem_map.1 hx
 have h1 := List.all_eq_true.1 hf y hy
 unfold formedS restS bitS at h1
 simp only [Bool.and_eq_true] at h1
 have h2 := h1.2.2.2
 unfold stR
 by_cases h7 : y.k = 7
 ·rw [if_neg (by omega), if_pos h7] at h2
  rw [if_pos h7]
  simpa using h2
 ·rw [if_neg h7]
  exact .inl rfl
theorem next_01 {N : List Nd} {v : List Int} (h : v01 v) : v01 (nextR N v) := fun x hx => by
 unfold nextR at hx
 obtain ⟨y, hy, rfl⟩ := List.mem_map.1 hx
 unfold nxR
 split
 ·exact h.at _
 ·exact .inl rfl
theorem setR_01 (bs : List Int) (x : Nat) {v : List Int} (h : v01 v) : ∀ j, v01 (setR bs x v j)
 | 0 => h
 | j + 1 => by
  unfold setR
  split
  ·exact (setR_01 bs x h j).set _ (.inr rfl)
  ·exact setR_01 bs x h j
theorem insR_01 (I : List Pt) (xs : List Nat) {v : List Int} (h : v01 v) : ∀ j, v01 (insR I xs v j)
 | 0 => h
 | j + 1 => setR_01 _ _ (insR_01 I xs h j) _
theorem zero_01 (n : Nat) : v01 (List.replicate n (0 : Int)) := fun x hx => .inl (List.mem_replicate.1 hx).2
theorem rval_len (N : List Nd) (I : List Pt) (L st : List Int) (xs : List Nat) : (rval N I L st xs).length = N.length := refR_len _ _ _ _ _
theorem rst_len (N : List Nd) (I : List Pt) (L : List Int) (xss : List (List Nat)) : ∀ j, (rst N I L xss j).length = N.length
 | 0 => by unfold rst startR; rw [List.length_map]
 | j + 1 => by unfold rst nextR; rw [List.length_map]
theorem rval_01 {N : List Nd} {n : Int} (hf : N.all (formedS n) = true) (I : List Pt) {L st : List Int} (xs : List Nat) (hq : ∀ q ∈ L, q.toNat < N.length) (hs : v01 st) : v01 (rval N I L st xs) :=
 refR_01 hf hq hs (insR_01 _ _ (zero_01 _) _) _ (Nat.le_refl _)
theorem rst_01 {N : List Nd} {n : Int} (hf : N.all (formedS n) = true) (I : List Pt) {L : List Int} (xss : List (List Nat)) (hq : ∀ q ∈ L, q.toNat < N.length) : ∀ j, v01 (rst N I L xss j)
 | 0 => start_01 hf
 | j + 1 => next_01 (rval_01 hf I _ hq (rst_01 hf I xss hq j))
theorem llu_ne : (136 : TypeId) ≠ 65 ∧ (66 : TypeId) ≠ 65 ∧ (3 : TypeId) ≠ 65 := by decide
theorem Own.tk {t : TypeId} {w w' : World} {g : Nat} {cs : List Value} (h : Own w g t cs) (hk : TK t w w') : Own w' g t cs := (hk g _ _ h).trans h
def RrP (w : World) (l : List (List Nat)) (e : Int) (en : Ending) (w' : World) : Prop := ∃ A m c, en = .returned (.tuple #[.slice A m c, .int .i64 e]) ∧ NnT 65 66 w' A m l ∧ Sw A m c ∧ Below w.heap.size w w'
set_option maxRecDepth 20000 in
set_option maxHeartbeats 8000000 in
theorem rthrough_as {An Ai Ao : Option Addr} {nn cn ni ci no co : Nat} {N : List Nd} {I O : List Pt} {w : World} (hN : Ns w An nn N) (hI : Ps w Ai ni I) (hO : Ps w Ao no O) (hn : nn ≤ 100000) (hni : ni ≤ 1000) (hno : no ≤ 1000) (hb : ∀ p ∈ I ++ O, p.bits.length ≤ 100000) (hq : ∀ p ∈ I ++ O, ∀ q ∈ p.bits, ∃ r : Nat, q = (r : Int) ∧ r < nn) (hf : N.all (formedS nn) = true)
    {Al : Option Addr} {ml cl : Nat} {L : List Int} (hL : Is w Al ml L) (hml : ml ≤ 100000) (hlq : ∀ q ∈ L, ∃ r : Nat, q = (r : Int) ∧ r < nn) {As : Option Addr} {ms cs : Nat} {xss : List (List Nat)} (hs : NnB 30000 w As ms xss) (hms : ms ≤ 100000) {l : List (List Nat)} {e : Int} (hr : rrunX N I O L xss = (l, e)) :
    Calls Try.prog 45 #[.agg #[.slice An nn cn, .slice Ai ni ci, .slice Ao no co], .slice Al ml cl, .slice As ms cs] w (RrP w l e) := by
  have HRX := Lib.hid hr
  have HNL : Hid (N.length = nn) := Lib.hid hN.1
  have HLL : Hid (L.length = ml) := Lib.hid hL.1
  have HSL := Lib.hid hs.len
  have HBI : Hid (∀ p ∈ I, p.bits.length ≤ 100000) := Lib.hid fun p hp => hb p (List.mem_append_left _ hp)
  have HBO : Hid (∀ p ∈ O, p.bits.length ≤ 100000) := Lib.hid fun p hp => hb p (List.mem_append_right _ hp)
  have HQI : Hid (∀ p ∈ I, ∀ q ∈ p.bits, ∃ r : Nat, q = (r : Int) ∧ r < nn) := Lib.hid fun p hp => hq p (List.mem_append_left _ hp)
  have HQO : Hid (∀ p ∈ O, ∀ q ∈ p.bits, ∃ r : Nat, q = (r : Int) ∧ r < nn) := Lib.hid fun p hp => hq p (List.mem_append_right _ hp)
  have HF := Lib.hid hf
  have HLQ := Lib.hid hlq
  have HTN : Hid (∀ q ∈ L, q.toNat < N.length) := Lib.hid fun q hm => by obtain ⟨r, e, h⟩ := hlq q hm; rw [hN.1]; omega
  clear hr hb hq hf hlq
  go_enter Try.func45, Try.ntmps45
  go_upto_region 1 with fail
  obtain ⟨w1, e_w1, z0, b1⟩ := zmB w [.slice An nn cn, .slice Ai ni ci, .slice Ao no co] 25
  rw [e_w1]
  clear e_w1
  obtain ⟨z0c0, z0c1, z0c2⟩ := z0.zb3
  go_wp2_with fail
  refine (rstart_as (hN.on b1) hn).mono ?_
  rintro en w2 ⟨g0, rfl, ho0, hg0, b2⟩
  have BW2 := Below.step b1 b2
  replace z0 := z0.on b2
  clear z0c0 z0c1 z0c2 b1 b2
  go_upto_region 3 with fail
  go_wp2_with fail
  go_loopw [8, 9, 10] (fun tv sv iv wr => ∃ (j gs : Nat) (rs : List Sm), j ≤ ms ∧ iv = .int .i64 j ∧ tv = .slice (some ⟨gs, 0, none⟩) nn nn ∧ Hid (Own wr gs 3 (ivs (rst N I L xss j))) ∧ Hid (Grow wr w2.heap.size 65 sv (rs.map smC)) ∧ Hid (rs.length = j) ∧ Hid (rs.map Sm.xs = (List.range j).map (rtold N I O L xss)) ∧ Hid (∀ r ∈ rs, NuT 66 wr r.A r.m r.xs ∧ Sw r.A r.m r.c) ∧ Hid (∀ i < j, fitsS I (xss.getD i []) = true) ∧ Hid (Below w2.heap.size w2 wr)) (fun _ _ iv _ => ms - (intOf iv).toNat)
  case atStart => exact ⟨0, g0, [], Nat.zero_le _, rfl, rfl, Lib.hid (ho0.below ((Below.refl _ _).alloc (Nat.le_refl _) _) ho0.lt), Lib.hid (Grow.made w2 _ (Nat.le_refl _)), Lib.hid rfl, Lib.hid rfl, Lib.hid (fun r hr => by cases hr), Lib.hid (fun i hi => by omega), Lib.hid ((Below.refl _ _).alloc (Nat.le_refl _) _)⟩
  case round =>
    clear ho0 hg0
    obtain ⟨j, gs, rs, hj, rfl, rfl, HS, HG, HL, HX, HR, HFT, BR⟩ := hrel
    by_cases hlt : j < ms
    · have BW := Below.step BW2 BR.out
      obtain ⟨b3, o3, A3, m3, d3, xs, rfl, hb3, HY, q3, hx, sw3⟩ := hs.at hlt
      have HGD : Hid (xss.getD j [] = xs) := Lib.hid (getD_of HY.out)
      obtain ⟨f, hfe⟩ : ∃ f, fitsS I xs = f := ⟨_, rfl⟩
      have HFE := Lib.hid hfe
      clear hfe
      have i0 : (0 : Int) ≤ (j : Int) := by omega
      have i1 : (j : Int) < (ms : Int) := by omega
      go_upto_region 6 with fail
      have bd : Below wr.heap.size wr wr.drew := (Below.refl _ _).drew
      have BWH := Lib.hid (Below.step BW bd)
      have B2H := Lib.hid (Below.step BR.out bd)
      have HSG : ∀ W, Below w.heap.size w W → Bx W w.heap.size [.slice An nn cn, .slice Ai ni ci, .slice Ao no co] → W.cell? ⟨w.heap.size, 0, none⟩ = some (.slice An nn cn) ∧ W.cell? ⟨w.heap.size, 1, none⟩ = some (.slice Ai ni ci) ∧ W.cell? ⟨w.heap.size, 2, none⟩ = some (.slice Ao no co) ∧ W.cell? ⟨b3, o3 + j, none⟩ = some (.slice A3 m3 d3) := fun W hW hz =>
        ⟨hz.2 0 _ rfl, hz.2 1 _ rfl, hz.2 2 _ rfl, (hW.cell (p := ⟨b3, o3 + j, none⟩) hb3).trans q3⟩
      have BD := Lib.hid bd
      clear bd BW
      go_region_held3 (fun w' => w'.cell? ⟨w.heap.size, 0, none⟩ = some (.slice An nn cn) ∧ w'.cell? ⟨w.heap.size, 1, none⟩ = some (.slice Ai ni ci) ∧ w'.cell? ⟨w.heap.size, 2, none⟩ = some (.slice Ao no co) ∧ w'.cell? ⟨b3, o3 + j, none⟩ = some (.slice A3 m3 d3))
        ((with_reducible exact HSG _ BWH.out (z0.on B2H.out)))
        (first
          | (go_at_call 73
             (with_reducible refine (rinputs_as (hN.on BWH.out) (hI.on BWH.out) hn hni HBI.out HQI.out (hx.on BWH.out) f HFE.out).mono ?_)
             rintro en w5 ⟨g5, rfl, hi5, hg5, b⟩
             have b5 := Lib.hid b
             replace BWH := Lib.hid (Below.step BWH.out b)
             replace B2H := Lib.hid (Below.step B2H.out b)
             clear b))
      have bx := Below.step BD.out b5.out
      have HS5 := Lib.hid (HS.out.below bx HS.out.lt)
      have HG5 : Hid (Grow w5 w2.heap.size 65 _ (rs.map smC)) := Lib.hid (row_on HG.out bx)
      have HR5 := Lib.hid (fun r hr => (⟨(HR.out r hr).1.on bx, (HR.out r hr).2⟩ : NuT 66 w5 r.A r.m r.xs ∧ Sw r.A r.m r.c))
      have z5 := z0.on B2H.out
      clear BD b5 bx HS HG HR BR
      cases f
      case false =>
        have HRE : Hid (l = [] ∧ e = 5) := Lib.hid (by
          have := HRX.out
          unfold rrunX at this
          rw [if_neg (by
            intro h
            have := List.all_eq_true.1 h xs (List.mem_of_getElem? HY.out)
            rw [HFE.out] at this
            cases this)] at this
          injection this with h1 h2
          exact ⟨h1.symm, h2.symm⟩)
        go_wp2_with fail
        go_ret2
        obtain ⟨rfl, rfl⟩ := HRE.out
        exact ⟨none, 0, 0, rfl, NnT.nil_, Sw.nil_, BWH.out⟩
      case true =>
        have hj5 : Own w5 g5 3 (ivs (insR I xs (List.replicate nn 0) I.length)) := hi5 rfl
        clear hi5
        have hin : (insR I xs (List.replicate nn 0) I.length).length = nn := by rw [insR_len, List.length_replicate]
        have hst : (rst N I L xss j).length = nn := by rw [rst_len]; exact HNL.out
        have HU : Hid (refR N L (rst N I L xss j) (insR I xs (List.replicate nn 0) I.length) ml = rval N I L (rst N I L xss j) xs) := Lib.hid (by unfold rval; rw [HNL.out, HLL.out])
        have s01 := rst_01 HF.out I xss HTN.out j
        have HU01 : Hid (v01 (rval N I L (rst N I L xss j) xs)) := Lib.hid (rval_01 HF.out I xs HTN.out s01)
        have HUL : Hid ((rval N I L (rst N I L xss j) xs).length = nn) := Lib.hid (by rw [rval_len]; exact HNL.out)
        have i01 : v01 (insR I xs (List.replicate nn 0) I.length) := insR_01 _ _ (zero_01 _) _
        obtain ⟨z5c0, z5c1, z5c2⟩ := z5.zb3
        go_wp2_with fail
        refine (rvalues_as (hN.on BWH.out) hn HF.out (hL.on BWH.out) hml HLQ.out (HS5.out.isI hst) (hj5.isI hin) s01 i01).mono ?_
        rintro en w6 ⟨g6, rfl, h6, hg6, b6⟩
        rw [HU.out] at h6
        have BW6 := Lib.hid (Below.step BWH.out b6)
        have B26 := Lib.hid (Below.step B2H.out b6)
        have HG6 : Hid (Grow w6 w2.heap.size 65 _ (rs.map smC)) := Lib.hid (row_on HG5.out b6)
        have HR6 := Lib.hid (fun r hr => (⟨(HR5.out r hr).1.on b6, (HR5.out r hr).2⟩ : NuT 66 w6 r.A r.m r.xs ∧ Sw r.A r.m r.c))
        have z6 := z5.on b6
        clear z5c0 z5c1 z5c2 z5 hj5 hin hst s01 i01 b6 HG5 HR5 HS5 BWH B2H
        obtain ⟨z6c0, z6c1, z6c2⟩ := z6.zb3
        go_wp2_with fail
        refine (routs_as (hO.on BW6.out) hno HBO.out HQO.out (h6.isI HUL.out) HU01.out).mono ?_
        rintro en w7 ⟨A7, m7, c7, rfl, hr7, sw7, b7⟩
        have h7 := h6.below b7 h6.lt
        have BW7 := Lib.hid (Below.step BW6.out b7)
        have B27 := Lib.hid (Below.step B26.out b7)
        have HG7 : Hid (Grow w7 w2.heap.size 65 _ (rs.map smC)) := Lib.hid (row_on HG6.out b7)
        have HR7 := Lib.hid (fun r hr => (⟨(HR6.out r hr).1.on b7, (HR6.out r hr).2⟩ : NuT 66 w7 r.A r.m r.xs ∧ Sw r.A r.m r.c))
        have z7 := z6.on b7
        have hsz7 := B27.out.size
        have hll7 : (rs.map smC).length + 1 ≤ 1000000 := by rw [List.length_map, HL.out]; omega
        clear z6c0 z6c1 z6c2 z6 h6 b7 HG6 HR6 BW6 B26
        go_wp2_with (at_builtin; refine wpList_push2 _ rfl _ _ 29 rfl elm_outs (by omega) w2.heap.size _ _ rfl HG7.out (.slice A7 m7 c7) rfl rfl hll7 hsz7 ?_; intro v' w8 hg8 hb8 ht8; have z8 := z0.on (B27.out.trans hb8); obtain ⟨z8c0, z8c1, z8c2⟩ := z8.zb3)
        have B28 := B27.out.trans hb8
        have BW8 := Below.step BW2 B28
        have h8 := h7.tk (ht8 _ llu_ne.2.2)
        refine (rnext_as (hN.on BW8) hn (h8.isI HUL.out) HF.out).mono ?_
        rintro en w9 ⟨g9, rfl, h9, hg9, b9⟩
        have hg9' : Grow w9 w2.heap.size 65 v' (rs.map smC ++ [.slice A7 m7 c7]) := row_on hg8 b9
        go_wp2_with fail
        go_roundw
        case rel =>
          refine ⟨j + 1, g9, rs ++ [⟨A7, m7, c7, outS O (rval N I L (rst N I L xss j) xs)⟩], by omega, by go_num, rfl, Lib.hid (by rw [rst, HGD.out]; exact h9), Lib.hid (by rw [List.map_append]; exact hg9'), Lib.hid (by rw [List.length_append, HL.out]; rfl), Lib.hid ?_, Lib.hid fun r hr => ?_, Lib.hid fun i hi => ?_, Lib.hid (Below.step B28 b9)⟩
          · rw [List.map_append, HX.out, List.range_succ, List.map_append, List.map_cons, List.map_cons]
            congr 2
            unfold rtold
            rw [HGD.out]
          · rcases List.mem_append.1 hr with hr | hr
            · exact ⟨((HR7.out r hr).1.tk (ht8 _ llu_ne.2.1) (ht8 _ llu_ne.1)).on b9, (HR7.out r hr).2⟩
            · rw [List.mem_singleton.1 hr]
              exact ⟨(hr7.tk (ht8 _ llu_ne.2.1) (ht8 _ llu_ne.1)).on b9, sw7⟩
          · by_cases ei : i = j
            · subst ei; rw [HGD.out]; exact HFE.out
            · exact HFT.out i (by omega)
        case measure => simp [intOf]; omega
    · obtain rfl : j = ms := by omega
      have hg := HG.out
      obtain ⟨A', c', rfl, sw, hl, hr⟩ := Grow.at hg (List.length_map smC)
      have htg := hg.tag
      have HRE : Hid (l = (List.range j).map (rtold N I O L xss) ∧ e = 0) := Lib.hid (by
        have := HRX.out
        unfold rrunX at this
        rw [if_pos (by
          rw [List.all_eq_true]
          intro x hx
          obtain ⟨i, hi⟩ := List.mem_iff_getElem?.1 hx
          have := HFT.out i (by rw [← HSL.out]; exact (List.getElem?_eq_some_iff.1 hi).1)
          rwa [getD_of hi] at this)] at this
        injection this with h1 h2
        rw [HSL.out] at h1
        exact ⟨h1.symm, h2.symm⟩)
      have HW := Lib.hid (Below.step BW2 BR.out)
      clear hg
      go_wp2_with fail
      go_ret2
      obtain ⟨rfl, rfl⟩ := HRE.out
      exact ⟨A', _, c', rfl, ⟨rs, ⟨hr, htg⟩, HX.out, HR.out⟩, sw, HW.out⟩
end Go.Proofs.Ytcehklnonhalhaa
namespace Go.Proofs.Ytcehklnonhalhaa
set_option maxRecDepth 4000
theorem refR_is (N : List Nd) (L st inn : List Int) : ∀ j, refR N L st inn j = runL (fun q u => nodeS (N.getD q nd0) st inn q u) ((List.range j).map fun i => (L.getD i 0).toNat) (List.replicate N.length 0)
 | 0 => rfl
 | j + 1 => by
  unfold refR
  rw [List.range_succ, List.map_append, refR_is N L st inn j]
  unfold runL
  rw [List.foldl_append]
  rfl
theorem refR_nI (N : List Nd) (L : List Nat) (st inn : List Int) : refR N (nI L) st inn (nI L).length = runL (fun q u => nodeS (N.getD q nd0) st inn q u) L (List.replicate N.length 0) := by
 rw [refR_is]
 congr 1
 rw [range_map (nI L) 0 Int.toNat]
 unfold nI
 rw [List.map_map]
 exact (List.map_congr_left fun x _ => Int.toNat_natCast x).trans (List.map_id _)
section
variable {N : List Nd} {f : Nat → Nat} {L : List Nat} (ho : Od N f L) (hf : N.all (formedS N.length) = true)
include ho hf
omit hf in
end
/-! what comes in -/
section
variable {N : List Nd} {f : Nat → Nat} {L : List Nat} (ho : Od N f L) (hf : N.all (formedS N.length) = true) {I : List Pt} (hfd : fedS N I = true) (hp : ∀ p ∈ I, ∀ q ∈ p.bits, 0 ≤ q ∧ q.toNat < N.length)
include ho hf hfd hp
omit hf hfd hp in
end
end Go.Proofs.Ytcehklnonhalhaa
namespace Go.Proofs.Ytcehklnonhalhaa
open Go.RowKit
set_option maxRecDepth 4000
set_option maxRecDepth 4000
def NnE (b : Nat) (w : World) (A : Option Addr) (n : Nat) (T : List (Sm × List Sn)) : Prop := Rw w A n (T.map fun t => smC t.1) ∧ ∀ t ∈ T, Rw w t.1.A t.1.m (t.2.map snC) ∧ t.2.map Sn.x = t.1.xs ∧ Sw t.1.A t.1.m t.1.c ∧ t.1.m ≤ b ∧ ∀ s ∈ t.2, Arg w s.A s.m s.c s.x ∧ s.m ≤ b
def scr (T : List (Sm × List Sn)) : List (List Nat) := T.map fun t => t.1.xs
section
variable {b : Nat} {w w' : World} {A : Option Addr} {n : Nat} {T : List (Sm × List Sn)}
theorem NnE.on (h : NnE b w A n T) (hb : Below w.heap.size w w') : NnE b w' A n T := ⟨h.1.on hb, fun t ht => by
 obtain ⟨h1, h2, h3, h4, h5⟩ := h.2 t ht
 exact ⟨h1.on hb, h2, h3, h4, fun s hs => ⟨(h5 s hs).1.on hb, (h5 s hs).2⟩⟩⟩
theorem NnE.len (h : NnE b w A n T) : T.length = n := by have := h.1.1; rwa [List.length_map] at this
def Le (c : Nat) (T : List (Sm × List Sn)) : Prop := ∀ t ∈ T, t.1.m ≤ c ∧ ∀ s ∈ t.2, s.m ≤ c
theorem NnE.nb (h : NnE b w A n T) {c : Nat} (hl : Le c T) : NnB c w A n (scr T) := by
 refine ⟨T.map (·.1), by rw [List.map_map]; exact h.1, by rw [List.map_map]; rfl, fun r hr => ?_⟩
 obtain ⟨t, ht, rfl⟩ := List.mem_map.1 hr
 obtain ⟨h1, h2, h3, h4, h5⟩ := h.2 t ht
 exact ⟨⟨t.2, h1, h2, fun s hs => ⟨(h5 s hs).1, (hl t ht).2 s hs⟩⟩, h3⟩
end
end Go.Proofs.Ytcehklnonhalhaa
namespace Go.Proofs.Ytcehklnonhalhaa
open Go.RowKit
set_option maxRecDepth 4000
theorem NnB.le {b c : Nat} {w : World} {A : Option Addr} {n : Nat} {xss : List (List Nat)} (h : NnB b w A n xss) (hb : b ≤ c) : NnB c w A n xss := by
 obtain ⟨rs, h1, h2, h3⟩ := h
 refine ⟨rs, h1, h2, fun r hr => ?_⟩
 obtain ⟨⟨ss, g1, g2, g3⟩, g4⟩ := h3 r hr
 exact ⟨⟨ss, g1, g2, fun s hs => ⟨(g3 s hs).1, Nat.le_trans (g3 s hs).2 hb⟩⟩, g4⟩
open Go.RowKit Go.ChangeShapes Go.WideShapes
set_option maxRecDepth 4000
theorem bulk_pos {H : Type} (d : DataW H) : 1 ≤ Rows.uptoBulk d := by
 cases d with
 | lit l => cases l <;> simp [Rows.uptoBulk]
 | _ => simp [Rows.uptoBulk]
theorem bulk_len {H : Type} : ∀ l : List (DataW H), l.length ≤ Rows.uptoBulkAll l
 | [] => Nat.zero_le _
 | d :: r => by
  have h1 := bulk_pos d
  have h2 := bulk_len r
  simp only [Rows.uptoBulkAll, List.length_cons]
  omega
theorem bulk_part {H : Type} {d : DataW H} : ∀ {l : List (DataW H)}, d ∈ l → Rows.uptoBulk d ≤ Rows.uptoBulkAll l
 | c :: r, h => by
  simp only [Rows.uptoBulkAll]
  rcases List.mem_cons.1 h with rfl | h
  ·omega
  ·have := bulk_part h
   omega
theorem NnE.up {b c : Nat} {w : World} {A : Option Addr} {n : Nat} {T : List (Sm × List Sn)} (h : NnE b w A n T) (hb : b ≤ c) : NnE c w A n T := ⟨h.1, fun t ht => by
 obtain ⟨h1, h2, h3, h4, h5⟩ := h.2 t ht
 exact ⟨h1, h2, h3, Nat.le_trans h4 hb, fun s hs => ⟨(h5 s hs).1, Nat.le_trans (h5 s hs).2 hb⟩⟩⟩
section
variable {H : Type} {enc : TypeId × Value → H} {w : World}
theorem open_numE {fuel : Nat} {v : Value} {x : DataW H × List MemPlace} (h : DataW.trod enc Try.prog w 0 (fun _ => true) true fuel 100 [v] = some x) :
  ∃ A n c y, v = .slice A n c ∧ Arg w A n c y ∧ n ≤ Rows.uptoBulk x.1 := by
 rcases open_ints Try.underlying100 Try.underlying136 cells_u32 h with ⟨hcs, _⟩ | ⟨a, l, c, zs, hcs, _, hl, hm, hzl, hx, hcell, hwz⟩
 ·cases hcs
  exact ⟨none, 0, 0, 0, rfl, (Res.none_ w).arg (by omega), by omega⟩
 ·cases hcs
  simp only [if_true] at hzl
  obtain ⟨y, hy⟩ := row_arg7 hl hm hzl hcell hwz
  have hb : l ≤ Rows.uptoBulk x.1 := by
   rw [hx]
   simp only [Rows.uptoBulk]
   have h1 := bulk_len (H := H) (lits .u32 (zs.take l))
   have h2 : (lits (H := H) .u32 (zs.take l)).length = l := by simp [lits]; omega
   omega
  exact ⟨some a, l, c, y, rfl, hy, hb⟩
theorem open_rowE {fuel : Nat} {v : Value} {x : DataW H × List MemPlace} (h : DataW.trod enc Try.prog w 0 (fun _ => true) true fuel 68 [v] = some x) :
  ∃ (A : Option Addr) (n c : Nat) (ss : List Sn), v = .slice A n c ∧ Rw w A n (ss.map snC) ∧ (∀ s ∈ ss, Arg w s.A s.m s.c s.x ∧ s.m ≤ Rows.uptoBulk x.1) ∧ n ≤ Rows.uptoBulk x.1 ∧ Sw A n c := by
 rcases Go.Deep.open_slice Try.underlying68 h with ⟨hcs, _⟩ | ⟨a, l, c, m, fu, D, Pl, hcs, _, hl, hm, hmm, hx, hel⟩
 ·cases hcs
  exact ⟨none, 0, 0, [], rfl, Rw.nil_, fun r hr => (by cases hr), by omega, Sw.nil_⟩
 ·cases hcs
  simp only [if_true] at hmm
  subst hmm
  have hbl : l ≤ Rows.uptoBulk x.1 ∧ ∀ k < l, Rows.uptoBulk (D k) ≤ Rows.uptoBulk x.1 := by
   rw [hx]
   simp only [Rows.uptoBulk]
   refine ⟨?_, fun k hk => ?_⟩
   ·have h1 := bulk_len ((List.range l).map D)
    rw [List.length_map, List.length_range] at h1
    omega
   ·have h1 := bulk_part (l := (List.range l).map D) (List.mem_map.2 ⟨k, List.mem_range.2 hk, rfl⟩)
    omega
  obtain ⟨L, hL1, hL2⟩ := list_ex (Q := fun (k : Nat) (r : Sn) => (∃ b off, some a = some ⟨b, off, none⟩ ∧ b < w.heap.size ∧ w.cell? ⟨b, off + k, none⟩ = some (snC r)) ∧ Arg w r.A r.m r.c r.x ∧ r.m ≤ Rows.uptoBulk x.1) l (fun k hk => by
   have hs : a.spot = none := by
    obtain ⟨cs, h1, _⟩ := hel 0 (by omega)
    rw [cells_nat] at h1
    obtain ⟨_, hcl, hce⟩ := World.cells?_some h1
    have g0 := hce 0 (by omega)
    rw [Go.Deep.add_add, Nat.zero_mul, List.getElem?_eq_getElem (by omega)] at g0
    exact spot_of g0
   obtain ⟨cs, h1, h2⟩ := hel k (by omega)
   rw [cells_nat] at h1
   obtain ⟨_, hcl, hce⟩ := World.cells?_some h1
   obtain ⟨c0, rfl⟩ : ∃ c0, cs = [c0] := by
    match cs, hcl with
    | [c0], _ => exact ⟨c0, rfl⟩
   obtain ⟨A', m', c', y, rfl, ha, hr⟩ := open_numE h2
   have g0 := hce 0 (by omega)
   rw [Go.Deep.add_add, Nat.mul_one, Nat.add_zero] at g0
   obtain ⟨b, o, rfl, hb, q0⟩ := one_at hs g0
   exact ⟨⟨A', m', c', y⟩, ⟨b, o, rfl, hb, q0⟩, ha, Nat.le_trans hr (hbl.2 k hk)⟩)
  exact ⟨some a, l, m, L, rfl, ⟨by rw [List.length_map]; exact hL1, fun k u hu => by
   rw [List.getElem?_map] at hu
   cases e : L[k]? with
   | none => rw [e] at hu; cases hu
   | some r =>
    rw [e] at hu
    cases hu
    exact (hL2 k r e).1⟩, fun r hr => by
   obtain ⟨k, hk⟩ := List.mem_iff_getElem?.1 hr
   exact (hL2 k r hk).2, hbl.1, ⟨hl, hm, fun e => by cases e⟩⟩
theorem open_scriptE {v : Value} {d : DataW H} {p : List MemPlace} {b0 : Nat} (hv : Value.okWide Try.prog w .any b0 26 v) (h0 : DataW.Trod enc Try.prog w 0 (fun _ => true) true 26 v d p) :
  ∃ (A : Option Addr) (n c : Nat) (T : List (Sm × List Sn)), v = .slice A n c ∧ NnE (Rows.uptoBulk d) w A n T ∧ n ≤ Rows.uptoBulk d := by
 obtain ⟨ao, lo, co, rfl⟩ := okWide_slice Try.underlying26 hv
 obtain ⟨fuel, h⟩ := h0
 rcases Go.Deep.open_slice Try.underlying26 h with ⟨hcs, _⟩ | ⟨a, l, c, m, fu, D, Pl, hcs, _, hl, hm, hmm, hx, hel⟩
 ·simp [Value.cells] at hcs
  obtain ⟨rfl, rfl, rfl⟩ := hcs
  exact ⟨none, 0, 0, [], rfl, ⟨Rw.nil_, fun r hr => (by cases hr)⟩, by omega⟩
 ·simp [Value.cells] at hcs
  obtain ⟨e1, e2, e3⟩ := hcs
  replace e1 := e1.symm
  replace e2 := e2.symm
  replace e3 := e3.symm
  subst e1 e2 e3
  simp only [if_true] at hmm
  subst hmm
  injection hx with hx _
  have hbl : l ≤ Rows.uptoBulk d ∧ ∀ k < l, Rows.uptoBulk (D k) ≤ Rows.uptoBulk d := by
   rw [hx]
   simp only [Rows.uptoBulk]
   refine ⟨?_, fun k hk => ?_⟩
   ·have h1 := bulk_len ((List.range l).map D)
    rw [List.length_map, List.length_range] at h1
    omega
   ·have h1 := bulk_part (l := (List.range l).map D) (List.mem_map.2 ⟨k, List.mem_range.2 hk, rfl⟩)
    omega
  obtain ⟨L, hL1, hL2⟩ := list_ex (Q := fun (k : Nat) (t : Sm × List Sn) => (∃ b off, some a = some ⟨b, off, none⟩ ∧ b < w.heap.size ∧ w.cell? ⟨b, off + k, none⟩ = some (smC t.1)) ∧ Rw w t.1.A t.1.m (t.2.map snC) ∧ t.2.map Sn.x = t.1.xs ∧ Sw t.1.A t.1.m t.1.c ∧ t.1.m ≤ Rows.uptoBulk d ∧ ∀ s ∈ t.2, Arg w s.A s.m s.c s.x ∧ s.m ≤ Rows.uptoBulk d) l (fun k hk => by
   have hs : a.spot = none := by
    obtain ⟨cs, h1, _⟩ := hel 0 (by omega)
    rw [cells_nats] at h1
    obtain ⟨_, hcl, hce⟩ := World.cells?_some h1
    have g0 := hce 0 (by omega)
    rw [Go.Deep.add_add, Nat.zero_mul, List.getElem?_eq_getElem (by omega)] at g0
    exact spot_of g0
   obtain ⟨cs, h1, h2⟩ := hel k (by omega)
   rw [cells_nats] at h1
   obtain ⟨_, hcl, hce⟩ := World.cells?_some h1
   obtain ⟨c0, rfl⟩ : ∃ c0, cs = [c0] := by
    match cs, hcl with
    | [c0], _ => exact ⟨c0, rfl⟩
   obtain ⟨A', m', c', ss, rfl, ha, hss, hr, sw⟩ := open_rowE h2
   have g0 := hce 0 (by omega)
   rw [Go.Deep.add_add, Nat.mul_one, Nat.add_zero] at g0
   obtain ⟨b, o, rfl, hb, q0⟩ := one_at hs g0
   exact ⟨(⟨A', m', c', ss.map Sn.x⟩, ss), ⟨b, o, rfl, hb, q0⟩, ha, rfl, sw, Nat.le_trans hr (hbl.2 k hk), fun s hs => ⟨(hss s hs).1, Nat.le_trans (hss s hs).2 (hbl.2 k hk)⟩⟩)
  exact ⟨some a, l, m, L, rfl, ⟨⟨by rw [List.length_map]; exact hL1, fun k u hu => by
   rw [List.getElem?_map] at hu
   cases e : L[k]? with
   | none => rw [e] at hu; cases hu
   | some r =>
    rw [e] at hu
    cases hu
    exact (hL2 k r e).1⟩, fun r hr => by
   obtain ⟨k, hk⟩ := List.mem_iff_getElem?.1 hr
   exact (hL2 k r hk).2⟩, hbl.1⟩
end
end Go.Proofs.Ytcehklnonhalhaa
