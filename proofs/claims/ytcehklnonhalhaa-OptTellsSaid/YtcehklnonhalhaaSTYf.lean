/-
  What the proofs of OptTells need: Yf.
-/
import Derived.Test.YtcehklnonhalhaaSTYr
import Derived.Test.YtcehklnonhalhaaSTGr
import Derived.Test.YtcehklnonhalhaaSTGaa
import Derived.Test.YtcehklnonhalhaaSTJB
import Derived.Test.YtcehklnonhalhaaSTLexG
import Derived.Laws.StructEq
import Derived.Deep.QuietTactic
import Derived.BigQuiet
set_option linter.unusedVariables false
namespace Go.Proofs.Ytcehklnonhalhaa
open Go.RowKit
set_option maxRecDepth 4000
structure Fr (w : World) (p : Nat) (M : List Nd) (S : List Int) : Prop where
  ex : ∃ A c A' c',Bx w p [.slice A M.length c,.slice A' M.length c'] ∧ Ns w A M.length M ∧ Is w A' M.length S
theorem Fr.on {w w' : World} {p : Nat} {M : List Nd} {S : List Int} (h : Fr w p M S) (hb : Below w.heap.size w w') : Fr w' p M S:=by
 obtain ⟨A,c,A',c',h1,h2,h3⟩:=h.ex
 exact ⟨A,c,A',c',h1.on hb,h2.on hb,h3.on hb⟩
theorem zeL (x1 x2 x3 x4 y1 y2 y3 y4 : Int) (w : World) : (Op.equalIn 10000 43 (.agg #[.int .i64 x1,.int .i64 x2,.int .i64 x3,.int .i64 x4]) (.agg #[.int .i64 y1,.int .i64 y2,.int .i64 y3,.int .i64 y4])).run Try.prog w = .ok (za6 ⟨x1,x2,x3,x4⟩ ⟨y1,y2,y3,y4⟩) w:=by
 unfold za6
 cases e1 : (x1 == y1) <;> cases e2 : (x2 == y2) <;> cases e3 : (x3 == y3) <;> cases e4 : (x4 == y4) <;> simp [go_sem,e1,e2,e3,e4]
theorem zbT (x1 x2 x3 x4 y1 y2 y3 y4 : Int) (w : World) : (binOp .eql 43 (.agg #[.int .i64 x1,.int .i64 x2,.int .i64 x3,.int .i64 x4]) (.agg #[.int .i64 y1,.int .i64 y2,.int .i64 y3,.int .i64 y4])).run Try.prog w = .ok (.bool (za6 ⟨x1,x2,x3,x4⟩ ⟨y1,y2,y3,y4⟩)) w:=by
 rw [run_eql_struct,zeL]
 rfl
theorem zbS (x1 x2 x3 x4 y1 y2 y3 y4 : Int) (w : World) : (binOp .neq 43 (.agg #[.int .i64 x1,.int .i64 x2,.int .i64 x3,.int .i64 x4]) (.agg #[.int .i64 y1,.int .i64 y2,.int .i64 y3,.int .i64 y4])).run Try.prog w = .ok (.bool (!za6 ⟨x1,x2,x3,x4⟩ ⟨y1,y2,y3,y4⟩)) w:=by
 rw [run_neq_struct,zeL]
 rfl
attribute [local go_sem ↓] zbT zbS
theorem Bx.t0 {w : World} {s : Nat} {a : Value} {l : List Value} (h : Bx w s (a :: l)) : w.cell? ⟨s,0,none⟩ = some a:=h.2 0 _ rfl
theorem Bx.t1 {w : World} {s : Nat} {a b : Value} {l : List Value} (h : Bx w s (a :: b :: l)) : w.cell? ⟨s,1,none⟩ = some b:=h.2 1 _ rfl
theorem zby (v : Int) (w : World) : Calls Try.prog 125 #[.int .i64 v] w fun e w' => e = .returned (.agg #[.int .i64 0,.int .i64 v,.int .i64 0,.int .i64 0]) ∧ Below w.heap.size w w':=by
 go_enter Try.func125,Try.ntmps125
 go_wp2_with fail
 refine bodyPost_ret (v:=.agg #[.int .i64 0,.int .i64 v,.int .i64 0,.int .i64 0]) (by simp [results,Try.results125,go_sem]) rfl ⟨rfl,?_⟩
 first | exact below1 _ _ | exact zbu _ _ _ | (trace_state; exact Below.refl _ _)
theorem zdA (v : Int) (w : World) : Calls Try.prog 128 #[.int .i64 v] w fun e w' => e = .returned (.agg #[.int .i64 2,.int .i64 v,.int .i64 0,.int .i64 0]) ∧ Below w.heap.size w w':=by
 go_enter Try.func128,Try.ntmps128
 go_wp2_with fail
 refine bodyPost_ret (v:=.agg #[.int .i64 2,.int .i64 v,.int .i64 0,.int .i64 0]) (by simp [results,Try.results128,go_sem]) rfl ⟨rfl,?_⟩
 first | exact below1 _ _ | exact zbu _ _ _ | (trace_state; exact Below.refl _ _)
theorem nA_nat {M : List Nd} {q : Nat} {x : Nd} (h : M[q]? = some x) : nA M (q : Int) = x:=by
 unfold nA
 rw [Int.toNat_natCast,List.getD_eq_getElem?_getD,h]
 rfl
set_option maxHeartbeats 2000000 in
theorem zaz {w : World} {p : Nat} {M : List Nd} {S : List Int} (h : Fr w p M S) (q : Nat) (hq : q < M.length) (v : Int) (r : Bool) (hr : isC M (q : Int) v = r) : Calls Try.prog 126 #[.pointer (some ⟨p,0,none⟩),.int .i64 (q : Int),.int .i64 v] w fun e w' => e = .returned (.bool r) ∧ Below w.heap.size w w':=by
  obtain ⟨A,c,A',c',h1,h2,h3⟩:=h.ex
  obtain ⟨b0,off,x1,x2,x3,x4,eA,HX,hA⟩:=h2.nat hq
  subst eA
  have HR : Hid (za6 ⟨x1,x2,x3,x4⟩ ⟨0,v,0,0⟩ = r):=Lib.hid (by rw [← hr]; unfold isC; rw [nA_nat HX.out]; rfl)
  have hjn : (q : Int) < (M.length : Int):=by omega
  have hj0 : (0 : Int) ≤ (q : Int):=by omega
  have HQ:=Lib.hid hq
  clear h h2 h3 hr HX hq
  go_enter Try.func126,Try.ntmps126
  go_upto_region 1 with fail
  have b : Below w.heap.size w w.drew:=(Below.refl _ _).drew
  replace h1:=h1.on b
  replace hA:=hA.on b
  have BW:=Lib.hid b
  clear b
  go_region_held3 (fun w' => w'.cell? ⟨p,0,none⟩ = some (.slice (some ⟨b0,off,none⟩) M.length c) ∧ w'.cell? ⟨b0,off + q * 4,none⟩ = some (.int .i64 x1) ∧ w'.cell? ⟨b0,off + q * 4 + 1,none⟩ = some (.int .i64 x2) ∧ w'.cell? ⟨b0,off + q * 4 + 2,none⟩ = some (.int .i64 x3) ∧ w'.cell? ⟨b0,off + q * 4 + 3,none⟩ = some (.int .i64 x4))
    ((with_reducible exact ⟨h1.t0,hA.c1,hA.c2,hA.c3,hA.c4⟩))
    (first
      | (go_at_call 125
         (with_reducible refine (zby v _).mono ?_)
         rintro en w4 ⟨rfl,b⟩
         replace h1:=h1.on b
         replace hA:=hA.on b
         replace BW:=Lib.hid (Below.step BW.out b)
         clear b))
  rw [HR.out]
  go_wp2_with fail
  go_ret
  exact ⟨rfl,BW.out⟩
set_option maxHeartbeats 4000000 in
theorem areTurned_t {w : World} {p n b0 off c a b : Nat} {v1 : Value} {x1 x2 x3 x4 y1 y2 y3 y4 : Int} (h1 : Bx w p [.slice (some ⟨b0,off,none⟩) n c,v1]) (hA : NAt w b0 (off + a * 4) x1 x2 x3 x4) (hB : NAt w b0 (off + b * 4) y1 y2 y3 y4) (ha : a < n) (hb : b < n) (HS : za6 ⟨x1,x2,x3,x4⟩ ⟨2,(b : Int),0,0⟩ = true) (r : Bool) (hr : true = r) : Calls Try.prog 127 #[.pointer (some ⟨p,0,none⟩),.int .i64 (a : Int),.int .i64 (b : Int)] w fun e w' => e = .returned (.bool r) ∧ Below w.heap.size w w':=by
 have HR:=Lib.hid hr
 have ha1 : (a : Int) < (n : Int):=by omega
 have ha0 : (0 : Int) ≤ (a : Int):=by omega
 have hb1 : (b : Int) < (n : Int):=by omega
 have hb0 : (0 : Int) ≤ (b : Int):=by omega
 clear hr ha hb
 go_enter Try.func127,Try.ntmps127
 go_upto_region 1 with fail
 have BW:=Lib.hid (Below.refl w.heap.size w)
 try dsimp only [List.append]
 refine LexG.region_plan LexG.below_ok 0 [0,1,2,3,4,5,6,7,8,9,10,11,12,13,14,15,16,17,18,19,20,21,22] (h:=?_)
 dsimp only [LexG.pick,LexG.nth]
 have bd : Below w.heap.size w w.drew:=(Below.refl _ _).drew
 replace h1:=h1.on bd
 replace hA:=hA.on bd
 replace hB:=hB.on bd
 replace BW:=Lib.hid (Below.step BW.out bd)
 clear bd
 obtain ⟨w3,e_w⟩ : ∃ w',w.drew = w':=⟨_,rfl⟩
 rw [e_w] at h1 hA hB BW ⊢
 clear e_w
 have H8:=fun s : LexG.Wd (fun w w' => Below w.heap.size w w') w3 => (h1.on s.rel).t0
 have H7:=fun s : LexG.Wd (fun w w' => Below w.heap.size w w') w3 => (hA.on s.rel).c1
 have H6:=fun s : LexG.Wd (fun w w' => Below w.heap.size w w') w3 => (hA.on s.rel).c2
 have H5:=fun s : LexG.Wd (fun w w' => Below w.heap.size w w') w3 => (hA.on s.rel).c3
 have H4:=fun s : LexG.Wd (fun w w' => Below w.heap.size w w') w3 => (hA.on s.rel).c4
 have H3:=fun s : LexG.Wd (fun w w' => Below w.heap.size w w') w3 => (hB.on s.rel).c1
 have H2:=fun s : LexG.Wd (fun w w' => Below w.heap.size w w') w3 => (hB.on s.rel).c2
 have H1:=fun s : LexG.Wd (fun w w' => Below w.heap.size w w') w3 => (hB.on s.rel).c3
 have H0:=fun s : LexG.Wd (fun w w' => Below w.heap.size w w') w3 => (hB.on s.rel).c4
 refine LexG.lex_plain 8 (by kernel_rfl) ?_
 dsimp only [List.take,List.drop]
 repeat go_big_quiet_step (fail)
 refine wpQuiet_nil ?_
 clear H8 H7 H6 H5 H4 H3 H2 H1 H0
 refine LexG.lex_call (h:=fun K hK => ?_)
 go_simp
 refine (zdA (b : Int) _).mono ?_
 rintro en w4 ⟨rfl,b⟩
 dsimp only
 refine hK _ _ b ?_
 clear hK K
 replace h1:=h1.on b
 replace hA:=hA.on b
 replace hB:=hB.on b
 replace BW:=Lib.hid (Below.step BW.out b)
 clear b
 have H8:=fun s : LexG.Wd (fun w w' => Below w.heap.size w w') w4 => (h1.on s.rel).t0
 have H7:=fun s : LexG.Wd (fun w w' => Below w.heap.size w w') w4 => (hA.on s.rel).c1
 have H6:=fun s : LexG.Wd (fun w w' => Below w.heap.size w w') w4 => (hA.on s.rel).c2
 have H5:=fun s : LexG.Wd (fun w w' => Below w.heap.size w w') w4 => (hA.on s.rel).c3
 have H4:=fun s : LexG.Wd (fun w w' => Below w.heap.size w w') w4 => (hA.on s.rel).c4
 have H3:=fun s : LexG.Wd (fun w w' => Below w.heap.size w w') w4 => (hB.on s.rel).c1
 have H2:=fun s : LexG.Wd (fun w w' => Below w.heap.size w w') w4 => (hB.on s.rel).c2
 have H1:=fun s : LexG.Wd (fun w w' => Below w.heap.size w w') w4 => (hB.on s.rel).c3
 have H0:=fun s : LexG.Wd (fun w w' => Below w.heap.size w w') w4 => (hB.on s.rel).c4
 refine LexG.lex_plain 10 (by kernel_rfl) ?_
 dsimp only [List.take,List.drop]
 repeat go_big_quiet_step (fail)
 refine wpQuiet_nil ?_
 clear H8 H7 H6 H5 H4 H3 H2 H1 H0
 refine LexG.lex_skip (by kernel_rfl) (by kernel_rfl) ?_
 dsimp only [Act.put]
 simp only [List.setIfInBounds_toArray,List.set_cons_succ,List.set_cons_zero]
 have H8:=fun s : LexG.Wd (fun w w' => Below w.heap.size w w') w4 => (h1.on s.rel).t0
 have H7:=fun s : LexG.Wd (fun w w' => Below w.heap.size w w') w4 => (hA.on s.rel).c1
 have H6:=fun s : LexG.Wd (fun w w' => Below w.heap.size w w') w4 => (hA.on s.rel).c2
 have H5:=fun s : LexG.Wd (fun w w' => Below w.heap.size w w') w4 => (hA.on s.rel).c3
 have H4:=fun s : LexG.Wd (fun w w' => Below w.heap.size w w') w4 => (hA.on s.rel).c4
 have H3:=fun s : LexG.Wd (fun w w' => Below w.heap.size w w') w4 => (hB.on s.rel).c1
 have H2:=fun s : LexG.Wd (fun w w' => Below w.heap.size w w') w4 => (hB.on s.rel).c2
 have H1:=fun s : LexG.Wd (fun w w' => Below w.heap.size w w') w4 => (hB.on s.rel).c3
 have H0:=fun s : LexG.Wd (fun w w' => Below w.heap.size w w') w4 => (hB.on s.rel).c4
 refine LexG.lex_plain 3 (by kernel_rfl) ?_
 dsimp only [List.take,List.drop]
 repeat go_big_quiet_step (fail)
 refine wpQuiet_nil ?_
 clear H8 H7 H6 H5 H4 H3 H2 H1 H0
 refine LexG.lex_nil ?_
 dsimp only [NoPanic]
 go_wp2_with fail
 go_ret
 exact ⟨by rw [← HR.out]; rfl,BW.out⟩
set_option maxHeartbeats 4000000 in
theorem areTurned_f {w : World} {p n b0 off c a b : Nat} {v1 : Value} {x1 x2 x3 x4 y1 y2 y3 y4 : Int} (h1 : Bx w p [.slice (some ⟨b0,off,none⟩) n c,v1]) (hA : NAt w b0 (off + a * 4) x1 x2 x3 x4) (hB : NAt w b0 (off + b * 4) y1 y2 y3 y4) (ha : a < n) (hb : b < n) (HS : za6 ⟨x1,x2,x3,x4⟩ ⟨2,(b : Int),0,0⟩ = false) (r : Bool) (hr : za6 ⟨y1,y2,y3,y4⟩ ⟨2,(a : Int),0,0⟩ = r) : Calls Try.prog 127 #[.pointer (some ⟨p,0,none⟩),.int .i64 (a : Int),.int .i64 (b : Int)] w fun e w' => e = .returned (.bool r) ∧ Below w.heap.size w w':=by
 have HR:=Lib.hid hr
 have ha1 : (a : Int) < (n : Int):=by omega
 have ha0 : (0 : Int) ≤ (a : Int):=by omega
 have hb1 : (b : Int) < (n : Int):=by omega
 have hb0 : (0 : Int) ≤ (b : Int):=by omega
 clear hr ha hb
 go_enter Try.func127,Try.ntmps127
 go_upto_region 1 with fail
 have BW:=Lib.hid (Below.refl w.heap.size w)
 try dsimp only [List.append]
 refine LexG.region_plan LexG.below_ok 0 [0,1,2,3,4,5,6,7,8,9,10,11,12,13,14,15,16,17,18,19,20,21,22] (h:=?_)
 dsimp only [LexG.pick,LexG.nth]
 have bd : Below w.heap.size w w.drew:=(Below.refl _ _).drew
 replace h1:=h1.on bd
 replace hA:=hA.on bd
 replace hB:=hB.on bd
 replace BW:=Lib.hid (Below.step BW.out bd)
 clear bd
 obtain ⟨w3,e_w⟩ : ∃ w',w.drew = w':=⟨_,rfl⟩
 rw [e_w] at h1 hA hB BW ⊢
 clear e_w
 have H8:=fun s : LexG.Wd (fun w w' => Below w.heap.size w w') w3 => (h1.on s.rel).t0
 have H7:=fun s : LexG.Wd (fun w w' => Below w.heap.size w w') w3 => (hA.on s.rel).c1
 have H6:=fun s : LexG.Wd (fun w w' => Below w.heap.size w w') w3 => (hA.on s.rel).c2
 have H5:=fun s : LexG.Wd (fun w w' => Below w.heap.size w w') w3 => (hA.on s.rel).c3
 have H4:=fun s : LexG.Wd (fun w w' => Below w.heap.size w w') w3 => (hA.on s.rel).c4
 have H3:=fun s : LexG.Wd (fun w w' => Below w.heap.size w w') w3 => (hB.on s.rel).c1
 have H2:=fun s : LexG.Wd (fun w w' => Below w.heap.size w w') w3 => (hB.on s.rel).c2
 have H1:=fun s : LexG.Wd (fun w w' => Below w.heap.size w w') w3 => (hB.on s.rel).c3
 have H0:=fun s : LexG.Wd (fun w w' => Below w.heap.size w w') w3 => (hB.on s.rel).c4
 refine LexG.lex_plain 8 (by kernel_rfl) ?_
 dsimp only [List.take,List.drop]
 repeat go_big_quiet_step (fail)
 refine wpQuiet_nil ?_
 clear H8 H7 H6 H5 H4 H3 H2 H1 H0
 refine LexG.lex_call (h:=fun K hK => ?_)
 go_simp
 refine (zdA (b : Int) _).mono ?_
 rintro en w4 ⟨rfl,b⟩
 dsimp only
 refine hK _ _ b ?_
 clear hK K
 replace h1:=h1.on b
 replace hA:=hA.on b
 replace hB:=hB.on b
 replace BW:=Lib.hid (Below.step BW.out b)
 clear b
 have H8:=fun s : LexG.Wd (fun w w' => Below w.heap.size w w') w4 => (h1.on s.rel).t0
 have H7:=fun s : LexG.Wd (fun w w' => Below w.heap.size w w') w4 => (hA.on s.rel).c1
 have H6:=fun s : LexG.Wd (fun w w' => Below w.heap.size w w') w4 => (hA.on s.rel).c2
 have H5:=fun s : LexG.Wd (fun w w' => Below w.heap.size w w') w4 => (hA.on s.rel).c3
 have H4:=fun s : LexG.Wd (fun w w' => Below w.heap.size w w') w4 => (hA.on s.rel).c4
 have H3:=fun s : LexG.Wd (fun w w' => Below w.heap.size w w') w4 => (hB.on s.rel).c1
 have H2:=fun s : LexG.Wd (fun w w' => Below w.heap.size w w') w4 => (hB.on s.rel).c2
 have H1:=fun s : LexG.Wd (fun w w' => Below w.heap.size w w') w4 => (hB.on s.rel).c3
 have H0:=fun s : LexG.Wd (fun w w' => Below w.heap.size w w') w4 => (hB.on s.rel).c4
 refine LexG.lex_plain 10 (by kernel_rfl) ?_
 dsimp only [List.take,List.drop]
 repeat go_big_quiet_step (fail)
 refine wpQuiet_nil ?_
 clear H8 H7 H6 H5 H4 H3 H2 H1 H0
 refine LexG.lex_call (h:=fun K hK => ?_)
 go_simp
 refine (zdA (a : Int) _).mono ?_
 rintro en w5 ⟨rfl,b⟩
 dsimp only
 refine hK _ _ b ?_
 clear hK K
 replace h1:=h1.on b
 replace hA:=hA.on b
 replace hB:=hB.on b
 replace BW:=Lib.hid (Below.step BW.out b)
 clear b
 have H8:=fun s : LexG.Wd (fun w w' => Below w.heap.size w w') w5 => (h1.on s.rel).t0
 have H7:=fun s : LexG.Wd (fun w w' => Below w.heap.size w w') w5 => (hA.on s.rel).c1
 have H6:=fun s : LexG.Wd (fun w w' => Below w.heap.size w w') w5 => (hA.on s.rel).c2
 have H5:=fun s : LexG.Wd (fun w w' => Below w.heap.size w w') w5 => (hA.on s.rel).c3
 have H4:=fun s : LexG.Wd (fun w w' => Below w.heap.size w w') w5 => (hA.on s.rel).c4
 have H3:=fun s : LexG.Wd (fun w w' => Below w.heap.size w w') w5 => (hB.on s.rel).c1
 have H2:=fun s : LexG.Wd (fun w w' => Below w.heap.size w w') w5 => (hB.on s.rel).c2
 have H1:=fun s : LexG.Wd (fun w w' => Below w.heap.size w w') w5 => (hB.on s.rel).c3
 have H0:=fun s : LexG.Wd (fun w w' => Below w.heap.size w w') w5 => (hB.on s.rel).c4
 refine LexG.lex_plain 3 (by kernel_rfl) ?_
 dsimp only [List.take,List.drop]
 repeat go_big_quiet_step (fail)
 refine wpQuiet_nil ?_
 clear H8 H7 H6 H5 H4 H3 H2 H1 H0
 refine LexG.lex_nil ?_
 dsimp only [NoPanic]
 go_wp2_with fail
 go_ret
 exact ⟨by rw [← HR.out]; rfl,BW.out⟩
theorem zcF {w : World} {p : Nat} {M : List Nd} {S : List Int} (h : Fr w p M S) (a b : Nat) (ha : a < M.length) (hb : b < M.length) (r : Bool) (hr : areT M (a : Int) (b : Int) = r) : Calls Try.prog 127 #[.pointer (some ⟨p,0,none⟩),.int .i64 (a : Int),.int .i64 (b : Int)] w fun e w' => e = .returned (.bool r) ∧ Below w.heap.size w w':=by
 obtain ⟨A,c,A',c',h1,h2,h3⟩:=h.ex
 obtain ⟨b0,off,x1,x2,x3,x4,eA,HX,hA⟩:=h2.nat ha
 obtain ⟨b0',off',y1,y2,y3,y4,eB,HY,hB⟩:=h2.nat hb
 subst eA
 injection eB with eB
 injection eB with e1 e2
 subst e1 e2
 unfold areT notN at hr
 rw [nA_nat HX.out,nA_nat HY.out] at hr
 cases e : za6 ⟨x1,x2,x3,x4⟩ ⟨2,(b : Int),0,0⟩
 ·rw [e,Bool.false_or] at hr
  exact areTurned_f h1 hA hB ha hb e r hr
 rw [e,Bool.true_or] at hr
 exact areTurned_t h1 hA hB ha hb e r hr
end Go.Proofs.Ytcehklnonhalhaa
