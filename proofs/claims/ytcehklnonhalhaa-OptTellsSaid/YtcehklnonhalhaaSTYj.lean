/-
  What the proofs of OptTells need: Yj Yk.
-/
import Derived.Test.YtcehklnonhalhaaSTYh
import Derived.Laws.StructEq
import Derived.WalkMore
import Derived.ScopeJumps
set_option linter.unusedVariables false
namespace Go.Proofs.Ytcehklnonhalhaa
open Go.RowKit
set_option maxRecDepth 4000
def IAt (w : World) (b o : Nat) (x : Int) : Prop:=b < w.heap.size ∧ w.cell? ⟨b,o,none⟩ = some (.int .i64 x)
theorem IAt.on {w w' : World} {b o : Nat} {x : Int} (h : IAt w b o x) (hb : Below w.heap.size w w') : IAt w' b o x:=⟨Nat.lt_of_lt_of_le h.1 hb.size,(hb.cell (p:=⟨b,o,none⟩) h.1).trans h.2⟩
theorem Is.iat {w : World} {A : Option Addr} {n : Nat} {L : List Int} (h : Is w A n L) {k : Nat} (hk : k < n) : ∃ b off,A = some ⟨b,off,none⟩ ∧ IAt w b (off + k) (L.getD k 0):=by
 obtain ⟨x,hx⟩:=zat h.1 hk
 obtain ⟨b,off,h1,h2,h3⟩:=h.2 k _ hx
 refine ⟨b,off,h1,h2,?_⟩
 rw [List.getD_eq_getElem?_getD,hx]
 exact h3
set_option maxHeartbeats 4000000 in
theorem uses9_2 {w : World} {p n b0 off cc : Nat} {v1 : Value} (a : Nat) (b c : Int) (za : Int) (h1 : Bx w p [v1,.slice (some ⟨b0,off,none⟩) n cc]) (ha : a < n) (ia : IAt w b0 (off + a) za) : Calls Try.prog 92 #[.pointer (some ⟨p,0,none⟩),.agg #[.int .i64 2,.int .i64 (a : Int),.int .i64 b,.int .i64 c]] w fun e w' => e = .returned (.agg #[.int .i64 2,.int .i64 za,.int .i64 b,.int .i64 c]) ∧ Below w.heap.size w w':=by
 have ha1 : (a : Int) < (n : Int):=by omega
 have ha0 : (0 : Int) ≤ (a : Int):=by omega
 clear ha
 go_enter Try.func92,Try.ntmps92
 go_upto_region 1 with fail
 obtain ⟨w1,e1,z0,ZR,BW⟩:=zmE w [.int .i64 2,.int .i64 (a : Int),.int .i64 b,.int .i64 c] 43 [.int .i64 0,.int .i64 0,.int .i64 0,.int .i64 0] 43
 have hp:=Lib.hid h1.1
 have hb:=Lib.hid ia.1
 replace h1:=h1.on BW
 replace ia:=ia.on BW
 obtain ⟨s1,hs1⟩ : ∃ s1,w.heap.size + 1 = s1:=⟨_,rfl⟩
 obtain ⟨s0,hs0⟩ : ∃ s0,w.heap.size = s0:=⟨_,rfl⟩
 have hle : s0 ≤ s1:=by omega
 have hne : s0 ≠ s1:=by omega
 rw [e1]
 clear e1
 rw [hs1] at ZR ⊢
 rw [hs0] at z0 BW hp hb ⊢
 have H0 : _ = some (Value.int .i64 2):=z0.cell 0
 go_wp2_with fail
 clear H0
 refine LexG.region_plan LexG.any_ok 9 [0,1,2,3,4,5,6,7,8,9] (h:=?_)
 dsimp only [LexG.pick,LexG.nth]
 have bd : Below w1.heap.size w1 w1.drew:=(Below.refl _ _).drew
 replace h1:=h1.on bd
 replace ia:=ia.on bd
 replace z0:=z0.below bd z0.lt
 replace ZR:=ZR.below bd ZR.lt
 replace BW:=BW.trans (bd.mono (Nat.le_trans (Nat.le_of_eq hs0.symm) BW.size))
 obtain ⟨w2,e_w⟩ : ∃ w',w1.drew = w':=⟨_,rfl⟩
 rw [e_w] at h1 ia z0 ZR BW ⊢
 clear e_w bd
 have lf0:=zhC h1.t1
 have ma : _ = some (Value.int .i64 (a : Int)):=z0.cell 1
 have lga:=zhC ma
 have lha:=zhC ia.2
 refine LexG.lex_here 9 9 (Nat.le_refl _) (by kernel_rfl) ?_
 dsimp only [List.take,List.drop]
 repeat go_big_quiet_step (fail)
 refine wpQuiet_nil ?_
 clear lf0 lga lha ma
 refine LexG.lex_call (h:=fun K hK => ?_)
 have m1 : _ = some (Value.int .i64 (a : Int)):=z0.cell 1
 have f1:=z0.free 1
 go_simp
 refine hK _ _ trivial ?_
 clear hK K m1 f1
 replace z0:=z0.put 1 (.int .i64 za)
 replace ZR:=ZR.apart hne.symm 1 (.int .i64 za)
 replace BW:=BW.setCell (p:=⟨s0,1,none⟩) (Nat.le_refl _) (.int .i64 za)
 obtain ⟨w3,e_w⟩ : ∃ w',w2.setCell ⟨s0,1,none⟩ (.int .i64 za) = w':=⟨_,rfl⟩
 rw [e_w] at z0 ZR BW ⊢
 clear e_w
 refine LexG.lex_nil ?_
 dsimp only [NoPanic]
 clear h1 ia
 replace z0 : Own _ s0 43 [.int .i64 2,.int .i64 za,.int .i64 b,.int .i64 c]:=z0
 have H0 : _ = some (Value.int .i64 2):=z0.cell 0
 obtain ⟨z0c1,z0c2,z0c3⟩:=z0.zoc1c2c3
 obtain ⟨zr0,zf0,zr1,zf1,zr2,zf2,zr3,zf3⟩:=ZR.zoc0f0c1f1c2f2c3f3
 go_wp2_with fail
 have VR:=ZR.p4' (.int .i64 2) (.int .i64 za) (.int .i64 b) (.int .i64 c)
 obtain ⟨p0,p1,p2,p3⟩:=VR.zo4
 refine bodyPost_ret (v:=.agg #[.int .i64 2,.int .i64 za,.int .i64 b,.int .i64 c]) (by simp [results,Try.results92,go_sem,p0,p1,p2,p3]) rfl ⟨rfl,by rw [hs0]; exact (BW.s4' hle)⟩
set_option maxHeartbeats 4000000 in
theorem uses9_b {w : World} {p n b0 off cc : Nat} {v1 : Value} (a b : Nat) (c : Int) (za zb : Int) (k : Int) (c2 : (k == 2) = false) (hk : (k == 3) = true ∨ ((k == 3) = false ∧ (k == 4) = true) ∨ ((k == 3) = false ∧ (k == 4) = false ∧ (k == 5) = true)) (h1 : Bx w p [v1,.slice (some ⟨b0,off,none⟩) n cc]) (ha : a < n) (ia : IAt w b0 (off + a) za) (hb : b < n) (ib : IAt w b0 (off + b) zb) : Calls Try.prog 92 #[.pointer (some ⟨p,0,none⟩),.agg #[.int .i64 k,.int .i64 (a : Int),.int .i64 (b : Int),.int .i64 c]] w fun e w' => e = .returned (.agg #[.int .i64 k,.int .i64 za,.int .i64 zb,.int .i64 c]) ∧ Below w.heap.size w w':=by
 rcases hk with c3 | ⟨c3,c4⟩ | ⟨c3,c4,c5⟩
 all_goals
  have ha1 : (a : Int) < (n : Int):=by omega
  have ha0 : (0 : Int) ≤ (a : Int):=by omega
  clear ha
  have hb1 : (b : Int) < (n : Int):=by omega
  have hb0 : (0 : Int) ≤ (b : Int):=by omega
  clear hb
  go_enter Try.func92,Try.ntmps92
  go_upto_region 1 with fail
  obtain ⟨w1,e1,z0,ZR,BW⟩:=zmE w [.int .i64 k,.int .i64 (a : Int),.int .i64 (b : Int),.int .i64 c] 43 [.int .i64 0,.int .i64 0,.int .i64 0,.int .i64 0] 43
  have hp:=Lib.hid h1.1
  have hb:=Lib.hid ia.1
  replace h1:=h1.on BW
  replace ia:=ia.on BW
  replace ib:=ib.on BW
  obtain ⟨s1,hs1⟩ : ∃ s1,w.heap.size + 1 = s1:=⟨_,rfl⟩
  obtain ⟨s0,hs0⟩ : ∃ s0,w.heap.size = s0:=⟨_,rfl⟩
  have hle : s0 ≤ s1:=by omega
  have hne : s0 ≠ s1:=by omega
  rw [e1]
  clear e1
  rw [hs1] at ZR ⊢
  rw [hs0] at z0 BW hp hb ⊢
  have H0 : _ = some (Value.int .i64 k):=z0.cell 0
  go_wp2_with fail
  clear H0
  refine LexG.region_plan (LexG.grown_ok s0) 10 [0,1,2,3,4,5,6,7,12,13,8,9,10,11,14,15,16,17,18,19] (h:=?_)
  dsimp only [LexG.pick,LexG.nth]
  have bd : Below w1.heap.size w1 w1.drew:=(Below.refl _ _).drew
  replace h1:=h1.on bd
  replace ia:=ia.on bd
  replace ib:=ib.on bd
  replace z0:=z0.below bd z0.lt
  replace ZR:=ZR.below bd ZR.lt
  replace BW:=BW.trans (bd.mono (Nat.le_trans (Nat.le_of_eq hs0.symm) BW.size))
  obtain ⟨w2,e_w⟩ : ∃ w',w1.drew = w':=⟨_,rfl⟩
  rw [e_w] at h1 ia ib z0 ZR BW ⊢
  clear e_w bd
  have H4:=zhC h1.t1
  have ma : _ = some (Value.int .i64 (a : Int)):=z0.cell 1
  have lga:=zhC ma
  have H3:=zhC ia.2
  have mb : _ = some (Value.int .i64 (b : Int)):=z0.cell 2
  have lgb:=zhC mb
  have H2:=zhC ib.2
  refine LexG.lex_here 10 10 (Nat.le_refl _) (by kernel_rfl) ?_
  dsimp only [List.take,List.drop]
  repeat go_big_quiet_step (fail)
  refine wpQuiet_nil ?_
  clear H4 lga H3 ma lgb H2 mb
  have hp0 : p ≠ s0:=by have:=hp.out; omega
  have H1 : b0 ≠ s0:=by have:=hb.out; omega
  have H4:=zfC h1.t1 h1.1 (fun e => hp0 (by injection e))
  have H3:=zfC ia.2 ia.1 (fun e => H1 (by injection e))
  have H2:=zfC ib.2 ib.1 (fun e => H1 (by injection e))
  refine LexG.lex_plain 7 (by kernel_rfl) ?_
  dsimp only [List.take,List.drop]
  repeat go_big_quiet_step (fail)
  refine wpQuiet_nil ?_
  clear H4 H3 H2
  refine LexG.lex_call (h:=fun K hK => ?_)
  have m1 : _ = some (Value.int .i64 (a : Int)):=z0.cell 1
  have f1:=z0.free 1
  go_simp
  refine hK _ _ (zai _ _ _) ?_
  clear hK K m1 f1
  replace z0:=z0.put 1 (.int .i64 za)
  replace ZR:=ZR.apart hne.symm 1 (.int .i64 za)
  replace BW:=BW.setCell (p:=⟨s0,1,none⟩) (Nat.le_refl _) (.int .i64 za)
  obtain ⟨w3,e_w⟩ : ∃ w',w2.setCell ⟨s0,1,none⟩ (.int .i64 za) = w':=⟨_,rfl⟩
  rw [e_w] at z0 ZR BW ⊢
  clear e_w
  refine LexG.lex_plain 1 (by kernel_rfl) ?_
  dsimp only [List.take,List.drop]
  repeat go_big_quiet_step (fail)
  refine wpQuiet_nil ?_
  refine LexG.lex_call (h:=fun K hK => ?_)
  have m2 : _ = some (Value.int .i64 (b : Int)):=z0.cell 2
  have f2:=z0.free 2
  go_simp
  refine hK _ _ (zai _ _ _) ?_
  clear hK K m2 f2
  replace z0:=z0.put 2 (.int .i64 zb)
  replace ZR:=ZR.apart hne.symm 2 (.int .i64 zb)
  replace BW:=BW.setCell (p:=⟨s0,2,none⟩) (Nat.le_refl _) (.int .i64 zb)
  obtain ⟨w4,e_w⟩ : ∃ w',w3.setCell ⟨s0,2,none⟩ (.int .i64 zb) = w':=⟨_,rfl⟩
  rw [e_w] at z0 ZR BW ⊢
  clear e_w
  refine LexG.lex_nil ?_
  dsimp only [NoPanic]
  clear h1 ia ib
  replace z0 : Own _ s0 43 [.int .i64 k,.int .i64 za,.int .i64 zb,.int .i64 c]:=z0
  have H0 : _ = some (Value.int .i64 k):=z0.cell 0
  obtain ⟨z0c1,z0c2,z0c3⟩:=z0.zoc1c2c3
  obtain ⟨zr0,zf0,zr1,zf1,zr2,zf2,zr3,zf3⟩:=ZR.zoc0f0c1f1c2f2c3f3
  go_wp2_with fail
  have VR:=ZR.p4' (.int .i64 k) (.int .i64 za) (.int .i64 zb) (.int .i64 c)
  obtain ⟨p0,p1,p2,p3⟩:=VR.zo4
  refine bodyPost_ret (v:=.agg #[.int .i64 k,.int .i64 za,.int .i64 zb,.int .i64 c]) (by simp [results,Try.results92,go_sem,p0,p1,p2,p3]) rfl ⟨rfl,by rw [hs0]; exact (BW.s4' hle)⟩
set_option maxHeartbeats 4000000 in
theorem uses9_6 {w : World} {p n b0 off cc : Nat} {v1 : Value} (a b c : Nat) (za zb zc : Int) (h1 : Bx w p [v1,.slice (some ⟨b0,off,none⟩) n cc]) (ha : a < n) (ia : IAt w b0 (off + a) za) (hb : b < n) (ib : IAt w b0 (off + b) zb) (hc : c < n) (ic : IAt w b0 (off + c) zc) : Calls Try.prog 92 #[.pointer (some ⟨p,0,none⟩),.agg #[.int .i64 6,.int .i64 (a : Int),.int .i64 (b : Int),.int .i64 (c : Int)]] w fun e w' => e = .returned (.agg #[.int .i64 6,.int .i64 za,.int .i64 zb,.int .i64 zc]) ∧ Below w.heap.size w w':=by
 have ha1 : (a : Int) < (n : Int):=by omega
 have ha0 : (0 : Int) ≤ (a : Int):=by omega
 clear ha
 have hb1 : (b : Int) < (n : Int):=by omega
 have hb0 : (0 : Int) ≤ (b : Int):=by omega
 clear hb
 have hc1 : (c : Int) < (n : Int):=by omega
 have hc0 : (0 : Int) ≤ (c : Int):=by omega
 clear hc
 go_enter Try.func92,Try.ntmps92
 go_upto_region 1 with fail
 obtain ⟨w1,e1,z0,ZR,BW⟩:=zmE w [.int .i64 6,.int .i64 (a : Int),.int .i64 (b : Int),.int .i64 (c : Int)] 43 [.int .i64 0,.int .i64 0,.int .i64 0,.int .i64 0] 43
 have hp:=Lib.hid h1.1
 have hb:=Lib.hid ia.1
 replace h1:=h1.on BW
 replace ia:=ia.on BW
 replace ib:=ib.on BW
 replace ic:=ic.on BW
 obtain ⟨s1,hs1⟩ : ∃ s1,w.heap.size + 1 = s1:=⟨_,rfl⟩
 obtain ⟨s0,hs0⟩ : ∃ s0,w.heap.size = s0:=⟨_,rfl⟩
 have hle : s0 ≤ s1:=by omega
 have H6 : s0 ≠ s1:=by omega
 rw [e1]
 clear e1
 rw [hs1] at ZR ⊢
 rw [hs0] at z0 BW hp hb ⊢
 have H1 : _ = some (Value.int .i64 6):=z0.cell 0
 go_wp2_with fail
 clear H1
 refine LexG.region_plan (LexG.grown_ok s0) 12 [0,1,2,3,4,5,6,7,12,13,20,21,8,9,10,11,14,15,16,17,18,19,22,23,24,25,26,27,28,29] (h:=?_)
 dsimp only [LexG.pick,LexG.nth]
 have bd : Below w1.heap.size w1 w1.drew:=(Below.refl _ _).drew
 replace h1:=h1.on bd
 replace ia:=ia.on bd
 replace ib:=ib.on bd
 replace ic:=ic.on bd
 replace z0:=z0.below bd z0.lt
 replace ZR:=ZR.below bd ZR.lt
 replace BW:=BW.trans (bd.mono (Nat.le_trans (Nat.le_of_eq hs0.symm) BW.size))
 obtain ⟨w2,e_w⟩ : ∃ w',w1.drew = w':=⟨_,rfl⟩
 rw [e_w] at h1 ia ib ic z0 ZR BW ⊢
 clear e_w bd
 have H5:=zhC h1.t1
 have ma : _ = some (Value.int .i64 (a : Int)):=z0.cell 1
 have lga:=zhC ma
 have H4:=zhC ia.2
 have mb : _ = some (Value.int .i64 (b : Int)):=z0.cell 2
 have lgb:=zhC mb
 have H3:=zhC ib.2
 have mc : _ = some (Value.int .i64 (c : Int)):=z0.cell 3
 have lgc:=zhC mc
 have H2:=zhC ic.2
 refine LexG.lex_here 12 12 (Nat.le_refl _) (by kernel_rfl) ?_
 dsimp only [List.take,List.drop]
 repeat go_big_quiet_step (fail)
 refine wpQuiet_nil ?_
 clear H5 lga H4 ma lgb H3 mb lgc H2 mc
 have hp0 : p ≠ s0:=by have:=hp.out; omega
 have H0 : b0 ≠ s0:=by have:=hb.out; omega
 have H5:=zfC h1.t1 h1.1 (fun e => hp0 (by injection e))
 have H4:=zfC ia.2 ia.1 (fun e => H0 (by injection e))
 have H3:=zfC ib.2 ib.1 (fun e => H0 (by injection e))
 have H2:=zfC ic.2 ic.1 (fun e => H0 (by injection e))
 refine LexG.lex_plain 13 (by kernel_rfl) ?_
 dsimp only [List.take,List.drop]
 repeat go_big_quiet_step (fail)
 refine wpQuiet_nil ?_
 clear H5 H4 H3 H2
 refine LexG.lex_call (h:=fun K hK => ?_)
 have m1 : _ = some (Value.int .i64 (a : Int)):=z0.cell 1
 have f1:=z0.free 1
 go_simp
 refine hK _ _ (zai _ _ _) ?_
 clear hK K m1 f1
 replace z0:=z0.put 1 (.int .i64 za)
 replace ZR:=ZR.apart H6.symm 1 (.int .i64 za)
 replace BW:=BW.setCell (p:=⟨s0,1,none⟩) (Nat.le_refl _) (.int .i64 za)
 obtain ⟨w3,e_w⟩ : ∃ w',w2.setCell ⟨s0,1,none⟩ (.int .i64 za) = w':=⟨_,rfl⟩
 rw [e_w] at z0 ZR BW ⊢
 clear e_w
 refine LexG.lex_plain 1 (by kernel_rfl) ?_
 dsimp only [List.take,List.drop]
 repeat go_big_quiet_step (fail)
 refine wpQuiet_nil ?_
 refine LexG.lex_call (h:=fun K hK => ?_)
 have m2 : _ = some (Value.int .i64 (b : Int)):=z0.cell 2
 have f2:=z0.free 2
 go_simp
 refine hK _ _ (zai _ _ _) ?_
 clear hK K m2 f2
 replace z0:=z0.put 2 (.int .i64 zb)
 replace ZR:=ZR.apart H6.symm 2 (.int .i64 zb)
 replace BW:=BW.setCell (p:=⟨s0,2,none⟩) (Nat.le_refl _) (.int .i64 zb)
 obtain ⟨w4,e_w⟩ : ∃ w',w3.setCell ⟨s0,2,none⟩ (.int .i64 zb) = w':=⟨_,rfl⟩
 rw [e_w] at z0 ZR BW ⊢
 clear e_w
 refine LexG.lex_plain 1 (by kernel_rfl) ?_
 dsimp only [List.take,List.drop]
 repeat go_big_quiet_step (fail)
 refine wpQuiet_nil ?_
 refine LexG.lex_call (h:=fun K hK => ?_)
 have m3 : _ = some (Value.int .i64 (c : Int)):=z0.cell 3
 have f3:=z0.free 3
 go_simp
 refine hK _ _ (zai _ _ _) ?_
 clear hK K m3 f3
 replace z0:=z0.put 3 (.int .i64 zc)
 replace ZR:=ZR.apart H6.symm 3 (.int .i64 zc)
 replace BW:=BW.setCell (p:=⟨s0,3,none⟩) (Nat.le_refl _) (.int .i64 zc)
 obtain ⟨w5,e_w⟩ : ∃ w',w4.setCell ⟨s0,3,none⟩ (.int .i64 zc) = w':=⟨_,rfl⟩
 rw [e_w] at z0 ZR BW ⊢
 clear e_w
 refine LexG.lex_nil ?_
 dsimp only [NoPanic]
 clear h1 ia ib ic
 replace z0 : Own _ s0 43 [.int .i64 6,.int .i64 za,.int .i64 zb,.int .i64 zc]:=z0
 have H1 : _ = some (Value.int .i64 6):=z0.cell 0
 obtain ⟨z0c1,z0c2,z0c3⟩:=z0.zoc1c2c3
 obtain ⟨zr0,zf0,zr1,zf1,zr2,zf2,zr3,zf3⟩:=ZR.zoc0f0c1f1c2f2c3f3
 go_wp2_with fail
 have VR:=ZR.p4' (.int .i64 6) (.int .i64 za) (.int .i64 zb) (.int .i64 zc)
 obtain ⟨p0,p1,p2,p3⟩:=VR.zo4
 refine bodyPost_ret (v:=.agg #[.int .i64 6,.int .i64 za,.int .i64 zb,.int .i64 zc]) (by simp [results,Try.results92,go_sem,p0,p1,p2,p3]) rfl ⟨rfl,by rw [hs0]; exact (BW.s4' hle)⟩
set_option maxHeartbeats 4000000 in
theorem uses9_n {w : World} {p : Nat} {v1 v2 : Value} (a b c : Int) (k : Int) (c2 : (k == 2) = false) (c3 : (k == 3) = false) (c4 : (k == 4) = false) (c5 : (k == 5) = false) (c6 : (k == 6) = false) (h1 : Bx w p [v1,v2]) : Calls Try.prog 92 #[.pointer (some ⟨p,0,none⟩),.agg #[.int .i64 k,.int .i64 a,.int .i64 b,.int .i64 c]] w fun e w' => e = .returned (.agg #[.int .i64 k,.int .i64 a,.int .i64 b,.int .i64 c]) ∧ Below w.heap.size w w':=by
 go_enter Try.func92,Try.ntmps92
 go_upto_region 1 with fail
 obtain ⟨w1,e1,z0,ZR,BW⟩:=zmE w [.int .i64 k,.int .i64 a,.int .i64 b,.int .i64 c] 43 [.int .i64 0,.int .i64 0,.int .i64 0,.int .i64 0] 43
 have hp:=Lib.hid h1.1
 replace h1:=h1.on BW
 obtain ⟨s1,hs1⟩ : ∃ s1,w.heap.size + 1 = s1:=⟨_,rfl⟩
 obtain ⟨s0,hs0⟩ : ∃ s0,w.heap.size = s0:=⟨_,rfl⟩
 have hle : s0 ≤ s1:=by omega
 have hne : s0 ≠ s1:=by omega
 rw [e1]
 clear e1
 rw [hs1] at ZR ⊢
 rw [hs0] at z0 BW hp  ⊢
 have z0c0 : _ = some (Value.int .i64 k):=z0.cell 0
 obtain ⟨z0c1,z0c2,z0c3⟩:=z0.zoc1c2c3
 obtain ⟨zr0,zf0,zr1,zf1,zr2,zf2,zr3,zf3⟩:=ZR.zoc0f0c1f1c2f2c3f3
 go_wp2_with fail
 have VR:=ZR.p4' (.int .i64 k) (.int .i64 a) (.int .i64 b) (.int .i64 c)
 obtain ⟨p0,p1,p2,p3⟩:=VR.zo4
 refine bodyPost_ret (v:=.agg #[.int .i64 k,.int .i64 a,.int .i64 b,.int .i64 c]) (by simp [results,Try.results92,go_sem,p0,p1,p2,p3]) rfl ⟨rfl,by rw [hs0]; exact (BW.s4' hle)⟩
set_option maxRecDepth 4000
attribute [local go_sem ↓] zbT zbS
theorem fuses_as {w : World} {p : Nat} {M : List Nd} {S : List Int} (h : Fr w p M S) {x : Nd} (hx : isIO x ∨ Ok (fun y => ∃ m : Nat,y = (m : Int) ∧ m < M.length) x) : Calls Try.prog 92 #[.pointer (some ⟨p,0,none⟩),ndA x] w fun e w' => e = .returned (ndA (zaG S x)) ∧ Below w.heap.size w w':=by
 obtain ⟨A,cc,A',c',h1,h2,h3⟩:=h.ex
 obtain ⟨k,xa,xb,xc⟩:=x
 have H0 : k ≠ 2 → k ≠ 3 → k ≠ 4 → k ≠ 5 → k ≠ 6 → Calls Try.prog 92 #[.pointer (some ⟨p,0,none⟩),ndA ⟨k,xa,xb,xc⟩] w fun e w' => e = .returned (ndA (zaG S ⟨k,xa,xb,xc⟩)) ∧ Below w.heap.size w w':=fun e2 e3 e4 e5 e6 => by
  have : zaG S ⟨k,xa,xb,xc⟩ = ⟨k,xa,xb,xc⟩:=by
   unfold zaG
   rw [if_neg e2,if_neg (by intro h; rcases h with h | h | h <;> contradiction),if_neg e6]
  rw [this]
  exact uses9_n xa xb xc k (zae e2) (zae e3) (zae e4) (zae e5) (zae e6) h1
 rcases hx with hio | hx
 ·have hio : k = 1 ∨ k = 7:=hio
  exact H0 (by omega) (by omega) (by omega) (by omega) (by omega)
 rcases hx.kd with ⟨e,_⟩ | ⟨e,ha,_⟩ | ⟨e,ha,hb,_⟩ | ⟨e,ha,hb,hc⟩
 ·have e : k = 0:=e
  exact H0 (by omega) (by omega) (by omega) (by omega) (by omega)
 ·have e : k = 2:=e
  subst e
  obtain ⟨a,e1,ha⟩:=ha
  have e1 : xa = (a : Int):=e1
  subst e1
  obtain ⟨b0,off,eA,iA⟩:=h3.iat ha
  subst eA
  exact uses9_2 a xb xc _ h1 ha iA
 ·obtain ⟨a,e1,ha⟩:=ha
  obtain ⟨b,e2,hb⟩:=hb
  have e1 : xa = (a : Int):=e1
  have e2 : xb = (b : Int):=e2
  subst e1 e2
  obtain ⟨b0,off,eA,iA⟩:=h3.iat ha
  subst eA
  obtain ⟨b1,off1,eB,iB⟩:=h3.iat hb
  injection eB with eB
  injection eB with eB1 eB2
  subst eB1 eB2
  have e : k = 3 ∨ k = 4 ∨ k = 5:=e
  rcases e with e | e | e
  ·subst e
   exact uses9_b a b xc _ _ 3 rfl (.inl rfl) h1 ha iA hb iB
  ·subst e
   exact uses9_b a b xc _ _ 4 rfl (.inr (.inl ⟨rfl,rfl⟩)) h1 ha iA hb iB
  subst e
  exact uses9_b a b xc _ _ 5 rfl (.inr (.inr ⟨rfl,rfl,rfl⟩)) h1 ha iA hb iB
 have e : k = 6:=e
 subst e
 obtain ⟨a,e1,ha⟩:=ha
 obtain ⟨b,e2,hb⟩:=hb
 obtain ⟨c,e3,hc⟩:=hc
 have e1 : xa = (a : Int):=e1
 have e2 : xb = (b : Int):=e2
 have e3 : xc = (c : Int):=e3
 subst e1 e2 e3
 obtain ⟨b0,off,eA,iA⟩:=h3.iat ha
 subst eA
 obtain ⟨b1,off1,eB,iB⟩:=h3.iat hb
 injection eB with eB
 injection eB with eB1 eB2
 subst eB1 eB2
 obtain ⟨b2,off2,eC,iC⟩:=h3.iat hc
 injection eC with eC
 injection eC with eC1 eC2
 subst eC1 eC2
 exact uses9_6 a b c _ _ _ h1 ha iA hb iB hc iC
theorem wp_scope_key {P : Program} {a : Act} {w : World} {Q : Exit → Act → World → Prop} {c rest c0 : Code} (l : Nat) (J : Act → World → Prop) (μ : Act → World → Nat) (hf : findLabel c l = some rest) (hr : rest = Code.skip.seq c0)
  (key : ∀ a w,J a w → c0.wp P (Exit.jump l (fun a' w' => J a' w' ∧ μ a' w' < μ a w) Q) a w)
  (first : (∀ a w,J a w → c0.wp P (Exit.jump l J Q) a w) → c.wp P (Exit.jump l J Q) a w) : (Code.scope c).wp P Q a w:=by
 subst hr
 refine wp_scope_jumps l J μ hf (first fun a w hJ => ?_) fun a w hJ => ?_
 ·refine Code.wp_mono (fun e a' w' h => ?_) (key a w hJ)
  cases e <;> first | exact h | exact ⟨h.1,h.2.1⟩
 have h:=key a w hJ
 go_wp2_with fail
 exact h
theorem fline_as {w : World} {p : Nat} {M : List Nd} {S : List Int} (h : Fr w p M S) {x : Nd} (hx : isIO x ∨ Ok (fun y => ∃ m : Nat,y = (m : Int) ∧ m < M.length) x) (h01 : ¬ isIO x → ∀ y ∈ zag x,(nA M y).k = 0 → (nA M y).a = 0 ∨ (nA M y).a = 1) (q : Int) : Calls Try.prog 93 #[.pointer (some ⟨p,0,none⟩),ndA x,.int .i64 q] w fun e w' => e = .returned (.tuple #[ndA (zbe M x q).1,.int .i64 (zbe M x q).2]) ∧ Below w.heap.size w w':=by
 rcases hx with hio | hx
 ·obtain ⟨k,xa,xb,xc⟩:=x
  have hio : k = 1 ∨ k = 7:=hio
  have : zbe M ⟨k,xa,xb,xc⟩ q = (⟨k,xa,xb,xc⟩,q):=by
   unfold zbe
   rw [if_neg (by show ¬ k = 2; omega),if_neg (by show ¬ k = 3; omega),if_neg (by show ¬ k = 4; omega),if_neg (by show ¬ k = 5; omega),if_neg (by show ¬ k = 6; omega)]
  rw [this]
  exact line_n h xa xb xc q k (zae (by omega)) (zae (by omega)) (zae (by omega)) (zae (by omega)) (zae (by omega))
 exact line_as h hx (h01 hx.io) q
theorem zaJ {w : World} {base g n c size : Nat} {t : TypeId} {xs : List Value} (h : w.ownsRow base t size (.slice (some ⟨g,0,none⟩) n c) n xs) : ∃ cur,w.heap[g]? = some (.cells cur t (0,0)) ∧ base ≤ g:=by
 obtain ⟨_,h | ⟨g',_,cur,e',hb,hg,_⟩⟩:=h
 ·cases h.1
 injection e' with e'
 injection e' with e'
 injection e' with e'
 subst e'
 exact ⟨cur,hg,hb⟩
theorem zaK {w : World} {a b : Nat} {t t' : TypeId} {x y : Array Value} {f f' : Nat × Nat} (h : w.heap[a]? = some (.cells x t f)) (k : w.heap[b]? = some (.cells y t' f')) (ht : t ≠ t') : a ≠ b:=fun e => by
 rw [e,k] at h
 injection h with h
 injection h with _ h
 exact ht h.symm
theorem zcO : ∀ (M : List Nd) (q : Nat) (a b c d : Int),((((M.flatMap ndC).set (q * 4) (.int .i64 a)).set (q * 4 + 1) (.int .i64 b)).set (q * 4 + 2) (.int .i64 c)).set (q * 4 + 3) (.int .i64 d) = (M.set q ⟨a,b,c,d⟩).flatMap ndC
 | [],q,a,b,c,d => by simp
 | x :: M,0,a,b,c,d => by simp [ndC]
 | x :: M,q + 1,a,b,c,d => by
  have ih:=zcO M q a b c d
  rw [show (q + 1) * 4 = q * 4 + 4 by omega,List.set_cons_succ,List.flatMap_cons,List.flatMap_cons,← ih]
  rfl
theorem zca : ∀ (L : List Int) (q : Nat) (a : Int),(L.flatMap inC).set q (.int .i64 a) = (L.set q a).flatMap inC
 | [],q,a => by simp
 | x :: L,0,a => by simp [inC]
 | x :: L,q + 1,a => by
  have ih:=zca L q a
  rw [List.set_cons_succ,List.flatMap_cons,List.flatMap_cons,← ih]
  rfl
def KB (p : Nat) (w w' : World) : Prop:=w'.heap[p]? = w.heap[p]?
theorem KB.ok (p : Nat) : LexG.RelOk (KB p):=⟨fun _ => rfl,fun _ _ _ h k => Eq.trans k h⟩
instance (p : Nat) (w : World) : Nonempty (LexG.Wd (KB p) w):=⟨⟨w,rfl⟩⟩
theorem KB.set {p : Nat} (w : World) {g : Nat} (h : p ≠ g) (o : Nat) (v : Value) : KB p w (w.setCell ⟨g,o,none⟩ v):=Below.heap_setCell w ⟨g,o,none⟩ v p h
structure Fd (w : World) (base p : Nat) (vn vs : Value) (M : List Nd) (S : List Int) : Prop where
  ow : Own w p 74 [vn,vs]
  rn : w.ownsRow base 43 4 vn M.length (M.flatMap ndC)
  rs : w.ownsRow base 3 1 vs M.length (S.flatMap inC)
  ls : S.length = M.length
  lo : base ≤ p
theorem Fd.fr {w : World} {base p : Nat} {vn vs : Value} {M : List Nd} {S : List Int} (h : Fd w base p vn vs M S) : Fr w p M S:=by
 obtain ⟨A,c,rfl,s1,l1,n1⟩:=zbj h.rn
 obtain ⟨A',c',rfl,s2,l2,n2⟩:=za4 h.rs
 exact ⟨A,c,A',c',⟨h.ow.lt,fun i u hu => (h.ow.cell i).trans hu⟩,n1,n2⟩
theorem Fd.on {w w' : World} {base p : Nat} {vn vs : Value} {M : List Nd} {S : List Int} (h : Fd w base p vn vs M S) (hb : Below w.heap.size w w') : Fd w' base p vn vs M S:=
 ⟨h.ow.below hb h.ow.lt,zam h.rn hb,zam h.rs hb,h.ls,h.lo⟩
def kOf (w : World) : Value → Int
 | .pointer (some ad) => match w.cell? ad with | some (.int _ k) => k | _ => 0
 | _ => 0
def LJ (G : Nd → Prop) (w : World) (p q : Nat) (M : List Nd) (r : Nd × Int) (a' : Act) (w' : World) : Prop:=∃ (x : Nd) (d sx : Nat) (u5 u6 u7 u8 u9 u10 u11 u12 u13 u14 u15 u16 u17 u18 u19 u20 u21 u22 u23 u24 u25 u26 : Value),a' = { tmps:=#[.pointer (some ⟨p,0,none⟩),.int .i64 (q : Int),undef,undef,.pointer (some ⟨sx,0,none⟩),u5,u6,u7,u8,u9,u10,u11,u12,u13,u14,u15,u16,u17,u18,u19,u20,u21,u22,u23,u24,u25,u26,undef,undef,undef,undef,undef,undef,undef,undef,undef,undef,undef,undef,undef,undef],defers:=[] } ∧ Below w.heap.size w w' ∧ w.heap.size ≤ sx ∧ Own w' sx 43 (ndC x) ∧ G x ∧ rk x < d ∧ zbn M (q : Int) d x = r
set_option maxHeartbeats 4000000 in
theorem flook_as {w : World} {base p : Nat} {vn vs : Value} {M : List Nd} {S : List Int} (h : Fd w base p vn vs M S) {q : Nat} (hq : q < M.length) (hx : isIO (M.getD q nd0) ∨ Ok (fun y => ∃ m : Nat,y = (m : Int) ∧ m < M.length) (M.getD q nd0)) (G : Nd → Prop) (hG0 : G (zaG S (M.getD q nd0))) (hG : ∀ x,G x → (isIO x ∨ Ok (fun y => ∃ m : Nat,y = (m : Int) ∧ m < M.length) x) ∧ (¬ isIO x → ∀ y ∈ zag x,(nA M y).k = 0 → (nA M y).a = 0 ∨ (nA M y).a = 1) ∧ ((zbe M x (q : Int)).1 ≠ x → G (zbe M x (q : Int)).1 ∧ rk (zbe M x (q : Int)).1 < rk x)) (r : Nd × Int) (hr : zbn M (q : Int) 4 (zaG S (M.getD q nd0)) = r) : Calls Try.prog 65 #[.pointer (some ⟨p,0,none⟩),.int .i64 (q : Int)] w fun e w' => e = .returned (.tuple #[]) ∧ Fd w' base p vn vs (M.set q r.1) (S.set q r.2) ∧ Below base w w':=by
 have HF:=h.fr
 obtain ⟨A,cc,rfl,s1,k1,h2⟩:=zbj h.rn
 obtain ⟨A',c',rfl,s2,k2,h3⟩:=za4 h.rs
 have h1 : Bx w p [.slice A M.length cc,.slice A' M.length c']:=⟨h.ow.lt,fun i u hu => (h.ow.cell i).trans hu⟩
 obtain ⟨b0,off,x1,x2,x3,x4,eA,HX,hA⟩:=h2.nat hq
 obtain ⟨b1,off1,eA',_⟩:=h3.iat hq
 obtain rfl : off = 0:=(k1 b0 off eA).2
 obtain rfl : off1 = 0:=(k2 b1 off1 eA').2
 subst eA eA'
 rw [Nat.zero_add] at hA
 clear k1 k2 s1 s2
 have hq1 : (q : Int) < (M.length : Int):=by omega
 have hq0 : (0 : Int) ≤ (q : Int):=by omega
 have H7 : Hid (M.getD q nd0 = ⟨x1,x2,x3,x4⟩):=Lib.hid (by rw [List.getD_eq_getElem?_getD,HX.out]; rfl)
 have HXO:=Lib.hid hx
 obtain ⟨⟨y1,y2,y3,y4⟩,hy⟩ : ∃ y,zaG S ⟨x1,x2,x3,x4⟩ = y:=⟨_,rfl⟩
 have HY:=Lib.hid hy
 have C : ∀ w',Fr w' p M S → Calls Try.prog 92 #[.pointer (some ⟨p,0,none⟩),.agg #[.int .i64 x1,.int .i64 x2,.int .i64 x3,.int .i64 x4]] w' fun e w2 => e = .returned (.agg #[.int .i64 y1,.int .i64 y2,.int .i64 y3,.int .i64 y4]) ∧ Below w'.heap.size w' w2:=fun w' hf => by
  have:=fuses_as hf (x:=⟨x1,x2,x3,x4⟩) (by rw [← H7.out]; exact hx)
  rw [hy] at this
  exact this
 clear hx hy
 go_enter Try.func65,Try.ntmps65
 go_wp2_with fail
 refine wp_scope_key 0 (LJ G w p q M r) (fun a' w' => rk ⟨kOf w' (a'.tmps.getD 4 undef),0,0,0⟩) rfl rfl ?pass (fun pass => ?first)
 case first =>
  have z1:=h1.t0; have zc1:=hA.c1; have zc2:=hA.c2; have zc3:=hA.c3; have zc4:=hA.c4
  go_wp2_with (go_at_call 92; (with_reducible refine (C _ HF).mono ?_); (rintro en w2 ⟨rfl,b⟩))
  rename_i hK
  refine wp_label (hK _ _ (pass _ _ ?_))
  clear hK
  refine ⟨⟨y1,y2,y3,y4⟩,4,w2.heap.size,_,_,_,_,_,_,_,_,_,_,_,_,_,_,_,_,_,_,_,_,_,_,rfl,Below.step b (zaa _ _),b.size,?_,?_,?_,?_⟩
  ·exact Own.made w2 43 [.int .i64 y1,.int .i64 y2,.int .i64 y3,.int .i64 y4]
  ·rw [← HY.out,← H7.out]; exact hG0
  ·have:=rk_le ⟨y1,y2,y3,y4⟩; omega
  rw [← HY.out,← H7.out]; exact hr
 case pass =>
  rintro a' w' ⟨x,d,sx,u5,u6,u7,u8,u9,u10,u11,u12,u13,u14,u15,u16,u17,u18,u19,u20,u21,u22,u23,u24,u25,u26,rfl,BW,hsx,hO,ho,hrk,hl⟩
  have H5 : kOf w' (.pointer (some ⟨sx,0,none⟩)) = x.k:=by
   have c0 : _ = some (Value.int .i64 x.k):=hO.cell 0
   simp only [kOf,c0]
  have H5:=Lib.hid H5
  have hf:=HF.on BW
  obtain ⟨hk1,hk2,hk3⟩:=hG x ho
  have hxk:=Lib.hid hk1
  obtain ⟨lr,hlr⟩ : ∃ lr,zbe M x (q : Int) = lr:=⟨_,rfl⟩
  rw [hlr] at hk3
  have HLR:=Lib.hid hlr
  have CL : ∀ w',Fr w' p M S → Calls Try.prog 93 #[.pointer (some ⟨p,0,none⟩),ndA x,.int .i64 (q : Int)] w' fun e w2 => e = .returned (.tuple #[ndA lr.1,.int .i64 lr.2]) ∧ Below w'.heap.size w' w2:=fun w' hf => by
   have:=fline_as hf hk1 hk2 (q : Int)
   rw [hlr] at this
   exact this
  clear hk1 hk2 hlr
  obtain ⟨x1',x2',x3',x4'⟩:=x
  obtain ⟨⟨l1,l2,l3,l4⟩,l5⟩:=lr
  have CL : ∀ w',Fr w' p M S → Calls Try.prog 93 #[.pointer (some ⟨p,0,none⟩),.agg #[.int .i64 x1',.int .i64 x2',.int .i64 x3',.int .i64 x4'],.int .i64 (q : Int)] w' fun e w2 => e = .returned (.tuple #[.agg #[.int .i64 l1,.int .i64 l2,.int .i64 l3,.int .i64 l4],.int .i64 l5]) ∧ Below w'.heap.size w' w2:=CL
  have HK:=Lib.hid hk3
  have HO:=Lib.hid ho
  have HRK:=Lib.hid hrk
  have HL:=Lib.hid hl
  clear hk3 ho hrk hl C
  replace hO : Own w' sx 43 [.int .i64 x1',.int .i64 x2',.int .i64 x3',.int .i64 x4']:=hO
  obtain ⟨c0,c1,c2,c3⟩:=hO.zo4
  go_upto_region 2 with (go_at_call 93; (with_reducible refine (CL _ hf).mono ?_); (rintro en w2 ⟨rfl,b⟩; replace hO:=hO.below b hO.lt; replace hf:=hf.on b; replace BW:=Below.step BW b; clear b c0 c1 c2 c3))
  obtain ⟨w3,e3⟩ : ∃ w3,w2.alloc (.cells #[.int .i64 l1,.int .i64 l2,.int .i64 l3,.int .i64 l4] 43) = w3:=⟨_,rfl⟩
  have z5 : Own w3 w2.heap.size 43 [.int .i64 l1,.int .i64 l2,.int .i64 l3,.int .i64 l4]:=e3 ▸ Own.made w2 43 [.int .i64 l1,.int .i64 l2,.int .i64 l3,.int .i64 l4]
  have b : Below w2.heap.size w2 w3:=e3 ▸ zaa _ _
  have H3:=Lib.hid hO.lt
  have hsz:=Lib.hid BW.size
  replace hO:=hO.below b hO.lt
  replace hf:=hf.on b
  replace BW:=Below.step BW b
  rw [e3]
  clear e3 b
  obtain ⟨s5,hs5⟩ : ∃ s5,w2.heap.size = s5:=⟨_,rfl⟩
  rw [hs5] at z5 H3 hsz ⊢
  clear hs5
  obtain ⟨c0,c1,c2,c3⟩:=hO.zo4
  obtain ⟨g0,g1,g2,g3⟩:=hO.zof0f1f2f3
  obtain ⟨d0,d1,d2,d3⟩:=z5.zo4
  by_cases HS : za6 ⟨l1,l2,l3,l4⟩ ⟨x1',x2',x3',x4'⟩ = true
  ·go_wp2_with fail
   clear c0 c1 c2 c3 g0 g1 g2 g3 d0 d1 d2 d3 z5 H3 hsz hf CL
   have F3:=h.on BW
   obtain ⟨cu0,hc0,hlo0⟩:=zaJ F3.rn
   obtain ⟨cu1,hc1,hlo1⟩:=zaJ F3.rs
   have H1 : p ≠ b0:=zaK F3.ow hc0 (by decide)
   have H2 : p ≠ b1:=zaK F3.ow hc1 (by decide)
   have h01 : b0 ≠ b1:=zaK hc0 hc1 (by decide)
   clear hc0 hc1 cu0 cu1
   refine LexG.region_plan (KB.ok p) 6 [0,1,2,3,4,10,5,6,7,8,9,11,12,13,14,15] (h:=?_)
   dsimp only [LexG.pick,LexG.nth]
   have bd : Below w3.heap.size w3 w3.drew:=(Below.refl _ _).drew
   replace F3:=F3.on bd
   replace hO:=hO.below bd hO.lt
   replace BW:=Below.step BW bd
   obtain ⟨w4,e4⟩ : ∃ w',w3.drew = w':=⟨_,rfl⟩
   rw [e4] at F3 hO BW ⊢
   clear e4 bd
   have a0 : w4.cell? ⟨p,0,none⟩ = some (Value.slice (some ⟨b0,0,none⟩) M.length cc):=F3.ow.cell 0
   have H4:=zhC a0
   have lf1:=fun s : LexG.Wd LexG.Here w4 => LexG.here (P:=fun w' => w'.cell? ⟨sx,0,none⟩ = some (Value.int .i64 x1')) (hO.cell 0) s
   have lf2:=fun s : LexG.Wd LexG.Here w4 => LexG.here (P:=fun w' => w'.cell? ⟨sx,1,none⟩ = some (Value.int .i64 x2')) (hO.cell 1) s
   have lf3:=fun s : LexG.Wd LexG.Here w4 => LexG.here (P:=fun w' => w'.cell? ⟨sx,2,none⟩ = some (Value.int .i64 x3')) (hO.cell 2) s
   have lf4:=fun s : LexG.Wd LexG.Here w4 => LexG.here (P:=fun w' => w'.cell? ⟨sx,3,none⟩ = some (Value.int .i64 x4')) (hO.cell 3) s
   refine LexG.lex_here 6 6 (Nat.le_refl _) (by kernel_rfl) ?_
   dsimp only [List.take,List.drop]
   repeat go_big_quiet_step (fail)
   refine wpQuiet_nil ?_
   clear H4 lf1 lf2 lf3 lf4 a0
   have H4:=fun s : LexG.Wd (KB p) w4 => (show s.w.cell? ⟨p,1,none⟩ = some (Value.slice (some ⟨b1,0,none⟩) M.length c') from Own.cell (w:=s.w) (Eq.trans s.rel F3.ow) 1)
   refine LexG.lex_plain 7 (by kernel_rfl) ?_
   dsimp only [List.take,List.drop]
   repeat go_big_quiet_step (fail)
   refine wpQuiet_nil ?_
   clear H4
   have hls : (M.flatMap ndC).length = M.length * 4:=zas ndC 4 za1 M
   have a0 : w4.cell? ⟨b0,q * 4,none⟩ = some (Value.int .i64 x1):=(F3.rn.cellAt (q * 4) (by omega)).trans (by rw [show q * 4 = q * 4 + 0 from rfl,zap ndC 4 za1 M q 0 (by omega),HX.out]; rfl)
   have a1 : w4.cell? ⟨b0,q * 4 + 1,none⟩ = some (Value.int .i64 x2):=(F3.rn.cellAt (q * 4 + 1) (by omega)).trans (by rw [zap ndC 4 za1 M q 1 (by omega),HX.out]; rfl)
   have a2 : w4.cell? ⟨b0,q * 4 + 2,none⟩ = some (Value.int .i64 x3):=(F3.rn.cellAt (q * 4 + 2) (by omega)).trans (by rw [zap ndC 4 za1 M q 2 (by omega),HX.out]; rfl)
   have a3 : w4.cell? ⟨b0,q * 4 + 3,none⟩ = some (Value.int .i64 x4):=(F3.rn.cellAt (q * 4 + 3) (by omega)).trans (by rw [zap ndC 4 za1 M q 3 (by omega),HX.out]; rfl)
   have f0:=F3.rn.frozenAt (q * 4); have f1:=F3.rn.frozenAt (q * 4 + 1); have f2:=F3.rn.frozenAt (q * 4 + 2); have f3:=F3.rn.frozenAt (q * 4 + 3)
   refine LexG.lex_call (h:=fun K hK => ?_)
   go_simp
   clear a0 a1 a2 a3 f0 f1 f2 f3
   refine hK _ _ (((((KB.ok p).refl w4 |> fun _ => KB.set w4 H1 (q * 4) (.int .i64 x1')) |> fun e => (KB.ok p).trans _ _ _ e (KB.set _ H1 (q * 4 + 1) (.int .i64 x2'))) |> fun e => (KB.ok p).trans _ _ _ e (KB.set _ H1 (q * 4 + 2) (.int .i64 x3'))) |> fun e => (KB.ok p).trans _ _ _ e (KB.set _ H1 (q * 4 + 3) (.int .i64 x4'))) ?_
   clear hK K
   have R1:=F3.rn.stored (q * 4) (.int .i64 x1')
   have R2:=R1.1.stored (q * 4 + 1) (.int .i64 x2')
   have R3:=R2.1.stored (q * 4 + 2) (.int .i64 x3')
   have R4:=R3.1.stored (q * 4 + 3) (.int .i64 x4')
   have RN:=R4.1
   rw [zcO] at RN
   have H0 : (Value.slice (some ⟨b1,0,none⟩) M.length c').ownBlock = none ∨ (Value.slice (some ⟨b1,0,none⟩) M.length c').ownBlock ≠ some b0:=.inr (fun e => by
    unfold Value.ownBlock at e
    injection e with e
    exact h01 e.symm)
   have RS:=(((F3.rs.kept R1.2 H0).kept R2.2 H0).kept R3.2 H0).kept R4.2 H0
   have OW:=(((F3.ow.apart H1 (q * 4) (.int .i64 x1')).apart H1 (q * 4 + 1) (.int .i64 x2')).apart H1 (q * 4 + 2) (.int .i64 x3')).apart H1 (q * 4 + 3) (.int .i64 x4')
   have hbw : base ≤ w.heap.size:=Nat.le_trans h.lo (Nat.le_of_lt h.ow.lt)
   have BB:=((((BW.mono hbw).setCell (p:=⟨b0,q * 4,none⟩) hlo0 (.int .i64 x1')).setCell (p:=⟨b0,q * 4 + 1,none⟩) hlo0 (.int .i64 x2')).setCell (p:=⟨b0,q * 4 + 2,none⟩) hlo0 (.int .i64 x3')).setCell (p:=⟨b0,q * 4 + 3,none⟩) hlo0 (.int .i64 x4')
   clear R1 R2 R3 R4 H0
   obtain ⟨w5,e5⟩ : ∃ w',(((w4.setCell ⟨b0,q * 4,none⟩ (.int .i64 x1')).setCell ⟨b0,q * 4 + 1,none⟩ (.int .i64 x2')).setCell ⟨b0,q * 4 + 2,none⟩ (.int .i64 x3')).setCell ⟨b0,q * 4 + 3,none⟩ (.int .i64 x4') = w':=⟨_,rfl⟩
   rw [e5] at RN RS OW BB ⊢
   clear e5
   refine LexG.lex_plain 1 (by kernel_rfl) ?_
   dsimp only [List.take,List.drop]
   repeat go_big_quiet_step (fail)
   refine wpQuiet_nil ?_
   have hSq : q < S.length:=by have:=F3.ls; omega
   have a0 : w5.cell? ⟨b1,q,none⟩ = some (Value.int .i64 (S[q]'hSq)):=(RS.cellAt q (by omega)).trans (by have e:=zap inC 1 zaC S q 0 (by omega); rw [Nat.mul_one,Nat.add_zero,List.getElem?_eq_getElem hSq] at e; exact e)
   have f0:=RS.frozenAt q
   refine LexG.lex_call (h:=fun K hK => ?_)
   go_simp
   clear a0 f0
   refine hK _ _ (KB.set w5 H2 q (.int .i64 l5)) ?_
   clear hK K
   have R1:=RS.stored q (.int .i64 l5)
   have RS2:=R1.1
   rw [zca] at RS2
   have RN2:=RN.kept R1.2 (.inr (fun e => by
    unfold Value.ownBlock at e
    injection e with e
    exact h01 e))
   have OW2:=OW.apart H2 q (.int .i64 l5)
   have BB2:=BB.setCell (p:=⟨b1,q,none⟩) hlo1 (.int .i64 l5)
   refine LexG.lex_nil ?_
   dsimp only [NoPanic]
   have eM : (M.set q ⟨x1',x2',x3',x4'⟩).length = M.length:=by simp
   have H6 : Fd (w5.setCell ⟨b1,q,none⟩ (.int .i64 l5)) base p (.slice (some ⟨b0,0,none⟩) M.length cc) (.slice (some ⟨b1,0,none⟩) M.length c') (M.set q r.1) (S.set q r.2):=by
    have er : r = (⟨x1',x2',x3',x4'⟩,l5):=by
     have hd:=HRK.out
     obtain ⟨d',rfl⟩ : ∃ d',d = d' + 1:=⟨d - 1,by omega⟩
     have hl:=HL.out
     unfold zbn at hl
     rw [HLR.out,if_pos HS] at hl
     rw [← hl,(zaE _ _).1 HS]
    rw [er]
    exact ⟨OW2,by rw [eM]; exact RN2,by rw [eM]; exact RS2,by rw [List.length_set,List.length_set]; exact F3.ls,F3.lo⟩
   change Exit.jump 0 _ (bodyPost Try.prog Try.f65 _) Exit.normal _ _
   unfold Exit.jump
   refine bodyPost_end (v:=.tuple #[]) (by simp [results,Try.results65,go_sem]) rfl ?_
   exact ⟨rfl,H6,BB2⟩
  have HS : za6 ⟨l1,l2,l3,l4⟩ ⟨x1',x2',x3',x4'⟩ = false:=by simpa using HS
  go_wp2_with fail
  go_step3
  have hne : (⟨l1,l2,l3,l4⟩ : Nd) ≠ ⟨x1',x2',x3',x4'⟩:=fun e => by rw [e,zdv] at HS; cases HS
  obtain ⟨hK1,hK2⟩:=HK.out hne
  have HO4:=hO.p4' (.int .i64 l1) (.int .i64 l2) (.int .i64 l3) (.int .i64 l4)
  have hd:=HRK.out
  have hd4 : rk ⟨l1,l2,l3,l4⟩ < d - 1:=by omega
  refine ⟨rfl,⟨⟨l1,l2,l3,l4⟩,d - 1,sx,_,_,_,_,_,_,_,_,_,_,_,_,_,_,_,_,_,_,_,_,_,_,rfl,BW.s4' hsx,hsx,HO4,hK1,hd4,?_⟩,?_⟩
  ·have hl:=HL.out
   obtain ⟨d',rfl⟩ : ∃ d',d = d' + 1:=⟨d - 1,by omega⟩
   unfold zbn at hl
   rw [HLR.out,if_neg (by rw [HS]; decide)] at hl
   exact hl
  have c0 : _ = some (Value.int .i64 l1):=HO4.cell 0
  show rk ⟨kOf _ (.pointer (some ⟨sx,0,none⟩)),0,0,0⟩ < rk ⟨kOf w' (.pointer (some ⟨sx,0,none⟩)),0,0,0⟩
  rw [H5.out]
  simp only [kOf,c0]
  exact hK2
end Go.Proofs.Ytcehklnonhalhaa
