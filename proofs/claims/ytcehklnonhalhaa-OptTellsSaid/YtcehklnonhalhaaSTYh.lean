/-
  What the proofs of OptTells need: Yh Yi.
-/
import Derived.Test.YtcehklnonhalhaaSTYg
import Derived.Laws.StructEq
set_option linter.unusedVariables false
namespace Go.Proofs.Ytcehklnonhalhaa
open Go.RowKit
set_option maxRecDepth 4000
attribute [local go_sem ↓] zbT zbS
theorem Bx.low {w w' : World} {B s : Nat} {vs : List Value} (h : Bx w s vs) (hs : s < B) (hb : Below B w w') : Bx w' s vs:=⟨Nat.lt_of_lt_of_le h.1 hb.size,fun i u hu => (hb.cell (p:=⟨s,i,none⟩) hs).trans (h.2 i u hu)⟩
theorem NAt.low {w w' : World} {B b o : Nat} {x1 x2 x3 x4 : Int} (h : NAt w b o x1 x2 x3 x4) (hs : b < B) (hb : Below B w w') : NAt w' b o x1 x2 x3 x4:=
 ⟨Nat.lt_of_lt_of_le h.lt hb.size,(hb.cell (p:=⟨b,o,none⟩) hs).trans h.c1,(hb.cell (p:=⟨b,o + 1,none⟩) hs).trans h.c2,(hb.cell (p:=⟨b,o + 2,none⟩) hs).trans h.c3,(hb.cell (p:=⟨b,o + 3,none⟩) hs).trans h.c4⟩
set_option maxHeartbeats 4000000 in
theorem fnot_q {w : World} {p n b0 off cc a : Nat} {v1 : Value} (k b c q y1 y2 y3 y4 v : Int) (r : Nd) (h1 : Bx w p [.slice (some ⟨b0,off,none⟩) n cc,v1]) (hA : NAt w b0 (off + a * 4) y1 y2 y3 y4) (ha : a < n) (hk : ((y1 == 0) = true ∧ IntKind.i64.wrap (1 - y2) = v ∧ r = ⟨0,v,0,0⟩) ∨ ((y1 == 0) = false ∧ (y1 == 2) = false ∧ r = ⟨k,(a : Int),b,c⟩)) : Calls Try.prog 113 #[.pointer (some ⟨p,0,none⟩),.agg #[.int .i64 k,.int .i64 (a : Int),.int .i64 b,.int .i64 c],.int .i64 q] w fun e w' => e = .returned (.tuple #[ndA r,.int .i64 q]) ∧ Below w.heap.size w w':=by
 rcases hk with ⟨c0,q1,rfl⟩ | ⟨c0,c2,rfl⟩
 all_goals
  have ha1 : (a : Int) < (n : Int):=by omega
  have ha0 : (0 : Int) ≤ (a : Int):=by omega
  clear ha
  go_enter Try.func113,Try.ntmps113
  go_upto_region 1 with fail
  obtain ⟨w1,e1,z0,ZR,BW⟩:=zmC w [.int .i64 k,.int .i64 (a : Int),.int .i64 b,.int .i64 c] 43
  replace h1:=h1.on BW
  replace hA:=hA.on BW
  obtain ⟨s1,hs1,hle,hne⟩:=zmS w
  rw [e1]
  clear e1
  rw [hs1] at ZR ⊢
  have bd : Below w1.heap.size w1 w1.drew:=(Below.refl _ _).drew
  have hB1:=Lib.hid h1.1
  have H3:=Lib.hid hA.lt
  have H4:=Lib.hid z0.1
  have hB4:=Lib.hid ZR.lt
  refine LexG.region_plan (LexG.low_ok w1.heap.size) 0 [0,1,2,3,4,5,6,7,8,9] (h:=?_)
  dsimp only [LexG.pick,LexG.nth]
  replace h1:=h1.on bd
  replace hA:=hA.on bd
  replace z0:=z0.on bd
  replace ZR:=ZR.below bd ZR.lt
  replace BW:=Below.step BW bd
  have H2 : w1.heap.size ≤ w1.drew.heap.size:=Nat.le_refl _
  obtain ⟨B,eB⟩ : ∃ B,w1.heap.size = B:=⟨_,rfl⟩
  obtain ⟨w2,e_w⟩ : ∃ w',w1.drew = w':=⟨_,rfl⟩
  rw [e_w] at h1 hA z0 ZR BW H2 ⊢
  rw [eB] at hB1 H3 H4 hB4 H2 ⊢
  clear e_w bd
  have lf0:=fun s : LexG.Wd (fun w w' => Below B w w') w2 => (h1.low hB1.out s.rel).t0
  have lf1:=fun s : LexG.Wd (fun w w' => Below B w w') w2 => (hA.low H3.out s.rel).c1
  have lf2:=fun s : LexG.Wd (fun w w' => Below B w w') w2 => (hA.low H3.out s.rel).c2
  have lf3:=fun s : LexG.Wd (fun w w' => Below B w w') w2 => (hA.low H3.out s.rel).c3
  have lf4:=fun s : LexG.Wd (fun w w' => Below B w w') w2 => (hA.low H3.out s.rel).c4
  have lf5:=fun s : LexG.Wd (fun w w' => Below B w w') w2 => (z0.low H4.out s.rel).2 1 _ rfl
  refine LexG.lex_plain 8 (by kernel_rfl) ?_
  dsimp only [List.take,List.drop]
  repeat go_big_quiet_step (fail)
  refine wpQuiet_nil ?_
  clear lf0 lf1 lf2 lf3 lf4 lf5
  refine LexG.lex_call (h:=fun K hK => ?_)
  go_simp
  have b : Below w2.heap.size w2 (w2.alloc (.cells #[.int .i64 0,.int .i64 0,.int .i64 0,.int .i64 0] 43)):=zaa _ _
  refine hK _ _ (b.mono H2) ?_
  clear hK K
  have Z8:=Own.made w2 43 [.int .i64 0,.int .i64 0,.int .i64 0,.int .i64 0]
  replace z0:=z0.on b
  replace ZR:=ZR.below b ZR.lt
  replace BW:=Below.step BW b
  obtain ⟨s8,hs8⟩ : ∃ s8,w2.heap.size = s8:=⟨_,rfl⟩
  rw [hs8] at Z8 H2 ⊢
  have H0 : s1 ≠ s8:=by have:=hB4.out; omega
  have H1 : w.heap.size ≠ s8:=by have:=H4.out; omega
  have H5 : w.heap.size ≤ s8:=by have:=H4.out; omega
  obtain ⟨w3,e3⟩ : ∃ w',w2.alloc (.cells #[.int .i64 0,.int .i64 0,.int .i64 0,.int .i64 0] 43) = w':=⟨_,rfl⟩
  have e3' : w2.alloc (.cells ([.int .i64 0,.int .i64 0,.int .i64 0,.int .i64 0] : List Value).toArray 43) = w3:=e3
  rw [e3'] at Z8
  rw [e3] at z0 ZR BW ⊢
  clear e3 e3' b hs8
  refine LexG.lex_call (h:=fun K hK => ?_)
  obtain ⟨zr0,zf0,zr1,zf1,zr2,zf2,zr3,zf3⟩:=Z8.zoc0f0c1f1c2f2c3f3
  go_simp
  clear zr0 zf0 zr1 zf1 zr2 zf2 zr3 zf3
  refine hK _ _ (((((Below.refl B w3).setCell (p:=⟨s8,0,none⟩) H2 _).setCell (p:=⟨s8,1,none⟩) H2 _).setCell (p:=⟨s8,2,none⟩) H2 _).setCell (p:=⟨s8,3,none⟩) H2 _) ?_
  clear hK K
  replace z0:=(((z0.apart H1 0 (.int .i64 y1)).apart H1 1 (.int .i64 y2)).apart H1 2 (.int .i64 y3)).apart H1 3 (.int .i64 y4)
  replace ZR:=(((ZR.apart H0 (i:=0) (v:=.int .i64 y1)).apart H0 (i:=1) (v:=.int .i64 y2)).apart H0 (i:=2) (v:=.int .i64 y3)).apart H0 (i:=3) (v:=.int .i64 y4)
  replace Z8:=Z8.p4' (.int .i64 y1) (.int .i64 y2) (.int .i64 y3) (.int .i64 y4)
  replace BW:=BW.e4' H5 (.int .i64 y1) (.int .i64 y2) (.int .i64 y3) (.int .i64 y4)
  obtain ⟨w4,e4⟩ : ∃ w',(((w3.setCell ⟨s8,0,none⟩ (.int .i64 y1)).setCell ⟨s8,1,none⟩ (.int .i64 y2)).setCell ⟨s8,2,none⟩ (.int .i64 y3)).setCell ⟨s8,3,none⟩ (.int .i64 y4) = w':=⟨_,rfl⟩
  rw [e4] at z0 ZR Z8 BW ⊢
  clear e4 h1 hA
  refine LexG.lex_nil ?_
  dsimp only [NoPanic]
  have y0 : _ = some (Value.int .i64 y1):=Z8.cell 0; have y1' : _ = some (Value.int .i64 y2):=Z8.cell 1
  obtain ⟨z0c0,z0c1,z0c2,z0c3⟩:=z0.zb4
  obtain ⟨zr0,zf0,zr1,zf1,zr2,zf2,zr3,zf3⟩:=ZR.zoc0f0c1f1c2f2c3f3
  go_wp2_with (go_at_call 125; (with_reducible refine (zby v _).mono ?_); (rintro en w2 ⟨rfl,b⟩; clear z0c0 z0c1 z0c2 z0c3 zr0 zr1 zr2 zr3 zf0 zf1 zf2 zf3 y0 y1'; replace z0:=z0.on b; replace ZR:=ZR.below b ZR.lt; replace BW:=Below.step BW b; clear b; obtain ⟨z0c0,z0c1,z0c2,z0c3⟩:=z0.zb4; obtain ⟨zr0,zf0,zr1,zf1,zr2,zf2,zr3,zf3⟩:=ZR.zoc0f0c1f1c2f2c3f3))
  refine bodyPost_ret (v:=.tuple #[ndA _,.int .i64 q]) ?_ rfl ⟨rfl,zbf BW hle⟩
  have HV:=fun a b c d => ZR.q4 a b c d
  simp [results,Try.results113,go_sem,HV,ndA]
set_option maxHeartbeats 4000000 in
theorem fnot_2 {w : World} {p n b0 off cc a : Nat} {v1 : Value} (k b c q y1 y2 y3 y4 : Int) (h1 : Bx w p [.slice (some ⟨b0,off,none⟩) n cc,v1]) (hA : NAt w b0 (off + a * 4) y1 y2 y3 y4) (ha : a < n) (c0 : (y1 == 0) = false) (c2 : (y1 == 2) = true) : Calls Try.prog 113 #[.pointer (some ⟨p,0,none⟩),.agg #[.int .i64 k,.int .i64 (a : Int),.int .i64 b,.int .i64 c],.int .i64 q] w fun e w' => e = .returned (.tuple #[.agg #[.int .i64 k,.int .i64 (a : Int),.int .i64 b,.int .i64 c],.int .i64 y2]) ∧ Below w.heap.size w w':=by
 have ha1 : (a : Int) < (n : Int):=by omega
 have ha0 : (0 : Int) ≤ (a : Int):=by omega
 clear ha
 go_enter Try.func113,Try.ntmps113
 go_upto_region 1 with fail
 obtain ⟨w1,e1,z0,ZR,BW⟩:=zmC w [.int .i64 k,.int .i64 (a : Int),.int .i64 b,.int .i64 c] 43
 replace h1:=h1.on BW
 replace hA:=hA.on BW
 obtain ⟨s1,hs1,hle,hne⟩:=zmS w
 rw [e1]
 clear e1
 rw [hs1] at ZR ⊢
 have bd : Below w1.heap.size w1 w1.drew:=(Below.refl _ _).drew
 have hB1:=Lib.hid h1.1
 have H3:=Lib.hid hA.lt
 have H4:=Lib.hid z0.1
 have hB4:=Lib.hid ZR.lt
 refine LexG.region_plan (LexG.low_ok w1.heap.size) 0 [0,1,2,3,4,5,6,7,8,9] (h:=?_)
 dsimp only [LexG.pick,LexG.nth]
 replace h1:=h1.on bd
 replace hA:=hA.on bd
 replace z0:=z0.on bd
 replace ZR:=ZR.below bd ZR.lt
 replace BW:=Below.step BW bd
 have H2 : w1.heap.size ≤ w1.drew.heap.size:=Nat.le_refl _
 obtain ⟨B,eB⟩ : ∃ B,w1.heap.size = B:=⟨_,rfl⟩
 obtain ⟨w2,e_w⟩ : ∃ w',w1.drew = w':=⟨_,rfl⟩
 rw [e_w] at h1 hA z0 ZR BW H2 ⊢
 rw [eB] at hB1 H3 H4 hB4 H2 ⊢
 clear e_w bd
 have lf0:=fun s : LexG.Wd (fun w w' => Below B w w') w2 => (h1.low hB1.out s.rel).t0
 have lf1:=fun s : LexG.Wd (fun w w' => Below B w w') w2 => (hA.low H3.out s.rel).c1
 have lf2:=fun s : LexG.Wd (fun w w' => Below B w w') w2 => (hA.low H3.out s.rel).c2
 have lf3:=fun s : LexG.Wd (fun w w' => Below B w w') w2 => (hA.low H3.out s.rel).c3
 have lf4:=fun s : LexG.Wd (fun w w' => Below B w w') w2 => (hA.low H3.out s.rel).c4
 have lf5:=fun s : LexG.Wd (fun w w' => Below B w w') w2 => (z0.low H4.out s.rel).2 1 _ rfl
 refine LexG.lex_plain 8 (by kernel_rfl) ?_
 dsimp only [List.take,List.drop]
 repeat go_big_quiet_step (fail)
 refine wpQuiet_nil ?_
 clear lf0 lf1 lf2 lf3 lf4 lf5
 refine LexG.lex_call (h:=fun K hK => ?_)
 go_simp
 have b : Below w2.heap.size w2 (w2.alloc (.cells #[.int .i64 0,.int .i64 0,.int .i64 0,.int .i64 0] 43)):=zaa _ _
 refine hK _ _ (b.mono H2) ?_
 clear hK K
 have Z8:=Own.made w2 43 [.int .i64 0,.int .i64 0,.int .i64 0,.int .i64 0]
 replace z0:=z0.on b
 replace ZR:=ZR.below b ZR.lt
 replace BW:=Below.step BW b
 obtain ⟨s8,hs8⟩ : ∃ s8,w2.heap.size = s8:=⟨_,rfl⟩
 rw [hs8] at Z8 H2 ⊢
 have H0 : s1 ≠ s8:=by have:=hB4.out; omega
 have H1 : w.heap.size ≠ s8:=by have:=H4.out; omega
 have H5 : w.heap.size ≤ s8:=by have:=H4.out; omega
 obtain ⟨w3,e3⟩ : ∃ w',w2.alloc (.cells #[.int .i64 0,.int .i64 0,.int .i64 0,.int .i64 0] 43) = w':=⟨_,rfl⟩
 have e3' : w2.alloc (.cells ([.int .i64 0,.int .i64 0,.int .i64 0,.int .i64 0] : List Value).toArray 43) = w3:=e3
 rw [e3'] at Z8
 rw [e3] at z0 ZR BW ⊢
 clear e3 e3' b hs8
 refine LexG.lex_call (h:=fun K hK => ?_)
 obtain ⟨zr0,zf0,zr1,zf1,zr2,zf2,zr3,zf3⟩:=Z8.zoc0f0c1f1c2f2c3f3
 go_simp
 clear zr0 zf0 zr1 zf1 zr2 zf2 zr3 zf3
 refine hK _ _ (((((Below.refl B w3).setCell (p:=⟨s8,0,none⟩) H2 _).setCell (p:=⟨s8,1,none⟩) H2 _).setCell (p:=⟨s8,2,none⟩) H2 _).setCell (p:=⟨s8,3,none⟩) H2 _) ?_
 clear hK K
 replace z0:=(((z0.apart H1 0 (.int .i64 y1)).apart H1 1 (.int .i64 y2)).apart H1 2 (.int .i64 y3)).apart H1 3 (.int .i64 y4)
 replace ZR:=(((ZR.apart H0 (i:=0) (v:=.int .i64 y1)).apart H0 (i:=1) (v:=.int .i64 y2)).apart H0 (i:=2) (v:=.int .i64 y3)).apart H0 (i:=3) (v:=.int .i64 y4)
 replace Z8:=Z8.p4' (.int .i64 y1) (.int .i64 y2) (.int .i64 y3) (.int .i64 y4)
 replace BW:=BW.e4' H5 (.int .i64 y1) (.int .i64 y2) (.int .i64 y3) (.int .i64 y4)
 obtain ⟨w4,e4⟩ : ∃ w',(((w3.setCell ⟨s8,0,none⟩ (.int .i64 y1)).setCell ⟨s8,1,none⟩ (.int .i64 y2)).setCell ⟨s8,2,none⟩ (.int .i64 y3)).setCell ⟨s8,3,none⟩ (.int .i64 y4) = w':=⟨_,rfl⟩
 rw [e4] at z0 ZR Z8 BW ⊢
 clear e4 h1 hA
 refine LexG.lex_nil ?_
 dsimp only [NoPanic]
 have y0 : _ = some (Value.int .i64 y1):=Z8.cell 0; have y1' : _ = some (Value.int .i64 y2):=Z8.cell 1
 obtain ⟨z0c0,z0c1,z0c2,z0c3⟩:=z0.zb4
 obtain ⟨zr0,zf0,zr1,zf1,zr2,zf2,zr3,zf3⟩:=ZR.zoc0f0c1f1c2f2c3f3
 go_wp2_with fail
 have bd : Below w4.heap.size w4 w4.drew:=(Below.refl _ _).drew
 obtain ⟨y0c0,y0c1,y0c2,y0c3⟩:=(z0.on bd).zb4
 have YR:=ZR.below bd ZR.lt
 have x0 : _ = some (Value.int .i64 y2):=(Z8.below bd Z8.lt).cell 1
 obtain ⟨yr0,yf0,yr1,yf1,yr2,yf2,yr3,yf3⟩:=YR.zoc0f0c1f1c2f2c3f3
 have hne8':=H0.symm
 clear bd
 go_region
 go_wp2_with fail
 have VR:=ZR.p4' (.int .i64 k) (.int .i64 (a : Int)) (.int .i64 b) (.int .i64 c)
 obtain ⟨p0,p1,p2,p3⟩:=VR.zo4
 refine bodyPost_ret (v:=.tuple #[.agg #[.int .i64 k,.int .i64 (a : Int),.int .i64 b,.int .i64 c],.int .i64 y2]) (by simp [results,Try.results113,go_sem,p0,p1,p2,p3]) rfl ⟨rfl,(BW.s4' hle).drew⟩
set_option maxHeartbeats 4000000 in
theorem fnot_as {w : World} {p : Nat} {M : List Nd} {S : List Int} (h : Fr w p M S) (k b c q : Int) (a : Nat) (ha : a < M.length) (h01 : (nA M (a : Int)).k = 0 → (nA M (a : Int)).a = 0 ∨ (nA M (a : Int)).a = 1) : Calls Try.prog 113 #[.pointer (some ⟨p,0,none⟩),.agg #[.int .i64 k,.int .i64 (a : Int),.int .i64 b,.int .i64 c],.int .i64 q] w fun e w' => e = .returned (.tuple #[ndA (notL M ⟨k,(a : Int),b,c⟩ q).1,.int .i64 (notL M ⟨k,(a : Int),b,c⟩ q).2]) ∧ Below w.heap.size w w':=by
 obtain ⟨A,cc,A',c',h1,h2,h3⟩:=h.ex
 obtain ⟨b0,off,y1,y2,y3,y4,eA,HX,hA⟩:=h2.nat ha
 subst eA
 rw [nA_nat HX.out] at h01
 have hn : nA M (a : Int) = ⟨y1,y2,y3,y4⟩:=nA_nat HX.out
 by_cases c0 : y1 = 0
 ·rcases h01 c0 with e | e
  ·have e : y2 = 0:=e
   subst e
   rw [show notL M ⟨k,(a : Int),b,c⟩ q = (⟨0,1,0,0⟩,q) from by simp [notL,hn,c0,zaw]]
   exact fnot_q k b c q y1 0 y3 y4 1 _ h1 hA ha (.inl ⟨zav c0,rfl,rfl⟩)
  have e : y2 = 1:=e
  subst e
  rw [show notL M ⟨k,(a : Int),b,c⟩ q = (⟨0,0,0,0⟩,q) from by simp [notL,hn,c0,zaw]]
  exact fnot_q k b c q y1 1 y3 y4 0 _ h1 hA ha (.inl ⟨zav c0,rfl,rfl⟩)
 by_cases c2 : y1 = 2
 ·rw [show notL M ⟨k,(a : Int),b,c⟩ q = (⟨k,(a : Int),b,c⟩,y2) from by simp [notL,hn,c2]]
  exact fnot_2 k b c q y1 y2 y3 y4 h1 hA ha (zae c0) (zav c2)
 rw [show notL M ⟨k,(a : Int),b,c⟩ q = (⟨k,(a : Int),b,c⟩,q) from by simp [notL,hn,c0,c2]]
 exact fnot_q k b c q y1 y2 y3 y4 0 _ h1 hA ha (.inr ⟨zae c0,zae c2,rfl⟩)
end Go.Proofs.Ytcehklnonhalhaa
namespace Go.Proofs.Ytcehklnonhalhaa
open Go.RowKit
set_option maxRecDepth 4000
attribute [local go_sem ↓] zbT zbS
set_option maxHeartbeats 4000000 in
theorem line_2 {w : World} {p : Nat} {M : List Nd} {S : List Int} (h : Fr w p M S) (a b c q y1 y2 y3 y4 y5 : Int) (hC : ∀ w',Fr w' p M S → Calls Try.prog 113 #[.pointer (some ⟨p,0,none⟩),.agg #[.int .i64 2,.int .i64 a,.int .i64 b,.int .i64 c],.int .i64 q] w' fun e w2 => e = .returned (.tuple #[.agg #[.int .i64 y1,.int .i64 y2,.int .i64 y3,.int .i64 y4],.int .i64 y5]) ∧ Below w'.heap.size w' w2) : Calls Try.prog 93 #[.pointer (some ⟨p,0,none⟩),.agg #[.int .i64 2,.int .i64 a,.int .i64 b,.int .i64 c],.int .i64 q] w fun e w' => e = .returned (.tuple #[.agg #[.int .i64 y1,.int .i64 y2,.int .i64 y3,.int .i64 y4],.int .i64 y5]) ∧ Below w.heap.size w w':=by
 go_enter Try.func93,Try.ntmps93
 go_upto_region 1 with fail
 obtain ⟨w1,e1,z0,ZR,BW⟩:=zmC w [.int .i64 2,.int .i64 a,.int .i64 b,.int .i64 c] 43
 replace h:=h.on BW
 obtain ⟨s1,hs1,hle,hne⟩:=zmS w
 rw [e1]
 clear e1
 rw [hs1] at ZR ⊢
 obtain ⟨z0c0,z0c1,z0c2,z0c3⟩:=z0.zb4; obtain ⟨zr0,zf0,zr1,zf1,zr2,zf2,zr3,zf3⟩:=ZR.zoc0f0c1f1c2f2c3f3
 go_wp2_with (go_at_call 113; (with_reducible refine (hC _ h).mono ?_); (rintro en w2 ⟨rfl,b⟩; clear z0c0 z0c1 z0c2 z0c3 zr0 zr1 zr2 zr3 zf0 zf1 zf2 zf3; replace h:=h.on b; replace z0:=z0.on b; replace ZR:=ZR.below b ZR.lt; replace BW:=Below.step BW b; clear b; obtain ⟨z0c0,z0c1,z0c2,z0c3⟩:=z0.zb4; obtain ⟨zr0,zf0,zr1,zf1,zr2,zf2,zr3,zf3⟩:=ZR.zoc0f0c1f1c2f2c3f3))
 have VR:=ZR.p4' (.int .i64 y1) (.int .i64 y2) (.int .i64 y3) (.int .i64 y4)
 obtain ⟨p0,p1,p2,p3⟩:=VR.zo4
 refine bodyPost_ret (v:=.tuple #[.agg #[.int .i64 y1,.int .i64 y2,.int .i64 y3,.int .i64 y4],.int .i64 y5]) (by simp [results,Try.results93,go_sem,p0,p1,p2,p3]) rfl ⟨rfl,(BW.s4' hle)⟩
set_option maxHeartbeats 4000000 in
theorem line_3 {w : World} {p : Nat} {M : List Nd} {S : List Int} (h : Fr w p M S) (a b c q y1 y2 y3 y4 y5 : Int) (hC : ∀ w',Fr w' p M S → Calls Try.prog 114 #[.pointer (some ⟨p,0,none⟩),.agg #[.int .i64 3,.int .i64 a,.int .i64 b,.int .i64 c],.int .i64 q,.int .i64 0] w' fun e w2 => e = .returned (.tuple #[.agg #[.int .i64 y1,.int .i64 y2,.int .i64 y3,.int .i64 y4],.int .i64 y5]) ∧ Below w'.heap.size w' w2) : Calls Try.prog 93 #[.pointer (some ⟨p,0,none⟩),.agg #[.int .i64 3,.int .i64 a,.int .i64 b,.int .i64 c],.int .i64 q] w fun e w' => e = .returned (.tuple #[.agg #[.int .i64 y1,.int .i64 y2,.int .i64 y3,.int .i64 y4],.int .i64 y5]) ∧ Below w.heap.size w w':=by
 go_enter Try.func93,Try.ntmps93
 go_upto_region 1 with fail
 obtain ⟨w1,e1,z0,ZR,BW⟩:=zmC w [.int .i64 3,.int .i64 a,.int .i64 b,.int .i64 c] 43
 replace h:=h.on BW
 obtain ⟨s1,hs1,hle,hne⟩:=zmS w
 rw [e1]
 clear e1
 rw [hs1] at ZR ⊢
 obtain ⟨z0c0,z0c1,z0c2,z0c3⟩:=z0.zb4; obtain ⟨zr0,zf0,zr1,zf1,zr2,zf2,zr3,zf3⟩:=ZR.zoc0f0c1f1c2f2c3f3
 go_wp2_with (go_at_call 114; (with_reducible refine (hC _ h).mono ?_); (rintro en w2 ⟨rfl,b⟩; clear z0c0 z0c1 z0c2 z0c3 zr0 zr1 zr2 zr3 zf0 zf1 zf2 zf3; replace h:=h.on b; replace z0:=z0.on b; replace ZR:=ZR.below b ZR.lt; replace BW:=Below.step BW b; clear b; obtain ⟨z0c0,z0c1,z0c2,z0c3⟩:=z0.zb4; obtain ⟨zr0,zf0,zr1,zf1,zr2,zf2,zr3,zf3⟩:=ZR.zoc0f0c1f1c2f2c3f3))
 have VR:=ZR.p4' (.int .i64 y1) (.int .i64 y2) (.int .i64 y3) (.int .i64 y4)
 obtain ⟨p0,p1,p2,p3⟩:=VR.zo4
 refine bodyPost_ret (v:=.tuple #[.agg #[.int .i64 y1,.int .i64 y2,.int .i64 y3,.int .i64 y4],.int .i64 y5]) (by simp [results,Try.results93,go_sem,p0,p1,p2,p3]) rfl ⟨rfl,(BW.s4' hle)⟩
set_option maxHeartbeats 4000000 in
theorem line_4 {w : World} {p : Nat} {M : List Nd} {S : List Int} (h : Fr w p M S) (a b c q y1 y2 y3 y4 y5 : Int) (hC : ∀ w',Fr w' p M S → Calls Try.prog 114 #[.pointer (some ⟨p,0,none⟩),.agg #[.int .i64 4,.int .i64 a,.int .i64 b,.int .i64 c],.int .i64 q,.int .i64 1] w' fun e w2 => e = .returned (.tuple #[.agg #[.int .i64 y1,.int .i64 y2,.int .i64 y3,.int .i64 y4],.int .i64 y5]) ∧ Below w'.heap.size w' w2) : Calls Try.prog 93 #[.pointer (some ⟨p,0,none⟩),.agg #[.int .i64 4,.int .i64 a,.int .i64 b,.int .i64 c],.int .i64 q] w fun e w' => e = .returned (.tuple #[.agg #[.int .i64 y1,.int .i64 y2,.int .i64 y3,.int .i64 y4],.int .i64 y5]) ∧ Below w.heap.size w w':=by
 go_enter Try.func93,Try.ntmps93
 go_upto_region 1 with fail
 obtain ⟨w1,e1,z0,ZR,BW⟩:=zmC w [.int .i64 4,.int .i64 a,.int .i64 b,.int .i64 c] 43
 replace h:=h.on BW
 obtain ⟨s1,hs1,hle,hne⟩:=zmS w
 rw [e1]
 clear e1
 rw [hs1] at ZR ⊢
 obtain ⟨z0c0,z0c1,z0c2,z0c3⟩:=z0.zb4; obtain ⟨zr0,zf0,zr1,zf1,zr2,zf2,zr3,zf3⟩:=ZR.zoc0f0c1f1c2f2c3f3
 go_wp2_with (go_at_call 114; (with_reducible refine (hC _ h).mono ?_); (rintro en w2 ⟨rfl,b⟩; clear z0c0 z0c1 z0c2 z0c3 zr0 zr1 zr2 zr3 zf0 zf1 zf2 zf3; replace h:=h.on b; replace z0:=z0.on b; replace ZR:=ZR.below b ZR.lt; replace BW:=Below.step BW b; clear b; obtain ⟨z0c0,z0c1,z0c2,z0c3⟩:=z0.zb4; obtain ⟨zr0,zf0,zr1,zf1,zr2,zf2,zr3,zf3⟩:=ZR.zoc0f0c1f1c2f2c3f3))
 have VR:=ZR.p4' (.int .i64 y1) (.int .i64 y2) (.int .i64 y3) (.int .i64 y4)
 obtain ⟨p0,p1,p2,p3⟩:=VR.zo4
 refine bodyPost_ret (v:=.tuple #[.agg #[.int .i64 y1,.int .i64 y2,.int .i64 y3,.int .i64 y4],.int .i64 y5]) (by simp [results,Try.results93,go_sem,p0,p1,p2,p3]) rfl ⟨rfl,(BW.s4' hle)⟩
set_option maxHeartbeats 4000000 in
theorem line_5 {w : World} {p : Nat} {M : List Nd} {S : List Int} (h : Fr w p M S) (a b c q y1 y2 y3 y4 y5 : Int) (hC : ∀ w',Fr w' p M S → Calls Try.prog 115 #[.pointer (some ⟨p,0,none⟩),.agg #[.int .i64 5,.int .i64 a,.int .i64 b,.int .i64 c],.int .i64 q] w' fun e w2 => e = .returned (.tuple #[.agg #[.int .i64 y1,.int .i64 y2,.int .i64 y3,.int .i64 y4],.int .i64 y5]) ∧ Below w'.heap.size w' w2) : Calls Try.prog 93 #[.pointer (some ⟨p,0,none⟩),.agg #[.int .i64 5,.int .i64 a,.int .i64 b,.int .i64 c],.int .i64 q] w fun e w' => e = .returned (.tuple #[.agg #[.int .i64 y1,.int .i64 y2,.int .i64 y3,.int .i64 y4],.int .i64 y5]) ∧ Below w.heap.size w w':=by
 go_enter Try.func93,Try.ntmps93
 go_upto_region 1 with fail
 obtain ⟨w1,e1,z0,ZR,BW⟩:=zmC w [.int .i64 5,.int .i64 a,.int .i64 b,.int .i64 c] 43
 replace h:=h.on BW
 obtain ⟨s1,hs1,hle,hne⟩:=zmS w
 rw [e1]
 clear e1
 rw [hs1] at ZR ⊢
 obtain ⟨z0c0,z0c1,z0c2,z0c3⟩:=z0.zb4; obtain ⟨zr0,zf0,zr1,zf1,zr2,zf2,zr3,zf3⟩:=ZR.zoc0f0c1f1c2f2c3f3
 go_wp2_with (go_at_call 115; (with_reducible refine (hC _ h).mono ?_); (rintro en w2 ⟨rfl,b⟩; clear z0c0 z0c1 z0c2 z0c3 zr0 zr1 zr2 zr3 zf0 zf1 zf2 zf3; replace h:=h.on b; replace z0:=z0.on b; replace ZR:=ZR.below b ZR.lt; replace BW:=Below.step BW b; clear b; obtain ⟨z0c0,z0c1,z0c2,z0c3⟩:=z0.zb4; obtain ⟨zr0,zf0,zr1,zf1,zr2,zf2,zr3,zf3⟩:=ZR.zoc0f0c1f1c2f2c3f3))
 have VR:=ZR.p4' (.int .i64 y1) (.int .i64 y2) (.int .i64 y3) (.int .i64 y4)
 obtain ⟨p0,p1,p2,p3⟩:=VR.zo4
 refine bodyPost_ret (v:=.tuple #[.agg #[.int .i64 y1,.int .i64 y2,.int .i64 y3,.int .i64 y4],.int .i64 y5]) (by simp [results,Try.results93,go_sem,p0,p1,p2,p3]) rfl ⟨rfl,(BW.s4' hle)⟩
set_option maxHeartbeats 4000000 in
theorem line_6 {w : World} {p : Nat} {M : List Nd} {S : List Int} (h : Fr w p M S) (a b c q y1 y2 y3 y4 y5 : Int) (hC : ∀ w',Fr w' p M S → Calls Try.prog 116 #[.pointer (some ⟨p,0,none⟩),.agg #[.int .i64 6,.int .i64 a,.int .i64 b,.int .i64 c],.int .i64 q] w' fun e w2 => e = .returned (.tuple #[.agg #[.int .i64 y1,.int .i64 y2,.int .i64 y3,.int .i64 y4],.int .i64 y5]) ∧ Below w'.heap.size w' w2) : Calls Try.prog 93 #[.pointer (some ⟨p,0,none⟩),.agg #[.int .i64 6,.int .i64 a,.int .i64 b,.int .i64 c],.int .i64 q] w fun e w' => e = .returned (.tuple #[.agg #[.int .i64 y1,.int .i64 y2,.int .i64 y3,.int .i64 y4],.int .i64 y5]) ∧ Below w.heap.size w w':=by
 go_enter Try.func93,Try.ntmps93
 go_upto_region 1 with fail
 obtain ⟨w1,e1,z0,ZR,BW⟩:=zmC w [.int .i64 6,.int .i64 a,.int .i64 b,.int .i64 c] 43
 replace h:=h.on BW
 obtain ⟨s1,hs1,hle,hne⟩:=zmS w
 rw [e1]
 clear e1
 rw [hs1] at ZR ⊢
 obtain ⟨z0c0,z0c1,z0c2,z0c3⟩:=z0.zb4; obtain ⟨zr0,zf0,zr1,zf1,zr2,zf2,zr3,zf3⟩:=ZR.zoc0f0c1f1c2f2c3f3
 go_wp2_with (go_at_call 116; (with_reducible refine (hC _ h).mono ?_); (rintro en w2 ⟨rfl,b⟩; clear z0c0 z0c1 z0c2 z0c3 zr0 zr1 zr2 zr3 zf0 zf1 zf2 zf3; replace h:=h.on b; replace z0:=z0.on b; replace ZR:=ZR.below b ZR.lt; replace BW:=Below.step BW b; clear b; obtain ⟨z0c0,z0c1,z0c2,z0c3⟩:=z0.zb4; obtain ⟨zr0,zf0,zr1,zf1,zr2,zf2,zr3,zf3⟩:=ZR.zoc0f0c1f1c2f2c3f3))
 have VR:=ZR.p4' (.int .i64 y1) (.int .i64 y2) (.int .i64 y3) (.int .i64 y4)
 obtain ⟨p0,p1,p2,p3⟩:=VR.zo4
 refine bodyPost_ret (v:=.tuple #[.agg #[.int .i64 y1,.int .i64 y2,.int .i64 y3,.int .i64 y4],.int .i64 y5]) (by simp [results,Try.results93,go_sem,p0,p1,p2,p3]) rfl ⟨rfl,(BW.s4' hle)⟩
set_option maxHeartbeats 4000000 in
theorem line_n {w : World} {p : Nat} {M : List Nd} {S : List Int} (h : Fr w p M S) (a b c q k : Int) (c2 : (k == 2) = false) (c3 : (k == 3) = false) (c4 : (k == 4) = false) (c5 : (k == 5) = false) (c6 : (k == 6) = false) : Calls Try.prog 93 #[.pointer (some ⟨p,0,none⟩),.agg #[.int .i64 k,.int .i64 a,.int .i64 b,.int .i64 c],.int .i64 q] w fun e w' => e = .returned (.tuple #[.agg #[.int .i64 k,.int .i64 a,.int .i64 b,.int .i64 c],.int .i64 q]) ∧ Below w.heap.size w w':=by
 go_enter Try.func93,Try.ntmps93
 go_upto_region 1 with fail
 obtain ⟨w1,e1,z0,ZR,BW⟩:=zmC w [.int .i64 k,.int .i64 a,.int .i64 b,.int .i64 c] 43
 replace h:=h.on BW
 obtain ⟨s1,hs1,hle,hne⟩:=zmS w
 rw [e1]
 clear e1
 rw [hs1] at ZR ⊢
 obtain ⟨z0c0,z0c1,z0c2,z0c3⟩:=z0.zb4; obtain ⟨zr0,zf0,zr1,zf1,zr2,zf2,zr3,zf3⟩:=ZR.zoc0f0c1f1c2f2c3f3
 go_wp2_with fail
 have VR:=ZR.p4' (.int .i64 k) (.int .i64 a) (.int .i64 b) (.int .i64 c)
 obtain ⟨p0,p1,p2,p3⟩:=VR.zo4
 refine bodyPost_ret (v:=.tuple #[.agg #[.int .i64 k,.int .i64 a,.int .i64 b,.int .i64 c],.int .i64 q]) (by simp [results,Try.results93,go_sem,p0,p1,p2,p3]) rfl ⟨rfl,(BW.s4' hle)⟩
theorem line_as {w : World} {p : Nat} {M : List Nd} {S : List Int} (h : Fr w p M S) {x : Nd} (hx : Ok (fun y => ∃ m : Nat,y = (m : Int) ∧ m < M.length) x) (h01 : ∀ y ∈ zag x,(nA M y).k = 0 → (nA M y).a = 0 ∨ (nA M y).a = 1) (q : Int) : Calls Try.prog 93 #[.pointer (some ⟨p,0,none⟩),ndA x,.int .i64 q] w fun e w' => e = .returned (.tuple #[ndA (zbe M x q).1,.int .i64 (zbe M x q).2]) ∧ Below w.heap.size w w':=by
 obtain ⟨k,xa,xb,xc⟩:=x
 rcases hx.kd with ⟨e,_⟩ | ⟨e,ha,_⟩ | ⟨e,ha,hb,_⟩ | ⟨e,ha,hb,hc⟩
 ·have e : k = 0:=e
  subst e
  exact line_n h xa xb xc q 0 rfl rfl rfl rfl rfl
 ·have e : k = 2:=e
  subst e
  obtain ⟨a,e1,ha⟩:=ha
  have e1 : xa = (a : Int):=e1
  subst e1
  have h1:=h01 (a : Int) (by simp [zag,zau])
  exact line_2 h (a : Int) xb xc q _ _ _ _ _ fun w' h' => fnot_as h' 2 xb xc q a ha h1
 ·obtain ⟨a,e1,ha⟩:=ha
  obtain ⟨b,e2,hb⟩:=hb
  have e1 : xa = (a : Int):=e1
  have e2 : xb = (b : Int):=e2
  subst e1 e2
  have e : k = 3 ∨ k = 4 ∨ k = 5:=e
  rcases e with e | e | e
  ·subst e
   exact line_3 h (a : Int) (b : Int) xc q _ _ _ _ _ fun w' h' => zfd h' 3 xc q a b ha hb
  ·subst e
   exact line_4 h (a : Int) (b : Int) xc q _ _ _ _ _ fun w' h' => zfc h' 4 xc q a b ha hb
  subst e
  exact line_5 h (a : Int) (b : Int) xc q _ _ _ _ _ fun w' h' => foldxor_as h' 5 xc q a b ha hb
 have e : k = 6:=e
 subst e
 obtain ⟨a,e1,ha⟩:=ha
 obtain ⟨b,e2,hb⟩:=hb
 obtain ⟨c,e3,hc⟩:=hc
 have e1 : xa = (a : Int):=e1
 have e2 : xb = (b : Int):=e2
 have e3 : xc = (c : Int):=e3
 subst e1 e2 e3
 exact line_6 h (a : Int) (b : Int) (c : Int) q _ _ _ _ _ fun w' h' => foldmux_as h' 6 q a b c ha hb hc
end Go.Proofs.Ytcehklnonhalhaa
