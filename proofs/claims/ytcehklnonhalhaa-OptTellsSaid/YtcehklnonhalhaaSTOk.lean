/-
  What the proofs of OptTells need: Ok.
-/
import Derived.Test.YtcehklnonhalhaaSTOi
set_option linter.unusedVariables false
namespace Go.Proofs.Ytcehklnonhalhaa
open Go.RowKit
def RL (r : Nd × Int) (e : Ending) : Prop:=e = .returned (.tuple #[.agg #[.int .i64 r.1.k,.int .i64 r.1.a,.int .i64 r.1.b,.int .i64 r.1.c],.int .i64 r.2])
theorem mk4 (w : World) (L M P Q : List Value) (T : TypeId) : ∃ w1,(((w.alloc (.cells L.toArray T)).alloc (.cells M.toArray T)).alloc (.cells P.toArray T)).alloc (.cells Q.toArray T) = w1 ∧ Bx w1 w.heap.size L ∧ Own w1 (w.heap.size + 1) T M ∧ Bx w1 (w.heap.size + 1 + 1) P ∧ Bx w1 (w.heap.size + 1 + 1 + 1) Q ∧ Below w.heap.size w w1:=by
 have e1 : (w.alloc (.cells L.toArray T)).heap.size = w.heap.size + 1:=zal w _ rfl
 have e2 : ((w.alloc (.cells L.toArray T)).alloc (.cells M.toArray T)).heap.size = w.heap.size + 1 + 1:=zal _ _ e1
 have e3 : (((w.alloc (.cells L.toArray T)).alloc (.cells M.toArray T)).alloc (.cells P.toArray T)).heap.size = w.heap.size + 1 + 1 + 1:=zal _ _ e2
 refine ⟨_,rfl,(((Bx.made_k w rfl L.toArray T).on (zaa _ _)).on (zaa _ _)).on (zaa _ _),?_,?_,Bx.made_k _ e3 Q.toArray T,Below.step (Below.step (zbu w _ _) (zaa _ _)) (zaa _ _)⟩
 ·have h:=Own.made (w.alloc (.cells L.toArray T)) T M
  rw [e1] at h
  exact (h.below (zaa _ _) (by rw [e2]; omega)).below (zaa _ _) (by rw [e3]; omega)
 exact (Bx.made_k _ e2 P.toArray T).on (zaa _ _)
set_option maxRecDepth 20000 in
set_option maxHeartbeats 16000000 in
theorem rlook2 {w : World} {A : Option Addr} {n c : Nat} {M : List Nd} (h : Ns w A n M) {a : Nat} (ha : a < n) (wa : Wk12 M a) (b d : Int) :
  Calls Try.prog 90 #[.slice A n c,.agg #[.int .i64 2,.int .i64 (a : Int),.int .i64 b,.int .i64 d]] w fun e w' => RL (zan M ⟨2,(a : Int),b,d⟩) e ∧ Below w.heap.size w w':=by
 obtain ⟨b0,off,x1,x2,x3,x4,eA,HX,hA⟩:=h.nat ha
 have HK : Hid (nA M (a : Int) = ⟨x1,x2,x3,x4⟩):=Lib.hid (nA_of HX.out)
 have hb0 : b0 < w.heap.size:=hA.lt
 subst eA
 clear HX
 go_enter Try.func90,Try.ntmps90
 go_upto_region 3 with fail
 obtain ⟨w1,e1,z0,ZR,z2,z3,BW⟩:=mk4 w [.int .i64 2,.int .i64 (a : Int),.int .i64 b,.int .i64 d] [.int .i64 0,.int .i64 0,.int .i64 0,.int .i64 0] [.int .i64 0,.int .i64 0,.int .i64 0,.int .i64 0] [.int .i64 0,.int .i64 1,.int .i64 0,.int .i64 0] 43
 rw [e1]
 clear e1
 replace h:=h.on BW
 replace hA:=hA.on BW
 obtain ⟨s3,hs3⟩ : ∃ s3,w.heap.size + 1 + 1 + 1 = s3:=⟨_,rfl⟩
 obtain ⟨s2,hs2⟩ : ∃ s2,w.heap.size + 1 + 1 = s2:=⟨_,rfl⟩
 obtain ⟨s1,hs1,hle,hne⟩:=zmS w
 rw [hs3] at z3 ⊢
 rw [hs2] at z2 ⊢
 rw [hs1] at ZR ⊢
 clear hs1 hs2 hs3
 obtain ⟨a0,a1,a2,a3⟩:=z0.zb4
 go_wp2_with fail
 refine (zbh h ha).mono ?_
 rintro en w2 ⟨rfl,b'⟩
 clear a0 a1 a2 a3
 replace h:=h.on b'; replace z0:=z0.on b'; replace z2:=z2.on b'; replace z3:=z3.on b'; replace hA:=hA.on b'; replace ZR:=ZR.below b' ZR.lt; replace BW:=Below.step BW b'; clear b'
 obtain ⟨u,hu⟩ : ∃ u,uV M (a : Int) = u:=⟨_,rfl⟩
 rw [hu]
 have HU:=Lib.hid hu
 have hu1:=uV_01 wa
 rw [hu] at hu1
 have u01 : u = 0 ∨ u = 1 ∨ u = -1:=by omega
 clear hu hu1
 have ha0 : (0 : Int) ≤ (a : Int):=by omega
 have han : (a : Int) < (n : Int):=by omega
 have hnb : b0 ≠ s1:=by omega
 rcases u01 with rfl | rfl | rfl
 ·skip
  have HR : Hid (zan M ⟨2,(a : Int),b,d⟩ = (⟨0,1,0,0⟩,-1)):=Lib.hid (by simp [zan,rnot,zaw,HU.out])
  obtain ⟨p0,f0,p1,f1,p2,f2,p3,f3⟩:=ZR.zoc0f0c1f1c2f2c3f3
  obtain ⟨a0,a1,a2,a3⟩:=z0.zb4
  obtain ⟨c0,c1,c2,c3⟩:=z2.zb4; obtain ⟨d0,d1,d2,d3⟩:=z3.zb4
  go_wp2_with fail
  have VR:=ZR.p4' (.int .i64 (0)) (.int .i64 (1)) (.int .i64 (0)) (.int .i64 (0))
  obtain ⟨q0,q1,q2,q3⟩:=VR.zo4
  refine bodyPost_ret (v:=.tuple #[.agg #[.int .i64 (0),.int .i64 (1),.int .i64 (0),.int .i64 (0)],.int .i64 (-1)]) (by simp [results,Try.results90,go_sem,q0,q1,q2,q3]) rfl ⟨by rw [HR.out]; rfl,(BW.s4' hle)⟩
 ·skip
  have HR : Hid (zan M ⟨2,(a : Int),b,d⟩ = (⟨0,0,0,0⟩,-1)):=Lib.hid (by simp [zan,rnot,zaw,HU.out])
  obtain ⟨p0,f0,p1,f1,p2,f2,p3,f3⟩:=ZR.zoc0f0c1f1c2f2c3f3
  obtain ⟨a0,a1,a2,a3⟩:=z0.zb4
  obtain ⟨c0,c1,c2,c3⟩:=z2.zb4; obtain ⟨d0,d1,d2,d3⟩:=z3.zb4
  go_wp2_with fail
  have VR:=ZR.p4' (.int .i64 (0)) (.int .i64 (0)) (.int .i64 (0)) (.int .i64 (0))
  obtain ⟨q0,q1,q2,q3⟩:=VR.zo4
  refine bodyPost_ret (v:=.tuple #[.agg #[.int .i64 (0),.int .i64 (0),.int .i64 (0),.int .i64 (0)],.int .i64 (-1)]) (by simp [results,Try.results90,go_sem,q0,q1,q2,q3]) rfl ⟨by rw [HR.out]; rfl,(BW.s4' hle)⟩
 skip
 by_cases h2 : x1 = 2
 ·subst h2
  have g1:=hA.c1; have g2:=hA.c2
  have HR : Hid (zan M ⟨2,(a : Int),b,d⟩ = (⟨2,(a : Int),b,d⟩,x2)):=Lib.hid (by simp [zan,rnot,HK.out,HU.out])
  obtain ⟨p0,f0,p1,f1,p2,f2,p3,f3⟩:=ZR.zoc0f0c1f1c2f2c3f3
  obtain ⟨a0,a1,a2,a3⟩:=z0.zb4
  obtain ⟨c0,c1,c2,c3⟩:=z2.zb4; obtain ⟨d0,d1,d2,d3⟩:=z3.zb4
  go_wp2_with fail
  clear c0 c1 c2 c3 d0 d1 d2 d3
  have b' : Below w2.heap.size w2 w2.drew:=(Below.refl _ _).drew
  have YR:=ZR.below b' ZR.lt; have y0:=z0.on b'; have yA:=hA.on b'
  obtain ⟨yp0,yf0,yp1,yf1,yp2,yf2,yp3,yf3⟩:=YR.zoc0f0c1f1c2f2c3f3
  obtain ⟨ya0,ya1,ya2,ya3⟩:=y0.zb4; have yg1:=yA.c1; have yg2:=yA.c2
  clear h hA z2 z3 b' y0 yA
  clear YR
  go_region
  all_goals go_wp2_with fail
  have VR:=ZR.p4' (.int .i64 (2)) (.int .i64 (a : Int)) (.int .i64 (b)) (.int .i64 (d))
  obtain ⟨q0,q1,q2,q3⟩:=VR.zo4
  refine bodyPost_ret (v:=.tuple #[.agg #[.int .i64 (2),.int .i64 (a : Int),.int .i64 (b),.int .i64 (d)],.int .i64 (x2)]) (by simp [results,Try.results90,go_sem,q0,q1,q2,q3]) rfl ⟨by rw [HR.out]; rfl,(BW.s4' hle).drew⟩
 have y2 : (x1 == 2) = false:=by simpa using h2
 have g1:=hA.c1; have g2:=hA.c2
 have HR : Hid (zan M ⟨2,(a : Int),b,d⟩ = (⟨2,(a : Int),b,d⟩,-1)):=Lib.hid (by simp [zan,rnot,HK.out,h2,HU.out])
 obtain ⟨p0,f0,p1,f1,p2,f2,p3,f3⟩:=ZR.zoc0f0c1f1c2f2c3f3
 obtain ⟨a0,a1,a2,a3⟩:=z0.zb4
 obtain ⟨c0,c1,c2,c3⟩:=z2.zb4; obtain ⟨d0,d1,d2,d3⟩:=z3.zb4
 go_wp2_with fail
 have VR:=ZR.p4' (.int .i64 (2)) (.int .i64 (a : Int)) (.int .i64 (b)) (.int .i64 (d))
 obtain ⟨q0,q1,q2,q3⟩:=VR.zo4
 refine bodyPost_ret (v:=.tuple #[.agg #[.int .i64 (2),.int .i64 (a : Int),.int .i64 (b),.int .i64 (d)],.int .i64 (-1)]) (by simp [results,Try.results90,go_sem,q0,q1,q2,q3]) rfl ⟨by rw [HR.out]; rfl,(BW.s4' hle)⟩
set_option maxRecDepth 20000 in
set_option maxHeartbeats 16000000 in
theorem rlook3 {w : World} {A : Option Addr} {n c : Nat} {M : List Nd} (h : Ns w A n M) {a : Nat} (ha : a < n) (wa : Wk12 M a) {b : Nat} (hb : b < n) (wb : Wk12 M b) (d : Int) :
  Calls Try.prog 90 #[.slice A n c,.agg #[.int .i64 3,.int .i64 (a : Int),.int .i64 (b : Int),.int .i64 d]] w fun e w' => RL (zan M ⟨3,(a : Int),(b : Int),d⟩) e ∧ Below w.heap.size w w':=by
 obtain ⟨u,hu⟩ : ∃ u,uV M (a : Int) = u:=⟨_,rfl⟩
 have HU:=Lib.hid hu
 have u01 : u = 0 ∨ u = 1 ∨ u = -1:=by have H0:=uV_01 wa; rw [hu] at H0; omega
 clear hu
 obtain ⟨v,hv⟩ : ∃ u,uV M (b : Int) = u:=⟨_,rfl⟩
 have HV:=Lib.hid hv
 have v01 : v = 0 ∨ v = 1 ∨ v = -1:=by have H1:=uV_01 wb; rw [hv] at H1; omega
 clear hv
 have hcs : (u = 0 ∧ zan M ⟨3,(a : Int),(b : Int),d⟩ = (⟨0,0,0,0⟩,-1)) ∨ (¬ u = 0 ∧ v = 0 ∧ zan M ⟨3,(a : Int),(b : Int),d⟩ = (⟨0,0,0,0⟩,-1)) ∨ (¬ u = 0 ∧ ¬ v = 0 ∧ u = 1 ∧ zan M ⟨3,(a : Int),(b : Int),d⟩ = (⟨3,(a : Int),(b : Int),d⟩,(b : Int))) ∨ (¬ u = 0 ∧ ¬ v = 0 ∧ ¬ u = 1 ∧ v = 1 ∧ zan M ⟨3,(a : Int),(b : Int),d⟩ = (⟨3,(a : Int),(b : Int),d⟩,(a : Int))) ∨ (¬ u = 0 ∧ ¬ v = 0 ∧ ¬ u = 1 ∧ ¬ v = 1 ∧ (a : Int) = (b : Int) ∧ zan M ⟨3,(a : Int),(b : Int),d⟩ = (⟨3,(a : Int),(b : Int),d⟩,(a : Int))) ∨ (¬ u = 0 ∧ ¬ v = 0 ∧ ¬ u = 1 ∧ ¬ v = 1 ∧ ¬ (a : Int) = (b : Int) ∧ trn M (a : Int) (b : Int) = false ∧ zan M ⟨3,(a : Int),(b : Int),d⟩ = (⟨3,(a : Int),(b : Int),d⟩,-1)) ∨ (¬ u = 0 ∧ ¬ v = 0 ∧ ¬ u = 1 ∧ ¬ v = 1 ∧ ¬ (a : Int) = (b : Int) ∧ trn M (a : Int) (b : Int) = true ∧ zan M ⟨3,(a : Int),(b : Int),d⟩ = (⟨0,0,0,0⟩,-1)):=by
  by_cases hu0 : u = 0
  ·exact .inl ⟨hu0,by simp [zan,rao,zaw,HU.out,HV.out,hu0]⟩
  by_cases hv0 : v = 0
  ·exact .inr (.inl ⟨hu0,hv0,by simp [zan,rao,zaw,HU.out,HV.out,hv0]⟩)
  by_cases H0 : u = 1
  ·exact .inr (.inr (.inl ⟨hu0,hv0,H0,by simp [zan,rao,HU.out,HV.out,hv0,H0]⟩))
  by_cases H1 : v = 1
  ·exact .inr (.inr (.inr (.inl ⟨hu0,hv0,H0,H1,by simp [zan,rao,HU.out,HV.out,hu0,H0,H1]⟩)))
  by_cases hab : (a : Int) = (b : Int)
  ·exact .inr (.inr (.inr (.inr (.inl ⟨hu0,hv0,H0,H1,hab,by simp [zan,rao,HU.out,HV.out,hu0,hv0,H0,H1,hab]⟩))))
  cases ht : trn M (a : Int) (b : Int)
  ·exact .inr (.inr (.inr (.inr (.inr (.inl ⟨hu0,hv0,H0,H1,hab,rfl,by simp [zan,rao,HU.out,HV.out,hu0,hv0,H0,H1,hab,ht]⟩)))))
  exact .inr (.inr (.inr (.inr (.inr (.inr ⟨hu0,hv0,H0,H1,hab,rfl,by simp [zan,rao,zaw,HU.out,HV.out,hu0,hv0,H0,H1,hab,ht]⟩)))))
 rcases hcs with ⟨hu0,HR⟩ | ⟨hu0,hv0,HR⟩ | ⟨hu0,hv0,H0,HR⟩ | ⟨hu0,hv0,H0,H1,HR⟩ | ⟨hu0,hv0,H0,H1,hab,HR⟩ | ⟨hu0,hv0,H0,H1,hab,ht,HR⟩ | ⟨hu0,hv0,H0,H1,hab,ht,HR⟩
 all_goals
  rw [HR]
  clear HR
  try have yu0 : (u == 0) = false:=by simpa using hu0
  try have zu0 : (u == 0) = true:=by simpa using hu0
  try have yv0 : (v == 0) = false:=by simpa using hv0
  try have zv0 : (v == 0) = true:=by simpa using hv0
  try have yu1 : (u == 1) = false:=by simpa using H0
  try have zu1 : (u == 1) = true:=by simpa using H0
  try have yv1 : (v == 1) = false:=by simpa using H1
  try have zv1 : (v == 1) = true:=by simpa using H1
  try have yab : ((a : Int) == (b : Int)) = false:=by simpa using hab
  try have zab : ((a : Int) == (b : Int)) = true:=by simpa using hab
  try clear hab
  go_enter Try.func90,Try.ntmps90
  go_upto_region 3 with fail
  obtain ⟨w1,e1,z0,ZR,z2,z3,BW⟩:=mk4 w [.int .i64 3,.int .i64 (a : Int),.int .i64 (b : Int),.int .i64 d] [.int .i64 0,.int .i64 0,.int .i64 0,.int .i64 0] [.int .i64 0,.int .i64 0,.int .i64 0,.int .i64 0] [.int .i64 0,.int .i64 1,.int .i64 0,.int .i64 0] 43
  rw [e1]
  clear e1
  replace h:=h.on BW
  obtain ⟨s3,hs3⟩ : ∃ s3,w.heap.size + 1 + 1 + 1 = s3:=⟨_,rfl⟩
  obtain ⟨s2,hs2⟩ : ∃ s2,w.heap.size + 1 + 1 = s2:=⟨_,rfl⟩
  obtain ⟨s1,hs1,hle⟩ : ∃ s1,w.heap.size + 1 = s1 ∧ w.heap.size ≤ s1:=⟨_,rfl,by omega⟩
  rw [hs3] at z3 ⊢
  rw [hs2] at z2 ⊢
  rw [hs1] at ZR ⊢
  clear hs1 hs2 hs3
  obtain ⟨a0,a1,a2,a3⟩:=z0.y4
  go_wp2_with fail
  refine (zbh h ha).mono ?_
  rintro en w2 ⟨rfl,b'⟩
  rw [HU.out]
  clear a0 a1 a2 a3
  replace h:=h.on b'; replace z0:=z0.on b'; replace z2:=z2.on b'; replace z3:=z3.on b'; replace ZR:=ZR.below b' ZR.lt; replace BW:=Below.step BW b'; clear b'
  obtain ⟨a0,a1,a2,a3⟩:=z0.y4
  go_wp2_with fail
  refine (zbh h hb).mono ?_
  rintro en w3 ⟨rfl,b'⟩
  rw [HV.out]
  clear a0 a1 a2 a3
  replace h:=h.on b'; replace z0:=z0.on b'; replace z2:=z2.on b'; replace z3:=z3.on b'; replace ZR:=ZR.below b' ZR.lt; replace BW:=Below.step BW b'; clear b'
  obtain ⟨p0,f0,p1,f1,p2,f2,p3,f3⟩:=ZR.y8; obtain ⟨a0,a1,a2,a3⟩:=z0.y4; obtain ⟨c0,c1,c2,c3⟩:=z2.y4; obtain ⟨d0,d1,d2,d3⟩:=z3.y4
  go_wp2_with fail
  try (refine (zdr h ha hb).mono ?_; rintro en w9 ⟨rfl,b'⟩; rw [ht]; clear ht a0 a1 a2 a3 c0 c1 c2 c3 d0 d1 d2 d3 p0 p1 p2 p3 f0 f1 f2 f3; replace h:=h.on b'; replace z0:=z0.on b'; replace z2:=z2.on b'; replace z3:=z3.on b'; replace ZR:=ZR.below b' ZR.lt; replace BW:=Below.step BW b'; clear b'; obtain ⟨p0,f0,p1,f1,p2,f2,p3,f3⟩:=ZR.y8; obtain ⟨a0,a1,a2,a3⟩:=z0.y4; obtain ⟨c0,c1,c2,c3⟩:=z2.y4; obtain ⟨d0,d1,d2,d3⟩:=z3.y4; go_wp2_with fail)
  refine bodyPost_ret (v:=.tuple #[.agg #[.int .i64 _,.int .i64 _,.int .i64 _,.int .i64 _],.int .i64 _]) ?_ rfl ⟨rfl,zbf BW hle⟩
  have HV:=fun a b c d => ZR.q4 a b c d
  simp [results,Try.results90,go_sem,HV]
set_option maxRecDepth 20000 in
set_option maxHeartbeats 16000000 in
theorem rlook4 {w : World} {A : Option Addr} {n c : Nat} {M : List Nd} (h : Ns w A n M) {a : Nat} (ha : a < n) (wa : Wk12 M a) {b : Nat} (hb : b < n) (wb : Wk12 M b) (d : Int) :
  Calls Try.prog 90 #[.slice A n c,.agg #[.int .i64 4,.int .i64 (a : Int),.int .i64 (b : Int),.int .i64 d]] w fun e w' => RL (zan M ⟨4,(a : Int),(b : Int),d⟩) e ∧ Below w.heap.size w w':=by
 obtain ⟨u,hu⟩ : ∃ u,uV M (a : Int) = u:=⟨_,rfl⟩
 have HU:=Lib.hid hu
 have u01 : u = 0 ∨ u = 1 ∨ u = -1:=by have H0:=uV_01 wa; rw [hu] at H0; omega
 clear hu
 obtain ⟨v,hv⟩ : ∃ u,uV M (b : Int) = u:=⟨_,rfl⟩
 have HV:=Lib.hid hv
 have v01 : v = 0 ∨ v = 1 ∨ v = -1:=by have H1:=uV_01 wb; rw [hv] at H1; omega
 clear hv
 have hcs : (u = 1 ∧ zan M ⟨4,(a : Int),(b : Int),d⟩ = (⟨0,1,0,0⟩,-1)) ∨ (¬ u = 1 ∧ v = 1 ∧ zan M ⟨4,(a : Int),(b : Int),d⟩ = (⟨0,1,0,0⟩,-1)) ∨ (¬ u = 1 ∧ ¬ v = 1 ∧ u = 0 ∧ zan M ⟨4,(a : Int),(b : Int),d⟩ = (⟨4,(a : Int),(b : Int),d⟩,(b : Int))) ∨ (¬ u = 1 ∧ ¬ v = 1 ∧ ¬ u = 0 ∧ v = 0 ∧ zan M ⟨4,(a : Int),(b : Int),d⟩ = (⟨4,(a : Int),(b : Int),d⟩,(a : Int))) ∨ (¬ u = 1 ∧ ¬ v = 1 ∧ ¬ u = 0 ∧ ¬ v = 0 ∧ (a : Int) = (b : Int) ∧ zan M ⟨4,(a : Int),(b : Int),d⟩ = (⟨4,(a : Int),(b : Int),d⟩,(a : Int))) ∨ (¬ u = 1 ∧ ¬ v = 1 ∧ ¬ u = 0 ∧ ¬ v = 0 ∧ ¬ (a : Int) = (b : Int) ∧ trn M (a : Int) (b : Int) = false ∧ zan M ⟨4,(a : Int),(b : Int),d⟩ = (⟨4,(a : Int),(b : Int),d⟩,-1)) ∨ (¬ u = 1 ∧ ¬ v = 1 ∧ ¬ u = 0 ∧ ¬ v = 0 ∧ ¬ (a : Int) = (b : Int) ∧ trn M (a : Int) (b : Int) = true ∧ zan M ⟨4,(a : Int),(b : Int),d⟩ = (⟨0,1,0,0⟩,-1)):=by
  by_cases H0 : u = 1
  ·exact .inl ⟨H0,by simp [zan,rao,zaw,HU.out,HV.out,H0]⟩
  by_cases H1 : v = 1
  ·exact .inr (.inl ⟨H0,H1,by simp [zan,rao,zaw,HU.out,HV.out,H1]⟩)
  by_cases hu0 : u = 0
  ·exact .inr (.inr (.inl ⟨H0,H1,hu0,by simp [zan,rao,HU.out,HV.out,H1,hu0]⟩))
  by_cases hv0 : v = 0
  ·exact .inr (.inr (.inr (.inl ⟨H0,H1,hu0,hv0,by simp [zan,rao,HU.out,HV.out,H0,hu0,hv0]⟩)))
  by_cases hab : (a : Int) = (b : Int)
  ·exact .inr (.inr (.inr (.inr (.inl ⟨H0,H1,hu0,hv0,hab,by simp [zan,rao,HU.out,HV.out,H0,H1,hu0,hv0,hab]⟩))))
  cases ht : trn M (a : Int) (b : Int)
  ·exact .inr (.inr (.inr (.inr (.inr (.inl ⟨H0,H1,hu0,hv0,hab,rfl,by simp [zan,rao,HU.out,HV.out,H0,H1,hu0,hv0,hab,ht]⟩)))))
  exact .inr (.inr (.inr (.inr (.inr (.inr ⟨H0,H1,hu0,hv0,hab,rfl,by simp [zan,rao,zaw,HU.out,HV.out,H0,H1,hu0,hv0,hab,ht]⟩)))))
 rcases hcs with ⟨H0,HR⟩ | ⟨H0,H1,HR⟩ | ⟨H0,H1,hu0,HR⟩ | ⟨H0,H1,hu0,hv0,HR⟩ | ⟨H0,H1,hu0,hv0,hab,HR⟩ | ⟨H0,H1,hu0,hv0,hab,ht,HR⟩ | ⟨H0,H1,hu0,hv0,hab,ht,HR⟩
 all_goals
  rw [HR]
  clear HR
  try have yu1 : (u == 1) = false:=by simpa using H0
  try have zu1 : (u == 1) = true:=by simpa using H0
  try have yv1 : (v == 1) = false:=by simpa using H1
  try have zv1 : (v == 1) = true:=by simpa using H1
  try have yu0 : (u == 0) = false:=by simpa using hu0
  try have zu0 : (u == 0) = true:=by simpa using hu0
  try have yv0 : (v == 0) = false:=by simpa using hv0
  try have zv0 : (v == 0) = true:=by simpa using hv0
  try have yab : ((a : Int) == (b : Int)) = false:=by simpa using hab
  try have zab : ((a : Int) == (b : Int)) = true:=by simpa using hab
  try clear hab
  go_enter Try.func90,Try.ntmps90
  go_upto_region 3 with fail
  obtain ⟨w1,e1,z0,ZR,z2,z3,BW⟩:=mk4 w [.int .i64 4,.int .i64 (a : Int),.int .i64 (b : Int),.int .i64 d] [.int .i64 0,.int .i64 0,.int .i64 0,.int .i64 0] [.int .i64 0,.int .i64 0,.int .i64 0,.int .i64 0] [.int .i64 0,.int .i64 1,.int .i64 0,.int .i64 0] 43
  rw [e1]
  clear e1
  replace h:=h.on BW
  obtain ⟨s3,hs3⟩ : ∃ s3,w.heap.size + 1 + 1 + 1 = s3:=⟨_,rfl⟩
  obtain ⟨s2,hs2⟩ : ∃ s2,w.heap.size + 1 + 1 = s2:=⟨_,rfl⟩
  obtain ⟨s1,hs1,hle⟩ : ∃ s1,w.heap.size + 1 = s1 ∧ w.heap.size ≤ s1:=⟨_,rfl,by omega⟩
  rw [hs3] at z3 ⊢
  rw [hs2] at z2 ⊢
  rw [hs1] at ZR ⊢
  clear hs1 hs2 hs3
  obtain ⟨a0,a1,a2,a3⟩:=z0.y4
  go_wp2_with fail
  refine (zbh h ha).mono ?_
  rintro en w2 ⟨rfl,b'⟩
  rw [HU.out]
  clear a0 a1 a2 a3
  replace h:=h.on b'; replace z0:=z0.on b'; replace z2:=z2.on b'; replace z3:=z3.on b'; replace ZR:=ZR.below b' ZR.lt; replace BW:=Below.step BW b'; clear b'
  obtain ⟨a0,a1,a2,a3⟩:=z0.y4
  go_wp2_with fail
  refine (zbh h hb).mono ?_
  rintro en w3 ⟨rfl,b'⟩
  rw [HV.out]
  clear a0 a1 a2 a3
  replace h:=h.on b'; replace z0:=z0.on b'; replace z2:=z2.on b'; replace z3:=z3.on b'; replace ZR:=ZR.below b' ZR.lt; replace BW:=Below.step BW b'; clear b'
  obtain ⟨p0,f0,p1,f1,p2,f2,p3,f3⟩:=ZR.y8; obtain ⟨a0,a1,a2,a3⟩:=z0.y4; obtain ⟨c0,c1,c2,c3⟩:=z2.y4; obtain ⟨d0,d1,d2,d3⟩:=z3.y4
  go_wp2_with fail
  try (refine (zdr h ha hb).mono ?_; rintro en w9 ⟨rfl,b'⟩; rw [ht]; clear ht a0 a1 a2 a3 c0 c1 c2 c3 d0 d1 d2 d3 p0 p1 p2 p3 f0 f1 f2 f3; replace h:=h.on b'; replace z0:=z0.on b'; replace z2:=z2.on b'; replace z3:=z3.on b'; replace ZR:=ZR.below b' ZR.lt; replace BW:=Below.step BW b'; clear b'; obtain ⟨p0,f0,p1,f1,p2,f2,p3,f3⟩:=ZR.y8; obtain ⟨a0,a1,a2,a3⟩:=z0.y4; obtain ⟨c0,c1,c2,c3⟩:=z2.y4; obtain ⟨d0,d1,d2,d3⟩:=z3.y4; go_wp2_with fail)
  refine bodyPost_ret (v:=.tuple #[.agg #[.int .i64 _,.int .i64 _,.int .i64 _,.int .i64 _],.int .i64 _]) ?_ rfl ⟨rfl,zbf BW hle⟩
  have HV:=fun a b c d => ZR.q4 a b c d
  simp [results,Try.results90,go_sem,HV]
set_option maxRecDepth 20000 in
set_option maxHeartbeats 16000000 in
theorem rlook5 {w : World} {A : Option Addr} {n c : Nat} {M : List Nd} (h : Ns w A n M) {a : Nat} (ha : a < n) (wa : Wk12 M a) {b : Nat} (hb : b < n) (wb : Wk12 M b) (d : Int) :
  Calls Try.prog 90 #[.slice A n c,.agg #[.int .i64 5,.int .i64 (a : Int),.int .i64 (b : Int),.int .i64 d]] w fun e w' => RL (zan M ⟨5,(a : Int),(b : Int),d⟩) e ∧ Below w.heap.size w w':=by
 obtain ⟨u,hu⟩ : ∃ u,uV M (a : Int) = u:=⟨_,rfl⟩
 have HU:=Lib.hid hu
 have u01 : u = 0 ∨ u = 1 ∨ u = -1:=by have H0:=uV_01 wa; rw [hu] at H0; omega
 clear hu
 obtain ⟨v,hv⟩ : ∃ u,uV M (b : Int) = u:=⟨_,rfl⟩
 have HV:=Lib.hid hv
 have v01 : v = 0 ∨ v = 1 ∨ v = -1:=by have H1:=uV_01 wb; rw [hv] at H1; omega
 clear hv
 have hcs : ((a : Int) = (b : Int) ∧ zan M ⟨5,(a : Int),(b : Int),d⟩ = (⟨0,0,0,0⟩,-1)) ∨ (¬ (a : Int) = (b : Int) ∧ u = 0 ∧ zan M ⟨5,(a : Int),(b : Int),d⟩ = (⟨5,(a : Int),(b : Int),d⟩,(b : Int))) ∨ (¬ (a : Int) = (b : Int) ∧ ¬ u = 0 ∧ v = 0 ∧ zan M ⟨5,(a : Int),(b : Int),d⟩ = (⟨5,(a : Int),(b : Int),d⟩,(a : Int))) ∨ (¬ (a : Int) = (b : Int) ∧ ¬ u = 0 ∧ ¬ v = 0 ∧ u = 1 ∧ zan M ⟨5,(a : Int),(b : Int),d⟩ = (⟨2,(b : Int),0,0⟩,-1)) ∨ (¬ (a : Int) = (b : Int) ∧ ¬ u = 0 ∧ ¬ v = 0 ∧ ¬ u = 1 ∧ v = 1 ∧ zan M ⟨5,(a : Int),(b : Int),d⟩ = (⟨2,(a : Int),0,0⟩,-1)) ∨ (¬ (a : Int) = (b : Int) ∧ ¬ u = 0 ∧ ¬ v = 0 ∧ ¬ u = 1 ∧ ¬ v = 1 ∧ trn M (a : Int) (b : Int) = false ∧ zan M ⟨5,(a : Int),(b : Int),d⟩ = (⟨5,(a : Int),(b : Int),d⟩,-1)) ∨ (¬ (a : Int) = (b : Int) ∧ ¬ u = 0 ∧ ¬ v = 0 ∧ ¬ u = 1 ∧ ¬ v = 1 ∧ trn M (a : Int) (b : Int) = true ∧ zan M ⟨5,(a : Int),(b : Int),d⟩ = (⟨0,1,0,0⟩,-1)):=by
  by_cases hab : (a : Int) = (b : Int)
  ·skip
   exact .inl ⟨hab,by simp [zan,rxor,zaw,notN,HU.out,HV.out,hab]⟩
  by_cases hu0 : u = 0
  ·skip
   exact .inr (.inl ⟨hab,hu0,by simp [zan,rxor,zaw,notN,HU.out,HV.out,hab,hu0]⟩)
  by_cases hv0 : v = 0
  ·skip
   exact .inr (.inr (.inl ⟨hab,hu0,hv0,by simp [zan,rxor,zaw,notN,HU.out,HV.out,hab,hu0,hv0]⟩))
  by_cases H0 : u = 1
  ·skip
   exact .inr (.inr (.inr (.inl ⟨hab,hu0,hv0,H0,by simp [zan,rxor,zaw,notN,HU.out,HV.out,hab,hu0,hv0,H0]⟩)))
  by_cases H1 : v = 1
  ·skip
   exact .inr (.inr (.inr (.inr (.inl ⟨hab,hu0,hv0,H0,H1,by simp [zan,rxor,zaw,notN,HU.out,HV.out,hab,hu0,hv0,H0,H1]⟩))))
  cases ht : trn M (a : Int) (b : Int)
  ·skip
   exact .inr (.inr (.inr (.inr (.inr (.inl ⟨hab,hu0,hv0,H0,H1,rfl,by simp [zan,rxor,zaw,notN,HU.out,HV.out,hab,hu0,hv0,H0,H1,ht]⟩)))))
  skip
  exact .inr (.inr (.inr (.inr (.inr (.inr (⟨hab,hu0,hv0,H0,H1,rfl,by simp [zan,rxor,zaw,notN,HU.out,HV.out,hab,hu0,hv0,H0,H1,ht]⟩))))))
 rcases hcs with ⟨hab,HR⟩ | ⟨hab,hu0,HR⟩ | ⟨hab,hu0,hv0,HR⟩ | ⟨hab,hu0,hv0,H0,HR⟩ | ⟨hab,hu0,hv0,H0,H1,HR⟩ | ⟨hab,hu0,hv0,H0,H1,ht,HR⟩ | ⟨hab,hu0,hv0,H0,H1,ht,HR⟩
 all_goals
  rw [HR]
  clear HR
  try have yu0 : (u == 0) = false:=by simpa using hu0
  try have zu0 : (u == 0) = true:=by simpa using hu0
  try have yv0 : (v == 0) = false:=by simpa using hv0
  try have zv0 : (v == 0) = true:=by simpa using hv0
  try have yu1 : (u == 1) = false:=by simpa using H0
  try have zu1 : (u == 1) = true:=by simpa using H0
  try have yv1 : (v == 1) = false:=by simpa using H1
  try have zv1 : (v == 1) = true:=by simpa using H1
  try have yab : ((a : Int) == (b : Int)) = false:=by simpa using hab
  try have zab : ((a : Int) == (b : Int)) = true:=by simpa using hab
  try clear hab
  go_enter Try.func90,Try.ntmps90
  go_upto_region 3 with fail
  obtain ⟨w1,e1,z0,ZR,z2,z3,BW⟩:=mk4 w [.int .i64 5,.int .i64 (a : Int),.int .i64 (b : Int),.int .i64 d] [.int .i64 0,.int .i64 0,.int .i64 0,.int .i64 0] [.int .i64 0,.int .i64 0,.int .i64 0,.int .i64 0] [.int .i64 0,.int .i64 1,.int .i64 0,.int .i64 0] 43
  rw [e1]
  clear e1
  replace h:=h.on BW
  obtain ⟨s3,hs3⟩ : ∃ s3,w.heap.size + 1 + 1 + 1 = s3:=⟨_,rfl⟩
  obtain ⟨s2,hs2⟩ : ∃ s2,w.heap.size + 1 + 1 = s2:=⟨_,rfl⟩
  obtain ⟨s1,hs1,hle⟩ : ∃ s1,w.heap.size + 1 = s1 ∧ w.heap.size ≤ s1:=⟨_,rfl,by omega⟩
  rw [hs3] at z3 ⊢
  rw [hs2] at z2 ⊢
  rw [hs1] at ZR ⊢
  clear hs1 hs2 hs3
  obtain ⟨a0,a1,a2,a3⟩:=z0.y4
  go_wp2_with fail
  refine (zbh h ha).mono ?_
  rintro en w2 ⟨rfl,b'⟩
  rw [HU.out]
  clear a0 a1 a2 a3
  replace h:=h.on b'; replace z0:=z0.on b'; replace z2:=z2.on b'; replace z3:=z3.on b'; replace ZR:=ZR.below b' ZR.lt; replace BW:=Below.step BW b'; clear b'
  obtain ⟨a0,a1,a2,a3⟩:=z0.y4
  go_wp2_with fail
  refine (zbh h hb).mono ?_
  rintro en w3 ⟨rfl,b'⟩
  rw [HV.out]
  clear a0 a1 a2 a3
  replace h:=h.on b'; replace z0:=z0.on b'; replace z2:=z2.on b'; replace z3:=z3.on b'; replace ZR:=ZR.below b' ZR.lt; replace BW:=Below.step BW b'; clear b'
  obtain ⟨p0,f0,p1,f1,p2,f2,p3,f3⟩:=ZR.y8; obtain ⟨a0,a1,a2,a3⟩:=z0.y4; obtain ⟨c0,c1,c2,c3⟩:=z2.y4; obtain ⟨d0,d1,d2,d3⟩:=z3.y4
  go_wp2_with fail
  try (refine (zdr h ha hb).mono ?_; rintro en w9 ⟨rfl,b'⟩; rw [ht]; clear ht a0 a1 a2 a3 c0 c1 c2 c3 d0 d1 d2 d3 p0 p1 p2 p3 f0 f1 f2 f3; replace h:=h.on b'; replace z0:=z0.on b'; replace z2:=z2.on b'; replace z3:=z3.on b'; replace ZR:=ZR.below b' ZR.lt; replace BW:=Below.step BW b'; clear b'; obtain ⟨p0,f0,p1,f1,p2,f2,p3,f3⟩:=ZR.y8; obtain ⟨a0,a1,a2,a3⟩:=z0.y4; obtain ⟨c0,c1,c2,c3⟩:=z2.y4; obtain ⟨d0,d1,d2,d3⟩:=z3.y4; go_wp2_with fail)
  refine bodyPost_ret (v:=.tuple #[.agg #[.int .i64 _,.int .i64 _,.int .i64 _,.int .i64 _],.int .i64 _]) ?_ rfl ⟨rfl,zbf BW hle⟩
  have HV:=fun a b c d => ZR.q4 a b c d
  simp [results,Try.results90,go_sem,HV]
set_option maxRecDepth 20000 in
set_option maxHeartbeats 16000000 in
theorem rlook6 {w : World} {A : Option Addr} {n c : Nat} {M : List Nd} (h : Ns w A n M) {a : Nat} (ha : a < n) (wa : Wk12 M a) {b : Nat} (hb : b < n) (wb : Wk12 M b) {d : Nat} (hd : d < n) (wd : Wk12 M d) :
  Calls Try.prog 90 #[.slice A n c,.agg #[.int .i64 6,.int .i64 (a : Int),.int .i64 (b : Int),.int .i64 (d : Int)]] w fun e w' => RL (zan M ⟨6,(a : Int),(b : Int),(d : Int)⟩) e ∧ Below w.heap.size w w':=by
 obtain ⟨u,hu⟩ : ∃ u,uV M (a : Int) = u:=⟨_,rfl⟩
 have HU:=Lib.hid hu
 have u01 : u = 0 ∨ u = 1 ∨ u = -1:=by have H2:=uV_01 wa; rw [hu] at H2; omega
 clear hu
 obtain ⟨v,hv⟩ : ∃ u,uV M (b : Int) = u:=⟨_,rfl⟩
 have HV:=Lib.hid hv
 have v01 : v = 0 ∨ v = 1 ∨ v = -1:=by have H1:=uV_01 wb; rw [hv] at H1; omega
 clear hv
 obtain ⟨t,ht⟩ : ∃ u,uV M (d : Int) = u:=⟨_,rfl⟩
 have HT:=Lib.hid ht
 have t01 : t = 0 ∨ t = 1 ∨ t = -1:=by have H0:=uV_01 wd; rw [ht] at H0; omega
 clear ht
 have hcs : (t = 0 ∧ zan M ⟨6,(a : Int),(b : Int),(d : Int)⟩ = (⟨6,(a : Int),(b : Int),(d : Int)⟩,(a : Int))) ∨ (¬ t = 0 ∧ t = 1 ∧ zan M ⟨6,(a : Int),(b : Int),(d : Int)⟩ = (⟨6,(a : Int),(b : Int),(d : Int)⟩,(b : Int))) ∨ (¬ t = 0 ∧ ¬ t = 1 ∧ (a : Int) = (b : Int) ∧ zan M ⟨6,(a : Int),(b : Int),(d : Int)⟩ = (⟨6,(a : Int),(b : Int),(d : Int)⟩,(a : Int))) ∨ (¬ t = 0 ∧ ¬ t = 1 ∧ ¬ (a : Int) = (b : Int) ∧ u = 0 ∧ v = 1 ∧ zan M ⟨6,(a : Int),(b : Int),(d : Int)⟩ = (⟨6,(a : Int),(b : Int),(d : Int)⟩,(d : Int))) ∨ (¬ t = 0 ∧ ¬ t = 1 ∧ ¬ (a : Int) = (b : Int) ∧ u = 0 ∧ ¬ v = 1 ∧ zan M ⟨6,(a : Int),(b : Int),(d : Int)⟩ = (⟨3,(b : Int),(d : Int),0⟩,-1)) ∨ (¬ t = 0 ∧ ¬ t = 1 ∧ ¬ (a : Int) = (b : Int) ∧ ¬ u = 0 ∧ u = 1 ∧ v = 0 ∧ zan M ⟨6,(a : Int),(b : Int),(d : Int)⟩ = (⟨2,(d : Int),0,0⟩,-1)) ∨ (¬ t = 0 ∧ ¬ t = 1 ∧ ¬ (a : Int) = (b : Int) ∧ ¬ u = 0 ∧ u = 1 ∧ ¬ v = 0 ∧ v = 1 ∧ zan M ⟨6,(a : Int),(b : Int),(d : Int)⟩ = (⟨4,(a : Int),(d : Int),0⟩,-1)) ∨ (¬ t = 0 ∧ ¬ t = 1 ∧ ¬ (a : Int) = (b : Int) ∧ ¬ u = 0 ∧ u = 1 ∧ ¬ v = 0 ∧ ¬ v = 1 ∧ zan M ⟨6,(a : Int),(b : Int),(d : Int)⟩ = (⟨6,(a : Int),(b : Int),(d : Int)⟩,-1)) ∨ (¬ t = 0 ∧ ¬ t = 1 ∧ ¬ (a : Int) = (b : Int) ∧ ¬ u = 0 ∧ ¬ u = 1 ∧ v = 1 ∧ zan M ⟨6,(a : Int),(b : Int),(d : Int)⟩ = (⟨4,(a : Int),(d : Int),0⟩,-1)) ∨ (¬ t = 0 ∧ ¬ t = 1 ∧ ¬ (a : Int) = (b : Int) ∧ ¬ u = 0 ∧ ¬ u = 1 ∧ ¬ v = 1 ∧ zan M ⟨6,(a : Int),(b : Int),(d : Int)⟩ = (⟨6,(a : Int),(b : Int),(d : Int)⟩,-1)):=by
  by_cases ht0 : t = 0
  ·skip
   exact .inl ⟨ht0,by simp [zan,rmux,zaw,notN,HU.out,HV.out,HT.out,ht0]⟩
  by_cases H0 : t = 1
  ·skip
   exact .inr (.inl ⟨ht0,H0,by simp [zan,rmux,zaw,notN,HU.out,HV.out,HT.out,ht0,H0]⟩)
  by_cases hab : (a : Int) = (b : Int)
  ·skip
   exact .inr (.inr (.inl ⟨ht0,H0,hab,by simp [zan,rmux,zaw,notN,HU.out,HV.out,HT.out,ht0,H0,hab]⟩))
  by_cases hu0 : u = 0
  ·skip
   by_cases H1 : v = 1
   ·skip
    exact .inr (.inr (.inr (.inl ⟨ht0,H0,hab,hu0,H1,by simp [zan,rmux,zaw,notN,HU.out,HV.out,HT.out,ht0,H0,hab,hu0,H1]⟩)))
   exact .inr (.inr (.inr (.inr (.inl ⟨ht0,H0,hab,hu0,H1,by simp [zan,rmux,zaw,notN,HU.out,HV.out,HT.out,ht0,H0,hab,hu0,H1]⟩))))
  by_cases H2 : u = 1
  ·skip
   by_cases hv0 : v = 0
   ·skip
    exact .inr (.inr (.inr (.inr (.inr (.inl ⟨ht0,H0,hab,hu0,H2,hv0,by simp [zan,rmux,zaw,notN,HU.out,HV.out,HT.out,ht0,H0,hab,hu0,H2,hv0]⟩)))))
   by_cases H1 : v = 1
   ·skip
    exact .inr (.inr (.inr (.inr (.inr (.inr (.inl ⟨ht0,H0,hab,hu0,H2,hv0,H1,by simp [zan,rmux,zaw,notN,HU.out,HV.out,HT.out,ht0,H0,hab,hu0,H2,hv0,H1]⟩))))))
   exact .inr (.inr (.inr (.inr (.inr (.inr (.inr (.inl ⟨ht0,H0,hab,hu0,H2,hv0,H1,by simp [zan,rmux,zaw,notN,HU.out,HV.out,HT.out,ht0,H0,hab,hu0,H2,hv0,H1]⟩)))))))
  by_cases H1 : v = 1
  ·skip
   exact .inr (.inr (.inr (.inr (.inr (.inr (.inr (.inr (.inl ⟨ht0,H0,hab,hu0,H2,H1,by simp [zan,rmux,zaw,notN,HU.out,HV.out,HT.out,ht0,H0,hab,hu0,H2,H1]⟩))))))))
  exact .inr (.inr (.inr (.inr (.inr (.inr (.inr (.inr (.inr (⟨ht0,H0,hab,hu0,H2,H1,by simp [zan,rmux,zaw,notN,HU.out,HV.out,HT.out,ht0,H0,hab,hu0,H2,H1]⟩)))))))))
 rcases hcs with ⟨ht0,HR⟩ | ⟨ht0,H0,HR⟩ | ⟨ht0,H0,hab,HR⟩ | ⟨ht0,H0,hab,hu0,H1,HR⟩ | ⟨ht0,H0,hab,hu0,H1,HR⟩ | ⟨ht0,H0,hab,hu0,H2,hv0,HR⟩ | ⟨ht0,H0,hab,hu0,H2,hv0,H1,HR⟩ | ⟨ht0,H0,hab,hu0,H2,hv0,H1,HR⟩ | ⟨ht0,H0,hab,hu0,H2,H1,HR⟩ | ⟨ht0,H0,hab,hu0,H2,H1,HR⟩
 all_goals
  rw [HR]
  clear HR
  try have yt0 : (t == 0) = false:=by simpa using ht0
  try have zt0 : (t == 0) = true:=by simpa using ht0
  try have yt1 : (t == 1) = false:=by simpa using H0
  try have zt1 : (t == 1) = true:=by simpa using H0
  try have yu0 : (u == 0) = false:=by simpa using hu0
  try have zu0 : (u == 0) = true:=by simpa using hu0
  try have yv0 : (v == 0) = false:=by simpa using hv0
  try have zv0 : (v == 0) = true:=by simpa using hv0
  try have yu1 : (u == 1) = false:=by simpa using H2
  try have zu1 : (u == 1) = true:=by simpa using H2
  try have yv1 : (v == 1) = false:=by simpa using H1
  try have zv1 : (v == 1) = true:=by simpa using H1
  try have yab : ((a : Int) == (b : Int)) = false:=by simpa using hab
  try have zab : ((a : Int) == (b : Int)) = true:=by simpa using hab
  try clear hab
  go_enter Try.func90,Try.ntmps90
  go_upto_region 3 with fail
  obtain ⟨w1,e1,z0,ZR,z2,z3,BW⟩:=mk4 w [.int .i64 6,.int .i64 (a : Int),.int .i64 (b : Int),.int .i64 (d : Int)] [.int .i64 0,.int .i64 0,.int .i64 0,.int .i64 0] [.int .i64 0,.int .i64 0,.int .i64 0,.int .i64 0] [.int .i64 0,.int .i64 1,.int .i64 0,.int .i64 0] 43
  rw [e1]
  clear e1
  replace h:=h.on BW
  obtain ⟨s3,hs3⟩ : ∃ s3,w.heap.size + 1 + 1 + 1 = s3:=⟨_,rfl⟩
  obtain ⟨s2,hs2⟩ : ∃ s2,w.heap.size + 1 + 1 = s2:=⟨_,rfl⟩
  obtain ⟨s1,hs1,hle⟩ : ∃ s1,w.heap.size + 1 = s1 ∧ w.heap.size ≤ s1:=⟨_,rfl,by omega⟩
  rw [hs3] at z3 ⊢
  rw [hs2] at z2 ⊢
  rw [hs1] at ZR ⊢
  clear hs1 hs2 hs3
  obtain ⟨a0,a1,a2,a3⟩:=z0.y4
  go_wp2_with fail
  refine (zbh h ha).mono ?_
  rintro en w2 ⟨rfl,b'⟩
  rw [HU.out]
  clear a0 a1 a2 a3
  replace h:=h.on b'; replace z0:=z0.on b'; replace z2:=z2.on b'; replace z3:=z3.on b'; replace ZR:=ZR.below b' ZR.lt; replace BW:=Below.step BW b'; clear b'
  obtain ⟨a0,a1,a2,a3⟩:=z0.y4
  go_wp2_with fail
  refine (zbh h hb).mono ?_
  rintro en w3 ⟨rfl,b'⟩
  rw [HV.out]
  clear a0 a1 a2 a3
  replace h:=h.on b'; replace z0:=z0.on b'; replace z2:=z2.on b'; replace z3:=z3.on b'; replace ZR:=ZR.below b' ZR.lt; replace BW:=Below.step BW b'; clear b'
  obtain ⟨a0,a1,a2,a3⟩:=z0.y4
  go_wp2_with fail
  refine (zbh h hd).mono ?_
  rintro en w4 ⟨rfl,b'⟩
  rw [HT.out]
  clear a0 a1 a2 a3
  replace h:=h.on b'; replace z0:=z0.on b'; replace z2:=z2.on b'; replace z3:=z3.on b'; replace ZR:=ZR.below b' ZR.lt; replace BW:=Below.step BW b'; clear b'
  obtain ⟨p0,f0,p1,f1,p2,f2,p3,f3⟩:=ZR.y8; obtain ⟨a0,a1,a2,a3⟩:=z0.y4; obtain ⟨c0,c1,c2,c3⟩:=z2.y4; obtain ⟨d0,d1,d2,d3⟩:=z3.y4
  go_wp2_with fail
  refine bodyPost_ret (v:=.tuple #[.agg #[.int .i64 _,.int .i64 _,.int .i64 _,.int .i64 _],.int .i64 _]) ?_ rfl ⟨rfl,zbf BW hle⟩
  have HV:=fun a b c d => ZR.q4 a b c d
  simp [results,Try.results90,go_sem,HV]
end Go.Proofs.Ytcehklnonhalhaa
