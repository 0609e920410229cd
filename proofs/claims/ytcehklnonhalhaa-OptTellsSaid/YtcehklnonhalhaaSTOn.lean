/-
  What the proofs of OptTells need: On Oq.
-/
import Derived.Test.YtcehklnonhalhaaSTOl
set_option linter.unusedVariables false
namespace Go.Proofs.Ytcehklnonhalhaa
open Go.RowKit
set_option maxHeartbeats 2000000 in
theorem rkey_s (k a b c : Int) (hk : (k == 3) = true ∨ ((k == 3) = false ∧ (k == 4) = true) ∨ ((k == 3) = false ∧ (k == 4) = false ∧ (k == 5) = true)) (hl : b < a) (hd : decide (b < a) = true) (w : World) : Calls Try.prog 24 #[.agg #[.int .i64 k,.int .i64 a,.int .i64 b,.int .i64 c]] w fun e w' => e = .returned (.agg #[.int .i64 k,.int .i64 b,.int .i64 a,.int .i64 c]) ∧ Below w.heap.size w w':=by
 rcases hk with e3 | ⟨e3,e4⟩ | ⟨e3,e4,e5⟩
 all_goals
  go_enter Try.func24,Try.ntmps24
  go_upto_region 1 with fail
  obtain ⟨w1,e1,z0,ZR,BW⟩:=zmE w [.int .i64 k,.int .i64 a,.int .i64 b,.int .i64 c] 43 [.int .i64 0,.int .i64 0,.int .i64 0,.int .i64 0] 43
  obtain ⟨s1,hs1⟩ : ∃ s1,w.heap.size + 1 = s1:=⟨_,rfl⟩
  obtain ⟨s0,hs0⟩ : ∃ s0,w.heap.size = s0:=⟨_,rfl⟩
  have hle : s0 ≤ s1:=by omega
  have hne : s0 ≠ s1:=by omega
  rw [e1]
  clear e1
  rw [hs1] at ZR ⊢
  rw [hs0] at z0 BW ⊢
  obtain ⟨c0,c1,c2,c3⟩:=z0.zo4
  obtain ⟨zr0,zf0,zr1,zf1,zr2,zf2,zr3,zf3⟩:=ZR.zoc0f0c1f1c2f2c3f3
  go_wp2_with fail
  have VR:=ZR.p4' (.int .i64 k) (.int .i64 b) (.int .i64 a) (.int .i64 c)
  obtain ⟨p0,p1,p2,p3⟩:=VR.zo4
  refine bodyPost_ret (v:=.agg #[.int .i64 k,.int .i64 b,.int .i64 a,.int .i64 c]) (by simp [results,Try.results24,go_sem,p0,p1,p2,p3]) rfl ⟨rfl,by (try rw [hs0]); exact (BW.s4' hle)⟩
theorem zdO (x : Nd) (w : World) : Calls Try.prog 24 #[ndA x] w fun e w' => e = .returned (ndA (keyS x)) ∧ Below w.heap.size w w':=by
 by_cases h : keyS x = x
 ·rw [h]
  exact rkey_as h w
 obtain ⟨k,a,b,c⟩:=x
 have hk : k = 3 ∨ k = 4 ∨ k = 5:=Classical.byContradiction fun n => h (by unfold keyS; rw [if_neg n])
 have hl : b < a:=Classical.byContradiction fun n => h (by
  unfold keyS
  rw [if_pos hk]
  show (⟨k,min a b,max a b,c⟩ : Nd) = _
  have e1 : min a b = a:=by omega
  have e2 : max a b = b:=by omega
  rw [e1,e2])
 have e : keyS ⟨k,a,b,c⟩ = ⟨k,b,a,c⟩:=by
  unfold keyS
  rw [if_pos hk]
  show (⟨k,min a b,max a b,c⟩ : Nd) = _
  have e1 : min a b = b:=by omega
  have e2 : max a b = a:=by omega
  rw [e1,e2]
 rw [e]
 have hd : decide (b < a) = true:=by simpa using hl
 rcases hk with rfl | rfl | rfl
 ·exact rkey_s 3 a b c (.inl rfl) hl hd w
 ·exact rkey_s 4 a b c (.inr (.inl ⟨rfl,rfl⟩)) hl hd w
 exact rkey_s 5 a b c (.inr (.inr ⟨rfl,rfl,rfl⟩)) hl hd w
theorem IAt.apart {w : World} {b o s0 : Nat} {x : Int} (h : IAt w b o x) (hne : b ≠ s0) (i : Nat) (v : Value) : IAt (w.setCell ⟨s0,i,none⟩ v) b o x:=by
 have e : (w.setCell ⟨s0,i,none⟩ v).heap[b]? = w.heap[b]?:=Below.heap_setCell w ⟨s0,i,none⟩ v b hne
 refine ⟨by have:=h.1; simpa [World.setCell] using this,?_⟩
 rw [← h.2]
 exact World.cell?_of_block e
set_option maxRecDepth 20000 in
set_option maxHeartbeats 4000000 in
theorem rby_0 {w : World} {v2 : Value} (k : Int) (hk : zau k = 0) (a b c : Int) : Calls Try.prog 91 #[.agg #[.int .i64 k,.int .i64 a,.int .i64 b,.int .i64 c],v2] w fun e w' => e = .returned (ndA (keyS ⟨k,a,b,c⟩)) ∧ Below w.heap.size w w':=by
 have HMK:=Lib.hid hk
 clear hk
 go_enter Try.func91,Try.ntmps91
 go_upto_region 1 with fail
 obtain ⟨w1,e1,z0,ZR,BW⟩:=zmE w [.int .i64 k,.int .i64 a,.int .i64 b,.int .i64 c] 43 [.int .i64 0,.int .i64 0,.int .i64 0,.int .i64 0] 43
 obtain ⟨s1,hs1⟩ : ∃ s1,w.heap.size + 1 = s1:=⟨_,rfl⟩
 obtain ⟨s0,hs0⟩ : ∃ s0,w.heap.size = s0:=⟨_,rfl⟩
 have hle : s0 ≤ s1:=by omega
 have hne : s0 ≠ s1:=by omega
 rw [e1]
 clear e1
 rw [hs1] at ZR ⊢
 rw [hs0] at z0 BW  ⊢
 have H0:=Lib.hid hs0
 clear hs0
 obtain ⟨a0,a1,a2,a3⟩:=z0.zo4
 go_wp2_with fail
 refine (zbO k a b c _).mono ?_
 rintro en w2 ⟨gy,mu,rfl,_,HMU,_,_,b'⟩
 obtain rfl : mu = 0:=HMU.out.trans HMK.out
 clear HMU a0 a1 a2 a3
 replace z0:=z0.below b' z0.lt
 replace ZR:=ZR.below b' ZR.lt
 replace BW:=BW.trans (b'.mono (Nat.le_trans (Nat.le_of_eq H0.out.symm) BW.size))
 clear b'
 obtain ⟨a0,a1,a2,a3⟩:=z0.zo4
 go_wp2_with fail
 refine (zdO ⟨k,a,b,c⟩ _).mono ?_
 rintro en w7 ⟨rfl,b'⟩
 clear a0 a1 a2 a3
 replace ZR:=ZR.below b' ZR.lt
 replace BW:=BW.trans (b'.mono (Nat.le_trans (Nat.le_of_eq H0.out.symm) BW.size))
 clear b'
 obtain ⟨⟨y1,y2,y3,y4⟩,hy⟩ : ∃ y,keyS ⟨k,a,b,c⟩ = y:=⟨_,rfl⟩
 rw [hy]
 unfold ndA
 dsimp only
 obtain ⟨p0,f0,p1,f1,p2,f2,p3,f3⟩:=ZR.zoc0f0c1f1c2f2c3f3
 go_wp2_with fail
 have VR:=ZR.p4' (.int .i64 y1) (.int .i64 y2) (.int .i64 y3) (.int .i64 y4)
 obtain ⟨q0,q1,q2,q3⟩:=VR.zo4
 refine bodyPost_ret (v:=.agg #[.int .i64 y1,.int .i64 y2,.int .i64 y3,.int .i64 y4]) (by simp [results,Try.results91,go_sem,q0,q1,q2,q3]) rfl ⟨by rw [hy]; rfl,by (try rw [H0.out]); exact (BW.s4' hle)⟩
set_option maxRecDepth 20000 in
set_option maxHeartbeats 4000000 in
theorem rby_1 {w : World} {n b0 off cc : Nat} (k : Int) (hk : zau k = 1) (a : Nat) (b c : Int) (za : Int) (ha : a < n) (ia : IAt w b0 (off + a) za) : Calls Try.prog 91 #[.agg #[.int .i64 k,.int .i64 (a : Int),.int .i64 b,.int .i64 c],.slice (some ⟨b0,off,none⟩) n cc] w fun e w' => e = .returned (ndA (keyS ⟨k,za,b,c⟩)) ∧ Below w.heap.size w w':=by
 have ha1 : (a : Int) < (n : Int):=by omega
 have ha0 : (0 : Int) ≤ (a : Int):=by omega
 clear ha
 have HMK:=Lib.hid hk
 clear hk
 go_enter Try.func91,Try.ntmps91
 go_upto_region 1 with fail
 obtain ⟨w1,e1,z0,ZR,BW⟩:=zmE w [.int .i64 k,.int .i64 (a : Int),.int .i64 b,.int .i64 c] 43 [.int .i64 0,.int .i64 0,.int .i64 0,.int .i64 0] 43
 have hb:=Lib.hid ia.1
 replace ia:=ia.on BW
 obtain ⟨s1,hs1⟩ : ∃ s1,w.heap.size + 1 = s1:=⟨_,rfl⟩
 obtain ⟨s0,hs0⟩ : ∃ s0,w.heap.size = s0:=⟨_,rfl⟩
 have hle : s0 ≤ s1:=by omega
 have hne : s0 ≠ s1:=by omega
 rw [e1]
 clear e1
 rw [hs1] at ZR ⊢
 rw [hs0] at z0 BW hb ⊢
 have H0:=Lib.hid hs0
 clear hs0
 have hb0 : b0 ≠ s0:=by have:=hb.out; omega
 obtain ⟨a0,a1,a2,a3⟩:=z0.zo4
 go_wp2_with fail
 refine (zbO k (a : Int) b c _).mono ?_
 rintro en w2 ⟨gy,mu,rfl,_,HMU,_,_,b'⟩
 obtain rfl : mu = 1:=HMU.out.trans HMK.out
 clear HMU a0 a1 a2 a3
 replace ia:=ia.on b'
 replace z0:=z0.below b' z0.lt
 replace ZR:=ZR.below b' ZR.lt
 replace BW:=BW.trans (b'.mono (Nat.le_trans (Nat.le_of_eq H0.out.symm) BW.size))
 clear b'
 obtain ⟨a0,a1,a2,a3⟩:=z0.zo4
 have mx:=ia.2
 have fx:=z0.free 1
 go_upto_region 4 with fail
 clear a0 a1 a2 a3 mx fx
 replace z0:=z0.put 1 (.int .i64 za)
 replace ZR:=ZR.apart hne.symm 1 (.int .i64 za)
 replace BW:=BW.setCell (p:=⟨s0,1,none⟩) (Nat.le_refl _) (.int .i64 za)
 obtain ⟨w3,e_w⟩ : ∃ w',w2.setCell ⟨s0,1,none⟩ (.int .i64 za) = w':=⟨_,rfl⟩
 rw [e_w] at z0 ZR BW  ⊢
 clear e_w
 replace z0 : Own _ s0 43 [.int .i64 k,.int .i64 za,.int .i64 b,.int .i64 c]:=z0
 obtain ⟨a0,a1,a2,a3⟩:=z0.zo4
 go_wp2_with fail
 refine (zdO ⟨k,za,b,c⟩ _).mono ?_
 rintro en w7 ⟨rfl,b'⟩
 clear a0 a1 a2 a3
 replace ZR:=ZR.below b' ZR.lt
 replace BW:=BW.trans (b'.mono (Nat.le_trans (Nat.le_of_eq H0.out.symm) BW.size))
 clear b'
 obtain ⟨⟨y1,y2,y3,y4⟩,hy⟩ : ∃ y,keyS ⟨k,za,b,c⟩ = y:=⟨_,rfl⟩
 rw [hy]
 unfold ndA
 dsimp only
 obtain ⟨p0,f0,p1,f1,p2,f2,p3,f3⟩:=ZR.zoc0f0c1f1c2f2c3f3
 go_wp2_with fail
 have VR:=ZR.p4' (.int .i64 y1) (.int .i64 y2) (.int .i64 y3) (.int .i64 y4)
 obtain ⟨q0,q1,q2,q3⟩:=VR.zo4
 refine bodyPost_ret (v:=.agg #[.int .i64 y1,.int .i64 y2,.int .i64 y3,.int .i64 y4]) (by simp [results,Try.results91,go_sem,q0,q1,q2,q3]) rfl ⟨by rw [hy]; rfl,by (try rw [H0.out]); exact (BW.s4' hle)⟩
set_option maxRecDepth 20000 in
set_option maxHeartbeats 4000000 in
theorem rby_2 {w : World} {n b0 off cc : Nat} (k : Int) (hk : zau k = 2) (a b : Nat) (c : Int) (za zb : Int) (ha : a < n) (ia : IAt w b0 (off + a) za) (hb : b < n) (ib : IAt w b0 (off + b) zb) : Calls Try.prog 91 #[.agg #[.int .i64 k,.int .i64 (a : Int),.int .i64 (b : Int),.int .i64 c],.slice (some ⟨b0,off,none⟩) n cc] w fun e w' => e = .returned (ndA (keyS ⟨k,za,zb,c⟩)) ∧ Below w.heap.size w w':=by
 have ha1 : (a : Int) < (n : Int):=by omega
 have ha0 : (0 : Int) ≤ (a : Int):=by omega
 clear ha
 have hb1 : (b : Int) < (n : Int):=by omega
 have hb0 : (0 : Int) ≤ (b : Int):=by omega
 clear hb
 have HMK:=Lib.hid hk
 clear hk
 go_enter Try.func91,Try.ntmps91
 go_upto_region 1 with fail
 obtain ⟨w1,e1,z0,ZR,BW⟩:=zmE w [.int .i64 k,.int .i64 (a : Int),.int .i64 (b : Int),.int .i64 c] 43 [.int .i64 0,.int .i64 0,.int .i64 0,.int .i64 0] 43
 have hb:=Lib.hid ia.1
 replace ia:=ia.on BW
 replace ib:=ib.on BW
 obtain ⟨s1,hs1⟩ : ∃ s1,w.heap.size + 1 = s1:=⟨_,rfl⟩
 obtain ⟨s0,hs0⟩ : ∃ s0,w.heap.size = s0:=⟨_,rfl⟩
 have hle : s0 ≤ s1:=by omega
 have hne : s0 ≠ s1:=by omega
 rw [e1]
 clear e1
 rw [hs1] at ZR ⊢
 rw [hs0] at z0 BW hb ⊢
 have H0:=Lib.hid hs0
 clear hs0
 have hb0 : b0 ≠ s0:=by have:=hb.out; omega
 obtain ⟨a0,a1,a2,a3⟩:=z0.zo4
 go_wp2_with fail
 refine (zbO k (a : Int) (b : Int) c _).mono ?_
 rintro en w2 ⟨gy,mu,rfl,_,HMU,_,_,b'⟩
 obtain rfl : mu = 2:=HMU.out.trans HMK.out
 clear HMU a0 a1 a2 a3
 replace ia:=ia.on b'
 replace ib:=ib.on b'
 replace z0:=z0.below b' z0.lt
 replace ZR:=ZR.below b' ZR.lt
 replace BW:=BW.trans (b'.mono (Nat.le_trans (Nat.le_of_eq H0.out.symm) BW.size))
 clear b'
 obtain ⟨a0,a1,a2,a3⟩:=z0.zo4
 have mx:=ia.2
 have fx:=z0.free 1
 go_upto_region 4 with fail
 clear a0 a1 a2 a3 mx fx
 replace z0:=z0.put 1 (.int .i64 za)
 replace ZR:=ZR.apart hne.symm 1 (.int .i64 za)
 replace BW:=BW.setCell (p:=⟨s0,1,none⟩) (Nat.le_refl _) (.int .i64 za)
 replace ib : IAt (w2.setCell ⟨s0,1,none⟩ (.int .i64 za)) b0 (off + b) zb:=ib.apart hb0 1 (.int .i64 za)
 obtain ⟨w3,e_w⟩ : ∃ w',w2.setCell ⟨s0,1,none⟩ (.int .i64 za) = w':=⟨_,rfl⟩
 rw [e_w] at z0 ZR BW ib ⊢
 clear e_w
 replace z0 : Own _ s0 43 [.int .i64 k,.int .i64 za,.int .i64 (b : Int),.int .i64 c]:=z0
 obtain ⟨a0,a1,a2,a3⟩:=z0.zo4
 have mx:=ib.2
 have fx:=z0.free 2
 go_upto_region 6 with fail
 clear a0 a1 a2 a3 mx fx
 replace z0:=z0.put 2 (.int .i64 zb)
 replace ZR:=ZR.apart hne.symm 2 (.int .i64 zb)
 replace BW:=BW.setCell (p:=⟨s0,2,none⟩) (Nat.le_refl _) (.int .i64 zb)
 obtain ⟨w4,e_w⟩ : ∃ w',w3.setCell ⟨s0,2,none⟩ (.int .i64 zb) = w':=⟨_,rfl⟩
 rw [e_w] at z0 ZR BW  ⊢
 clear e_w
 replace z0 : Own _ s0 43 [.int .i64 k,.int .i64 za,.int .i64 zb,.int .i64 c]:=z0
 obtain ⟨a0,a1,a2,a3⟩:=z0.zo4
 go_wp2_with fail
 refine (zdO ⟨k,za,zb,c⟩ _).mono ?_
 rintro en w7 ⟨rfl,b'⟩
 clear a0 a1 a2 a3
 replace ZR:=ZR.below b' ZR.lt
 replace BW:=BW.trans (b'.mono (Nat.le_trans (Nat.le_of_eq H0.out.symm) BW.size))
 clear b'
 obtain ⟨⟨y1,y2,y3,y4⟩,hy⟩ : ∃ y,keyS ⟨k,za,zb,c⟩ = y:=⟨_,rfl⟩
 rw [hy]
 unfold ndA
 dsimp only
 obtain ⟨p0,f0,p1,f1,p2,f2,p3,f3⟩:=ZR.zoc0f0c1f1c2f2c3f3
 go_wp2_with fail
 have VR:=ZR.p4' (.int .i64 y1) (.int .i64 y2) (.int .i64 y3) (.int .i64 y4)
 obtain ⟨q0,q1,q2,q3⟩:=VR.zo4
 refine bodyPost_ret (v:=.agg #[.int .i64 y1,.int .i64 y2,.int .i64 y3,.int .i64 y4]) (by simp [results,Try.results91,go_sem,q0,q1,q2,q3]) rfl ⟨by rw [hy]; rfl,by (try rw [H0.out]); exact (BW.s4' hle)⟩
set_option maxRecDepth 20000 in
set_option maxHeartbeats 4000000 in
theorem rby_3 {w : World} {n b0 off cc : Nat} (k : Int) (hk : zau k = 3) (a b c : Nat) (za zb zc : Int) (ha : a < n) (ia : IAt w b0 (off + a) za) (hb : b < n) (ib : IAt w b0 (off + b) zb) (hc : c < n) (ic : IAt w b0 (off + c) zc) : Calls Try.prog 91 #[.agg #[.int .i64 k,.int .i64 (a : Int),.int .i64 (b : Int),.int .i64 (c : Int)],.slice (some ⟨b0,off,none⟩) n cc] w fun e w' => e = .returned (ndA (keyS ⟨k,za,zb,zc⟩)) ∧ Below w.heap.size w w':=by
 have ha1 : (a : Int) < (n : Int):=by omega
 have ha0 : (0 : Int) ≤ (a : Int):=by omega
 clear ha
 have hb1 : (b : Int) < (n : Int):=by omega
 have H0 : (0 : Int) ≤ (b : Int):=by omega
 clear hb
 have hc1 : (c : Int) < (n : Int):=by omega
 have hc0 : (0 : Int) ≤ (c : Int):=by omega
 clear hc
 have HMK:=Lib.hid hk
 clear hk
 go_enter Try.func91,Try.ntmps91
 go_upto_region 1 with fail
 obtain ⟨w1,e1,z0,ZR,BW⟩:=zmE w [.int .i64 k,.int .i64 (a : Int),.int .i64 (b : Int),.int .i64 (c : Int)] 43 [.int .i64 0,.int .i64 0,.int .i64 0,.int .i64 0] 43
 have hb:=Lib.hid ia.1
 replace ia:=ia.on BW
 replace ib:=ib.on BW
 replace ic:=ic.on BW
 obtain ⟨s1,hs1⟩ : ∃ s1,w.heap.size + 1 = s1:=⟨_,rfl⟩
 obtain ⟨s0,hs0⟩ : ∃ s0,w.heap.size = s0:=⟨_,rfl⟩
 have hle : s0 ≤ s1:=by omega
 have H1 : s0 ≠ s1:=by omega
 rw [e1]
 clear e1
 rw [hs1] at ZR ⊢
 rw [hs0] at z0 BW hb ⊢
 have H2:=Lib.hid hs0
 clear hs0
 have H0 : b0 ≠ s0:=by have:=hb.out; omega
 obtain ⟨a0,a1,a2,a3⟩:=z0.zo4
 go_wp2_with fail
 refine (zbO k (a : Int) (b : Int) (c : Int) _).mono ?_
 rintro en w2 ⟨gy,mu,rfl,_,HMU,_,_,b'⟩
 obtain rfl : mu = 3:=HMU.out.trans HMK.out
 clear HMU a0 a1 a2 a3
 replace ia:=ia.on b'
 replace ib:=ib.on b'
 replace ic:=ic.on b'
 replace z0:=z0.below b' z0.lt
 replace ZR:=ZR.below b' ZR.lt
 replace BW:=BW.trans (b'.mono (Nat.le_trans (Nat.le_of_eq H2.out.symm) BW.size))
 clear b'
 obtain ⟨a0,a1,a2,a3⟩:=z0.zo4
 have mx:=ia.2
 have fx:=z0.free 1
 go_upto_region 4 with fail
 clear a0 a1 a2 a3 mx fx
 replace z0:=z0.put 1 (.int .i64 za)
 replace ZR:=ZR.apart H1.symm 1 (.int .i64 za)
 replace BW:=BW.setCell (p:=⟨s0,1,none⟩) (Nat.le_refl _) (.int .i64 za)
 replace ib : IAt (w2.setCell ⟨s0,1,none⟩ (.int .i64 za)) b0 (off + b) zb:=ib.apart H0 1 (.int .i64 za)
 replace ic : IAt (w2.setCell ⟨s0,1,none⟩ (.int .i64 za)) b0 (off + c) zc:=ic.apart H0 1 (.int .i64 za)
 obtain ⟨w3,e_w⟩ : ∃ w',w2.setCell ⟨s0,1,none⟩ (.int .i64 za) = w':=⟨_,rfl⟩
 rw [e_w] at z0 ZR BW ib ic ⊢
 clear e_w
 replace z0 : Own _ s0 43 [.int .i64 k,.int .i64 za,.int .i64 (b : Int),.int .i64 (c : Int)]:=z0
 obtain ⟨a0,a1,a2,a3⟩:=z0.zo4
 have mx:=ib.2
 have fx:=z0.free 2
 go_upto_region 6 with fail
 clear a0 a1 a2 a3 mx fx
 replace z0:=z0.put 2 (.int .i64 zb)
 replace ZR:=ZR.apart H1.symm 2 (.int .i64 zb)
 replace BW:=BW.setCell (p:=⟨s0,2,none⟩) (Nat.le_refl _) (.int .i64 zb)
 replace ic : IAt (w3.setCell ⟨s0,2,none⟩ (.int .i64 zb)) b0 (off + c) zc:=ic.apart H0 2 (.int .i64 zb)
 obtain ⟨w4,e_w⟩ : ∃ w',w3.setCell ⟨s0,2,none⟩ (.int .i64 zb) = w':=⟨_,rfl⟩
 rw [e_w] at z0 ZR BW ic ⊢
 clear e_w
 replace z0 : Own _ s0 43 [.int .i64 k,.int .i64 za,.int .i64 zb,.int .i64 (c : Int)]:=z0
 obtain ⟨a0,a1,a2,a3⟩:=z0.zo4
 have mx:=ic.2
 have fx:=z0.free 3
 go_upto_region 8 with fail
 clear a0 a1 a2 a3 mx fx
 replace z0:=z0.put 3 (.int .i64 zc)
 replace ZR:=ZR.apart H1.symm 3 (.int .i64 zc)
 replace BW:=BW.setCell (p:=⟨s0,3,none⟩) (Nat.le_refl _) (.int .i64 zc)
 obtain ⟨w5,e_w⟩ : ∃ w',w4.setCell ⟨s0,3,none⟩ (.int .i64 zc) = w':=⟨_,rfl⟩
 rw [e_w] at z0 ZR BW  ⊢
 clear e_w
 replace z0 : Own _ s0 43 [.int .i64 k,.int .i64 za,.int .i64 zb,.int .i64 zc]:=z0
 obtain ⟨a0,a1,a2,a3⟩:=z0.zo4
 go_wp2_with fail
 refine (zdO ⟨k,za,zb,zc⟩ _).mono ?_
 rintro en w7 ⟨rfl,b'⟩
 clear a0 a1 a2 a3
 replace ZR:=ZR.below b' ZR.lt
 replace BW:=BW.trans (b'.mono (Nat.le_trans (Nat.le_of_eq H2.out.symm) BW.size))
 clear b'
 obtain ⟨⟨y1,y2,y3,y4⟩,hy⟩ : ∃ y,keyS ⟨k,za,zb,zc⟩ = y:=⟨_,rfl⟩
 rw [hy]
 unfold ndA
 dsimp only
 obtain ⟨p0,f0,p1,f1,p2,f2,p3,f3⟩:=ZR.zoc0f0c1f1c2f2c3f3
 go_wp2_with fail
 have VR:=ZR.p4' (.int .i64 y1) (.int .i64 y2) (.int .i64 y3) (.int .i64 y4)
 obtain ⟨q0,q1,q2,q3⟩:=VR.zo4
 refine bodyPost_ret (v:=.agg #[.int .i64 y1,.int .i64 y2,.int .i64 y3,.int .i64 y4]) (by simp [results,Try.results91,go_sem,q0,q1,q2,q3]) rfl ⟨by rw [hy]; rfl,by (try rw [H2.out]); exact (BW.s4' hle)⟩
theorem rby_as {w : World} {A : Option Addr} {n cc : Nat} {S : List Int} (hS : Is w A n S) {x : Nd} (hx : Plc n (zag x)) : Calls Try.prog 91 #[ndA x,.slice A n cc] w fun e w' => e = .returned (ndA (keyS (mvN S x))) ∧ Below w.heap.size w w':=by
 obtain ⟨k,a,b,c⟩:=x
 have h3 : zau k = 0 ∨ zau k = 1 ∨ zau k = 2 ∨ zau k = 3:=by have:=zbM k; omega
 rcases h3 with e | e | e | e
 ·rw [mv_m0 (x:=⟨k,a,b,c⟩) e]
  exact rby_0 k e a b c
 ·obtain ⟨m,rfl,hm⟩:=hx a (by rw [zbt,e]; simp)
  obtain ⟨b0,off,eA,i⟩:=hS.iat hm
  subst eA
  rw [mv_m1 (x:=⟨k,(m : Int),b,c⟩) e,zaS]
  exact rby_1 k e m b c _ hm i
 ·obtain ⟨m,rfl,hm⟩:=hx a (by rw [zbt,e]; simp)
  obtain ⟨m2,rfl,hm2⟩:=hx b (by rw [zbt,e]; simp)
  obtain ⟨b0,off,eA,i⟩:=hS.iat hm
  subst eA
  obtain ⟨b1,off1,eA,i2⟩:=hS.iat hm2
  injection eA with eA
  injection eA with ea eb
  subst ea eb
  rw [mv_m2 (x:=⟨k,(m : Int),(m2 : Int),c⟩) e,zaS,zaS]
  exact rby_2 k e m m2 c _ _ hm i hm2 i2
 obtain ⟨m,rfl,hm⟩:=hx a (by rw [zbt,e]; simp)
 obtain ⟨m2,rfl,hm2⟩:=hx b (by rw [zbt,e]; simp)
 obtain ⟨m3,rfl,hm3⟩:=hx c (by rw [zbt,e]; simp)
 obtain ⟨b0,off,eA,i⟩:=hS.iat hm
 subst eA
 obtain ⟨b1,off1,eA,i2⟩:=hS.iat hm2
 injection eA with eA
 injection eA with ea eb
 subst ea eb
 obtain ⟨b2,off2,eA,i3⟩:=hS.iat hm3
 injection eA with eA
 injection eA with ea eb
 subst ea eb
 rw [mv_m3 (x:=⟨k,(m : Int),(m2 : Int),(m3 : Int)⟩) e,zaS,zaS,zaS]
 exact rby_3 k e m m2 m3 _ _ _ hm i hm2 i2 hm3 i3
end Go.Proofs.Ytcehklnonhalhaa
