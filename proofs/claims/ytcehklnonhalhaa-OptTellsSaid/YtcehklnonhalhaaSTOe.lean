/-
  What the proofs of OptTells need: Oe Of Og.
-/
import Derived.Test.YtcehklnonhalhaaSTOc
set_option linter.unusedVariables false
namespace Go.Proofs.Ytcehklnonhalhaa
set_option maxRecDepth 4000
theorem lx_mk {N : List Nd} {I O : List Pt} {dd L : List Nat} (hw : zaU N I O = 0) (hlv : levS N = some dd) (ho : ordO (some dd) = nI L) : LvN N I O dd L:=by
 have hl : zaB N I O = (some dd,0):=by
  unfold zaB
  rw [hw,hlv]
  rfl
 obtain ⟨L',lx⟩:=lv_x hl
 obtain rfl:=nI_inj (lx.ord.symm.trans ho)
 exact lx
def t12 : Tn:=⟨[⟨0,0,0,0⟩,⟨1,0,0,0⟩,⟨2,0,0,0⟩,⟨3,1,2,0⟩],[⟨⟨#[97]⟩,[1]⟩],[⟨⟨#[122]⟩,[3]⟩]⟩
def u12 : Tn:=⟨[⟨0,0,0,0⟩,⟨1,0,0,0⟩,⟨0,1,0,0⟩,⟨3,1,2,0⟩],[⟨⟨#[97]⟩,[1]⟩],[⟨⟨#[122]⟩,[1]⟩]⟩
def v12 : Tn:=⟨[⟨1,0,0,0⟩],[⟨⟨#[97]⟩,[0]⟩],[⟨⟨#[122]⟩,[0]⟩]⟩
theorem lv_t12 : levS t12.N = some [0,0,1,2]:=by
 have h : All t12.N (fun i => [0,0,1,2].getD i 0):=by
  intro i hi
  have hi : i < 4:=hi
  rcases (show i = 0 ∨ i = 1 ∨ i = 2 ∨ i = 3 by omega) with rfl | rfl | rfl | rfl
  all_goals exact ⟨_,rfl,by decide,by decide⟩
 rw [zc5 h]
 rfl
theorem lv_u12 : levS u12.N = some [0,0,0,1]:=by
 have h : All u12.N (fun i => [0,0,0,1].getD i 0):=by
  intro i hi
  have hi : i < 4:=hi
  rcases (show i = 0 ∨ i = 1 ∨ i = 2 ∨ i = 3 by omega) with rfl | rfl | rfl | rfl
  all_goals exact ⟨_,rfl,by decide,by decide⟩
 rw [zc5 h]
 rfl
theorem lv_v12 : levS v12.N = some [0]:=by
 have h : All v12.N (fun i => [0].getD i 0):=by
  intro i hi
  have hi : i < 1:=hi
  obtain rfl : i = 0:=by omega
  exact ⟨_,rfl,by decide,by decide⟩
 rw [zc5 h]
 rfl
theorem lx_t12 : LvN t12.N t12.I t12.O [0,0,1,2] [0,1,2,3]:=lx_mk (by decide +kernel) lv_t12 (by decide +kernel)
theorem lx_u12 : LvN u12.N u12.I u12.O [0,0,0,1] [0,1,2,3]:=lx_mk (by decide +kernel) lv_u12 (by decide +kernel)
theorem lx_v12 : LvN v12.N v12.I v12.O [0] [0]:=lx_mk (by decide +kernel) lv_v12 (by decide +kernel)
theorem fold_t12 : za3 t12 = (u12,2):=by
 unfold za3
 rw [zbH lx_t12]
 kernel_rfl
theorem share_u12 : zaA u12 = (u12,0):=by
 unfold zaA
 rw [zbH lx_u12]
 kernel_rfl
theorem bits_u12 : zb5 u12 = [false,true,false,false]:=by
 refine zdW ⟨_,_,lx_u12⟩ rfl fun p => ?_
 constructor
 ·intro h
  have e : p = 1:=by
   rcases p with _ | _ | _ | _ | p
   ·cases h
   ·rfl
   ·cases h
   ·cases h
   cases h
  subst e
  exact .base (by decide)
 intro h
 have e : p = 1:=h.closed (G:=fun p => p = 1) (fun q hq => by
  have : (q : Int) = 1:=by simpa [zah,u12] using hq
  omega) fun q hq y hy => by
   subst hq
   have e : zag (u12.N.getD 1 nd0) = []:=rfl
   rw [e] at hy
   cases hy
 subst e
 rfl
theorem sweep_u12 : zao u12 = (v12,3):=by
 unfold zao placT
 rw [bits_u12]
 kernel_rfl
theorem fold_v12 : za3 v12 = (v12,0):=by
 unfold za3
 rw [zbH lx_v12]
 kernel_rfl
theorem share_v12 : zaA v12 = (v12,0):=by
 unfold zaA
 rw [zbH lx_v12]
 kernel_rfl
theorem bits_v12 : zb5 v12 = [true]:=by
 refine zdW ⟨_,_,lx_v12⟩ rfl fun p => ?_
 constructor
 ·intro h
  have e : p = 0:=by
   rcases p with _ | p
   ·rfl
   cases h
  subst e
  exact .base (by decide)
 intro h
 have e : p = 0:=h.closed (G:=fun p => p = 0) (fun q hq => by
  have : (q : Int) = 0:=by simpa [zah,v12] using hq
  omega) fun q hq y hy => by
   subst hq
   have e : zag (v12.N.getD 0 nd0) = []:=rfl
   rw [e] at hy
   cases hy
 subst e
 rfl
theorem sweep_v12 : zao v12 = (v12,0):=by
 unfold zao placT
 rw [bits_v12]
 kernel_rfl
theorem rnd_t12 : zaq true true true t12 = (v12,(2,0,3)):=by
 simp only [zaq,zcl,fold_t12,share_u12,sweep_u12]
theorem rnd_v12 : zaq true true true v12 = (v12,(0,0,0)):=by
 simp only [zaq,zcl,fold_v12,share_v12,sweep_v12]
theorem it1_t12 : itT true true true t12 1 = (v12,(2,0,3)):=by
 show ((zaq true true true t12).1,(0 + (zaq true true true t12).2.1,0 + (zaq true true true t12).2.2.1,0 + (zaq true true true t12).2.2.2)) = _
 rw [rnd_t12]
 rfl
theorem it2_t12 : itT true true true t12 2 = (v12,(2,0,3)):=by
 have e : itT true true true t12 2 = ((zaq true true true (itT true true true t12 1).1).1,((itT true true true t12 1).2.1 + (zaq true true true (itT true true true t12 1).1).2.1,(itT true true true t12 1).2.2.1 + (zaq true true true (itT true true true t12 1).1).2.2.1,(itT true true true t12 1).2.2.2 + (zaq true true true (itT true true true t12 1).1).2.2.2)):=rfl
 rw [e,it1_t12,rnd_v12]
 rfl
theorem end_t12 : EndK true true true t12 2:=⟨by omega,by omega,fun j hj => by
 obtain rfl : j = 0:=by omega
 rw [it1_t12]
 intro h
 have : v12.N.length = t12.N.length:=congrArg (fun t : Tn => t.N.length) h
 exact absurd this (by decide),.inr ⟨1,rfl,by rw [it2_t12,it1_t12]⟩⟩
theorem end_none (t : Tn) : EndK false false false t 1 ∧ itT false false false t 1 = (t,(0,0,0)):=⟨⟨by omega,by omega,fun j hj => by omega,.inr ⟨0,rfl,rfl⟩⟩,rfl⟩
open Go.RowKit
set_option maxRecDepth 20000 in
set_option maxHeartbeats 8000000 in
theorem awake12_any (w : World) : Calls Try.prog 34 #[] w fun en w' => en = .returned (.bool true) ∧ Below w.heap.size w w':=by
 go_enter Try.func34,Try.ntmps34
 go_upto_region 2 with fail
 obtain ⟨w1,e_w1,b,hs_w1,xn⟩:=zmD w [.int .i64 0,.int .i64 0,.int .i64 0,.int .i64 0,.int .i64 1,.int .i64 0,.int .i64 0,.int .i64 0,.int .i64 2,.int .i64 0,.int .i64 0,.int .i64 0,.int .i64 3,.int .i64 1,.int .i64 2,.int .i64 0] 43
 rw [e_w1]
 clear e_w1
 have BW:=b
 clear b
 obtain ⟨w2,e_w2⟩ : ∃ w',w1.alloc (.cells #[.int .i64 1] 3) = w':=⟨_,rfl⟩
 have b : Below w1.heap.size w1 w2:=e_w2 ▸ zaa _ _
 have H3 : w2.heap.size = (w.heap.size + 1) + 1:=e_w2 ▸ zal w1 _ hs_w1
 have xa : Bx w2 (w.heap.size + 1) [.int .i64 1]:=e_w2 ▸ Bx.made_k w1 hs_w1 #[.int .i64 1] 3
 rw [e_w2]
 clear e_w2
 replace xn:=xn.on b
 replace BW:=Below.step BW b
 clear b
 obtain ⟨w3,e_w3⟩ : ∃ w',w2.alloc (.cells #[.string ⟨#[97]⟩,.slice (some ⟨(w.heap.size + 1),0,none⟩) 1 1] 41) = w':=⟨_,rfl⟩
 have b : Below w2.heap.size w2 w3:=e_w3 ▸ zaa _ _
 have H2 : w3.heap.size = ((w.heap.size + 1) + 1) + 1:=e_w3 ▸ zal w2 _ H3
 have xi : Bx w3 ((w.heap.size + 1) + 1) [.string ⟨#[97]⟩,.slice (some ⟨(w.heap.size + 1),0,none⟩) 1 1]:=e_w3 ▸ Bx.made_k w2 H3 #[.string ⟨#[97]⟩,.slice (some ⟨(w.heap.size + 1),0,none⟩) 1 1] 41
 rw [e_w3]
 clear e_w3
 replace xn:=xn.on b
 replace xa:=xa.on b
 replace BW:=Below.step BW b
 clear b
 obtain ⟨w4,e_w4⟩ : ∃ w',w3.alloc (.cells #[.int .i64 3] 3) = w':=⟨_,rfl⟩
 have b : Below w3.heap.size w3 w4:=e_w4 ▸ zaa _ _
 have H1 : w4.heap.size = (((w.heap.size + 1) + 1) + 1) + 1:=e_w4 ▸ zal w3 _ H2
 have xb : Bx w4 (((w.heap.size + 1) + 1) + 1) [.int .i64 3]:=e_w4 ▸ Bx.made_k w3 H2 #[.int .i64 3] 3
 rw [e_w4]
 clear e_w4
 replace xn:=xn.on b
 replace xa:=xa.on b
 replace xi:=xi.on b
 replace BW:=Below.step BW b
 clear b
 obtain ⟨w5,e_w5⟩ : ∃ w',w4.alloc (.cells #[.string ⟨#[122]⟩,.slice (some ⟨(((w.heap.size + 1) + 1) + 1),0,none⟩) 1 1] 41) = w':=⟨_,rfl⟩
 have b : Below w4.heap.size w4 w5:=e_w5 ▸ zaa _ _
 have H0 : w5.heap.size = ((((w.heap.size + 1) + 1) + 1) + 1) + 1:=e_w5 ▸ zal w4 _ H1
 have xo : Bx w5 ((((w.heap.size + 1) + 1) + 1) + 1) [.string ⟨#[122]⟩,.slice (some ⟨(((w.heap.size + 1) + 1) + 1),0,none⟩) 1 1]:=e_w5 ▸ Bx.made_k w4 H1 #[.string ⟨#[122]⟩,.slice (some ⟨(((w.heap.size + 1) + 1) + 1),0,none⟩) 1 1] 41
 rw [e_w5]
 clear e_w5
 replace xn:=xn.on b
 replace xa:=xa.on b
 replace xi:=xi.on b
 replace xb:=xb.on b
 replace BW:=Below.step BW b
 clear b
 obtain ⟨w6,e_w6⟩ : ∃ w',w5.alloc (.cells #[.slice (some ⟨w.heap.size,0,none⟩) 4 4,.slice (some ⟨((w.heap.size + 1) + 1),0,none⟩) 1 1,.slice (some ⟨((((w.heap.size + 1) + 1) + 1) + 1),0,none⟩) 1 1] 25) = w':=⟨_,rfl⟩
 have b : Below w5.heap.size w5 w6:=e_w6 ▸ zaa _ _
 have Hb : w6.heap.size = (((((w.heap.size + 1) + 1) + 1) + 1) + 1) + 1:=e_w6 ▸ zal w5 _ H0
 have zn : Bx w6 (((((w.heap.size + 1) + 1) + 1) + 1) + 1) [.slice (some ⟨w.heap.size,0,none⟩) 4 4,.slice (some ⟨((w.heap.size + 1) + 1),0,none⟩) 1 1,.slice (some ⟨((((w.heap.size + 1) + 1) + 1) + 1),0,none⟩) 1 1]:=e_w6 ▸ Bx.made_k w5 H0 #[.slice (some ⟨w.heap.size,0,none⟩) 4 4,.slice (some ⟨((w.heap.size + 1) + 1),0,none⟩) 1 1,.slice (some ⟨((((w.heap.size + 1) + 1) + 1) + 1),0,none⟩) 1 1] 25
 rw [e_w6]
 clear e_w6
 replace xn:=xn.on b
 replace xa:=xa.on b
 replace xi:=xi.on b
 replace xb:=xb.on b
 replace xo:=xo.on b
 replace BW:=Below.step BW b
 clear b
 have h : Nt w6 (some ⟨w.heap.size,0,none⟩) 4 4 (some ⟨((w.heap.size + 1) + 1),0,none⟩) 1 1 (some ⟨((((w.heap.size + 1) + 1) + 1) + 1),0,none⟩) 1 1 t12.N t12.I t12.O:=⟨Bx.ns (L:=t12.N) xn,xi.ps1 (Bx.is (L:=[1]) xa) ⟨by omega,fun e => by cases e⟩ (by unfold maxLen; omega),xo.ps1 (Bx.is (L:=[3]) xb) ⟨by omega,fun e => by cases e⟩ (by unfold maxLen; omega),Sw.one _ _ (by omega),Sw.one _ _ (by omega),by omega,by omega,fun p hp => by simp [t12] at hp; rcases hp with rfl | rfl <;> simp⟩
 clear xn xa xi xb xo
 clear hs_w1 H3 H2 H1 H0 Hb
 obtain ⟨a5,ha5⟩ : ∃ a,(((((w.heap.size + 1) + 1) + 1) + 1) + 1) = a:=⟨_,rfl⟩
 rw [ha5] at zn ⊢
 clear ha5
 obtain ⟨a4,ha4⟩ : ∃ a,((((w.heap.size + 1) + 1) + 1) + 1) = a:=⟨_,rfl⟩
 rw [ha4] at h zn ⊢
 clear ha4
 obtain ⟨a3,ha3⟩ : ∃ a,(((w.heap.size + 1) + 1) + 1) = a:=⟨_,rfl⟩
 rw [ha3] at ⊢
 clear ha3
 obtain ⟨a2,ha2⟩ : ∃ a,((w.heap.size + 1) + 1) = a:=⟨_,rfl⟩
 rw [ha2] at h zn ⊢
 clear ha2
 obtain ⟨a1,ha1⟩ : ∃ a,(w.heap.size + 1) = a:=⟨_,rfl⟩
 rw [ha1] at ⊢
 clear ha1
 obtain ⟨znc0,znc1,znc2⟩:=zn.zb3
 go_wp2_with fail
 refine (opt_yes (t:=t12) (f:=true) (s:=true) (x:=true) h (Sw.one _ _ (by omega)) (by omega) (by omega) (fun p hp => by simp [t12] at hp; rcases hp with rfl | rfl <;> simp) ⟨_,_,lx_t12⟩ (by omega) (by omega) ⟨rfl,rfl,rfl⟩).mono ?_
 rintro en w7 ⟨⟨kr,Bk,k,ck,Bi,di,Bo,do',rfl,hend,hf,_,_⟩,b⟩
 clear znc0 znc1 znc2
 replace zn:=zn.on b
 replace h:=h.on b
 replace BW:=Below.step BW b
 clear b
 obtain rfl : kr = 2:=hend.eq end_t12
 rw [it2_t12] at hf ⊢
 dsimp only
 rw [show ((2 : Nat) : Int) = 2 from rfl,show ((0 : Nat) : Int) = 0 from rfl,show ((3 : Nat) : Int) = 3 from rfl]
 obtain rfl : 1 = k:=hf.n.1
 clear hend
 go_upto_region 3 with fail
 obtain ⟨w8,e_w8,b,hs_w8,zf⟩:=zmD w7 [.slice Bk 1 ck,.slice Bi 1 di,.slice Bo 1 do'] 25
 rw [e_w8]
 clear e_w8
 replace zn:=zn.on b
 replace h:=h.on b
 replace hf:=hf.on b
 replace BW:=Below.step BW b
 clear b
 obtain ⟨w9,e_w9⟩ : ∃ w',w8.alloc (.cells #[.int .i64 2,.int .i64 2,.int .i64 0,.int .i64 3] 57) = w':=⟨_,rfl⟩
 have b : Below w8.heap.size w8 w9:=e_w9 ▸ zaa _ _
 have Ha : w9.heap.size = (w7.heap.size + 1) + 1:=e_w9 ▸ zal w8 _ hs_w8
 have zr : Bx w9 (w7.heap.size + 1) [.int .i64 2,.int .i64 2,.int .i64 0,.int .i64 3]:=e_w9 ▸ Bx.made_k w8 hs_w8 #[.int .i64 2,.int .i64 2,.int .i64 0,.int .i64 3] 57
 rw [e_w9]
 clear e_w9
 replace zn:=zn.on b
 replace h:=h.on b
 replace hf:=hf.on b
 replace zf:=zf.on b
 replace BW:=Below.step BW b
 clear b
 clear hs_w8 Ha
 obtain ⟨znc0,znc1,znc2⟩:=zn.zb3
 go_wp2_with fail
 refine (opt_arg (sw:=8) (.inr (by omega))).mono ?_
 rintro en w10 ⟨rfl,b⟩
 clear znc0 znc1 znc2
 replace zn:=zn.on b
 replace h:=h.on b
 replace hf:=hf.on b
 replace zf:=zf.on b
 replace zr:=zr.on b
 replace BW:=Below.step BW b
 clear b
 go_upto_region 4 with fail
 obtain ⟨w11,e_w11,b,hs_w11,zx⟩:=zmD w10 [.slice none 0 0,.slice none 0 0,.slice none 0 0] 25
 rw [e_w11]
 clear e_w11
 replace zn:=zn.on b
 replace h:=h.on b
 replace hf:=hf.on b
 replace zf:=zf.on b
 replace zr:=zr.on b
 replace BW:=Below.step BW b
 clear b
 obtain ⟨w12,e_w12⟩ : ∃ w',w11.alloc (.cells #[.int .i64 0,.int .i64 0,.int .i64 0,.int .i64 0] 57) = w':=⟨_,rfl⟩
 have b : Below w11.heap.size w11 w12:=e_w12 ▸ zaa _ _
 have H9 : w12.heap.size = (w10.heap.size + 1) + 1:=e_w12 ▸ zal w11 _ hs_w11
 have zy : Bx w12 (w10.heap.size + 1) [.int .i64 0,.int .i64 0,.int .i64 0,.int .i64 0]:=e_w12 ▸ Bx.made_k w11 hs_w11 #[.int .i64 0,.int .i64 0,.int .i64 0,.int .i64 0] 57
 rw [e_w12]
 clear e_w12
 replace zn:=zn.on b
 replace h:=h.on b
 replace hf:=hf.on b
 replace zf:=zf.on b
 replace zr:=zr.on b
 replace zx:=zx.on b
 replace BW:=Below.step BW b
 clear b
 clear hs_w11 H9
 clear zx zy
 obtain ⟨znc0,znc1,znc2⟩:=zn.zb3
 go_wp2_with fail
 refine (opt_yes (t:=t12) (f:=false) (s:=false) (x:=false) h (Sw.one _ _ (by omega)) (by omega) (by omega) (fun p hp => by simp [t12] at hp; rcases hp with rfl | rfl <;> simp) ⟨_,_,lx_t12⟩ (by omega) (by omega) ⟨rfl,rfl,rfl⟩).mono ?_
 rintro en w13 ⟨⟨kr,Ck,k,ck2,Ci,di2,Co,do2,rfl,hend,hg,_,_⟩,b⟩
 clear znc0 znc1 znc2
 replace zn:=zn.on b
 replace h:=h.on b
 replace hf:=hf.on b
 replace zf:=zf.on b
 replace zr:=zr.on b
 replace BW:=Below.step BW b
 clear b
 obtain rfl : kr = 1:=hend.eq (end_none t12).1
 rw [(end_none t12).2] at hg ⊢
 dsimp only
 rw [show ((1 : Nat) : Int) = 1 from rfl,show ((0 : Nat) : Int) = 0 from rfl]
 obtain rfl : 4 = k:=hg.n.1
 clear hend
 go_upto_region 5 with fail
 obtain ⟨w14,e_w14,b,hs_w14,zg⟩:=zmD w13 [.slice Ck 4 ck2,.slice Ci 1 di2,.slice Co 1 do2] 25
 rw [e_w14]
 clear e_w14
 replace zn:=zn.on b
 replace h:=h.on b
 replace hf:=hf.on b
 replace zf:=zf.on b
 replace zr:=zr.on b
 replace hg:=hg.on b
 replace BW:=Below.step BW b
 clear b
 obtain ⟨w15,e_w15⟩ : ∃ w',w14.alloc (.cells #[.int .i64 1,.int .i64 0,.int .i64 0,.int .i64 0] 57) = w':=⟨_,rfl⟩
 have b : Below w14.heap.size w14 w15:=e_w15 ▸ zaa _ _
 have H8 : w15.heap.size = (w13.heap.size + 1) + 1:=e_w15 ▸ zal w14 _ hs_w14
 have zs : Bx w15 (w13.heap.size + 1) [.int .i64 1,.int .i64 0,.int .i64 0,.int .i64 0]:=e_w15 ▸ Bx.made_k w14 hs_w14 #[.int .i64 1,.int .i64 0,.int .i64 0,.int .i64 0] 57
 rw [e_w15]
 clear e_w15
 replace zn:=zn.on b
 replace h:=h.on b
 replace hf:=hf.on b
 replace zf:=zf.on b
 replace zr:=zr.on b
 replace hg:=hg.on b
 replace zg:=zg.on b
 replace BW:=Below.step BW b
 clear b
 clear hs_w14 H8
 obtain ⟨zfc0,zfc1,zfc2⟩:=zf.zb3
 go_wp2_with fail
 clear zfc0 zfc1 zfc2
 obtain ⟨w16,e_w16,b,hs_w16,xn⟩:=zmD w15 [.int .i64 1,.int .i64 0,.int .i64 0,.int .i64 0] 43
 rw [e_w16]
 clear e_w16
 replace zn:=zn.on b
 replace h:=h.on b
 replace hf:=hf.on b
 replace zf:=zf.on b
 replace zr:=zr.on b
 replace hg:=hg.on b
 replace zg:=zg.on b
 replace zs:=zs.on b
 replace BW:=Below.step BW b
 clear b
 obtain ⟨w17,e_w17⟩ : ∃ w',w16.alloc (.cells #[.int .i64 0] 3) = w':=⟨_,rfl⟩
 have b : Below w16.heap.size w16 w17:=e_w17 ▸ zaa _ _
 have H6 : w17.heap.size = (w15.heap.size + 1) + 1:=e_w17 ▸ zal w16 _ hs_w16
 have xa : Bx w17 (w15.heap.size + 1) [.int .i64 0]:=e_w17 ▸ Bx.made_k w16 hs_w16 #[.int .i64 0] 3
 rw [e_w17]
 clear e_w17
 replace zn:=zn.on b
 replace h:=h.on b
 replace hf:=hf.on b
 replace zf:=zf.on b
 replace zr:=zr.on b
 replace hg:=hg.on b
 replace zg:=zg.on b
 replace zs:=zs.on b
 replace xn:=xn.on b
 replace BW:=Below.step BW b
 clear b
 obtain ⟨w18,e_w18⟩ : ∃ w',w17.alloc (.cells #[.string ⟨#[97]⟩,.slice (some ⟨(w15.heap.size + 1),0,none⟩) 1 1] 41) = w':=⟨_,rfl⟩
 have b : Below w17.heap.size w17 w18:=e_w18 ▸ zaa _ _
 have H5 : w18.heap.size = ((w15.heap.size + 1) + 1) + 1:=e_w18 ▸ zal w17 _ H6
 have xi : Bx w18 ((w15.heap.size + 1) + 1) [.string ⟨#[97]⟩,.slice (some ⟨(w15.heap.size + 1),0,none⟩) 1 1]:=e_w18 ▸ Bx.made_k w17 H6 #[.string ⟨#[97]⟩,.slice (some ⟨(w15.heap.size + 1),0,none⟩) 1 1] 41
 rw [e_w18]
 clear e_w18
 replace zn:=zn.on b
 replace h:=h.on b
 replace hf:=hf.on b
 replace zf:=zf.on b
 replace zr:=zr.on b
 replace hg:=hg.on b
 replace zg:=zg.on b
 replace zs:=zs.on b
 replace xn:=xn.on b
 replace xa:=xa.on b
 replace BW:=Below.step BW b
 clear b
 obtain ⟨w19,e_w19⟩ : ∃ w',w18.alloc (.cells #[.int .i64 0] 3) = w':=⟨_,rfl⟩
 have b : Below w18.heap.size w18 w19:=e_w19 ▸ zaa _ _
 have H4 : w19.heap.size = (((w15.heap.size + 1) + 1) + 1) + 1:=e_w19 ▸ zal w18 _ H5
 have xb : Bx w19 (((w15.heap.size + 1) + 1) + 1) [.int .i64 0]:=e_w19 ▸ Bx.made_k w18 H5 #[.int .i64 0] 3
 rw [e_w19]
 clear e_w19
 replace zn:=zn.on b
 replace h:=h.on b
 replace hf:=hf.on b
 replace zf:=zf.on b
 replace zr:=zr.on b
 replace hg:=hg.on b
 replace zg:=zg.on b
 replace zs:=zs.on b
 replace xn:=xn.on b
 replace xa:=xa.on b
 replace xi:=xi.on b
 replace BW:=Below.step BW b
 clear b
 obtain ⟨w20,e_w20⟩ : ∃ w',w19.alloc (.cells #[.string ⟨#[122]⟩,.slice (some ⟨(((w15.heap.size + 1) + 1) + 1),0,none⟩) 1 1] 41) = w':=⟨_,rfl⟩
 have b : Below w19.heap.size w19 w20:=e_w20 ▸ zaa _ _
 have H7 : w20.heap.size = ((((w15.heap.size + 1) + 1) + 1) + 1) + 1:=e_w20 ▸ zal w19 _ H4
 have xo : Bx w20 ((((w15.heap.size + 1) + 1) + 1) + 1) [.string ⟨#[122]⟩,.slice (some ⟨(((w15.heap.size + 1) + 1) + 1),0,none⟩) 1 1]:=e_w20 ▸ Bx.made_k w19 H4 #[.string ⟨#[122]⟩,.slice (some ⟨(((w15.heap.size + 1) + 1) + 1),0,none⟩) 1 1] 41
 rw [e_w20]
 clear e_w20
 replace zn:=zn.on b
 replace h:=h.on b
 replace hf:=hf.on b
 replace zf:=zf.on b
 replace zr:=zr.on b
 replace hg:=hg.on b
 replace zg:=zg.on b
 replace zs:=zs.on b
 replace xn:=xn.on b
 replace xa:=xa.on b
 replace xi:=xi.on b
 replace xb:=xb.on b
 replace BW:=Below.step BW b
 clear b
 have h2 : Nt w20 (some ⟨w15.heap.size,0,none⟩) 1 1 (some ⟨((w15.heap.size + 1) + 1),0,none⟩) 1 1 (some ⟨((((w15.heap.size + 1) + 1) + 1) + 1),0,none⟩) 1 1 v12.N v12.I v12.O:=⟨Bx.ns (L:=v12.N) xn,xi.ps1 (Bx.is (L:=[0]) xa) ⟨by omega,fun e => by cases e⟩ (by unfold maxLen; omega),xo.ps1 (Bx.is (L:=[0]) xb) ⟨by omega,fun e => by cases e⟩ (by unfold maxLen; omega),Sw.one _ _ (by omega),Sw.one _ _ (by omega),by omega,by omega,fun p hp => by simp [v12] at hp; rcases hp with rfl | rfl <;> simp⟩
 clear xn xa xi xb xo
 clear H7
 refine (zcI hf h2 true (zcH _ _ _)).mono ?_
 rintro en w21 ⟨rfl,b⟩
 replace zn:=zn.on b
 replace h:=h.on b
 replace hf:=hf.on b
 replace zf:=zf.on b
 replace zr:=zr.on b
 replace hg:=hg.on b
 replace zg:=zg.on b
 replace zs:=zs.on b
 replace BW:=Below.step BW b
 clear b
 clear h2
 clear hf
 obtain ⟨zrc0,zrc1,zrc2,zrc3⟩:=zr.zb4
 obtain ⟨zgc0,zgc1,zgc2⟩:=zg.zb3
 obtain ⟨znc0,znc1,znc2⟩:=zn.zb3
 go_wp2_with fail
 refine (zcI hg h true (zcH _ _ _)).mono ?_
 rintro en w22 ⟨rfl,b⟩
 clear zrc0 zrc1 zrc2 zrc3 zgc0 zgc1 zgc2 znc0 znc1 znc2
 replace zn:=zn.on b
 replace h:=h.on b
 replace zf:=zf.on b
 replace zr:=zr.on b
 replace hg:=hg.on b
 replace zg:=zg.on b
 replace zs:=zs.on b
 replace BW:=Below.step BW b
 clear b
 obtain ⟨zsc0,zsc1,zsc2,zsc3⟩:=zs.zb4
 go_wp2_with fail
 go_ret
 exact ⟨rfl,BW⟩
theorem NetIn.ntM {w : World} {An Ai Ao : Option Addr} {nn cn ni ci no co M : Nat} {N : List Nd} {I O : List Pt} (h : NetIn w An nn cn Ai ni ci Ao no co N I O) (hv : zaY nn ni no I O M = false) (hM : M ≤ 60) :
  Nt w An nn cn Ai ni ci Ao no co N I O ∧ nn ≤ 60 ∧ ni ≤ 66 ∧ no ≤ 66 ∧ ∀ p ∈ I ++ O,p.bits.length ≤ 4000 ∧ p.name.size ≤ 4000:=by
 have hl:=large_no hv h.i.1 h.o.1
 exact ⟨⟨h.n,h.i,h.o,h.si,h.so,by omega,by omega,fun p hp => by have:=(hl.2.2.2 p hp).1; omega⟩,by omega,hl.2⟩
end Go.Proofs.Ytcehklnonhalhaa
