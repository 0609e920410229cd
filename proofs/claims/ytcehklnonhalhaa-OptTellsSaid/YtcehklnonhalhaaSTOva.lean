/-
  What the proofs of OptTells need: Ova.
-/
import Derived.Test.YtcehklnonhalhaaSTOz
import Derived.Laws.StructEq
set_option linter.unusedVariables false
namespace Go.Proofs.Ytcehklnonhalhaa
open Go.RowKit
set_option maxRecDepth 20000 in
set_option maxHeartbeats 16000000 in
theorem ropt_arg {An Ai Ao : Option Addr} {nn cn ni ci no co : Nat} {t : Tn} {w : World} {sw : Int} (h : Nt w An nn cn Ai ni ci Ao no co t.N t.I t.O) (sn : Sw An nn cn) (hsw : sw < 0 ∨ 7 < sw) :
  Calls Try.prog 36 #[.agg #[.slice An nn cn,.slice Ai ni ci,.slice Ao no co],.int .i64 sw] w fun en w' => en = .returned (.tuple #[.agg #[.slice none 0 0,.slice none 0 0,.slice none 0 0],.agg #[.int .i64 0,.int .i64 0,.int .i64 0,.int .i64 0],.int .i64 1]) ∧ Below w.heap.size w w':=by
 have Hb:=Lib.hid (NtK.arg (t:=t) h)
 go_enter Try.func36,Try.ntmps36
 go_upto_region 2 with fail
 obtain ⟨w1,e1⟩ : ∃ w',(((w.alloc (.cells #[.slice An nn cn,.slice Ai ni ci,.slice Ao no co] 25)).alloc (.cells #[.slice none 0 0,.slice none 0 0,.slice none 0 0] 25)).alloc (.cells #[.int .i64 0,.int .i64 0,.int .i64 0,.int .i64 0] 60)).alloc (.cells #[.int .i64 0,.int .i64 0,.int .i64 0,.int .i64 0] 60) = w':=⟨_,rfl⟩
 have H8:=zal w (.cells #[.slice An nn cn,.slice Ai ni ci,.slice Ao no co] 25) rfl
 have H4:=zal _ (.cells #[.slice none 0 0,.slice none 0 0,.slice none 0 0] 25) H8
 have H3:=zal _ (.cells #[.int .i64 0,.int .i64 0,.int .i64 0,.int .i64 0] 60) H4
 have es4:=zal _ (.cells #[.int .i64 0,.int .i64 0,.int .i64 0,.int .i64 0] 60) H3
 have z2 : Own w1 w.heap.size 25 [.slice An nn cn,.slice Ai ni ci,.slice Ao no co]:=by
  rw [← e1]
  exact (((Own.made w 25 [.slice An nn cn,.slice Ai ni ci,.slice Ao no co]).below (zaa _ _) (by rw [H8]; omega)).below (zaa _ _) (by rw [H4]; omega)).below (zaa _ _) (by rw [H3]; omega)
 have z4 : Own w1 (w.heap.size + 1) 25 [.slice none 0 0,.slice none 0 0,.slice none 0 0]:=by
  have k:=Own.made (w.alloc (.cells #[.slice An nn cn,.slice Ai ni ci,.slice Ao no co] 25)) 25 [.slice none 0 0,.slice none 0 0,.slice none 0 0]
  rw [H8] at k
  rw [← e1]
  exact (k.below (zaa _ _) (by rw [H4]; omega)).below (zaa _ _) (by rw [H3]; omega)
 have z5 : Own w1 (w.heap.size + 1 + 1) 60 [.int .i64 0,.int .i64 0,.int .i64 0,.int .i64 0]:=by
  have k:=Own.made ((w.alloc (.cells #[.slice An nn cn,.slice Ai ni ci,.slice Ao no co] 25)).alloc (.cells #[.slice none 0 0,.slice none 0 0,.slice none 0 0] 25)) 60 [.int .i64 0,.int .i64 0,.int .i64 0,.int .i64 0]
  rw [H4] at k
  rw [← e1]
  exact k.below (zaa _ _) (by rw [H3]; omega)
 have z7 : Own w1 (w.heap.size + 1 + 1 + 1) 60 [.int .i64 0,.int .i64 0,.int .i64 0,.int .i64 0]:=by
  have k:=Own.made (((w.alloc (.cells #[.slice An nn cn,.slice Ai ni ci,.slice Ao no co] 25)).alloc (.cells #[.slice none 0 0,.slice none 0 0,.slice none 0 0] 25)).alloc (.cells #[.int .i64 0,.int .i64 0,.int .i64 0,.int .i64 0] 60)) 60 [.int .i64 0,.int .i64 0,.int .i64 0,.int .i64 0]
  rw [H3] at k
  rw [← e1]
  exact k
 have BW : Below w.heap.size w w1:=by rw [← e1]; exact Below.step (Below.step (zbu w _ _) (zaa _ _)) (zaa _ _)
 have H2 : w1.heap.size = w.heap.size + 1 + 1 + 1 + 1:=by rw [← e1]; exact es4
 rw [e1]
 clear e1 H8 H4 H3 es4
 obtain ⟨p7,hp7⟩ : ∃ p,w.heap.size + 1 + 1 + 1 = p:=⟨_,rfl⟩
 obtain ⟨p5,hp5⟩ : ∃ p,w.heap.size + 1 + 1 = p:=⟨_,rfl⟩
 obtain ⟨p4,hp4⟩ : ∃ p,w.heap.size + 1 = p:=⟨_,rfl⟩
 obtain ⟨s0,hs0⟩ : ∃ p,w.heap.size + 1 + 1 + 1 + 1 = p:=⟨_,rfl⟩
 have PP0 : PP w w.heap.size p4 p5 p7 s0:=⟨by omega,by omega,by omega,by omega,by omega,by omega,by omega,by omega,by omega,by omega,by omega,by omega,by omega,by omega⟩
 have H6:=Lib.hid PP0
 rw [hs0] at H2
 rw [hp7] at z7 ⊢
 rw [hp5] at z5 ⊢
 rw [hp4] at z4 ⊢
 have HS0:=Lib.hid H2
 have OS0 : OS w w1 w.heap.size p4 p5 p7 (fun b => w.heap.size ≤ b) An nn cn Ai ni ci Ao no co t [.int .i64 0,.int .i64 0,.int .i64 0,.int .i64 0]:=⟨z2,z4,z5,z7,Hb.out.on BW,sn,BW⟩
 clear hp7 hp5 hp4 hs0 PP0 z2 z4 z5 z7 BW H2 h
 have l0 : p7 < w1.heap.size:=OS0.z7.lt
 rcases (show decide (sw < 0) = true ∨ (decide (sw < 0) = false ∧ decide (7 < sw) = true) by simp; omega) with hd | ⟨hd,hd2⟩
 all_goals
  clear hsw
  go_upto_region 3 with fail
  have Ha : p7 ≠ p4:=H6.out.a47.symm
  have H7 : p7 ≠ p5:=H6.out.a57.symm
  have H1 : p4 ≠ p5:=H6.out.a45
  refine LexG.region_planU (KB3.ok p7 p7 p7) [2,3] [0,1,2,3,4] (h:=?_)
  dsimp only [LexG.pick,LexG.nth]
  have bd : Below w1.heap.size w1 w1.drew:=(Below.refl _ _).drew
  have H0:=Lib.hid (OS0.on bd)
  obtain ⟨w9,e9⟩ : ∃ w',w1.drew = w':=⟨_,rfl⟩
  rw [e9] at H0 ⊢
  clear e9 bd
  have lf0:=fun s' : LexG.Wd (KB3 p7 p7 p7) w9 => (show s'.w.cell? ⟨p7,0,none⟩ = some (Value.int .i64 0) from (zac s'.rel.1 0).trans (H0.out.z7.cell 0))
  have lf1:=fun s' : LexG.Wd (KB3 p7 p7 p7) w9 => (show s'.w.cell? ⟨p7,1,none⟩ = some (Value.int .i64 0) from (zac s'.rel.1 1).trans (H0.out.z7.cell 1))
  have lf2:=fun s' : LexG.Wd (KB3 p7 p7 p7) w9 => (show s'.w.cell? ⟨p7,2,none⟩ = some (Value.int .i64 0) from (zac s'.rel.1 2).trans (H0.out.z7.cell 2))
  have lf3:=fun s' : LexG.Wd (KB3 p7 p7 p7) w9 => (show s'.w.cell? ⟨p7,3,none⟩ = some (Value.int .i64 0) from (zac s'.rel.1 3).trans (H0.out.z7.cell 3))
  refine LexG.lexU_plain 2 (by kernel_rfl) (by kernel_rfl) ?_
  dsimp only [List.take,List.drop]
  repeat go_big_quiet_step (fail)
  refine wpQuiet_nil ?_
  clear lf0 lf1 lf2 lf3
  have f0:=H0.out.z4.free 0; have f1:=H0.out.z4.free 1; have f2:=H0.out.z4.free 2
  have g0 : _ = some (Value.slice none 0 0):=H0.out.z4.cell 0; have g1 : _ = some (Value.slice none 0 0):=H0.out.z4.cell 1; have g2 : _ = some (Value.slice none 0 0):=H0.out.z4.cell 2
  refine LexG.lexU_call (h:=fun K hK => ?_)
  go_simp
  have k7 : (((w9.setCell ⟨p4,0,none⟩ (.slice none 0 0)).setCell ⟨p4,1,none⟩ (.slice none 0 0)).setCell ⟨p4,2,none⟩ (.slice none 0 0)).heap[p7]? = w9.heap[p7]?:=by
   rw [Below.heap_setCell _ _ _ _ Ha,Below.heap_setCell _ _ _ _ Ha,Below.heap_setCell _ _ _ _ Ha]
  refine hK _ _ ⟨k7,k7,k7⟩ ?_
  clear hK K k7 f0 f1 f2 g0 g1 g2
  have Z4:=H0.out.z4.p3' (.slice none 0 0) (.slice none 0 0) (.slice none 0 0)
  have Z5:=((H0.out.z5.apart H1.symm 0 (.slice none 0 0)).apart H1.symm 1 (.slice none 0 0)).apart H1.symm 2 (.slice none 0 0)
  have B2:=H0.out.bl.e3' H6.out.w4 (.slice none 0 0) (.slice none 0 0) (.slice none 0 0)
  obtain ⟨w10,e10⟩ : ∃ w',(((w9.setCell ⟨p4,0,none⟩ (.slice none 0 0)).setCell ⟨p4,1,none⟩ (.slice none 0 0)).setCell ⟨p4,2,none⟩ (.slice none 0 0)) = w':=⟨_,rfl⟩
  rw [e10] at Z4 Z5 B2 ⊢
  clear e10 H0
  obtain ⟨f0,f1,f2,f3⟩:=Z5.zof0f1f2f3
  obtain ⟨g0,g1,g2,g3⟩:=Z5.zo4
  refine LexG.lexU_call (h:=fun K hK => ?_)
  go_simp
  have k7 : ((((w10.setCell ⟨p5,0,none⟩ (.int .i64 0)).setCell ⟨p5,1,none⟩ (.int .i64 0)).setCell ⟨p5,2,none⟩ (.int .i64 0)).setCell ⟨p5,3,none⟩ (.int .i64 0)).heap[p7]? = w10.heap[p7]?:=by
   rw [Below.heap_setCell _ _ _ _ H7,Below.heap_setCell _ _ _ _ H7,Below.heap_setCell _ _ _ _ H7,Below.heap_setCell _ _ _ _ H7]
  refine hK _ _ ⟨k7,k7,k7⟩ ?_
  clear hK K k7 f0 f1 f2 f3 g0 g1 g2 g3
  have H5:=Z5.p4' (.int .i64 0) (.int .i64 0) (.int .i64 0) (.int .i64 0)
  have H9:=(((Z4.apart H1 0 (.int .i64 0)).apart H1 1 (.int .i64 0)).apart H1 2 (.int .i64 0)).apart H1 3 (.int .i64 0)
  have B3:=B2.e4' H6.out.w5 (.int .i64 0) (.int .i64 0) (.int .i64 0) (.int .i64 0)
  obtain ⟨w11,e11⟩ : ∃ w',((((w10.setCell ⟨p5,0,none⟩ (.int .i64 0)).setCell ⟨p5,1,none⟩ (.int .i64 0)).setCell ⟨p5,2,none⟩ (.int .i64 0)).setCell ⟨p5,3,none⟩ (.int .i64 0)) = w':=⟨_,rfl⟩
  rw [e11] at H5 H9 B3 ⊢
  clear e11 Z4 Z5 B2
  refine LexG.lexU_plain 1 (by kernel_rfl) (by kernel_rfl) ?_
  dsimp only [List.take,List.drop]
  repeat go_big_quiet_step (fail)
  refine wpQuiet_nil ?_
  refine LexG.lexU_nil ?_
  dsimp only [NoPanic]
  have j0 : w11.cell? ⟨p4,0,none⟩ = some (Value.slice none 0 0):=H9.cell 0; have j1 : w11.cell? ⟨p4,1,none⟩ = some (Value.slice none 0 0):=H9.cell 1; have j2 : w11.cell? ⟨p4,2,none⟩ = some (Value.slice none 0 0):=H9.cell 2
  have i0 : w11.cell? ⟨p5,0,none⟩ = some (Value.int .i64 0):=H5.cell 0; have i1 : w11.cell? ⟨p5,1,none⟩ = some (Value.int .i64 0):=H5.cell 1; have i2 : w11.cell? ⟨p5,2,none⟩ = some (Value.int .i64 0):=H5.cell 2; have i3 : w11.cell? ⟨p5,3,none⟩ = some (Value.int .i64 0):=H5.cell 3
  go_wp2_with fail
  exact bodyPost_ret (v:=.tuple #[.agg #[.slice none 0 0,.slice none 0 0,.slice none 0 0],.agg #[.int .i64 0,.int .i64 0,.int .i64 0,.int .i64 0],.int .i64 1]) (by simp [results,Try.results36,go_sem,j0,j1,j2,i0,i1,i2,i3]) rfl ⟨rfl,B3⟩
set_option maxRecDepth 20000 in
set_option maxHeartbeats 16000000 in
theorem ropt_no {An Ai Ao : Option Addr} {nn cn ni ci no co : Nat} {t : Tn} {w : World} {sw : Int} (h : Nt w An nn cn Ai ni ci Ao no co t.N t.I t.O) (sn : Sw An nn cn) (hm : Nm t.I t.O) (h0 : 0 ≤ sw) (h7 : sw ≤ 7) {d : Option (List Nat)} {e : Int} (hl : zaB t.N t.I t.O = (d,e)) (d0 : (e != 0) = true) :
  Calls Try.prog 36 #[.agg #[.slice An nn cn,.slice Ai ni ci,.slice Ao no co],.int .i64 sw] w fun en w' => en = .returned (.tuple #[.agg #[.slice none 0 0,.slice none 0 0,.slice none 0 0],.agg #[.int .i64 0,.int .i64 0,.int .i64 0,.int .i64 0],.int .i64 e]) ∧ Below w.heap.size w w':=by
 have Hd:=Lib.hid (NtK.arg (t:=t) h)
 have HL:=Lib.hid hl
 have H8:=Lib.hid hm
 clear hl hm
 go_enter Try.func36,Try.ntmps36
 go_upto_region 2 with fail
 obtain ⟨w1,e1⟩ : ∃ w',(((w.alloc (.cells #[.slice An nn cn,.slice Ai ni ci,.slice Ao no co] 25)).alloc (.cells #[.slice none 0 0,.slice none 0 0,.slice none 0 0] 25)).alloc (.cells #[.int .i64 0,.int .i64 0,.int .i64 0,.int .i64 0] 60)).alloc (.cells #[.int .i64 0,.int .i64 0,.int .i64 0,.int .i64 0] 60) = w':=⟨_,rfl⟩
 have Ha:=zal w (.cells #[.slice An nn cn,.slice Ai ni ci,.slice Ao no co] 25) rfl
 have H5:=zal _ (.cells #[.slice none 0 0,.slice none 0 0,.slice none 0 0] 25) Ha
 have H4:=zal _ (.cells #[.int .i64 0,.int .i64 0,.int .i64 0,.int .i64 0] 60) H5
 have es4:=zal _ (.cells #[.int .i64 0,.int .i64 0,.int .i64 0,.int .i64 0] 60) H4
 have z2 : Own w1 w.heap.size 25 [.slice An nn cn,.slice Ai ni ci,.slice Ao no co]:=by
  rw [← e1]
  exact (((Own.made w 25 [.slice An nn cn,.slice Ai ni ci,.slice Ao no co]).below (zaa _ _) (by rw [Ha]; omega)).below (zaa _ _) (by rw [H5]; omega)).below (zaa _ _) (by rw [H4]; omega)
 have z4 : Own w1 (w.heap.size + 1) 25 [.slice none 0 0,.slice none 0 0,.slice none 0 0]:=by
  have k:=Own.made (w.alloc (.cells #[.slice An nn cn,.slice Ai ni ci,.slice Ao no co] 25)) 25 [.slice none 0 0,.slice none 0 0,.slice none 0 0]
  rw [Ha] at k
  rw [← e1]
  exact (k.below (zaa _ _) (by rw [H5]; omega)).below (zaa _ _) (by rw [H4]; omega)
 have z5 : Own w1 (w.heap.size + 1 + 1) 60 [.int .i64 0,.int .i64 0,.int .i64 0,.int .i64 0]:=by
  have k:=Own.made ((w.alloc (.cells #[.slice An nn cn,.slice Ai ni ci,.slice Ao no co] 25)).alloc (.cells #[.slice none 0 0,.slice none 0 0,.slice none 0 0] 25)) 60 [.int .i64 0,.int .i64 0,.int .i64 0,.int .i64 0]
  rw [H5] at k
  rw [← e1]
  exact k.below (zaa _ _) (by rw [H4]; omega)
 have z7 : Own w1 (w.heap.size + 1 + 1 + 1) 60 [.int .i64 0,.int .i64 0,.int .i64 0,.int .i64 0]:=by
  have k:=Own.made (((w.alloc (.cells #[.slice An nn cn,.slice Ai ni ci,.slice Ao no co] 25)).alloc (.cells #[.slice none 0 0,.slice none 0 0,.slice none 0 0] 25)).alloc (.cells #[.int .i64 0,.int .i64 0,.int .i64 0,.int .i64 0] 60)) 60 [.int .i64 0,.int .i64 0,.int .i64 0,.int .i64 0]
  rw [H4] at k
  rw [← e1]
  exact k
 have BW : Below w.heap.size w w1:=by rw [← e1]; exact Below.step (Below.step (zbu w _ _) (zaa _ _)) (zaa _ _)
 have H2 : w1.heap.size = w.heap.size + 1 + 1 + 1 + 1:=by rw [← e1]; exact es4
 rw [e1]
 clear e1 Ha H5 H4 es4
 obtain ⟨p7,hp7⟩ : ∃ p,w.heap.size + 1 + 1 + 1 = p:=⟨_,rfl⟩
 obtain ⟨p5,hp5⟩ : ∃ p,w.heap.size + 1 + 1 = p:=⟨_,rfl⟩
 obtain ⟨p4,hp4⟩ : ∃ p,w.heap.size + 1 = p:=⟨_,rfl⟩
 obtain ⟨s0,hs0⟩ : ∃ p,w.heap.size + 1 + 1 + 1 + 1 = p:=⟨_,rfl⟩
 have PP0 : PP w w.heap.size p4 p5 p7 s0:=⟨by omega,by omega,by omega,by omega,by omega,by omega,by omega,by omega,by omega,by omega,by omega,by omega,by omega,by omega⟩
 have H7:=Lib.hid PP0
 rw [hs0] at H2
 rw [hp7] at z7 ⊢
 rw [hp5] at z5 ⊢
 rw [hp4] at z4 ⊢
 have HS0:=Lib.hid H2
 have H3 : OS w w1 w.heap.size p4 p5 p7 (fun b => w.heap.size ≤ b) An nn cn Ai ni ci Ao no co t [.int .i64 0,.int .i64 0,.int .i64 0,.int .i64 0]:=⟨z2,z4,z5,z7,Hd.out.on BW,sn,BW⟩
 clear hp7 hp5 hp4 hs0 PP0 z2 z4 z5 z7 BW H2 h
 have hd : decide (sw < 0) = false:=by simpa using h0
 have hd2 : decide (7 < sw) = false:=by simpa using h7
 have c0 : w1.cell? ⟨w.heap.size,0,none⟩ = some (Value.slice An nn cn):=H3.z2.cell 0
 have c1 : w1.cell? ⟨w.heap.size,1,none⟩ = some (Value.slice Ai ni ci):=H3.z2.cell 1
 have c2 : w1.cell? ⟨w.heap.size,2,none⟩ = some (Value.slice Ao no co):=H3.z2.cell 2
 go_wp2_with fail
 refine (zcJ H3.nk.nt H8.out.nm H8.out.c HL.out).mono ?_
 rintro en w2 ⟨Aq,mq,cq,rfl,_,_,b⟩
 clear c0 c1 c2 hd hd2
 replace H3:=H3.on b
 clear b
 go_upto_region 6 with fail
 have Hc : p7 ≠ p4:=H7.out.a47.symm
 have H9 : p7 ≠ p5:=H7.out.a57.symm
 have H1 : p4 ≠ p5:=H7.out.a45
 refine LexG.region_planU (KB3.ok p7 p7 p7) [3,4] [0,1,2,3,4,5] (h:=?_)
 dsimp only [LexG.pick,LexG.nth]
 have bd : Below w2.heap.size w2 w2.drew:=(Below.refl _ _).drew
 have H0:=Lib.hid (H3.on bd)
 obtain ⟨w9,e9⟩ : ∃ w',w2.drew = w':=⟨_,rfl⟩
 rw [e9] at H0 ⊢
 clear e9 bd
 have lf0:=fun s' : LexG.Wd (KB3 p7 p7 p7) w9 => (show s'.w.cell? ⟨p7,0,none⟩ = some (Value.int .i64 0) from (zac s'.rel.1 0).trans (H0.out.z7.cell 0))
 have lf1:=fun s' : LexG.Wd (KB3 p7 p7 p7) w9 => (show s'.w.cell? ⟨p7,1,none⟩ = some (Value.int .i64 0) from (zac s'.rel.1 1).trans (H0.out.z7.cell 1))
 have lf2:=fun s' : LexG.Wd (KB3 p7 p7 p7) w9 => (show s'.w.cell? ⟨p7,2,none⟩ = some (Value.int .i64 0) from (zac s'.rel.1 2).trans (H0.out.z7.cell 2))
 have lf3:=fun s' : LexG.Wd (KB3 p7 p7 p7) w9 => (show s'.w.cell? ⟨p7,3,none⟩ = some (Value.int .i64 0) from (zac s'.rel.1 3).trans (H0.out.z7.cell 3))
 refine LexG.lexU_plain 3 (by kernel_rfl) (by kernel_rfl) ?_
 dsimp only [List.take,List.drop]
 repeat go_big_quiet_step (fail)
 refine wpQuiet_nil ?_
 clear lf0 lf1 lf2 lf3
 have f0:=H0.out.z4.free 0; have f1:=H0.out.z4.free 1; have f2:=H0.out.z4.free 2
 have g0 : _ = some (Value.slice none 0 0):=H0.out.z4.cell 0; have g1 : _ = some (Value.slice none 0 0):=H0.out.z4.cell 1; have g2 : _ = some (Value.slice none 0 0):=H0.out.z4.cell 2
 refine LexG.lexU_call (h:=fun K hK => ?_)
 go_simp
 have k7 : (((w9.setCell ⟨p4,0,none⟩ (.slice none 0 0)).setCell ⟨p4,1,none⟩ (.slice none 0 0)).setCell ⟨p4,2,none⟩ (.slice none 0 0)).heap[p7]? = w9.heap[p7]?:=by
  rw [Below.heap_setCell _ _ _ _ Hc,Below.heap_setCell _ _ _ _ Hc,Below.heap_setCell _ _ _ _ Hc]
 refine hK _ _ ⟨k7,k7,k7⟩ ?_
 clear hK K k7 f0 f1 f2 g0 g1 g2
 have Z4:=H0.out.z4.p3' (.slice none 0 0) (.slice none 0 0) (.slice none 0 0)
 have Z5:=((H0.out.z5.apart H1.symm 0 (.slice none 0 0)).apart H1.symm 1 (.slice none 0 0)).apart H1.symm 2 (.slice none 0 0)
 have B2:=H0.out.bl.e3' H7.out.w4 (.slice none 0 0) (.slice none 0 0) (.slice none 0 0)
 obtain ⟨w10,e10⟩ : ∃ w',(((w9.setCell ⟨p4,0,none⟩ (.slice none 0 0)).setCell ⟨p4,1,none⟩ (.slice none 0 0)).setCell ⟨p4,2,none⟩ (.slice none 0 0)) = w':=⟨_,rfl⟩
 rw [e10] at Z4 Z5 B2 ⊢
 clear e10 H0
 obtain ⟨f0,f1,f2,f3⟩:=Z5.zof0f1f2f3
 obtain ⟨g0,g1,g2,g3⟩:=Z5.zo4
 refine LexG.lexU_call (h:=fun K hK => ?_)
 go_simp
 have k7 : ((((w10.setCell ⟨p5,0,none⟩ (.int .i64 0)).setCell ⟨p5,1,none⟩ (.int .i64 0)).setCell ⟨p5,2,none⟩ (.int .i64 0)).setCell ⟨p5,3,none⟩ (.int .i64 0)).heap[p7]? = w10.heap[p7]?:=by
  rw [Below.heap_setCell _ _ _ _ H9,Below.heap_setCell _ _ _ _ H9,Below.heap_setCell _ _ _ _ H9,Below.heap_setCell _ _ _ _ H9]
 refine hK _ _ ⟨k7,k7,k7⟩ ?_
 clear hK K k7 f0 f1 f2 f3 g0 g1 g2 g3
 have H6:=Z5.p4' (.int .i64 0) (.int .i64 0) (.int .i64 0) (.int .i64 0)
 have Hb:=(((Z4.apart H1 0 (.int .i64 0)).apart H1 1 (.int .i64 0)).apart H1 2 (.int .i64 0)).apart H1 3 (.int .i64 0)
 have B3:=B2.e4' H7.out.w5 (.int .i64 0) (.int .i64 0) (.int .i64 0) (.int .i64 0)
 obtain ⟨w11,e11⟩ : ∃ w',((((w10.setCell ⟨p5,0,none⟩ (.int .i64 0)).setCell ⟨p5,1,none⟩ (.int .i64 0)).setCell ⟨p5,2,none⟩ (.int .i64 0)).setCell ⟨p5,3,none⟩ (.int .i64 0)) = w':=⟨_,rfl⟩
 rw [e11] at H6 Hb B3 ⊢
 clear e11 Z4 Z5 B2
 refine LexG.lexU_plain 1 (by kernel_rfl) (by kernel_rfl) ?_
 dsimp only [List.take,List.drop]
 repeat go_big_quiet_step (fail)
 refine wpQuiet_nil ?_
 refine LexG.lexU_nil ?_
 dsimp only [NoPanic]
 have j0 : w11.cell? ⟨p4,0,none⟩ = some (Value.slice none 0 0):=Hb.cell 0; have j1 : w11.cell? ⟨p4,1,none⟩ = some (Value.slice none 0 0):=Hb.cell 1; have j2 : w11.cell? ⟨p4,2,none⟩ = some (Value.slice none 0 0):=Hb.cell 2
 have i0 : w11.cell? ⟨p5,0,none⟩ = some (Value.int .i64 0):=H6.cell 0; have i1 : w11.cell? ⟨p5,1,none⟩ = some (Value.int .i64 0):=H6.cell 1; have i2 : w11.cell? ⟨p5,2,none⟩ = some (Value.int .i64 0):=H6.cell 2; have i3 : w11.cell? ⟨p5,3,none⟩ = some (Value.int .i64 0):=H6.cell 3
 go_wp2_with fail
 exact bodyPost_ret (v:=.tuple #[.agg #[.slice none 0 0,.slice none 0 0,.slice none 0 0],.agg #[.int .i64 0,.int .i64 0,.int .i64 0,.int .i64 0],.int .i64 e]) (by simp [results,Try.results36,go_sem,j0,j1,j2,i0,i1,i2,i3]) rfl ⟨rfl,B3⟩
theorem arr_equal (x1 x2 x3 x4 : Int) (w : World) : (Op.equalIn 10000 60 (.agg #[.int .i64 x1,.int .i64 x2,.int .i64 x3,.int .i64 x4]) (.agg #[.int .i64 x1,.int .i64 x2,.int .i64 x3,.int .i64 x4])).run Try.prog w = .ok true w:=by
 have hu : Try.prog.underlying 60 = some (.array 4 3):=by kernel_rfl
 rw [show (10000 : Nat) = 9999 + 1 from rfl,Op.equalIn]
 simp only [Sem.run_bind,run_underlying hu,Result.andThen_ok]
 simp only [Std.Legacy.Range.forIn_eq_forIn_range',Std.Legacy.Range.size,Nat.sub_zero,Nat.add_sub_cancel,Nat.div_one,List.range'_succ,List.range'_zero,List.forIn_cons,List.forIn_nil]
 go_simp
theorem arr_eql (x1 x2 x3 x4 : Int) (w : World) : (binOp .eql 60 (.agg #[.int .i64 x1,.int .i64 x2,.int .i64 x3,.int .i64 x4]) (.agg #[.int .i64 x1,.int .i64 x2,.int .i64 x3,.int .i64 x4])).run Try.prog w = .ok (.bool true) w:=by
 rw [run_eql_struct,arr_equal]
 rfl
attribute [local go_sem ↓] arr_eql
theorem mk2 (w : World) (L M : List Value) (T U : TypeId) : ∃ w1,(w.alloc (.cells L.toArray T)).alloc (.cells M.toArray U) = w1 ∧ Bx w1 w.heap.size L ∧ Bx w1 (w.heap.size + 1) M ∧ Below w.heap.size w w1:=by
 have e1 : (w.alloc (.cells L.toArray T)).heap.size = w.heap.size + 1:=zal w _ rfl
 exact ⟨_,rfl,(Bx.made_k w rfl L.toArray T).on (zaa _ _),Bx.made_k _ e1 M.toArray U,zbu w _ _⟩
set_option maxRecDepth 20000 in
set_option maxHeartbeats 16000000 in
theorem optTells_as {An Ai Ao : Option Addr} {nn cn ni ci no co : Nat} {N : List Nd} {I O : List Pt} {w : World} (h : NetIn w An nn cn Ai ni ci Ao no co N I O) (sw : Int) :
  Calls Try.prog 10 #[.agg #[.slice An nn cn,.slice Ai ni ci,.slice Ao no co],.int .i64 sw] w fun en w' => en = .returned (.bool true) ∧ Below w.heap.size w w':=by
 go_enter Try.func10,Try.ntmps10
 go_upto_region 1 with fail
 obtain ⟨w1,e_w1,z0,BW⟩:=zmB w [.slice An nn cn,.slice Ai ni ci,.slice Ao no co] 25
 rw [e_w1]
 clear e_w1
 replace h:=h.on BW
 go_wp2_with fail
 refine (awake12_any _).mono ?_
 rintro en w2 ⟨rfl,b⟩
 replace h:=h.on b
 replace z0:=z0.on b
 replace BW:=Below.step BW b
 clear b
 obtain ⟨v,hv⟩ : ∃ v,zaY nn ni no I O 40 = v:=⟨_,rfl⟩
 have HV:=Lib.hid hv
 clear hv
 obtain ⟨c0,c1,c2⟩:=z0.zb3
 go_wp2_with fail
 refine (rlarge_as h.i h.o h.hn h.hi h.ho h.bi h.bo 40 (by omega) v HV.out).mono ?_
 rintro en w3 ⟨rfl,b⟩
 clear c0 c1 c2
 replace h:=h.on b
 replace z0:=z0.on b
 replace BW:=Below.step BW b
 clear b
 cases v
 case true =>
  go_wp2_with fail
  go_ret
  exact ⟨rfl,BW⟩
 obtain ⟨hn,hn60,hi66,ho66,hbb⟩:=h.ntM HV.out (by omega)
 have HB4 : Hid (∀ p ∈ I ++ O,p.bits.length ≤ 4000):=Lib.hid fun p hp => (hbb p hp).1
 have HNM : Hid (∀ p ∈ I ++ O,p.name.size ≤ 1000000):=Lib.hid fun p hp => by have:=(hbb p hp).2; omega
 have HM : Hid (Nm I O):=Lib.hid ⟨HNM.out,fun k => by have:=zeu (m:=66) (n:=4000) (by rw [hn.i.1]; exact hi66) (fun p hp => (hbb p (List.mem_append_left _ hp)).1) k; omega⟩
 have sn:=h.sn
 clear h hbb HV
 obtain ⟨d,e,hl⟩ : ∃ d e,zaB N I O = (d,e):=⟨_,_,rfl⟩
 by_cases hsw : sw < 0 ∨ 7 < sw
 case pos =>
  obtain ⟨z0c0,z0c1,z0c2⟩:=z0.zb3
  go_wp2_with fail
  refine (opt_arg hsw).mono ?_
  rintro en w4 ⟨rfl,b⟩
  clear z0c0 z0c1 z0c2
  replace hn:=hn.on b
  replace z0:=z0.on b
  replace BW:=Below.step BW b
  clear b
  go_upto_region 6 with fail
  obtain ⟨w5,H0,zf,zr,b⟩:=mk2 w4 [.slice none 0 0,.slice none 0 0,.slice none 0 0] [.int .i64 0,.int .i64 0,.int .i64 0,.int .i64 0] 25 57
  have H0 : (w4.alloc (.cells #[.slice none 0 0,.slice none 0 0,.slice none 0 0] 25)).alloc (.cells #[.int .i64 0,.int .i64 0,.int .i64 0,.int .i64 0] 57) = w5:=H0
  rw [H0]
  obtain ⟨q6,h_b⟩ : ∃ a,w4.heap.size + 1 = a:=⟨_,rfl⟩
  obtain ⟨q5,h_a⟩ : ∃ a,w4.heap.size = a:=⟨_,rfl⟩
  rw [h_b] at zr ⊢
  rw [h_a] at zf ⊢
  replace hn:=hn.on b
  replace z0:=z0.on b
  replace BW:=Below.step BW b
  clear H0 b h_a h_b
  obtain ⟨z0c0,z0c1,z0c2⟩:=z0.zb3
  go_wp2_with fail
  refine (ropt_arg (t:=⟨N,I,O⟩) hn sn hsw).mono ?_
  rintro en w6 ⟨rfl,b⟩
  clear z0c0 z0c1 z0c2 hn
  replace z0:=z0.on b
  replace zf:=zf.on b
  replace zr:=zr.on b
  replace BW:=Below.step BW b
  clear b
  go_upto_region 7 with fail
  obtain ⟨w7,H0,zg,zt,b⟩:=mk2 w6 [.slice none 0 0,.slice none 0 0,.slice none 0 0] [.int .i64 0,.int .i64 0,.int .i64 0,.int .i64 0] 25 60
  have H0 : (w6.alloc (.cells #[.slice none 0 0,.slice none 0 0,.slice none 0 0] 25)).alloc (.cells #[.int .i64 0,.int .i64 0,.int .i64 0,.int .i64 0] 60) = w7:=H0
  rw [H0]
  obtain ⟨q9,h_b⟩ : ∃ a,w6.heap.size + 1 = a:=⟨_,rfl⟩
  obtain ⟨q8,h_a⟩ : ∃ a,w6.heap.size = a:=⟨_,rfl⟩
  rw [h_b] at zt ⊢
  rw [h_a] at zg ⊢
  replace z0:=z0.on b
  replace zf:=zf.on b
  replace zr:=zr.on b
  replace BW:=Below.step BW b
  clear H0 b h_a h_b
  clear z0
  have hf : Nt w7 none 0 0 none 0 0 none 0 0 [] [] []:=⟨⟨rfl,fun k x hx => by cases hx⟩,Ps.nil_,Ps.nil_,Sw.nil_,Sw.nil_,by omega,by omega,fun p hp => by cases hp⟩
  have c0:=zf.2 0 _ rfl; have g0:=zg.2 0 _ rfl
  have c1:=zf.2 1 _ rfl; have g1:=zg.2 1 _ rfl
  have c2:=zf.2 2 _ rfl; have g2:=zg.2 2 _ rfl
  have r0:=zr.2 0 _ rfl; have t0:=zt.2 0 _ rfl
  have r1:=zr.2 1 _ rfl; have t1:=zt.2 1 _ rfl
  have r2:=zr.2 2 _ rfl; have t2:=zt.2 2 _ rfl
  have r3:=zr.2 3 _ rfl; have t3:=zt.2 3 _ rfl
  go_wp2_with fail
  refine (zcI hf hf true (zcH _ _ _)).mono ?_
  rintro en wz ⟨rfl,b⟩
  clear c0 g0 c1 g1 c2 g2 r0 t0 r1 t1 r2 t2 r3 t3
  replace zr:=zr.on b
  replace zt:=zt.on b
  replace BW:=Below.step BW b
  clear b
  have r0:=zr.2 0 _ rfl; have t0:=zt.2 0 _ rfl
  have r1:=zr.2 1 _ rfl; have t1:=zt.2 1 _ rfl
  have r2:=zr.2 2 _ rfl; have t2:=zt.2 2 _ rfl
  have r3:=zr.2 3 _ rfl; have t3:=zt.2 3 _ rfl
  go_wp2_with fail
  go_ret
  exact ⟨rfl,BW⟩
 have h0 : 0 ≤ sw:=by omega
 have h7 : sw ≤ 7:=by omega
 clear hsw
 by_cases he : e = 0
 case neg =>
  have d0 : (e != 0) = true:=by simpa using he
  have HL:=Lib.hid hl
  clear hl he
  obtain ⟨z0c0,z0c1,z0c2⟩:=z0.zb3
  go_wp2_with fail
  refine (opt_no hn h0 h7 HL.out d0).mono ?_
  rintro en w4 ⟨rfl,b⟩
  clear z0c0 z0c1 z0c2
  replace hn:=hn.on b
  replace z0:=z0.on b
  replace BW:=Below.step BW b
  clear b
  go_upto_region 6 with fail
  obtain ⟨w5,H0,zf,zr,b⟩:=mk2 w4 [.slice none 0 0,.slice none 0 0,.slice none 0 0] [.int .i64 0,.int .i64 0,.int .i64 0,.int .i64 0] 25 57
  have H0 : (w4.alloc (.cells #[.slice none 0 0,.slice none 0 0,.slice none 0 0] 25)).alloc (.cells #[.int .i64 0,.int .i64 0,.int .i64 0,.int .i64 0] 57) = w5:=H0
  rw [H0]
  obtain ⟨q6,h_b⟩ : ∃ a,w4.heap.size + 1 = a:=⟨_,rfl⟩
  obtain ⟨q5,h_a⟩ : ∃ a,w4.heap.size = a:=⟨_,rfl⟩
  rw [h_b] at zr ⊢
  rw [h_a] at zf ⊢
  replace hn:=hn.on b
  replace z0:=z0.on b
  replace BW:=Below.step BW b
  clear H0 b h_a h_b
  obtain ⟨z0c0,z0c1,z0c2⟩:=z0.zb3
  go_wp2_with fail
  refine (ropt_no (t:=⟨N,I,O⟩) hn sn HM.out h0 h7 HL.out d0).mono ?_
  rintro en w6 ⟨rfl,b⟩
  clear z0c0 z0c1 z0c2 hn
  replace z0:=z0.on b
  replace zf:=zf.on b
  replace zr:=zr.on b
  replace BW:=Below.step BW b
  clear b
  go_upto_region 7 with fail
  obtain ⟨w7,H0,zg,zt,b⟩:=mk2 w6 [.slice none 0 0,.slice none 0 0,.slice none 0 0] [.int .i64 0,.int .i64 0,.int .i64 0,.int .i64 0] 25 60
  have H0 : (w6.alloc (.cells #[.slice none 0 0,.slice none 0 0,.slice none 0 0] 25)).alloc (.cells #[.int .i64 0,.int .i64 0,.int .i64 0,.int .i64 0] 60) = w7:=H0
  rw [H0]
  obtain ⟨q9,h_b⟩ : ∃ a,w6.heap.size + 1 = a:=⟨_,rfl⟩
  obtain ⟨q8,h_a⟩ : ∃ a,w6.heap.size = a:=⟨_,rfl⟩
  rw [h_b] at zt ⊢
  rw [h_a] at zg ⊢
  replace z0:=z0.on b
  replace zf:=zf.on b
  replace zr:=zr.on b
  replace BW:=Below.step BW b
  clear H0 b h_a h_b
  clear z0
  have hf : Nt w7 none 0 0 none 0 0 none 0 0 [] [] []:=⟨⟨rfl,fun k x hx => by cases hx⟩,Ps.nil_,Ps.nil_,Sw.nil_,Sw.nil_,by omega,by omega,fun p hp => by cases hp⟩
  have c0:=zf.2 0 _ rfl; have g0:=zg.2 0 _ rfl
  have c1:=zf.2 1 _ rfl; have g1:=zg.2 1 _ rfl
  have c2:=zf.2 2 _ rfl; have g2:=zg.2 2 _ rfl
  have r0:=zr.2 0 _ rfl; have t0:=zt.2 0 _ rfl
  have r1:=zr.2 1 _ rfl; have t1:=zt.2 1 _ rfl
  have r2:=zr.2 2 _ rfl; have t2:=zt.2 2 _ rfl
  have r3:=zr.2 3 _ rfl; have t3:=zt.2 3 _ rfl
  go_wp2_with fail
  refine (zcI hf hf true (zcH _ _ _)).mono ?_
  rintro en wz ⟨rfl,b⟩
  clear c0 g0 c1 g1 c2 g2 r0 t0 r1 t1 r2 t2 r3 t3
  replace zr:=zr.on b
  replace zt:=zt.on b
  replace BW:=Below.step BW b
  clear b
  have r0:=zr.2 0 _ rfl; have t0:=zt.2 0 _ rfl
  have r1:=zr.2 1 _ rfl; have t1:=zt.2 1 _ rfl
  have r2:=zr.2 2 _ rfl; have t2:=zt.2 2 _ rfl
  have r3:=zr.2 3 _ rfl; have t3:=zt.2 3 _ rfl
  go_wp2_with fail
  go_ret
  exact ⟨rfl,BW⟩
 subst he
 obtain ⟨f,s,x,hsw,hsr⟩:=swR_of h0 h7
 have hdd : ∃ dd,d = some dd:=by
  cases d with
  | none =>
   exfalso
   unfold zaB at hl
   split at hl
   ·rename_i hw
    exact hw (Prod.mk.inj hl).2
   split at hl
   ·cases (Prod.mk.inj hl).1
   cases (Prod.mk.inj hl).2
  | some dd => exact ⟨dd,rfl⟩
 obtain ⟨dd,rfl⟩:=hdd
 have hok : OkT ⟨N,I,O⟩:=by
  obtain ⟨L,lx⟩:=lv_x hl
  exact ⟨dd,L,lx⟩
 have HOK:=Lib.hid hok
 have HSW:=Lib.hid hsw
 have HSR:=Lib.hid hsr
 clear hl hok hsw hsr
 obtain ⟨z0c0,z0c1,z0c2⟩:=z0.zb3
 go_wp2_with fail
 refine (opt_yes (t:=⟨N,I,O⟩) hn sn hi66 ho66 HB4.out HOK.out h0 h7 HSW.out).mono ?_
 rintro en w4 ⟨⟨k,Bn,kk,dn,Bi,di,Bo,do',rfl,hend,hf,hsf,hgf⟩,b⟩
 clear z0c0 z0c1 z0c2
 replace hn:=hn.on b
 replace z0:=z0.on b
 replace BW:=Below.step BW b
 have H3:=Lib.hid hend
 have H1:=Lib.hid hf
 obtain ⟨r1,hr1⟩ : ∃ r,(itT f s x ⟨N,I,O⟩ k).2.1 = r:=⟨_,rfl⟩
 obtain ⟨r2,hr2⟩ : ∃ r,(itT f s x ⟨N,I,O⟩ k).2.2.1 = r:=⟨_,rfl⟩
 obtain ⟨r3,hr3⟩ : ∃ r,(itT f s x ⟨N,I,O⟩ k).2.2.2 = r:=⟨_,rfl⟩
 rw [hr1,hr2,hr3]
 have HR1:=Lib.hid hr1; have HR2:=Lib.hid hr2; have HR3:=Lib.hid hr3
 clear b hend hf hsf hgf hr1 hr2 hr3
 go_upto_region 6 with fail
 obtain ⟨w5,H0,zf,zr,b⟩:=mk2 w4 [.slice Bn kk dn,.slice Bi ni di,.slice Bo no do'] [.int .i64 (k : Int),.int .i64 (r1 : Int),.int .i64 (r2 : Int),.int .i64 (r3 : Int)] 25 57
 have H0 : (w4.alloc (.cells #[.slice Bn kk dn,.slice Bi ni di,.slice Bo no do'] 25)).alloc (.cells #[.int .i64 (k : Int),.int .i64 (r1 : Int),.int .i64 (r2 : Int),.int .i64 (r3 : Int)] 57) = w5:=H0
 rw [H0]
 obtain ⟨q6,h_b⟩ : ∃ a,w4.heap.size + 1 = a:=⟨_,rfl⟩
 obtain ⟨q5,h_a⟩ : ∃ a,w4.heap.size = a:=⟨_,rfl⟩
 rw [h_b] at zr ⊢
 rw [h_a] at zf ⊢
 replace hn:=hn.on b
 replace z0:=z0.on b
 have H1:=Lib.hid (H1.out.on b)
 replace BW:=Below.step BW b
 clear H0 b h_a h_b
 obtain ⟨z0c0,z0c1,z0c2⟩:=z0.zb3
 go_wp2_with fail
 refine (ropt_yes (t:=⟨N,I,O⟩) hn sn hi66 ho66 HB4.out HNM.out (by omega) HOK.out HSR.out).mono ?_
 rintro en w6 ⟨⟨k',Cn,kc,dc,Ci,ei,Co,ec,rfl,hend,hg,hsf,hgf⟩,b⟩
 have ek:=EndK.eq H3.out hend
 subst ek
 rw [HR1.out,HR2.out,HR3.out]
 clear z0c0 z0c1 z0c2 hn
 replace z0:=z0.on b
 replace zf:=zf.on b
 replace zr:=zr.on b
 replace BW:=Below.step BW b
 have H1:=Lib.hid (H1.out.on b)
 have H2:=Lib.hid hg
 clear b hend hg hsf hgf
 go_upto_region 7 with fail
 obtain ⟨w7,H0,zg,zt,b⟩:=mk2 w6 [.slice Cn kc dc,.slice Ci ni ei,.slice Co no ec] [.int .i64 (k : Int),.int .i64 (r1 : Int),.int .i64 (r2 : Int),.int .i64 (r3 : Int)] 25 60
 have H0 : (w6.alloc (.cells #[.slice Cn kc dc,.slice Ci ni ei,.slice Co no ec] 25)).alloc (.cells #[.int .i64 (k : Int),.int .i64 (r1 : Int),.int .i64 (r2 : Int),.int .i64 (r3 : Int)] 60) = w7:=H0
 rw [H0]
 obtain ⟨q9,h_b⟩ : ∃ a,w6.heap.size + 1 = a:=⟨_,rfl⟩
 obtain ⟨q8,h_a⟩ : ∃ a,w6.heap.size = a:=⟨_,rfl⟩
 rw [h_b] at zt ⊢
 rw [h_a] at zg ⊢
 replace z0:=z0.on b
 replace zf:=zf.on b
 replace zr:=zr.on b
 have H1:=Lib.hid (H1.out.on b)
 have H2:=Lib.hid (H2.out.on b)
 replace BW:=Below.step BW b
 clear H0 b h_a h_b
 clear z0
 have c0:=zf.2 0 _ rfl; have g0:=zg.2 0 _ rfl
 have c1:=zf.2 1 _ rfl; have g1:=zg.2 1 _ rfl
 have c2:=zf.2 2 _ rfl; have g2:=zg.2 2 _ rfl
 have r0:=zr.2 0 _ rfl; have t0:=zt.2 0 _ rfl
 have r1:=zr.2 1 _ rfl; have t1:=zt.2 1 _ rfl
 have r2:=zr.2 2 _ rfl; have t2:=zt.2 2 _ rfl
 have r3:=zr.2 3 _ rfl; have t3:=zt.2 3 _ rfl
 go_wp2_with fail
 refine (zcI H1.out H2.out true (zcH _ _ _)).mono ?_
 rintro en wz ⟨rfl,b⟩
 clear c0 g0 c1 g1 c2 g2 r0 t0 r1 t1 r2 t2 r3 t3
 replace zr:=zr.on b
 replace zt:=zt.on b
 replace BW:=Below.step BW b
 clear b
 have r0:=zr.2 0 _ rfl; have t0:=zt.2 0 _ rfl
 have r1:=zr.2 1 _ rfl; have t1:=zt.2 1 _ rfl
 have r2:=zr.2 2 _ rfl; have t2:=zt.2 2 _ rfl
 have r3:=zr.2 3 _ rfl; have t3:=zt.2 3 _ rfl
 go_wp2_with fail
 go_ret
 exact ⟨rfl,BW⟩
end Go.Proofs.Ytcehklnonhalhaa
