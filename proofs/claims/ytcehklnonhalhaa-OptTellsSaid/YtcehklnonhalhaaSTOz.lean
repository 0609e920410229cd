/-
  What the proofs of OptTells need: Oz.
-/
import Derived.Test.YtcehklnonhalhaaSTOy
import Derived.Deep.DeepCutAuto
set_option linter.unusedVariables false
namespace Go.Proofs.Ytcehklnonhalhaa
open Go.RowKit
structure SwR (sw : Int) (f s x : Bool) : Prop where
  h : (sw = 0 ∧ f = false ∧ s = false ∧ x = false) ∨ (sw = 1 ∧ f = true ∧ s = false ∧ x = false) ∨ (sw = 2 ∧ f = false ∧ s = true ∧ x = false) ∨ (sw = 3 ∧ f = true ∧ s = true ∧ x = false) ∨ (sw = 4 ∧ f = false ∧ s = false ∧ x = true) ∨ (sw = 5 ∧ f = true ∧ s = false ∧ x = true) ∨ (sw = 6 ∧ f = false ∧ s = true ∧ x = true) ∨ (sw = 7 ∧ f = true ∧ s = true ∧ x = true)
theorem swR_of {sw : Int} (h0 : 0 ≤ sw) (h7 : sw ≤ 7) : ∃ f s x,Sw8 sw f s x ∧ SwR sw f s x:=by
 rcases (show sw = 0 ∨ sw = 1 ∨ sw = 2 ∨ sw = 3 ∨ sw = 4 ∨ sw = 5 ∨ sw = 6 ∨ sw = 7 by omega) with rfl | rfl | rfl | rfl | rfl | rfl | rfl | rfl
 ·exact ⟨false,false,false,⟨rfl,rfl,rfl⟩,⟨by simp⟩⟩
 ·exact ⟨true,false,false,⟨rfl,rfl,rfl⟩,⟨by simp⟩⟩
 ·exact ⟨false,true,false,⟨rfl,rfl,rfl⟩,⟨by simp⟩⟩
 ·exact ⟨true,true,false,⟨rfl,rfl,rfl⟩,⟨by simp⟩⟩
 ·exact ⟨false,false,true,⟨rfl,rfl,rfl⟩,⟨by simp⟩⟩
 ·exact ⟨true,false,true,⟨rfl,rfl,rfl⟩,⟨by simp⟩⟩
 ·exact ⟨false,true,true,⟨rfl,rfl,rfl⟩,⟨by simp⟩⟩
 exact ⟨true,true,true,⟨rfl,rfl,rfl⟩,⟨by simp⟩⟩
def TO (W : World) (s0 p : Nat) (b : Nat) : Prop:=(W.heap.size ≤ b ∧ b < s0) ∨ b = p
structure PP (W : World) (p2 p4 p5 p7 s0 : Nat) : Prop where
  a24 : p2 ≠ p4
  a25 : p2 ≠ p5
  a27 : p2 ≠ p7
  a45 : p4 ≠ p5
  a47 : p4 ≠ p7
  a57 : p5 ≠ p7
  w2 : W.heap.size ≤ p2
  w4 : W.heap.size ≤ p4
  w5 : W.heap.size ≤ p5
  w7 : W.heap.size ≤ p7
  l2 : p2 < s0
  l4 : p4 < s0
  l5 : p5 < s0
  l7 : p7 < s0
structure OS (W w : World) (p2 p4 p5 p7 : Nat) (T : Nat → Prop) (An : Option Addr) (nn cn : Nat) (Ai : Option Addr) (ni ci : Nat) (Ao : Option Addr) (no co : Nat) (n : Tn) (R : List Value) : Prop where
  z2 : Own w p2 25 [.slice An nn cn,.slice Ai ni ci,.slice Ao no co]
  z4 : Own w p4 25 [.slice none 0 0,.slice none 0 0,.slice none 0 0]
  z5 : Own w p5 60 [.int .i64 0,.int .i64 0,.int .i64 0,.int .i64 0]
  z7 : Own w p7 60 R
  nk : NtK T w An nn cn Ai ni ci Ao no co n
  sn : Sw An nn cn
  bl : Below W.heap.size W w
structure MV (w : World) (p : Nat) (T : Nat → Prop) (An : Option Addr) (nn cn : Nat) (Ai : Option Addr) (ni ci : Nat) (Ao : Option Addr) (no co : Nat) (m : Tn) : Prop where
  z : Own w p 25 [.slice An nn cn,.slice Ai ni ci,.slice Ao no co]
  mn : NtK T w An nn cn Ai ni ci Ao no co m
  sm : Sw An nn cn
section
variable {W w w' : World} {p2 p4 p5 p7 p s0 : Nat} {T : Nat → Prop} {An Ai Ao : Option Addr} {nn cn ni ci no co : Nat} {n : Tn} {R : List Value}
theorem OS.on (h : OS W w p2 p4 p5 p7 T An nn cn Ai ni ci Ao no co n R) (b : Below w.heap.size w w') : OS W w' p2 p4 p5 p7 T An nn cn Ai ni ci Ao no co n R:=⟨h.z2.below b h.z2.lt,h.z4.below b h.z4.lt,h.z5.below b h.z5.lt,h.z7.below b h.z7.lt,h.nk.on b,h.sn,Below.step h.bl b⟩
theorem MV.on (h : MV w p T An nn cn Ai ni ci Ao no co n) (b : Below w.heap.size w w') : MV w' p T An nn cn Ai ni ci Ao no co n:=⟨h.z.below b h.z.lt,h.mn.on b,h.sm⟩
theorem OS.tell (h : OS W w p2 p4 p5 p7 T An nn cn Ai ni ci Ao no co n R) (pp : PP W p2 p4 p5 p7 s0) (hT : T p7) (i : Nat) (v : Value) : OS W (w.setCell ⟨p7,i,none⟩ v) p2 p4 p5 p7 T An nn cn Ai ni ci Ao no co n (R.set i v):=⟨h.z2.apart pp.a27 i v,h.z4.apart pp.a47 i v,h.z5.apart pp.a57 i v,h.z7.put i v,h.nk.put hT i v,h.sn,h.bl.setCell (p:=⟨p7,i,none⟩) pp.w7 v⟩
theorem OS.far (h : OS W w p2 p4 p5 p7 T An nn cn Ai ni ci Ao no co n R) (pp : PP W p2 p4 p5 p7 s0) (hT : T p) (hp : s0 ≤ p) (i : Nat) (v : Value) : OS W (w.setCell ⟨p,i,none⟩ v) p2 p4 p5 p7 T An nn cn Ai ni ci Ao no co n R:=by
 have:=pp.l2; have:=pp.l4; have:=pp.l5; have:=pp.l7; have:=pp.w2
 exact ⟨h.z2.apart (by omega) i v,h.z4.apart (by omega) i v,h.z5.apart (by omega) i v,h.z7.apart (by omega) i v,h.nk.put hT i v,h.sn,h.bl.setCell (p:=⟨p,i,none⟩) (by show W.heap.size ≤ p; omega) v⟩
theorem MV.far (h : MV w p T An nn cn Ai ni ci Ao no co n) {g : Nat} (hT : T g) (hg : p ≠ g) (i : Nat) (v : Value) : MV (w.setCell ⟨g,i,none⟩ v) p T An nn cn Ai ni ci Ao no co n:=⟨h.z.apart hg i v,h.mn.put hT i v,h.sm⟩
theorem MV.take (h : MV w p T An nn cn Ai ni ci Ao no co n) {Bn Bi Bo : Option Addr} {kk dn di do' : Nat} {m : Tn} (hm : NtK T w Bn kk dn Bi ni di Bo no do' m) (sm : Sw Bn kk dn) (hT : T p) : MV (((w.setCell ⟨p,0,none⟩ (.slice Bn kk dn)).setCell ⟨p,1,none⟩ (.slice Bi ni di)).setCell ⟨p,2,none⟩ (.slice Bo no do')) p T Bn kk dn Bi ni di Bo no do' m:=
 ⟨h.z.p3' (.slice Bn kk dn) (.slice Bi ni di) (.slice Bo no do'),((hm.put hT 0 (.slice Bn kk dn)).put hT 1 (.slice Bi ni di)).put hT 2 (.slice Bo no do'),sm⟩
theorem OS.kx (h : OS W w p2 p4 p5 p7 T An nn cn Ai ni ci Ao no co n R) (pp : PP W p2 p4 p5 p7 s0) (hT : T p7) (hk : Kx (fun b => b = p7) w w') {R' : List Value} (z : Own w' p7 60 R') : OS W w' p2 p4 p5 p7 T An nn cn Ai ni ci Ao no co n R':=⟨h.z2.kx hk pp.a27,h.z4.kx hk pp.a47,h.z5.kx hk pp.a57,z,h.nk.kx (hk.mono fun b e => e ▸ hT),h.sn,below_kx6 h.bl hk pp.w7⟩
theorem MV.kx (h : MV w p T An nn cn Ai ni ci Ao no co n) (hp : p ≠ p7) (hT : T p7) (hk : Kx (fun b => b = p7) w w') : MV w' p T An nn cn Ai ni ci Ao no co n:=⟨h.z.kx hk hp,h.mn.kx (hk.mono fun b e => e ▸ hT),h.sm⟩
theorem OS.next (h : OS W w p2 p4 p5 p7 T An nn cn Ai ni ci Ao no co n R) (pp : PP W p2 p4 p5 p7 s0) {Bn Bi Bo : Option Addr} {kk dn di do' : Nat} {m : Tn} (g : MV w p T Bn kk dn Bi ni di Bo no do' m) (hT : T p2) (hT0 : ∀ b,W.heap.size ≤ b ∧ b < s0 → T b) : OS W (((w.setCell ⟨p2,0,none⟩ (.slice Bn kk dn)).setCell ⟨p2,1,none⟩ (.slice Bi ni di)).setCell ⟨p2,2,none⟩ (.slice Bo no do')) p2 p4 p5 p7 (fun b => W.heap.size ≤ b ∧ b < s0) Bn kk dn Bi ni di Bo no do' m R:=
 ⟨h.z2.p3' (.slice Bn kk dn) (.slice Bi ni di) (.slice Bo no do'),((h.z4.apart pp.a24.symm 0 (.slice Bn kk dn)).apart pp.a24.symm 1 (.slice Bi ni di)).apart pp.a24.symm 2 (.slice Bo no do'),((h.z5.apart pp.a25.symm 0 (.slice Bn kk dn)).apart pp.a25.symm 1 (.slice Bi ni di)).apart pp.a25.symm 2 (.slice Bo no do'),((h.z7.apart pp.a27.symm 0 (.slice Bn kk dn)).apart pp.a27.symm 1 (.slice Bi ni di)).apart pp.a27.symm 2 (.slice Bo no do'),(((g.mn.put hT 0 (.slice Bn kk dn)).put hT 1 (.slice Bi ni di)).put hT 2 (.slice Bo no do')).mono hT0,g.sm,h.bl.s3' pp.w2⟩
end
set_option maxRecDepth 20000 in
set_option maxHeartbeats 16000000 in
theorem ropt_yes {An Ai Ao : Option Addr} {nn cn ni ci no co : Nat} {t : Tn} {w : World} {sw : Int} {f s x : Bool} (h : Nt w An nn cn Ai ni ci Ao no co t.N t.I t.O) (sn : Sw An nn cn) (hi : ni ≤ 66) (ho : no ≤ 66) (hb : ∀ p ∈ t.I ++ t.O,p.bits.length ≤ 4000) (hnm : ∀ p ∈ t.I ++ t.O,p.name.size ≤ 1000000) (hn6 : nn ≤ 1000) (hok : OkT t) (hsw : SwR sw f s x) :
  Calls Try.prog 36 #[.agg #[.slice An nn cn,.slice Ai ni ci,.slice Ao no co],.int .i64 sw] w fun en w' => OptX ni no w f s x t en w' ∧ Below w.heap.size w w':=by
 have Ji:=Lib.hid hok
 have K5:=Lib.hid hb
 have Kt:=Lib.hid hnm
 have Jg:=Lib.hid hsw
 have Ku : Hid (t.I.length ≤ 66):=Lib.hid (by have:=h.i.1; omega)
 have HNL : Hid (t.N.length ≤ 1000):=Lib.hid (by have:=h.n.1; omega)
 have Km:=Lib.hid (NtK.arg (t:=t) h)
 have h0 : 0 ≤ sw:=by rcases hsw.h with ⟨e,_⟩ | ⟨e,_⟩ | ⟨e,_⟩ | ⟨e,_⟩ | ⟨e,_⟩ | ⟨e,_⟩ | ⟨e,_⟩ | ⟨e,_⟩ <;> omega
 have h7 : sw ≤ 7:=by rcases hsw.h with ⟨e,_⟩ | ⟨e,_⟩ | ⟨e,_⟩ | ⟨e,_⟩ | ⟨e,_⟩ | ⟨e,_⟩ | ⟨e,_⟩ | ⟨e,_⟩ <;> omega
 clear hok hb hnm hsw hn6
 go_enter Try.func36,Try.ntmps36
 go_upto_region 2 with fail
 obtain ⟨w1,e1⟩ : ∃ w',(((w.alloc (.cells #[.slice An nn cn,.slice Ai ni ci,.slice Ao no co] 25)).alloc (.cells #[.slice none 0 0,.slice none 0 0,.slice none 0 0] 25)).alloc (.cells #[.int .i64 0,.int .i64 0,.int .i64 0,.int .i64 0] 60)).alloc (.cells #[.int .i64 0,.int .i64 0,.int .i64 0,.int .i64 0] 60) = w':=⟨_,rfl⟩
 have Ko:=zal w (.cells #[.slice An nn cn,.slice Ai ni ci,.slice Ao no co] 25) rfl
 have Kb:=zal _ (.cells #[.slice none 0 0,.slice none 0 0,.slice none 0 0] 25) Ko
 have K6:=zal _ (.cells #[.int .i64 0,.int .i64 0,.int .i64 0,.int .i64 0] 60) Kb
 have es4:=zal _ (.cells #[.int .i64 0,.int .i64 0,.int .i64 0,.int .i64 0] 60) K6
 have z2 : Own w1 w.heap.size 25 [.slice An nn cn,.slice Ai ni ci,.slice Ao no co]:=by
  rw [← e1]
  exact (((Own.made w 25 [.slice An nn cn,.slice Ai ni ci,.slice Ao no co]).below (zaa _ _) (by rw [Ko]; omega)).below (zaa _ _) (by rw [Kb]; omega)).below (zaa _ _) (by rw [K6]; omega)
 have z4 : Own w1 (w.heap.size + 1) 25 [.slice none 0 0,.slice none 0 0,.slice none 0 0]:=by
  have k:=Own.made (w.alloc (.cells #[.slice An nn cn,.slice Ai ni ci,.slice Ao no co] 25)) 25 [.slice none 0 0,.slice none 0 0,.slice none 0 0]
  rw [Ko] at k
  rw [← e1]
  exact (k.below (zaa _ _) (by rw [Kb]; omega)).below (zaa _ _) (by rw [K6]; omega)
 have z5 : Own w1 (w.heap.size + 1 + 1) 60 [.int .i64 0,.int .i64 0,.int .i64 0,.int .i64 0]:=by
  have k:=Own.made ((w.alloc (.cells #[.slice An nn cn,.slice Ai ni ci,.slice Ao no co] 25)).alloc (.cells #[.slice none 0 0,.slice none 0 0,.slice none 0 0] 25)) 60 [.int .i64 0,.int .i64 0,.int .i64 0,.int .i64 0]
  rw [Kb] at k
  rw [← e1]
  exact k.below (zaa _ _) (by rw [K6]; omega)
 have z7 : Own w1 (w.heap.size + 1 + 1 + 1) 60 [.int .i64 0,.int .i64 0,.int .i64 0,.int .i64 0]:=by
  have k:=Own.made (((w.alloc (.cells #[.slice An nn cn,.slice Ai ni ci,.slice Ao no co] 25)).alloc (.cells #[.slice none 0 0,.slice none 0 0,.slice none 0 0] 25)).alloc (.cells #[.int .i64 0,.int .i64 0,.int .i64 0,.int .i64 0] 60)) 60 [.int .i64 0,.int .i64 0,.int .i64 0,.int .i64 0]
  rw [K6] at k
  rw [← e1]
  exact k
 have BW : Below w.heap.size w w1:=by rw [← e1]; exact Below.step (Below.step (zbu w _ _) (zaa _ _)) (zaa _ _)
 have Hw : w1.heap.size = w.heap.size + 1 + 1 + 1 + 1:=by rw [← e1]; exact es4
 rw [e1]
 clear e1 Ko Kb K6 es4
 obtain ⟨p7,hp7⟩ : ∃ p,w.heap.size + 1 + 1 + 1 = p:=⟨_,rfl⟩
 obtain ⟨p5,hp5⟩ : ∃ p,w.heap.size + 1 + 1 = p:=⟨_,rfl⟩
 obtain ⟨p4,hp4⟩ : ∃ p,w.heap.size + 1 = p:=⟨_,rfl⟩
 obtain ⟨s0,hs0⟩ : ∃ p,w.heap.size + 1 + 1 + 1 + 1 = p:=⟨_,rfl⟩
 have PP0 : PP w w.heap.size p4 p5 p7 s0:=⟨by omega,by omega,by omega,by omega,by omega,by omega,by omega,by omega,by omega,by omega,by omega,by omega,by omega,by omega⟩
 have H1:=Lib.hid PP0
 rw [hs0] at Hw
 rw [hp7] at z7 ⊢
 rw [hp5] at z5 ⊢
 rw [hp4] at z4 ⊢
 have HS0:=Lib.hid Hw
 have K7 : OS w w1 w.heap.size p4 p5 p7 (fun b => w.heap.size ≤ b) An nn cn Ai ni ci Ao no co t [.int .i64 0,.int .i64 0,.int .i64 0,.int .i64 0]:=⟨z2,z4,z5,z7,Km.out.on BW,sn,BW⟩
 clear hp7 hp5 hp4 hs0 PP0 z2 z4 z5 z7 BW Hw h
 obtain ⟨dd,L,lx⟩:=Ji.out
 have HLX:=Lib.hid lx.lev
 clear lx
 have hd : decide (sw < 0) = false:=by simpa using h0
 have hd2 : decide (7 < sw) = false:=by simpa using h7
 have c0:=K7.z2.cell 0; have c1:=K7.z2.cell 1; have c2:=K7.z2.cell 2
 have c0 : _ = some (Value.slice An nn cn):=c0; have c1 : _ = some (Value.slice Ai ni ci):=c1; have c2 : _ = some (Value.slice Ao no co):=c2
 have Kf:=Lib.hid ((Gd.self Ji.out).nm Kt.out Ku.out K5.out)
 go_wp2_with fail
 refine (zcJ K7.nk.nt Kf.out.nm Kf.out.c HLX.out).mono ?_
 rintro en w2 ⟨Aq,mq,cq,rfl,_,_,b⟩
 clear c0 c1 c2 hd hd2
 have hs2 : s0 ≤ w2.heap.size:=by rw [← HS0.out]; exact b.size
 have H5 : Hid (OS w w2 w.heap.size p4 p5 p7 (fun b => w.heap.size ≤ b ∧ b < s0) An nn cn Ai ni ci Ao no co t [.int .i64 ((0 : Nat) : Int),.int .i64 (((itT f s x t 0).2.1 : Nat) : Int),.int .i64 (((itT f s x t 0).2.2.1 : Nat) : Int),.int .i64 (((itT f s x t 0).2.2.2 : Nat) : Int)]):=Lib.hid (by
  have k:=K7.on b
  exact ⟨k.z2,k.z4,k.z5,k.z7,k.nk.mono fun b h => h.1,k.sn,k.bl⟩)
 clear K7 b
 go_wp2_with fail
 go_loopw [] (fun wr => ∃ (k : Nat) (An : Option Addr) (nn cn : Nat) (Ai : Option Addr) (ci : Nat) (Ao : Option Addr) (co : Nat),k ≤ 12 ∧ Hid (OS w wr w.heap.size p4 p5 p7 (fun b => w.heap.size ≤ b ∧ b < s0) An nn cn Ai ni ci Ao no co (itT f s x t k).1 [.int .i64 (k : Int),.int .i64 (((itT f s x t k).2.1 : Nat) : Int),.int .i64 (((itT f s x t k).2.2.1 : Nat) : Int),.int .i64 (((itT f s x t k).2.2.2 : Nat) : Int)]) ∧ Hid (Gd t (itT f s x t k).1) ∧ Hid (∀ j,j + 1 ≤ k → (itT f s x t (j + 1)).1 ≠ (itT f s x t j).1) ∧ Hid ((itT f s x t k).2.1 ≤ k * 1000 ∧ (itT f s x t k).2.2.1 ≤ k * 1000 ∧ (itT f s x t k).2.2.2 ≤ k * 1000) ∧ s0 ≤ wr.heap.size) (fun wr => 12 - rndW wr p7)
 case atStart => exact ⟨0,An,nn,cn,Ai,ci,Ao,co,Nat.zero_le _,H5,Lib.hid (Gd.self Ji.out),Lib.hid (fun j hj => by omega),Lib.hid ⟨Nat.zero_le _,Nat.zero_le _,Nat.zero_le _⟩,hs2⟩
 clear H5 Km hs2
 obtain ⟨k,An,nn,cn,Ai,ci,Ao,co,hk12,H5,HGD,HON,HBD,hsr⟩:=hrel
 have c0 : wr.cell? ⟨p7,0,none⟩ = some (Value.int .i64 (k : Int)):=H5.out.z7.cell 0
 have hmu : rndW wr p7 = k:=by unfold rndW; rw [c0]; rfl
 have HMU:=Lib.hid hmu
 clear hmu
 by_cases hk : k < 12
 ·have hki : (k : Int) < 12:=by omega
  obtain ⟨n,hn⟩ : ∃ n,(itT f s x t k).1 = n:=⟨_,rfl⟩
  obtain ⟨r1,hr1⟩ : ∃ r,(itT f s x t k).2.1 = r:=⟨_,rfl⟩
  obtain ⟨r2,hr2⟩ : ∃ r,(itT f s x t k).2.2.1 = r:=⟨_,rfl⟩
  obtain ⟨r3,hr3⟩ : ∃ r,(itT f s x t k).2.2.2 = r:=⟨_,rfl⟩
  have Jb:=HBD.out
  rw [hr1,hr2,hr3] at Jb
  rw [hn,hr1,hr2,hr3] at H5
  rw [hn] at HGD
  have HN:=Lib.hid hn; have Kr:=Lib.hid hr1; have Kq:=Lib.hid hr2; have Kp:=Lib.hid hr3
  clear hn hr1 hr2 hr3 HBD
  have hnl : n.N.length ≤ 1000:=Nat.le_trans HGD.out.le HNL.out
  have HU:=Lib.hid (rnd_le f s x n)
  have d0:=H5.out.z2.cell 0; have d1:=H5.out.z2.cell 1; have d2:=H5.out.z2.cell 2
  have d0 : _ = some (Value.slice An nn cn):=d0; have d1 : _ = some (Value.slice Ai ni ci):=d1; have d2 : _ = some (Value.slice Ao no co):=d2
  go_upto_region 9 with fail
  clear c0 d0 d1 d2
  obtain ⟨w3,e3⟩ : ∃ w',wr.alloc (.cells #[.slice An nn cn,.slice Ai ni ci,.slice Ao no co] 25) = w':=⟨_,rfl⟩
  have b3 : Below wr.heap.size wr w3:=e3 ▸ zaa _ _
  have zm : Own w3 wr.heap.size 25 [.slice An nn cn,.slice Ai ni ci,.slice Ao no co]:=by rw [← e3]; exact Own.made wr 25 [.slice An nn cn,.slice Ai ni ci,.slice Ao no co]
  have J8 : w3.heap.size = wr.heap.size + 1:=by rw [← e3]; exact zal wr _ rfl
  rw [e3]
  obtain ⟨p,hp⟩ : ∃ p,wr.heap.size = p:=⟨_,rfl⟩
  have Ky : NtK (TO w s0 p) w3 An nn cn Ai ni ci Ao no co n:=(H5.out.nk.ext.mono fun b h => by
   rcases h with h | h
   ·exact .inl h
   exact .inr (by omega)).on b3
  rw [hp] at zm hsr ⊢
  have Hd : Hid (TO w s0 p p7):=Lib.hid (.inl ⟨H1.out.w7,H1.out.l7⟩)
  have Hb : Hid (TO w s0 p p):=Lib.hid (.inr rfl)
  have H7:=Lib.hid hsr
  have K8 : Hid (p < w3.heap.size):=Lib.hid (by omega)
  have Jf : Hid (∀ b,TO w s0 p b → b ≤ p):=Lib.hid (fun b h => by rcases h with h | h <;> omega)
  have Ho : Hid (OS w w3 w.heap.size p4 p5 p7 (TO w s0 p) An nn cn Ai ni ci Ao no co n [.int .i64 (k : Int),.int .i64 (r1 : Int),.int .i64 (r2 : Int),.int .i64 (r3 : Int)]):=Lib.hid (by
   have q:=H5.out.on b3
   exact ⟨q.z2,q.z4,q.z5,q.z7,Ky,q.sn,q.bl⟩)
  have H6 : Hid (MV w3 p (TO w s0 p) An nn cn Ai ni ci Ao no co n):=Lib.hid ⟨zm,Ky,H5.out.sn⟩
  clear H5 e3 b3 zm J8 hp Ky hsr
  have b3b : r1 + (zaq f s x n).2.1 ≤ 100000 ∧ r2 + (zaq f s x n).2.2.1 ≤ 100000 ∧ r3 + (zaq f s x n).2.2.2 ≤ 100000:=by have:=HU.out; omega
  have Jq:=Lib.hid b3b
  have Ke:=Lib.hid hnl
  have Jp:=Lib.hid Jb
  clear b3b Jb hnl
  go_cut [46] (fun v wx => v = .bool f ∧ wx = w3)
  case first =>
   go_wp2_with fail
   go_meet
   refine ⟨?_,rfl⟩
   rcases Jg.out.h with ⟨rfl,rfl,rfl,rfl⟩ | ⟨rfl,rfl,rfl,rfl⟩ | ⟨rfl,rfl,rfl,rfl⟩ | ⟨rfl,rfl,rfl,rfl⟩ | ⟨rfl,rfl,rfl,rfl⟩ | ⟨rfl,rfl,rfl,rfl⟩ | ⟨rfl,rfl,rfl,rfl⟩ | ⟨rfl,rfl,rfl,rfl⟩
   all_goals rfl
  obtain ⟨rfl,rfl⟩:=hcut
  obtain ⟨w3,rfl⟩ : ∃ x,x = wc:=⟨_,rfl⟩
  go_upto_if 46 with fail
  go_cut [] (fun wx => ∃ (Bn : Option Addr) (kk dn : Nat) (Bi : Option Addr) (di : Nat) (Bo : Option Addr) (do' : Nat),Hid (OS w wx w.heap.size p4 p5 p7 (TO w s0 p) An nn cn Ai ni ci Ao no co n [.int .i64 (k : Int),.int .i64 ((r1 + (zaR f za3 n).2 : Nat) : Int),.int .i64 (r2 : Int),.int .i64 (r3 : Int)]) ∧ Hid (MV wx p (TO w s0 p) Bn kk dn Bi ni di Bo no do' (zaR f za3 n).1) ∧ Hid (Gd n (zaR f za3 n).1) ∧ p < wx.heap.size)
  case first =>
   cases f with
   | false =>
    go_wp2_with fail
    go_meet
    exact ⟨_,_,_,_,_,_,_,Ho,H6,Lib.hid (Gd.self HGD.out.ok),K8.out⟩
   | true =>
    have hnb : nn ≤ 1000:=by have:=H6.out.mn.nt.n.1; have:=Ke.out; omega
    have d0 : w3.cell? ⟨p,0,none⟩ = some (Value.slice An nn cn):=H6.out.z.cell 0
    have d1 : w3.cell? ⟨p,1,none⟩ = some (Value.slice Ai ni ci):=H6.out.z.cell 1
    have d2 : w3.cell? ⟨p,2,none⟩ = some (Value.slice Ao no co):=H6.out.z.cell 2
    go_wp2_with fail
    refine (rfoldX H6.out.mn H6.out.sm (by have:=H6.out.mn.nt.n.1; have:=Ke.out; omega) ho (HGD.out.bits K5.out) (HGD.out.nm Kt.out Ku.out K5.out) HGD.out.ok).mono ?_
    rintro en w4 ⟨⟨Bn,dn,As,cs,Bo,do',M,S,rfl,hnk,hsl,his,has,hM,hch,hg⟩,b⟩
    clear d0 d1 d2
    have Hq:=Ho.out.on b
    have Hs:=H6.out.on b
    have Hr : NtK (TO w s0 p) w4 Bn nn dn Ai ni ci Bo no do' (za3 n).1:=hnk.mono fun b h => ⟨h,Nat.lt_of_le_of_lt (Jf.out b h) K8.out⟩
    have HAS : Hid (∀ b off,As = some ⟨b,off,none⟩ → b ≠ p7):=Lib.hid (fun b off e => by have:=has b off e; have:=K8.out; have:=H1.out.l7; have:=H7.out; omega)
    have HM:=Lib.hid hM; have HCH:=Lib.hid hch; have HG:=Lib.hid hg
    have l4:=b.size
    go_upto_region 11 with fail
    obtain ⟨w5,e5⟩ : ∃ w',w4.alloc (.cells #[.slice Bn nn dn,.slice Ai ni ci,.slice Bo no do'] 25) = w':=⟨_,rfl⟩
    have b5 : Below w4.heap.size w4 w5:=e5 ▸ zaa _ _
    have z5 : Own w5 w4.heap.size 25 [.slice Bn nn dn,.slice Ai ni ci,.slice Bo no do']:=by rw [← e5]; exact Own.made w4 25 [.slice Bn nn dn,.slice Ai ni ci,.slice Bo no do']
    rw [e5]
    have K1:=Lib.hid (Hq.on b5); have Kh:=Lib.hid (Hs.on b5); have Kj:=Lib.hid (his.on b5)
    obtain ⟨p11,hp11⟩ : ∃ p,w4.heap.size = p:=⟨_,rfl⟩
    have nk5:=Hr.on b5
    have l5:=b5.size
    rw [hp11] at z5 ⊢
    have HF5 : Hid (MV w5 p11 (TO w s0 p) Bn nn dn Ai ni ci Bo no do' (za3 n).1):=Lib.hid ⟨z5,nk5,hsl⟩
    have n11 : p11 ≠ p7:=by have:=K8.out; have:=H1.out.l7; have:=H7.out; omega
    have Ht : p ≠ p7:=by have:=H1.out.l7; have:=H7.out; omega
    have HL5 : Hid (p < w5.heap.size):=Lib.hid (by have:=K8.out; omega)
    clear e5 b5 z5 nk5 hp11 l4 l5 b Hq Hs Hr hnk hsl his has hM hch hg Ho H6
    go_wp2_with fail
    go_loopw [14] (fun iv wr => ∃ (i : Nat),i ≤ nn ∧ iv = .int .i64 i ∧ Hid (Own wr p7 60 [.int .i64 (k : Int),.int .i64 ((r1 + chN S M n.N i : Nat) : Int),.int .i64 (r2 : Int),.int .i64 (r3 : Int)]) ∧ Hid (Kx (fun b => b = p7) w5 wr)) (fun iv _ => nn - (intOf iv).toNat)
    case atStart => exact ⟨0,Nat.zero_le _,rfl,Lib.hid K1.out.z7,Lib.hid (Kx.refl _ _)⟩
    obtain ⟨i,hin,rfl,HZ,HK⟩:=hrel
    have Hh:=Lib.hid (Kh.out.kx Ht Hd.out HK.out)
    have K4:=Lib.hid (HF5.out.kx n11 Hd.out HK.out)
    by_cases hlt : i < nn
    ·have Ja : (i : Int) < (nn : Int):=by omega
     have hin0 : (0 : Int) ≤ (i : Int):=by omega
     obtain ⟨bs,os,eA,iS⟩:=(Kj.out.kx HK.out (fun b off e => HAS.out b off e)).iat hlt
     obtain ⟨b1,o1,x1,x2,x3,x4,e1,HX,hA⟩:=Hh.out.mn.nt.n.nat hlt
     obtain ⟨b2,o2,y1,y2,y3,y4,e2,HY,hB⟩:=K4.out.mn.nt.n.nat hlt
     have Jd : wr.cell? ⟨p,0,none⟩ = some (Value.slice An nn cn):=Hh.out.z.cell 0
     have Jc : wr.cell? ⟨p11,0,none⟩ = some (Value.slice Bn nn dn):=K4.out.z.cell 0
     rw [e1] at Jd
     rw [e2] at Jc
     subst eA
     obtain ⟨v,hv⟩ : ∃ v,S.getD i 0 = v:=⟨_,rfl⟩
     rw [hv] at iS
     have i0:=iS.2
     have d1:=hA.c1; have d2:=hB.c1
     have Kw : Hid (chB S M n.N i = ((v != (i : Int)) || (y1 != x1))):=Lib.hid (by
      unfold chB
      rw [hv]
      have q1 : (n.N.getD i nd0).k = x1:=by rw [List.getD_eq_getElem?_getD,HX.out]; rfl
      have q2 : (M.getD i nd0).k = y1:=by rw [← HM.out,List.getD_eq_getElem?_getD,HY.out]; rfl
      rw [q1,q2])
     obtain ⟨cc,hcc⟩ : ∃ c,r1 + chN S M n.N i = c:=⟨_,rfl⟩
     have Kv : Hid (r1 + chN S M n.N (i + 1) = cc + if chB S M n.N i = true then 1 else 0):=Lib.hid (by
      show r1 + (chN S M n.N i + if chB S M n.N i = true then 1 else 0) = _
      omega)
     rw [hcc] at HZ
     have hcb : cc ≤ 1000000:=by
      have h1:=chN_le S M n.N i
      have h2:=Jq.out.1
      have h3:=Hh.out.mn.nt.n.1
      have h4:=Ke.out
      omega
     have k0 : wr.cell? ⟨p7,1,none⟩ = some (Value.int .i64 (cc : Int)):=HZ.out.cell 1
     have k1:=HZ.out.free 1
     have q1 : IntKind.i64.wrap ((cc : Int) + 1) = ((cc + 1 : Nat) : Int):=by rw [IntKind.wrap_i64]; omega
     obtain ⟨c2',hc2⟩ : ∃ c,cc + 1 = c:=⟨_,rfl⟩
     rw [hc2] at q1
     have Kk:=Lib.hid hc2
     have HN9 : chB S M n.N i = true → Hid (Own ((wr).setCell ⟨p7,1,none⟩ (.int .i64 (c2' : Int))) p7 60 [.int .i64 (k : Int),.int .i64 ((r1 + chN S M n.N (i + 1) : Nat) : Int),.int .i64 (r2 : Int),.int .i64 (r3 : Int)]):=fun e => Lib.hid (by
      rw [Kv.out,if_pos e,Kk.out]
      exact HZ.out.put 1 (.int .i64 (c2' : Int)))
     have HN8 : chB S M n.N i = false → Hid (r1 + chN S M n.N (i + 1) = cc):=fun e => Lib.hid (by
      rw [Kv.out,e]
      rfl)
     have HX8:=Lib.hid HN8
     clear HX HY hA hB iS e1 e2 hv hcc hc2 hcb HN8 HN9
     obtain ⟨u1,hu1⟩ : ∃ u,(v != (i : Int)) = u:=⟨_,rfl⟩
     obtain ⟨u2,hu2⟩ : ∃ u,(y1 != x1) = u:=⟨_,rfl⟩
     rw [hu1,hu2] at Kw
     have yes : (u1 || u2) = true → ∀ nq,Hid (Own ((wr.drewN nq).setCell ⟨p7,1,none⟩ (.int .i64 (c2' : Int))) p7 60 [.int .i64 (k : Int),.int .i64 ((r1 + chN S M n.N (i + 1) : Nat) : Int),.int .i64 (r2 : Int),.int .i64 (r3 : Int)]):=fun e nq => Lib.hid (by
      rw [Kv.out,if_pos (by rw [Kw.out]; exact e),Kk.out]
      exact (HZ.out.below (zaD (Below.refl _ _) nq) HZ.out.lt).put 1 (.int .i64 (c2' : Int)))
     have Hm:=Lib.hid yes
     have no' : (u1 || u2) = false → ∀ nq,Hid (Own (wr.drewN nq) p7 60 [.int .i64 (k : Int),.int .i64 ((r1 + chN S M n.N (i + 1) : Nat) : Int),.int .i64 (r2 : Int),.int .i64 (r3 : Int)]):=fun e nq => Lib.hid (by
      rw [(HX8.out (by rw [Kw.out]; exact e)).out]
      exact HZ.out.below (zaD (Below.refl _ _) nq) HZ.out.lt)
     have Jk:=Lib.hid no'
     clear yes no' HX8 Kv Kk Kw
     cases u1
     ·cases u2
      ·go_upto_region 14 with fail
       go_quiet (fail)
       go_wp2_with fail
       go_roundw
       case rel => exact ⟨i + 1,by omega,by go_num,Jk.out rfl _,Lib.hid (HK.out.step (zaD (Below.refl _ _) nq))⟩
       case measure => simp [intOf]; omega
      go_upto_region 14 with fail
      go_quiet (fail)
      go_upto_region 13 with fail
      have Jn : Hid (Kx (fun b => b = p7) w5 ((wr.drewN nq).setCell ⟨p7,1,none⟩ (.int .i64 (c2' : Int)))):=Lib.hid ((HK.out.step (zaD (Below.refl _ _) nq)).set rfl 1 _)
      have Je:=Hm.out rfl nq
      clear Hm Jk k0 k1 q1 i0 d1 d2 Jd Jc
      go_wp2_with fail
      go_roundw
      case rel => exact ⟨i + 1,by omega,by go_num,Je,Jn⟩
      case measure => simp [intOf]; omega
     go_upto_region 14 with fail
     go_quiet (fail)
     go_upto_region 13 with fail
     have Jn : Hid (Kx (fun b => b = p7) w5 ((wr.drewN nq).setCell ⟨p7,1,none⟩ (.int .i64 (c2' : Int)))):=Lib.hid ((HK.out.step (zaD (Below.refl _ _) nq)).set rfl 1 _)
     have Je:=Hm.out rfl nq
     clear Hm Jk k0 k1 q1 i0 d1 d2 Jd Jc
     go_wp2_with fail
     go_roundw
     case rel => exact ⟨i + 1,by omega,by go_num,Je,Jn⟩
     case measure => simp [intOf]; omega
    obtain rfl : i = nn:=by omega
    have Ja : ¬ (i : Int) < (i : Int):=by omega
    have HOr:=Lib.hid (K1.out.kx H1.out Hd.out HK.out HZ.out)
    have HLr : Hid (p < wr.heap.size):=Lib.hid (Nat.lt_of_lt_of_le HL5.out HK.out.size)
    have d0 : wr.cell? ⟨p11,0,none⟩ = some (Value.slice Bn i dn):=K4.out.z.cell 0
    have d1 : wr.cell? ⟨p11,1,none⟩ = some (Value.slice Ai ni ci):=K4.out.z.cell 1
    have d2 : wr.cell? ⟨p11,2,none⟩ = some (Value.slice Bo no do'):=K4.out.z.cell 2
    have g0 : wr.cell? ⟨p,0,none⟩ = some (Value.slice An i cn):=Hh.out.z.cell 0
    have g1 : wr.cell? ⟨p,1,none⟩ = some (Value.slice Ai ni ci):=Hh.out.z.cell 1
    have g2 : wr.cell? ⟨p,2,none⟩ = some (Value.slice Ao no co):=Hh.out.z.cell 2
    have f0:=Hh.out.z.free 0; have f1:=Hh.out.z.free 1; have f2:=Hh.out.z.free 2
    rw [← HCH.out] at HOr
    clear HZ HK Kh HF5 K1 Kj HAS HM HCH
    go_wp2_with fail
    go_meet
    exact ⟨Bn,i,dn,Ai,ci,Bo,do',Lib.hid (((HOr.out.far H1.out Hb.out H7.out 0 (.slice Bn i dn)).far H1.out Hb.out H7.out 1 (.slice Ai ni ci)).far H1.out Hb.out H7.out 2 (.slice Bo no do')),Lib.hid (Hh.out.take K4.out.mn K4.out.sm Hb.out),HG,by simpa [World.setCell] using HLr.out⟩
  clear Ho H6 K8
  obtain ⟨Bn,kk,dn,Bi,di,Bo,do',HOSm,H2,HGM,hlw⟩:=hcut
  obtain ⟨w3,rfl⟩ : ∃ x,x = wc:=⟨_,rfl⟩
  have H9:=Lib.hid hlw
  obtain ⟨c1,hc1⟩ : ∃ c,r1 + (zaR f za3 n).2 = c:=⟨_,rfl⟩
  obtain ⟨m1,hm1⟩ : ∃ m,(zaR f za3 n).1 = m:=⟨_,rfl⟩
  rw [hc1] at HOSm
  rw [hm1] at H2 HGM
  have HC1:=Lib.hid hc1
  have Jm:=Lib.hid hm1
  clear hlw hc1 hm1
  go_upto_region 17 with fail
  go_cut [88] (fun v wx => v = .bool s ∧ wx = w3)
  case first =>
   go_wp2_with fail
   go_meet
   refine ⟨?_,rfl⟩
   rcases Jg.out.h with ⟨rfl,rfl,rfl,rfl⟩ | ⟨rfl,rfl,rfl,rfl⟩ | ⟨rfl,rfl,rfl,rfl⟩ | ⟨rfl,rfl,rfl,rfl⟩ | ⟨rfl,rfl,rfl,rfl⟩ | ⟨rfl,rfl,rfl,rfl⟩ | ⟨rfl,rfl,rfl,rfl⟩ | ⟨rfl,rfl,rfl,rfl⟩
   all_goals rfl
  obtain ⟨rfl,rfl⟩:=hcut
  obtain ⟨w3,rfl⟩ : ∃ x,x = wc:=⟨_,rfl⟩
  go_upto_if 88 with fail
  go_cut [] (fun wx => ∃ (Bn : Option Addr) (kk dn : Nat) (Bi : Option Addr) (di : Nat) (Bo : Option Addr) (do' : Nat),Hid (OS w wx w.heap.size p4 p5 p7 (TO w s0 p) An nn cn Ai ni ci Ao no co n [.int .i64 (k : Int),.int .i64 (c1 : Int),.int .i64 ((r2 + (zaR s zaA m1).2 : Nat) : Int),.int .i64 (r3 : Int)]) ∧ Hid (MV wx p (TO w s0 p) Bn kk dn Bi ni di Bo no do' (zaR s zaA m1).1) ∧ Hid (Gd n (zaR s zaA m1).1) ∧ p < wx.heap.size)
  case first =>
   cases s with
   | false =>
    go_wp2_with fail
    go_meet
    exact ⟨_,_,_,_,_,_,_,HOSm,H2,HGM,H9.out⟩
   | true =>
    have d0 : w3.cell? ⟨p,0,none⟩ = some (Value.slice Bn kk dn):=H2.out.z.cell 0
    have d1 : w3.cell? ⟨p,1,none⟩ = some (Value.slice Bi ni di):=H2.out.z.cell 1
    have d2 : w3.cell? ⟨p,2,none⟩ = some (Value.slice Bo no do'):=H2.out.z.cell 2
    go_wp2_with fail
    refine (rshareX H2.out.mn H2.out.sm (by have:=H2.out.mn.nt.n.1; have:=Ke.out; have:=HGM.out.le; omega) ho ((HGD.out.trans HGM.out).bits K5.out) ((HGD.out.trans HGM.out).nm Kt.out Ku.out K5.out) (HGD.out.trans HGM.out).ok).mono ?_
    rintro en w6 ⟨⟨Cn,cc,Co,ec,rfl,hnk,hsl,hg⟩,b⟩
    clear d0 d1 d2
    have Hq:=HOSm.out.on b
    have Hs:=H2.out.on b
    have Hr : NtK (TO w s0 p) w6 Cn kk cc Bi ni di Co no ec (zaA m1).1:=hnk.mono fun b h => ⟨h,Nat.lt_of_le_of_lt (Jf.out b h) H9.out⟩
    have HG:=Lib.hid (HGM.out.trans hg)
    have l4:=b.size
    obtain ⟨many,hmany⟩ : ∃ c,(zaA m1).2 = c:=⟨_,rfl⟩
    have Kg:=Lib.hid hmany
    rw [hmany]
    go_upto_region 19 with fail
    obtain ⟨w7,e7⟩ : ∃ w',w6.alloc (.cells #[.slice Cn kk cc,.slice Bi ni di,.slice Co no ec] 25) = w':=⟨_,rfl⟩
    have b7 : Below w6.heap.size w6 w7:=e7 ▸ zaa _ _
    have z7 : Own w7 w6.heap.size 25 [.slice Cn kk cc,.slice Bi ni di,.slice Co no ec]:=by rw [← e7]; exact Own.made w6 25 [.slice Cn kk cc,.slice Bi ni di,.slice Co no ec]
    rw [e7]
    have H8:=Lib.hid (Hq.on b7); have Hg:=Lib.hid (Hs.on b7); have Hf:=Lib.hid (Hr.on b7)
    obtain ⟨p15,hp15⟩ : ∃ p,w6.heap.size = p:=⟨_,rfl⟩
    have l5:=b7.size
    rw [hp15] at z7 ⊢
    have J0 : p15 ≠ p7:=by have:=H9.out; have:=H1.out.l7; have:=H7.out; omega
    have Kz : p15 ≠ p:=by have:=H9.out; omega
    have Ht : p ≠ p7:=by have:=H1.out.l7; have:=H7.out; omega
    have Ki : Hid (p < w7.heap.size):=Lib.hid (by have:=H9.out; omega)
    have Jh:=Lib.hid hsl
    obtain ⟨r',hr'⟩ : ∃ r,r2 + many = r:=⟨_,rfl⟩
    have J9 : r' ≤ 1000000:=by
     have h2:=Jq.out.2
     have h3 : (zaq f true x n).2.2.1 = (zaA m1).2:=by show (zaR true zaA (zaR f za3 n).1).2 = _; rw [Jm.out]; rfl
     omega
    have q1 : IntKind.i64.wrap ((r2 : Int) + (many : Int)) = (r' : Int):=by rw [IntKind.wrap_i64]; omega
    have Kc:=Lib.hid hr'
    have k0 : w7.cell? ⟨p7,2,none⟩ = some (Value.int .i64 (r2 : Int)):=H8.out.z7.cell 2
    have k1:=H8.out.z7.free 2
    clear e7 b7 hp15 l4 l5 b Hq Hs Hr hnk hsl hg hmany hr' J9 HOSm H2
    go_upto_region 20 with fail
    clear k0 k1 q1
    have H4:=Lib.hid (H8.out.tell H1.out Hd.out 2 (.int .i64 (r' : Int)))
    have H0:=Lib.hid (Hg.out.far Hd.out Ht 2 (.int .i64 (r' : Int)))
    have He:=Lib.hid (Hf.out.put Hd.out 2 (.int .i64 (r' : Int)))
    replace z7:=z7.apart J0 2 (.int .i64 (r' : Int))
    have Hp : Hid (p < (w7.setCell ⟨p7,2,none⟩ (.int .i64 (r' : Int))).heap.size):=Lib.hid (by simpa [World.setCell] using Ki.out)
    obtain ⟨w8,e8⟩ : ∃ w',w7.setCell ⟨p7,2,none⟩ (.int .i64 (r' : Int)) = w':=⟨_,rfl⟩
    rw [e8] at H4 H0 He z7 Hp ⊢
    clear e8 H8 Hg Hf Ki
    have d0 : w8.cell? ⟨p15,0,none⟩ = some (Value.slice Cn kk cc):=z7.cell 0
    have d1 : w8.cell? ⟨p15,1,none⟩ = some (Value.slice Bi ni di):=z7.cell 1
    have d2 : w8.cell? ⟨p15,2,none⟩ = some (Value.slice Co no ec):=z7.cell 2
    have g0 : w8.cell? ⟨p,0,none⟩ = some (Value.slice Bn kk dn):=H0.out.z.cell 0
    have g1 : w8.cell? ⟨p,1,none⟩ = some (Value.slice Bi ni di):=H0.out.z.cell 1
    have g2 : w8.cell? ⟨p,2,none⟩ = some (Value.slice Bo no do'):=H0.out.z.cell 2
    have f0:=H0.out.z.free 0; have f1:=H0.out.z.free 1; have f2:=H0.out.z.free 2
    have K0 : Hid (OS w w8 w.heap.size p4 p5 p7 (TO w s0 p) An nn cn Ai ni ci Ao no co n [.int .i64 (k : Int),.int .i64 (c1 : Int),.int .i64 ((r2 + (zaR true zaA m1).2 : Nat) : Int),.int .i64 (r3 : Int)]):=Lib.hid (by
     have e : r2 + (zaR true zaA m1).2 = r':=by rw [← Kc.out,← Kg.out]; rfl
     rw [e]
     exact H4.out)
    clear H4 Kc Kg z7
    go_wp2_with fail
    go_meet
    exact ⟨Cn,kk,cc,Bi,di,Co,ec,Lib.hid (((K0.out.far H1.out Hb.out H7.out 0 (.slice Cn kk cc)).far H1.out Hb.out H7.out 1 (.slice Bi ni di)).far H1.out Hb.out H7.out 2 (.slice Co no ec)),Lib.hid (H0.out.take He.out Jh.out Hb.out),HG,by simpa [World.setCell] using Hp.out⟩
  clear HOSm H2 HGM H9
  obtain ⟨Bn,kk,dn,Bi,di,Bo,do',HOSm,H2,HGM,hlw⟩:=hcut
  obtain ⟨w3,rfl⟩ : ∃ x,x = wc:=⟨_,rfl⟩
  have H9:=Lib.hid hlw
  obtain ⟨c2,hc2⟩ : ∃ c,r2 + (zaR s zaA m1).2 = c:=⟨_,rfl⟩
  obtain ⟨m2,hm2⟩ : ∃ m,(zaR s zaA m1).1 = m:=⟨_,rfl⟩
  rw [hc2] at HOSm
  rw [hm2] at H2 HGM
  have Kk:=Lib.hid hc2
  have HM2:=Lib.hid hm2
  clear hlw hc2 hm2
  go_upto_region 21 with fail
  go_cut [103] (fun v wx => v = .bool x ∧ wx = w3)
  case first =>
   go_wp2_with fail
   go_meet
   refine ⟨?_,rfl⟩
   rcases Jg.out.h with ⟨rfl,rfl,rfl,rfl⟩ | ⟨rfl,rfl,rfl,rfl⟩ | ⟨rfl,rfl,rfl,rfl⟩ | ⟨rfl,rfl,rfl,rfl⟩ | ⟨rfl,rfl,rfl,rfl⟩ | ⟨rfl,rfl,rfl,rfl⟩ | ⟨rfl,rfl,rfl,rfl⟩ | ⟨rfl,rfl,rfl,rfl⟩
   all_goals rfl
  obtain ⟨rfl,rfl⟩:=hcut
  obtain ⟨w3,rfl⟩ : ∃ x,x = wc:=⟨_,rfl⟩
  go_upto_if 103 with fail
  go_cut [] (fun wx => ∃ (Bn : Option Addr) (kk dn : Nat) (Bi : Option Addr) (di : Nat) (Bo : Option Addr) (do' : Nat),Hid (OS w wx w.heap.size p4 p5 p7 (TO w s0 p) An nn cn Ai ni ci Ao no co n [.int .i64 (k : Int),.int .i64 (c1 : Int),.int .i64 (c2 : Int),.int .i64 ((r3 + (zaR x zao m2).2 : Nat) : Int)]) ∧ Hid (MV wx p (TO w s0 p) Bn kk dn Bi ni di Bo no do' (zaR x zao m2).1) ∧ Hid (Gd n (zaR x zao m2).1) ∧ p < wx.heap.size)
  case first =>
   cases x with
   | false =>
    go_wp2_with fail
    go_meet
    exact ⟨_,_,_,_,_,_,_,HOSm,H2,HGM,H9.out⟩
   | true =>
    have d0 : w3.cell? ⟨p,0,none⟩ = some (Value.slice Bn kk dn):=H2.out.z.cell 0
    have d1 : w3.cell? ⟨p,1,none⟩ = some (Value.slice Bi ni di):=H2.out.z.cell 1
    have d2 : w3.cell? ⟨p,2,none⟩ = some (Value.slice Bo no do'):=H2.out.z.cell 2
    go_wp2_with fail
    refine (rsweepX H2.out.mn hi ho ((HGD.out.trans HGM.out).bits K5.out) ((HGD.out.trans HGM.out).nm Kt.out Ku.out K5.out) (HGD.out.trans HGM.out).ok).mono ?_
    rintro en w6 ⟨⟨Cn,k5,cc,Ci,ei,Co,ec,rfl,hnk,hsl,hg⟩,b⟩
    clear d0 d1 d2
    have Hq:=HOSm.out.on b
    have Hs:=H2.out.on b
    have Hr : NtK (TO w s0 p) w6 Cn k5 cc Ci ni ei Co no ec (zao m2).1:=hnk.mono fun b h => Nat.lt_of_le_of_lt (Jf.out b h) H9.out
    have HG:=Lib.hid (HGM.out.trans hg)
    have l4:=b.size
    obtain ⟨many,hmany⟩ : ∃ c,(zao m2).2 = c:=⟨_,rfl⟩
    have Kg:=Lib.hid hmany
    rw [hmany]
    go_upto_region 23 with fail
    obtain ⟨w7,e7⟩ : ∃ w',w6.alloc (.cells #[.slice Cn k5 cc,.slice Ci ni ei,.slice Co no ec] 25) = w':=⟨_,rfl⟩
    have b7 : Below w6.heap.size w6 w7:=e7 ▸ zaa _ _
    have z7 : Own w7 w6.heap.size 25 [.slice Cn k5 cc,.slice Ci ni ei,.slice Co no ec]:=by rw [← e7]; exact Own.made w6 25 [.slice Cn k5 cc,.slice Ci ni ei,.slice Co no ec]
    rw [e7]
    have H8:=Lib.hid (Hq.on b7); have Hg:=Lib.hid (Hs.on b7); have Hf:=Lib.hid (Hr.on b7)
    obtain ⟨p15,hp15⟩ : ∃ p,w6.heap.size = p:=⟨_,rfl⟩
    have l5:=b7.size
    rw [hp15] at z7 ⊢
    have J0 : p15 ≠ p7:=by have:=H9.out; have:=H1.out.l7; have:=H7.out; omega
    have Kz : p15 ≠ p:=by have:=H9.out; omega
    have Ht : p ≠ p7:=by have:=H1.out.l7; have:=H7.out; omega
    have Ki : Hid (p < w7.heap.size):=Lib.hid (by have:=H9.out; omega)
    have Jh:=Lib.hid hsl
    obtain ⟨r',hr'⟩ : ∃ r,r3 + many = r:=⟨_,rfl⟩
    have J9 : r' ≤ 1000000:=by
     have h2:=Jq.out.2
     have h3 : (zaq f s true n).2.2.2 = (zao m2).2:=by show (zaR true zao (zaR s zaA (zaR f za3 n).1).1).2 = _; rw [Jm.out,HM2.out]; rfl
     omega
    have q1 : IntKind.i64.wrap ((r3 : Int) + (many : Int)) = (r' : Int):=by rw [IntKind.wrap_i64]; omega
    have Kc:=Lib.hid hr'
    have k0 : w7.cell? ⟨p7,3,none⟩ = some (Value.int .i64 (r3 : Int)):=H8.out.z7.cell 3
    have k1:=H8.out.z7.free 3
    clear e7 b7 hp15 l4 l5 b Hq Hs Hr hnk hsl hg hmany hr' J9 HOSm H2
    go_upto_region 24 with fail
    clear k0 k1 q1
    have H4:=Lib.hid (H8.out.tell H1.out Hd.out 3 (.int .i64 (r' : Int)))
    have H0:=Lib.hid (Hg.out.far Hd.out Ht 3 (.int .i64 (r' : Int)))
    have He:=Lib.hid (Hf.out.put Hd.out 3 (.int .i64 (r' : Int)))
    replace z7:=z7.apart J0 3 (.int .i64 (r' : Int))
    have Hp : Hid (p < (w7.setCell ⟨p7,3,none⟩ (.int .i64 (r' : Int))).heap.size):=Lib.hid (by simpa [World.setCell] using Ki.out)
    obtain ⟨w8,e8⟩ : ∃ w',w7.setCell ⟨p7,3,none⟩ (.int .i64 (r' : Int)) = w':=⟨_,rfl⟩
    rw [e8] at H4 H0 He z7 Hp ⊢
    clear e8 H8 Hg Hf Ki
    have d0 : w8.cell? ⟨p15,0,none⟩ = some (Value.slice Cn k5 cc):=z7.cell 0
    have d1 : w8.cell? ⟨p15,1,none⟩ = some (Value.slice Ci ni ei):=z7.cell 1
    have d2 : w8.cell? ⟨p15,2,none⟩ = some (Value.slice Co no ec):=z7.cell 2
    have g0 : w8.cell? ⟨p,0,none⟩ = some (Value.slice Bn kk dn):=H0.out.z.cell 0
    have g1 : w8.cell? ⟨p,1,none⟩ = some (Value.slice Bi ni di):=H0.out.z.cell 1
    have g2 : w8.cell? ⟨p,2,none⟩ = some (Value.slice Bo no do'):=H0.out.z.cell 2
    have f0:=H0.out.z.free 0; have f1:=H0.out.z.free 1; have f2:=H0.out.z.free 2
    have K0 : Hid (OS w w8 w.heap.size p4 p5 p7 (TO w s0 p) An nn cn Ai ni ci Ao no co n [.int .i64 (k : Int),.int .i64 (c1 : Int),.int .i64 (c2 : Int),.int .i64 ((r3 + (zaR true zao m2).2 : Nat) : Int)]):=Lib.hid (by
     have e : r3 + (zaR true zao m2).2 = r':=by rw [← Kc.out,← Kg.out]; rfl
     rw [e]
     exact H4.out)
    clear H4 Kc Kg z7
    go_wp2_with fail
    go_meet
    exact ⟨Cn,k5,cc,Ci,ei,Co,ec,Lib.hid (((K0.out.far H1.out Hb.out H7.out 0 (.slice Cn k5 cc)).far H1.out Hb.out H7.out 1 (.slice Ci ni ei)).far H1.out Hb.out H7.out 2 (.slice Co no ec)),Lib.hid (H0.out.take He.out Jh.out Hb.out),HG,by simpa [World.setCell] using Hp.out⟩
  clear HOSm H2 HGM H9
  obtain ⟨Bn,kk,dn,Bi,di,Bo,do',HOSm,H2,HGM,hlw⟩:=hcut
  obtain ⟨w3,rfl⟩ : ∃ x,x = wc:=⟨_,rfl⟩
  have H9:=Lib.hid hlw
  obtain ⟨c3,hc3⟩ : ∃ c,r3 + (zaR x zao m2).2 = c:=⟨_,rfl⟩
  obtain ⟨m3,hm3⟩ : ∃ m,(zaR x zao m2).1 = m:=⟨_,rfl⟩
  rw [hc3] at HOSm
  rw [hm3] at H2 HGM
  have HC3:=Lib.hid hc3
  have HM3:=Lib.hid hm3
  clear hlw hc3 hm3
  have k0 : w3.cell? ⟨p7,0,none⟩ = some (Value.int .i64 (k : Int)):=HOSm.out.z7.cell 0
  have k1:=HOSm.out.z7.free 0
  have q1 : IntKind.i64.wrap ((k : Int) + 1) = ((k + 1 : Nat) : Int):=by rw [IntKind.wrap_i64]; omega
  obtain ⟨k',Ka⟩ : ∃ c,k + 1 = c:=⟨_,rfl⟩
  rw [Ka] at q1
  have K9:=Lib.hid Ka
  have Ht : p ≠ p7:=by have:=H1.out.l7; have:=H7.out; omega
  have K3 : Hid (itT f s x t k' = (m3,(c1,c2,c3))):=Lib.hid (by
   rw [← K9.out]
   show ((zaq f s x (itT f s x t k).1).1,((itT f s x t k).2.1 + (zaq f s x (itT f s x t k).1).2.1,(itT f s x t k).2.2.1 + (zaq f s x (itT f s x t k).1).2.2.1,(itT f s x t k).2.2.2 + (zaq f s x (itT f s x t k).1).2.2.2)) = _
   rw [HN.out,Kr.out,Kq.out,Kp.out]
   unfold zaq
   dsimp only
   rw [HC1.out,Jm.out,Kk.out,HM2.out,HC3.out,HM3.out])
  clear Ka
  go_upto_region 26 with fail
  clear k0 k1 q1
  have H4 : Hid (OS w (w3.setCell ⟨p7,0,none⟩ (.int .i64 (k' : Int))) w.heap.size p4 p5 p7 (TO w s0 p) An nn cn Ai ni ci Ao no co n [.int .i64 (k' : Int),.int .i64 (c1 : Int),.int .i64 (c2 : Int),.int .i64 (c3 : Int)]):=Lib.hid (HOSm.out.tell H1.out Hd.out 0 (.int .i64 (k' : Int)))
  have H0:=Lib.hid (H2.out.far Hd.out Ht 0 (.int .i64 (k' : Int)))
  have Hp : Hid (p < (w3.setCell ⟨p7,0,none⟩ (.int .i64 (k' : Int))).heap.size):=Lib.hid (by simpa [World.setCell] using H9.out)
  obtain ⟨w8,e8⟩ : ∃ w',w3.setCell ⟨p7,0,none⟩ (.int .i64 (k' : Int)) = w':=⟨_,rfl⟩
  rw [e8] at H4 H0 Hp ⊢
  clear e8 HOSm H2 H9
  have d0 : w8.cell? ⟨w.heap.size,0,none⟩ = some (Value.slice An nn cn):=H4.out.z2.cell 0
  have d1 : w8.cell? ⟨w.heap.size,1,none⟩ = some (Value.slice Ai ni ci):=H4.out.z2.cell 1
  have d2 : w8.cell? ⟨w.heap.size,2,none⟩ = some (Value.slice Ao no co):=H4.out.z2.cell 2
  have g0 : w8.cell? ⟨p,0,none⟩ = some (Value.slice Bn kk dn):=H0.out.z.cell 0
  have g1 : w8.cell? ⟨p,1,none⟩ = some (Value.slice Bi ni di):=H0.out.z.cell 1
  have g2 : w8.cell? ⟨p,2,none⟩ = some (Value.slice Bo no do'):=H0.out.z.cell 2
  go_wp2_with fail
  obtain ⟨v,hv⟩ : ∃ v,zct n.N m3.N n.I m3.I n.O m3.O = v:=⟨_,rfl⟩
  have HV:=Lib.hid hv
  refine (zcI H4.out.nk.nt H0.out.mn.nt v HV.out).mono ?_
  rintro en w9 ⟨rfl,b⟩
  clear d0 d1 d2 g0 g1 g2 hv
  have H5:=Lib.hid (H4.out.on b)
  have H2:=Lib.hid (H0.out.on b)
  have HL9 : Hid (p < w9.heap.size):=Lib.hid (Nat.lt_of_lt_of_le Hp.out b.size)
  clear b H4 H0 Hp
  cases v
  ·have d0 : w9.cell? ⟨w.heap.size,0,none⟩ = some (Value.slice An nn cn):=H5.out.z2.cell 0
   have d1 : w9.cell? ⟨w.heap.size,1,none⟩ = some (Value.slice Ai ni ci):=H5.out.z2.cell 1
   have d2 : w9.cell? ⟨w.heap.size,2,none⟩ = some (Value.slice Ao no co):=H5.out.z2.cell 2
   have g0 : w9.cell? ⟨p,0,none⟩ = some (Value.slice Bn kk dn):=H2.out.z.cell 0
   have g1 : w9.cell? ⟨p,1,none⟩ = some (Value.slice Bi ni di):=H2.out.z.cell 1
   have g2 : w9.cell? ⟨p,2,none⟩ = some (Value.slice Bo no do'):=H2.out.z.cell 2
   have f0:=H5.out.z2.free 0; have f1:=H5.out.z2.free 1; have f2:=H5.out.z2.free 2
   go_wp2_with fail
   clear d0 d1 d2 g0 g1 g2 f0 f1 f2
   have Ks:=Lib.hid (H5.out.next H1.out H2.out (.inl ⟨H1.out.w2,H1.out.l2⟩) (fun b h => .inl h))
   have HZ9 : Hid (s0 ≤ (((w9.setCell ⟨w.heap.size,0,none⟩ (.slice Bn kk dn)).setCell ⟨w.heap.size,1,none⟩ (.slice Bi ni di)).setCell ⟨w.heap.size,2,none⟩ (.slice Bo no do')).heap.size):=Lib.hid (by
    have h1:=HL9.out
    have h2:=H7.out
    have : s0 ≤ w9.heap.size:=by omega
    simpa [World.setCell] using this)
   obtain ⟨wN,eN⟩ : ∃ w',((w9.setCell ⟨w.heap.size,0,none⟩ (.slice Bn kk dn)).setCell ⟨w.heap.size,1,none⟩ (.slice Bi ni di)).setCell ⟨w.heap.size,2,none⟩ (.slice Bo no do') = w':=⟨_,rfl⟩
   rw [eN] at Ks HZ9 ⊢
   clear eN H5 H2 HL9
   have HRN : Hid (rndW wN p7 = k'):=Lib.hid (by
    have c : wN.cell? ⟨p7,0,none⟩ = some (Value.int .i64 (k' : Int)):=Ks.out.z7.cell 0
    unfold rndW
    rw [c]
    rfl)
   have Jj : Hid (OS w wN w.heap.size p4 p5 p7 (fun b => w.heap.size ≤ b ∧ b < s0) Bn kk dn Bi ni di Bo no do' (itT f s x t k').1 [.int .i64 (k' : Int),.int .i64 (((itT f s x t k').2.1 : Nat) : Int),.int .i64 (((itT f s x t k').2.2.1 : Nat) : Int),.int .i64 (((itT f s x t k').2.2.2 : Nat) : Int)]):=Lib.hid (by
    rw [K3.out]
    exact Ks.out)
   have Jo : Hid (Gd t (itT f s x t k').1):=Lib.hid (by
    rw [K3.out]
    exact HGD.out.trans HGM.out)
   have Kd : Hid (∀ j,j + 1 ≤ k' → (itT f s x t (j + 1)).1 ≠ (itT f s x t j).1):=Lib.hid fun j hj e => by
    have Kn:=K9.out
    by_cases h1 : j + 1 ≤ k
    ·exact HON.out j h1 e
    have hjk : j = k:=by omega
    rw [hjk,Kn,K3.out,HN.out] at e
    have e : m3 = n:=e
    have h2 : zct n.N m3.N n.I m3.I n.O m3.O = true:=zdc.2 e.symm
    rw [HV.out] at h2
    cases h2
   have Kl : Hid ((itT f s x t k').2.1 ≤ k' * 1000 ∧ (itT f s x t k').2.2.1 ≤ k' * 1000 ∧ (itT f s x t k').2.2.2 ≤ k' * 1000):=Lib.hid (by
    have hu:=HU.out
    have hb:=Jp.out
    have hl:=Ke.out
    rw [← K9.out]
    show (itT f s x t k).2.1 + (zaq f s x (itT f s x t k).1).2.1 ≤ _ ∧ (itT f s x t k).2.2.1 + (zaq f s x (itT f s x t k).1).2.2.1 ≤ _ ∧ (itT f s x t k).2.2.2 + (zaq f s x (itT f s x t k).1).2.2.2 ≤ _
    rw [HN.out,Kr.out,Kq.out,Kp.out]
    omega)
   have Ka : k' ≤ 12:=by have:=K9.out; omega
   clear Ks
   go_roundw
   case rel => exact ⟨k',Bn,kk,dn,Bi,di,Bo,do',Ka,Jj,Jo,Kd,Kl,HZ9.out⟩
   rw [HRN.out,HMU.out]
   have:=K9.out
   omega
  have Hu : p ≠ p4:=by have:=H1.out.l4; have:=H7.out; omega
  have Hi : p ≠ p5:=by have:=H1.out.l5; have:=H7.out; omega
  have Hz : TO w s0 p p4:=.inl ⟨H1.out.w4,H1.out.l4⟩
  have Hn : TO w s0 p p5:=.inl ⟨H1.out.w5,H1.out.l5⟩
  go_upto_region 27 with fail
  have Hv : p7 ≠ p4:=H1.out.a47.symm
  have Hj : p7 ≠ p5:=H1.out.a57.symm
  have Ha : p4 ≠ p5:=H1.out.a45
  refine LexG.region_planU (KB3.ok p7 p p) [2,3] [0,1,2,3,4] (h:=?_)
  dsimp only [LexG.pick,LexG.nth]
  have bd : Below w9.heap.size w9 w9.drew:=(Below.refl _ _).drew
  have H3:=Lib.hid (H5.out.on bd)
  have zn:=(H2.out.z).below bd (H2.out.z).lt
  have K2:=Lib.hid ((H2.out.mn).on bd)
  obtain ⟨w9,e9⟩ : ∃ w',w9.drew = w':=⟨_,rfl⟩
  rw [e9] at H3 zn K2 ⊢
  clear e9 bd
  have Hl:=Lib.hid zn
  clear zn
  have J7:=fun s' : LexG.Wd (KB3 p7 p p) w9 => (show s'.w.cell? ⟨p,0,none⟩ = some (Value.slice Bn kk dn) from (zac s'.rel.2.1 0).trans (Hl.out.cell 0))
  have J6:=fun s' : LexG.Wd (KB3 p7 p p) w9 => (show s'.w.cell? ⟨p,1,none⟩ = some (Value.slice Bi ni di) from (zac s'.rel.2.1 1).trans (Hl.out.cell 1))
  have J5:=fun s' : LexG.Wd (KB3 p7 p p) w9 => (show s'.w.cell? ⟨p,2,none⟩ = some (Value.slice Bo no do') from (zac s'.rel.2.1 2).trans (Hl.out.cell 2))
  have J4:=fun s' : LexG.Wd (KB3 p7 p p) w9 => (show s'.w.cell? ⟨p7,0,none⟩ = some (Value.int .i64 (k' : Int)) from (zac s'.rel.1 0).trans (H3.out.z7.cell 0))
  have J3:=fun s' : LexG.Wd (KB3 p7 p p) w9 => (show s'.w.cell? ⟨p7,1,none⟩ = some (Value.int .i64 (c1 : Int)) from (zac s'.rel.1 1).trans (H3.out.z7.cell 1))
  have J2:=fun s' : LexG.Wd (KB3 p7 p p) w9 => (show s'.w.cell? ⟨p7,2,none⟩ = some (Value.int .i64 (c2 : Int)) from (zac s'.rel.1 2).trans (H3.out.z7.cell 2))
  have J1:=fun s' : LexG.Wd (KB3 p7 p p) w9 => (show s'.w.cell? ⟨p7,3,none⟩ = some (Value.int .i64 (c3 : Int)) from (zac s'.rel.1 3).trans (H3.out.z7.cell 3))
  refine LexG.lexU_plain 2 (by kernel_rfl) (by kernel_rfl) ?_
  dsimp only [List.take,List.drop]
  repeat go_big_quiet_step (fail)
  refine wpQuiet_nil ?_
  clear J7 J6 J5 J4 J3 J2 J1
  have f0:=H3.out.z4.free 0; have f1:=H3.out.z4.free 1; have f2:=H3.out.z4.free 2
  have g0 : _ = some (Value.slice none 0 0):=H3.out.z4.cell 0; have g1 : _ = some (Value.slice none 0 0):=H3.out.z4.cell 1; have g2 : _ = some (Value.slice none 0 0):=H3.out.z4.cell 2
  refine LexG.lexU_call (h:=fun K hK => ?_)
  go_simp
  have k7 : (((w9.setCell ⟨p4,0,none⟩ (.slice Bn kk dn)).setCell ⟨p4,1,none⟩ (.slice Bi ni di)).setCell ⟨p4,2,none⟩ (.slice Bo no do')).heap[p7]? = w9.heap[p7]?:=by
   rw [Below.heap_setCell _ _ _ _ Hv,Below.heap_setCell _ _ _ _ Hv,Below.heap_setCell _ _ _ _ Hv]
  have kn : (((w9.setCell ⟨p4,0,none⟩ (.slice Bn kk dn)).setCell ⟨p4,1,none⟩ (.slice Bi ni di)).setCell ⟨p4,2,none⟩ (.slice Bo no do')).heap[p]? = w9.heap[p]?:=by
   rw [Below.heap_setCell _ _ _ _ Hu,Below.heap_setCell _ _ _ _ Hu,Below.heap_setCell _ _ _ _ Hu]
  refine hK _ _ ⟨k7,kn,kn⟩ ?_
  clear hK K k7 kn f0 f1 f2 g0 g1 g2
  have Z4:=H3.out.z4.p3' (.slice Bn kk dn) (.slice Bi ni di) (.slice Bo no do')
  have Z5:=((H3.out.z5.apart Ha.symm 0 (.slice Bn kk dn)).apart Ha.symm 1 (.slice Bi ni di)).apart Ha.symm 2 (.slice Bo no do')
  have Hy:=((K2.out.put Hz 0 (.slice Bn kk dn)).put Hz 1 (.slice Bi ni di)).put Hz 2 (.slice Bo no do')
  have B2:=H3.out.bl.e3' H1.out.w4 (.slice Bn kk dn) (.slice Bi ni di) (.slice Bo no do')
  obtain ⟨w10,e10⟩ : ∃ w',(((w9.setCell ⟨p4,0,none⟩ (.slice Bn kk dn)).setCell ⟨p4,1,none⟩ (.slice Bi ni di)).setCell ⟨p4,2,none⟩ (.slice Bo no do')) = w':=⟨_,rfl⟩
  rw [e10] at Z4 Z5 Hy B2 ⊢
  clear e10 H3 K2 Hl
  obtain ⟨f0,f1,f2,f3⟩:=Z5.zof0f1f2f3
  obtain ⟨g0,g1,g2,g3⟩:=Z5.zo4
  refine LexG.lexU_call (h:=fun K hK => ?_)
  go_simp
  have k7 : ((((w10.setCell ⟨p5,0,none⟩ (.int .i64 (k' : Int))).setCell ⟨p5,1,none⟩ (.int .i64 (c1 : Int))).setCell ⟨p5,2,none⟩ (.int .i64 (c2 : Int))).setCell ⟨p5,3,none⟩ (.int .i64 (c3 : Int))).heap[p7]? = w10.heap[p7]?:=by
   rw [Below.heap_setCell _ _ _ _ Hj,Below.heap_setCell _ _ _ _ Hj,Below.heap_setCell _ _ _ _ Hj,Below.heap_setCell _ _ _ _ Hj]
  have kn : ((((w10.setCell ⟨p5,0,none⟩ (.int .i64 (k' : Int))).setCell ⟨p5,1,none⟩ (.int .i64 (c1 : Int))).setCell ⟨p5,2,none⟩ (.int .i64 (c2 : Int))).setCell ⟨p5,3,none⟩ (.int .i64 (c3 : Int))).heap[p]? = w10.heap[p]?:=by
   rw [Below.heap_setCell _ _ _ _ Hi,Below.heap_setCell _ _ _ _ Hi,Below.heap_setCell _ _ _ _ Hi,Below.heap_setCell _ _ _ _ Hi]
  refine hK _ _ ⟨k7,kn,kn⟩ ?_
  clear hK K k7 kn f0 f1 f2 f3 g0 g1 g2 g3
  have Hc:=Z5.p4' (.int .i64 (k' : Int)) (.int .i64 (c1 : Int)) (.int .i64 (c2 : Int)) (.int .i64 (c3 : Int))
  have Hk:=(((Z4.apart Ha 0 (.int .i64 (k' : Int))).apart Ha 1 (.int .i64 (c1 : Int))).apart Ha 2 (.int .i64 (c2 : Int))).apart Ha 3 (.int .i64 (c3 : Int))
  have Hx:=(((Hy.put Hn 0 (.int .i64 (k' : Int))).put Hn 1 (.int .i64 (c1 : Int))).put Hn 2 (.int .i64 (c2 : Int))).put Hn 3 (.int .i64 (c3 : Int))
  have B3:=B2.e4' H1.out.w5 (.int .i64 (k' : Int)) (.int .i64 (c1 : Int)) (.int .i64 (c2 : Int)) (.int .i64 (c3 : Int))
  obtain ⟨w11,e11⟩ : ∃ w',((((w10.setCell ⟨p5,0,none⟩ (.int .i64 (k' : Int))).setCell ⟨p5,1,none⟩ (.int .i64 (c1 : Int))).setCell ⟨p5,2,none⟩ (.int .i64 (c2 : Int))).setCell ⟨p5,3,none⟩ (.int .i64 (c3 : Int))) = w':=⟨_,rfl⟩
  rw [e11] at Hc Hk Hx B3 ⊢
  clear e11 Z4 Z5 Hy B2
  refine LexG.lexU_plain 1 (by kernel_rfl) (by kernel_rfl) ?_
  dsimp only [List.take,List.drop]
  repeat go_big_quiet_step (fail)
  refine wpQuiet_nil ?_
  refine LexG.lexU_nil ?_
  dsimp only [NoPanic]
  have Jl:=Lib.hid Hx.nt
  clear Hx
  have j0 : w11.cell? ⟨p4,0,none⟩ = some (Value.slice Bn kk dn):=Hk.cell 0; have j1 : w11.cell? ⟨p4,1,none⟩ = some (Value.slice Bi ni di):=Hk.cell 1; have j2 : w11.cell? ⟨p4,2,none⟩ = some (Value.slice Bo no do'):=Hk.cell 2
  have i0 : w11.cell? ⟨p5,0,none⟩ = some (Value.int .i64 (k' : Int)):=Hc.cell 0; have i1 : w11.cell? ⟨p5,1,none⟩ = some (Value.int .i64 (c1 : Int)):=Hc.cell 1; have i2 : w11.cell? ⟨p5,2,none⟩ = some (Value.int .i64 (c2 : Int)):=Hc.cell 2; have i3 : w11.cell? ⟨p5,3,none⟩ = some (Value.int .i64 (c3 : Int)):=Hc.cell 3
  go_wp2_with fail
  refine bodyPost_ret (v:=.tuple #[.agg #[.slice Bn kk dn,.slice Bi ni di,.slice Bo no do'],.agg #[.int .i64 (k' : Int),.int .i64 (c1 : Int),.int .i64 (c2 : Int),.int .i64 (c3 : Int)],.int .i64 0]) (by simp [results,Try.results36,go_sem,j0,j1,j2,i0,i1,i2,i3]) rfl ⟨?_,B3⟩
  unfold OptX
  have e1 : n = m3:=zdc.1 HV.out
  have Kn:=K9.out
  exact ⟨k',Bn,kk,dn,Bi,di,Bo,do',by rw [K3.out],⟨by omega,by omega,fun j hj => HON.out j (by omega),.inr ⟨k,Kn.symm,by rw [Kn,K3.out,HN.out]; exact e1.symm⟩⟩,by rw [K3.out]; exact Jl.out,H2.out.sm,by rw [K3.out]; exact HGD.out.trans HGM.out⟩
 have hki : ¬ (k : Int) < 12:=by omega
 obtain ⟨r1,hr1⟩ : ∃ r,(itT f s x t k).2.1 = r:=⟨_,rfl⟩
 obtain ⟨r2,hr2⟩ : ∃ r,(itT f s x t k).2.2.1 = r:=⟨_,rfl⟩
 obtain ⟨r3,hr3⟩ : ∃ r,(itT f s x t k).2.2.2 = r:=⟨_,rfl⟩
 rw [hr1,hr2,hr3] at H5
 have Kr:=Lib.hid hr1; have Kq:=Lib.hid hr2; have Kp:=Lib.hid hr3
 clear hr1 hr2 hr3
 go_upto_region 29 with fail
 clear c0
 have Hu : w.heap.size ≠ p4:=H1.out.a24
 have Hi : w.heap.size ≠ p5:=H1.out.a25
 have Hz : w.heap.size ≤ p4 ∧ p4 < s0:=⟨H1.out.w4,H1.out.l4⟩
 have Hn : w.heap.size ≤ p5 ∧ p5 < s0:=⟨H1.out.w5,H1.out.l5⟩
 have Hv : p7 ≠ p4:=H1.out.a47.symm
 have Hj : p7 ≠ p5:=H1.out.a57.symm
 have Ha : p4 ≠ p5:=H1.out.a45
 refine LexG.region_planU (KB3.ok p7 w.heap.size w.heap.size) [2,3] [0,1,2,3,4] (h:=?_)
 dsimp only [LexG.pick,LexG.nth]
 have bd : Below wr.heap.size wr wr.drew:=(Below.refl _ _).drew
 have H3:=Lib.hid (H5.out.on bd)
 have zn:=(H5.out.z2).below bd (H5.out.z2).lt
 have K2:=Lib.hid ((H5.out.nk).on bd)
 obtain ⟨w9,e9⟩ : ∃ w',wr.drew = w':=⟨_,rfl⟩
 rw [e9] at H3 zn K2 ⊢
 clear e9 bd
 have Hl:=Lib.hid zn
 clear zn
 have J7:=fun s' : LexG.Wd (KB3 p7 w.heap.size w.heap.size) w9 => (show s'.w.cell? ⟨w.heap.size,0,none⟩ = some (Value.slice An nn cn) from (zac s'.rel.2.1 0).trans (Hl.out.cell 0))
 have J6:=fun s' : LexG.Wd (KB3 p7 w.heap.size w.heap.size) w9 => (show s'.w.cell? ⟨w.heap.size,1,none⟩ = some (Value.slice Ai ni ci) from (zac s'.rel.2.1 1).trans (Hl.out.cell 1))
 have J5:=fun s' : LexG.Wd (KB3 p7 w.heap.size w.heap.size) w9 => (show s'.w.cell? ⟨w.heap.size,2,none⟩ = some (Value.slice Ao no co) from (zac s'.rel.2.1 2).trans (Hl.out.cell 2))
 have J4:=fun s' : LexG.Wd (KB3 p7 w.heap.size w.heap.size) w9 => (show s'.w.cell? ⟨p7,0,none⟩ = some (Value.int .i64 (k : Int)) from (zac s'.rel.1 0).trans (H3.out.z7.cell 0))
 have J3:=fun s' : LexG.Wd (KB3 p7 w.heap.size w.heap.size) w9 => (show s'.w.cell? ⟨p7,1,none⟩ = some (Value.int .i64 (r1 : Int)) from (zac s'.rel.1 1).trans (H3.out.z7.cell 1))
 have J2:=fun s' : LexG.Wd (KB3 p7 w.heap.size w.heap.size) w9 => (show s'.w.cell? ⟨p7,2,none⟩ = some (Value.int .i64 (r2 : Int)) from (zac s'.rel.1 2).trans (H3.out.z7.cell 2))
 have J1:=fun s' : LexG.Wd (KB3 p7 w.heap.size w.heap.size) w9 => (show s'.w.cell? ⟨p7,3,none⟩ = some (Value.int .i64 (r3 : Int)) from (zac s'.rel.1 3).trans (H3.out.z7.cell 3))
 refine LexG.lexU_plain 2 (by kernel_rfl) (by kernel_rfl) ?_
 dsimp only [List.take,List.drop]
 repeat go_big_quiet_step (fail)
 refine wpQuiet_nil ?_
 clear J7 J6 J5 J4 J3 J2 J1
 have f0:=H3.out.z4.free 0; have f1:=H3.out.z4.free 1; have f2:=H3.out.z4.free 2
 have g0 : _ = some (Value.slice none 0 0):=H3.out.z4.cell 0; have g1 : _ = some (Value.slice none 0 0):=H3.out.z4.cell 1; have g2 : _ = some (Value.slice none 0 0):=H3.out.z4.cell 2
 refine LexG.lexU_call (h:=fun K hK => ?_)
 go_simp
 have k7 : (((w9.setCell ⟨p4,0,none⟩ (.slice An nn cn)).setCell ⟨p4,1,none⟩ (.slice Ai ni ci)).setCell ⟨p4,2,none⟩ (.slice Ao no co)).heap[p7]? = w9.heap[p7]?:=by
  rw [Below.heap_setCell _ _ _ _ Hv,Below.heap_setCell _ _ _ _ Hv,Below.heap_setCell _ _ _ _ Hv]
 have kn : (((w9.setCell ⟨p4,0,none⟩ (.slice An nn cn)).setCell ⟨p4,1,none⟩ (.slice Ai ni ci)).setCell ⟨p4,2,none⟩ (.slice Ao no co)).heap[w.heap.size]? = w9.heap[w.heap.size]?:=by
  rw [Below.heap_setCell _ _ _ _ Hu,Below.heap_setCell _ _ _ _ Hu,Below.heap_setCell _ _ _ _ Hu]
 refine hK _ _ ⟨k7,kn,kn⟩ ?_
 clear hK K k7 kn f0 f1 f2 g0 g1 g2
 have Z4:=H3.out.z4.p3' (.slice An nn cn) (.slice Ai ni ci) (.slice Ao no co)
 have Z5:=((H3.out.z5.apart Ha.symm 0 (.slice An nn cn)).apart Ha.symm 1 (.slice Ai ni ci)).apart Ha.symm 2 (.slice Ao no co)
 have Hy:=((K2.out.put Hz 0 (.slice An nn cn)).put Hz 1 (.slice Ai ni ci)).put Hz 2 (.slice Ao no co)
 have B2:=H3.out.bl.e3' H1.out.w4 (.slice An nn cn) (.slice Ai ni ci) (.slice Ao no co)
 obtain ⟨w10,e10⟩ : ∃ w',(((w9.setCell ⟨p4,0,none⟩ (.slice An nn cn)).setCell ⟨p4,1,none⟩ (.slice Ai ni ci)).setCell ⟨p4,2,none⟩ (.slice Ao no co)) = w':=⟨_,rfl⟩
 rw [e10] at Z4 Z5 Hy B2 ⊢
 clear e10 H3 K2 Hl
 obtain ⟨f0,f1,f2,f3⟩:=Z5.zof0f1f2f3
 obtain ⟨g0,g1,g2,g3⟩:=Z5.zo4
 refine LexG.lexU_call (h:=fun K hK => ?_)
 go_simp
 have k7 : ((((w10.setCell ⟨p5,0,none⟩ (.int .i64 (k : Int))).setCell ⟨p5,1,none⟩ (.int .i64 (r1 : Int))).setCell ⟨p5,2,none⟩ (.int .i64 (r2 : Int))).setCell ⟨p5,3,none⟩ (.int .i64 (r3 : Int))).heap[p7]? = w10.heap[p7]?:=by
  rw [Below.heap_setCell _ _ _ _ Hj,Below.heap_setCell _ _ _ _ Hj,Below.heap_setCell _ _ _ _ Hj,Below.heap_setCell _ _ _ _ Hj]
 have kn : ((((w10.setCell ⟨p5,0,none⟩ (.int .i64 (k : Int))).setCell ⟨p5,1,none⟩ (.int .i64 (r1 : Int))).setCell ⟨p5,2,none⟩ (.int .i64 (r2 : Int))).setCell ⟨p5,3,none⟩ (.int .i64 (r3 : Int))).heap[w.heap.size]? = w10.heap[w.heap.size]?:=by
  rw [Below.heap_setCell _ _ _ _ Hi,Below.heap_setCell _ _ _ _ Hi,Below.heap_setCell _ _ _ _ Hi,Below.heap_setCell _ _ _ _ Hi]
 refine hK _ _ ⟨k7,kn,kn⟩ ?_
 clear hK K k7 kn f0 f1 f2 f3 g0 g1 g2 g3
 have Hc:=Z5.p4' (.int .i64 (k : Int)) (.int .i64 (r1 : Int)) (.int .i64 (r2 : Int)) (.int .i64 (r3 : Int))
 have Hk:=(((Z4.apart Ha 0 (.int .i64 (k : Int))).apart Ha 1 (.int .i64 (r1 : Int))).apart Ha 2 (.int .i64 (r2 : Int))).apart Ha 3 (.int .i64 (r3 : Int))
 have Hx:=(((Hy.put Hn 0 (.int .i64 (k : Int))).put Hn 1 (.int .i64 (r1 : Int))).put Hn 2 (.int .i64 (r2 : Int))).put Hn 3 (.int .i64 (r3 : Int))
 have B3:=B2.e4' H1.out.w5 (.int .i64 (k : Int)) (.int .i64 (r1 : Int)) (.int .i64 (r2 : Int)) (.int .i64 (r3 : Int))
 obtain ⟨w11,e11⟩ : ∃ w',((((w10.setCell ⟨p5,0,none⟩ (.int .i64 (k : Int))).setCell ⟨p5,1,none⟩ (.int .i64 (r1 : Int))).setCell ⟨p5,2,none⟩ (.int .i64 (r2 : Int))).setCell ⟨p5,3,none⟩ (.int .i64 (r3 : Int))) = w':=⟨_,rfl⟩
 rw [e11] at Hc Hk Hx B3 ⊢
 clear e11 Z4 Z5 Hy B2
 refine LexG.lexU_plain 1 (by kernel_rfl) (by kernel_rfl) ?_
 dsimp only [List.take,List.drop]
 repeat go_big_quiet_step (fail)
 refine wpQuiet_nil ?_
 refine LexG.lexU_nil ?_
 dsimp only [NoPanic]
 have Jl:=Lib.hid Hx.nt
 clear Hx
 have j0 : w11.cell? ⟨p4,0,none⟩ = some (Value.slice An nn cn):=Hk.cell 0; have j1 : w11.cell? ⟨p4,1,none⟩ = some (Value.slice Ai ni ci):=Hk.cell 1; have j2 : w11.cell? ⟨p4,2,none⟩ = some (Value.slice Ao no co):=Hk.cell 2
 have i0 : w11.cell? ⟨p5,0,none⟩ = some (Value.int .i64 (k : Int)):=Hc.cell 0; have i1 : w11.cell? ⟨p5,1,none⟩ = some (Value.int .i64 (r1 : Int)):=Hc.cell 1; have i2 : w11.cell? ⟨p5,2,none⟩ = some (Value.int .i64 (r2 : Int)):=Hc.cell 2; have i3 : w11.cell? ⟨p5,3,none⟩ = some (Value.int .i64 (r3 : Int)):=Hc.cell 3
 go_wp2_with fail
 refine bodyPost_ret (v:=.tuple #[.agg #[.slice An nn cn,.slice Ai ni ci,.slice Ao no co],.agg #[.int .i64 (k : Int),.int .i64 (r1 : Int),.int .i64 (r2 : Int),.int .i64 (r3 : Int)],.int .i64 0]) (by simp [results,Try.results36,go_sem,j0,j1,j2,i0,i1,i2,i3]) rfl ⟨?_,B3⟩
 unfold OptX
 exact ⟨k,An,nn,cn,Ai,ci,Ao,co,by rw [Kr.out,Kq.out,Kp.out],⟨by omega,by omega,fun j hj => HON.out j (by omega),.inl (by omega)⟩,Jl.out,H5.out.sn,HGD.out⟩
end Go.Proofs.Ytcehklnonhalhaa
