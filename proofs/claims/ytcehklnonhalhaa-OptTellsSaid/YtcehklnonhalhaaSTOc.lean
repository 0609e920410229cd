/-
  What the proofs of OptTells need: Oc Od.
-/
import Derived.Test.YtcehklnonhalhaaSTVg
set_option linter.unusedVariables false
namespace Go.Proofs.Ytcehklnonhalhaa
open Go.RowKit
set_option maxRecDepth 4000
structure NtQ (ok : Nat → Prop) (w : World) (An : Option Addr) (nn cn : Nat) (Ai : Option Addr) (ni ci : Nat) (Ao : Option Addr) (no co : Nat) (N : List Nd) (I O : List Pt) : Prop where
  nt : Nt w An nn cn Ai ni ci Ao no co N I O
  an : AdOk ok An
  ai : PsA ok w Ai ni I
  ao : PsA ok w Ao no O
theorem PsH.psA {s : Nat} {ok : Nat → Prop} {w : World} {A : Option Addr} {n : Nat} {L : List Pt} (h : PsH s w A n L) (hk : ∀ b,s ≤ b → ok b) : PsA ok w A n L:=⟨h.1,fun k p hp => by
 obtain ⟨b,off,A',m,c,h1,h0,h2,h3,h4,h5,h6,h7⟩:=h.2 k p hp
 exact ⟨b,off,A',m,c,h1,hk b h0,h2,h3,h4,h5,h6,h7.imp hk⟩⟩
theorem NtH.ntQ {s : Nat} {ok : Nat → Prop} {w : World} {An Ai Ao : Option Addr} {nn cn ni ci no co : Nat} {N : List Nd} {I O : List Pt} (h : NtH s w An nn cn Ai ni ci Ao no co N I O) (hk : ∀ b,s ≤ b → ok b) : NtQ ok w An nn cn Ai ni ci Ao no co N I O:=
 ⟨h.nt,fun b off e => hk b (h.an b off e),h.ai.psA hk,h.ao.psA hk⟩
theorem NtQ.kp {ok : Nat → Prop} {w w' : World} {An Ai Ao : Option Addr} {nn cn ni ci no co : Nat} {N : List Nd} {I O : List Pt} (h : NtQ ok w An nn cn Ai ni ci Ao no co N I O) (kp : Kp ok w w') : NtQ ok w' An nn cn Ai ni ci Ao no co N I O:=by
 have ai:=h.ai.keep kp
 have ao:=h.ao.keep kp
 refine ⟨⟨⟨h.nt.n.1,fun k x hx => ?_⟩,ai.ps,ao.ps,h.nt.si,h.nt.so,h.nt.hn,h.nt.hs,h.nt.hb⟩,h.an,ai,ao⟩
 obtain ⟨b,off,e,hlt,h1,h2,h3,h4⟩:=h.nt.n.2 k x hx
 have c:=fun o => kp.cell (o:=o) hlt (h.an b off e)
 exact ⟨b,off,e,Nat.lt_of_lt_of_le hlt kp.1,(c _).trans h1,(c _).trans h2,(c _).trans h3,(c _).trans h4⟩
theorem NtQ.kx {ok : Nat → Prop} {p : Nat} {w w' : World} {An Ai Ao : Option Addr} {nn cn ni ci no co : Nat} {N : List Nd} {I O : List Pt} (h : NtQ ok w An nn cn Ai ni ci Ao no co N I O) (hq : ∀ b,ok b → b ≠ p) (hk : Kx (fun b => b = p) w w') : NtQ ok w' An nn cn Ai ni ci Ao no co N I O:=h.kp ⟨hk.size,fun b hb hne => hk.2 b hb (hq b hne)⟩
def CK (p : Nat) (w w' : World) : Prop:=∀ i,i < 4 → w'.cell? ⟨p,i,none⟩ = w.cell? ⟨p,i,none⟩
theorem CK.ok (p : Nat) : LexG.RelOk (CK p):=⟨fun _ _ _ => rfl,fun _ _ _ h k i hi => (k i hi).trans (h i hi)⟩
instance (p : Nat) (w : World) : Nonempty (LexG.Wd (CK p) w):=⟨⟨w,fun _ _ => rfl⟩⟩
theorem CK.own {p : Nat} {w w' : World} {r0 r1 r2 r3 : Value} {xs ys : List Value} (h : Own w p 97 (r0 :: r1 :: r2 :: r3 :: xs)) (k : Own w' p 97 (r0 :: r1 :: r2 :: r3 :: ys)) : CK p w w':=fun i hi => by
 rw [h.cell i,k.cell i]
 rcases i with _ | _ | _ | _ | i
 ·rfl
 ·rfl
 ·rfl
 ·rfl
 omega
def RdX (ok : Nat → Prop) (p ni no : Nat) (w : World) (r0 r1 r2 r3 : Int) (t : Tn) (u : Tn × (Nat × Nat × Nat)) (en : Ending) (w' : World) : Prop:=∃ (Cn : Option Addr) (kk ec : Nat) (Ci : Option Addr) (ei : Nat) (Co : Option Addr) (eo : Nat),en = .returned (.tuple #[]) ∧ Own w' p 97 [.int .i64 (r0 + 1),.int .i64 (r1 + (u.2.1 : Int)),.int .i64 (r2 + (u.2.2.1 : Int)),.int .i64 (r3 + (u.2.2.2 : Int)),.slice Cn kk ec,.slice Ci ni ei,.slice Co no eo] ∧ NtQ ok w' Cn kk ec Ci ni ei Co no eo u.1.N u.1.I u.1.O ∧ Sw Cn kk ec ∧ Gd t u.1 ∧ Kx (fun b => b = p) w w'
theorem zcl (F : Tn → Tn × Nat) (t : Tn) : zaR true F t = F t:=rfl
theorem zcU (F : Tn → Tn × Nat) (t : Tn) : zaR false F t = (t,0):=rfl
structure Sw8 (sw : Int) (f s x : Bool) : Prop where
  h0 : (bits BinOp.and IntKind.i64 sw 1 != 0) = f
  h1 : (bits BinOp.and IntKind.i64 sw 2 != 0) = s
  h2 : (bits BinOp.and IntKind.i64 sw 4 != 0) = x
theorem chN_t (t : Tn) : (za3 t).2 ≤ t.N.length:=chN_le _ _ _ _
theorem chS_t (t : Tn) : (zaA t).2 ≤ t.N.length:=zeS _ _
theorem sw_t (t : Tn) : (zao t).2 ≤ t.N.length:=by have:=zeI t; omega
set_option maxHeartbeats 16000000 in
theorem round_as {w : World} {ok : Nat → Prop} {p ni no : Nat} {t : Tn} {r0 r1 r2 r3 sw : Int} {f s x : Bool} {Bn : Option Addr} {nn dn : Nat} {Bi : Option Addr} {di : Nat} {Bo : Option Addr} {do' : Nat} (hz : Own w p 97 [.int .i64 r0,.int .i64 r1,.int .i64 r2,.int .i64 r3,.slice Bn nn dn,.slice Bi ni di,.slice Bo no do'])
  (hq1 : ∀ b,ok b → b ≠ p) (hq2 : ∀ b,p < b → ok b) (hn : NtQ ok w Bn nn dn Bi ni di Bo no do' t.N t.I t.O) (sn : Sw Bn nn dn) (hi : ni ≤ 66) (ho : no ≤ 66) (hb : ∀ p ∈ t.I ++ t.O,p.bits.length ≤ 4000) (hok : OkT t) (hsw : Sw8 sw f s x) (b0 : 0 ≤ r0 ∧ r0 ≤ 100000000) (b1 : 0 ≤ r1 ∧ r1 ≤ 100000000) (b2 : 0 ≤ r2 ∧ r2 ≤ 100000000) (b3 : 0 ≤ r3 ∧ r3 ≤ 100000000) :
  Calls Try.prog 61 #[.pointer (some ⟨p,0,none⟩),.int .i64 sw] w fun en w' => RdX ok p ni no w r0 r1 r2 r3 t (zaq f s x t) en w':=by
 have H9:=Lib.hid hb
 have Hb:=Lib.hid hok
 have H7:=Lib.hid (Gd.self hok)
 have Hn:=Lib.hid hsw.h0
 have Hl:=Lib.hid hsw.h1
 have Hh:=Lib.hid hsw.h2
 have H8 : Hid (t.N.length ≤ 100000):=Lib.hid (by have:=hn.nt.n.1; have:=hn.nt.hn; omega)
 have hk : Kx (fun b => b = p) w w:=Kx.refl _ _
 clear hb hok hsw
 go_enter Try.func61,Try.ntmps61
 have c0 : _ = some (Value.int .i64 r0):=hz.cell 0
 have f0:=hz.free 0
 have q0 : IntKind.i64.wrap (r0 + 1) = r0 + 1:=by rw [IntKind.wrap_i64]; omega
 go_upto_region 1 with fail
 have H5:=hk.set (g:=p) rfl 0 (.int .i64 (r0 + 1))
 have H4:=hn.kx hq1 ((Kx.refl (fun b => b = p) _).set (g:=p) rfl 0 (.int .i64 (r0 + 1)))
 have H0:=hz.put 0 (.int .i64 (r0 + 1))
 obtain ⟨w1,e4⟩ : ∃ w',w.setCell ⟨p,0,none⟩ (.int .i64 (r0 + 1)) = w':=⟨_,rfl⟩
 rw [e4] at H5 H4 H0 ⊢
 replace hk:=H5
 replace hn:=H4
 replace hz : Own w1 p 97 [.int .i64 (r0 + 1),.int .i64 r1,.int .i64 r2,.int .i64 r3,.slice Bn nn dn,.slice Bi ni di,.slice Bo no do']:=H0
 clear e4 H5 H4 H0 c0 f0 q0
 cases f
 case false =>
  have e00:=Hn.out
  cases s
  case false =>
   have Hm:=Hl.out
   cases x
   case false =>
    have Hk:=Hh.out
    go_wp2_with fail
    refine bodyPost_end (v:=.tuple #[]) (by simp [results,Try.results61,go_sem]) rfl ?_
    have e : zaq false false false t = (t,(0,0,0)):=by
     simp only [zaq,zcU]
     try rfl
    rw [e]
    refine ⟨Bn,nn,dn,Bi,di,Bo,do',rfl,?_,hn,sn,H7.out,hk⟩
    simpa using hz
   have Hk:=Hh.out
   go_upto_region 6 with fail
   refine LexG.region_planU (CK.ok p) [6] [0,1,2,3,4,5,6,7,8,9,10,11] (h:=?_)
   dsimp only [LexG.pick,LexG.nth]
   have bd : Below w1.heap.size w1 w1.drew:=(Below.refl _ _).drew
   replace hz:=hz.below bd hz.lt
   replace hn:=hn.kx hq1 ((Kx.refl _ _).step bd)
   replace hk:=hk.step bd
   obtain ⟨w2,e4⟩ : ∃ w',w1.drew = w':=⟨_,rfl⟩
   rw [e4] at hz hn hk ⊢
   clear e4 bd
   have Hj:=fun s : LexG.Wd (CK p) w2 => (show s.w.cell? ⟨p,3,none⟩ = some (Value.int .i64 r3) from (s.rel 3 (by omega)).trans (hz.cell 3))
   refine LexG.lexU_plain 6 (by kernel_rfl) (by kernel_rfl) ?_
   dsimp only [List.take,List.drop]
   repeat go_big_quiet_step (fail)
   refine wpQuiet_nil ?_
   clear Hj
   refine LexG.lexU_call (h:=fun K hK => ?_)
   go_simp
   refine (zdV (F:=zao) (t:=t) hz (sweepX hn.nt sn hi ho H9.out Hb.out)).mono ?_
   rintro en w3 ⟨⟨C3n,k3,c3n,C3i,c3i,C3o,c3o,rfl,H0,H4,sn2,hg⟩,H5⟩
   dsimp only
   refine hK _ _ (CK.own hz H0) ?_
   clear hK K
   have Hc:=hz.lt
   replace hk:=hk.trans H5
   have H2:=Lib.hid (H7.out.trans hg)
   have H3:=Lib.hid (hg.bits H9.out)
   have H1:=Lib.hid hg.ok
   obtain ⟨u3,hu⟩ : ∃ u,(zao t).1 = u:=⟨_,rfl⟩
   have Hd:=sw_t (t)
   have He:=hg.le
   obtain ⟨c3,hc⟩ : ∃ c,(zao t).2 = c:=⟨_,rfl⟩
   have Hf:=Lib.hid (And.intro hu hc)
   replace hn:=H4.ntQ (fun b hb => hq2 b (Nat.lt_of_lt_of_le Hc hb))
   replace hz:=H0
   replace sn:=sn2
   rw [hu] at H2 H3 H1 hn He
   rw [hc] at Hd ⊢
   have Ha : c3 ≤ 100000:=by have:=H8.out; omega
   have H6 : Hid (u3.N.length ≤ 100000):=Lib.hid (by have:=H8.out; omega)
   clear H7 H9 Hb H0 H4 sn2 hg H5 Hc hu hc Hd He H8
   have H7:=H2; have H9:=H3; have Hb:=H1; have H8:=H6
   clear H2 H3 H1 H6
   have q1 : IntKind.i64.wrap (r3 + (c3 : Int)) = r3 + (c3 : Int):=by rw [IntKind.wrap_i64]; omega
   refine LexG.lexU_plain 4 (by kernel_rfl) (by kernel_rfl) ?_
   dsimp only [List.take,List.drop]
   repeat go_big_quiet_step (fail)
   refine wpQuiet_nil ?_
   have c1 : _ = some (Value.int .i64 r3):=hz.cell 3
   have f1:=hz.free 3
   refine LexG.lexU_last (h:=fun K hK => ?_)
   go_simp
   refine hK _ _ ?_
   clear hK K c1 f1 q1 Ha
   refine LexG.lexU_nil ?_
   dsimp only [NoPanic]
   have H5:=hk.set (g:=p) rfl 3 (.int .i64 (r3 + (c3 : Int)))
   have H4:=hn.kx hq1 ((Kx.refl (fun b => b = p) _).set (g:=p) rfl 3 (.int .i64 (r3 + (c3 : Int))))
   have H0:=hz.put 3 (.int .i64 (r3 + (c3 : Int)))
   obtain ⟨w4,e4⟩ : ∃ w',w3.setCell ⟨p,3,none⟩ (.int .i64 (r3 + (c3 : Int))) = w':=⟨_,rfl⟩
   rw [e4] at H5 H4 H0 ⊢
   replace hk:=H5
   replace hn:=H4
   replace hz : Own w4 p 97 [.int .i64 (r0 + 1),.int .i64 r1,.int .i64 r2,.int .i64 (r3 + (c3 : Int)),.slice C3n k3 c3n,.slice C3i ni c3i,.slice C3o no c3o]:=H0
   clear e4 H5 H4 H0
   clear Hk
   go_wp2_with fail
   refine bodyPost_end (v:=.tuple #[]) (by simp [results,Try.results61,go_sem]) rfl ?_
   have e : zaq false false true t = (u3,(0,0,c3)):=by
    simp only [zaq,zcl,zcU]
    first | rw [Hf.out.1,Hf.out.2] | rw [Hf.out.2] | rw [Hf.out.1] | skip
    try rfl
   rw [e]
   refine ⟨C3n,k3,c3n,C3i,c3i,C3o,c3o,rfl,?_,hn,sn,H7.out,hk⟩
   simpa using hz
  have Hm:=Hl.out
  go_upto_region 4 with fail
  refine LexG.region_planU (CK.ok p) [6] [0,1,2,3,4,5,6,7,8,9,10,11] (h:=?_)
  dsimp only [LexG.pick,LexG.nth]
  have bd : Below w1.heap.size w1 w1.drew:=(Below.refl _ _).drew
  replace hz:=hz.below bd hz.lt
  replace hn:=hn.kx hq1 ((Kx.refl _ _).step bd)
  replace hk:=hk.step bd
  obtain ⟨w2,e4⟩ : ∃ w',w1.drew = w':=⟨_,rfl⟩
  rw [e4] at hz hn hk ⊢
  clear e4 bd
  have Hj:=fun s : LexG.Wd (CK p) w2 => (show s.w.cell? ⟨p,2,none⟩ = some (Value.int .i64 r2) from (s.rel 2 (by omega)).trans (hz.cell 2))
  refine LexG.lexU_plain 6 (by kernel_rfl) (by kernel_rfl) ?_
  dsimp only [List.take,List.drop]
  repeat go_big_quiet_step (fail)
  refine wpQuiet_nil ?_
  clear Hj
  refine LexG.lexU_call (h:=fun K hK => ?_)
  go_simp
  refine (do_share (F:=zaA) (t:=t) hz (shareX hn.nt sn H9.out Hb.out)).mono ?_
  rintro en w3 ⟨⟨C3n,k3,c3n,C3i,c3i,C3o,c3o,rfl,H0,H4,sn2,hg⟩,H5⟩
  dsimp only
  refine hK _ _ (CK.own hz H0) ?_
  clear hK K
  have Hc:=hz.lt
  replace hk:=hk.trans H5
  have H2:=Lib.hid (H7.out.trans hg)
  have H3:=Lib.hid (hg.bits H9.out)
  have H1:=Lib.hid hg.ok
  obtain ⟨u3,hu⟩ : ∃ u,(zaA t).1 = u:=⟨_,rfl⟩
  have Hd:=chS_t (t)
  have He:=hg.le
  obtain ⟨c3,hc⟩ : ∃ c,(zaA t).2 = c:=⟨_,rfl⟩
  have Hg:=Lib.hid (And.intro hu hc)
  replace hn:=H4.ntQ (fun b hb => hq2 b (Nat.lt_of_lt_of_le Hc hb))
  replace hz:=H0
  replace sn:=sn2
  rw [hu] at H2 H3 H1 hn He
  rw [hc] at Hd ⊢
  have Ha : c3 ≤ 100000:=by have:=H8.out; omega
  have H6 : Hid (u3.N.length ≤ 100000):=Lib.hid (by have:=H8.out; omega)
  clear H7 H9 Hb H0 H4 sn2 hg H5 Hc hu hc Hd He H8
  have H7:=H2; have H9:=H3; have Hb:=H1; have H8:=H6
  clear H2 H3 H1 H6
  have q1 : IntKind.i64.wrap (r2 + (c3 : Int)) = r2 + (c3 : Int):=by rw [IntKind.wrap_i64]; omega
  refine LexG.lexU_plain 4 (by kernel_rfl) (by kernel_rfl) ?_
  dsimp only [List.take,List.drop]
  repeat go_big_quiet_step (fail)
  refine wpQuiet_nil ?_
  have c1 : _ = some (Value.int .i64 r2):=hz.cell 2
  have f1:=hz.free 2
  refine LexG.lexU_last (h:=fun K hK => ?_)
  go_simp
  refine hK _ _ ?_
  clear hK K c1 f1 q1 Ha
  refine LexG.lexU_nil ?_
  dsimp only [NoPanic]
  have H5:=hk.set (g:=p) rfl 2 (.int .i64 (r2 + (c3 : Int)))
  have H4:=hn.kx hq1 ((Kx.refl (fun b => b = p) _).set (g:=p) rfl 2 (.int .i64 (r2 + (c3 : Int))))
  have H0:=hz.put 2 (.int .i64 (r2 + (c3 : Int)))
  obtain ⟨w4,e4⟩ : ∃ w',w3.setCell ⟨p,2,none⟩ (.int .i64 (r2 + (c3 : Int))) = w':=⟨_,rfl⟩
  rw [e4] at H5 H4 H0 ⊢
  replace hk:=H5
  replace hn:=H4
  replace hz : Own w4 p 97 [.int .i64 (r0 + 1),.int .i64 r1,.int .i64 (r2 + (c3 : Int)),.int .i64 r3,.slice C3n k3 c3n,.slice C3i ni c3i,.slice C3o no c3o]:=H0
  clear e4 H5 H4 H0
  clear Hm
  cases x
  case false =>
   have Hk:=Hh.out
   go_wp2_with fail
   refine bodyPost_end (v:=.tuple #[]) (by simp [results,Try.results61,go_sem]) rfl ?_
   have e : zaq false true false t = (u3,(0,c3,0)):=by
    simp only [zaq,zcl,zcU]
    first | rw [Hg.out.1,Hg.out.2] | rw [Hg.out.2] | rw [Hg.out.1] | skip
    try rfl
   rw [e]
   refine ⟨C3n,k3,c3n,C3i,c3i,C3o,c3o,rfl,?_,hn,sn,H7.out,hk⟩
   simpa using hz
  have Hk:=Hh.out
  go_upto_region 6 with fail
  refine LexG.region_planU (CK.ok p) [6] [0,1,2,3,4,5,6,7,8,9,10,11] (h:=?_)
  dsimp only [LexG.pick,LexG.nth]
  have bd : Below w4.heap.size w4 w4.drew:=(Below.refl _ _).drew
  replace hz:=hz.below bd hz.lt
  replace hn:=hn.kx hq1 ((Kx.refl _ _).step bd)
  replace hk:=hk.step bd
  obtain ⟨w5,e4⟩ : ∃ w',w4.drew = w':=⟨_,rfl⟩
  rw [e4] at hz hn hk ⊢
  clear e4 bd
  have Hj:=fun s : LexG.Wd (CK p) w5 => (show s.w.cell? ⟨p,3,none⟩ = some (Value.int .i64 r3) from (s.rel 3 (by omega)).trans (hz.cell 3))
  refine LexG.lexU_plain 6 (by kernel_rfl) (by kernel_rfl) ?_
  dsimp only [List.take,List.drop]
  repeat go_big_quiet_step (fail)
  refine wpQuiet_nil ?_
  clear Hj
  refine LexG.lexU_call (h:=fun K hK => ?_)
  go_simp
  refine (zdV (F:=zao) (t:=u3) hz (sweepX hn.nt sn hi ho H9.out Hb.out)).mono ?_
  rintro en w6 ⟨⟨C6n,k6,c6n,C6i,c6i,C6o,c6o,rfl,H0,H4,sn2,hg⟩,H5⟩
  dsimp only
  refine hK _ _ (CK.own hz H0) ?_
  clear hK K
  have Hc:=hz.lt
  replace hk:=hk.trans H5
  have H2:=Lib.hid (H7.out.trans hg)
  have H3:=Lib.hid (hg.bits H9.out)
  have H1:=Lib.hid hg.ok
  obtain ⟨u6,hu⟩ : ∃ u,(zao u3).1 = u:=⟨_,rfl⟩
  have Hd:=sw_t (u3)
  have He:=hg.le
  obtain ⟨c6,hc⟩ : ∃ c,(zao u3).2 = c:=⟨_,rfl⟩
  have Hf:=Lib.hid (And.intro hu hc)
  replace hn:=H4.ntQ (fun b hb => hq2 b (Nat.lt_of_lt_of_le Hc hb))
  replace hz:=H0
  replace sn:=sn2
  rw [hu] at H2 H3 H1 hn He
  rw [hc] at Hd ⊢
  have Ha : c6 ≤ 100000:=by have:=H8.out; omega
  have H6 : Hid (u6.N.length ≤ 100000):=Lib.hid (by have:=H8.out; omega)
  clear H7 H9 Hb H0 H4 sn2 hg H5 Hc hu hc Hd He H8
  have H7:=H2; have H9:=H3; have Hb:=H1; have H8:=H6
  clear H2 H3 H1 H6
  have q1 : IntKind.i64.wrap (r3 + (c6 : Int)) = r3 + (c6 : Int):=by rw [IntKind.wrap_i64]; omega
  refine LexG.lexU_plain 4 (by kernel_rfl) (by kernel_rfl) ?_
  dsimp only [List.take,List.drop]
  repeat go_big_quiet_step (fail)
  refine wpQuiet_nil ?_
  have c1 : _ = some (Value.int .i64 r3):=hz.cell 3
  have f1:=hz.free 3
  refine LexG.lexU_last (h:=fun K hK => ?_)
  go_simp
  refine hK _ _ ?_
  clear hK K c1 f1 q1 Ha
  refine LexG.lexU_nil ?_
  dsimp only [NoPanic]
  have H5:=hk.set (g:=p) rfl 3 (.int .i64 (r3 + (c6 : Int)))
  have H4:=hn.kx hq1 ((Kx.refl (fun b => b = p) _).set (g:=p) rfl 3 (.int .i64 (r3 + (c6 : Int))))
  have H0:=hz.put 3 (.int .i64 (r3 + (c6 : Int)))
  obtain ⟨w7,e4⟩ : ∃ w',w6.setCell ⟨p,3,none⟩ (.int .i64 (r3 + (c6 : Int))) = w':=⟨_,rfl⟩
  rw [e4] at H5 H4 H0 ⊢
  replace hk:=H5
  replace hn:=H4
  replace hz : Own w7 p 97 [.int .i64 (r0 + 1),.int .i64 r1,.int .i64 (r2 + (c3 : Int)),.int .i64 (r3 + (c6 : Int)),.slice C6n k6 c6n,.slice C6i ni c6i,.slice C6o no c6o]:=H0
  clear e4 H5 H4 H0
  clear Hk
  go_wp2_with fail
  refine bodyPost_end (v:=.tuple #[]) (by simp [results,Try.results61,go_sem]) rfl ?_
  have e : zaq false true true t = (u6,(0,c3,c6)):=by
   simp only [zaq,zcl,zcU]
   first | rw [Hg.out.1,Hg.out.2] | rw [Hg.out.2] | rw [Hg.out.1] | skip
   first | rw [Hf.out.1,Hf.out.2] | rw [Hf.out.2] | rw [Hf.out.1] | skip
   try rfl
  rw [e]
  refine ⟨C6n,k6,c6n,C6i,c6i,C6o,c6o,rfl,?_,hn,sn,H7.out,hk⟩
  simpa using hz
 have e00:=Hn.out
 go_upto_region 2 with fail
 refine LexG.region_planU (CK.ok p) [6] [0,1,2,3,4,5,6,7,8,9,10,11] (h:=?_)
 dsimp only [LexG.pick,LexG.nth]
 have bd : Below w1.heap.size w1 w1.drew:=(Below.refl _ _).drew
 replace hz:=hz.below bd hz.lt
 replace hn:=hn.kx hq1 ((Kx.refl _ _).step bd)
 replace hk:=hk.step bd
 obtain ⟨w2,e4⟩ : ∃ w',w1.drew = w':=⟨_,rfl⟩
 rw [e4] at hz hn hk ⊢
 clear e4 bd
 have Hj:=fun s : LexG.Wd (CK p) w2 => (show s.w.cell? ⟨p,1,none⟩ = some (Value.int .i64 r1) from (s.rel 1 (by omega)).trans (hz.cell 1))
 refine LexG.lexU_plain 6 (by kernel_rfl) (by kernel_rfl) ?_
 dsimp only [List.take,List.drop]
 repeat go_big_quiet_step (fail)
 refine wpQuiet_nil ?_
 clear Hj
 refine LexG.lexU_call (h:=fun K hK => ?_)
 go_simp
 refine (do_fold (F:=za3) (t:=t) hz (foldX hn.nt sn H9.out Hb.out)).mono ?_
 rintro en w3 ⟨⟨C3n,k3,c3n,C3i,c3i,C3o,c3o,rfl,H0,H4,sn2,hg⟩,H5⟩
 dsimp only
 refine hK _ _ (CK.own hz H0) ?_
 clear hK K
 have Hc:=hz.lt
 replace hk:=hk.trans H5
 have H2:=Lib.hid (H7.out.trans hg)
 have H3:=Lib.hid (hg.bits H9.out)
 have H1:=Lib.hid hg.ok
 obtain ⟨u3,hu⟩ : ∃ u,(za3 t).1 = u:=⟨_,rfl⟩
 have Hd:=chN_t (t)
 have He:=hg.le
 obtain ⟨c3,hc⟩ : ∃ c,(za3 t).2 = c:=⟨_,rfl⟩
 have Hi:=Lib.hid (And.intro hu hc)
 replace hn:=H4.ntQ (fun b hb => hq2 b (Nat.lt_of_lt_of_le Hc hb))
 replace hz:=H0
 replace sn:=sn2
 rw [hu] at H2 H3 H1 hn He
 rw [hc] at Hd ⊢
 have Ha : c3 ≤ 100000:=by have:=H8.out; omega
 have H6 : Hid (u3.N.length ≤ 100000):=Lib.hid (by have:=H8.out; omega)
 clear H7 H9 Hb H0 H4 sn2 hg H5 Hc hu hc Hd He H8
 have H7:=H2; have H9:=H3; have Hb:=H1; have H8:=H6
 clear H2 H3 H1 H6
 have q1 : IntKind.i64.wrap (r1 + (c3 : Int)) = r1 + (c3 : Int):=by rw [IntKind.wrap_i64]; omega
 refine LexG.lexU_plain 4 (by kernel_rfl) (by kernel_rfl) ?_
 dsimp only [List.take,List.drop]
 repeat go_big_quiet_step (fail)
 refine wpQuiet_nil ?_
 have c1 : _ = some (Value.int .i64 r1):=hz.cell 1
 have f1:=hz.free 1
 refine LexG.lexU_last (h:=fun K hK => ?_)
 go_simp
 refine hK _ _ ?_
 clear hK K c1 f1 q1 Ha
 refine LexG.lexU_nil ?_
 dsimp only [NoPanic]
 have H5:=hk.set (g:=p) rfl 1 (.int .i64 (r1 + (c3 : Int)))
 have H4:=hn.kx hq1 ((Kx.refl (fun b => b = p) _).set (g:=p) rfl 1 (.int .i64 (r1 + (c3 : Int))))
 have H0:=hz.put 1 (.int .i64 (r1 + (c3 : Int)))
 obtain ⟨w4,e4⟩ : ∃ w',w3.setCell ⟨p,1,none⟩ (.int .i64 (r1 + (c3 : Int))) = w':=⟨_,rfl⟩
 rw [e4] at H5 H4 H0 ⊢
 replace hk:=H5
 replace hn:=H4
 replace hz : Own w4 p 97 [.int .i64 (r0 + 1),.int .i64 (r1 + (c3 : Int)),.int .i64 r2,.int .i64 r3,.slice C3n k3 c3n,.slice C3i ni c3i,.slice C3o no c3o]:=H0
 clear e4 H5 H4 H0
 clear e00
 cases s
 case false =>
  have Hm:=Hl.out
  cases x
  case false =>
   have Hk:=Hh.out
   go_wp2_with fail
   refine bodyPost_end (v:=.tuple #[]) (by simp [results,Try.results61,go_sem]) rfl ?_
   have e : zaq true false false t = (u3,(c3,0,0)):=by
    simp only [zaq,zcl,zcU]
    first | rw [Hi.out.1,Hi.out.2] | rw [Hi.out.2] | rw [Hi.out.1] | skip
    try rfl
   rw [e]
   refine ⟨C3n,k3,c3n,C3i,c3i,C3o,c3o,rfl,?_,hn,sn,H7.out,hk⟩
   simpa using hz
  have Hk:=Hh.out
  go_upto_region 6 with fail
  refine LexG.region_planU (CK.ok p) [6] [0,1,2,3,4,5,6,7,8,9,10,11] (h:=?_)
  dsimp only [LexG.pick,LexG.nth]
  have bd : Below w4.heap.size w4 w4.drew:=(Below.refl _ _).drew
  replace hz:=hz.below bd hz.lt
  replace hn:=hn.kx hq1 ((Kx.refl _ _).step bd)
  replace hk:=hk.step bd
  obtain ⟨w5,e4⟩ : ∃ w',w4.drew = w':=⟨_,rfl⟩
  rw [e4] at hz hn hk ⊢
  clear e4 bd
  have Hj:=fun s : LexG.Wd (CK p) w5 => (show s.w.cell? ⟨p,3,none⟩ = some (Value.int .i64 r3) from (s.rel 3 (by omega)).trans (hz.cell 3))
  refine LexG.lexU_plain 6 (by kernel_rfl) (by kernel_rfl) ?_
  dsimp only [List.take,List.drop]
  repeat go_big_quiet_step (fail)
  refine wpQuiet_nil ?_
  clear Hj
  refine LexG.lexU_call (h:=fun K hK => ?_)
  go_simp
  refine (zdV (F:=zao) (t:=u3) hz (sweepX hn.nt sn hi ho H9.out Hb.out)).mono ?_
  rintro en w6 ⟨⟨C6n,k6,c6n,C6i,c6i,C6o,c6o,rfl,H0,H4,sn2,hg⟩,H5⟩
  dsimp only
  refine hK _ _ (CK.own hz H0) ?_
  clear hK K
  have Hc:=hz.lt
  replace hk:=hk.trans H5
  have H2:=Lib.hid (H7.out.trans hg)
  have H3:=Lib.hid (hg.bits H9.out)
  have H1:=Lib.hid hg.ok
  obtain ⟨u6,hu⟩ : ∃ u,(zao u3).1 = u:=⟨_,rfl⟩
  have Hd:=sw_t (u3)
  have He:=hg.le
  obtain ⟨c6,hc⟩ : ∃ c,(zao u3).2 = c:=⟨_,rfl⟩
  have Hf:=Lib.hid (And.intro hu hc)
  replace hn:=H4.ntQ (fun b hb => hq2 b (Nat.lt_of_lt_of_le Hc hb))
  replace hz:=H0
  replace sn:=sn2
  rw [hu] at H2 H3 H1 hn He
  rw [hc] at Hd ⊢
  have Ha : c6 ≤ 100000:=by have:=H8.out; omega
  have H6 : Hid (u6.N.length ≤ 100000):=Lib.hid (by have:=H8.out; omega)
  clear H7 H9 Hb H0 H4 sn2 hg H5 Hc hu hc Hd He H8
  have H7:=H2; have H9:=H3; have Hb:=H1; have H8:=H6
  clear H2 H3 H1 H6
  have q1 : IntKind.i64.wrap (r3 + (c6 : Int)) = r3 + (c6 : Int):=by rw [IntKind.wrap_i64]; omega
  refine LexG.lexU_plain 4 (by kernel_rfl) (by kernel_rfl) ?_
  dsimp only [List.take,List.drop]
  repeat go_big_quiet_step (fail)
  refine wpQuiet_nil ?_
  have c1 : _ = some (Value.int .i64 r3):=hz.cell 3
  have f1:=hz.free 3
  refine LexG.lexU_last (h:=fun K hK => ?_)
  go_simp
  refine hK _ _ ?_
  clear hK K c1 f1 q1 Ha
  refine LexG.lexU_nil ?_
  dsimp only [NoPanic]
  have H5:=hk.set (g:=p) rfl 3 (.int .i64 (r3 + (c6 : Int)))
  have H4:=hn.kx hq1 ((Kx.refl (fun b => b = p) _).set (g:=p) rfl 3 (.int .i64 (r3 + (c6 : Int))))
  have H0:=hz.put 3 (.int .i64 (r3 + (c6 : Int)))
  obtain ⟨w7,e4⟩ : ∃ w',w6.setCell ⟨p,3,none⟩ (.int .i64 (r3 + (c6 : Int))) = w':=⟨_,rfl⟩
  rw [e4] at H5 H4 H0 ⊢
  replace hk:=H5
  replace hn:=H4
  replace hz : Own w7 p 97 [.int .i64 (r0 + 1),.int .i64 (r1 + (c3 : Int)),.int .i64 r2,.int .i64 (r3 + (c6 : Int)),.slice C6n k6 c6n,.slice C6i ni c6i,.slice C6o no c6o]:=H0
  clear e4 H5 H4 H0
  clear Hk
  go_wp2_with fail
  refine bodyPost_end (v:=.tuple #[]) (by simp [results,Try.results61,go_sem]) rfl ?_
  have e : zaq true false true t = (u6,(c3,0,c6)):=by
   simp only [zaq,zcl,zcU]
   first | rw [Hi.out.1,Hi.out.2] | rw [Hi.out.2] | rw [Hi.out.1] | skip
   first | rw [Hf.out.1,Hf.out.2] | rw [Hf.out.2] | rw [Hf.out.1] | skip
   try rfl
  rw [e]
  refine ⟨C6n,k6,c6n,C6i,c6i,C6o,c6o,rfl,?_,hn,sn,H7.out,hk⟩
  simpa using hz
 have Hm:=Hl.out
 go_upto_region 4 with fail
 refine LexG.region_planU (CK.ok p) [6] [0,1,2,3,4,5,6,7,8,9,10,11] (h:=?_)
 dsimp only [LexG.pick,LexG.nth]
 have bd : Below w4.heap.size w4 w4.drew:=(Below.refl _ _).drew
 replace hz:=hz.below bd hz.lt
 replace hn:=hn.kx hq1 ((Kx.refl _ _).step bd)
 replace hk:=hk.step bd
 obtain ⟨w5,e4⟩ : ∃ w',w4.drew = w':=⟨_,rfl⟩
 rw [e4] at hz hn hk ⊢
 clear e4 bd
 have Hj:=fun s : LexG.Wd (CK p) w5 => (show s.w.cell? ⟨p,2,none⟩ = some (Value.int .i64 r2) from (s.rel 2 (by omega)).trans (hz.cell 2))
 refine LexG.lexU_plain 6 (by kernel_rfl) (by kernel_rfl) ?_
 dsimp only [List.take,List.drop]
 repeat go_big_quiet_step (fail)
 refine wpQuiet_nil ?_
 clear Hj
 refine LexG.lexU_call (h:=fun K hK => ?_)
 go_simp
 refine (do_share (F:=zaA) (t:=u3) hz (shareX hn.nt sn H9.out Hb.out)).mono ?_
 rintro en w6 ⟨⟨C6n,k6,c6n,C6i,c6i,C6o,c6o,rfl,H0,H4,sn2,hg⟩,H5⟩
 dsimp only
 refine hK _ _ (CK.own hz H0) ?_
 clear hK K
 have Hc:=hz.lt
 replace hk:=hk.trans H5
 have H2:=Lib.hid (H7.out.trans hg)
 have H3:=Lib.hid (hg.bits H9.out)
 have H1:=Lib.hid hg.ok
 obtain ⟨u6,hu⟩ : ∃ u,(zaA u3).1 = u:=⟨_,rfl⟩
 have Hd:=chS_t (u3)
 have He:=hg.le
 obtain ⟨c6,hc⟩ : ∃ c,(zaA u3).2 = c:=⟨_,rfl⟩
 have Hg:=Lib.hid (And.intro hu hc)
 replace hn:=H4.ntQ (fun b hb => hq2 b (Nat.lt_of_lt_of_le Hc hb))
 replace hz:=H0
 replace sn:=sn2
 rw [hu] at H2 H3 H1 hn He
 rw [hc] at Hd ⊢
 have Ha : c6 ≤ 100000:=by have:=H8.out; omega
 have H6 : Hid (u6.N.length ≤ 100000):=Lib.hid (by have:=H8.out; omega)
 clear H7 H9 Hb H0 H4 sn2 hg H5 Hc hu hc Hd He H8
 have H7:=H2; have H9:=H3; have Hb:=H1; have H8:=H6
 clear H2 H3 H1 H6
 have q1 : IntKind.i64.wrap (r2 + (c6 : Int)) = r2 + (c6 : Int):=by rw [IntKind.wrap_i64]; omega
 refine LexG.lexU_plain 4 (by kernel_rfl) (by kernel_rfl) ?_
 dsimp only [List.take,List.drop]
 repeat go_big_quiet_step (fail)
 refine wpQuiet_nil ?_
 have c1 : _ = some (Value.int .i64 r2):=hz.cell 2
 have f1:=hz.free 2
 refine LexG.lexU_last (h:=fun K hK => ?_)
 go_simp
 refine hK _ _ ?_
 clear hK K c1 f1 q1 Ha
 refine LexG.lexU_nil ?_
 dsimp only [NoPanic]
 have H5:=hk.set (g:=p) rfl 2 (.int .i64 (r2 + (c6 : Int)))
 have H4:=hn.kx hq1 ((Kx.refl (fun b => b = p) _).set (g:=p) rfl 2 (.int .i64 (r2 + (c6 : Int))))
 have H0:=hz.put 2 (.int .i64 (r2 + (c6 : Int)))
 obtain ⟨w7,e4⟩ : ∃ w',w6.setCell ⟨p,2,none⟩ (.int .i64 (r2 + (c6 : Int))) = w':=⟨_,rfl⟩
 rw [e4] at H5 H4 H0 ⊢
 replace hk:=H5
 replace hn:=H4
 replace hz : Own w7 p 97 [.int .i64 (r0 + 1),.int .i64 (r1 + (c3 : Int)),.int .i64 (r2 + (c6 : Int)),.int .i64 r3,.slice C6n k6 c6n,.slice C6i ni c6i,.slice C6o no c6o]:=H0
 clear e4 H5 H4 H0
 clear Hm
 cases x
 case false =>
  have Hk:=Hh.out
  go_wp2_with fail
  refine bodyPost_end (v:=.tuple #[]) (by simp [results,Try.results61,go_sem]) rfl ?_
  have e : zaq true true false t = (u6,(c3,c6,0)):=by
   simp only [zaq,zcl,zcU]
   first | rw [Hi.out.1,Hi.out.2] | rw [Hi.out.2] | rw [Hi.out.1] | skip
   first | rw [Hg.out.1,Hg.out.2] | rw [Hg.out.2] | rw [Hg.out.1] | skip
   try rfl
  rw [e]
  refine ⟨C6n,k6,c6n,C6i,c6i,C6o,c6o,rfl,?_,hn,sn,H7.out,hk⟩
  simpa using hz
 have Hk:=Hh.out
 go_upto_region 6 with fail
 refine LexG.region_planU (CK.ok p) [6] [0,1,2,3,4,5,6,7,8,9,10,11] (h:=?_)
 dsimp only [LexG.pick,LexG.nth]
 have bd : Below w7.heap.size w7 w7.drew:=(Below.refl _ _).drew
 replace hz:=hz.below bd hz.lt
 replace hn:=hn.kx hq1 ((Kx.refl _ _).step bd)
 replace hk:=hk.step bd
 obtain ⟨w8,e4⟩ : ∃ w',w7.drew = w':=⟨_,rfl⟩
 rw [e4] at hz hn hk ⊢
 clear e4 bd
 have Hj:=fun s : LexG.Wd (CK p) w8 => (show s.w.cell? ⟨p,3,none⟩ = some (Value.int .i64 r3) from (s.rel 3 (by omega)).trans (hz.cell 3))
 refine LexG.lexU_plain 6 (by kernel_rfl) (by kernel_rfl) ?_
 dsimp only [List.take,List.drop]
 repeat go_big_quiet_step (fail)
 refine wpQuiet_nil ?_
 clear Hj
 refine LexG.lexU_call (h:=fun K hK => ?_)
 go_simp
 refine (zdV (F:=zao) (t:=u6) hz (sweepX hn.nt sn hi ho H9.out Hb.out)).mono ?_
 rintro en w9 ⟨⟨C9n,k9,c9n,C9i,c9i,C9o,c9o,rfl,H0,H4,sn2,hg⟩,H5⟩
 dsimp only
 refine hK _ _ (CK.own hz H0) ?_
 clear hK K
 have Hc:=hz.lt
 replace hk:=hk.trans H5
 have H2:=Lib.hid (H7.out.trans hg)
 have H3:=Lib.hid (hg.bits H9.out)
 have H1:=Lib.hid hg.ok
 obtain ⟨u9,hu⟩ : ∃ u,(zao u6).1 = u:=⟨_,rfl⟩
 have Hd:=sw_t (u6)
 have He:=hg.le
 obtain ⟨c9,hc⟩ : ∃ c,(zao u6).2 = c:=⟨_,rfl⟩
 have Hf:=Lib.hid (And.intro hu hc)
 replace hn:=H4.ntQ (fun b hb => hq2 b (Nat.lt_of_lt_of_le Hc hb))
 replace hz:=H0
 replace sn:=sn2
 rw [hu] at H2 H3 H1 hn He
 rw [hc] at Hd ⊢
 have Ha : c9 ≤ 100000:=by have:=H8.out; omega
 have H6 : Hid (u9.N.length ≤ 100000):=Lib.hid (by have:=H8.out; omega)
 clear H7 H9 Hb H0 H4 sn2 hg H5 Hc hu hc Hd He H8
 have H7:=H2; have H9:=H3; have Hb:=H1; have H8:=H6
 clear H2 H3 H1 H6
 have q1 : IntKind.i64.wrap (r3 + (c9 : Int)) = r3 + (c9 : Int):=by rw [IntKind.wrap_i64]; omega
 refine LexG.lexU_plain 4 (by kernel_rfl) (by kernel_rfl) ?_
 dsimp only [List.take,List.drop]
 repeat go_big_quiet_step (fail)
 refine wpQuiet_nil ?_
 have c1 : _ = some (Value.int .i64 r3):=hz.cell 3
 have f1:=hz.free 3
 refine LexG.lexU_last (h:=fun K hK => ?_)
 go_simp
 refine hK _ _ ?_
 clear hK K c1 f1 q1 Ha
 refine LexG.lexU_nil ?_
 dsimp only [NoPanic]
 have H5:=hk.set (g:=p) rfl 3 (.int .i64 (r3 + (c9 : Int)))
 have H4:=hn.kx hq1 ((Kx.refl (fun b => b = p) _).set (g:=p) rfl 3 (.int .i64 (r3 + (c9 : Int))))
 have H0:=hz.put 3 (.int .i64 (r3 + (c9 : Int)))
 obtain ⟨w10,e4⟩ : ∃ w',w9.setCell ⟨p,3,none⟩ (.int .i64 (r3 + (c9 : Int))) = w':=⟨_,rfl⟩
 rw [e4] at H5 H4 H0 ⊢
 replace hk:=H5
 replace hn:=H4
 replace hz : Own w10 p 97 [.int .i64 (r0 + 1),.int .i64 (r1 + (c3 : Int)),.int .i64 (r2 + (c6 : Int)),.int .i64 (r3 + (c9 : Int)),.slice C9n k9 c9n,.slice C9i ni c9i,.slice C9o no c9o]:=H0
 clear e4 H5 H4 H0
 clear Hk
 go_wp2_with fail
 refine bodyPost_end (v:=.tuple #[]) (by simp [results,Try.results61,go_sem]) rfl ?_
 have e : zaq true true true t = (u9,(c3,c6,c9)):=by
  simp only [zaq,zcl]
  first | rw [Hi.out.1,Hi.out.2] | rw [Hi.out.2] | rw [Hi.out.1] | skip
  first | rw [Hg.out.1,Hg.out.2] | rw [Hg.out.2] | rw [Hg.out.1] | skip
  first | rw [Hf.out.1,Hf.out.2] | rw [Hf.out.2] | rw [Hf.out.1] | skip
  try rfl
 rw [e]
 refine ⟨C9n,k9,c9n,C9i,c9i,C9o,c9o,rfl,?_,hn,sn,H7.out,hk⟩
 simpa using hz
set_option maxRecDepth 4000
theorem below3o (w : World) (a b c : Obj) : Below w.heap.size w (((w.alloc a).alloc b).alloc c):=(zbu w a b).alloc (zbu w a b).size c
theorem IsB.imp2 {ok ok' : Nat → Prop} {w : World} {A : Option Addr} {n : Nat} {L : List Int} (h : IsB ok w A n L) (hk : ∀ b,ok b → b < w.heap.size → ok' b) : IsB ok' w A n L:=⟨h.1,fun k x hx => by
 obtain ⟨b,off,h1,h2,h3,h4⟩:=h.2 k x hx
 exact ⟨b,off,h1,hk b h2 h3,h3,h4⟩⟩
theorem PsH.psA2 {s : Nat} {ok : Nat → Prop} {w : World} {A : Option Addr} {n : Nat} {L : List Pt} (h : PsH s w A n L) (hk : ∀ b,s ≤ b → b < w.heap.size → ok b) : PsA ok w A n L:=⟨h.1,fun k p hp => by
 obtain ⟨b,off,A',m,c,h1,h0,h2,h3,h4,h5,h6,h7⟩:=h.2 k p hp
 exact ⟨b,off,A',m,c,h1,hk b h0 h2,h2,h3,h4,h5,h6,h7.imp2 hk⟩⟩
theorem Own.kx {p g : Nat} {w w' : World} {T : TypeId} {cs : List Value} (h : Own w g T cs) (hk : Kx (fun b => b = p) w w') (hne : g ≠ p) : Own w' g T cs:=(hk.2 g h.lt hne).trans h
theorem below_kx6 {p : Nat} {w0 w w' : World} (h : Below w0.heap.size w0 w) (hk : Kx (fun b => b = p) w w') (hp : w0.heap.size ≤ p) : Below w0.heap.size w0 w':=
 ⟨hk.1.os.trans h.os,hk.1.tape.trans h.tape,hk.1.output.trans h.output,Nat.le_trans h.size hk.size,fun b hb => (hk.2 b (Nat.lt_of_lt_of_le hb h.size) (by omega)).trans (h.block b hb)⟩
theorem clone_H {An Ai Ao : Option Addr} {nn cn ni ci no co : Nat} {N : List Nd} {I O : List Pt} {w : World} (h : Nt w An nn cn Ai ni ci Ao no co N I O) (sn : Sw An nn cn) (hb : ∀ p ∈ I ++ O,p.bits.length ≤ 100000) :
  Calls Try.prog 40 #[.agg #[.slice An nn cn,.slice Ai ni ci,.slice Ao no co]] w fun en w' => (∃ (Bn : Option Addr) (dn : Nat) (Bi : Option Addr) (di : Nat) (Bo : Option Addr) (do' : Nat),en = .returned (.agg #[.slice Bn nn dn,.slice Bi ni di,.slice Bo no do']) ∧ NtH w.heap.size w' Bn nn dn Bi ni di Bo no do' N I O ∧ AdOk (· < w'.heap.size) Bn ∧ Sw Bn nn dn) ∧ Below w.heap.size w w':=by
 have hl:=h.o.1
 refine (zew h sn hb).mono ?_
 rintro en w' ⟨Bn,dn,Bi,di,Bo,do',s,s2,Ro,rfl,hrow,_,swn,swi,swo,hs2,hs,hs3,hI,hro,hRl,hnm,hgd,b⟩
 have hPI:=hI w' (fun _ _ _ => rfl) hs3
 have hPO:=hgd.psH hro hRl hl hnm
 obtain ⟨A2,cc2,e2,_,hA2,N2⟩:=zbj hrow
 injection e2 with e2 _ e3
 subst e2 e3
 exact ⟨⟨Bn,dn,Bi,di,Bo,do',rfl,⟨⟨N2,hPI.ps,hPO.ps,swi,swo,h.hn,h.hs,h.hb⟩,fun b off e => (hA2 b off e).1,hPI.mono hs,hPO.mono (Nat.le_trans hs hs2)⟩,fun b off e => by
  obtain ⟨_,rfl⟩:=hA2 b off e
  subst e
  exact (hrow.lt b rfl).2,swn⟩,b⟩
theorem zfi {a b : ByteArray} (h : a.toList = b.toList) : a = b:=by
 have e : ∀ x : ByteArray,x.toList = x.data.toList:=fun x => by
  exact ByteArray.toList_eq x
 rw [e,e] at h
 cases a with | mk a => cases b with | mk b => exact congrArg ByteArray.mk (Array.ext' h)
theorem sameL_iff {L M : List Pt} (h : zcu L M = true) : L = M:=by
 unfold zcu at h
 rw [Bool.and_eq_true] at h
 have hl : L.length = M.length:=by simpa using h.1
 refine List.ext_getElem hl fun i h1 h2 => ?_
 have:=List.all_eq_true.1 h.2 i (List.mem_range.2 h1)
 unfold zcQ at this
 rw [List.getElem?_eq_getElem h1,List.getElem?_eq_getElem h2] at this
 have this : zdd L[i] M[i] = true:=this
 unfold zdd at this
 rw [Bool.and_eq_true] at this
 have e1 : L[i].name = M[i].name:=zfi (by simpa using this.1)
 have e2 : L[i].bits = M[i].bits:=by simpa using this.2
 generalize L[i] = p at e1 e2
 generalize M[i] = q at e1 e2
 cases p; cases q
 simp only at e1 e2
 rw [e1,e2]
theorem zdc {t u : Tn} : zct t.N u.N t.I u.I t.O u.O = true ↔ t = u:=by
 constructor
 ·intro h
  unfold zct at h
  rw [Bool.and_eq_true,Bool.and_eq_true] at h
  exact Tn.ext_ (by simpa using h.1) (sameL_iff h.2.1) (sameL_iff h.2.2)
 rintro rfl
 exact zcH _ _ _
set_option maxHeartbeats 4000000 in
theorem opt_arg {An Ai Ao : Option Addr} {nn cn ni ci no co : Nat} {w : World} {sw : Int} (hsw : sw < 0 ∨ 7 < sw) :
  Calls Try.prog 35 #[.agg #[.slice An nn cn,.slice Ai ni ci,.slice Ao no co],.int .i64 sw] w fun en w' => en = .returned (.tuple #[.agg #[.slice none 0 0,.slice none 0 0,.slice none 0 0],.agg #[.int .i64 0,.int .i64 0,.int .i64 0,.int .i64 0],.int .i64 1]) ∧ Below w.heap.size w w':=by
 go_enter Try.func35,Try.ntmps35
 go_upto_region 1 with fail
 obtain ⟨w1,e1⟩ : ∃ w',((w.alloc (.cells #[.slice An nn cn,.slice Ai ni ci,.slice Ao no co] 25)).alloc (.cells #[.slice none 0 0,.slice none 0 0,.slice none 0 0] 25)).alloc (.cells #[.int .i64 0,.int .i64 0,.int .i64 0,.int .i64 0] 57) = w':=⟨_,rfl⟩
 have z0 : Bx w1 w.heap.size [.slice An nn cn,.slice Ai ni ci,.slice Ao no co]:=by
  rw [← e1]
  exact ((Bx.made_k w rfl #[.slice An nn cn,.slice Ai ni ci,.slice Ao no co] 25).on (zaa _ _)).on (zaa _ _)
 have ZN : Own w1 (w.heap.size + 1) 25 [.slice none 0 0,.slice none 0 0,.slice none 0 0]:=by
  rw [← e1,← zal w (.cells #[.slice An nn cn,.slice Ai ni ci,.slice Ao no co] 25) rfl]
  exact (Own.made _ 25 [.slice none 0 0,.slice none 0 0,.slice none 0 0]).below (zaa _ _) (by simp)
 have ZR : Own w1 (w.heap.size + 1 + 1) 57 [.int .i64 0,.int .i64 0,.int .i64 0,.int .i64 0]:=by
  have es : (((w.alloc (.cells #[.slice An nn cn,.slice Ai ni ci,.slice Ao no co] 25)).alloc (.cells #[.slice none 0 0,.slice none 0 0,.slice none 0 0] 25)).heap.size) = w.heap.size + 1 + 1:=zal _ _ (zal w _ rfl)
  rw [← e1,← es]
  exact Own.made _ 57 [.int .i64 0,.int .i64 0,.int .i64 0,.int .i64 0]
 have BW : Below w.heap.size w w1:=by rw [← e1]; exact below3o _ _ _ _
 rw [e1]
 clear e1
 obtain ⟨s2,hs2⟩ : ∃ s2,w.heap.size + 1 + 1 = s2:=⟨_,rfl⟩
 obtain ⟨s1,hs1⟩ : ∃ s1,w.heap.size + 1 = s1:=⟨_,rfl⟩
 have H2 : w.heap.size ≤ s1:=by omega
 have H1 : w.heap.size ≤ s2:=by omega
 have H0 : s1 ≠ s2:=by omega
 have hn01 : w.heap.size ≠ s1:=by omega
 have hn02 : w.heap.size ≠ s2:=by omega
 rw [hs2] at ZR ⊢
 rw [hs1] at ZN ⊢
 clear hs1 hs2
 have hd : decide (sw < 0) = true ∨ (decide (sw < 0) = false ∧ decide (7 < sw) = true):=by
  rcases Int.lt_or_le sw 0 with h | h
  ·exact .inl (by simpa using h)
  exact .inr ⟨by simpa using h,by simp; omega⟩
 rcases hd with hd | ⟨hd,hd2⟩
 all_goals
  obtain ⟨f0,f1,f2⟩:=ZN.zof0f1f2
  obtain ⟨p0,p1,p2⟩:=ZN.zo3
  obtain ⟨g0,g1,g2,g3⟩:=ZR.zof0f1f2f3
  obtain ⟨k0,k1,k2,k3⟩:=ZR.zo4
  go_wp2_with fail
  clear f0 f1 f2 p0 p1 p2 g0 g1 g2 g3 k0 k1 k2 k3
  have VN:=(((((ZN.p3' (.slice none 0 0) (.slice none 0 0) (.slice none 0 0)).apart H0 0 (.int .i64 0)).apart H0 1 (.int .i64 0)).apart H0 2 (.int .i64 0)).apart H0 3 (.int .i64 0))
  have VR:=(((((((ZR.apart H0.symm 0 (.slice none 0 0)).apart H0.symm 1 (.slice none 0 0)).apart H0.symm 2 (.slice none 0 0)).put 0 (.int .i64 0)).put 1 (.int .i64 0)).put 2 (.int .i64 0)).put 3 (.int .i64 0))
  obtain ⟨p0,p1,p2⟩:=VN.zo3
  obtain ⟨k0,k1,k2,k3⟩:=VR.zo4
  have BE:=((((BW.e3' H2 (.slice none 0 0) (.slice none 0 0) (.slice none 0 0)).setCell (p:=⟨s2,0,none⟩) H1 (.int .i64 0)).setCell (p:=⟨s2,1,none⟩) H1 (.int .i64 0)).setCell (p:=⟨s2,2,none⟩) H1 (.int .i64 0)).setCell (p:=⟨s2,3,none⟩) H1 (.int .i64 0)
  refine bodyPost_ret (v:=.tuple #[.agg #[.slice none 0 0,.slice none 0 0,.slice none 0 0],.agg #[.int .i64 0,.int .i64 0,.int .i64 0,.int .i64 0],.int .i64 1]) (by simp [results,Try.results35,go_sem,p0,p1,p2,k0,k1,k2,k3]) rfl ⟨rfl,BE⟩
set_option maxHeartbeats 4000000 in
theorem opt_no {An Ai Ao : Option Addr} {nn cn ni ci no co : Nat} {N : List Nd} {I O : List Pt} {w : World} {sw : Int} (h : Nt w An nn cn Ai ni ci Ao no co N I O) (h0 : 0 ≤ sw) (h7 : sw ≤ 7) {d : Option (List Nat)} {e : Int} (hl : zaB N I O = (d,e)) (d0 : (e != 0) = true) :
  Calls Try.prog 35 #[.agg #[.slice An nn cn,.slice Ai ni ci,.slice Ao no co],.int .i64 sw] w fun en w' => en = .returned (.tuple #[.agg #[.slice none 0 0,.slice none 0 0,.slice none 0 0],.agg #[.int .i64 0,.int .i64 0,.int .i64 0,.int .i64 0],.int .i64 e]) ∧ Below w.heap.size w w':=by
 have HL:=Lib.hid hl
 clear hl
 go_enter Try.func35,Try.ntmps35
 go_upto_region 1 with fail
 obtain ⟨w1,e1⟩ : ∃ w',((w.alloc (.cells #[.slice An nn cn,.slice Ai ni ci,.slice Ao no co] 25)).alloc (.cells #[.slice none 0 0,.slice none 0 0,.slice none 0 0] 25)).alloc (.cells #[.int .i64 0,.int .i64 0,.int .i64 0,.int .i64 0] 57) = w':=⟨_,rfl⟩
 have z0 : Bx w1 w.heap.size [.slice An nn cn,.slice Ai ni ci,.slice Ao no co]:=by
  rw [← e1]
  exact ((Bx.made_k w rfl #[.slice An nn cn,.slice Ai ni ci,.slice Ao no co] 25).on (zaa _ _)).on (zaa _ _)
 have ZN : Own w1 (w.heap.size + 1) 25 [.slice none 0 0,.slice none 0 0,.slice none 0 0]:=by
  rw [← e1,← zal w (.cells #[.slice An nn cn,.slice Ai ni ci,.slice Ao no co] 25) rfl]
  exact (Own.made _ 25 [.slice none 0 0,.slice none 0 0,.slice none 0 0]).below (zaa _ _) (by simp)
 have ZR : Own w1 (w.heap.size + 1 + 1) 57 [.int .i64 0,.int .i64 0,.int .i64 0,.int .i64 0]:=by
  have es : (((w.alloc (.cells #[.slice An nn cn,.slice Ai ni ci,.slice Ao no co] 25)).alloc (.cells #[.slice none 0 0,.slice none 0 0,.slice none 0 0] 25)).heap.size) = w.heap.size + 1 + 1:=zal _ _ (zal w _ rfl)
  rw [← e1,← es]
  exact Own.made _ 57 [.int .i64 0,.int .i64 0,.int .i64 0,.int .i64 0]
 have BW : Below w.heap.size w w1:=by rw [← e1]; exact below3o _ _ _ _
 rw [e1]
 clear e1
 obtain ⟨s2,hs2⟩ : ∃ s2,w.heap.size + 1 + 1 = s2:=⟨_,rfl⟩
 obtain ⟨s1,hs1⟩ : ∃ s1,w.heap.size + 1 = s1:=⟨_,rfl⟩
 have H2 : w.heap.size ≤ s1:=by omega
 have H1 : w.heap.size ≤ s2:=by omega
 have H0 : s1 ≠ s2:=by omega
 have hn01 : w.heap.size ≠ s1:=by omega
 have hn02 : w.heap.size ≠ s2:=by omega
 rw [hs2] at ZR ⊢
 rw [hs1] at ZN ⊢
 clear hs1 hs2
 replace h:=h.on BW
 have hd : decide (sw < 0) = false:=by simpa using h0
 have hd2 : decide (7 < sw) = false:=by simpa using h7
 obtain ⟨c0,c1,c2⟩:=z0.zb3
 go_wp2_with fail
 refine (zfh h HL.out).mono ?_
 rintro en w2 ⟨rfl,b⟩
 clear c0 c1 c2
 replace ZN:=ZN.below b ZN.lt
 replace ZR:=ZR.below b ZR.lt
 replace BW:=Below.step BW b
 clear b
 obtain ⟨f0,f1,f2⟩:=ZN.zof0f1f2
 obtain ⟨p0,p1,p2⟩:=ZN.zo3
 obtain ⟨g0,g1,g2,g3⟩:=ZR.zof0f1f2f3
 obtain ⟨k0,k1,k2,k3⟩:=ZR.zo4
 go_wp2_with fail
 clear f0 f1 f2 p0 p1 p2 g0 g1 g2 g3 k0 k1 k2 k3
 have VN:=(((((ZN.p3' (.slice none 0 0) (.slice none 0 0) (.slice none 0 0)).apart H0 0 (.int .i64 0)).apart H0 1 (.int .i64 0)).apart H0 2 (.int .i64 0)).apart H0 3 (.int .i64 0))
 have VR:=(((((((ZR.apart H0.symm 0 (.slice none 0 0)).apart H0.symm 1 (.slice none 0 0)).apart H0.symm 2 (.slice none 0 0)).put 0 (.int .i64 0)).put 1 (.int .i64 0)).put 2 (.int .i64 0)).put 3 (.int .i64 0))
 obtain ⟨p0,p1,p2⟩:=VN.zo3
 obtain ⟨k0,k1,k2,k3⟩:=VR.zo4
 have BE:=((((BW.e3' H2 (.slice none 0 0) (.slice none 0 0) (.slice none 0 0)).setCell (p:=⟨s2,0,none⟩) H1 (.int .i64 0)).setCell (p:=⟨s2,1,none⟩) H1 (.int .i64 0)).setCell (p:=⟨s2,2,none⟩) H1 (.int .i64 0)).setCell (p:=⟨s2,3,none⟩) H1 (.int .i64 0)
 refine bodyPost_ret (v:=.tuple #[.agg #[.slice none 0 0,.slice none 0 0,.slice none 0 0],.agg #[.int .i64 0,.int .i64 0,.int .i64 0,.int .i64 0],.int .i64 e]) (by simp [results,Try.results35,go_sem,p0,p1,p2,k0,k1,k2,k3]) rfl ⟨rfl,BE⟩
def OptX (ni no : Nat) (w : World) (f s x : Bool) (t : Tn) (en : Ending) (w' : World) : Prop:=∃ (k : Nat) (Bn : Option Addr) (kk dn : Nat) (Bi : Option Addr) (di : Nat) (Bo : Option Addr) (do' : Nat),en = .returned (.tuple #[.agg #[.slice Bn kk dn,.slice Bi ni di,.slice Bo no do'],.agg #[.int .i64 (k : Int),.int .i64 ((itT f s x t k).2.1 : Int),.int .i64 ((itT f s x t k).2.2.1 : Int),.int .i64 ((itT f s x t k).2.2.2 : Int)],.int .i64 0]) ∧ EndK f s x t k ∧ Nt w' Bn kk dn Bi ni di Bo no do' (itT f s x t k).1.N (itT f s x t k).1.I (itT f s x t k).1.O ∧ Sw Bn kk dn ∧ Gd t (itT f s x t k).1
structure OpL (p lo ni no : Nat) (W0 : World) (f s x : Bool) (t : Tn) (k : Nat) (w : World) : Prop where
  ex : ∃ (Bn : Option Addr) (kk dn : Nat) (Bi : Option Addr) (di : Nat) (Bo : Option Addr) (do' : Nat),Own w p 97 [.int .i64 (k : Int),.int .i64 ((itT f s x t k).2.1 : Int),.int .i64 ((itT f s x t k).2.2.1 : Int),.int .i64 ((itT f s x t k).2.2.2 : Int),.slice Bn kk dn,.slice Bi ni di,.slice Bo no do'] ∧ NtQ (fun b => b ≠ p ∧ lo ≤ b) w Bn kk dn Bi ni di Bo no do' (itT f s x t k).1.N (itT f s x t k).1.I (itT f s x t k).1.O ∧ Sw Bn kk dn
  gd : Gd t (itT f s x t k).1
  bl : Below W0.heap.size W0 w
  on : ∀ j,j + 1 < k → (itT f s x t (j + 1)).1 ≠ (itT f s x t j).1
  b1 : (itT f s x t k).2.1 ≤ k * 100000
  b2 : (itT f s x t k).2.2.1 ≤ k * 100000
  b3 : (itT f s x t k).2.2.2 ≤ k * 100000
def rndW (w : World) (p : Nat) : Nat:=match w.cell? ⟨p,0,none⟩ with
 | some (.int _ v) => v.toNat
 | _ => 0
theorem rnd_le (f s x : Bool) (t : Tn) : (zaq f s x t).2.1 ≤ t.N.length ∧ (zaq f s x t).2.2.1 ≤ t.N.length ∧ (zaq f s x t).2.2.2 ≤ t.N.length:=by
 have h1:=partT_len (on:=f) zeq t
 have h2:=partT_len (on:=s) zdt (zaR f za3 t).1
 refine ⟨?_,?_,?_⟩
 ·show (zaR f za3 t).2 ≤ _
  unfold zaR
  split
  ·exact chN_t t
  exact Nat.zero_le _
 ·show (zaR s zaA (zaR f za3 t).1).2 ≤ _
  rw [← h1]
  generalize (zaR f za3 t).1 = u
  unfold zaR
  split
  ·exact chS_t u
  exact Nat.zero_le _
 show (zaR x zao (zaR s zaA (zaR f za3 t).1).1).2 ≤ _
 rw [← h1,← h2]
 generalize (zaR s zaA (zaR f za3 t).1).1 = u
 unfold zaR
 split
 ·exact sw_t u
 exact Nat.zero_le _
set_option maxHeartbeats 16000000 in
theorem opt_yes {An Ai Ao : Option Addr} {nn cn ni ci no co : Nat} {t : Tn} {w : World} {sw : Int} {f s x : Bool} (h : Nt w An nn cn Ai ni ci Ao no co t.N t.I t.O) (sn : Sw An nn cn) (hi : ni ≤ 66) (ho : no ≤ 66) (hb : ∀ p ∈ t.I ++ t.O,p.bits.length ≤ 4000) (hok : OkT t) (h0 : 0 ≤ sw) (h7 : sw ≤ 7) (hsw : Sw8 sw f s x) :
  Calls Try.prog 35 #[.agg #[.slice An nn cn,.slice Ai ni ci,.slice Ao no co],.int .i64 sw] w fun en w' => OptX ni no w f s x t en w' ∧ Below w.heap.size w w':=by
 have HOK:=Lib.hid hok
 have HBT:=Lib.hid hb
 have HSW:=Lib.hid hsw
 have HBL : Hid (∀ p ∈ t.I ++ t.O,p.bits.length ≤ 100000):=Lib.hid fun p hp => by have:=hb p hp; omega
 have HLV : Hid (∃ dd,zaB t.N t.I t.O = (some dd,0)):=Lib.hid (by obtain ⟨dd,L,lx⟩:=hok; exact ⟨dd,lx.lev⟩)
 clear hok hb hsw
 go_enter Try.func35,Try.ntmps35
 go_upto_region 1 with fail
 obtain ⟨w1,e1⟩ : ∃ w',((w.alloc (.cells #[.slice An nn cn,.slice Ai ni ci,.slice Ao no co] 25)).alloc (.cells #[.slice none 0 0,.slice none 0 0,.slice none 0 0] 25)).alloc (.cells #[.int .i64 0,.int .i64 0,.int .i64 0,.int .i64 0] 57) = w':=⟨_,rfl⟩
 have z0 : Bx w1 w.heap.size [.slice An nn cn,.slice Ai ni ci,.slice Ao no co]:=by
  rw [← e1]
  exact ((Bx.made_k w rfl #[.slice An nn cn,.slice Ai ni ci,.slice Ao no co] 25).on (zaa _ _)).on (zaa _ _)
 have ZN : Own w1 (w.heap.size + 1) 25 [.slice none 0 0,.slice none 0 0,.slice none 0 0]:=by
  rw [← e1,← zal w (.cells #[.slice An nn cn,.slice Ai ni ci,.slice Ao no co] 25) rfl]
  exact (Own.made _ 25 [.slice none 0 0,.slice none 0 0,.slice none 0 0]).below (zaa _ _) (by simp)
 have ZR : Own w1 (w.heap.size + 1 + 1) 57 [.int .i64 0,.int .i64 0,.int .i64 0,.int .i64 0]:=by
  have es : (((w.alloc (.cells #[.slice An nn cn,.slice Ai ni ci,.slice Ao no co] 25)).alloc (.cells #[.slice none 0 0,.slice none 0 0,.slice none 0 0] 25)).heap.size) = w.heap.size + 1 + 1:=zal _ _ (zal w _ rfl)
  rw [← e1,← es]
  exact Own.made _ 57 [.int .i64 0,.int .i64 0,.int .i64 0,.int .i64 0]
 have BW : Below w.heap.size w w1:=by rw [← e1]; exact below3o _ _ _ _
 rw [e1]
 clear e1
 obtain ⟨s2,hs2⟩ : ∃ s2,w.heap.size + 1 + 1 = s2:=⟨_,rfl⟩
 obtain ⟨s1,hs1⟩ : ∃ s1,w.heap.size + 1 = s1:=⟨_,rfl⟩
 have H3 : w.heap.size ≤ s1:=by omega
 have Hg : w.heap.size ≤ s2:=by omega
 have H0 : s1 ≠ s2:=by omega
 have hn01 : w.heap.size ≠ s1:=by omega
 have hn02 : w.heap.size ≠ s2:=by omega
 rw [hs2] at ZR ⊢
 rw [hs1] at ZN ⊢
 clear hs1 hs2
 replace h:=h.on BW
 have hd : decide (sw < 0) = false:=by simpa using h0
 have hd2 : decide (7 < sw) = false:=by simpa using h7
 obtain ⟨c0,c1,c2⟩:=z0.zb3
 obtain ⟨dd,hdd⟩:=HLV.out
 have HDD:=Lib.hid hdd
 clear hdd
 go_wp2_with fail
 refine (zfh h HDD.out).mono ?_
 rintro en w2 ⟨rfl,b⟩
 clear c0 c1 c2 hd hd2
 replace h:=h.on b
 replace z0:=z0.on b
 replace ZN:=ZN.below b ZN.lt
 replace ZR:=ZR.below b ZR.lt
 replace BW:=Below.step BW b
 clear b
 obtain ⟨c0,c1,c2⟩:=z0.zb3
 go_upto_region 7 with (go_at_call 40; (with_reducible refine (clone_H h sn HBL.out).mono ?_); (rintro en w3 ⟨⟨Cn,dn,Ci,ei,Co,eo,rfl,hcl,hca,swn⟩,b⟩; clear c0 c1 c2; replace BW:=Below.step BW b))
 obtain ⟨lo,hlo⟩ : ∃ lo,w2.heap.size = lo:=⟨_,rfl⟩
 have He : s1 < lo:=by have:=ZN.lt; omega
 have H7 : s2 < lo:=by have:=ZR.lt; omega
 have hl3 : lo ≤ w3.heap.size:=by have:=b.size; omega
 rw [hlo] at hcl
 replace ZN:=ZN.below b ZN.lt
 replace ZR:=ZR.below b ZR.lt
 clear b hlo h z0
 have Hk : s1 < w3.heap.size:=by omega
 have Hj : s2 < w3.heap.size:=by omega
 obtain ⟨w4,e4⟩ : ∃ w',w3.alloc (.cells #[.int .i64 0,.int .i64 0,.int .i64 0,.int .i64 0,.slice Cn nn dn,.slice Ci ni ei,.slice Co no eo] 97) = w':=⟨_,rfl⟩
 have b : Below w3.heap.size w3 w4:=e4 ▸ zaa _ _
 have hz : Own w4 w3.heap.size 97 [.int .i64 0,.int .i64 0,.int .i64 0,.int .i64 0,.slice Cn nn dn,.slice Ci ni ei,.slice Co no eo]:=e4 ▸ Own.made w3 97 [.int .i64 0,.int .i64 0,.int .i64 0,.int .i64 0,.slice Cn nn dn,.slice Ci ni ei,.slice Co no eo]
 rw [e4]
 obtain ⟨p,hp⟩ : ∃ p,w3.heap.size = p:=⟨_,rfl⟩
 have hn : NtQ (fun b => b ≠ p ∧ lo ≤ b) w4 Cn nn dn Ci ni ei Co no eo t.N t.I t.O:=by
  refine NtQ.kp (w:=w3) ⟨hcl.nt,fun b off e => ⟨?_,hcl.an b off e⟩,hcl.ai.psA2 fun b h1 h2 => ⟨by omega,h1⟩,hcl.ao.psA2 fun b h1 h2 => ⟨by omega,h1⟩⟩ (Kp.below b fun b hb _ => hb)
  have h2:=hca b off e
  have h3 : b < w3.heap.size:=h2
  omega
 have hpl : lo ≤ p:=by omega
 have Hd : p ≠ s1:=by omega
 have H6 : p ≠ s2:=by omega
 rw [hp] at hz ⊢
 have HP:=Lib.hid hp
 have Hn : Hid (OpL p lo ni no w3 f s x t 0 w4):=Lib.hid ⟨⟨Cn,nn,dn,Ci,ei,Co,eo,hz,hn,swn⟩,Gd.self HOK.out,b,fun j hj => by omega,Nat.zero_le _,Nat.zero_le _,Nat.zero_le _⟩
 clear e4 b hz hn hp hcl hca swn
 go_wp2_with fail
 go_loopw [9] (fun cv wr => ∃ (k : Nat) (c : Bool),cv = .bool c ∧ k ≤ 12 ∧ Hid (c = false → ∃ j,k = j + 1 ∧ (itT f s x t (j + 1)).1 = (itT f s x t j).1) ∧ Hid (c = true → ∀ j,k = j + 1 → (itT f s x t (j + 1)).1 ≠ (itT f s x t j).1) ∧ Hid (OpL p lo ni no w3 f s x t k wr)) (fun _ wr => 12 - rndW wr p)
 case atStart => exact ⟨0,true,rfl,by omega,Lib.hid (fun e => by cases e),Lib.hid (fun _ j hj => by omega),Hn⟩
 clear Hn
 obtain ⟨k,c,rfl,hk12,HCF,HCT,HOL⟩:=hrel
 obtain ⟨Bn,kk,dn,Bi,di,Bo,do',hz,hn,swx⟩:=HOL.out.ex
 have BL:=HOL.out.bl
 have c0 : _ = some (Value.int .i64 (k : Int)):=hz.cell 0
 cases c
 ·have Hb : Hid (EndK f s x t k):=Lib.hid (by
   obtain ⟨j,rfl,hj⟩:=HCF.out rfl
   exact ⟨by omega,hk12,HOL.out.on,.inr ⟨j,rfl,hj⟩⟩)
  obtain ⟨c4,c5,c6,c1,c2,c3⟩:=hz.zoc4c5c6c1c2c3
  go_upto_region 12 with fail
  have H2:=ZN.below BL Hk
  have H4:=ZR.below BL Hj
  refine LexG.region_planU (KB3.ok p p p) [4,5] [0,1,2,3,4,5,6] (h:=?_)
  dsimp only [LexG.pick,LexG.nth]
  have bd : Below wr.heap.size wr wr.drew:=(Below.refl _ _).drew
  have H1:=hz.below bd hz.lt
  have H9:=hn.kp (Kp.below bd fun b hb _ => hb)
  have H2:=H2.below bd H2.lt
  have H4:=H4.below bd H4.lt
  have Hc:=Below.step BL bd
  obtain ⟨w9,e9⟩ : ∃ w',wr.drew = w':=⟨_,rfl⟩
  rw [e9] at H1 H9 H2 H4 Hc ⊢
  clear e9 bd hn hz
  have Hu:=fun s' : LexG.Wd (KB3 p p p) w9 => (show s'.w.cell? ⟨p,0,none⟩ = some (Value.int .i64 (k : Int)) from (zac s'.rel.1 0).trans (H1.cell 0))
  have Ht:=fun s' : LexG.Wd (KB3 p p p) w9 => (show s'.w.cell? ⟨p,1,none⟩ = some (Value.int .i64 ((itT f s x t k).2.1 : Int)) from (zac s'.rel.1 1).trans (H1.cell 1))
  have Hs:=fun s' : LexG.Wd (KB3 p p p) w9 => (show s'.w.cell? ⟨p,2,none⟩ = some (Value.int .i64 ((itT f s x t k).2.2.1 : Int)) from (zac s'.rel.1 2).trans (H1.cell 2))
  have Hr:=fun s' : LexG.Wd (KB3 p p p) w9 => (show s'.w.cell? ⟨p,3,none⟩ = some (Value.int .i64 ((itT f s x t k).2.2.2 : Int)) from (zac s'.rel.1 3).trans (H1.cell 3))
  have Hq:=fun s' : LexG.Wd (KB3 p p p) w9 => (show s'.w.cell? ⟨p,4,none⟩ = some (Value.slice Bn kk dn) from (zac s'.rel.1 4).trans (H1.cell 4))
  have Hp:=fun s' : LexG.Wd (KB3 p p p) w9 => (show s'.w.cell? ⟨p,5,none⟩ = some (Value.slice Bi ni di) from (zac s'.rel.1 5).trans (H1.cell 5))
  have Ho:=fun s' : LexG.Wd (KB3 p p p) w9 => (show s'.w.cell? ⟨p,6,none⟩ = some (Value.slice Bo no do') from (zac s'.rel.1 6).trans (H1.cell 6))
  refine LexG.lexU_plain 4 (by kernel_rfl) (by kernel_rfl) ?_
  dsimp only [List.take,List.drop]
  repeat go_big_quiet_step (fail)
  refine wpQuiet_nil ?_
  clear Hu Ht Hs Hr Hq Hp Ho
  obtain ⟨f0,f1,f2⟩:=H2.zof0f1f2
  obtain ⟨p0,p1,p2⟩:=H2.zo3
  refine LexG.lexU_call (h:=fun K hK => ?_)
  go_simp
  have kb : (((w9.setCell ⟨s1,0,none⟩ (.slice Bn kk dn)).setCell ⟨s1,1,none⟩ (.slice Bi ni di)).setCell ⟨s1,2,none⟩ (.slice Bo no do')).heap[p]? = w9.heap[p]?:=by
   rw [Below.heap_setCell _ _ _ _ Hd,Below.heap_setCell _ _ _ _ Hd,Below.heap_setCell _ _ _ _ Hd]
  refine hK _ _ ⟨kb,kb,kb⟩ ?_
  clear hK K kb f0 f1 f2 p0 p1 p2
  have Ha:=H2.p3' (.slice Bn kk dn) (.slice Bi ni di) (.slice Bo no do')
  have H5:=((H4.apart H0.symm 0 (.slice Bn kk dn)).apart H0.symm 1 (.slice Bi ni di)).apart H0.symm 2 (.slice Bo no do')
  have kq : ∀ (w : World) (q : Nat) (o : Nat) (v : Value),q < lo → Kp (fun b => b ≠ p ∧ lo ≤ b) w (w.setCell ⟨q,o,none⟩ v):=fun w q o v hq => ⟨by simp [World.setCell],fun b _ hb => Below.heap_setCell _ _ _ _ (by show b ≠ q; omega)⟩
  have H8:=((H9.kp (kq _ s1 0 (.slice Bn kk dn) He)).kp (kq _ s1 1 (.slice Bi ni di) He)).kp (kq _ s1 2 (.slice Bo no do') He)
  have B3:=(((BW.trans (Hc.mono BW.size)).setCell (p:=⟨s1,0,none⟩) H3 (.slice Bn kk dn)).setCell (p:=⟨s1,1,none⟩) H3 (.slice Bi ni di)).setCell (p:=⟨s1,2,none⟩) H3 (.slice Bo no do')
  obtain ⟨w10,e10⟩ : ∃ w',((w9.setCell ⟨s1,0,none⟩ (.slice Bn kk dn)).setCell ⟨s1,1,none⟩ (.slice Bi ni di)).setCell ⟨s1,2,none⟩ (.slice Bo no do') = w':=⟨_,rfl⟩
  rw [e10] at Ha H5 H8 B3 ⊢
  clear e10 H2 H4 H9 H1 Hc
  obtain ⟨g0,g1,g2,g3⟩:=H5.zof0f1f2f3
  obtain ⟨k0,k1,k2,k3⟩:=H5.zo4
  refine LexG.lexU_call (h:=fun K hK => ?_)
  go_simp
  have kb : ((((w10.setCell ⟨s2,0,none⟩ (.int .i64 (k : Int))).setCell ⟨s2,1,none⟩ (.int .i64 ((itT f s x t k).2.1 : Int))).setCell ⟨s2,2,none⟩ (.int .i64 ((itT f s x t k).2.2.1 : Int))).setCell ⟨s2,3,none⟩ (.int .i64 ((itT f s x t k).2.2.2 : Int))).heap[p]? = w10.heap[p]?:=by
   rw [Below.heap_setCell _ _ _ _ H6,Below.heap_setCell _ _ _ _ H6,Below.heap_setCell _ _ _ _ H6,Below.heap_setCell _ _ _ _ H6]
  refine hK _ _ ⟨kb,kb,kb⟩ ?_
  clear hK K kb g0 g1 g2 g3 k0 k1 k2 k3
  have Hm:=(((Ha.apart H0 0 (.int .i64 (k : Int))).apart H0 1 (.int .i64 ((itT f s x t k).2.1 : Int))).apart H0 2 (.int .i64 ((itT f s x t k).2.2.1 : Int))).apart H0 3 (.int .i64 ((itT f s x t k).2.2.2 : Int))
  have Hl:=H5.p4' (.int .i64 (k : Int)) (.int .i64 ((itT f s x t k).2.1 : Int)) (.int .i64 ((itT f s x t k).2.2.1 : Int)) (.int .i64 ((itT f s x t k).2.2.2 : Int))
  have Hi:=(((H8.kp (kq _ s2 0 (.int .i64 (k : Int)) H7)).kp (kq _ s2 1 (.int .i64 ((itT f s x t k).2.1 : Int)) H7)).kp (kq _ s2 2 (.int .i64 ((itT f s x t k).2.2.1 : Int)) H7)).kp (kq _ s2 3 (.int .i64 ((itT f s x t k).2.2.2 : Int)) H7)
  have B4:=B3.e4' Hg (.int .i64 (k : Int)) (.int .i64 ((itT f s x t k).2.1 : Int)) (.int .i64 ((itT f s x t k).2.2.1 : Int)) (.int .i64 ((itT f s x t k).2.2.2 : Int))
  obtain ⟨w11,e11⟩ : ∃ w',(((w10.setCell ⟨s2,0,none⟩ (.int .i64 (k : Int))).setCell ⟨s2,1,none⟩ (.int .i64 ((itT f s x t k).2.1 : Int))).setCell ⟨s2,2,none⟩ (.int .i64 ((itT f s x t k).2.2.1 : Int))).setCell ⟨s2,3,none⟩ (.int .i64 ((itT f s x t k).2.2.2 : Int)) = w':=⟨_,rfl⟩
  rw [e11] at Hm Hl Hi B4 ⊢
  clear e11 Ha H5 H8 B3 kq
  refine LexG.lexU_plain 1 (by kernel_rfl) (by kernel_rfl) ?_
  dsimp only [List.take,List.drop]
  repeat go_big_quiet_step (fail)
  refine wpQuiet_nil ?_
  refine LexG.lexU_nil ?_
  dsimp only [NoPanic]
  obtain ⟨p0,p1,p2⟩:=Hm.zo3
  obtain ⟨k0,k1,k2,k3⟩:=Hl.zo4
  go_wp2_with fail
  refine bodyPost_ret (v:=.tuple #[.agg #[.slice Bn kk dn,.slice Bi ni di,.slice Bo no do'],.agg #[.int .i64 (k : Int),.int .i64 ((itT f s x t k).2.1 : Int),.int .i64 ((itT f s x t k).2.2.1 : Int),.int .i64 ((itT f s x t k).2.2.2 : Int)],.int .i64 0]) (by simp [results,Try.results35,go_sem,p0,p1,p2,k0,k1,k2,k3]) rfl ⟨?_,B4⟩
  unfold OptX
  exact ⟨k,Bn,kk,dn,Bi,di,Bo,do',rfl,Hb.out,Hi.nt,swx,HOL.out.gd⟩
 by_cases hk : k < 12
 ·have hki : (k : Int) < 12:=by omega
  obtain ⟨c4,c5,c6⟩:=hz.zoc4c5c6
  go_upto_region 10 with fail
  clear c0 c4 c5 c6
  obtain ⟨w5,e5⟩ : ∃ w',wr.alloc (.cells #[.slice Bn kk dn,.slice Bi ni di,.slice Bo no do'] 25) = w':=⟨_,rfl⟩
  have b : Below wr.heap.size wr w5:=e5 ▸ zaa _ _
  have zb : Own w5 wr.heap.size 25 [.slice Bn kk dn,.slice Bi ni di,.slice Bo no do']:=e5 ▸ Own.made wr 25 [.slice Bn kk dn,.slice Bi ni di,.slice Bo no do']
  rw [e5]
  have hlt:=hz.lt
  have hz5:=hz.below b hz.lt
  have Hw:=hn.kp (Kp.below b fun b hb _ => hb)
  have BL5:=Below.step BL b
  obtain ⟨sb,hsb⟩ : ∃ sb,wr.heap.size = sb:=⟨_,rfl⟩
  have hnb : sb ≠ p:=by omega
  have hrw : rndW wr p = k:=by unfold rndW; rw [hz.cell 0]; rfl
  have HRW:=Lib.hid hrw
  have Hf:=Lib.hid (And.intro HOL.out.b1 (And.intro HOL.out.b2 HOL.out.b3))
  have K2:=Lib.hid HOL.out.gd
  have Hz:=Lib.hid (rnd_le f s x (itT f s x t k).1)
  have K1 : Hid ((itT f s x t k).1.N.length ≤ 100000):=Lib.hid (by rw [hn.nt.n.1]; exact hn.nt.hn)
  have hb1:=Hf.out.1; have hb2:=Hf.out.2.1; have hb3:=Hf.out.2.2
  have x0 : 0 ≤ (k : Int) ∧ (k : Int) ≤ 100000000:=by omega
  have x1 : 0 ≤ ((itT f s x t k).2.1 : Int) ∧ ((itT f s x t k).2.1 : Int) ≤ 100000000:=by omega
  have x2 : 0 ≤ ((itT f s x t k).2.2.1 : Int) ∧ ((itT f s x t k).2.2.1 : Int) ≤ 100000000:=by omega
  have x3 : 0 ≤ ((itT f s x t k).2.2.2 : Int) ∧ ((itT f s x t k).2.2.2 : Int) ≤ 100000000:=by omega
  rw [hsb] at zb ⊢
  clear e5 b hsb hrw hb1 hb2 hb3 hn hz BL hlt
  go_wp2_with fail
  refine (round_as hz5 (fun b hb => hb.1) (fun b hb => ⟨by omega,by omega⟩) Hw swx hi ho (K2.out.bits HBT.out) K2.out.ok HSW.out x0 x1 x2 x3).mono ?_
  rintro en w6 ⟨Dn,k6,d6,Di,e6,Do,o6,rfl,hz6,hn6,sw6,hg6,hk6⟩
  have zb6:=zb.kx hk6 hnb
  have Hh:=Hw.kx (fun b hb => hb.1) hk6
  have BL6 : Below w3.heap.size w3 w6:=below_kx6 BL5 hk6 (by have:=HP.out; omega)
  obtain ⟨c0,c1,c2⟩:=zb6.zo3
  have c0 : _ = some (Value.slice Bn kk dn):=c0
  have c1 : _ = some (Value.slice Bi ni di):=c1
  have c2 : _ = some (Value.slice Bo no do'):=c2
  obtain ⟨c4,c5,c6⟩:=hz6.zoc4c5c6
  obtain ⟨v,hv⟩ : ∃ v,zct (itT f s x t k).1.N (zaq f s x (itT f s x t k).1).1.N (itT f s x t k).1.I (zaq f s x (itT f s x t k).1).1.I (itT f s x t k).1.O (zaq f s x (itT f s x t k).1).1.O = v:=⟨_,rfl⟩
  have Hx:=Lib.hid hv
  clear hv
  go_wp2_with fail
  refine (same_as Hh.nt hn6.nt v Hx.out).mono ?_
  rintro en w7 ⟨rfl,b⟩
  clear c0 c1 c2 c4 c5 c6
  have Hv:=hz6.below b hz6.lt
  have hn7:=hn6.kp (Kp.below b fun b hb _ => hb)
  have BL7:=Below.step BL6 b
  have hnx : (itT f s x t (k + 1)).1 = (zaq f s x (itT f s x t k).1).1:=rfl
  have K0 : Hid (OpL p lo ni no w3 f s x t (k + 1) w7):=Lib.hid (by
   refine ⟨⟨Dn,k6,d6,Di,e6,Do,o6,?_,hn7,sw6⟩,K2.out.trans hg6,BL7,fun j hj => ?_,?_,?_,?_⟩
   ·have e1 : ((k : Int) + 1) = ((k + 1 : Nat) : Int):=by omega
    have e2 : ((itT f s x t k).2.1 : Int) + ((zaq f s x (itT f s x t k).1).2.1 : Int) = ((itT f s x t (k + 1)).2.1 : Int):=by rw [← Int.natCast_add]; rfl
    have e3 : ((itT f s x t k).2.2.1 : Int) + ((zaq f s x (itT f s x t k).1).2.2.1 : Int) = ((itT f s x t (k + 1)).2.2.1 : Int):=by rw [← Int.natCast_add]; rfl
    have e4 : ((itT f s x t k).2.2.2 : Int) + ((zaq f s x (itT f s x t k).1).2.2.2 : Int) = ((itT f s x t (k + 1)).2.2.2 : Int):=by rw [← Int.natCast_add]; rfl
    rw [← e1,← e2,← e3,← e4]
    exact Hv
   ·by_cases hj2 : j + 1 = k
    ·exact HCT.out (by trivial) j hj2.symm
    exact HOL.out.on j (by omega)
   ·have e : (itT f s x t (k + 1)).2.1 = (itT f s x t k).2.1 + (zaq f s x (itT f s x t k).1).2.1:=rfl
    have:=Hf.out.1; have:=Hz.out.1; have:=K1.out
    omega
   ·have e : (itT f s x t (k + 1)).2.2.1 = (itT f s x t k).2.2.1 + (zaq f s x (itT f s x t k).1).2.2.1:=rfl
    have:=Hf.out.2.1; have:=Hz.out.2.1; have:=K1.out
    omega
   have e : (itT f s x t (k + 1)).2.2.2 = (itT f s x t k).2.2.2 + (zaq f s x (itT f s x t k).1).2.2.2:=rfl
   have:=Hf.out.2.2; have:=Hz.out.2.2; have:=K1.out
   omega)
  have Hy : Hid (rndW w7 p = k + 1):=Lib.hid (by
   unfold rndW
   rw [Hv.cell 0]
   show ((k : Int) + 1).toNat = k + 1
   omega)
  have HF7 : Hid ((!v) = false → ∃ j,k + 1 = j + 1 ∧ (itT f s x t (j + 1)).1 = (itT f s x t j).1):=Lib.hid fun hv => by
   have hv : v = true:=by simpa using hv
   have:=Hx.out
   rw [hv] at this
   exact ⟨k,rfl,(zdc.1 this).symm⟩
  have HT7 : Hid ((!v) = true → ∀ j,k + 1 = j + 1 → (itT f s x t (j + 1)).1 ≠ (itT f s x t j).1):=Lib.hid fun hv j hj e => by
   obtain rfl : k = j:=by omega
   have hv : v = false:=by simpa using hv
   have:=Hx.out
   rw [hnx] at e
   rw [hv,zdc.2 e.symm] at this
   cases this
  clear Hv hn7 BL7 b hnx hz6 hn6 zb6 Hh BL6 Hw hz5 zb BL5 x0 x1 x2 x3 hki
  go_wp2_with fail
  go_roundw
  case rel => exact ⟨k + 1,!v,rfl,by omega,HF7,HT7,K0⟩
  case measure => rw [Hy.out,HRW.out]; omega
 have Hb : Hid (EndK f s x t k):=Lib.hid ⟨by omega,by omega,HOL.out.on,.inl (by omega)⟩
 have hki : ¬ (k : Int) < 12:=by omega
 obtain ⟨c4,c5,c6,c1,c2,c3⟩:=hz.zoc4c5c6c1c2c3
 go_upto_region 12 with fail
 have H2:=ZN.below BL Hk
 have H4:=ZR.below BL Hj
 refine LexG.region_planU (KB3.ok p p p) [4,5] [0,1,2,3,4,5,6] (h:=?_)
 dsimp only [LexG.pick,LexG.nth]
 have bd : Below wr.heap.size wr wr.drew:=(Below.refl _ _).drew
 have H1:=hz.below bd hz.lt
 have H9:=hn.kp (Kp.below bd fun b hb _ => hb)
 have H2:=H2.below bd H2.lt
 have H4:=H4.below bd H4.lt
 have Hc:=Below.step BL bd
 obtain ⟨w9,e9⟩ : ∃ w',wr.drew = w':=⟨_,rfl⟩
 rw [e9] at H1 H9 H2 H4 Hc ⊢
 clear e9 bd hn hz
 have Hu:=fun s' : LexG.Wd (KB3 p p p) w9 => (show s'.w.cell? ⟨p,0,none⟩ = some (Value.int .i64 (k : Int)) from (zac s'.rel.1 0).trans (H1.cell 0))
 have Ht:=fun s' : LexG.Wd (KB3 p p p) w9 => (show s'.w.cell? ⟨p,1,none⟩ = some (Value.int .i64 ((itT f s x t k).2.1 : Int)) from (zac s'.rel.1 1).trans (H1.cell 1))
 have Hs:=fun s' : LexG.Wd (KB3 p p p) w9 => (show s'.w.cell? ⟨p,2,none⟩ = some (Value.int .i64 ((itT f s x t k).2.2.1 : Int)) from (zac s'.rel.1 2).trans (H1.cell 2))
 have Hr:=fun s' : LexG.Wd (KB3 p p p) w9 => (show s'.w.cell? ⟨p,3,none⟩ = some (Value.int .i64 ((itT f s x t k).2.2.2 : Int)) from (zac s'.rel.1 3).trans (H1.cell 3))
 have Hq:=fun s' : LexG.Wd (KB3 p p p) w9 => (show s'.w.cell? ⟨p,4,none⟩ = some (Value.slice Bn kk dn) from (zac s'.rel.1 4).trans (H1.cell 4))
 have Hp:=fun s' : LexG.Wd (KB3 p p p) w9 => (show s'.w.cell? ⟨p,5,none⟩ = some (Value.slice Bi ni di) from (zac s'.rel.1 5).trans (H1.cell 5))
 have Ho:=fun s' : LexG.Wd (KB3 p p p) w9 => (show s'.w.cell? ⟨p,6,none⟩ = some (Value.slice Bo no do') from (zac s'.rel.1 6).trans (H1.cell 6))
 refine LexG.lexU_plain 4 (by kernel_rfl) (by kernel_rfl) ?_
 dsimp only [List.take,List.drop]
 repeat go_big_quiet_step (fail)
 refine wpQuiet_nil ?_
 clear Hu Ht Hs Hr Hq Hp Ho
 obtain ⟨f0,f1,f2⟩:=H2.zof0f1f2
 obtain ⟨p0,p1,p2⟩:=H2.zo3
 refine LexG.lexU_call (h:=fun K hK => ?_)
 go_simp
 have kb : (((w9.setCell ⟨s1,0,none⟩ (.slice Bn kk dn)).setCell ⟨s1,1,none⟩ (.slice Bi ni di)).setCell ⟨s1,2,none⟩ (.slice Bo no do')).heap[p]? = w9.heap[p]?:=by
  rw [Below.heap_setCell _ _ _ _ Hd,Below.heap_setCell _ _ _ _ Hd,Below.heap_setCell _ _ _ _ Hd]
 refine hK _ _ ⟨kb,kb,kb⟩ ?_
 clear hK K kb f0 f1 f2 p0 p1 p2
 have Ha:=H2.p3' (.slice Bn kk dn) (.slice Bi ni di) (.slice Bo no do')
 have H5:=((H4.apart H0.symm 0 (.slice Bn kk dn)).apart H0.symm 1 (.slice Bi ni di)).apart H0.symm 2 (.slice Bo no do')
 have kq : ∀ (w : World) (q : Nat) (o : Nat) (v : Value),q < lo → Kp (fun b => b ≠ p ∧ lo ≤ b) w (w.setCell ⟨q,o,none⟩ v):=fun w q o v hq => ⟨by simp [World.setCell],fun b _ hb => Below.heap_setCell _ _ _ _ (by show b ≠ q; omega)⟩
 have H8:=((H9.kp (kq _ s1 0 (.slice Bn kk dn) He)).kp (kq _ s1 1 (.slice Bi ni di) He)).kp (kq _ s1 2 (.slice Bo no do') He)
 have B3:=(((BW.trans (Hc.mono BW.size)).setCell (p:=⟨s1,0,none⟩) H3 (.slice Bn kk dn)).setCell (p:=⟨s1,1,none⟩) H3 (.slice Bi ni di)).setCell (p:=⟨s1,2,none⟩) H3 (.slice Bo no do')
 obtain ⟨w10,e10⟩ : ∃ w',((w9.setCell ⟨s1,0,none⟩ (.slice Bn kk dn)).setCell ⟨s1,1,none⟩ (.slice Bi ni di)).setCell ⟨s1,2,none⟩ (.slice Bo no do') = w':=⟨_,rfl⟩
 rw [e10] at Ha H5 H8 B3 ⊢
 clear e10 H2 H4 H9 H1 Hc
 obtain ⟨g0,g1,g2,g3⟩:=H5.zof0f1f2f3
 obtain ⟨k0,k1,k2,k3⟩:=H5.zo4
 refine LexG.lexU_call (h:=fun K hK => ?_)
 go_simp
 have kb : ((((w10.setCell ⟨s2,0,none⟩ (.int .i64 (k : Int))).setCell ⟨s2,1,none⟩ (.int .i64 ((itT f s x t k).2.1 : Int))).setCell ⟨s2,2,none⟩ (.int .i64 ((itT f s x t k).2.2.1 : Int))).setCell ⟨s2,3,none⟩ (.int .i64 ((itT f s x t k).2.2.2 : Int))).heap[p]? = w10.heap[p]?:=by
  rw [Below.heap_setCell _ _ _ _ H6,Below.heap_setCell _ _ _ _ H6,Below.heap_setCell _ _ _ _ H6,Below.heap_setCell _ _ _ _ H6]
 refine hK _ _ ⟨kb,kb,kb⟩ ?_
 clear hK K kb g0 g1 g2 g3 k0 k1 k2 k3
 have Hm:=(((Ha.apart H0 0 (.int .i64 (k : Int))).apart H0 1 (.int .i64 ((itT f s x t k).2.1 : Int))).apart H0 2 (.int .i64 ((itT f s x t k).2.2.1 : Int))).apart H0 3 (.int .i64 ((itT f s x t k).2.2.2 : Int))
 have Hl:=H5.p4' (.int .i64 (k : Int)) (.int .i64 ((itT f s x t k).2.1 : Int)) (.int .i64 ((itT f s x t k).2.2.1 : Int)) (.int .i64 ((itT f s x t k).2.2.2 : Int))
 have Hi:=(((H8.kp (kq _ s2 0 (.int .i64 (k : Int)) H7)).kp (kq _ s2 1 (.int .i64 ((itT f s x t k).2.1 : Int)) H7)).kp (kq _ s2 2 (.int .i64 ((itT f s x t k).2.2.1 : Int)) H7)).kp (kq _ s2 3 (.int .i64 ((itT f s x t k).2.2.2 : Int)) H7)
 have B4:=B3.e4' Hg (.int .i64 (k : Int)) (.int .i64 ((itT f s x t k).2.1 : Int)) (.int .i64 ((itT f s x t k).2.2.1 : Int)) (.int .i64 ((itT f s x t k).2.2.2 : Int))
 obtain ⟨w11,e11⟩ : ∃ w',(((w10.setCell ⟨s2,0,none⟩ (.int .i64 (k : Int))).setCell ⟨s2,1,none⟩ (.int .i64 ((itT f s x t k).2.1 : Int))).setCell ⟨s2,2,none⟩ (.int .i64 ((itT f s x t k).2.2.1 : Int))).setCell ⟨s2,3,none⟩ (.int .i64 ((itT f s x t k).2.2.2 : Int)) = w':=⟨_,rfl⟩
 rw [e11] at Hm Hl Hi B4 ⊢
 clear e11 Ha H5 H8 B3 kq
 refine LexG.lexU_plain 1 (by kernel_rfl) (by kernel_rfl) ?_
 dsimp only [List.take,List.drop]
 repeat go_big_quiet_step (fail)
 refine wpQuiet_nil ?_
 refine LexG.lexU_nil ?_
 dsimp only [NoPanic]
 obtain ⟨p0,p1,p2⟩:=Hm.zo3
 obtain ⟨k0,k1,k2,k3⟩:=Hl.zo4
 go_wp2_with fail
 refine bodyPost_ret (v:=.tuple #[.agg #[.slice Bn kk dn,.slice Bi ni di,.slice Bo no do'],.agg #[.int .i64 (k : Int),.int .i64 ((itT f s x t k).2.1 : Int),.int .i64 ((itT f s x t k).2.2.1 : Int),.int .i64 ((itT f s x t k).2.2.2 : Int)],.int .i64 0]) (by simp [results,Try.results35,go_sem,p0,p1,p2,k0,k1,k2,k3]) rfl ⟨?_,B4⟩
 unfold OptX
 exact ⟨k,Bn,kk,dn,Bi,di,Bo,do',rfl,Hb.out,Hi.nt,swx,HOL.out.gd⟩
end Go.Proofs.Ytcehklnonhalhaa
