/-
  What the proofs of OptTells need: Yo Yq Yt.
-/
import Derived.Test.YtcehklnonhalhaaSTYl
import Derived.Test.YtcehklnonhalhaaSTGr
import Derived.Deep.RegionHeld3
set_option linter.unusedVariables false
namespace Go.Proofs.Ytcehklnonhalhaa
open Go.RowKit
set_option maxRecDepth 4000
def chB (S : List Int) (M N : List Nd) (q : Nat) : Bool:=(S.getD q 0 != (q : Int)) || ((M.getD q nd0).k != (N.getD q nd0).k)
def chN (S : List Int) (M N : List Nd) : Nat → Nat
 | 0 => 0
 | j + 1 => chN S M N j + if chB S M N j = true then 1 else 0
theorem chN_le (S : List Int) (M N : List Nd) : ∀ j,chN S M N j ≤ j
 | 0 => Nat.le_refl _
 | j + 1 => by
  have:=chN_le S M N j
  unfold chN
  split <;> omega
set_option maxHeartbeats 4000000 in
theorem changed_as {w : World} {base p : Nat} {vn vs : Value} {M : List Nd} {S : List Int} (h : Fd w base p vn vs M S) {An : Option Addr} {cn : Nat} {N : List Nd} (hN : Ns w An M.length N) (hn : M.length ≤ 100000) : Calls Try.prog 41 #[.pointer (some ⟨p,0,none⟩),.slice An M.length cn] w fun e w' => e = .returned (.int .i64 (chN S M N M.length : Nat)) ∧ Below w.heap.size w w':=by
 obtain ⟨A,cc,rfl,s1,k1,n1⟩:=zbj h.rn
 obtain ⟨A',c',rfl,s2,k2,n2⟩:=za4 h.rs
 have z0 : Bx w p [.slice A M.length cc,.slice A' M.length c']:=⟨h.ow.lt,fun i u hu => (h.ow.cell i).trans hu⟩
 have c0:=z0.t0
 clear h s1 s2 k1 k2
 go_enter Try.func41,Try.ntmps41
 go_wp2_with fail
 clear c0
 go_loopw [5,13] (fun t i wr => ∃ j : Nat,j ≤ M.length ∧ i = .int .i64 j ∧ t = .int .i64 (chN S M N j : Nat) ∧ Below w.heap.size w wr) (fun t i _ => M.length - (intOf i).toNat)
 case atStart => exact ⟨0,Nat.zero_le _,rfl,rfl,Below.refl _ _⟩
 obtain ⟨j,hj,rfl,rfl,BW⟩:=hrel
 by_cases hlt : j < M.length
 ·have hjn : (j : Int) < (M.length : Int):=by omega
  have hj0 : (0 : Int) ≤ (j : Int):=by omega
  obtain ⟨b0,off,x1,x2,x3,x4,eA,HX,hA⟩:=(n1.on BW).nat hlt
  obtain ⟨b1,off1,eB,iB⟩:=(n2.on BW).iat hlt
  obtain ⟨b2,off2,y1,y2,y3,y4,eC,HY,hC⟩:=(hN.on BW).nat hlt
  subst eA eB eC
  obtain ⟨sv,hsv⟩ : ∃ sv,S.getD j 0 = sv:=⟨_,rfl⟩
  rw [hsv] at iB
  have HB : Hid (chB S M N j = ((sv != (j : Int)) || (x1 != y1))):=Lib.hid (by
   unfold chB
   rw [hsv,List.getD_eq_getElem?_getD,HX.out,List.getD_eq_getElem?_getD,HY.out]
   rfl)
  clear hsv HX HY
  have a0:=hA.c1; have a1:=hA.c2; have a2:=hA.c3; have a3:=hA.c4
  have z1:=z0.on BW
  go_upto_region 5 with fail
  clear a0 a1 a2 a3
  obtain ⟨w3,e3⟩ : ∃ w3,wr.alloc (.cells #[.int .i64 x1,.int .i64 x2,.int .i64 x3,.int .i64 x4] 43) = w3:=⟨_,rfl⟩
  have z3 : Bx w3 wr.heap.size [.int .i64 x1,.int .i64 x2,.int .i64 x3,.int .i64 x4]:=e3 ▸ Bx.made_k wr rfl #[.int .i64 x1,.int .i64 x2,.int .i64 x3,.int .i64 x4] 43
  have b : Below wr.heap.size wr w3:=e3 ▸ zaa _ _
  replace z1:=z1.on b
  replace iB:=iB.on b
  replace hC:=hC.on b
  replace BW:=Below.step BW b
  obtain ⟨s3,hs3⟩ : ∃ s3,wr.heap.size = s3:=⟨_,rfl⟩
  rw [e3]
  rw [hs3] at z3 ⊢
  clear e3 b hs3
  have hch:=chN_le S M N j
  have H0 : ∀ v,((sv != (j : Int)) || (x1 != y1)) = v → chN S M N (j + 1) = chN S M N j + if v = true then 1 else 0:=fun v hv => by
   rw [← hv,← HB.out]
   rfl
  by_cases hs : (sv != (j : Int)) = true
  ·have HF : Hid (chN S M N (j + 1) = chN S M N j + 1):=Lib.hid (by rw [H0 true (by rw [hs]; rfl)]; rfl)
   clear H0 HB
   refine LexG.region_plan LexG.below_ok 0 [0,1,2,3,4,5,6,7,8,9,10,11,12,13,14,15,16,17,18] (h:=?_)
   dsimp only [LexG.pick,LexG.nth]
   have bd : Below w3.heap.size w3 w3.drew:=(Below.refl _ _).drew
   replace z1:=z1.on bd
   replace z3:=z3.on bd
   replace iB:=iB.on bd
   replace hC:=hC.on bd
   replace BW:=Below.step BW bd
   obtain ⟨w4,e4⟩ : ∃ w',w3.drew = w':=⟨_,rfl⟩
   rw [e4] at z1 z3 iB hC BW ⊢
   clear e4 bd
   have H4:=fun s : LexG.Wd (fun w w' => Below w.heap.size w w') w4 => (z1.on s.rel).t1
   have H3:=fun s : LexG.Wd (fun w w' => Below w.heap.size w w') w4 => (iB.on s.rel).2
   have H2:=fun s : LexG.Wd (fun w w' => Below w.heap.size w w') w4 => (z3.on s.rel).t0
   have H1:=fun s : LexG.Wd (fun w w' => Below w.heap.size w w') w4 => (hC.on s.rel).c1
   refine LexG.lex_plain 19 (by kernel_rfl) ?_
   dsimp only [List.take,List.drop]
   repeat go_big_quiet_step (fail)
   refine wpQuiet_nil ?_
   clear H4 H3 H2 H1
   refine LexG.lex_nil ?_
   dsimp only [NoPanic]
   have hw : IntKind.i64.wrap ((chN S M N j : Nat) + 1 : Int) = ((chN S M N j + 1 : Nat) : Int):=by
    rw [IntKind.wrap_i64]; omega
   go_wp2_with fail
   go_roundw
   case rel => exact ⟨j + 1,by omega,by go_num,by first | exact congrArg _ (by rw [HF.out]; omega) | (rw [HF.out]; go_num),BW⟩
   case measure => simp [intOf]; omega
  have hs : (sv != (j : Int)) = false:=by simpa using hs
  by_cases hk : (x1 != y1) = true
  ·have HF : Hid (chN S M N (j + 1) = chN S M N j + 1):=Lib.hid (by rw [H0 true (by rw [hs,hk]; rfl)]; rfl)
   clear H0 HB
   refine LexG.region_plan LexG.below_ok 0 [0,1,2,3,4,5,6,7,8,9,10,11,12,13,14,15,16,17,18] (h:=?_)
   dsimp only [LexG.pick,LexG.nth]
   have bd : Below w3.heap.size w3 w3.drew:=(Below.refl _ _).drew
   replace z1:=z1.on bd
   replace z3:=z3.on bd
   replace iB:=iB.on bd
   replace hC:=hC.on bd
   replace BW:=Below.step BW bd
   obtain ⟨w4,e4⟩ : ∃ w',w3.drew = w':=⟨_,rfl⟩
   rw [e4] at z1 z3 iB hC BW ⊢
   clear e4 bd
   have H4:=fun s : LexG.Wd (fun w w' => Below w.heap.size w w') w4 => (z1.on s.rel).t1
   have H3:=fun s : LexG.Wd (fun w w' => Below w.heap.size w w') w4 => (iB.on s.rel).2
   have H2:=fun s : LexG.Wd (fun w w' => Below w.heap.size w w') w4 => (z3.on s.rel).t0
   have H1:=fun s : LexG.Wd (fun w w' => Below w.heap.size w w') w4 => (hC.on s.rel).c1
   refine LexG.lex_plain 19 (by kernel_rfl) ?_
   dsimp only [List.take,List.drop]
   repeat go_big_quiet_step (fail)
   refine wpQuiet_nil ?_
   clear H4 H3 H2 H1
   refine LexG.lex_nil ?_
   dsimp only [NoPanic]
   have hw : IntKind.i64.wrap ((chN S M N j : Nat) + 1 : Int) = ((chN S M N j + 1 : Nat) : Int):=by
    rw [IntKind.wrap_i64]; omega
   go_wp2_with fail
   go_roundw
   case rel => exact ⟨j + 1,by omega,by go_num,by first | exact congrArg _ (by rw [HF.out]; omega) | (rw [HF.out]; go_num),BW⟩
   case measure => simp [intOf]; omega
  have hk : (x1 != y1) = false:=by simpa using hk
  have HF : Hid (chN S M N (j + 1) = chN S M N j):=Lib.hid (by rw [H0 false (by rw [hs,hk]; rfl)]; rfl)
  clear H0 HB
  refine LexG.region_plan LexG.below_ok 0 [0,1,2,3,4,5,6,7,8,9,10,11,12,13,14,15,16,17,18] (h:=?_)
  dsimp only [LexG.pick,LexG.nth]
  have bd : Below w3.heap.size w3 w3.drew:=(Below.refl _ _).drew
  replace z1:=z1.on bd
  replace z3:=z3.on bd
  replace iB:=iB.on bd
  replace hC:=hC.on bd
  replace BW:=Below.step BW bd
  obtain ⟨w4,e4⟩ : ∃ w',w3.drew = w':=⟨_,rfl⟩
  rw [e4] at z1 z3 iB hC BW ⊢
  clear e4 bd
  have H4:=fun s : LexG.Wd (fun w w' => Below w.heap.size w w') w4 => (z1.on s.rel).t1
  have H3:=fun s : LexG.Wd (fun w w' => Below w.heap.size w w') w4 => (iB.on s.rel).2
  have H2:=fun s : LexG.Wd (fun w w' => Below w.heap.size w w') w4 => (z3.on s.rel).t0
  have H1:=fun s : LexG.Wd (fun w w' => Below w.heap.size w w') w4 => (hC.on s.rel).c1
  refine LexG.lex_plain 19 (by kernel_rfl) ?_
  dsimp only [List.take,List.drop]
  repeat go_big_quiet_step (fail)
  refine wpQuiet_nil ?_
  clear H4 H3 H2 H1
  refine LexG.lex_nil ?_
  dsimp only [NoPanic]
  go_wp2_with fail
  go_roundw
  case rel => exact ⟨j + 1,by omega,by go_num,by rw [HF.out],BW⟩
  case measure => simp [intOf]; omega
 obtain rfl : j = M.length:=by omega
 have hjn : ¬ (M.length : Int) < (M.length : Int):=by omega
 go_wp2_with fail
 go_ret
 exact ⟨rfl,BW⟩
set_option maxRecDepth 4000
def GD (w : World) (base j : Nat) (R : List Rp) (L : List Pt) : Prop:=∀ (k : Nat) (r : Rp) (p : Pt),k < j → R[k]? = some r → L[k]? = some p → w.ownsRow base 3 1 (.slice r.A r.m r.c) r.m (p.bits.flatMap inC) ∧ ∀ (k' : Nat) (r' : Rp),k < k' → k' < j → R[k']? = some r' → ∀ b,(Value.slice r.A r.m r.c).ownBlock = some b → (Value.slice r'.A r'.m r'.c).ownBlock ≠ some b
theorem GD.on {w w' : World} {base j : Nat} {R : List Rp} {L : List Pt} (h : GD w base j R L) (hb : Below w.heap.size w w') : GD w' base j R L:=fun k r p hk hr hp => by
 obtain ⟨h1,h2⟩:=h k r p hk hr hp
 exact ⟨zam h1 hb,h2⟩
theorem GD.step {w : World} {base j g B4 m c4 : Nat} {R : List Rp} {L : List Pt} {A4 : Option Addr} {p : Pt} (h : GD w base j R L) (hg : ∃ cur,w.heap[g]? = some (.cells cur 41 (0,0)) ∧ base ≤ g) (hp : L[j]? = some p) (hn : w.ownsRow base 3 1 (.slice A4 m c4) m (p.bits.flatMap inC)) (hold : ∀ (k : Nat) (r : Rp) (p : Pt),k < j → R[k]? = some r → L[k]? = some p → ∀ b,(Value.slice r.A r.m r.c).ownBlock = some b → b < B4) (hnew : ∀ b,(Value.slice A4 m c4).ownBlock = some b → B4 ≤ b) (u : Value) (nm : ByteArray) : GD (w.setCell ⟨g,j * 2 + 1,none⟩ u) base (j + 1) (R.set j ⟨nm,A4,m,c4⟩) L:=by
 obtain ⟨cur,hg,_⟩:=hg
 have H0 : ∀ {v : Value} {n : Nat} {xs : List Value},w.ownsRow base 3 1 v n xs → (w.setCell ⟨g,j * 2 + 1,none⟩ u).ownsRow base 3 1 v n xs:=fun {v n xs} hr => by
  refine hr.kept (zai _ _ _) ?_
  rcases hr.2 with ⟨e,_⟩ | ⟨g',cap,cur',e,_,hg',_⟩
  ·left; rw [e]; rfl
  right
  rw [e]
  intro k
  unfold Value.ownBlock at k
  injection k with k
  exact zaK hg' hg (by decide) k
 intro k r' p' hk hr' hp'
 rw [List.getElem?_set] at hr'
 by_cases e : j = k
 ·subst e
  rw [if_pos rfl] at hr'
  split at hr'
  ·injection hr' with hr'
   subst hr'
   rw [hp] at hp'
   injection hp' with hp'
   subst hp'
   exact ⟨H0 hn,fun k' r'' h1 h2 => absurd h1 (by omega)⟩
  cases hr'
 rw [if_neg e] at hr'
 obtain ⟨h1,h2⟩:=h k r' p' (by omega) hr' hp'
 refine ⟨H0 h1,fun k' r'' h3 h4 hr'' b hb => ?_⟩
 rw [List.getElem?_set] at hr''
 by_cases e' : j = k'
 ·rw [if_pos e'] at hr''
  split at hr''
  ·injection hr'' with hr''
   subst hr''
   intro hb'
   have h5:=hold k r' p' (by omega) hr' hp' b hb
   have h6:=hnew b hb'
   omega
  cases hr''
 rw [if_neg e'] at hr''
 exact h2 k' r'' h3 (by omega) hr'' b hb
set_option maxHeartbeats 2000000 in
theorem zb2 {A : Option Addr} {n c : Nat} {L : List Pt} {w : World} (h : Ps w A n L) (sw : Sw A n c) (hn : n ≤ 1000) (hb : ∀ p ∈ L,p.bits.length ≤ 100000) :
  Calls Try.prog 68 #[.slice A n c] w fun en w' => ∃ A' c' R,en = .returned (.slice A' n c') ∧ w'.ownsRow w.heap.size 41 2 (.slice A' n c') n (R.flatMap ptC) ∧ R.length = n ∧ (∀ (k : Nat) (r : Rp) (p : Pt),R[k]? = some r → L[k]? = some p → r.name = p.name) ∧ GD w' w.heap.size n R L ∧ Below w.heap.size w w':=by
 have HB:=Lib.hid hb
 have H3:=Lib.hid h.1
 clear hb
 obtain ⟨R,hR,hF⟩:=h.raw
 go_enter Try.func68,Try.ntmps68
 go_wp2_with fail
 refine (cloneP_as hR sw (by omega)).mono ?_
 rintro e w1 ⟨v,rfl,hrow,b1⟩
 obtain ⟨A',c',rfl,sw',hlow,_⟩:=zaP hrow
 have HF : FitX w1 A' w.heap.size 0 R L:=⟨hF.1,fun k r p hr hp => by
  obtain ⟨h1,h2,h3,h4⟩:=hF.2 k r p hr hp
  refine ⟨h1,h2,h3,IsB.on (h4.isB fun b off e hb => ⟨fun q => ?_,fun hk => absurd hk (by omega)⟩) b1⟩
  have:=(hlow b 0 q).1
  omega⟩
 have HLOW:=Lib.hid hlow
 clear hF hR h hlow
 go_wp2_with fail
 go_loopw [9] (fun i wr => ∃ j : Nat,j ≤ n ∧ i = .int .i64 j ∧ ∃ R' : List Rp,wr.ownsRow w.heap.size 41 2 (.slice A' n c') n (R'.flatMap ptC) ∧ FitX wr A' w.heap.size j R' L ∧ GD wr w.heap.size j R' L ∧ Below w.heap.size w wr) (fun i _ => n - (intOf i).toNat)
 case atStart => exact ⟨0,Nat.zero_le _,rfl,R,hrow,HF,fun k r p hk => absurd hk (by omega),b1⟩
 clear hrow HF b1
 obtain ⟨j,hj,rfl,R',hrow,hf,hgd,BW⟩:=hrel
 have HGD:=Lib.hid hgd
 clear hgd
 by_cases hlt : j < n
 ·obtain ⟨p,hp⟩:=zat H3.out hlt
  obtain ⟨r,hr⟩:=zat (hf.1.trans H3.out) hlt
  have HX:=Lib.hid hp
  have HY:=Lib.hid hr
  obtain ⟨h1,h2,h3,h4⟩:=hf.2 j r p hr hp
  clear h1
  have hbl : r.m ≤ 100000:=by rw [← h4.1]; exact HB.out p (List.mem_of_getElem? hp)
  obtain ⟨A0,c0,q0,_,hl0,hc0⟩:=zaP hrow
  injection q0 with qa qb qc
  subst qa qc
  obtain ⟨g,eA,hg,k1⟩:=hc0 (j * 2 + 0) (.string r.name) (by rw [zap ptC 2 zaL R' j 0 (by omega),hr]; rfl)
  obtain ⟨g',eA',_,k2⟩:=hc0 (j * 2 + 1) (.slice r.A r.m r.c) (by rw [zap ptC 2 zaL R' j 1 (by omega),hr]; rfl)
  subst eA
  injection eA' with eA'
  injection eA' with eA'
  subst eA'
  rw [Nat.add_zero] at k1
  have hwg : w.heap.size ≤ g:=(hl0 g 0 rfl).1
  have f0:=hrow.frozenAt (j * 2 + 1)
  clear hp hr hc0 hl0
  go_upto_region 5 with fail
  obtain ⟨w2,e_w2,z0,b2⟩:=zmB wr [.string r.name,.slice r.A r.m r.c] 41
  rw [e_w2]
  clear e_w2
  have z0c1:=z0.2 1 _ rfl
  have BW2:=Below.step BW b2
  have H1:=zam hrow b2
  have hf2:=hf.on b2
  have H2:=Lib.hid (HGD.out.on b2)
  have hi2:=h4.is.on b2
  have hg2 : g < w2.heap.size:=Nat.lt_of_lt_of_le hg b2.size
  have hw2 : w.heap.size ≤ w2.heap.size:=BW2.size
  clear k1 k2 f0 hrow hf b2
  go_wp2_with (go_at_call 95; refine (cloneI_as hi2 ⟨h2.1,h3,h2.2⟩ hbl).mono ?_; rintro e w4 ⟨v4,rfl,hrow4,b4⟩; obtain ⟨A4,c4,rfl,sw4,hl4,hi4⟩:=za4 hrow4; have H0:=zam H1 b4; have f5:=H0.frozenAt (j * 2 + 1); have k5:=(H0.cellAt (j * 2 + 1) (by omega)).trans (show (R'.flatMap ptC)[j * 2 + 1]? = some (.slice r.A r.m r.c) by rw [zap ptC 2 zaL R' j 1 (by omega),HY.out]; rfl))
  have BW4:=Below.step BW2 b4
  have hS:=H0.stored (j * 2 + 1) (.slice A4 r.m c4)
  rw [flat_set R' j A4 r.m c4 r HY.out] at hS
  have hf4:=(hf2.on b4).step HY.out HX.out sw4 hi4 (fun b off e => ⟨Nat.le_trans hw2 (hl4 b off e).1,by have:=(hl4 b off e).1; omega⟩) (.slice A4 r.m c4)
  have HG5:=Lib.hid ((H2.out.on b4).step (B4:=w2.heap.size) (zaJ H0) HX.out (zbY hrow4 hw2) (fun k r p hk hr hp b e => (((H2.out k r p hk hr hp).1.lt b e).2)) (fun b e => (hrow4.lt b e).1) (.slice A4 r.m c4) r.name)
  have BW5:=BW4.setCell (p:=⟨g,j * 2 + 1,none⟩) hwg (.slice A4 r.m c4)
  go_roundw
  case rel => exact ⟨j + 1,by omega,by go_num,_,hS.1,hf4,HG5.out,BW5⟩
  case measure => simp [intOf]; omega
 obtain rfl : j = n:=by omega
 go_wp2_with fail
 go_ret
 exact ⟨A',c',R',rfl,hrow,hf.1.trans H3.out,fun k r p hr hp => (hf.2 k r p hr hp).1,HGD.out,BW⟩
set_option maxRecDepth 4000
theorem zak {w : World} {base s1 size n : Nat} {t : TypeId} {v : Value} {xs : List Value} (h : w.ownsRow base t size v n xs) (hs : s1 < base) (o : Nat) (u : Value) : (w.setCell ⟨s1,o,none⟩ u).ownsRow base t size v n xs:=by
 refine h.kept (zai _ _ _) (.inr fun e => ?_)
 have e' : v.ownBlock = some s1:=e
 have:=(h.lt _ e').1
 omega
theorem GD.keepS {w : World} {base s1 j : Nat} {R : List Rp} {L : List Pt} (h : GD w base j R L) (hs : s1 < base) (o : Nat) (u : Value) : GD (w.setCell ⟨s1,o,none⟩ u) base j R L:=fun k r p hk hr hp => ⟨zak (h k r p hk hr hp).1 hs o u,(h k r p hk hr hp).2⟩
theorem PsH.cong {s n : Nat} {w w2 : World} {A : Option Addr} {L : List Pt} (h : PsH s w A n L) (hh : ∀ b,s ≤ b → b < w.heap.size → w2.heap[b]? = w.heap[b]?) (hs : w.heap.size ≤ w2.heap.size) : PsH s w2 A n L:=⟨h.1,fun k p hp => by
 obtain ⟨b,off,A',m,c,h1,h0,h2,h3,h4,h5,h6,h7⟩:=h.2 k p hp
 refine ⟨b,off,A',m,c,h1,h0,Nat.lt_of_lt_of_le h2 hs,?_,?_,h5,h6,h7.1,fun k' x hx => ?_⟩
 ·exact (zac (hh b h0 h2) _).trans h3
 ·exact (zac (hh b h0 h2) _).trans h4
 obtain ⟨b',off',e1,e2,e3,e4⟩:=h7.2 k' x hx
 exact ⟨b',off',e1,e2,Nat.lt_of_lt_of_le e3 hs,(zac (hh b' e2 e3) _).trans e4⟩⟩
def ClD (w : World) (nn ni no : Nat) (N : List Nd) (I O : List Pt) (en : Ending) (w' : World) : Prop:=∃ (Bn : Option Addr) (dn : Nat) (Bi : Option Addr) (di : Nat) (Bo : Option Addr) (do' : Nat) (s s2 : Nat) (Ro : List Rp),en = .returned (.agg #[.slice Bn nn dn,.slice Bi ni di,.slice Bo no do']) ∧ w'.ownsRow w.heap.size 43 4 (.slice Bn nn dn) nn (N.flatMap ndC) ∧ (∀ g,(Value.slice Bn nn dn).ownBlock = some g → g < s) ∧ Sw Bn nn dn ∧ Sw Bi ni di ∧ Sw Bo no do' ∧ s ≤ s2 ∧ w.heap.size ≤ s ∧ s2 ≤ w'.heap.size ∧ (∀ w2,(∀ b,s ≤ b → b < s2 → w2.heap[b]? = w'.heap[b]?) → s2 ≤ w2.heap.size → PsH s w2 Bi ni I) ∧ w'.ownsRow s2 41 2 (.slice Bo no do') no (Ro.flatMap ptC) ∧ Ro.length = no ∧ (∀ (k : Nat) (r : Rp) (p : Pt),Ro[k]? = some r → O[k]? = some p → r.name = p.name) ∧ GD w' s2 no Ro O ∧ Below w.heap.size w w'
set_option maxHeartbeats 4000000 in
theorem zew {An Ai Ao : Option Addr} {nn cn ni ci no co : Nat} {N : List Nd} {I O : List Pt} {w : World} (h : Nt w An nn cn Ai ni ci Ao no co N I O) (sn : Sw An nn cn) (hb : ∀ p ∈ I ++ O,p.bits.length ≤ 100000) :
    Calls Try.prog 40 #[.agg #[.slice An nn cn,.slice Ai ni ci,.slice Ao no co]] w (ClD w nn ni no N I O):=by
  have hb1 : Hid (∀ p ∈ I,p.bits.length ≤ 100000):=Lib.hid fun p hp => hb p (List.mem_append_left _ hp)
  have H9 : Hid (∀ p ∈ O,p.bits.length ≤ 100000):=Lib.hid fun p hp => hb p (List.mem_append_right _ hp)
  clear hb
  have hn1 : nn ≤ 100000:=by have:=h.hn; omega
  have hn2 : ni ≤ 1000:=by have:=h.hs; omega
  have hn3 : no ≤ 1000:=by have:=h.hs; omega
  go_enter Try.func40,Try.ntmps40
  go_upto_region 1 with fail
  obtain ⟨w1,e_w1,z0,b1⟩:=zmB w [.slice An nn cn,.slice Ai ni ci,.slice Ao no co] 25
  have H4 : w1.heap.size = w.heap.size + 1:=e_w1 ▸ zal w _ rfl
  rw [e_w1]
  clear e_w1
  obtain ⟨s1,hs0⟩ : ∃ s1,w.heap.size + 1 = s1:=⟨_,rfl⟩
  rw [hs0] at H4 ⊢
  obtain ⟨w2,e_w2⟩ : ∃ w',w1.alloc (.cells #[.slice none 0 0,.slice none 0 0,.slice none 0 0] 25) = w':=⟨_,rfl⟩
  have z1 : Bx w2 s1 [.slice none 0 0,.slice none 0 0,.slice none 0 0]:=e_w2 ▸ Bx.made_k w1 H4 #[.slice none 0 0,.slice none 0 0,.slice none 0 0] 25
  have ZR : Own w2 s1 25 [.slice none 0 0,.slice none 0 0,.slice none 0 0]:=by rw [← H4]; exact e_w2 ▸ Own.made w1 25 [.slice none 0 0,.slice none 0 0,.slice none 0 0]
  have b2 : Below w1.heap.size w1 w2:=e_w2 ▸ zaa _ _
  rw [e_w2]
  clear e_w2 H4
  replace z0:=z0.on b2
  have BW:=Below.step b1 b2
  replace h:=h.on BW
  clear b1 b2
  have b : Below w2.heap.size w2 w2.drew:=(Below.refl _ _).drew
  replace h:=h.on b
  replace z0:=z0.on b
  replace z1:=z1.on b
  replace ZR:=ZR.below b ZR.lt
  have BB:=Below.step BW b
  clear BW
  have BW:=Lib.hid BB
  clear b BB
  have H1 : w.heap.size ≠ s1:=by omega
  have hs2:=ZR.lt
  go_region_held3 (fun w' => w'.cell? ⟨w.heap.size,0,none⟩ = some (.slice An nn cn) ∧ w'.cell? ⟨w.heap.size,1,none⟩ = some (.slice Ai ni ci) ∧ w'.cell? ⟨w.heap.size,2,none⟩ = some (.slice Ao no co) ∧ w'.cell? ⟨s1,0,none⟩ = some (zc8 w' s1 0) ∧ w'.cell? ⟨s1,1,none⟩ = some (zc8 w' s1 1) ∧ w'.cell? ⟨s1,2,none⟩ = some (zc8 w' s1 2) ∧ w'.frozen? ⟨s1,0,none⟩ = false ∧ w'.frozen? ⟨s1,1,none⟩ = false ∧ w'.frozen? ⟨s1,2,none⟩ = false)
    ((first | with_reducible exact stS z0 ZR | exact stS (((z0.apart H1 0 _).apart H1 1 _).apart H1 2 _) (ZR.p3' _ _ _)))
    (first
    | (go_at_call 67
       (with_reducible refine (zev h.n sn hn1).mono ?_)
       rintro en w3 ⟨vN,rfl,hrow,b⟩
       replace h:=h.on b
       replace z0:=z0.on b
       replace z1:=z1.on b
       replace ZR:=ZR.below b ZR.lt
       replace BW:=Lib.hid (Below.step BW.out b)
       have hlN:=Lib.hid hrow.lt
       have hs3:=ZR.lt
       obtain ⟨Bn,dn,rfl,swn,hln,_⟩:=zaP hrow
       clear b)
    | (go_at_call 68
       (with_reducible refine (zcs h.i h.si hn2 hb1.out).mono ?_)
       rintro en w4 ⟨Bi,di,rfl,hpi,swi,b⟩
       replace h:=h.on b
       replace z0:=z0.on b
       replace z1:=z1.on b
       replace ZR:=ZR.below b ZR.lt
       replace BW:=Lib.hid (Below.step BW.out b)
       replace hrow:=zam hrow b
       have H6:=b.size
       clear b)
    | (go_at_call 68
       (with_reducible refine (zb2 h.o h.so hn3 H9.out).mono ?_)
       rintro en w5 ⟨Bo,do',Ro,rfl,hrowO,hRl,hRn,hGD,b⟩
       replace h:=h.on b
       replace z0:=z0.on b
       replace z1:=z1.on b
       replace ZR:=ZR.below b ZR.lt
       replace BW:=Lib.hid (Below.step BW.out b)
       replace hrow:=zam hrow b
       have hb5:=b
       have H5:=b.size
       clear b))
  all_goals replace BW:=BW.out
  have H7 : w.heap.size ≤ w2.drew.heap.size:=Nat.le_trans (by omega) (Nat.le_of_lt hs2)
  have VR:=ZR.p3' (.slice Bn nn dn) (.slice Bi ni di) (.slice Bo no do')
  obtain ⟨p0,p1,p2⟩:=VR.zo3
  have H3 : (((w5.setCell ⟨s1,0,none⟩ (.slice Bn nn dn)).setCell ⟨s1,1,none⟩ (.slice Bi ni di)).setCell ⟨s1,2,none⟩ (.slice Bo no do')).ownsRow w.heap.size 43 4 (.slice Bn nn dn) nn (N.flatMap ndC):=by
    have hk : (Value.slice Bn nn dn).ownBlock = none ∨ (Value.slice Bn nn dn).ownBlock ≠ some s1:=by
      right
      intro e
      have:=(hlN.out _ e).1
      omega
    exact zbY (((hrow.kept (zai _ _ _) hk).kept (zai _ _ _) hk).kept (zai _ _ _) hk) H7
  have H2 : s1 < w4.heap.size:=by omega
  have H0:=zak (zak (zak hrowO H2 0 (.slice Bn nn dn)) H2 1 (.slice Bi ni di)) H2 2 (.slice Bo no do')
  have Ha:=((hGD.keepS H2 0 (.slice Bn nn dn)).keepS H2 1 (.slice Bi ni di)).keepS H2 2 (.slice Bo no do')
  have H8 : ∀ w2,(∀ b,w3.heap.size ≤ b → b < w4.heap.size → w2.heap[b]? = (((w5.setCell ⟨s1,0,none⟩ (.slice Bn nn dn)).setCell ⟨s1,1,none⟩ (.slice Bi ni di)).setCell ⟨s1,2,none⟩ (.slice Bo no do')).heap[b]?) → w4.heap.size ≤ w2.heap.size → PsH w3.heap.size w2 Bi ni I:=fun w2 H9 hsz2 => hpi.cong (fun b hb hb4 => by
    have H1 : b ≠ s1:=by omega
    rw [H9 b hb hb4,Below.heap_setCell _ _ _ b H1,Below.heap_setCell _ _ _ b H1,Below.heap_setCell _ _ _ b H1]
    exact hb5.block b hb4) hsz2
  have hsz : w4.heap.size ≤ (((w5.setCell ⟨s1,0,none⟩ (.slice Bn nn dn)).setCell ⟨s1,1,none⟩ (.slice Bi ni di)).setCell ⟨s1,2,none⟩ (.slice Bo no do')).heap.size:=by simpa using H5
  obtain ⟨Bo',do2,eBo,swo,_⟩:=zaP hrowO
  injection eBo with eBo _ eBo2
  subst eBo eBo2
  have hws : w.heap.size ≤ s1:=by omega
  have BW6:=BW.e3' hws (.slice Bn nn dn) (.slice Bi ni di) (.slice Bo no do')
  clear hrow hpi hrowO hGD BW hb5
  go_wp2_with fail
  refine bodyPost_ret (v:=.agg #[.slice Bn nn dn,.slice Bi ni di,.slice Bo no do']) (by simp [results,Try.results40,go_sem,p0,p1,p2]) rfl ?_
  exact ⟨Bn,dn,Bi,di,Bo,do',w3.heap.size,w4.heap.size,Ro,rfl,H3,fun g e => (hlN.out g e).2,swn,swi,swo,H6,by omega,hsz,H8,H0,hRl,hRn,Ha,BW6⟩
end Go.Proofs.Ytcehklnonhalhaa
