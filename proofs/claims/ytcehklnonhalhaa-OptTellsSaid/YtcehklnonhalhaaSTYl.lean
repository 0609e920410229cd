/-
  What the proofs of OptTells need: Yl Ym Yn.
-/
import Derived.Test.YtcehklnonhalhaaSTYj
import Derived.Laws.StructEq
import Derived.Test.YtcehklnonhalhaaSTHR
set_option linter.unusedVariables false
namespace Go.Proofs.Ytcehklnonhalhaa
open Go.RowKit
set_option maxRecDepth 4000
def KB3 (a b c : Nat) (w w' : World) : Prop:=w'.heap[a]? = w.heap[a]? ∧ w'.heap[b]? = w.heap[b]? ∧ w'.heap[c]? = w.heap[c]?
theorem KB3.ok (a b c : Nat) : LexG.RelOk (KB3 a b c):=⟨fun _ => ⟨rfl,rfl,rfl⟩,fun _ _ _ h k => ⟨k.1.trans h.1,k.2.1.trans h.2.1,k.2.2.trans h.2.2⟩⟩
instance (a b c : Nat) (w : World) : Nonempty (LexG.Wd (KB3 a b c) w):=⟨⟨w,rfl,rfl,rfl⟩⟩
theorem KB3.set {a b c : Nat} (w : World) {g : Nat} (ha : a ≠ g) (hb : b ≠ g) (hc : c ≠ g) (o : Nat) (v : Value) : KB3 a b c w (w.setCell ⟨g,o,none⟩ v):=⟨Below.heap_setCell w ⟨g,o,none⟩ v a ha,Below.heap_setCell w ⟨g,o,none⟩ v b hb,Below.heap_setCell w ⟨g,o,none⟩ v c hc⟩
theorem zac {w w' : World} {g : Nat} (h : w'.heap[g]? = w.heap[g]?) (o : Nat) : w'.cell? ⟨g,o,none⟩ = w.cell? ⟨g,o,none⟩:=by
 unfold World.cell?
 simp only [h]
def mjS (S : List Int) (M : List Nd) (j : Nat) : List Nd:=(M.take j).map (dffS S) ++ M.drop j
theorem zcy (S : List Int) (M : List Nd) (j : Nat) : (mjS S M j).length = M.length:=by unfold mjS; simp; omega
theorem mj_at (S : List Int) (M : List Nd) {j : Nat} (h : j < M.length) : (mjS S M j)[j]? = M[j]?:=by
 unfold mjS
 rw [List.getElem?_append_right (by simp; omega)]
 simp
 congr 1
 omega
theorem ze8 (S : List Int) (M : List Nd) {j : Nat} {x : Nd} (h : M[j]? = some x) : mjS S M (j + 1) = (mjS S M j).set j (dffS S x):=by
 obtain ⟨hj,hx⟩:=List.getElem?_eq_some_iff.1 h
 unfold mjS
 rw [List.set_append_right _ _ (by simp; omega),List.take_add_one,h]
 have : j - ((M.take j).map (dffS S)).length = 0:=by simp; omega
 rw [this,List.drop_eq_getElem_cons hj]
 simp [hx]
theorem mj_all (S : List Int) (M : List Nd) : mjS S M M.length = M.map (dffS S):=by unfold mjS; simp
set_option maxHeartbeats 4000000 in
theorem settle_as {w : World} {base p : Nat} {vn vs : Value} {M : List Nd} {S : List Int} (h : Fd w base p vn vs M S) (hd : ∀ q,q < M.length → (M.getD q nd0).k = 7 → ∃ m : Nat,(M.getD q nd0).a = (m : Int) ∧ m < M.length) (hn : M.length ≤ 100000) : Calls Try.prog 66 #[.pointer (some ⟨p,0,none⟩)] w fun e w' => e = .returned (.tuple #[]) ∧ Fd w' base p vn vs (M.map (dffS S)) S ∧ Below base w w':=by
 obtain ⟨A,cc,rfl,s1,k1,n1⟩:=zbj h.rn
 obtain ⟨A',c',rfl,s2,k2,n2⟩:=za4 h.rs
 have HD:=Lib.hid hd
 have K1:=Lib.hid k1
 have K2:=Lib.hid k2
 have c0 : _ = some (Value.slice A M.length cc):=h.ow.cell 0
 have hbw : base ≤ w.heap.size:=Nat.le_trans h.lo (Nat.le_of_lt h.ow.lt)
 clear hd k1 k2 s1 s2 n1 n2
 go_enter Try.func66,Try.ntmps66
 go_wp2_with fail
 clear c0
 go_loopw [9] (fun i wr => ∃ j : Nat,j ≤ M.length ∧ i = .int .i64 j ∧ Fd wr base p (.slice A M.length cc) (.slice A' M.length c') (mjS S M j) S ∧ Below base w wr) (fun i _ => M.length - (intOf i).toNat)
 case atStart => exact ⟨0,Nat.zero_le _,rfl,by unfold mjS; simpa using h,Below.refl _ _⟩
 obtain ⟨j,hj,rfl,F,BB⟩:=hrel
 by_cases hlt : j < M.length
 ·have hjn : (j : Int) < (M.length : Int):=by omega
  have hj0 : (0 : Int) ≤ (j : Int):=by omega
  have FN:=F.rn
  have FS:=F.rs
  rw [zcy] at FN FS
  obtain ⟨A2,cc2,e2,_,_,N2⟩:=zbj FN
  injection e2 with e2 _ e2'
  subst e2 e2'
  obtain ⟨b0,off,x1,x2,x3,x4,eA,HX,hA⟩:=N2.nat hlt
  obtain rfl : off = 0:=(K1.out b0 off eA).2
  subst eA
  rw [Nat.zero_add] at hA
  have HM : Hid (M[j]? = some ⟨x1,x2,x3,x4⟩):=Lib.hid (by rw [← mj_at S M hlt]; exact HX.out)
  have HMD : Hid (M.getD j nd0 = ⟨x1,x2,x3,x4⟩):=Lib.hid (by rw [List.getD_eq_getElem?_getD,HM.out]; rfl)
  clear N2 HX
  have a0:=hA.c1; have a1:=hA.c2; have a2:=hA.c3; have a3:=hA.c4
  have bn : (j : Int) ≤ 100000:=by omega
  go_upto_region 3 with fail
  clear a0 a1 a2 a3
  obtain ⟨w3,e3⟩ : ∃ w3,wr.alloc (.cells #[.int .i64 x1,.int .i64 x2,.int .i64 x3,.int .i64 x4] 43) = w3:=⟨_,rfl⟩
  have z3 : Own w3 wr.heap.size 43 [.int .i64 x1,.int .i64 x2,.int .i64 x3,.int .i64 x4]:=e3 ▸ Own.made wr 43 [.int .i64 x1,.int .i64 x2,.int .i64 x3,.int .i64 x4]
  have b : Below wr.heap.size wr w3:=e3 ▸ zaa _ _
  have hp3 : p ≠ wr.heap.size:=Nat.ne_of_lt F.ow.lt
  have H0 : b0 ≠ wr.heap.size:=Nat.ne_of_lt hA.lt
  replace F:=F.on b
  replace hA:=hA.on b
  have hbr : base ≤ wr.heap.size:=Nat.le_trans hbw BB.size
  replace BB:=BB.trans (b.mono hbr)
  obtain ⟨s3,hs3⟩ : ∃ s3,wr.heap.size = s3:=⟨_,rfl⟩
  rw [e3]
  rw [hs3] at z3 hp3 H0 ⊢
  clear e3 b hs3 hbr FN FS
  have c0 : _ = some (Value.int .i64 x1):=z3.cell 0
  by_cases h7 : x1 = 7
  ·have h7b:=zav h7
   obtain ⟨m,hm,hmn⟩:=HD.out j hlt (by rw [HMD.out]; exact h7)
   rw [HMD.out] at hm
   have hm : x2 = (m : Int):=hm
   subst hm
   have hm1 : (m : Int) < (M.length : Int):=by omega
   have hm0 : (0 : Int) ≤ (m : Int):=by omega
   go_wp2_with fail
   clear c0
   have FN:=F.rn
   have FS:=F.rs
   rw [zcy] at FN FS
   obtain ⟨A2,cc2,e2,_,_,N2⟩:=za4 FS
   injection e2 with e2 _ e2'
   subst e2 e2'
   obtain ⟨b1,off1,eB,iB⟩:=N2.iat hmn
   obtain rfl : off1 = 0:=(K2.out b1 off1 eB).2
   subst eB
   rw [Nat.zero_add] at iB
   clear N2
   obtain ⟨sv,H1⟩ : ∃ sv,S.getD m 0 = sv:=⟨_,rfl⟩
   rw [H1] at iB
   replace H1:=Lib.hid H1
   obtain ⟨cu0,hc0,hlo0⟩:=zaJ FN
   obtain ⟨cu1,hc1,hlo1⟩:=zaJ FS
   have hpg : p ≠ b0:=zaK F.ow hc0 (by decide)
   have h01 : b1 ≠ b0:=zaK hc1 hc0 (by decide)
   clear hc0 hc1 cu0 cu1
   refine LexG.region_plan (KB3.ok p s3 b1) 0 [0,1,2,3,4,5,6,7,8,9,10,11,12,13,14,15] (h:=?_)
   dsimp only [LexG.pick,LexG.nth]
   have bd : Below w3.heap.size w3 w3.drew:=(Below.refl _ _).drew
   replace F:=F.on bd
   replace FN:=zam FN bd
   replace FS:=zam FS bd
   replace hA:=hA.on bd
   replace iB:=iB.on bd
   replace z3:=z3.below bd z3.lt
   replace BB:=BB.trans (bd.mono (Nat.le_trans hbw BB.size))
   obtain ⟨w4,e4⟩ : ∃ w',w3.drew = w':=⟨_,rfl⟩
   rw [e4] at F FN FS hA iB z3 BB ⊢
   clear e4 bd
   have lf0:=fun s : LexG.Wd (KB3 p s3 b1) w4 => (show s.w.cell? ⟨p,0,none⟩ = some (Value.slice (some ⟨b0,0,none⟩) M.length cc) from (zac s.rel.1 0).trans (F.ow.cell 0))
   have lf1:=fun s : LexG.Wd (KB3 p s3 b1) w4 => (show s.w.cell? ⟨p,1,none⟩ = some (Value.slice (some ⟨b1,0,none⟩) M.length c') from (zac s.rel.1 1).trans (F.ow.cell 1))
   have lf2:=fun s : LexG.Wd (KB3 p s3 b1) w4 => (show s.w.cell? ⟨s3,1,none⟩ = some (Value.int .i64 (m : Int)) from (zac s.rel.2.1 1).trans (z3.cell 1))
   have lf3:=fun s : LexG.Wd (KB3 p s3 b1) w4 => (show s.w.cell? ⟨b1,m,none⟩ = some (Value.int .i64 sv) from (zac s.rel.2.2 m).trans iB.2)
   refine LexG.lex_plain 15 (by kernel_rfl) ?_
   dsimp only [List.take,List.drop]
   repeat go_big_quiet_step (fail)
   refine wpQuiet_nil ?_
   clear lf0 lf1 lf2 lf3
   have a1:=hA.c2
   have f1:=FN.frozenAt (j * 4 + 1)
   refine LexG.lex_call (h:=fun K hK => ?_)
   go_simp
   clear a1 f1
   refine hK _ _ (KB3.set w4 hpg H0.symm h01 (j * 4 + 1) (.int .i64 sv)) ?_
   clear hK K
   have R1:=FN.stored (j * 4 + 1) (.int .i64 sv)
   have RN:=R1.1
   have ex : ((mjS S M j).flatMap ndC).set (j * 4 + 1) (.int .i64 sv) = (mjS S M (j + 1)).flatMap ndC:=by
    rw [ze8 S M HM.out]
    have ed : dffS S ⟨x1,(m : Int),x3,x4⟩ = ⟨x1,sv,x3,x4⟩:=by
     unfold dffS
     rw [if_pos h7]
     show (⟨x1,sA S (m : Int),x3,x4⟩ : Nd) = _
     unfold sA
     rw [Int.toNat_natCast,H1.out]
    rw [ed,← zcO]
    have g0 : ((mjS S M j).flatMap ndC)[j * 4]? = some (Value.int .i64 x1):=by rw [show j * 4 = j * 4 + 0 from rfl,zap ndC 4 za1 _ j 0 (by omega),mj_at S M hlt,HM.out]; rfl
    have g2 : ((mjS S M j).flatMap ndC)[j * 4 + 2]? = some (Value.int .i64 x3):=by rw [zap ndC 4 za1 _ j 2 (by omega),mj_at S M hlt,HM.out]; rfl
    have g3 : ((mjS S M j).flatMap ndC)[j * 4 + 3]? = some (Value.int .i64 x4):=by rw [zap ndC 4 za1 _ j 3 (by omega),mj_at S M hlt,HM.out]; rfl
    generalize (mjS S M j).flatMap ndC = L at g0 g2 g3
    apply List.ext_getElem?
    intro i
    simp only [List.getElem?_set,List.length_set]
    by_cases e1 : j * 4 + 1 = i
    ·subst e1
     rw [if_neg (by omega : ¬ j * 4 + 3 = j * 4 + 1),if_neg (by omega : ¬ j * 4 + 2 = j * 4 + 1)]
     simp
    by_cases e3 : j * 4 + 3 = i
    ·subst e3
     rw [if_neg e1,if_pos rfl,g3,if_pos (List.getElem?_eq_some_iff.1 g3).1]
    by_cases e2 : j * 4 + 2 = i
    ·subst e2
     rw [if_neg e1,if_neg e3,if_pos rfl,g2,if_pos (List.getElem?_eq_some_iff.1 g2).1]
    by_cases e0 : j * 4 = i
    ·subst e0
     rw [if_neg e1,if_neg e3,if_neg e2,if_neg e1,if_pos rfl,g0,if_pos (List.getElem?_eq_some_iff.1 g0).1]
    rw [if_neg e1,if_neg e3,if_neg e2,if_neg e1,if_neg e0]
   rw [ex] at RN
   have RS:=FS.kept R1.2 (.inr (fun e => by
    unfold Value.ownBlock at e
    injection e with e
    exact h01 e))
   have OW:=F.ow.apart hpg (j * 4 + 1) (.int .i64 sv)
   have BB2:=BB.setCell (p:=⟨b0,j * 4 + 1,none⟩) hlo0 (.int .i64 sv)
   have hls:=F.ls
   rw [zcy] at hls
   have FF : Fd (w4.setCell ⟨b0,j * 4 + 1,none⟩ (.int .i64 sv)) base p (.slice (some ⟨b0,0,none⟩) M.length cc) (.slice (some ⟨b1,0,none⟩) M.length c') (mjS S M (j + 1)) S:=⟨OW,by rw [zcy]; exact RN,by rw [zcy]; exact RS,by rw [zcy]; exact hls,F.lo⟩
   refine LexG.lex_nil ?_
   dsimp only [NoPanic]
   go_wp2_with fail
   go_roundw
   case rel => exact ⟨j + 1,by omega,by go_num,FF,BB2⟩
   case measure => simp [intOf]; omega
  have h7b:=zae h7
  go_wp2_with fail
  go_roundw
  case rel =>
   refine ⟨j + 1,by omega,by go_num,?_,BB⟩
   have e : mjS S M (j + 1) = mjS S M j:=by
    have hj' : j < (mjS S M j).length:=by rw [zcy]; exact hlt
    have hx : (mjS S M j)[j]? = some ⟨x1,x2,x3,x4⟩:=by rw [mj_at S M hlt]; exact HM.out
    rw [ze8 S M HM.out]
    have : dffS S ⟨x1,x2,x3,x4⟩ = ⟨x1,x2,x3,x4⟩:=by unfold dffS; rw [if_neg h7]
    rw [this]
    obtain ⟨_,hx⟩:=List.getElem?_eq_some_iff.1 hx
    rw [← hx,List.set_getElem_self]
   rw [e]
   exact F
  case measure => simp [intOf]; omega
 obtain rfl : j = M.length:=by omega
 have hjn : ¬ (M.length : Int) < (M.length : Int):=by omega
 go_wp2_with fail
 refine bodyPost_end (v:=.tuple #[]) (by simp [results,Try.results66,go_sem]) rfl ⟨rfl,?_,BB⟩
 rw [mj_all] at F
 exact F
set_option maxRecDepth 4000
theorem zdH : ∀ {L : List Nat} {q : Nat},q ∈ L → L[L.idxOf q]? = some q
 | [],q,h => by cases h
 | p :: L,q,h => by
  by_cases e : p = q
  ·subst e
   rw [List.idxOf_cons,show (p == p) = true from beq_self_eq_true p]
   rfl
  rw [idx_ne e]
  rcases List.mem_cons.1 h with h | h
  ·exact absurd h.symm e
  exact zdH h
theorem idx_inj {L : List Nat} {a b : Nat} (ha : a ∈ L) (hb : b ∈ L) (h : L.idxOf a = L.idxOf b) : a = b:=by
 have e1:=zdH ha
 rw [h,zdH hb] at e1
 injection e1 with e1
 exact e1.symm
theorem zdo : ∀ {L : List Nat} {j q : Nat},L.Nodup → L[j]? = some q → L.idxOf q = j
 | [],j,q,_,h => by simp at h
 | p :: L,0,q,_,h => by
  injection h with h
  subst h
  rw [List.idxOf_cons,show (p == p) = true from beq_self_eq_true p]
  rfl
 | p :: L,j + 1,q,hn,h => by
  have hm : L[j]? = some q:=h
  rw [List.nodup_cons] at hn
  have e : p ≠ q:=fun e => hn.1 (e ▸ List.mem_of_getElem? hm)
  rw [idx_ne e,zdo hn.2 hm]
theorem pos_of {N : List Nd} {I O : List Pt} {dd : List Nat} {e : Int} (hl : zaB N I O = (some dd,e)) : ∃ L : List Nat,ordO (some dd) = nI L ∧ L.Nodup ∧ (∀ i,i ∈ L ↔ i < N.length) ∧ Pos N (fun q => L.idxOf q):=by
 obtain ⟨_,_,hf,_,_,ho,hO⟩:=od_of hl
 have od:=ho.odr
 refine ⟨_,hO,od.nd,od.mem,?_,?_,hf,?_⟩
 ·intro a b ha hb hab
  exact idx_inj ((od.mem a).2 ha) ((od.mem b).2 hb) hab
 ·intro q hq h7 y hy
  have hm : y.toNat ∈ deps N q:=by
   unfold deps za0
   rw [if_neg h7]
   exact List.mem_map_of_mem hy
  exact ord_pos od.ord q ((od.mem q).2 hq) _ hm ((od.mem _).2 (deps_lt hf hq hm))
 refine ⟨[],[],_,zcW od hf [] [],ze2 hf (fun q hq => ?_) (fun x hx => by cases hx) (fun x hx => by cases hx) _ (Nat.le_refl _)⟩
 unfold nI at hq
 obtain ⟨i,hi,rfl⟩:=List.mem_map.1 hq
 rw [Int.toNat_natCast]
 exact (od.mem i).1 hi
theorem FI.look {N : List Nd} {pos : Nat → Nat} {i : Nat} {M : List Nd} {S : List Int} (hp : Pos N pos) (h : FI N pos i M S) {q : Nat} (hq : q < N.length) (hi : pos q = i) : ∃ G : Nd → Prop,G (zaG S (M.getD q nd0)) ∧ ∀ x,G x → (isIO x ∨ Ok (fun y => ∃ m : Nat,y = (m : Int) ∧ m < M.length) x) ∧ (¬ isIO x → ∀ y ∈ zag x,(nA M y).k = 0 → (nA M y).a = 0 ∨ (nA M y).a = 1) ∧ ((zbe M x (q : Int)).1 ≠ x → G (zbe M x (q : Int)).1 ∧ rk (zbe M x (q : Int)).1 < rk x):=by
 obtain ⟨s,inn,u,hs,h01⟩:=hp.sol
 have hk:=h.known hs h01
 have H1:=h.old q hq (by omega)
 have hM : ∀ z,Pr N.length pos i z → sA S z = z → (nA M z).k = 2 → Pr N.length pos i (nA M z).a ∧ sA S (nA M z).a = (nA M z).a:=by
  intro z hz hf hk
  obtain ⟨m,rfl,hm,hpm⟩:=hz.nat
  unfold nA at hk ⊢
  rw [Int.toNat_natCast] at hk ⊢
  have H0 : ¬ isIO (N.getD m nd0):=fun H0 => by
   have e:=(h.io m hm hpm H0).1
   rw [e] at hk
   unfold isIO at H0
   omega
  have ho:=h.ok m hm hpm H0
  have hu : (M.getD m nd0).a ∈ zag (M.getD m nd0):=by rw [zbA hk]; simp
  refine ⟨(ho.uses _ hu).le (by omega),?_⟩
  unfold sA at hf
  rw [Int.toNat_natCast] at hf
  exact h.fx m hm hpm hf H0 _ hu
 refine ⟨fun x => isIO x ∨ (Ok (Pr N.length pos i) x ∧ ∀ y ∈ zag x,sA S y = y),?_,fun x hx => ⟨?_,?_,?_⟩⟩
 ·rw [H1]
  by_cases H0 : isIO (N.getD q nd0)
  ·left
   have:=usesF_k S (N.getD q nd0)
   unfold isIO at *
   rw [this]
   exact H0
  right
  have ho:=hp.at hq H0
  rw [hi] at ho
  have h7 : (N.getD q nd0).k ≠ 7:=fun e => H0 (.inr e)
  have hst : ∀ y ∈ zag (N.getD q nd0),Pr N.length pos i (sA S y) ∧ sA S (sA S y) = sA S y:=fun y hy => by
   obtain ⟨m,rfl,hm,hpm⟩:=(ho.uses y hy).nat
   obtain ⟨g1,g2⟩:=h.st m hm hpm
   have e : sA S ((m : Nat) : Int) = S.getD m 0:=by unfold sA; rw [Int.toNat_natCast]
   rw [e]
   exact ⟨g1.le (by omega),g2⟩
  refine ⟨zda ho fun y hy => (hst y hy).1,fun y hy => ?_⟩
  rw [zdq S _ h7] at hy
  obtain ⟨z,hz,rfl⟩:=List.mem_map.1 hy
  exact (hst z hz).2
 ·rcases hx with hx | ⟨hx,_⟩
  ·exact .inl hx
  refine .inr (hx.mono fun y hy => ?_)
  obtain ⟨m,e,hm,_⟩:=hy.nat
  exact ⟨m,e,by rw [h.lm]; exact hm⟩
 ·rcases hx with hx | ⟨hx,_⟩
  ·exact fun hn => absurd hx hn
  intro _ y hy h0
  exact (hk.c0 y (hx.uses y hy) h0).2
 intro hne
 rcases hx with hx | ⟨hx,hF⟩
 ·exfalso
  apply hne
  unfold isIO at hx
  unfold zbe
  rw [if_neg (by omega),if_neg (by omega),if_neg (by omega),if_neg (by omega),if_neg (by omega)]
 have hl:=lineL_ok (p:=(q : Int)) (F:=fun y => sA S y = y) hk hx hF hM h01
 obtain ⟨l1,_,l3⟩:=hl.less hne
 exact ⟨.inr ⟨hl.ok,fun y hy => hF y (l3 y hy)⟩,l1⟩
set_option maxRecDepth 4000
theorem field_nodes (Bn Bi Bo : Option Addr) (nn dn ni di no do' : Nat) (w : World) : (Instr.field 25 (.agg #[.slice Bn nn dn,.slice Bi ni di,.slice Bo no do']) 0).run Try.prog w = .ok (.slice Bn nn dn) w:=by
 unfold Instr.field
 simp [go_sem,part,asAgg]
def zI (n : Nat) : List Int:=List.replicate n 0
theorem made_ints (n : Nat) : madeCells #[Value.int .i64 0] (n * 1) = ((zI n).flatMap inC).toArray:=by
 apply Array.ext'
 rw [Nat.mul_one]
 unfold madeCells zI
 have e : ∀ n : Nat,(List.replicate n (0 : Int)).flatMap inC = List.replicate n (Value.int .i64 0):=fun n => by
  induction n with
  | zero => rfl
  | succ n ih => rw [List.replicate_succ,List.flatMap_cons,ih,List.replicate_succ]; rfl
 rw [e]
 apply List.ext_getElem
 ·simp
 intro i h1 h2
 simp [Nat.mod_one]
theorem zei {n : Nat} (hn : n ≤ 100000) (w : World) : (Instr.makeSlice 39 (.int .i64 (n : Int)) (.int .i64 (n : Int))).run Try.prog w = .ok (.slice (some ⟨w.heap.size,0,none⟩) n n) (w.alloc (.cells ((zI n).flatMap inC).toArray 3)):=by
 obtain ⟨i,h1,h2,h3,h4⟩:=Go.info_parts (P:=Try.prog) (e:=3) (z:=.int .i64 0) (size:=1) (bytes:=8) (by kernel_rfl)
 have h:=run_make (P:=Try.prog) w 39 3 i (.int .i64 0) Try.underlying39 h1 h2 .i64 .i64 (n : Int) (n : Int) (by omega) (by omega) (by rw [h4]; omega) (by omega)
 rw [h,h3,Int.toNat_natCast]
 show Result.ok _ (w.alloc (.cells (madeCells #[Value.int .i64 0] (n * 1)) 3)) = _
 rw [made_ints]
attribute [local go_sem] field_nodes zei
theorem zfa {w : World} {base g n : Nat} (h : Own w g 3 ((zI n).flatMap inC)) (hb : base ≤ g) (hn : n ≤ 100000) : w.ownsRow base 3 1 (.slice (some ⟨g,0,none⟩) n n) n ((zI n).flatMap inC):=by
 have hl : ((zI n).flatMap inC).length = n * 1:=by rw [zas inC 1 zaC]; simp [zI]
 refine ⟨hl,.inr ⟨g,n,_,rfl,hb,h,Nat.le_refl _,by unfold maxLen; omega,by simpa using hl,?_⟩⟩
 simp only []
 rw [← hl]
 exact List.take_length
theorem Fd.low {w : World} {base base2 p : Nat} {vn vs : Value} {M : List Nd} {S : List Int} (h : Fd w base p vn vs M S) (hb : base2 ≤ base) : Fd w base2 p vn vs M S:=⟨h.ow,zbY h.rn hb,zbY h.rs hb,h.ls,Nat.le_trans hb h.lo⟩
def stepF (x : List Nd × List Int) (q : Nat) : List Nd × List Int:=(x.1.set q (zbn x.1 (q : Int) 4 (zaG x.2 (x.1.getD q nd0))).1,x.2.set q (zbn x.1 (q : Int) 4 (zaG x.2 (x.1.getD q nd0))).2)
def runF (N : List Nd) (L : List Nat) : List Nd × List Int:=L.foldl stepF (N,zI N.length)
theorem zde (N : List Nd) {L : List Nat} {j q : Nat} (h : L[j]? = some q) : runF N (L.take (j + 1)) = stepF (runF N (L.take j)) q:=by
 unfold runF
 rw [List.take_add_one,h,List.foldl_append]
 rfl
def FoX (N : List Nd) (L : List Nat) (base : Nat) (en : Ending) (w' : World) : Prop:=∃ p vn vs M S,en = .returned (.tuple #[.pointer (some ⟨p,0,none⟩),.int .i64 0]) ∧ runF N L = (M,S) ∧ FI N (fun q => L.idxOf q) L.length M S ∧ Fd w' base p vn vs (M.map (dffS S)) S
set_option maxHeartbeats 4000000 in
theorem folded_yes {An Ai Ao : Option Addr} {nn cn ni ci no co : Nat} {N : List Nd} {I O : List Pt} {w : World} (h : Nt w An nn cn Ai ni ci Ao no co N I O) (sn : Sw An nn cn) (hb : ∀ p ∈ I ++ O,p.bits.length ≤ 100000) {dd : List Nat} (hl : zaB N I O = (some dd,0)) {L : List Nat} (hO : ordO (some dd) = nI L) (hLn : L.Nodup) (hLm : ∀ i,i ∈ L ↔ i < N.length) (hp : Pos N (fun q => L.idxOf q)) : Calls Try.prog 39 #[.agg #[.slice An nn cn,.slice Ai ni ci,.slice Ao no co]] w fun en w' => FoX N L w.heap.size en w' ∧ Below w.heap.size w w':=by
  have HL:=Lib.hid hl
  have HO:=Lib.hid hO
  have Ha:=Lib.hid hLn
  have H9:=Lib.hid hLm
  have HB:=Lib.hid hb
  clear hl hO hLn hLm hb
  go_enter Try.func39,Try.ntmps39
  go_upto_region 1 with fail
  obtain ⟨w1,e1,z0,BW⟩:=zmB w [.slice An nn cn,.slice Ai ni ci,.slice Ao no co] 25
  rw [e1]
  clear e1
  replace h:=h.on BW
  obtain ⟨c0,c1,c2⟩:=z0.zb3
  go_upto_region 4 with (go_at_call 49; (with_reducible refine (order_as h HL.out).mono ?_); (rintro en w2 ⟨A,m,c,rfl,hI,hmc,b⟩; replace BW:=Below.step BW b; replace h:=h.on b; replace z0:=z0.on b; clear b c0 c1 c2))
  have hnn : nn ≤ 100000:=by have:=h.hn; omega
  have B2 : Below w2.heap.size w2 w2:=Below.refl _ _
  have H8:=Lib.hid BW.size
  have HB0:=Lib.hid BW
  have bd : Below w2.heap.size w2 w2.drew:=(Below.refl _ _).drew
  replace h:=h.on bd
  replace z0:=z0.on bd
  replace BW:=Lib.hid (Below.step BW bd)
  replace B2:=Lib.hid (Below.step B2 bd)
  clear bd
  go_region_held3 (fun w' => w'.cell? ⟨w.heap.size,0,none⟩ = some (.slice An nn cn) ∧ w'.cell? ⟨w.heap.size,1,none⟩ = some (.slice Ai ni ci) ∧ w'.cell? ⟨w.heap.size,2,none⟩ = some (.slice Ao no co))
    ((first | with_reducible exact Bx.t3 z0 | exact Bx.t3 (z0.on (zaa _ _)) | exact Bx.t3 ((z0.on (zaa _ _)).on (zaa _ _))))
    (first
    | (go_at_call 40
       (with_reducible refine (clone_as h sn HB.out).mono ?_)
       rintro en w5 ⟨Bn,dn,Bi,di,Bo,do',s,rfl,hrow,hlt,swn,hpi,swi,hpo,swo,b⟩
       replace h:=h.on b
       replace z0:=z0.on b
       replace BW:=Lib.hid (Below.step BW.out b)
       replace B2:=Lib.hid (Below.step B2.out b)
       clear b)
    | (go_at_call 40
       refine (clone_as (h.on (zaa _ _)) sn HB.out).mono ?_
       rintro en w5 ⟨Bn,dn,Bi,di,Bo,do',s,rfl,hrow,hlt,swn,hpi,swi,hpo,swo,b⟩
       have ZM:=(Own.made w2.drew 3 ((zI nn).flatMap inC)).below b (by simp)
       have bb:=Below.step (zaa _ _) b
       replace h:=h.on bb
       replace z0:=z0.on bb
       replace BW:=Lib.hid (Below.step BW.out bb)
       replace B2:=Lib.hid (Below.step B2.out bb)
       clear b))
  · have H4 : N.length = nn:=h.n.1
    have F : Fd ((w5.alloc (.cells ((zI nn).flatMap inC).toArray 3)).alloc (.cells #[.slice Bn nn dn,.slice (some ⟨w5.heap.size,0,none⟩) nn nn] 74)) w2.heap.size (w5.heap.size + 1) (.slice Bn nn dn) (.slice (some ⟨w5.heap.size,0,none⟩) nn nn) N (zI nn):=by
      have b1 : Below w5.heap.size w5 (w5.alloc (.cells ((zI nn).flatMap inC).toArray 3)):=zaa _ _
      have b2 : Below (w5.alloc (.cells ((zI nn).flatMap inC).toArray 3)).heap.size (w5.alloc (.cells ((zI nn).flatMap inC).toArray 3)) ((w5.alloc (.cells ((zI nn).flatMap inC).toArray 3)).alloc (.cells #[.slice Bn nn dn,.slice (some ⟨w5.heap.size,0,none⟩) nn nn] 74)):=zaa _ _
      have hs:=B2.out.size
      refine ⟨?_,?_,?_,by simp [zI,H4],by omega⟩
      · have:=Own.made (w5.alloc (.cells ((zI nn).flatMap inC).toArray 3)) 74 [.slice Bn nn dn,.slice (some ⟨w5.heap.size,0,none⟩) nn nn]
        rw [zal w5 (.cells ((zI nn).flatMap inC).toArray 3) rfl] at this
        exact this
      · rw [H4]
        exact zam (zam hrow b1) b2
      rw [H4]
      exact zfa ((Own.made w5 3 ((zI nn).flatMap inC)).below b2 (by simp)) (by omega) hnn
    have BX:=Below.step (Below.step BW.out (zaa w5 _)) (zaa _ (.cells #[.slice Bn nn dn,.slice (some ⟨w5.heap.size,0,none⟩) nn nn] 74) : Below _ (w5.alloc (.cells ((zI nn).flatMap inC).toArray 3)) _)
    have BY:=Below.step (Below.step B2.out (zaa w5 _)) (zaa _ (.cells #[.slice Bn nn dn,.slice (some ⟨w5.heap.size,0,none⟩) nn nn] 74) : Below _ (w5.alloc (.cells ((zI nn).flatMap inC).toArray 3)) _)
    obtain ⟨wX,eX⟩ : ∃ wX,(w5.alloc (.cells ((zI nn).flatMap inC).toArray 3)).alloc (.cells #[.slice Bn nn dn,.slice (some ⟨w5.heap.size,0,none⟩) nn nn] 74) = wX:=⟨_,rfl⟩
    rw [eX] at F BX BY ⊢
    clear eX
    obtain ⟨p0,hp0⟩ : ∃ p0,w5.heap.size + 1 = p0:=⟨_,rfl⟩
    obtain ⟨vs,hvs⟩ : ∃ vs,Value.slice (some ⟨w5.heap.size,0,none⟩) nn nn = vs:=⟨_,rfl⟩
    obtain ⟨vn,hvn⟩ : ∃ vn,Value.slice Bn nn dn = vn:=⟨_,rfl⟩
    rw [hp0,hvs,hvn] at F
    rw [hp0]
    clear hp0 hvs hvn
    have hm : m = L.length:=by
      have:=hI.1
      rw [HO.out] at this
      unfold nI at this
      rw [← this,List.length_map]
    subst hm
    rw [HO.out] at hI
    have hLl : L.length ≤ 100000:=by
      have:=zcm N.length L Ha.out (fun x hx => (H9.out x).1 hx)
      omega
    have H5 : w.heap.size ≤ w2.heap.size:=H8.out
    have HBX:=Lib.hid BX
    have Hf:=Lib.hid BY
    clear BX BY
    go_wp2_with fail
    go_loopw [28] (fun i wr => ∃ (j : Nat) (M : List Nd) (S : List Int),j ≤ L.length ∧ i = .int .i64 j ∧ runF N (L.take j) = (M,S) ∧ FI N (fun q => L.idxOf q) j M S ∧ Fd wr w2.heap.size p0 vn vs M S ∧ Below w2.heap.size w2 wr) (fun i _ => L.length - (intOf i).toNat)
    case atStart => exact ⟨0,N,zI nn,Nat.zero_le _,rfl,by rw [← H4]; rfl,by rw [← H4]; exact FI.start,F,Hf.out⟩
    obtain ⟨j,M,S,hj,rfl,hrun,FJ,FD,BR⟩:=hrel
    have H6:=Lib.hid hrun
    clear hrun
    have Hd:=FJ.lm
    by_cases hlt : j < L.length
    · have Hc : (j : Int) < (L.length : Int):=by omega
      have hj0 : (0 : Int) ≤ (j : Int):=by omega
      obtain ⟨q,hq⟩ : ∃ q,L[j]? = some q:=⟨_,List.getElem?_eq_getElem hlt⟩
      have H7 : q < N.length:=(H9.out q).1 (List.mem_of_getElem? hq)
      have H2 : L.idxOf q = j:=zdo Ha.out hq
      obtain ⟨bo,off,eA,iA⟩:=(hI.on BR).iat hlt
      have eq : (nI L).getD j 0 = (q : Int):=by
        unfold nI
        rw [List.getD_eq_getElem?_getD,List.getElem?_map,hq]
        rfl
      rw [eq] at iA
      have H3:=FJ.old q H7 (by show j ≤ L.idxOf q; omega)
      obtain ⟨G,hG0,hG⟩:=FI.look hp FJ H7 H2
      have hx : isIO (M.getD q nd0) ∨ Ok (fun y => ∃ m : Nat,y = (m : Int) ∧ m < M.length) (M.getD q nd0):=by
        by_cases H0 : isIO (M.getD q nd0)
        · exact .inl H0
        refine .inr ((zep (List.all_eq_true.1 hp.fm _ (by rw [H3]; exact zey H7)) H0).mono fun y hy => ⟨y.toNat,by have:=hy.1; omega,by have:=hy.1; have:=hy.2; omega⟩)
      have C : ∀ w',Fd w' w2.heap.size p0 vn vs M S → Calls Try.prog 65 #[.pointer (some ⟨p0,0,none⟩),.int .i64 (q : Int)] w' fun e w'' => e = .returned (.tuple #[]) ∧ Fd w'' w2.heap.size p0 vn vs (M.set q (zbn M (q : Int) 4 (zaG S (M.getD q nd0))).1) (S.set q (zbn M (q : Int) 4 (zaG S (M.getD q nd0))).2) ∧ Below w2.heap.size w' w'':=fun w' hf => flook_as hf (by omega) hx G hG0 hG _ rfl
      have Hg:=Lib.hid (FI.step hp FJ H7 H2 rfl)
      have He:=Lib.hid (zde N hq)
      clear hG hG0 hx H3 eq hq
      subst eA
      have Hb:=iA.2
      go_wp2_with (go_at_call 65; (with_reducible refine (C _ FD).mono ?_); (rintro en wl ⟨rfl,FD2,bl⟩; clear Hb))
      go_roundw
      case rel => exact ⟨j + 1,_,_,by omega,by go_num,by rw [He.out,H6.out]; rfl,Hg.out,FD2,BR.trans bl⟩
      case measure => simp [intOf]; omega
    obtain rfl : j = L.length:=by omega
    have Hc : ¬ (L.length : Int) < (L.length : Int):=by omega
    have H1 : ∀ q,q < N.length → L.idxOf q < L.length:=fun q hq => by
      have:=zdH ((H9.out q).2 hq)
      exact (List.getElem?_eq_some_iff.1 this).1
    have hd : ∀ q,q < M.length → (M.getD q nd0).k = 7 → ∃ m : Nat,(M.getD q nd0).a = (m : Int) ∧ m < M.length:=fun q hq h7 => by
      rw [Hd] at hq ⊢
      have H0 : isIO (N.getD q nd0):=by
        by_cases H0 : isIO (N.getD q nd0)
        · exact H0
        exact absurd (.inr h7) (FJ.ok q hq (H1 q hq) H0).io
      rw [(FJ.io q hq (H1 q hq) H0).1] at h7 ⊢
      exact zcE (List.all_eq_true.1 hp.fm _ (zey hq)) h7
    have C : ∀ w',Fd w' w2.heap.size p0 vn vs M S → Calls Try.prog 66 #[.pointer (some ⟨p0,0,none⟩)] w' fun e w'' => e = .returned (.tuple #[]) ∧ Fd w'' w2.heap.size p0 vn vs (M.map (dffS S)) S ∧ Below w2.heap.size w' w'':=fun w' hf => settle_as hf hd (by omega)
    clear hd H1
    go_wp2_with (go_at_call 66; (with_reducible refine (C _ FD).mono ?_); (rintro en wl ⟨rfl,FD2,bl⟩))
    go_ret2
    refine ⟨⟨p0,vn,vs,M,S,rfl,by rw [← H6.out,List.take_length],FJ,FD2.low H5⟩,?_⟩
    exact (HB0.out.trans ((BR.trans bl).mono H5))
  have H4 : N.length = nn:=h.n.1
  have F : Fd (w5.alloc (.cells #[.slice Bn nn dn,.slice (some ⟨w2.heap.size,0,none⟩) nn nn] 74)) w2.heap.size w5.heap.size (.slice Bn nn dn) (.slice (some ⟨w2.heap.size,0,none⟩) nn nn) N (zI nn):=by
    have b2 : Below w5.heap.size w5 (w5.alloc (.cells #[.slice Bn nn dn,.slice (some ⟨w2.heap.size,0,none⟩) nn nn] 74)):=zaa _ _
    have hs:=B2.out.size
    refine ⟨?_,?_,?_,by simp [zI,H4],by omega⟩
    · exact Own.made w5 74 [.slice Bn nn dn,.slice (some ⟨w2.heap.size,0,none⟩) nn nn]
    · rw [H4]
      exact zbY (zam hrow b2) (by simp)
    rw [H4]
    exact zfa (ZM.below b2 ZM.lt) (by simp) hnn
  have BX:=Below.step BW.out (zaa w5 (.cells #[.slice Bn nn dn,.slice (some ⟨w2.heap.size,0,none⟩) nn nn] 74))
  have BY:=Below.step B2.out (zaa w5 (.cells #[.slice Bn nn dn,.slice (some ⟨w2.heap.size,0,none⟩) nn nn] 74))
  obtain ⟨wX,eX⟩ : ∃ wX,w5.alloc (.cells #[.slice Bn nn dn,.slice (some ⟨w2.heap.size,0,none⟩) nn nn] 74) = wX:=⟨_,rfl⟩
  rw [eX] at F BX BY ⊢
  clear eX
  obtain ⟨p0,hp0⟩ : ∃ p0,w5.heap.size = p0:=⟨_,rfl⟩
  obtain ⟨vs,hvs⟩ : ∃ vs,Value.slice (some ⟨w2.heap.size,0,none⟩) nn nn = vs:=⟨_,rfl⟩
  obtain ⟨vn,hvn⟩ : ∃ vn,Value.slice Bn nn dn = vn:=⟨_,rfl⟩
  rw [hp0,hvs,hvn] at F
  rw [hp0]
  clear hp0 hvs hvn
  have hm : m = L.length:=by
    have:=hI.1
    rw [HO.out] at this
    unfold nI at this
    rw [← this,List.length_map]
  subst hm
  rw [HO.out] at hI
  have hLl : L.length ≤ 100000:=by
    have:=zcm N.length L Ha.out (fun x hx => (H9.out x).1 hx)
    omega
  have H5 : w.heap.size ≤ w2.heap.size:=H8.out
  have HBX:=Lib.hid BX
  have Hf:=Lib.hid BY
  clear BX BY
  go_wp2_with fail
  go_loopw [28] (fun i wr => ∃ (j : Nat) (M : List Nd) (S : List Int),j ≤ L.length ∧ i = .int .i64 j ∧ runF N (L.take j) = (M,S) ∧ FI N (fun q => L.idxOf q) j M S ∧ Fd wr w2.heap.size p0 vn vs M S ∧ Below w2.heap.size w2 wr) (fun i _ => L.length - (intOf i).toNat)
  case atStart => exact ⟨0,N,zI nn,Nat.zero_le _,rfl,by rw [← H4]; rfl,by rw [← H4]; exact FI.start,F,Hf.out⟩
  obtain ⟨j,M,S,hj,rfl,hrun,FJ,FD,BR⟩:=hrel
  have H6:=Lib.hid hrun
  clear hrun
  have Hd:=FJ.lm
  by_cases hlt : j < L.length
  · have Hc : (j : Int) < (L.length : Int):=by omega
    have hj0 : (0 : Int) ≤ (j : Int):=by omega
    obtain ⟨q,hq⟩ : ∃ q,L[j]? = some q:=⟨_,List.getElem?_eq_getElem hlt⟩
    have H7 : q < N.length:=(H9.out q).1 (List.mem_of_getElem? hq)
    have H2 : L.idxOf q = j:=zdo Ha.out hq
    obtain ⟨bo,off,eA,iA⟩:=(hI.on BR).iat hlt
    have eq : (nI L).getD j 0 = (q : Int):=by
      unfold nI
      rw [List.getD_eq_getElem?_getD,List.getElem?_map,hq]
      rfl
    rw [eq] at iA
    have H3:=FJ.old q H7 (by show j ≤ L.idxOf q; omega)
    obtain ⟨G,hG0,hG⟩:=FI.look hp FJ H7 H2
    have hx : isIO (M.getD q nd0) ∨ Ok (fun y => ∃ m : Nat,y = (m : Int) ∧ m < M.length) (M.getD q nd0):=by
      by_cases H0 : isIO (M.getD q nd0)
      · exact .inl H0
      refine .inr ((zep (List.all_eq_true.1 hp.fm _ (by rw [H3]; exact zey H7)) H0).mono fun y hy => ⟨y.toNat,by have:=hy.1; omega,by have:=hy.1; have:=hy.2; omega⟩)
    have C : ∀ w',Fd w' w2.heap.size p0 vn vs M S → Calls Try.prog 65 #[.pointer (some ⟨p0,0,none⟩),.int .i64 (q : Int)] w' fun e w'' => e = .returned (.tuple #[]) ∧ Fd w'' w2.heap.size p0 vn vs (M.set q (zbn M (q : Int) 4 (zaG S (M.getD q nd0))).1) (S.set q (zbn M (q : Int) 4 (zaG S (M.getD q nd0))).2) ∧ Below w2.heap.size w' w'':=fun w' hf => flook_as hf (by omega) hx G hG0 hG _ rfl
    have Hg:=Lib.hid (FI.step hp FJ H7 H2 rfl)
    have He:=Lib.hid (zde N hq)
    clear hG hG0 hx H3 eq hq
    subst eA
    have Hb:=iA.2
    go_wp2_with (go_at_call 65; (with_reducible refine (C _ FD).mono ?_); (rintro en wl ⟨rfl,FD2,bl⟩; clear Hb))
    go_roundw
    case rel => exact ⟨j + 1,_,_,by omega,by go_num,by rw [He.out,H6.out]; rfl,Hg.out,FD2,BR.trans bl⟩
    case measure => simp [intOf]; omega
  obtain rfl : j = L.length:=by omega
  have Hc : ¬ (L.length : Int) < (L.length : Int):=by omega
  have H1 : ∀ q,q < N.length → L.idxOf q < L.length:=fun q hq => by
    have:=zdH ((H9.out q).2 hq)
    exact (List.getElem?_eq_some_iff.1 this).1
  have hd : ∀ q,q < M.length → (M.getD q nd0).k = 7 → ∃ m : Nat,(M.getD q nd0).a = (m : Int) ∧ m < M.length:=fun q hq h7 => by
    rw [Hd] at hq ⊢
    have H0 : isIO (N.getD q nd0):=by
      by_cases H0 : isIO (N.getD q nd0)
      · exact H0
      exact absurd (.inr h7) (FJ.ok q hq (H1 q hq) H0).io
    rw [(FJ.io q hq (H1 q hq) H0).1] at h7 ⊢
    exact zcE (List.all_eq_true.1 hp.fm _ (zey hq)) h7
  have C : ∀ w',Fd w' w2.heap.size p0 vn vs M S → Calls Try.prog 66 #[.pointer (some ⟨p0,0,none⟩)] w' fun e w'' => e = .returned (.tuple #[]) ∧ Fd w'' w2.heap.size p0 vn vs (M.map (dffS S)) S ∧ Below w2.heap.size w' w'':=fun w' hf => settle_as hf hd (by omega)
  clear hd H1
  go_wp2_with (go_at_call 66; (with_reducible refine (C _ FD).mono ?_); (rintro en wl ⟨rfl,FD2,bl⟩))
  go_ret2
  refine ⟨⟨p0,vn,vs,M,S,rfl,by rw [← H6.out,List.take_length],FJ,FD2.low H5⟩,?_⟩
  exact (HB0.out.trans ((BR.trans bl).mono H5))
end Go.Proofs.Ytcehklnonhalhaa
