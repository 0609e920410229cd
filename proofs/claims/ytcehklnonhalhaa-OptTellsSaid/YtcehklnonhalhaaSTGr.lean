/-
  What the proofs of OptTells need: Gr.
-/
import Derived.Test.YtcehklnonhalhaaSTGn
import Derived.Laws.OwnMore
import Derived.Deep.AppendLies
set_option linter.unusedVariables false
namespace Go.Proofs.Ytcehklnonhalhaa
open Go.RowKit
set_option maxRecDepth 4000
theorem zam {w w' : World} {base : Nat} {e : TypeId} {size : Nat} {v : Value} {n : Nat} {xs : List Value} (h : w.ownsRow base e size v n xs) (hb : Below w.heap.size w w') : w'.ownsRow base e size v n xs:=by
 have hl:=h.lt
 refine ⟨h.1,?_⟩
 rcases h.2 with h1 | ⟨g,cap,cur,rfl,h2,h3,h4⟩
 ·exact .inl h1
 exact .inr ⟨g,cap,cur,rfl,h2,(hb.block g (hl g rfl).2).trans h3,h4⟩
def IsB (ok : Nat → Prop) (w : World) (A : Option Addr) (n : Nat) (L : List Int) : Prop:=L.length = n ∧ ∀ k x,L[k]? = some x → ∃ b off,A = some ⟨b,off,none⟩ ∧ ok b ∧ b < w.heap.size ∧ w.cell? ⟨b,off + k,none⟩ = some (.int .i64 x)
section
variable {ok ok' : Nat → Prop} {w w' : World} {A : Option Addr} {n : Nat}
theorem IsB.is {L : List Int} (h : IsB ok w A n L) : Is w A n L:=⟨h.1,fun k x hx => by
 obtain ⟨b,off,h1,_,h2⟩:=h.2 k x hx
 exact ⟨b,off,h1,h2⟩⟩
theorem Is.isB {L : List Int} (h : Is w A n L) (hk : ∀ b off,A = some ⟨b,off,none⟩ → b < w.heap.size → ok b) : IsB ok w A n L:=⟨h.1,fun k x hx => by
 obtain ⟨b,off,h1,h2,h3⟩:=h.2 k x hx
 exact ⟨b,off,h1,hk b off h1 h2,h2,h3⟩⟩
theorem IsB.imp {L : List Int} (h : IsB ok w A n L) (hk : ∀ b,ok b → ok' b) : IsB ok' w A n L:=⟨h.1,fun k x hx => by
 obtain ⟨b,off,h1,h2,h3⟩:=h.2 k x hx
 exact ⟨b,off,h1,hk b h2,h3⟩⟩
theorem IsB.on {L : List Int} (h : IsB ok w A n L) (hb : Below w.heap.size w w') : IsB ok w' A n L:=⟨h.1,fun k x hx => by
 obtain ⟨b,off,h1,h2,h3,h4⟩:=h.2 k x hx
 exact ⟨b,off,h1,h2,Nat.lt_of_lt_of_le h3 hb.size,(hb.cell (p:=⟨b,off + k,none⟩) h3).trans h4⟩⟩
theorem IsB.far {L : List Int} {g : Nat} (h : IsB ok w A n L) (hg : w.grownBy w' (some g)) (hk : ∀ b,ok b → b ≠ g) : IsB ok w' A n L:=⟨h.1,fun k x hx => by
 obtain ⟨b,off,h1,h2,h3,h4⟩:=h.2 k x hx
 exact ⟨b,off,h1,h2,Nat.lt_of_lt_of_le h3 hg.size,(hg.cell_far ⟨b,off + k,none⟩ h3 (fun e => hk b h2 (by injection e))).trans h4⟩⟩
def PsH (s : Nat) (w : World) (A : Option Addr) (n : Nat) (L : List Pt) : Prop:=L.length = n ∧ ∀ k p,L[k]? = some p → ∃ b off A' m c,A = some ⟨b,off,none⟩ ∧ s ≤ b ∧ b < w.heap.size ∧ w.cell? ⟨b,off + k * 2,none⟩ = some (.string p.name) ∧ w.cell? ⟨b,off + k * 2 + 1,none⟩ = some (.slice A' m c) ∧ (m ≤ c ∧ (A' = none → c = 0)) ∧ c ≤ maxLen ∧ IsB (s ≤ ·) w A' m p.bits
theorem PsH.ps {s : Nat} {L : List Pt} (h : PsH s w A n L) : Ps w A n L:=⟨h.1,fun k p hp => by
 obtain ⟨b,off,A',m,c,h1,_,h2,h3,h4,h5,h6,h7⟩:=h.2 k p hp
 exact ⟨b,off,A',m,c,h1,h2,h3,h4,h5,h6,h7.is⟩⟩
theorem PsH.on {s : Nat} {L : List Pt} (h : PsH s w A n L) (hb : Below w.heap.size w w') : PsH s w' A n L:=⟨h.1,fun k p hp => by
 obtain ⟨b,off,A',m,c,h1,h0,h2,h3,h4,h5,h6,h7⟩:=h.2 k p hp
 exact ⟨b,off,A',m,c,h1,h0,Nat.lt_of_lt_of_le h2 hb.size,(hb.cell (p:=⟨b,off + k * 2,none⟩) h2).trans h3,(hb.cell (p:=⟨b,off + k * 2 + 1,none⟩) h2).trans h4,h5,h6,h7.on hb⟩⟩
theorem PsH.mono {s s' : Nat} {L : List Pt} (h : PsH s w A n L) (hs : s' ≤ s) : PsH s' w A n L:=⟨h.1,fun k p hp => by
 obtain ⟨b,off,A',m,c,h1,h0,h2,h3,h4,h5,h6,h7⟩:=h.2 k p hp
 exact ⟨b,off,A',m,c,h1,Nat.le_trans hs h0,h2,h3,h4,h5,h6,h7.imp fun b hb => Nat.le_trans hs hb⟩⟩
theorem PsH.far {s g : Nat} {L : List Pt} (h : PsH s w A n L) (hg : w.grownBy w' (some g)) (hs : g < s) : PsH s w' A n L:=⟨h.1,fun k p hp => by
 obtain ⟨b,off,A',m,c,h1,h0,h2,h3,h4,h5,h6,h7⟩:=h.2 k p hp
 have hne : some b ≠ some g:=fun e => by injection e with e; omega
 exact ⟨b,off,A',m,c,h1,h0,Nat.lt_of_lt_of_le h2 hg.size,(hg.cell_far ⟨b,off + k * 2,none⟩ h2 hne).trans h3,(hg.cell_far ⟨b,off + k * 2 + 1,none⟩ h2 hne).trans h4,h5,h6,h7.far hg (fun b hb => by omega)⟩⟩
end
theorem set_app {α : Type} (A B : List α) (k : Nat) (u : α) : (A ++ B).set (A.length + k) u = A ++ B.set k u:=by
 rw [List.set_append_right _ _ (by omega),Nat.add_sub_cancel_left]
theorem flat_set (R : List Rp) (j : Nat) (A : Option Addr) (m c : Nat) (r : Rp) (h : R[j]? = some r) : (R.flatMap ptC).set (j * 2 + 1) (.slice A m c) = (R.set j ⟨r.name,A,m,c⟩).flatMap ptC:=by
 induction R generalizing j with
 | nil => cases h
 | cons q R ih =>
  cases j with
  | zero =>
   simp at h
   subst h
   simp [ptC]
  | succ j =>
   rw [List.getElem?_cons_succ] at h
   rw [List.set_cons_succ,List.flatMap_cons,List.flatMap_cons,← ih j h,show (j + 1) * 2 + 1 = (ptC q).length + (j * 2 + 1) by rw [zaL]; omega,set_app]
def FitX (w : World) (A : Option Addr) (B j : Nat) (R : List Rp) (L : List Pt) : Prop:=R.length = L.length ∧ ∀ (k : Nat) (r : Rp) (p : Pt),R[k]? = some r → L[k]? = some p → r.name = p.name ∧ (r.m ≤ r.c ∧ (r.A = none → r.c = 0)) ∧ r.c ≤ maxLen ∧ IsB (fun b => A ≠ some ⟨b,0,none⟩ ∧ (k < j → B ≤ b)) w r.A r.m p.bits
theorem FitX.on {w w' : World} {A : Option Addr} {B j : Nat} {R : List Rp} {L : List Pt} (h : FitX w A B j R L) (hb : Below w.heap.size w w') : FitX w' A B j R L:=⟨h.1,fun k r p hr hp => by
 obtain ⟨h1,h2,h3,h4⟩:=h.2 k r p hr hp
 exact ⟨h1,h2,h3,h4.on hb⟩⟩
theorem FitX.step {w : World} {g B j : Nat} {R : List Rp} {L : List Pt} {r : Rp} {p : Pt} {A4 : Option Addr} {m c4 : Nat} (h : FitX w (some ⟨g,0,none⟩) B j R L) (hr : R[j]? = some r) (hp : L[j]? = some p) (sw : Sw A4 m c4) (hi : Is w A4 m p.bits) (hlow : ∀ b off,A4 = some ⟨b,off,none⟩ → B ≤ b ∧ b ≠ g) (u : Value) : FitX (w.setCell ⟨g,j * 2 + 1,none⟩ u) (some ⟨g,0,none⟩) B (j + 1) (R.set j ⟨r.name,A4,m,c4⟩) L:=by
 have hg:=zai w ⟨g,j * 2 + 1,none⟩ u
 refine ⟨by rw [List.length_set]; exact h.1,fun k r' p' hr' hp' => ?_⟩
 rw [List.getElem?_set] at hr'
 by_cases e : j = k
 ·subst e
  rw [if_pos rfl,if_pos (List.getElem?_eq_some_iff.1 hr).1] at hr'
  injection hr' with hr'
  rw [hp] at hp'
  injection hp' with hp'
  subst hr' hp'
  obtain ⟨h1,_⟩:=h.2 j r p hr hp
  refine ⟨h1,⟨sw.1,sw.2.2⟩,sw.2.1,?_⟩
  refine IsB.far (g:=g) ?_ hg (fun b hb => fun e => hb.1 (by rw [e]))
  exact hi.isB fun b off e _ => ⟨fun q => (hlow b off e).2 (by injection q with q; injection q with q; exact q.symm),fun _ => (hlow b off e).1⟩
 rw [if_neg e] at hr'
 obtain ⟨h1,h2,h3,h4⟩:=h.2 k r' p' hr' hp'
 refine ⟨h1,h2,h3,?_⟩
 exact (IsB.far (g:=g) h4 hg (fun b hb => fun e => hb.1 (by rw [e]))).imp fun b hb => ⟨hb.1,fun hk => hb.2 (by omega)⟩
set_option maxHeartbeats 2000000 in
theorem zcs {A : Option Addr} {n c : Nat} {L : List Pt} {w : World} (h : Ps w A n L) (sw : Sw A n c) (hn : n ≤ 1000) (hb : ∀ p ∈ L,p.bits.length ≤ 100000) :
  Calls Try.prog 68 #[.slice A n c] w fun en w' => ∃ A' c',en = .returned (.slice A' n c') ∧ PsH w.heap.size w' A' n L ∧ Sw A' n c' ∧ Below w.heap.size w w':=by
 have HB:=Lib.hid hb
 have H2:=Lib.hid h.1
 clear hb
 obtain ⟨R,hR,hF⟩:=h.raw
 go_enter Try.func68,Try.ntmps68
 go_wp2_with fail
 refine (cloneP_as hR sw (by omega)).mono ?_
 rintro e w1 ⟨v,rfl,hrow,b1⟩
 obtain ⟨A',c',rfl,sw',hlow,_⟩:=zaP hrow
 have HF : FitX w1 A' w.heap.size 0 R L:=⟨hF.1,fun k r p hr hp => by
  obtain ⟨h1,h2,h3,h4⟩:=hF.2 k r p hr hp
  refine ⟨h1,h2,h3,IsB.on (h4.isB fun b off e hb => ⟨fun q => ?_,fun hk => absurd hk (by omega)⟩) b1⟩
  have:=(hlow b 0 q).1
  omega⟩
 have HLOW:=Lib.hid hlow
 clear hF hR h hlow
 go_wp2_with fail
 go_loopw [9] (fun i wr => ∃ j : Nat,j ≤ n ∧ i = .int .i64 j ∧ ∃ R' : List Rp,wr.ownsRow w.heap.size 41 2 (.slice A' n c') n (R'.flatMap ptC) ∧ FitX wr A' w.heap.size j R' L ∧ Below w.heap.size w wr) (fun i _ => n - (intOf i).toNat)
 case atStart => exact ⟨0,Nat.zero_le _,rfl,R,hrow,HF,b1⟩
 clear hrow HF b1
 obtain ⟨j,hj,rfl,R',hrow,hf,BW⟩:=hrel
 by_cases hlt : j < n
 ·obtain ⟨p,hp⟩:=zat H2.out hlt
  obtain ⟨r,hr⟩:=zat (hf.1.trans H2.out) hlt
  have HX:=Lib.hid hp
  have HY:=Lib.hid hr
  obtain ⟨h1,h2,h3,h4⟩:=hf.2 j r p hr hp
  clear h1
  have hbl : r.m ≤ 100000:=by rw [← h4.1]; exact HB.out p (List.mem_of_getElem? hp)
  obtain ⟨A0,c0,q0,_,hl0,hc0⟩:=zaP hrow
  injection q0 with qa qb qc
  subst qa qc
  obtain ⟨g,eA,hg,k1⟩:=hc0 (j * 2 + 0) (.string r.name) (by rw [zap ptC 2 zaL R' j 0 (by omega),hr]; rfl)
  obtain ⟨g',eA',_,k2⟩:=hc0 (j * 2 + 1) (.slice r.A r.m r.c) (by rw [zap ptC 2 zaL R' j 1 (by omega),hr]; rfl)
  subst eA
  injection eA' with eA'
  injection eA' with eA'
  subst eA'
  rw [Nat.add_zero] at k1
  have hwg : w.heap.size ≤ g:=(hl0 g 0 rfl).1
  have f0:=hrow.frozenAt (j * 2 + 1)
  clear hp hr hc0 hl0
  go_upto_region 5 with fail
  obtain ⟨w2,e_w2,z0,b2⟩:=zmB wr [.string r.name,.slice r.A r.m r.c] 41
  rw [e_w2]
  clear e_w2
  have z0c1:=z0.2 1 _ rfl
  have BW2:=Below.step BW b2
  have H1:=zam hrow b2
  have hf2:=hf.on b2
  have hi2:=h4.is.on b2
  have hg2 : g < w2.heap.size:=Nat.lt_of_lt_of_le hg b2.size
  have hw2 : w.heap.size ≤ w2.heap.size:=BW2.size
  clear k1 k2 f0 hrow hf b2
  go_wp2_with (go_at_call 95; refine (cloneI_as hi2 ⟨h2.1,h3,h2.2⟩ hbl).mono ?_; rintro e w4 ⟨v4,rfl,hrow4,b4⟩; obtain ⟨A4,c4,rfl,sw4,hl4,hi4⟩:=za4 hrow4; have H0:=zam H1 b4; have f5:=H0.frozenAt (j * 2 + 1); have k5:=(H0.cellAt (j * 2 + 1) (by omega)).trans (show (R'.flatMap ptC)[j * 2 + 1]? = some (.slice r.A r.m r.c) by rw [zap ptC 2 zaL R' j 1 (by omega),HY.out]; rfl))
  have BW4:=Below.step BW2 b4
  have hS:=H0.stored (j * 2 + 1) (.slice A4 r.m c4)
  rw [flat_set R' j A4 r.m c4 r HY.out] at hS
  have hf4:=(hf2.on b4).step HY.out HX.out sw4 hi4 (fun b off e => ⟨Nat.le_trans hw2 (hl4 b off e).1,by have:=(hl4 b off e).1; omega⟩) (.slice A4 r.m c4)
  have BW5:=BW4.setCell (p:=⟨g,j * 2 + 1,none⟩) hwg (.slice A4 r.m c4)
  go_roundw
  case rel => exact ⟨j + 1,by omega,by go_num,_,hS.1,hf4,BW5⟩
  case measure => simp [intOf]; omega
 obtain rfl : j = n:=by omega
 have HP : PsH w.heap.size wr A' j L:=by
  obtain ⟨A0,c0,q0,_,hl0,hp0⟩:=row_ps hrow
  injection q0 with qa qb qc
  subst qa qc
  refine ⟨H2.out,fun k p hp => ?_⟩
  have hk : k < j:=by rw [← H2.out]; exact (List.getElem?_eq_some_iff.1 hp).1
  obtain ⟨r,hr⟩:=zat (hf.1.trans H2.out) hk
  obtain ⟨h1,h2,h3,h4⟩:=hf.2 k r p hr hp
  obtain ⟨b,off,e,hb,c1,c2⟩:=hp0.2 k r hr
  exact ⟨b,off,r.A,r.m,r.c,e,(hl0 b off e).1,hb,by rw [← h1]; exact c1,c2,h2,h3,h4.imp fun b hb => hb.2 hk⟩
 go_wp2_with fail
 go_ret
 exact ⟨A',c',rfl,HP,sw',BW⟩
def zc8 (w : World) (s i : Nat) : Value:=(w.cell? ⟨s,i,none⟩).getD (.bool false)
theorem zeV {w : World} {s i : Nat} {v : Value} (h : w.cell? ⟨s,i,none⟩ = some v) : w.cell? ⟨s,i,none⟩ = some (zc8 w s i):=by unfold zc8; rw [h]; rfl
theorem stS {w : World} {s0 s1 : Nat} {T : TypeId} {a b c x y z : Value} (z0 : Bx w s0 [a,b,c]) (ZR : Own w s1 T [x,y,z]) : w.cell? ⟨s0,0,none⟩ = some (a) ∧ w.cell? ⟨s0,1,none⟩ = some (b) ∧ w.cell? ⟨s0,2,none⟩ = some (c) ∧ w.cell? ⟨s1,0,none⟩ = some (zc8 w s1 0) ∧ w.cell? ⟨s1,1,none⟩ = some (zc8 w s1 1) ∧ w.cell? ⟨s1,2,none⟩ = some (zc8 w s1 2) ∧ w.frozen? ⟨s1,0,none⟩ = false ∧ w.frozen? ⟨s1,1,none⟩ = false ∧ w.frozen? ⟨s1,2,none⟩ = false:=
 ⟨z0.2 0 _ rfl,z0.2 1 _ rfl,z0.2 2 _ rfl,zeV (ZR.cell 0),zeV (ZR.cell 1),zeV (ZR.cell 2),ZR.free 0,ZR.free 1,ZR.free 2⟩
theorem Bx.apart {w : World} {s s1 : Nat} {vs : List Value} (h : Bx w s vs) (hne : s ≠ s1) (i : Nat) (u : Value) : Bx (w.setCell ⟨s1,i,none⟩ u) s vs:=by
 have hg:=zai w ⟨s1,i,none⟩ u
 exact ⟨Nat.lt_of_lt_of_le h.1 hg.size,fun k v hv => (hg.cell_far ⟨s,k,none⟩ h.1 (fun e => hne (by injection e))).trans (h.2 k v hv)⟩
set_option maxHeartbeats 4000000 in
theorem clone_as {An Ai Ao : Option Addr} {nn cn ni ci no co : Nat} {N : List Nd} {I O : List Pt} {w : World} (h : Nt w An nn cn Ai ni ci Ao no co N I O) (sn : Sw An nn cn) (hb : ∀ p ∈ I ++ O,p.bits.length ≤ 100000) :
    Calls Try.prog 40 #[.agg #[.slice An nn cn,.slice Ai ni ci,.slice Ao no co]] w fun en w' => ∃ Bn dn Bi di Bo do' s,en = .returned (.agg #[.slice Bn nn dn,.slice Bi ni di,.slice Bo no do']) ∧ w'.ownsRow w.heap.size 43 4 (.slice Bn nn dn) nn (N.flatMap ndC) ∧ (∀ g,(Value.slice Bn nn dn).ownBlock = some g → g < s) ∧ Sw Bn nn dn ∧ PsH s w' Bi ni I ∧ Sw Bi ni di ∧ PsH s w' Bo no O ∧ Sw Bo no do' ∧ Below w.heap.size w w':=by
  have hb1 : Hid (∀ p ∈ I,p.bits.length ≤ 100000):=Lib.hid fun p hp => hb p (List.mem_append_left _ hp)
  have hb2 : Hid (∀ p ∈ O,p.bits.length ≤ 100000):=Lib.hid fun p hp => hb p (List.mem_append_right _ hp)
  clear hb
  have hn1 : nn ≤ 100000:=by have:=h.hn; omega
  have hn2 : ni ≤ 1000:=by have:=h.hs; omega
  have hn3 : no ≤ 1000:=by have:=h.hs; omega
  go_enter Try.func40,Try.ntmps40
  go_upto_region 1 with fail
  obtain ⟨w1,e_w1,z0,b1⟩:=zmB w [.slice An nn cn,.slice Ai ni ci,.slice Ao no co] 25
  have H2 : w1.heap.size = w.heap.size + 1:=e_w1 ▸ zal w _ rfl
  rw [e_w1]
  clear e_w1
  obtain ⟨s1,hs0⟩ : ∃ s1,w.heap.size + 1 = s1:=⟨_,rfl⟩
  rw [hs0] at H2 ⊢
  obtain ⟨w2,e_w2⟩ : ∃ w',w1.alloc (.cells #[.slice none 0 0,.slice none 0 0,.slice none 0 0] 25) = w':=⟨_,rfl⟩
  have z1 : Bx w2 s1 [.slice none 0 0,.slice none 0 0,.slice none 0 0]:=e_w2 ▸ Bx.made_k w1 H2 #[.slice none 0 0,.slice none 0 0,.slice none 0 0] 25
  have ZR : Own w2 s1 25 [.slice none 0 0,.slice none 0 0,.slice none 0 0]:=by rw [← H2]; exact e_w2 ▸ Own.made w1 25 [.slice none 0 0,.slice none 0 0,.slice none 0 0]
  have b2 : Below w1.heap.size w1 w2:=e_w2 ▸ zaa _ _
  rw [e_w2]
  clear e_w2 H2
  replace z0:=z0.on b2
  have BW:=Below.step b1 b2
  replace h:=h.on BW
  clear b1 b2
  have b : Below w2.heap.size w2 w2.drew:=(Below.refl _ _).drew
  replace h:=h.on b
  replace z0:=z0.on b
  replace z1:=z1.on b
  replace ZR:=ZR.below b ZR.lt
  have BB:=Below.step BW b
  clear BW
  have BW:=Lib.hid BB
  clear b BB
  have H8 : w.heap.size ≠ s1:=by omega
  have hs2:=ZR.lt
  go_region_held3 (fun w' => w'.cell? ⟨w.heap.size,0,none⟩ = some (.slice An nn cn) ∧ w'.cell? ⟨w.heap.size,1,none⟩ = some (.slice Ai ni ci) ∧ w'.cell? ⟨w.heap.size,2,none⟩ = some (.slice Ao no co) ∧ w'.cell? ⟨s1,0,none⟩ = some (zc8 w' s1 0) ∧ w'.cell? ⟨s1,1,none⟩ = some (zc8 w' s1 1) ∧ w'.cell? ⟨s1,2,none⟩ = some (zc8 w' s1 2) ∧ w'.frozen? ⟨s1,0,none⟩ = false ∧ w'.frozen? ⟨s1,1,none⟩ = false ∧ w'.frozen? ⟨s1,2,none⟩ = false)
    ((first | with_reducible exact stS z0 ZR | exact stS (((z0.apart H8 0 _).apart H8 1 _).apart H8 2 _) (ZR.p3' _ _ _)))
    (first
    | (go_at_call 67
       (with_reducible refine (zev h.n sn hn1).mono ?_)
       rintro en w3 ⟨vN,rfl,hrow,b⟩
       replace h:=h.on b
       replace z0:=z0.on b
       replace z1:=z1.on b
       replace ZR:=ZR.below b ZR.lt
       replace BW:=Lib.hid (Below.step BW.out b)
       have hlN:=Lib.hid hrow.lt
       have H0:=ZR.lt
       obtain ⟨Bn,dn,rfl,swn,hln,_⟩:=zaP hrow
       clear b)
    | (go_at_call 68
       (with_reducible refine (zcs h.i h.si hn2 hb1.out).mono ?_)
       rintro en w4 ⟨Bi,di,rfl,H3,swi,b⟩
       replace h:=h.on b
       replace z0:=z0.on b
       replace z1:=z1.on b
       replace ZR:=ZR.below b ZR.lt
       replace BW:=Lib.hid (Below.step BW.out b)
       replace hrow:=zam hrow b
       have H4:=b.size
       clear b)
    | (go_at_call 68
       (with_reducible refine (zcs h.o h.so hn3 hb2.out).mono ?_)
       rintro en w5 ⟨Bo,do',rfl,hpo,swo,b⟩
       replace h:=h.on b
       replace z0:=z0.on b
       replace z1:=z1.on b
       replace ZR:=ZR.below b ZR.lt
       replace BW:=Lib.hid (Below.step BW.out b)
       replace hrow:=zam hrow b
       replace H3:=H3.on b
       clear b))
  all_goals replace BW:=BW.out
  have H5 : w.heap.size ≤ w2.drew.heap.size:=Nat.le_trans (by omega) (Nat.le_of_lt hs2)
  have VR:=ZR.p3' (.slice Bn nn dn) (.slice Bi ni di) (.slice Bo no do')
  obtain ⟨p0,p1,p2⟩:=VR.zo3
  have H1 : (((w5.setCell ⟨s1,0,none⟩ (.slice Bn nn dn)).setCell ⟨s1,1,none⟩ (.slice Bi ni di)).setCell ⟨s1,2,none⟩ (.slice Bo no do')).ownsRow w.heap.size 43 4 (.slice Bn nn dn) nn (N.flatMap ndC):=by
    have hk : (Value.slice Bn nn dn).ownBlock = none ∨ (Value.slice Bn nn dn).ownBlock ≠ some s1:=by
      right
      intro e
      have:=(hlN.out _ e).1
      omega
    exact zbY (((hrow.kept (zai _ _ _) hk).kept (zai _ _ _) hk).kept (zai _ _ _) hk) H5
  have H7:=((H3.far (zai w5 ⟨s1,0,none⟩ (.slice Bn nn dn)) H0).far (zai _ ⟨s1,1,none⟩ (.slice Bi ni di)) H0).far (zai _ ⟨s1,2,none⟩ (.slice Bo no do')) H0
  have H6:=(((hpo.mono H4).far (zai w5 ⟨s1,0,none⟩ (.slice Bn nn dn)) H0).far (zai _ ⟨s1,1,none⟩ (.slice Bi ni di)) H0).far (zai _ ⟨s1,2,none⟩ (.slice Bo no do')) H0
  have hws : w.heap.size ≤ s1:=by omega
  have BW6:=BW.e3' hws (.slice Bn nn dn) (.slice Bi ni di) (.slice Bo no do')
  clear hrow H3 hpo BW
  go_wp2_with fail
  refine bodyPost_ret (v:=.agg #[.slice Bn nn dn,.slice Bi ni di,.slice Bo no do']) (by simp [results,Try.results40,go_sem,p0,p1,p2]) rfl ?_
  exact ⟨Bn,dn,Bi,di,Bo,do',w3.heap.size,rfl,H1,fun g e => (hlN.out g e).2,swn,H7,swi,H6,swo,BW6⟩
end Go.Proofs.Ytcehklnonhalhaa
