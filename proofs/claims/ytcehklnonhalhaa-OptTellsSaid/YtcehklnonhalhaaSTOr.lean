/-
  What the proofs of OptTells need: Or Os Ot Ox.
-/
import Derived.Test.YtcehklnonhalhaaSTOn
set_option linter.unusedVariables false
namespace Go.Proofs.Ytcehklnonhalhaa
open Go.RowKit
theorem rlook_as {w : World} {A : Option Addr} {n c : Nat} {M : List Nd} (h : Ns w A n M) {x : Nd} (h2 : 2 ≤ x.k) (h6 : x.k ≤ 6) (hx : Plc n (zag x)) (hw : ∀ y ∈ zag x,Wk12 M y) :
  Calls Try.prog 90 #[.slice A n c,ndA x] w fun e w' => RL (zan M x) e ∧ Below w.heap.size w w':=by
 obtain ⟨k,a,b,d⟩:=x
 have h2 : 2 ≤ k:=h2
 have h6 : k ≤ 6:=h6
 rcases (show k = 2 ∨ k = 3 ∨ k = 4 ∨ k = 5 ∨ k = 6 by omega) with rfl | rfl | rfl | rfl | rfl
 ·have u : zag ⟨2,a,b,d⟩ = [a]:=rfl
  rw [u] at hx hw
  obtain ⟨m,rfl,hm⟩:=hx a (by simp)
  exact rlook2 h hm (hw _ (by simp)) b d
 ·have u : zag ⟨3,a,b,d⟩ = [a,b]:=rfl
  rw [u] at hx hw
  obtain ⟨m,rfl,hm⟩:=hx a (by simp)
  obtain ⟨m2,rfl,hm2⟩:=hx b (by simp)
  exact rlook3 h hm (hw _ (by simp)) hm2 (hw _ (by simp)) d
 ·have u : zag ⟨4,a,b,d⟩ = [a,b]:=rfl
  rw [u] at hx hw
  obtain ⟨m,rfl,hm⟩:=hx a (by simp)
  obtain ⟨m2,rfl,hm2⟩:=hx b (by simp)
  exact rlook4 h hm (hw _ (by simp)) hm2 (hw _ (by simp)) d
 ·have u : zag ⟨5,a,b,d⟩ = [a,b]:=rfl
  rw [u] at hx hw
  obtain ⟨m,rfl,hm⟩:=hx a (by simp)
  obtain ⟨m2,rfl,hm2⟩:=hx b (by simp)
  exact rlook5 h hm (hw _ (by simp)) hm2 (hw _ (by simp)) d
 have u : zag ⟨6,a,b,d⟩ = [a,b,d]:=rfl
 rw [u] at hx hw
 obtain ⟨m,rfl,hm⟩:=hx a (by simp)
 obtain ⟨m2,rfl,hm2⟩:=hx b (by simp)
 obtain ⟨m3,rfl,hm3⟩:=hx d (by simp)
 exact rlook6 h hm (hw _ (by simp)) hm2 (hw _ (by simp)) hm3 (hw _ (by simp))
theorem SI.first {N : List Nd} {pos : Nat → Nat} {i : Nat} {M : List Nd} {S : List Int} {F : Nd → Option Nat} (hp : Pos N pos) (h : SI N pos i M S F) {x : Nd} {q : Nat} (hq : q < N.length) (hqi : pos q < i) (hio : ¬ isIO (N.getD q nd0)) (hM : M.getD q nd0 = x)
  (hf : ∀ r,r < N.length → pos r < pos q → ¬ isIO (N.getD r nd0) → M.getD r nd0 ≠ x) : F x = some q:=by
 obtain ⟨p,h1,h2⟩:=h.all q hq hqi hio
 rw [hM] at h1
 obtain ⟨g1,g2,g3,g4,_⟩:=h.fir x p h1
 obtain ⟨k1,_⟩:=h.rw.st q hq hqi
 rw [h2] at k1
 have k2 : pos p < pos q + 1:=by
  have:=k1.2.2
  rwa [Int.toNat_natCast] at this
 have k3 : ¬ pos p < pos q:=fun k => hf p g1 k g3 g4
 have : p = q:=hp.inj p q g1 hq (by omega)
 rw [h1,this]
theorem SI.free {N : List Nd} {pos : Nat → Nat} {i : Nat} {M : List Nd} {S : List Int} {F : Nd → Option Nat} (h : SI N pos i M S F) {x : Nd} (hf : ∀ r,r < N.length → pos r < i → ¬ isIO (N.getD r nd0) → M.getD r nd0 ≠ x) : F x = none:=by
 cases e : F x with
 | none => rfl
 | some p =>
  obtain ⟨g1,g2,g3,g4,_⟩:=h.fir x p e
  exact absurd g4 (hf p g1 g2 g3)
theorem SI.io {N : List Nd} {pos : Nat → Nat} {i : Nat} {M : List Nd} {S : List Int} {F : Nd → Option Nat} (h : SI N pos i M S F) {q : Nat} (hq : q < N.length) (hqi : pos q < i) : isIO (M.getD q nd0) ↔ isIO (N.getD q nd0):=by
 by_cases hio : isIO (N.getD q nd0)
 ·rw [(h.rw.io q hq hqi hio).1]
 exact ⟨fun k => absurd k (h.rw.ok q hq hqi hio).io,fun k => absurd k hio⟩
theorem mvN_uses {P : Int → Prop} {S R : List Int} {x : Nd} (hx : Ok P x) (hR : ∀ y,P y → sA R y = sA S y) : mvN R x = zaG S x:=by
 unfold mvN zaG
 rcases hx.kd with ⟨e,_⟩ | ⟨e,a,b,c⟩ | ⟨e,a,b,c⟩ | ⟨e,a,b,c⟩
 ·have n1 : ¬ (x.k = 2 ∨ x.k = 7):=by omega
  have n2 : ¬ x.k = 2:=by omega
  have n3 : ¬ (x.k = 3 ∨ x.k = 4 ∨ x.k = 5):=by omega
  have n6 : ¬ x.k = 6:=by omega
  rw [if_neg n1,if_neg n3,if_neg n6,if_neg n2,if_neg n3,if_neg n6]
 ·rw [if_pos (.inl e),if_pos e,hR _ a]
 ·have n1 : ¬ (x.k = 2 ∨ x.k = 7):=by omega
  have n2 : ¬ x.k = 2:=by omega
  rw [if_neg n1,if_pos e,if_neg n2,if_pos e,hR _ a,hR _ b]
 have n1 : ¬ (x.k = 2 ∨ x.k = 7):=by omega
 have n2 : ¬ x.k = 2:=by omega
 have n3 : ¬ (x.k = 3 ∨ x.k = 4 ∨ x.k = 5):=by omega
 rw [if_neg n1,if_neg n3,if_pos e,if_neg n2,if_neg n3,if_pos e,hR _ a,hR _ b,hR _ c]
theorem mvN_dff {S : List Int} {x : Nd} (h : x.k = 7) : mvN S x = dffS S x:=by
 unfold mvN dffS
 rw [if_pos (.inr h),if_pos h]
theorem key_dff {S : List Int} {x : Nd} (h : x.k = 7) : keyS (dffS S x) = dffS S x:=by
 unfold keyS
 rw [if_neg]
 unfold dffS
 rw [if_pos h]
 show ¬ (x.k = 3 ∨ x.k = 4 ∨ x.k = 5)
 omega
open Go.RowKit
def idL (j : Nat) : List Int:=(List.range j).map (fun q : Nat => (q : Int))
theorem idL_s (j : Nat) : idL (j + 1) = idL j ++ [(j : Int)]:=by unfold idL; rw [List.range_succ,List.map_append]; rfl
theorem idL_len (j : Nat) : (idL j).length = j:=by unfold idL; simp
theorem level_len {N : List Nd} {I O : List Pt} {dd : List Nat} (h : zaB N I O = (some dd,0)) : dd.length = N.length:=by
 unfold zaB at h
 split at h
 ·cases (Prod.mk.inj h).1
 split at h
 ·rename_i d hd
  obtain ⟨e,_⟩:=Prod.mk.inj h
  injection e with e
  rw [← e]
  exact (zcA hd).1
 cases (Prod.mk.inj h).1
def FS (N : List Nd) (L : List Nat) (nn : Nat) (Al : Option Addr) (cl : Nat) (As : Option Addr) (cs B1 B2 : Nat) (W : World) (j : Nat) (w' : World) : Prop:=∃ M S,runF N (L.take j) = (M,S) ∧ FI N (fun q => L.idxOf q) j M S ∧ w'.ownsRow B1 43 4 (.slice Al nn cl) nn (M.flatMap ndC) ∧ w'.ownsRow B2 3 1 (.slice As nn cs) nn ((rS L nn j S).flatMap inC) ∧ Below W.heap.size W w'
theorem look_stay (M : List Nd) (S : List Int) (p : Int) {x : Nd} (h : x.k = 0 ∨ isIO x) : zbn M p 4 (zaG S x) = (x,p):=by
 rcases h with h | h
 ·have hu : zaG S x = x:=by
   unfold zaG
   rw [if_neg (by omega),if_neg (by omega),if_neg (by omega)]
  rw [hu]
  have hc : zbe M x p = (x,p):=by
   unfold zbe
   rw [h]
   rfl
  unfold zbn
  rw [hc,if_pos ((zaE _ _).2 rfl)]
 exact look_io M S p h
theorem fold_stay {N : List Nd} {I O : List Pt} {dd L : List Nat} (lx : LvN N I O dd L) {nn j q : Nat} (hn : N.length = nn) (hq : L[j]? = some q) {M : List Nd} {S : List Int} (hrun : runF N (L.take j) = (M,S)) (FJ : FI N (fun q => L.idxOf q) j M S) {x : Nd} (hx : M.getD q nd0 = x) (hk : ¬ (2 ≤ x.k ∧ x.k ≤ 6)) :
  runF N (L.take (j + 1)) = (M,S.set q (q : Int)) ∧ FI N (fun q => L.idxOf q) (j + 1) M (S.set q (q : Int)) ∧ rS L nn (j + 1) (S.set q (q : Int)) = rS L nn j S:=by
 have H1 : q < N.length:=(lx.mem q).1 (List.mem_of_getElem? hq)
 have hi : L.idxOf q = j:=zdE lx.nd hq
 have e0:=FJ.old q H1 (by show j ≤ L.idxOf q; omega)
 have hm : N.getD q nd0 ∈ N:=by
  rw [List.getD_eq_getElem?_getD,List.getElem?_eq_getElem H1]
  exact List.getElem_mem H1
 have hf:=List.all_eq_true.1 lx.fm _ hm
 rw [← e0,hx] at hf
 have hkd : x.k = 0 ∨ isIO x:=by
  unfold zaf at hf
  have h1:=(Bool.and_eq_true_iff.1 hf).1
  unfold za8 at h1
  unfold isIO
  simp at h1
  omega
 have hl:=look_stay M S (q : Int) hkd
 have hs : M.set q x = M:=by
  have hql : q < M.length:=by rw [FJ.lm]; exact H1
  rw [← hx,List.getD_eq_getElem?_getD,List.getElem?_eq_getElem hql]
  exact List.set_getElem_self hql
 have h1:=zde N hq
 rw [hrun] at h1
 have h2:=FJ.step lx.pos H1 hi (r:=(x,(q : Int))) (by rw [hx]; exact hl)
 have h2' : FI N (fun q => L.idxOf q) (j + 1) (M.set q x) (S.set q (q : Int)):=h2
 rw [hs] at h2'
 refine ⟨?_,h2',?_⟩
 ·rw [h1]
  unfold stepF
  dsimp only
  rw [hx,hl]
  dsimp only
  rw [hs]
 have H0 : q < nn:=by omega
 rw [zea lx.nd hq H0 (by rw [FJ.ls]; exact hn) _,ze4 lx.nd hq H0]
theorem fold_gate {N : List Nd} {I O : List Pt} {dd L : List Nat} (lx : LvN N I O dd L) {nn j q : Nat} (hn : N.length = nn) (hq : L[j]? = some q) {M : List Nd} {S : List Int} (hrun : runF N (L.take j) = (M,S)) (FJ : FI N (fun q => L.idxOf q) j M S) {x : Nd} (hx : M.getD q nd0 = x) (hk : 2 ≤ x.k ∧ x.k ≤ 6) :
  Plc nn (zag x) ∧ Plc nn (zag (rY (rS L nn j S) x)) ∧ (∀ y ∈ zag (rY (rS L nn j S) x),Wk12 M y) ∧ ∀ r,zbn M (q : Int) 4 (rY (rS L nn j S) x) = r → runF N (L.take (j + 1)) = (M.set q r.1,S.set q r.2) ∧ FI N (fun q => L.idxOf q) (j + 1) (M.set q r.1) (S.set q r.2) ∧ rS L nn (j + 1) (S.set q r.2) = (rS L nn j S).set q r.2:=by
 subst hn
 have H0 : q < N.length:=(lx.mem q).1 (List.mem_of_getElem? hq)
 have hi : L.idxOf q = j:=zdE lx.nd hq
 have hio : ¬ isIO (N.getD q nd0):=by
  have e0:=FJ.old q H0 (by show j ≤ L.idxOf q; omega)
  rw [← e0,hx]
  unfold isIO
  omega
 obtain ⟨e0,g1,g2⟩:=FJ.gate lx.pos H0 hi hio
 rw [← e0,hx] at g1 g2
 have hy : rY (rS L N.length j S) x = zaG S x:=rY_uses (P:=Pr N.length (fun q => L.idxOf q) j) g1 (by omega) fun y hy => rS_sA hy
 rw [hy]
 refine ⟨fun y h => ?_,fun y h => ?_,fun y h => FJ.wk (g2.uses y h),fun r hr => ⟨?_,FJ.step lx.pos H0 hi (by rw [hx]; exact hr),zea lx.nd hq H0 FJ.ls _⟩⟩
 ·obtain ⟨m,e,hm,_⟩:=(g1.uses y h).nat
  exact ⟨m,e,hm⟩
 ·obtain ⟨m,e,hm,_⟩:=(g2.uses y h).nat
  exact ⟨m,e,hm⟩
 have h1:=zde N hq
 rw [hrun] at h1
 rw [h1]
 unfold stepF
 dsimp only
 rw [hx,hr]
theorem rlook_26 (M : List Nd) {x : Nd} (h2 : 2 ≤ x.k) (h6 : x.k ≤ 6) : (zan M x).1.k = 0 ∨ (2 ≤ (zan M x).1.k ∧ (zan M x).1.k ≤ 6):=by
 have key : ∀ P : Nd × Int → Prop,(∀ v i,P (zaw v,i)) → (∀ a i,P (notN a,i)) → (∀ a b i,P (⟨3,a,b,0⟩,i)) → (∀ a b i,P (⟨4,a,b,0⟩,i)) → (∀ i,P (x,i)) → P (zan M x):=by
  intro P h1 h2 h3 h4 h5
  have ao : ∀ r,P (rao M x r):=fun r => by
   unfold rao
   repeat' split
   all_goals first | exact h1 _ _ | exact h5 _
  unfold zan
  by_cases k2 : x.k = 2
  ·rw [if_pos k2]
   unfold rnot
   repeat' split
   all_goals first | exact h1 _ _ | exact h5 _
  rw [if_neg k2]
  by_cases k3 : x.k = 3
  ·rw [if_pos k3]
   exact ao 0
  rw [if_neg k3]
  by_cases k4 : x.k = 4
  ·rw [if_pos k4]
   exact ao 1
  rw [if_neg k4]
  by_cases k5 : x.k = 5
  ·rw [if_pos k5]
   unfold rxor
   repeat' split
   all_goals first | exact h1 _ _ | exact h2 _ _ | exact h5 _
  rw [if_neg k5]
  by_cases k6 : x.k = 6
  ·rw [if_pos k6]
   unfold rmux
   repeat' split
   all_goals first | exact h2 _ _ | exact h3 _ _ _ | exact h4 _ _ _ | exact h5 _
  rw [if_neg k6]
  exact h5 _
 refine key (fun r => r.1.k = 0 ∨ (2 ≤ r.1.k ∧ r.1.k ≤ 6)) (fun v i => .inl rfl) (fun a i => .inr ⟨?_,?_⟩) (fun a b i => .inr ⟨?_,?_⟩) (fun a b i => .inr ⟨?_,?_⟩) (fun i => .inr ⟨h2,h6⟩)
 all_goals first | (show (2 : Int) ≤ 2; omega) | (show (2 : Int) ≤ 6; omega) | (show (2 : Int) ≤ 3; omega) | (show (3 : Int) ≤ 6; omega) | (show (2 : Int) ≤ 4; omega) | (show (4 : Int) ≤ 6; omega)
def muK (s : Nat) (w : World) : Nat:=match w.cell? ⟨s,0,none⟩ with
 | some (.int _ k) => rk ⟨k,0,0,0⟩
 | _ => 0
theorem rk_k (x : Nd) : rk x = rk ⟨x.k,0,0,0⟩:=rfl
theorem muK_of {s : Nat} {w : World} {x : Nd} (h : Own w s 43 (ndC x)) : muK s w = rk x:=by
 have:=h.cell 0
 unfold muK
 rw [this]
 exact (rk_k x).symm
theorem rk_4 (x : Nd) : rk x < 4:=by
 unfold rk
 repeat' split
 all_goals omega
structure LKs (M : List Nd) (nn : Nat) (q : Int) (r : Nd × Int) (sy : Nat) (w : World) (y : Nd) (d : Nat) : Prop where
  own : Own w sy 43 (ndC y)
  k2 : 2 ≤ y.k
  k6 : y.k ≤ 6
  pl : Plc nn (zag y)
  wk : ∀ u ∈ zag y,Wk12 M u
  rd : rk y < d
  eq : zbn M q d y = r
theorem LKs.on {M : List Nd} {nn : Nat} {q : Int} {r : Nd × Int} {sy : Nat} {w w' : World} {y : Nd} {d : Nat} (h : LKs M nn q r sy w y d) (hb : Below w.heap.size w w') : LKs M nn q r sy w' y d:=⟨h.own.below hb h.own.lt,h.k2,h.k6,h.pl,h.wk,h.rd,h.eq⟩
theorem LKs.stop {M : List Nd} {nn : Nat} {q : Int} {r : Nd × Int} {sy : Nat} {w : World} {y : Nd} {d : Nat} (h : LKs M nn q r sy w y d) (he : (zan M y).1.k = y.k ∨ (zan M y).1.k = 0) : r = stP q (zan M y):=by
 rw [← h.eq]
 exact lookL_end h.rd h.wk he
theorem LKs.more {M : List Nd} {nn : Nat} {q : Int} {r : Nd × Int} {sy : Nat} {w w' : World} {y : Nd} {d : Nat} (h : LKs M nn q r sy w y d) (he : (zan M y).1.k ≠ y.k) (h0 : (zan M y).1.k ≠ 0) (ho : Own w' sy 43 (ndC (zan M y).1)) : (zan M y).2 = -1 ∧ LKs M nn q r sy w' (zan M y).1 (d - 1) ∧ muK sy w' < muK sy w:=by
 obtain ⟨h1,h2,h3,h4⟩:=lookL_on (p:=q) h.rd h.wk he
 rcases rlook_26 M h.k2 h.k6 with e | ⟨e1,e2⟩
 ·exact absurd e h0
 refine ⟨h1,⟨ho,e1,e2,fun u hu => h.pl u (h3 u hu),fun u hu => h.wk u (h3 u hu),by have:=h.rd; omega,by rw [← h4]; exact h.eq⟩,?_⟩
 rw [muK_of ho,muK_of h.own]
 exact h2
theorem row_first {w : World} {g m : Nat} {xs : List Int} (h : Own w g 3 (xs.flatMap inC)) (hm : m ≤ xs.length) (hx : xs.length ≤ 1000) : w.ownsRow g 3 1 (.slice (some ⟨g,0,none⟩) m xs.length) m ((xs.take m).flatMap inC):=by
 have hl : ∀ L : List Int,(L.flatMap inC).length = L.length:=fun L => by rw [zas inC 1 zaC,Nat.mul_one]
 refine ⟨by rw [hl,List.length_take]; omega,.inr ⟨g,xs.length,(xs.flatMap inC).toArray,rfl,Nat.le_refl _,h,hm,by unfold maxLen; omega,by simp [hl],?_⟩⟩
 rw [Nat.mul_one]
 show (xs.flatMap inC).take m = _
 have hI : ∀ (L : List Int) (m : Nat),(L.flatMap inC).take m = (L.take m).flatMap inC:=by
  intro L
  induction L with
  | nil => intro m; simp
  | cons a L ih =>
   intro m
   cases m with
   | zero => simp
   | succ m =>
    rw [List.flatMap_cons,List.take_succ_cons,List.flatMap_cons,← ih m]
    rfl
 exact hI xs m
theorem row_bx {w : World} {base n : Nat} {v : Value} {xs : List Value} (h : w.ownsRow base 3 1 v n xs) (hn : 0 < n) : ∃ g c,v = .slice (some ⟨g,0,none⟩) n c ∧ base ≤ g ∧ Bx w g xs:=by
 obtain ⟨A,c,e,_,hb,hc⟩:=zaP h
 have hl : xs.length = n:=by have:=h.1; omega
 obtain ⟨u,hu⟩ : ∃ u,xs[0]? = some u:=⟨_,List.getElem?_eq_getElem (by omega)⟩
 obtain ⟨g,eA,hg,_⟩:=hc 0 u hu
 refine ⟨g,c,by rw [e,eA],(hb g 0 eA).1,hg,fun i u hu => ?_⟩
 obtain ⟨g',eA',_,k⟩:=hc i u hu
 rw [eA] at eA'
 injection eA' with eA'
 injection eA' with eA'
 rw [eA']
 exact k
theorem zeP : ∀ (M : List Nd) (q : Nat) {x : Nd} (a : Int),M[q]? = some x → (M.flatMap ndC).set (q * 4 + 1) (.int .i64 a) = (M.set q ⟨x.k,a,x.b,x.c⟩).flatMap ndC
 | [],q,x,a,h => by simp at h
 | y :: M,0,x,a,h => by
  simp at h
  subst h
  simp [ndC]
 | y :: M,q + 1,x,a,h => by
  have ih:=zeP M q a (by simpa using h)
  rw [show (q + 1) * 4 + 1 = (q * 4 + 1) + 4 by omega,List.set_cons_succ,List.flatMap_cons,List.flatMap_cons,← ih]
  rfl
structure Rr (W w : World) (B1 B2 b0 cl b1 cs nn : Nat) (M : List Nd) (R : List Int) : Prop where
  rn : w.ownsRow B1 43 4 (.slice (some ⟨b0,0,none⟩) nn cl) nn (M.flatMap ndC)
  rs : w.ownsRow B2 3 1 (.slice (some ⟨b1,0,none⟩) nn cs) nn (R.flatMap inC)
  bl : Below W.heap.size W w
  h1 : W.heap.size ≤ B1
  h2 : W.heap.size ≤ B2
section
variable {W w w' : World} {B1 B2 b0 cl b1 cs nn : Nat} {M : List Nd} {R : List Int}
theorem Rr.on (h : Rr W w B1 B2 b0 cl b1 cs nn M R) (hb : Below w.heap.size w w') : Rr W w' B1 B2 b0 cl b1 cs nn M R:=⟨zam h.rn hb,zam h.rs hb,Below.step h.bl hb,h.h1,h.h2⟩
theorem Rr.lm (h : Rr W w B1 B2 b0 cl b1 cs nn M R) : M.length = nn:=by
 have:=h.rn.1
 rw [zas ndC 4 za1] at this
 omega
theorem Rr.lr (h : Rr W w B1 B2 b0 cl b1 cs nn M R) : R.length = nn:=by
 have:=h.rs.1
 rw [zas inC 1 zaC] at this
 omega
theorem Rr.ns (h : Rr W w B1 B2 b0 cl b1 cs nn M R) : Ns w (some ⟨b0,0,none⟩) nn M:=by
 obtain ⟨A,c,e,_,_,hs⟩:=zbj h.rn
 injection e with e1 e2 e3
 rw [e1]
 exact hs
theorem Rr.is (h : Rr W w B1 B2 b0 cl b1 cs nn M R) : Is w (some ⟨b1,0,none⟩) nn R:=by
 obtain ⟨A,c,e,_,_,hs⟩:=za4 h.rs
 injection e with e1 e2 e3
 rw [e1]
 exact hs
theorem Rr.lt0 (h : Rr W w B1 B2 b0 cl b1 cs nn M R) : W.heap.size ≤ b0 ∧ b0 < w.heap.size:=by
 have:=h.rn.lt b0 rfl
 have:=h.h1
 omega
theorem Rr.lt1 (h : Rr W w B1 B2 b0 cl b1 cs nn M R) : W.heap.size ≤ b1 ∧ b1 < w.heap.size:=by
 have:=h.rs.lt b1 rfl
 have:=h.h2
 omega
theorem Rr.ne (h : Rr W w B1 B2 b0 cl b1 cs nn M R) : b0 ≠ b1:=by
 obtain ⟨_,k0,_⟩:=zaJ h.rn
 obtain ⟨_,k1,_⟩:=zaJ h.rs
 exact zaK k0 k1 (by decide)
theorem Rr.sc (h : Rr W w B1 B2 b0 cl b1 cs nn M R) {m : Nat} (hm : m < nn) : w.cell? ⟨b1,m,none⟩ = some (.int .i64 (R.getD m 0)):=by
 have hl:=h.lr
 have hi : m < R.length:=by omega
 refine (h.rs.cellAt m (by omega)).trans ?_
 have e:=zap inC 1 zaC R m 0 (by omega)
 rw [Nat.mul_one,Nat.add_zero,List.getElem?_eq_getElem hi] at e
 rw [e,List.getD_eq_getElem?_getD,List.getElem?_eq_getElem hi]
 rfl
theorem Rr.nat (h : Rr W w B1 B2 b0 cl b1 cs nn M R) {q : Nat} (hq : q < nn) {x : Nd} (hx : M.getD q nd0 = x) : NAt w b0 (q * 4) x.k x.a x.b x.c ∧ M[q]? = some x:=by
 obtain ⟨b,off,x1,x2,x3,x4,e,HX,hA⟩:=h.ns.nat hq
 have e1:=HX.out
 rw [List.getD_eq_getElem?_getD,e1] at hx
 subst hx
 injection e with e
 injection e with e e'
 subst e e'
 rw [Nat.zero_add] at hA
 exact ⟨hA,e1⟩
theorem Rr.putI (h : Rr W w B1 B2 b0 cl b1 cs nn M R) (q : Nat) (s : Int) : Rr W (w.setCell ⟨b1,q,none⟩ (.int .i64 s)) B1 B2 b0 cl b1 cs nn M (R.set q s):=by
 have R1:=h.rs.stored q (.int .i64 s)
 have RS:=R1.1
 rw [zca] at RS
 refine ⟨h.rn.kept R1.2 (.inr fun e => ?_),RS,h.bl.setCell (p:=⟨b1,q,none⟩) h.lt1.1 (.int .i64 s),h.h1,h.h2⟩
 unfold Value.ownBlock at e
 injection e with e
 exact h.ne e
theorem Rr.putN (h : Rr W w B1 B2 b0 cl b1 cs nn M R) (q : Nat) (a b c d : Int) : Rr W ((((w.setCell ⟨b0,q * 4,none⟩ (.int .i64 a)).setCell ⟨b0,q * 4 + 1,none⟩ (.int .i64 b)).setCell ⟨b0,q * 4 + 2,none⟩ (.int .i64 c)).setCell ⟨b0,q * 4 + 3,none⟩ (.int .i64 d)) B1 B2 b0 cl b1 cs nn (M.set q ⟨a,b,c,d⟩) R:=by
 have R1:=h.rn.stored (q * 4) (.int .i64 a)
 have R2:=R1.1.stored (q * 4 + 1) (.int .i64 b)
 have R3:=R2.1.stored (q * 4 + 2) (.int .i64 c)
 have R4:=R3.1.stored (q * 4 + 3) (.int .i64 d)
 have RN:=R4.1
 rw [zcO] at RN
 have H0 : (Value.slice (some ⟨b1,0,none⟩) nn cs).ownBlock = none ∨ (Value.slice (some ⟨b1,0,none⟩) nn cs).ownBlock ≠ some b0:=.inr (fun e => by
  unfold Value.ownBlock at e
  injection e with e
  exact h.ne e.symm)
 exact ⟨RN,(((h.rs.kept R1.2 H0).kept R2.2 H0).kept R3.2 H0).kept R4.2 H0,(((h.bl.setCell (p:=⟨b0,q * 4,none⟩) h.lt0.1 (.int .i64 a)).setCell (p:=⟨b0,q * 4 + 1,none⟩) h.lt0.1 (.int .i64 b)).setCell (p:=⟨b0,q * 4 + 2,none⟩) h.lt0.1 (.int .i64 c)).setCell (p:=⟨b0,q * 4 + 3,none⟩) h.lt0.1 (.int .i64 d),h.h1,h.h2⟩
theorem Rr.putA (h : Rr W w B1 B2 b0 cl b1 cs nn M R) (q : Nat) {x : Nd} (hx : M[q]? = some x) (a : Int) : Rr W (w.setCell ⟨b0,q * 4 + 1,none⟩ (.int .i64 a)) B1 B2 b0 cl b1 cs nn (M.set q ⟨x.k,a,x.b,x.c⟩) R:=by
 have R1:=h.rn.stored (q * 4 + 1) (.int .i64 a)
 have RN:=R1.1
 rw [zeP M q a hx] at RN
 refine ⟨RN,h.rs.kept R1.2 (.inr fun e => ?_),h.bl.setCell (p:=⟨b0,q * 4 + 1,none⟩) h.lt0.1 (.int .i64 a),h.h1,h.h2⟩
 unfold Value.ownBlock at e
 injection e with e
 exact h.ne e.symm
theorem Rr.other (h : Rr W w B1 B2 b0 cl b1 cs nn M R) {g : Nat} (g0 : g ≠ b0) (g1 : g ≠ b1) (hg : W.heap.size ≤ g) (o : Nat) (u : Value) : Rr W (w.setCell ⟨g,o,none⟩ u) B1 B2 b0 cl b1 cs nn M R:=
 ⟨zbp h.rn (fun e => by unfold Value.ownBlock at e; injection e with e; exact g0 e.symm) o u,zbp h.rs (fun e => by unfold Value.ownBlock at e; injection e with e; exact g1 e.symm) o u,h.bl.setCell (p:=⟨g,o,none⟩) hg u,h.h1,h.h2⟩
theorem Rr.fr1 (h : Rr W w B1 B2 b0 cl b1 cs nn M R) (j : Nat) : w.frozen? ⟨b1,j,none⟩ = false:=h.rs.frozenAt j
theorem Rr.fr0 (h : Rr W w B1 B2 b0 cl b1 cs nn M R) (j : Nat) : w.frozen? ⟨b0,j,none⟩ = false:=h.rn.frozenAt j
theorem rr_of {Al As : Option Addr} (rn : w.ownsRow B1 43 4 (.slice Al nn cl) nn (M.flatMap ndC)) (rs : w.ownsRow B2 3 1 (.slice As nn cs) nn (R.flatMap inC)) (bl : Below W.heap.size W w) (h1 : W.heap.size ≤ B1) (h2 : W.heap.size ≤ B2) (hn : 0 < nn) : ∃ b0 b1,Al = some ⟨b0,0,none⟩ ∧ As = some ⟨b1,0,none⟩ ∧ Rr W w B1 B2 b0 cl b1 cs nn M R:=by
 have k : ∀ {e : TypeId} {sz B c : Nat} {A : Option Addr} {xs : List Value},w.ownsRow B e sz (.slice A nn c) nn xs → ∃ b,A = some ⟨b,0,none⟩:=fun h => by
  rcases h.2 with ⟨_,e⟩ | ⟨g,_,_,e,_⟩
  ·omega
  injection e with e
  exact ⟨g,e⟩
 obtain ⟨b0,rfl⟩:=k rn
 obtain ⟨b1,rfl⟩:=k rs
 exact ⟨b0,b1,rfl,rfl,rn,rs,bl,h1,h2⟩
end
theorem dff_look {N : List Nd} {I O : List Pt} {dd L : List Nat} (lx : LvN N I O dd L) {pos : Nat → Nat} {i : Nat} {M : List Nd} {S : List Int} (h : RwN N pos i M S) (hall : ∀ q,q < N.length → pos q < i) {q : Nat} (hq : q < N.length) (h7 : (M.getD q nd0).k = 7) : ∃ m : Nat,(M.getD q nd0).a = (m : Int) ∧ m < N.length:=by
 by_cases hio : isIO (N.getD q nd0)
 ·have e:=(h.io q hq (hall q hq) hio).1
  rw [e] at h7 ⊢
  have hm : N.getD q nd0 ∈ N:=by
   rw [List.getD_eq_getElem?_getD,List.getElem?_eq_getElem hq]
   exact List.getElem_mem hq
  exact zcE (List.all_eq_true.1 lx.fm _ hm) h7
 rcases (h.ok q hq (hall q hq) hio).kd with ⟨e,_⟩ | ⟨e,_⟩ | ⟨e,_⟩ | ⟨e,_⟩ <;> omega
def FD (M : List Nd) (S : List Int) (nn : Nat) (Al : Option Addr) (cl : Nat) (As : Option Addr) (cs B1 B2 : Nat) (W : World) (i : Nat) (w' : World) : Prop:=w'.ownsRow B1 43 4 (.slice Al nn cl) nn ((mixF (dffS S) i M).flatMap ndC) ∧ w'.ownsRow B2 3 1 (.slice As nn cs) nn (S.flatMap inC) ∧ Below W.heap.size W w'
theorem FS.fd {N : List Nd} {I O : List Pt} {dd L : List Nat} (lx : LvN N I O dd L) {nn : Nat} (hn : N.length = nn) {Al As : Option Addr} {cl cs B1 B2 : Nat} {W w : World} (h : FS N L nn Al cl As cs B1 B2 W L.length w) : ∃ M S,runF N L = (M,S) ∧ FI N (fun q => L.idxOf q) L.length M S ∧ FD M S nn Al cl As cs B1 B2 W 0 w:=by
 obtain ⟨M,S,h1,h2,h3,h4,h5⟩:=h
 rw [List.take_length] at h1
 refine ⟨M,S,h1,h2,by rw [ze9]; exact h3,?_,h5⟩
 rw [rS_all (by rw [h2.ls]; exact hn) fun q hq => (lx.mem q).2 (by omega)] at h4
 exact h4
theorem dff_mix (M : List Nd) (S : List Int) {i : Nat} {x : Nd} (hx : M[i]? = some x) (h7 : x.k = 7) : mixF (dffS S) (i + 1) M = (mixF (dffS S) i M).set i ⟨x.k,sA S x.a,x.b,x.c⟩:=by
 rw [zbK _ hx]
 unfold dffS
 rw [if_pos h7]
theorem dff_mix0 (M : List Nd) (S : List Int) {i : Nat} {x : Nd} (hx : M[i]? = some x) (h7 : x.k ≠ 7) : mixF (dffS S) (i + 1) M = mixF (dffS S) i M:=by
 rw [zbK _ hx]
 have hl : i < M.length:=(List.getElem?_eq_some_iff.1 hx).1
 have e:=zbJ (dffS S) hl
 rw [hx] at e
 obtain ⟨h1,h2⟩:=List.getElem?_eq_some_iff.1 e
 unfold dffS
 rw [if_neg h7]
 conv => lhs; rw [← h2]
 exact List.set_getElem_self h1
def FdS (s : Nat) (Ai : Option Addr) (ni ci no : Nat) (M : List Nd) (S : List Int) (I O : List Pt) (nn : Nat) (en : Ending) (w' : World) : Prop:=∃ Al cl As cs Bo do',en = .returned (.tuple #[.agg #[.slice Al nn cl,.slice Ai ni ci,.slice Bo no do'],.slice As nn cs,.int .i64 0]) ∧ Nt w' Al nn cl Ai ni ci Bo no do' (M.map (dffS S)) I (O.map (outF S)) ∧ Sw Al nn cl ∧ AdOk (s ≤ ·) Al ∧ PsH s w' Bo no (O.map (outF S)) ∧ Is w' As nn S ∧ AdOk (s ≤ ·) As
theorem uses_m0 {k a b c : Int} {mu : Nat} (h : mu = zau k) (h1 : 1 ≤ mu) : a ∈ zag ⟨k,a,b,c⟩:=by
 rw [zbt,← h]
 obtain ⟨m,rfl⟩ : ∃ m,mu = m + 1:=⟨mu - 1,by omega⟩
 simp
theorem uses_m1 {k a b c : Int} {mu : Nat} (h : mu = zau k) (h1 : 2 ≤ mu) : b ∈ zag ⟨k,a,b,c⟩:=by
 rw [zbt,← h]
 obtain ⟨m,rfl⟩ : ∃ m,mu = m + 1 + 1:=⟨mu - 2,by omega⟩
 simp
theorem uses_m2 {k a b c : Int} {mu : Nat} (h : mu = zau k) (h1 : 3 ≤ mu) : c ∈ zag ⟨k,a,b,c⟩:=by
 rw [zbt,← h]
 obtain ⟨m,rfl⟩ : ∃ m,mu = m + 1 + 1 + 1:=⟨mu - 3,by omega⟩
 simp
theorem bx_m0 {w : World} {g : Nat} {a b c : Int} {mu : Nat} {vs : List Value} (h : Bx w g (([a,b,c].take mu).flatMap inC ++ vs)) (h1 : 1 ≤ mu) : w.cell? ⟨g,0,none⟩ = some (.int .i64 a):=by
 obtain ⟨m,rfl⟩ : ∃ m,mu = m + 1:=⟨mu - 1,by omega⟩
 exact h.2 0 _ rfl
theorem bx_m1 {w : World} {g : Nat} {a b c : Int} {mu : Nat} {vs : List Value} (h : Bx w g (([a,b,c].take mu).flatMap inC ++ vs)) (h1 : 2 ≤ mu) : w.cell? ⟨g,1,none⟩ = some (.int .i64 b):=by
 obtain ⟨m,rfl⟩ : ∃ m,mu = m + 1 + 1:=⟨mu - 2,by omega⟩
 exact h.2 1 _ rfl
theorem bx_m2 {w : World} {g : Nat} {a b c : Int} {mu : Nat} {vs : List Value} (h : Bx w g (([a,b,c].take mu).flatMap inC ++ vs)) (h1 : 3 ≤ mu) : w.cell? ⟨g,2,none⟩ = some (.int .i64 c):=by
 obtain ⟨m,rfl⟩ : ∃ m,mu = m + 1 + 1 + 1:=⟨mu - 3,by omega⟩
 exact h.2 2 _ rfl
theorem many_26 {k : Int} {mu : Nat} (h : mu = zau k) (h2 : 2 ≤ k) (h6 : k ≤ 6) : (k = 2 ∧ mu = 1) ∨ (3 ≤ k ∧ k < 6 ∧ mu = 2) ∨ (k = 6 ∧ mu = 3):=by
 rcases (show k = 2 ∨ k = 3 ∨ k = 4 ∨ k = 5 ∨ k = 6 by omega) with rfl | rfl | rfl | rfl | rfl
 ·exact .inl ⟨rfl,h⟩
 ·exact .inr (.inl ⟨by omega,by omega,h⟩)
 ·exact .inr (.inl ⟨by omega,by omega,h⟩)
 ·exact .inr (.inl ⟨by omega,by omega,h⟩)
 exact .inr (.inr ⟨rfl,h⟩)
end Go.Proofs.Ytcehklnonhalhaa
