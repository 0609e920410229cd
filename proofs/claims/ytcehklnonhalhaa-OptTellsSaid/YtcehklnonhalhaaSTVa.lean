/-
  What the proofs of OptTells need: Va Vb.
-/
import Derived.Test.YtcehklnonhalhaaSTYr
import Derived.Test.YtcehklnonhalhaaSTYj
set_option linter.unusedVariables false
namespace Go.Proofs.Ytcehklnonhalhaa
set_option maxRecDepth 4000
def keyS (x : Nd) : Nd:=if x.k = 3 ∨ x.k = 4 ∨ x.k = 5 then ⟨x.k,min x.a x.b,max x.a x.b,x.c⟩ else x
theorem keyS_k (x : Nd) : (keyS x).k = x.k:=by unfold keyS; split <;> rfl
theorem keyS_idem (x : Nd) : keyS (keyS x) = keyS x:=by
 unfold keyS
 by_cases h : x.k = 3 ∨ x.k = 4 ∨ x.k = 5
 ·rw [if_pos h,if_pos h]
  have e1 : min (min x.a x.b) (max x.a x.b) = min x.a x.b:=by omega
  have e2 : max (min x.a x.b) (max x.a x.b) = max x.a x.b:=by omega
  simp only [e1,e2]
 rw [if_neg h,if_neg h]
theorem keyS_uses (x : Nd) (y : Int) : y ∈ zag (keyS x) ↔ y ∈ zag x:=by
 by_cases h : x.k = 3 ∨ x.k = 4 ∨ x.k = 5
 ·rw [zay h,zay (x:=keyS x) (by rw [keyS_k]; exact h)]
  unfold keyS
  rw [if_pos h]
  simp only [List.mem_cons,List.not_mem_nil,or_false]
  rcases Int.le_total x.a x.b with e | e
  ·rw [Int.min_eq_left e,Int.max_eq_right e]
  rw [Int.min_eq_right e,Int.max_eq_left e]
  exact Or.comm
 unfold keyS
 rw [if_neg h]
theorem keyS_ok {P : Int → Prop} {x : Nd} (h : Ok P x) : Ok P (keyS x):=by
 by_cases hk : x.k = 3 ∨ x.k = 4 ∨ x.k = 5
 ·obtain ⟨ha,hb⟩:=two_of h hk
  have hc : x.c = 0:=by
   rcases h.kd with ⟨e,_⟩ | ⟨e,_⟩ | ⟨e,_,_,e2⟩ | ⟨e,_⟩
   ·omega
   ·omega
   ·exact e2
   omega
  refine ⟨.inr (.inr (.inl ⟨by rw [keyS_k]; exact hk,?_,?_,?_⟩))⟩ <;> unfold keyS <;> rw [if_pos hk]
  ·show P (min x.a x.b)
   rcases Int.le_total x.a x.b with e | e
   ·rw [Int.min_eq_left e]; exact ha
   rw [Int.min_eq_right e]; exact hb
  ·show P (max x.a x.b)
   rcases Int.le_total x.a x.b with e | e
   ·rw [Int.max_eq_right e]; exact hb
   rw [Int.max_eq_left e]; exact ha
  exact hc
 unfold keyS
 rw [if_neg hk]
 exact h
theorem keyS_vN (x : Nd) (u : List Int) : vN (keyS x) u = vN x u:=by
 by_cases hk : x.k = 3 ∨ x.k = 4 ∨ x.k = 5
 ·have ek:=keyS_k x
  have e : (keyS x).a = min x.a x.b ∧ (keyS x).b = max x.a x.b:=by unfold keyS; rw [if_pos hk]; exact ⟨rfl,rfl⟩
  rcases Int.le_total x.a x.b with g | g
  ·have : keyS x = x:=by
    unfold keyS
    rw [if_pos hk,Int.min_eq_left g,Int.max_eq_right g]
   rw [this]
  rw [Int.min_eq_right g,Int.max_eq_left g] at e
  rcases hk with k | k | k
  ·rw [vN_3 k,vN_3 (by rw [ek]; exact k),e.1,e.2,Int.min_comm]
  ·rw [vN_4 k,vN_4 (by rw [ek]; exact k),e.1,e.2,Int.max_comm]
  rw [vN_5 k,vN_5 (by rw [ek]; exact k),e.1,e.2,Int.add_comm]
 unfold keyS
 rw [if_neg hk]
theorem RwN.step {N : List Nd} {pos : Nat → Nat} {i : Nat} {M : List Nd} {S : List Int} (hp : Pos N pos) (h : RwN N pos i M S) {q : Nat} (hq : q < N.length) (hi : pos q = i) {m : Nd} {t : Int}
  (hio : isIO (N.getD q nd0) → m = N.getD q nd0 ∧ t = (q : Int)) (hok : ¬ isIO (N.getD q nd0) → Ok (Pr N.length pos i) m) (hst : t = (q : Int) ∨ (Pr N.length pos i t ∧ sA S t = t)) (hfx : ¬ isIO (N.getD q nd0) → ∀ y ∈ zag m,sA S y = y)
  (hva : ∀ s inn u,Sol N s inn u → v01 u → atI u t = u.getD q 0 ∧ (¬ isIO (N.getD q nd0) → vN m u = u.getD q 0)) : RwN N pos (i + 1) (M.set q m) (S.set q t):=by
 have eM : ∀ j,(M.set q m).getD j nd0 = if j = q then m else M.getD j nd0:=fun j => zaT M q m nd0 j (by rw [h.lm]; exact hq)
 have eS : ∀ j,(S.set q t).getD j 0 = if j = q then t else S.getD j 0:=fun j => zaT S q t 0 j (by rw [h.ls]; exact hq)
 have eq2 : sA (S.set q t) (q : Int) = t:=by
  unfold sA
  rw [Int.toNat_natCast,eS,if_pos rfl]
 have H0 : ∀ j,j < N.length → pos j < i + 1 → j = q ∨ (j ≠ q ∧ pos j < i):=fun j hj hp1 => by
  by_cases e : j = q
  ·exact .inl e
  refine .inr ⟨e,?_⟩
  have : pos j ≠ i:=fun k => e (hp.inj j q hj hq (k.trans hi.symm))
  omega
 have H1 : ∀ y k,k ≤ i → Pr N.length pos k y → sA (S.set q t) y = sA S y:=fun y k hk hy => by
  unfold sA
  rw [eS,if_neg]
  intro e
  have:=hy.2.2
  rw [e] at this
  omega
 refine ⟨by rw [List.length_set]; exact h.lm,by rw [List.length_set]; exact h.ls,fun j hj hpj k => ?_,fun j hj hpj k => ?_,fun j hj hpj => ?_,fun j hj hpj hs k => ?_,fun s inn u hs h01 j hj hpj => ?_⟩
 ·rw [eM,eS]
  rcases H0 j hj hpj with e | ⟨e,hpj⟩
  ·rw [if_pos e,if_pos e,e]; rw [e] at k; exact hio k
  rw [if_neg e,if_neg e]; exact h.io j hj hpj k
 ·rw [eM]
  rcases H0 j hj hpj with e | ⟨e,hpj⟩
  ·rw [if_pos e,e,hi]; rw [e] at k; exact hok k
  rw [if_neg e]; exact h.ok j hj hpj k
 ·rw [eS]
  rcases H0 j hj hpj with e | ⟨e,hpj⟩
  ·rw [if_pos e,e]
   rcases hst with g | ⟨g1,g2⟩
   ·have g3:=eq2
    rw [g] at g3 ⊢
    exact ⟨⟨by omega,by omega,by rw [Int.toNat_natCast]; omega⟩,g3⟩
   exact ⟨g1.le (by omega),by rw [H1 _ _ (Nat.le_refl _) g1]; exact g2⟩
  rw [if_neg e]
  obtain ⟨g1,g2⟩:=h.st j hj hpj
  exact ⟨g1,by rw [H1 _ _ (by omega) g1]; exact g2⟩
 ·rw [eM]
  rcases H0 j hj hpj with e | ⟨e,hpj⟩
  ·rw [if_pos e]
   rw [e] at k
   intro y hy
   rw [H1 y _ (Nat.le_refl _) ((hok k).uses y hy)]
   exact hfx k y hy
  rw [eS,if_neg e] at hs
  rw [if_neg e]
  intro y hy
  rw [H1 y _ (by omega) ((h.ok j hj hpj k).uses y hy)]
  exact h.fx j hj hpj hs k y hy
 rw [eM,eS]
 rcases H0 j hj hpj with e | ⟨e,hpj⟩
 ·rw [if_pos e,if_pos e,e]
  exact hva s inn u hs h01
 rw [if_neg e,if_neg e]
 exact h.va s inn u hs h01 j hj hpj
def putK (F : Nd → Option Nat) (x : Nd) (q : Nat) : Nd → Option Nat:=fun y => if za6 y x = true then some q else F y
theorem zdg (F : Nd → Option Nat) (x : Nd) (q : Nat) : putK F x q x = some q:=by
 unfold putK
 rw [if_pos ((zaE x x).2 rfl)]
theorem zcK (F : Nd → Option Nat) {x y : Nd} (q : Nat) (h : y ≠ x) : putK F x q y = F y:=by
 unfold putK
 rw [if_neg (fun e => h ((zaE y x).1 e))]
def zbi (t : List Nd × List Int × (Nd → Option Nat)) (q : Nat) : List Nd × List Int × (Nd → Option Nat):=
 if (t.1.getD q nd0).k = 1 ∨ (t.1.getD q nd0).k = 7 then (t.1,t.2.1.set q (q : Int),t.2.2)
 else match t.2.2 (keyS (zaG (t.2.1.set q (q : Int)) (t.1.getD q nd0))) with
  | some p => (t.1.set q (keyS (zaG (t.2.1.set q (q : Int)) (t.1.getD q nd0))),(t.2.1.set q (q : Int)).set q (p : Int),t.2.2)
  | none => (t.1.set q (keyS (zaG (t.2.1.set q (q : Int)) (t.1.getD q nd0))),t.2.1.set q (q : Int),putK t.2.2 (keyS (zaG (t.2.1.set q (q : Int)) (t.1.getD q nd0))) q)
structure SI (N : List Nd) (pos : Nat → Nat) (i : Nat) (M : List Nd) (S : List Int) (F : Nd → Option Nat) : Prop where
  rw : RwN N pos i M S
  old : ∀ q,q < N.length → i ≤ pos q → M.getD q nd0 = N.getD q nd0
  key : ∀ q,q < N.length → pos q < i → ¬ isIO (N.getD q nd0) → keyS (M.getD q nd0) = M.getD q nd0
  fir : ∀ x p,F x = some p → p < N.length ∧ pos p < i ∧ ¬ isIO (N.getD p nd0) ∧ M.getD p nd0 = x ∧ S.getD p 0 = (p : Int)
  all : ∀ q,q < N.length → pos q < i → ¬ isIO (N.getD q nd0) → ∃ p,F (M.getD q nd0) = some p ∧ S.getD q 0 = (p : Int)
theorem SI.start {N : List Nd} {pos : Nat → Nat} : SI N pos 0 N (List.replicate N.length 0) (fun _ => none):=
 ⟨⟨rfl,by simp,fun q _ h => by omega,fun q _ h => by omega,fun q _ h => by omega,fun q _ h => by omega,fun s inn u _ _ q _ h => by omega⟩,fun q _ _ => rfl,fun q _ h => by omega,fun x p h => (by cases h),fun q _ h => by omega⟩
theorem zd0 {N : List Nd} {pos : Nat → Nat} {i : Nat} {S : List Int} {x : Nd} (hx : Ok (Pr N.length pos i) x) {q : Nat} (hi : i ≤ pos q) (v : Int) : zaG (S.set q v) x = zaG S x:=by
 have H0 : ∀ y ∈ zag x,sA (S.set q v) y = sA S y:=fun y hy => by
  have hy:=hx.uses y hy
  unfold sA
  rw [List.getD_eq_getElem?_getD,List.getElem?_set_ne,List.getD_eq_getElem?_getD]
  intro e
  have:=hy.2.2
  rw [← e] at this
  omega
 unfold zaG
 split
 ·rename_i e
  rw [H0 x.a (by rw [zbA e]; simp)]
 split
 ·rename_i e
  rw [H0 x.a (by rw [zay e]; simp),H0 x.b (by rw [zay e]; simp)]
 split
 ·rename_i e
  rw [H0 x.a (by rw [zaN e]; simp),H0 x.b (by rw [zaN e]; simp),H0 x.c (by rw [zaN e]; simp)]
 rfl
theorem set_again (S : List Int) (q : Nat) (a b : Int) : (S.set q a).set q b = S.set q b:=by rw [List.set_set]
theorem set_old {N : List Nd} {M : List Nd} {q : Nat} (hq : q < M.length) (h : M.getD q nd0 = N.getD q nd0) : M.set q (N.getD q nd0) = M:=by
 rw [← h,List.getD_eq_getElem?_getD,List.getElem?_eq_getElem hq]
 exact List.set_getElem_self hq
theorem SI.step {N : List Nd} {pos : Nat → Nat} {i : Nat} {M : List Nd} {S : List Int} {F : Nd → Option Nat} (hp : Pos N pos) (h : SI N pos i M S F) {q : Nat} (hq : q < N.length) (hi : pos q = i) : SI N pos (i + 1) (zbi (M,S,F) q).1 (zbi (M,S,F) q).2.1 (zbi (M,S,F) q).2.2:=by
 have hlm:=h.rw.lm
 have H5:=h.rw.ls
 have H2:=h.old q hq (by omega)
 have H0 : ∀ j,j < N.length → pos j < i + 1 → j = q ∨ (j ≠ q ∧ pos j < i):=fun j hj hp1 => by
  by_cases e : j = q
  ·exact .inl e
  refine .inr ⟨e,?_⟩
  have : pos j ≠ i:=fun k => e (hp.inj j q hj hq (k.trans hi.symm))
  omega
 by_cases hio : isIO (N.getD q nd0)
 ·have e : zbi (M,S,F) q = (M,S.set q (q : Int),F):=by
   unfold zbi
   rw [if_pos (by rw [H2]; exact hio)]
  rw [e]
  have eS : ∀ j,(S.set q (q : Int)).getD j 0 = if j = q then (q : Int) else S.getD j 0:=fun j => zaT S q _ 0 j (by rw [H5]; exact hq)
  have R:=h.rw.step hp hq hi (m:=N.getD q nd0) (t:=(q : Int)) (fun _ => ⟨rfl,rfl⟩) (fun k => absurd hio k) (.inl rfl) (fun k => absurd hio k) (fun s inn u hs h01 => ⟨by unfold atI; rw [Int.toNat_natCast],fun k => absurd hio k⟩)
  rw [set_old (by rw [hlm]; exact hq) H2] at R
  refine ⟨R,fun j hj hpj => h.old j hj (by omega),fun j hj hpj k => ?_,fun x p hx => ?_,fun j hj hpj k => ?_⟩
  ·rcases H0 j hj hpj with e | ⟨e,hpj⟩
   ·rw [e] at k; exact absurd hio k
   exact h.key j hj hpj k
  ·obtain ⟨g1,g2,g3,g4,g5⟩:=h.fir x p hx
   refine ⟨g1,by omega,g3,g4,?_⟩
   rw [eS,if_neg (by intro e; rw [e] at g2; omega)]
   exact g5
  rcases H0 j hj hpj with e | ⟨e,hpj⟩
  ·rw [e] at k; exact absurd hio k
  obtain ⟨p,g1,g2⟩:=h.all j hj hpj k
  exact ⟨p,g1,by rw [eS,if_neg e]; exact g2⟩
 have H1:=hp.at hq hio
 rw [hi] at H1
 have hst : ∀ y ∈ zag (N.getD q nd0),Pr N.length pos i (sA S y) ∧ sA S (sA S y) = sA S y:=fun y hy => by
  obtain ⟨m,rfl,hm,hpm⟩:=(H1.uses y hy).nat
  obtain ⟨g1,g2⟩:=h.rw.st m hm (by omega)
  unfold sA at g2 ⊢
  rw [Int.toNat_natCast]
  exact ⟨g1.le (by omega),g2⟩
 obtain ⟨x,hx⟩ : ∃ x,keyS (zaG S (N.getD q nd0)) = x:=⟨_,rfl⟩
 have hxo : Ok (Pr N.length pos i) x:=hx ▸ keyS_ok (zda H1 fun y hy => (hst y hy).1)
 have hxk : keyS x = x:=by rw [← hx]; exact keyS_idem _
 have hxu : ∀ y ∈ zag x,sA S y = y:=fun y hy => by
  rw [← hx,keyS_uses,zdq S _ (fun e => hio (.inr e))] at hy
  obtain ⟨z,hz,rfl⟩:=List.mem_map.1 hy
  exact (hst z hz).2
 have H4 : ∀ s inn u,Sol N s inn u → v01 u → vN x u = u.getD q 0:=fun s inn u hs h01 => by
  rw [← hx,keyS_vN,vN_usesF H1 fun y hy => ?_]
  ·exact sol_vN hs hq hio
  obtain ⟨m,rfl,hm,hpm⟩:=(H1.uses y hy).nat
  have:=(h.rw.va s inn u hs h01 m hm (by omega)).1
  unfold sA
  rw [Int.toNat_natCast,this]
  unfold atI
  rw [Int.toNat_natCast]
 have ex : keyS (zaG (S.set q (q : Int)) (M.getD q nd0)) = x:=by rw [H2,zd0 H1 (by omega),hx]
 have eM : ∀ j,(M.set q x).getD j nd0 = if j = q then x else M.getD j nd0:=fun j => zaT M q x nd0 j (by rw [hlm]; exact hq)
 cases hF : F x with
 | some p =>
  have e : zbi (M,S,F) q = (M.set q x,S.set q (p : Int),F):=by
   unfold zbi
   rw [if_neg (by rw [H2]; exact hio)]
   simp only [ex,hF,List.set_set]
  rw [e]
  have eS : ∀ j,(S.set q (p : Int)).getD j 0 = if j = q then (p : Int) else S.getD j 0:=fun j => zaT S q _ 0 j (by rw [H5]; exact hq)
  obtain ⟨f1,f2,f3,f4,f5⟩:=h.fir x p hF
  have hpp : Pr N.length pos i (p : Int):=⟨by omega,by omega,by rw [Int.toNat_natCast]; exact f2⟩
  have R:=h.rw.step hp hq hi (m:=x) (t:=(p : Int)) (fun k => absurd k hio) (fun _ => hxo) (.inr ⟨hpp,by unfold sA; rw [Int.toNat_natCast]; exact f5⟩) (fun _ => hxu) (fun s inn u hs h01 => ⟨by
   have hv:=(h.rw.va s inn u hs h01 p f1 f2).2 f3
   rw [f4,H4 s inn u hs h01] at hv
   rw [hv]
   unfold atI
   rw [Int.toNat_natCast],fun _ => H4 s inn u hs h01⟩)
  refine ⟨R,fun j hj hpj => ?_,fun j hj hpj k => ?_,fun y r hy => ?_,fun j hj hpj k => ?_⟩
  ·rw [eM,if_neg (by intro e; rw [e] at hpj; omega)]
   exact h.old j hj (by omega)
  ·rw [eM]
   rcases H0 j hj hpj with e | ⟨e,hpj⟩
   ·rw [if_pos e]; exact hxk
   rw [if_neg e]; exact h.key j hj hpj k
  ·obtain ⟨g1,g2,g3,g4,g5⟩:=h.fir y r hy
   have H3 : r ≠ q:=by intro e; rw [e] at g2; omega
   refine ⟨g1,by omega,g3,?_,?_⟩
   ·rw [eM,if_neg H3]; exact g4
   rw [eS,if_neg H3]; exact g5
  rw [eM,eS]
  rcases H0 j hj hpj with e | ⟨e,hpj⟩
  ·rw [if_pos e,if_pos e]; exact ⟨p,hF,rfl⟩
  rw [if_neg e,if_neg e]; exact h.all j hj hpj k
 | none =>
  have e : zbi (M,S,F) q = (M.set q x,S.set q (q : Int),putK F x q):=by
   unfold zbi
   rw [if_neg (by rw [H2]; exact hio)]
   simp only [ex,hF]
  rw [e]
  have eS : ∀ j,(S.set q (q : Int)).getD j 0 = if j = q then (q : Int) else S.getD j 0:=fun j => zaT S q _ 0 j (by rw [H5]; exact hq)
  have R:=h.rw.step hp hq hi (m:=x) (t:=(q : Int)) (fun k => absurd k hio) (fun _ => hxo) (.inl rfl) (fun _ => hxu) (fun s inn u hs h01 => ⟨by unfold atI; rw [Int.toNat_natCast],fun _ => H4 s inn u hs h01⟩)
  refine ⟨R,fun j hj hpj => ?_,fun j hj hpj k => ?_,fun y r hy => ?_,fun j hj hpj k => ?_⟩
  ·rw [eM,if_neg (by intro e; rw [e] at hpj; omega)]
   exact h.old j hj (by omega)
  ·rw [eM]
   rcases H0 j hj hpj with e | ⟨e,hpj⟩
   ·rw [if_pos e]; exact hxk
   rw [if_neg e]; exact h.key j hj hpj k
  ·have hy : putK F x q y = some r:=hy
   by_cases ey : y = x
   ·subst ey
    rw [zdg] at hy
    injection hy with hy
    subst hy
    exact ⟨hq,by omega,hio,by rw [eM,if_pos rfl],by rw [eS,if_pos rfl]⟩
   rw [zcK _ _ ey] at hy
   obtain ⟨g1,g2,g3,g4,g5⟩:=h.fir y r hy
   have H3 : r ≠ q:=by intro e; rw [e] at g2; omega
   refine ⟨g1,by omega,g3,?_,?_⟩
   ·rw [eM,if_neg H3]; exact g4
   rw [eS,if_neg H3]; exact g5
  rw [eM,eS]
  rcases H0 j hj hpj with e | ⟨e,hpj⟩
  ·rw [if_pos e,if_pos e]; exact ⟨q,zdg F x q,rfl⟩
  rw [if_neg e,if_neg e]
  obtain ⟨p,g1,g2⟩:=h.all j hj hpj k
  exact ⟨p,(zcK F q (fun e2 => by rw [e2,hF] at g1; cases g1)).trans g1,g2⟩
open Go.RowKit
set_option maxRecDepth 4000
set_option maxHeartbeats 2000000 in
theorem key_n (k a b c : Int) (e3 : (k == 3) = false) (e4 : (k == 4) = false) (e5 : (k == 5) = false) (w : World) : Calls Try.prog 48 #[.agg #[.int .i64 k,.int .i64 a,.int .i64 b,.int .i64 c]] w fun e w' => e = .returned (.agg #[.int .i64 k,.int .i64 a,.int .i64 b,.int .i64 c]) ∧ Below w.heap.size w w':=by
 go_enter Try.func48,Try.ntmps48
 go_upto_region 1 with fail
 obtain ⟨w1,e1,z0,ZR,BW⟩:=zmE w [.int .i64 k,.int .i64 a,.int .i64 b,.int .i64 c] 43 [.int .i64 0,.int .i64 0,.int .i64 0,.int .i64 0] 43
 obtain ⟨s1,hs1⟩ : ∃ s1,w.heap.size + 1 = s1:=⟨_,rfl⟩
 obtain ⟨s0,hs0⟩ : ∃ s0,w.heap.size = s0:=⟨_,rfl⟩
 have hle : s0 ≤ s1:=by omega
 have hne : s0 ≠ s1:=by omega
 rw [e1]
 clear e1
 rw [hs1] at ZR ⊢
 rw [hs0] at z0 BW ⊢
 obtain ⟨c0,c1,c2,c3⟩:=z0.zo4
 obtain ⟨zr0,zf0,zr1,zf1,zr2,zf2,zr3,zf3⟩:=ZR.zoc0f0c1f1c2f2c3f3
 go_wp2_with fail
 have VR:=ZR.p4' (.int .i64 k) (.int .i64 a) (.int .i64 b) (.int .i64 c)
 obtain ⟨p0,p1,p2,p3⟩:=VR.zo4
 refine bodyPost_ret (v:=.agg #[.int .i64 k,.int .i64 a,.int .i64 b,.int .i64 c]) (by simp [results,Try.results48,go_sem,p0,p1,p2,p3]) rfl ⟨rfl,by rw [hs0]; exact (BW.s4' hle)⟩
set_option maxHeartbeats 2000000 in
theorem key_b (k a b c : Int) (hk : (k == 3) = true ∨ ((k == 3) = false ∧ (k == 4) = true) ∨ ((k == 3) = false ∧ (k == 4) = false ∧ (k == 5) = true)) (w : World) : Calls Try.prog 48 #[.agg #[.int .i64 k,.int .i64 a,.int .i64 b,.int .i64 c]] w fun e w' => e = .returned (.agg #[.int .i64 k,.int .i64 (min a b),.int .i64 (max a b),.int .i64 c]) ∧ Below w.heap.size w w':=by
 rcases hk with e3 | ⟨e3,e4⟩ | ⟨e3,e4,e5⟩
 all_goals
  obtain ⟨mn,hmn⟩ : ∃ m,min a b = m:=⟨_,rfl⟩
  obtain ⟨mx,hmx⟩ : ∃ m,max a b = m:=⟨_,rfl⟩
  go_enter Try.func48,Try.ntmps48
  go_upto_region 1 with fail
  obtain ⟨w1,e1,z0,ZR,BW⟩:=zmE w [.int .i64 k,.int .i64 a,.int .i64 b,.int .i64 c] 43 [.int .i64 0,.int .i64 0,.int .i64 0,.int .i64 0] 43
  obtain ⟨s1,hs1⟩ : ∃ s1,w.heap.size + 1 = s1:=⟨_,rfl⟩
  obtain ⟨s0,hs0⟩ : ∃ s0,w.heap.size = s0:=⟨_,rfl⟩
  have hle : s0 ≤ s1:=by omega
  have hne : s0 ≠ s1:=by omega
  rw [e1]
  clear e1
  rw [hs1] at ZR ⊢
  rw [hs0] at z0 BW ⊢
  obtain ⟨c0,c1,c2,c3⟩:=z0.zo4
  have f1:=z0.free 1; have f2:=z0.free 2
  have HMN:=Lib.hid hmn
  have HMX:=Lib.hid hmx
  go_upto_region 6 with fail
  replace z0:=(z0.put 1 (.int .i64 mn)).put 2 (.int .i64 mx)
  replace ZR:=(ZR.apart hne.symm 1 (.int .i64 mn)).apart hne.symm 2 (.int .i64 mx)
  replace BW:=(BW.setCell (p:=⟨s0,1,none⟩) (Nat.le_refl _) (.int .i64 mn)).setCell (p:=⟨s0,2,none⟩) (Nat.le_refl _) (.int .i64 mx)
  obtain ⟨w3,e3⟩ : ∃ w',(w1.setCell ⟨s0,1,none⟩ (.int .i64 mn)).setCell ⟨s0,2,none⟩ (.int .i64 mx) = w':=⟨_,rfl⟩
  rw [e3] at z0 ZR BW ⊢
  clear e3 c0 c1 c2 c3 f1 f2 hmn hmx
  obtain ⟨c0,c1,c2,c3⟩:=z0.zo4
  obtain ⟨zr0,zf0,zr1,zf1,zr2,zf2,zr3,zf3⟩:=ZR.zoc0f0c1f1c2f2c3f3
  go_wp2_with fail
  have VR:=ZR.p4' (.int .i64 k) (.int .i64 mn) (.int .i64 mx) (.int .i64 c)
  obtain ⟨p0,p1,p2,p3⟩:=VR.zo4
  refine bodyPost_ret (v:=.agg #[.int .i64 k,.int .i64 mn,.int .i64 mx,.int .i64 c]) (by simp [results,Try.results48,go_sem,p0,p1,p2,p3]) rfl ⟨by rw [HMN.out,HMX.out],by rw [hs0]; exact (BW.s4' hle)⟩
theorem key_as {k a b c k2 a2 b2 c2 : Int} (h : keyS ⟨k,a,b,c⟩ = ⟨k2,a2,b2,c2⟩) (w : World) : Calls Try.prog 48 #[.agg #[.int .i64 k,.int .i64 a,.int .i64 b,.int .i64 c]] w fun e w' => e = .returned (.agg #[.int .i64 k2,.int .i64 a2,.int .i64 b2,.int .i64 c2]) ∧ Below w.heap.size w w':=by
 unfold keyS at h
 by_cases e3 : k = 3
 ·subst e3
  rw [if_pos (.inl rfl)] at h
  injection h with h1 h2 h3 h4
  subst h1 h2 h3 h4
  exact key_b 3 a b c (.inl rfl) w
 by_cases e4 : k = 4
 ·subst e4
  rw [if_pos (.inr (.inl rfl))] at h
  injection h with h1 h2 h3 h4
  subst h1 h2 h3 h4
  exact key_b 4 a b c (.inr (.inl ⟨rfl,rfl⟩)) w
 by_cases e5 : k = 5
 ·subst e5
  rw [if_pos (.inr (.inr rfl))] at h
  injection h with h1 h2 h3 h4
  subst h1 h2 h3 h4
  exact key_b 5 a b c (.inr (.inr ⟨rfl,rfl,rfl⟩)) w
 rw [if_neg (by rintro (h | h | h) <;> contradiction)] at h
 injection h with h1 h2 h3 h4
 subst h1 h2 h3 h4
 exact key_n k a b c (zae e3) (zae e4) (zae e5) w
set_option maxHeartbeats 4000000 in
theorem uses10_2 {w : World} {p n b0 off cc : Nat} {v1 v3 : Value} (a : Nat) (b c : Int) (za : Int) (h1 : Bx w p [v1,.slice (some ⟨b0,off,none⟩) n cc,v3]) (ha : a < n) (ia : IAt w b0 (off + a) za) : Calls Try.prog 79 #[.pointer (some ⟨p,0,none⟩),.agg #[.int .i64 2,.int .i64 (a : Int),.int .i64 b,.int .i64 c]] w fun e w' => e = .returned (ndA (keyS ⟨2,za,b,c⟩)) ∧ Below w.heap.size w w':=by
 have ha1 : (a : Int) < (n : Int):=by omega
 have ha0 : (0 : Int) ≤ (a : Int):=by omega
 clear ha
 go_enter Try.func79,Try.ntmps79
 go_upto_region 1 with fail
 obtain ⟨w1,e1,z0,ZR,BW⟩:=zmE w [.int .i64 2,.int .i64 (a : Int),.int .i64 b,.int .i64 c] 43 [.int .i64 0,.int .i64 0,.int .i64 0,.int .i64 0] 43
 have hp:=Lib.hid h1.1
 have hb:=Lib.hid ia.1
 replace h1:=h1.on BW
 replace ia:=ia.on BW
 obtain ⟨s1,hs1⟩ : ∃ s1,w.heap.size + 1 = s1:=⟨_,rfl⟩
 obtain ⟨s0,hs0⟩ : ∃ s0,w.heap.size = s0:=⟨_,rfl⟩
 have hle : s0 ≤ s1:=by omega
 have hne : s0 ≠ s1:=by omega
 rw [e1]
 clear e1
 rw [hs1] at ZR ⊢
 rw [hs0] at z0 BW hp hb ⊢
 have H0 : _ = some (Value.int .i64 2):=z0.cell 0
 go_wp2_with fail
 clear H0
 refine LexG.region_plan LexG.any_ok 9 [0,1,2,3,4,5,6,7,8,9] (h:=?_)
 dsimp only [LexG.pick,LexG.nth]
 have bd : Below w1.heap.size w1 w1.drew:=(Below.refl _ _).drew
 replace h1:=h1.on bd
 replace ia:=ia.on bd
 replace z0:=z0.below bd z0.lt
 replace ZR:=ZR.below bd ZR.lt
 replace BW:=BW.trans (bd.mono (Nat.le_trans (Nat.le_of_eq hs0.symm) BW.size))
 obtain ⟨w2,e_w⟩ : ∃ w',w1.drew = w':=⟨_,rfl⟩
 rw [e_w] at h1 ia z0 ZR BW ⊢
 clear e_w bd
 have lf0:=zhC h1.t1
 have ma : _ = some (Value.int .i64 (a : Int)):=z0.cell 1
 have lga:=zhC ma
 have lha:=zhC ia.2
 refine LexG.lex_here 9 9 (Nat.le_refl _) (by kernel_rfl) ?_
 dsimp only [List.take,List.drop]
 repeat go_big_quiet_step (fail)
 refine wpQuiet_nil ?_
 clear lf0 lga lha ma
 refine LexG.lex_call (h:=fun K hK => ?_)
 have m1 : _ = some (Value.int .i64 (a : Int)):=z0.cell 1
 have f1:=z0.free 1
 go_simp
 refine hK _ _ trivial ?_
 clear hK K m1 f1
 replace z0:=z0.put 1 (.int .i64 za)
 replace ZR:=ZR.apart hne.symm 1 (.int .i64 za)
 replace BW:=BW.setCell (p:=⟨s0,1,none⟩) (Nat.le_refl _) (.int .i64 za)
 obtain ⟨w3,e_w⟩ : ∃ w',w2.setCell ⟨s0,1,none⟩ (.int .i64 za) = w':=⟨_,rfl⟩
 rw [e_w] at z0 ZR BW ⊢
 clear e_w
 refine LexG.lex_nil ?_
 dsimp only [NoPanic]
 clear h1 ia
 replace z0 : Own _ s0 43 [.int .i64 2,.int .i64 za,.int .i64 b,.int .i64 c]:=z0
 have H0 : _ = some (Value.int .i64 2):=z0.cell 0
 obtain ⟨z0c1,z0c2,z0c3⟩:=z0.zoc1c2c3
 obtain ⟨⟨k2,a2,b2,c2'⟩,hK⟩ : ∃ y,keyS ⟨2,za,b,c⟩ = y:=⟨_,rfl⟩
 have HK:=Lib.hid hK
 clear hK
 go_wp2_with fail
 refine (key_as HK.out _).mono ?_
 rintro en w9 ⟨rfl,b9⟩
 replace ZR:=ZR.below b9 ZR.lt
 replace BW:=BW.trans (b9.mono (Nat.le_trans (Nat.le_of_eq hs0.symm) BW.size))
 clear H0 z0c1 z0c2 z0c3 b9
 obtain ⟨zr0,zf0,zr1,zf1,zr2,zf2,zr3,zf3⟩:=ZR.zoc0f0c1f1c2f2c3f3
 go_wp2_with fail
 have VR:=ZR.p4' (.int .i64 k2) (.int .i64 a2) (.int .i64 b2) (.int .i64 c2')
 obtain ⟨p0,p1,p2,p3⟩:=VR.zo4
 refine bodyPost_ret (v:=.agg #[.int .i64 k2,.int .i64 a2,.int .i64 b2,.int .i64 c2']) (by simp [results,Try.results79,go_sem,p0,p1,p2,p3]) rfl ⟨by rw [HK.out]; rfl,by rw [hs0]; exact (BW.s4' hle)⟩
set_option maxHeartbeats 4000000 in
theorem zeW {w : World} {p n b0 off cc : Nat} {v1 v3 : Value} (a b : Nat) (c : Int) (za zb : Int) (k : Int) (c2 : (k == 2) = false) (hk : (k == 3) = true ∨ ((k == 3) = false ∧ (k == 4) = true) ∨ ((k == 3) = false ∧ (k == 4) = false ∧ (k == 5) = true)) (h1 : Bx w p [v1,.slice (some ⟨b0,off,none⟩) n cc,v3]) (ha : a < n) (ia : IAt w b0 (off + a) za) (hb : b < n) (ib : IAt w b0 (off + b) zb) : Calls Try.prog 79 #[.pointer (some ⟨p,0,none⟩),.agg #[.int .i64 k,.int .i64 (a : Int),.int .i64 (b : Int),.int .i64 c]] w fun e w' => e = .returned (ndA (keyS ⟨k,za,zb,c⟩)) ∧ Below w.heap.size w w':=by
 rcases hk with c3 | ⟨c3,c4⟩ | ⟨c3,c4,c5⟩
 all_goals
  have ha1 : (a : Int) < (n : Int):=by omega
  have ha0 : (0 : Int) ≤ (a : Int):=by omega
  clear ha
  have hb1 : (b : Int) < (n : Int):=by omega
  have hb0 : (0 : Int) ≤ (b : Int):=by omega
  clear hb
  go_enter Try.func79,Try.ntmps79
  go_upto_region 1 with fail
  obtain ⟨w1,e1,z0,ZR,BW⟩:=zmE w [.int .i64 k,.int .i64 (a : Int),.int .i64 (b : Int),.int .i64 c] 43 [.int .i64 0,.int .i64 0,.int .i64 0,.int .i64 0] 43
  have hp:=Lib.hid h1.1
  have hb:=Lib.hid ia.1
  replace h1:=h1.on BW
  replace ia:=ia.on BW
  replace ib:=ib.on BW
  obtain ⟨s1,hs1⟩ : ∃ s1,w.heap.size + 1 = s1:=⟨_,rfl⟩
  obtain ⟨s0,hs0⟩ : ∃ s0,w.heap.size = s0:=⟨_,rfl⟩
  have hle : s0 ≤ s1:=by omega
  have hne : s0 ≠ s1:=by omega
  rw [e1]
  clear e1
  rw [hs1] at ZR ⊢
  rw [hs0] at z0 BW hp hb ⊢
  have H0 : _ = some (Value.int .i64 k):=z0.cell 0
  go_wp2_with fail
  clear H0
  refine LexG.region_plan (LexG.grown_ok s0) 10 [0,1,2,3,4,5,6,7,12,13,8,9,10,11,14,15,16,17,18,19] (h:=?_)
  dsimp only [LexG.pick,LexG.nth]
  have bd : Below w1.heap.size w1 w1.drew:=(Below.refl _ _).drew
  replace h1:=h1.on bd
  replace ia:=ia.on bd
  replace ib:=ib.on bd
  replace z0:=z0.below bd z0.lt
  replace ZR:=ZR.below bd ZR.lt
  replace BW:=BW.trans (bd.mono (Nat.le_trans (Nat.le_of_eq hs0.symm) BW.size))
  obtain ⟨w2,e_w⟩ : ∃ w',w1.drew = w':=⟨_,rfl⟩
  rw [e_w] at h1 ia ib z0 ZR BW ⊢
  clear e_w bd
  have H4:=zhC h1.t1
  have ma : _ = some (Value.int .i64 (a : Int)):=z0.cell 1
  have lga:=zhC ma
  have H3:=zhC ia.2
  have mb : _ = some (Value.int .i64 (b : Int)):=z0.cell 2
  have lgb:=zhC mb
  have H2:=zhC ib.2
  refine LexG.lex_here 10 10 (Nat.le_refl _) (by kernel_rfl) ?_
  dsimp only [List.take,List.drop]
  repeat go_big_quiet_step (fail)
  refine wpQuiet_nil ?_
  clear H4 lga H3 ma lgb H2 mb
  have hp0 : p ≠ s0:=by have:=hp.out; omega
  have H1 : b0 ≠ s0:=by have:=hb.out; omega
  have H4:=zfC h1.t1 h1.1 (fun e => hp0 (by injection e))
  have H3:=zfC ia.2 ia.1 (fun e => H1 (by injection e))
  have H2:=zfC ib.2 ib.1 (fun e => H1 (by injection e))
  refine LexG.lex_plain 7 (by kernel_rfl) ?_
  dsimp only [List.take,List.drop]
  repeat go_big_quiet_step (fail)
  refine wpQuiet_nil ?_
  clear H4 H3 H2
  refine LexG.lex_call (h:=fun K hK => ?_)
  have m1 : _ = some (Value.int .i64 (a : Int)):=z0.cell 1
  have f1:=z0.free 1
  go_simp
  refine hK _ _ (zai _ _ _) ?_
  clear hK K m1 f1
  replace z0:=z0.put 1 (.int .i64 za)
  replace ZR:=ZR.apart hne.symm 1 (.int .i64 za)
  replace BW:=BW.setCell (p:=⟨s0,1,none⟩) (Nat.le_refl _) (.int .i64 za)
  obtain ⟨w3,e_w⟩ : ∃ w',w2.setCell ⟨s0,1,none⟩ (.int .i64 za) = w':=⟨_,rfl⟩
  rw [e_w] at z0 ZR BW ⊢
  clear e_w
  refine LexG.lex_plain 1 (by kernel_rfl) ?_
  dsimp only [List.take,List.drop]
  repeat go_big_quiet_step (fail)
  refine wpQuiet_nil ?_
  refine LexG.lex_call (h:=fun K hK => ?_)
  have m2 : _ = some (Value.int .i64 (b : Int)):=z0.cell 2
  have f2:=z0.free 2
  go_simp
  refine hK _ _ (zai _ _ _) ?_
  clear hK K m2 f2
  replace z0:=z0.put 2 (.int .i64 zb)
  replace ZR:=ZR.apart hne.symm 2 (.int .i64 zb)
  replace BW:=BW.setCell (p:=⟨s0,2,none⟩) (Nat.le_refl _) (.int .i64 zb)
  obtain ⟨w4,e_w⟩ : ∃ w',w3.setCell ⟨s0,2,none⟩ (.int .i64 zb) = w':=⟨_,rfl⟩
  rw [e_w] at z0 ZR BW ⊢
  clear e_w
  refine LexG.lex_nil ?_
  dsimp only [NoPanic]
  clear h1 ia ib
  replace z0 : Own _ s0 43 [.int .i64 k,.int .i64 za,.int .i64 zb,.int .i64 c]:=z0
  have H0 : _ = some (Value.int .i64 k):=z0.cell 0
  obtain ⟨z0c1,z0c2,z0c3⟩:=z0.zoc1c2c3
  obtain ⟨⟨k2,a2,b2,c2'⟩,hK⟩ : ∃ y,keyS ⟨k,za,zb,c⟩ = y:=⟨_,rfl⟩
  have HK:=Lib.hid hK
  clear hK
  go_wp2_with fail
  refine (key_as HK.out _).mono ?_
  rintro en w9 ⟨rfl,b9⟩
  replace ZR:=ZR.below b9 ZR.lt
  replace BW:=BW.trans (b9.mono (Nat.le_trans (Nat.le_of_eq hs0.symm) BW.size))
  clear H0 z0c1 z0c2 z0c3 b9
  obtain ⟨zr0,zf0,zr1,zf1,zr2,zf2,zr3,zf3⟩:=ZR.zoc0f0c1f1c2f2c3f3
  go_wp2_with fail
  have VR:=ZR.p4' (.int .i64 k2) (.int .i64 a2) (.int .i64 b2) (.int .i64 c2')
  obtain ⟨p0,p1,p2,p3⟩:=VR.zo4
  refine bodyPost_ret (v:=.agg #[.int .i64 k2,.int .i64 a2,.int .i64 b2,.int .i64 c2']) (by simp [results,Try.results79,go_sem,p0,p1,p2,p3]) rfl ⟨by rw [HK.out]; rfl,by rw [hs0]; exact (BW.s4' hle)⟩
set_option maxHeartbeats 4000000 in
theorem uses10_6 {w : World} {p n b0 off cc : Nat} {v1 v3 : Value} (a b c : Nat) (za zb zc : Int) (h1 : Bx w p [v1,.slice (some ⟨b0,off,none⟩) n cc,v3]) (ha : a < n) (ia : IAt w b0 (off + a) za) (hb : b < n) (ib : IAt w b0 (off + b) zb) (hc : c < n) (ic : IAt w b0 (off + c) zc) : Calls Try.prog 79 #[.pointer (some ⟨p,0,none⟩),.agg #[.int .i64 6,.int .i64 (a : Int),.int .i64 (b : Int),.int .i64 (c : Int)]] w fun e w' => e = .returned (ndA (keyS ⟨6,za,zb,zc⟩)) ∧ Below w.heap.size w w':=by
 have ha1 : (a : Int) < (n : Int):=by omega
 have ha0 : (0 : Int) ≤ (a : Int):=by omega
 clear ha
 have hb1 : (b : Int) < (n : Int):=by omega
 have hb0 : (0 : Int) ≤ (b : Int):=by omega
 clear hb
 have hc1 : (c : Int) < (n : Int):=by omega
 have hc0 : (0 : Int) ≤ (c : Int):=by omega
 clear hc
 go_enter Try.func79,Try.ntmps79
 go_upto_region 1 with fail
 obtain ⟨w1,e1,z0,ZR,BW⟩:=zmE w [.int .i64 6,.int .i64 (a : Int),.int .i64 (b : Int),.int .i64 (c : Int)] 43 [.int .i64 0,.int .i64 0,.int .i64 0,.int .i64 0] 43
 have hp:=Lib.hid h1.1
 have hb:=Lib.hid ia.1
 replace h1:=h1.on BW
 replace ia:=ia.on BW
 replace ib:=ib.on BW
 replace ic:=ic.on BW
 obtain ⟨s1,hs1⟩ : ∃ s1,w.heap.size + 1 = s1:=⟨_,rfl⟩
 obtain ⟨s0,hs0⟩ : ∃ s0,w.heap.size = s0:=⟨_,rfl⟩
 have hle : s0 ≤ s1:=by omega
 have H6 : s0 ≠ s1:=by omega
 rw [e1]
 clear e1
 rw [hs1] at ZR ⊢
 rw [hs0] at z0 BW hp hb ⊢
 have H0 : _ = some (Value.int .i64 6):=z0.cell 0
 go_wp2_with fail
 clear H0
 refine LexG.region_plan (LexG.grown_ok s0) 12 [0,1,2,3,4,5,6,7,12,13,20,21,8,9,10,11,14,15,16,17,18,19,22,23,24,25,26,27,28,29] (h:=?_)
 dsimp only [LexG.pick,LexG.nth]
 have bd : Below w1.heap.size w1 w1.drew:=(Below.refl _ _).drew
 replace h1:=h1.on bd
 replace ia:=ia.on bd
 replace ib:=ib.on bd
 replace ic:=ic.on bd
 replace z0:=z0.below bd z0.lt
 replace ZR:=ZR.below bd ZR.lt
 replace BW:=BW.trans (bd.mono (Nat.le_trans (Nat.le_of_eq hs0.symm) BW.size))
 obtain ⟨w2,e_w⟩ : ∃ w',w1.drew = w':=⟨_,rfl⟩
 rw [e_w] at h1 ia ib ic z0 ZR BW ⊢
 clear e_w bd
 have H5:=zhC h1.t1
 have ma : _ = some (Value.int .i64 (a : Int)):=z0.cell 1
 have lga:=zhC ma
 have H4:=zhC ia.2
 have mb : _ = some (Value.int .i64 (b : Int)):=z0.cell 2
 have lgb:=zhC mb
 have H3:=zhC ib.2
 have mc : _ = some (Value.int .i64 (c : Int)):=z0.cell 3
 have lgc:=zhC mc
 have H2:=zhC ic.2
 refine LexG.lex_here 12 12 (Nat.le_refl _) (by kernel_rfl) ?_
 dsimp only [List.take,List.drop]
 repeat go_big_quiet_step (fail)
 refine wpQuiet_nil ?_
 clear H5 lga H4 ma lgb H3 mb lgc H2 mc
 have hp0 : p ≠ s0:=by have:=hp.out; omega
 have H1 : b0 ≠ s0:=by have:=hb.out; omega
 have H5:=zfC h1.t1 h1.1 (fun e => hp0 (by injection e))
 have H4:=zfC ia.2 ia.1 (fun e => H1 (by injection e))
 have H3:=zfC ib.2 ib.1 (fun e => H1 (by injection e))
 have H2:=zfC ic.2 ic.1 (fun e => H1 (by injection e))
 refine LexG.lex_plain 13 (by kernel_rfl) ?_
 dsimp only [List.take,List.drop]
 repeat go_big_quiet_step (fail)
 refine wpQuiet_nil ?_
 clear H5 H4 H3 H2
 refine LexG.lex_call (h:=fun K hK => ?_)
 have m1 : _ = some (Value.int .i64 (a : Int)):=z0.cell 1
 have f1:=z0.free 1
 go_simp
 refine hK _ _ (zai _ _ _) ?_
 clear hK K m1 f1
 replace z0:=z0.put 1 (.int .i64 za)
 replace ZR:=ZR.apart H6.symm 1 (.int .i64 za)
 replace BW:=BW.setCell (p:=⟨s0,1,none⟩) (Nat.le_refl _) (.int .i64 za)
 obtain ⟨w3,e_w⟩ : ∃ w',w2.setCell ⟨s0,1,none⟩ (.int .i64 za) = w':=⟨_,rfl⟩
 rw [e_w] at z0 ZR BW ⊢
 clear e_w
 refine LexG.lex_plain 1 (by kernel_rfl) ?_
 dsimp only [List.take,List.drop]
 repeat go_big_quiet_step (fail)
 refine wpQuiet_nil ?_
 refine LexG.lex_call (h:=fun K hK => ?_)
 have m2 : _ = some (Value.int .i64 (b : Int)):=z0.cell 2
 have f2:=z0.free 2
 go_simp
 refine hK _ _ (zai _ _ _) ?_
 clear hK K m2 f2
 replace z0:=z0.put 2 (.int .i64 zb)
 replace ZR:=ZR.apart H6.symm 2 (.int .i64 zb)
 replace BW:=BW.setCell (p:=⟨s0,2,none⟩) (Nat.le_refl _) (.int .i64 zb)
 obtain ⟨w4,e_w⟩ : ∃ w',w3.setCell ⟨s0,2,none⟩ (.int .i64 zb) = w':=⟨_,rfl⟩
 rw [e_w] at z0 ZR BW ⊢
 clear e_w
 refine LexG.lex_plain 1 (by kernel_rfl) ?_
 dsimp only [List.take,List.drop]
 repeat go_big_quiet_step (fail)
 refine wpQuiet_nil ?_
 refine LexG.lex_call (h:=fun K hK => ?_)
 have m3 : _ = some (Value.int .i64 (c : Int)):=z0.cell 3
 have f3:=z0.free 3
 go_simp
 refine hK _ _ (zai _ _ _) ?_
 clear hK K m3 f3
 replace z0:=z0.put 3 (.int .i64 zc)
 replace ZR:=ZR.apart H6.symm 3 (.int .i64 zc)
 replace BW:=BW.setCell (p:=⟨s0,3,none⟩) (Nat.le_refl _) (.int .i64 zc)
 obtain ⟨w5,e_w⟩ : ∃ w',w4.setCell ⟨s0,3,none⟩ (.int .i64 zc) = w':=⟨_,rfl⟩
 rw [e_w] at z0 ZR BW ⊢
 clear e_w
 refine LexG.lex_nil ?_
 dsimp only [NoPanic]
 clear h1 ia ib ic
 replace z0 : Own _ s0 43 [.int .i64 6,.int .i64 za,.int .i64 zb,.int .i64 zc]:=z0
 have H0 : _ = some (Value.int .i64 6):=z0.cell 0
 obtain ⟨z0c1,z0c2,z0c3⟩:=z0.zoc1c2c3
 obtain ⟨⟨k2,a2,b2,c2'⟩,hK⟩ : ∃ y,keyS ⟨6,za,zb,zc⟩ = y:=⟨_,rfl⟩
 have HK:=Lib.hid hK
 clear hK
 go_wp2_with fail
 refine (key_as HK.out _).mono ?_
 rintro en w9 ⟨rfl,b9⟩
 replace ZR:=ZR.below b9 ZR.lt
 replace BW:=BW.trans (b9.mono (Nat.le_trans (Nat.le_of_eq hs0.symm) BW.size))
 clear H0 z0c1 z0c2 z0c3 b9
 obtain ⟨zr0,zf0,zr1,zf1,zr2,zf2,zr3,zf3⟩:=ZR.zoc0f0c1f1c2f2c3f3
 go_wp2_with fail
 have VR:=ZR.p4' (.int .i64 k2) (.int .i64 a2) (.int .i64 b2) (.int .i64 c2')
 obtain ⟨p0,p1,p2,p3⟩:=VR.zo4
 refine bodyPost_ret (v:=.agg #[.int .i64 k2,.int .i64 a2,.int .i64 b2,.int .i64 c2']) (by simp [results,Try.results79,go_sem,p0,p1,p2,p3]) rfl ⟨by rw [HK.out]; rfl,by rw [hs0]; exact (BW.s4' hle)⟩
set_option maxHeartbeats 4000000 in
theorem uses10_n {w : World} {p : Nat} {v1 v2 v3 : Value} (a b c : Int) (k : Int) (c2 : (k == 2) = false) (c3 : (k == 3) = false) (c4 : (k == 4) = false) (c5 : (k == 5) = false) (c6 : (k == 6) = false) (h1 : Bx w p [v1,v2,v3]) : Calls Try.prog 79 #[.pointer (some ⟨p,0,none⟩),.agg #[.int .i64 k,.int .i64 a,.int .i64 b,.int .i64 c]] w fun e w' => e = .returned (ndA (keyS ⟨k,a,b,c⟩)) ∧ Below w.heap.size w w':=by
 go_enter Try.func79,Try.ntmps79
 go_upto_region 1 with fail
 obtain ⟨w1,e1,z0,ZR,BW⟩:=zmE w [.int .i64 k,.int .i64 a,.int .i64 b,.int .i64 c] 43 [.int .i64 0,.int .i64 0,.int .i64 0,.int .i64 0] 43
 have hp:=Lib.hid h1.1
 replace h1:=h1.on BW
 obtain ⟨s1,hs1⟩ : ∃ s1,w.heap.size + 1 = s1:=⟨_,rfl⟩
 obtain ⟨s0,hs0⟩ : ∃ s0,w.heap.size = s0:=⟨_,rfl⟩
 have hle : s0 ≤ s1:=by omega
 have hne : s0 ≠ s1:=by omega
 rw [e1]
 clear e1
 rw [hs1] at ZR ⊢
 rw [hs0] at z0 BW hp  ⊢
 have H0 : _ = some (Value.int .i64 k):=z0.cell 0
 obtain ⟨z0c1,z0c2,z0c3⟩:=z0.zoc1c2c3
 obtain ⟨⟨k2,a2,b2,c2'⟩,hK⟩ : ∃ y,keyS ⟨k,a,b,c⟩ = y:=⟨_,rfl⟩
 have HK:=Lib.hid hK
 clear hK
 go_wp2_with fail
 refine (key_as HK.out _).mono ?_
 rintro en w9 ⟨rfl,b9⟩
 replace ZR:=ZR.below b9 ZR.lt
 replace BW:=BW.trans (b9.mono (Nat.le_trans (Nat.le_of_eq hs0.symm) BW.size))
 clear H0 z0c1 z0c2 z0c3 b9
 obtain ⟨zr0,zf0,zr1,zf1,zr2,zf2,zr3,zf3⟩:=ZR.zoc0f0c1f1c2f2c3f3
 go_wp2_with fail
 have VR:=ZR.p4' (.int .i64 k2) (.int .i64 a2) (.int .i64 b2) (.int .i64 c2')
 obtain ⟨p0,p1,p2,p3⟩:=VR.zo4
 refine bodyPost_ret (v:=.agg #[.int .i64 k2,.int .i64 a2,.int .i64 b2,.int .i64 c2']) (by simp [results,Try.results79,go_sem,p0,p1,p2,p3]) rfl ⟨by rw [HK.out]; rfl,by rw [hs0]; exact (BW.s4' hle)⟩
end Go.Proofs.Ytcehklnonhalhaa
