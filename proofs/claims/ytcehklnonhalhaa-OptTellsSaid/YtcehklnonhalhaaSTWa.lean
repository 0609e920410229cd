/-
  What the proofs of OptTells need: Wa Wm Wq.
-/
import Derived.Test.YtcehklnonhalhaaSTYr
set_option linter.unusedVariables false
namespace Go.Proofs.Ytcehklnonhalhaa
set_option maxRecDepth 4000
inductive Rch (N : List Nd) (F : Nat → Prop) : Nat → Prop where
  | base {p : Nat} : F p → Rch N F p
  | step {p : Nat} {y : Int} : Rch N F p → y ∈ zag (N.getD p nd0) → Rch N F y.toNat
def awS (t : List Bool × List Int) (y : Int) : List Bool × List Int:=if t.1.getD y.toNat false = true then t else (t.1.set y.toNat true,t.2 ++ [y])
def awF (t : List Bool × List Int) (Y : List Int) : List Bool × List Int:=Y.foldl awS t
theorem awF_snoc (t : List Bool × List Int) {Y : List Int} {k : Nat} {y : Int} (h : Y[k]? = some y) : awF t (Y.take (k + 1)) = awS (awF t (Y.take k)) y:=by
 unfold awF
 rw [List.take_add_one,h,List.foldl_append]
 rfl
def cntF (B : List Bool) : Nat:=B.count false
theorem zcN (B : List Bool) (m p : Nat) (hm : m < B.length) : (B.set m true).getD p false = if p = m then true else B.getD p false:=by
 rw [List.getD_eq_getElem?_getD,List.getD_eq_getElem?_getD,List.getElem?_set]
 by_cases e : p = m
 ·subst e
  rw [if_pos rfl,if_pos rfl,if_pos hm]
  rfl
 rw [if_neg (fun k => e k.symm),if_neg e]
theorem cnt_set : ∀ (B : List Bool) (m : Nat),m < B.length → B.getD m false = false → cntF (B.set m true) + 1 = cntF B
 | [],m,h,_ => absurd h (Nat.not_lt_zero _)
 | b :: B,0,_,hf => by
  have : b = false:=hf
  subst this
  simp [cntF]
 | b :: B,m + 1,h,hf => by
  have:=cnt_set B m (Nat.lt_of_succ_lt_succ h) hf
  unfold cntF at this ⊢
  rw [List.set_cons_succ]
  cases b <;> simp <;> omega
structure Aw (B : List Bool) (T : List Int) (Y : List Int) (B' : List Bool) (T' : List Int) : Prop where
  len : B'.length = B.length
  up : ∀ p,B.getD p false = true → B'.getD p false = true
  all : ∀ y ∈ Y,B'.getD y.toNat false = true
  new : ∀ p,B'.getD p false = true → B.getD p false = true ∨ ((p : Int) ∈ Y ∧ (p : Int) ∈ T')
  old : ∀ t ∈ T,t ∈ T'
  only : ∀ t ∈ T',t ∈ T ∨ t ∈ Y
  meas : T'.length + cntF B' = T.length + cntF B
theorem Aw.refl (B : List Bool) (T : List Int) : Aw B T [] B T:=⟨rfl,fun p h => h,fun y h => (by cases h),fun p h => .inl h,fun t h => h,fun t h => .inl h,rfl⟩
theorem Aw.step {B B' : List Bool} {T T' Y : List Int} (h : Aw B T Y B' T') {m : Nat} (hm : m < B.length) : Aw B T (Y ++ [(m : Int)]) (awS (B',T') (m : Int)).1 (awS (B',T') (m : Int)).2:=by
 unfold awS
 rw [Int.toNat_natCast]
 by_cases hb : B'.getD m false = true
 ·rw [if_pos hb]
  refine ⟨h.len,h.up,fun y hy => ?_,fun p hp => ?_,h.old,fun t ht => ?_,h.meas⟩
  ·rcases List.mem_append.1 hy with hy | hy
   ·exact h.all y hy
   rw [List.mem_singleton.1 hy,Int.toNat_natCast]
   exact hb
  ·rcases h.new p hp with k | ⟨k1,k2⟩
   ·exact .inl k
   exact .inr ⟨List.mem_append_left _ k1,k2⟩
  rcases h.only t ht with k | k
  ·exact .inl k
  exact .inr (List.mem_append_left _ k)
 rw [if_neg hb]
 have hf : B'.getD m false = false:=by simpa using hb
 have hm' : m < B'.length:=by rw [h.len]; exact hm
 have e:=fun p => zcN B' m p hm'
 refine ⟨by rw [List.length_set]; exact h.len,fun p hp => ?_,fun y hy => ?_,fun p hp => ?_,fun t ht => List.mem_append_left _ (h.old t ht),fun t ht => ?_,?_⟩
 ·show (B'.set m true).getD p false = true
  rw [e]
  split
  ·rfl
  exact h.up p hp
 ·show (B'.set m true).getD y.toNat false = true
  rw [e]
  rcases List.mem_append.1 hy with hy | hy
  ·split
   ·rfl
   exact h.all y hy
  rw [List.mem_singleton.1 hy,Int.toNat_natCast,if_pos rfl]
 ·have hp : (B'.set m true).getD p false = true:=hp
  rw [e] at hp
  by_cases k : p = m
  ·subst k
   exact .inr ⟨List.mem_append_right _ (List.mem_singleton.2 rfl),List.mem_append_right _ (List.mem_singleton.2 rfl)⟩
  rw [if_neg k] at hp
  rcases h.new p hp with k | ⟨k1,k2⟩
  ·exact .inl k
  exact .inr ⟨List.mem_append_left _ k1,List.mem_append_left _ k2⟩
 ·rcases List.mem_append.1 ht with ht | ht
  ·rcases h.only t ht with k | k
   ·exact .inl k
   exact .inr (List.mem_append_left _ k)
  exact .inr (List.mem_append_right _ ht)
 show (T' ++ [(m : Int)]).length + cntF (B'.set m true) = _
 have:=cnt_set B' m hm' hf
 have:=h.meas
 rw [List.length_append,List.length_singleton]
 omega
def Plc (n : Nat) (Y : List Int) : Prop:=∀ y ∈ Y,∃ m : Nat,y = (m : Int) ∧ m < n
theorem aw_all {B : List Bool} {T : List Int} : ∀ {Y : List Int},Plc B.length Y → Aw B T Y (awF (B,T) Y).1 (awF (B,T) Y).2:=by
 intro Y hY
 have key : ∀ k,k ≤ Y.length → Aw B T (Y.take k) (awF (B,T) (Y.take k)).1 (awF (B,T) (Y.take k)).2:=by
  intro k
  induction k with
  | zero => intro _; exact Aw.refl B T
  | succ k ih =>
   intro hk
   have ih:=ih (by omega)
   obtain ⟨y,hy⟩ : ∃ y,Y[k]? = some y:=⟨_,List.getElem?_eq_getElem hk⟩
   obtain ⟨m,rfl,hm⟩:=hY y (List.mem_of_getElem? hy)
   rw [awF_snoc _ hy,List.take_add_one,hy]
   exact ih.step hm
 have:=key Y.length (Nat.le_refl _)
 rw [List.take_length] at this
 exact this
structure Rv (N : List Nd) (F : Nat → Prop) (B : List Bool) (T : List Int) : Prop where
  len : B.length = N.length
  wt : Plc N.length T
  wb : ∀ t ∈ T,B.getD t.toNat false = true
  snd : ∀ p,B.getD p false = true → Rch N F p
  frm : ∀ p,F p → B.getD p false = true
  cls : ∀ p,B.getD p false = true → (p : Int) ∉ T → ∀ y ∈ zag (N.getD p nd0),B.getD y.toNat false = true
theorem Rv.start {N : List Nd} {Y : List Int} (hY : Plc N.length Y) : Rv N (fun p => (p : Int) ∈ Y) (awF (List.replicate N.length false,[]) Y).1 (awF (List.replicate N.length false,[]) Y).2:=by
 have hl : (List.replicate N.length false).length = N.length:=by simp
 have h:=aw_all (B:=List.replicate N.length false) (T:=[]) (Y:=Y) (by rw [hl]; exact hY)
 have h0 : ∀ p,(List.replicate N.length false).getD p false = true → False:=fun p hp => by
  rw [List.getD_eq_getElem?_getD,List.getElem?_replicate] at hp
  split at hp <;> cases hp
 refine ⟨h.len.trans hl,fun t ht => ?_,fun t ht => ?_,fun p hp => ?_,fun p hp => ?_,fun p hp hn => ?_⟩
 ·rcases h.only t ht with k | k
  ·cases k
  exact hY t k
 ·rcases h.only t ht with k | k
  ·cases k
  exact h.all t k
 ·rcases h.new p hp with k | ⟨k,_⟩
  ·exact (h0 p k).elim
  exact .base k
 ·have:=h.all _ hp
  rw [Int.toNat_natCast] at this
  exact this
 rcases h.new p hp with k | ⟨_,k⟩
 ·exact (h0 p k).elim
 exact absurd k hn
theorem Rv.pop {N : List Nd} {F : Nat → Prop} {B : List Bool} {V : List Int} {q : Nat} (h : Rv N F B (V ++ [(q : Int)])) (hN : Plc N.length (zag (N.getD q nd0))) : Rv N F (awF (B,V) (zag (N.getD q nd0))).1 (awF (B,V) (zag (N.getD q nd0))).2 ∧ (awF (B,V) (zag (N.getD q nd0))).2.length + cntF (awF (B,V) (zag (N.getD q nd0))).1 = V.length + cntF B:=by
 have k:=aw_all (B:=B) (T:=V) (Y:=zag (N.getD q nd0)) (by rw [h.len]; exact hN)
 have hq : B.getD q false = true:=by
  have:=h.wb (q : Int) (List.mem_append_right _ (List.mem_singleton.2 rfl))
  rw [Int.toNat_natCast] at this
  exact this
 refine ⟨⟨k.len.trans h.len,fun t ht => ?_,fun t ht => ?_,fun p hp => ?_,fun p hp => k.up p (h.frm p hp),fun p hp hn y hy => ?_⟩,k.meas⟩
 ·rcases k.only t ht with e | e
  ·exact h.wt t (List.mem_append_left _ e)
  exact hN t e
 ·rcases k.only t ht with e | e
  ·exact k.up _ (h.wb t (List.mem_append_left _ e))
  exact k.all t e
 ·rcases k.new p hp with e | ⟨e,_⟩
  ·exact h.snd p e
  have:=Rch.step (h.snd q hq) e
  rw [Int.toNat_natCast] at this
  exact this
 rcases k.new p hp with e | ⟨_,e⟩
 ·by_cases hpq : p = q
  ·subst hpq
   exact k.all y hy
  refine k.up _ (h.cls p e (fun m => ?_) y hy)
  rcases List.mem_append.1 m with m | m
  ·exact hn (k.old _ m)
  have:=List.mem_singleton.1 m
  omega
 exact absurd e hn
theorem Rv.done {N : List Nd} {F : Nat → Prop} {B : List Bool} (h : Rv N F B []) (p : Nat) : B.getD p false = true ↔ Rch N F p:=by
 refine ⟨h.snd p,fun r => ?_⟩
 induction r with
 | base hf => exact h.frm _ hf
 | step _ hy ih => exact h.cls _ ih (by simp) _ hy
set_option maxRecDepth 4000
theorem Rch.closed {N : List Nd} {F G : Nat → Prop} (hF : ∀ p,F p → G p) (hc : ∀ p,G p → ∀ y ∈ zag (N.getD p nd0),G y.toNat) {p : Nat} (h : Rch N F p) : G p:=by
 induction h with
 | base hf => exact hF _ hf
 | step _ hy ih => exact hc _ ih _ hy
theorem Rch.trans {N : List Nd} {F G : Nat → Prop} (hF : ∀ p,F p → Rch N G p) {p : Nat} (h : Rch N F p) : Rch N G p:=h.closed hF fun q hq y hy => hq.step hy
theorem Rch.mono {N : List Nd} {F G : Nat → Prop} (hF : ∀ p,F p → G p) {p : Nat} (h : Rch N F p) : Rch N G p:=h.trans fun q hq => .base (hF q hq)
set_option maxRecDepth 4000
def setB (B : List Bool) (Y : List Int) : List Bool:=Y.foldl (fun B y => B.set y.toNat true) B
def gS (N : List Nd) (B : List Bool) (i : Nat) : List Bool:=if B.getD i false = true then setB B (zag (N.getD i nd0)) else B
def gI (N : List Nd) (B : List Bool) : Nat → List Bool
 | 0 => B
 | i + 1 => gS N (gI N B i) i
def gK (N : List Nd) (B : List Bool) : Nat → List Bool
 | 0 => B
 | r + 1 => gI N (gK N B r) N.length
theorem zcg : ∀ (Y : List Int) (B : List Bool),(setB B Y).length = B.length
 | [],B => rfl
 | y :: Y,B => by
  show (setB (B.set y.toNat true) Y).length = _
  rw [zcg Y,List.length_set]
theorem setB_snoc {B : List Bool} {Y : List Int} {k : Nat} {y : Int} (h : Y[k]? = some y) : setB B (Y.take (k + 1)) = (setB B (Y.take k)).set y.toNat true:=by
 unfold setB
 rw [List.take_add_one,h,List.foldl_append]
 rfl
theorem setB_app (B : List Bool) (X Y : List Int) : setB B (X ++ Y) = setB (setB B X) Y:=by
 unfold setB
 rw [List.foldl_append]
theorem zd2 : ∀ (Y : List Int) (B : List Bool) (p : Nat),B.getD p false = true → (setB B Y).getD p false = true
 | [],B,p,h => h
 | y :: Y,B,p,h => by
  refine zd2 Y (B.set y.toNat true) p ?_
  by_cases hl : y.toNat < B.length
  ·rw [zcN B _ _ hl]
   split
   ·rfl
   exact h
  rw [List.set_eq_of_length_le (by omega)]
  exact h
theorem setB_in : ∀ (Y : List Int) (B : List Bool) (y : Int),y ∈ Y → y.toNat < B.length → (setB B Y).getD y.toNat false = true
 | z :: Y,B,y,h,hl => by
  show (setB (B.set z.toNat true) Y).getD y.toNat false = true
  rcases List.mem_cons.1 h with rfl | h
  ·refine zd2 Y _ _ ?_
   rw [zcN B _ _ hl,if_pos rfl]
  exact setB_in Y _ y h (by rw [List.length_set]; exact hl)
theorem setB_only : ∀ (Y : List Int) (B : List Bool) (p : Nat),(setB B Y).getD p false = true → B.getD p false = true ∨ ∃ y ∈ Y,y.toNat = p
 | [],B,p,h => .inl h
 | y :: Y,B,p,h => by
  rcases setB_only Y (B.set y.toNat true) p h with h | ⟨z,hz,e⟩
  ·by_cases hl : y.toNat < B.length
   ·rw [zcN B _ _ hl] at h
    split at h
    ·rename_i e
     exact .inr ⟨y,List.mem_cons_self ..,e.symm⟩
    exact .inl h
   rw [List.set_eq_of_length_le (by omega)] at h
   exact .inl h
  exact .inr ⟨z,List.mem_cons_of_mem _ hz,e⟩
theorem gS_len (N : List Nd) (B : List Bool) (i : Nat) : (gS N B i).length = B.length:=by
 unfold gS
 split
 ·exact zcg _ _
 rfl
theorem gI_len (N : List Nd) (B : List Bool) : ∀ i,(gI N B i).length = B.length
 | 0 => rfl
 | i + 1 => by unfold gI; rw [gS_len,gI_len N B i]
theorem gK_len (N : List Nd) (B : List Bool) : ∀ r,(gK N B r).length = B.length
 | 0 => rfl
 | r + 1 => by unfold gK; rw [gI_len,gK_len N B r]
def LeB (A B : List Bool) : Prop:=B.length = A.length ∧ ∀ p,A.getD p false = true → B.getD p false = true
theorem LeB.refl (A : List Bool) : LeB A A:=⟨rfl,fun _ h => h⟩
theorem LeB.trans {A B C : List Bool} (h : LeB A B) (k : LeB B C) : LeB A C:=⟨k.1.trans h.1,fun p hp => k.2 p (h.2 p hp)⟩
theorem gS_le (N : List Nd) (B : List Bool) (i : Nat) : LeB B (gS N B i):=⟨gS_len N B i,fun p hp => by
 unfold gS
 split
 ·exact zd2 _ _ _ hp
 exact hp⟩
theorem gI_le (N : List Nd) (B : List Bool) : ∀ i,LeB B (gI N B i)
 | 0 => LeB.refl _
 | i + 1 => (gI_le N B i).trans (gS_le N _ i)
theorem gI_from (N : List Nd) (B : List Bool) (i : Nat) : ∀ d,LeB (gI N B i) (gI N B (i + d))
 | 0 => LeB.refl _
 | d + 1 => (gI_from N B i d).trans (gS_le N _ (i + d))
theorem LeB.anti : ∀ {A B : List Bool},LeB A B → LeB B A → A = B
 | [],[],_,_ => rfl
 | [],b :: B,h,_ => by cases h.1
 | a :: A,[],h,_ => by cases h.1
 | a :: A,b :: B,h,k => by
  have h0 : a = true → b = true:=h.2 0
  have k0 : b = true → a = true:=k.2 0
  have e : a = b:=by
   cases a
   ·cases b
    ·rfl
    exact (k0 rfl)
   exact (h0 rfl).symm
  have:=LeB.anti (A:=A) (B:=B) ⟨Nat.succ.inj h.1,fun p => h.2 (p + 1)⟩ ⟨Nat.succ.inj k.1,fun p => k.2 (p + 1)⟩
  rw [e,this]
theorem LeB.cnt : ∀ {A B : List Bool},LeB A B → cntF B ≤ cntF A ∧ (cntF B = cntF A → A = B)
 | [],[],_ => ⟨Nat.le_refl _,fun _ => rfl⟩
 | [],b :: B,h => by cases h.1
 | a :: A,[],h => by cases h.1
 | a :: A,b :: B,h => by
  have h0 : a = true → b = true:=h.2 0
  obtain ⟨i1,i2⟩:=LeB.cnt (A:=A) (B:=B) ⟨Nat.succ.inj h.1,fun p => h.2 (p + 1)⟩
  unfold cntF at i1 i2 ⊢
  rw [List.count_cons,List.count_cons]
  cases a <;> cases b
  ·simp
   exact ⟨i1,i2⟩
  ·simp
   exact ⟨by omega,fun e => by omega⟩
  ·exact absurd (h0 rfl) (by decide)
  simp
  exact ⟨i1,i2⟩
theorem gI_closed {N : List Nd} {B : List Bool} (hl : B.length = N.length) (h : gI N B N.length = B) {q : Nat} (hq : B.getD q false = true) {y : Int} (hy : y ∈ zag (N.getD q nd0)) (hyn : y.toNat < N.length) : B.getD y.toNat false = true:=by
 have hqn : q < N.length:=by
  refine Classical.byContradiction fun k => ?_
  rw [List.getD_eq_getElem?_getD,List.getElem?_eq_none (by omega)] at hq
  cases hq
 have e1 : gI N B q = B:=by
  refine LeB.anti ?_ (gI_le N B q)
  have:=gI_from N B q (N.length - q)
  rw [show q + (N.length - q) = N.length by omega,h] at this
  exact this
 have e2 : gI N B (q + 1) = B:=by
  refine LeB.anti ?_ (gI_le N B (q + 1))
  have:=gI_from N B (q + 1) (N.length - (q + 1))
  rw [show q + 1 + (N.length - (q + 1)) = N.length by omega,h] at this
  exact this
 have e3 : gI N B (q + 1) = gS N (gI N B q) q:=rfl
 rw [e1,e2] at e3
 unfold gS at e3
 rw [if_pos hq] at e3
 rw [e3]
 exact setB_in _ _ _ hy (by rw [hl]; exact hyn)
theorem gK_end (N : List Nd) (B : List Bool) : ∀ r,gI N (gK N B r) N.length = gK N B r ∨ cntF (gK N B r) + r ≤ cntF B
 | 0 => .inr (Nat.le_refl _)
 | r + 1 => by
  rcases gK_end N B r with h | h
  ·left
   have e : gK N B (r + 1) = gK N B r:=h
   rw [e]
   exact h
  by_cases e : gI N (gK N B r) N.length = gK N B r
  ·left
   have e2 : gK N B (r + 1) = gK N B r:=e
   rw [e2]
   exact e
  right
  have c:=(gI_le N (gK N B r) N.length).cnt
  have e2 : gK N B (r + 1) = gI N (gK N B r) N.length:=rfl
  rw [e2]
  have : cntF (gI N (gK N B r) N.length) ≠ cntF (gK N B r):=fun k => e (c.2 k).symm
  omega
theorem gS_sound {N : List Nd} {F : Nat → Prop} {B : List Bool} (h : ∀ p,B.getD p false = true → Rch N F p) (i : Nat) : ∀ p,(gS N B i).getD p false = true → Rch N F p:=by
 intro p hp
 unfold gS at hp
 split at hp
 ·rename_i hi
  rcases setB_only _ _ _ hp with k | ⟨y,hy,rfl⟩
  ·exact h p k
  exact (h i hi).step hy
 exact h p hp
theorem gI_sound {N : List Nd} {F : Nat → Prop} {B : List Bool} (h : ∀ p,B.getD p false = true → Rch N F p) : ∀ i p,(gI N B i).getD p false = true → Rch N F p
 | 0 => h
 | i + 1 => gS_sound (gI_sound h i) i
theorem gK_sound {N : List Nd} {F : Nat → Prop} {B : List Bool} (h : ∀ p,B.getD p false = true → Rch N F p) : ∀ r p,(gK N B r).getD p false = true → Rch N F p
 | 0 => h
 | r + 1 => gI_sound (gK_sound h r) N.length
theorem gK_le (N : List Nd) (B : List Bool) : ∀ r,LeB B (gK N B r)
 | 0 => LeB.refl _
 | r + 1 => (gK_le N B r).trans (gI_le N _ _)
theorem gK_all {N : List Nd} {B : List Bool} (hl : B.length = N.length) (hu : ∀ q,q < N.length → Plc N.length (zag (N.getD q nd0))) (p : Nat) : (gK N B (N.length + 1)).getD p false = true ↔ Rch N (fun p => B.getD p false = true) p:=by
 refine ⟨gK_sound (fun p h => .base h) _ p,fun hr => ?_⟩
 have hlk : (gK N B (N.length + 1)).length = N.length:=by rw [gK_len,hl]
 have hc : gI N (gK N B (N.length + 1)) N.length = gK N B (N.length + 1):=by
  rcases gK_end N B (N.length + 1) with h | h
  ·exact h
  have : cntF B ≤ B.length:=List.count_le_length
  omega
 induction hr with
 | base h => exact (gK_le N B _).2 _ h
 | step _ hy ih =>
  rename_i q y hq
  refine gI_closed hlk hc ih hy ?_
  have hqn : q < N.length:=by
   refine Classical.byContradiction fun k => ?_
   rw [List.getD_eq_getElem?_getD,List.getElem?_eq_none (by omega)] at ih
   cases ih
  obtain ⟨m,rfl,hm⟩:=hu q hqn y hy
  rw [Int.toNat_natCast]
  exact hm
theorem Rch.same {N : List Nd} {F G : Nat → Prop} (h : ∀ p,F p ↔ G p) (p : Nat) : Rch N F p ↔ Rch N G p:=⟨fun k => k.mono fun q hq => (h q).1 hq,fun k => k.mono fun q hq => (h q).2 hq⟩
theorem bits_eq {A B : List Bool} (hl : A.length = B.length) (h : ∀ p,A.getD p false = true ↔ B.getD p false = true) : A = B:=LeB.anti ⟨hl.symm,fun p => (h p).1⟩ ⟨hl,fun p => (h p).2⟩
end Go.Proofs.Ytcehklnonhalhaa
