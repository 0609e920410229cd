/-
  What the proofs of OptTells need: Oi Oj.
-/
import Derived.Test.YtcehklnonhalhaaSTOe
import Derived.Test.YtcehklnonhalhaaSTHR
import Derived.Test.YtcehklnonhalhaaSTLexG
import Derived.Deep.QuietTactic
import Derived.BigQuiet
set_option linter.unusedVariables false
namespace Go.Proofs.Ytcehklnonhalhaa
def uV (M : List Nd) (q : Int) : Int:=if (nA M q).k = 0 then (nA M q).a else -1
def trn (M : List Nd) (a b : Int) : Bool:=((nA M a).k == 2 && (nA M a).a == b) || ((nA M b).k == 2 && (nA M b).a == a)
structure Wk12 (M : List Nd) (q : Int) : Prop where
  c0 : (nA M q).k = 0 → nA M q = zaw 0 ∨ nA M q = zaw 1
  c2 : (nA M q).k = 2 → nA M q = notN (nA M q).a ∧ 0 ≤ (nA M q).a
  q0 : 0 ≤ q
def rnot (M : List Nd) (x : Nd) : Nd × Int:=if 0 ≤ uV M x.a then (zaw (1 - uV M x.a),-1) else if (nA M x.a).k = 2 then (x,(nA M x.a).a) else (x,-1)
def rao (M : List Nd) (x : Nd) (r : Int) : Nd × Int:=if uV M x.a = r ∨ uV M x.b = r then (zaw r,-1) else if uV M x.a = 1 - r then (x,x.b) else if uV M x.b = 1 - r ∨ x.a = x.b then (x,x.a) else if trn M x.a x.b = true then (zaw r,-1) else (x,-1)
def rxor (M : List Nd) (x : Nd) : Nd × Int:=if x.a = x.b then (zaw 0,-1) else if uV M x.a = 0 then (x,x.b) else if uV M x.b = 0 then (x,x.a) else if uV M x.a = 1 then (notN x.b,-1) else if uV M x.b = 1 then (notN x.a,-1) else if trn M x.a x.b = true then (zaw 1,-1) else (x,-1)
def rmux (M : List Nd) (x : Nd) : Nd × Int:=if uV M x.c = 0 then (x,x.a) else if uV M x.c = 1 then (x,x.b) else if x.a = x.b then (x,x.a) else if uV M x.a = 0 ∧ uV M x.b = 1 then (x,x.c) else if uV M x.a = 1 ∧ uV M x.b = 0 then (notN x.c,-1) else if uV M x.a = 0 then (⟨3,x.b,x.c,0⟩,-1) else if uV M x.b = 1 then (⟨4,x.a,x.c,0⟩,-1) else (x,-1)
def zan (M : List Nd) (x : Nd) : Nd × Int:=if x.k = 2 then rnot M x else if x.k = 3 then rao M x 0 else if x.k = 4 then rao M x 1 else if x.k = 5 then rxor M x else if x.k = 6 then rmux M x else (x,-1)
theorem zdn {M : List Nd} {q v : Int} (h : Wk12 M q) (hv : v = 0 ∨ v = 1) : isC M q v = decide (uV M q = v):=by
 unfold isC uV
 rw [Bool.eq_iff_iff,zaE,decide_eq_true_iff]
 constructor
 ·intro e
  rw [e]
  rfl
 intro e
 by_cases hk : (nA M q).k = 0
 ·rw [if_pos hk] at e
  rcases h.c0 hk with h1 | h1
  ·rw [h1] at e ⊢
   have : (0 : Int) = v:=e
   rw [this]
  rw [h1] at e ⊢
  have : (1 : Int) = v:=e
  rw [this]
 rw [if_neg hk] at e
 omega
theorem areT_trn {M : List Nd} {a b : Int} (ha : Wk12 M a) (hb : Wk12 M b) : areT M a b = trn M a b:=by
 have k : ∀ {q p : Int},Wk12 M q → za6 (nA M q) (notN p) = ((nA M q).k == 2 && (nA M q).a == p):=fun {q p} h => by
  rw [Bool.eq_iff_iff,zaE,Bool.and_eq_true,beq_iff_eq,beq_iff_eq]
  constructor
  ·intro e
   rw [e]
   exact ⟨rfl,rfl⟩
  rintro ⟨e1,e2⟩
  have:=(h.c2 e1).1
  rw [this,e2]
 unfold areT trn
 rw [k ha,k hb]
theorem uV_01 {M : List Nd} {q : Int} (h : Wk12 M q) : ((nA M q).k = 0 ∧ (uV M q = 0 ∨ uV M q = 1) ∧ uV M q = (nA M q).a) ∨ ((nA M q).k ≠ 0 ∧ uV M q = -1):=by
 unfold uV
 by_cases hk : (nA M q).k = 0
 ·rw [if_pos hk]
  refine .inl ⟨hk,?_,rfl⟩
  rcases h.c0 hk with h1 | h1
  ·rw [h1]; exact .inl rfl
  rw [h1]; exact .inr rfl
 rw [if_neg hk]
 exact .inr ⟨hk,rfl⟩
def stP (p : Int) (r : Nd × Int) : Nd × Int:=(r.1,if r.2 < 0 then p else r.2)
theorem stP_n (p : Int) (x : Nd) : stP p (x,-1) = (x,p):=rfl
theorem zeY (p : Int) (x : Nd) {s : Int} (h : 0 ≤ s) : stP p (x,s) = (x,s):=by
 unfold stP
 rw [if_neg (by show ¬ s < 0; omega)]
theorem line_not {M : List Nd} {x : Nd} {p : Int} (ha : Wk12 M x.a) : notL M x p = stP p (rnot M x):=by
 unfold notL rnot
 rcases uV_01 ha with ⟨h1,h2,h3⟩ | ⟨h1,h2⟩
 ·rw [if_pos h1,if_pos (show 0 ≤ uV M x.a by omega),stP_n,h3]
 rw [if_neg h1,if_neg (show ¬ 0 ≤ uV M x.a by omega)]
 split
 ·rename_i h
  rw [zeY p x (ha.c2 h).2]
 rw [stP_n]
theorem line_ao {M : List Nd} {x : Nd} {p r : Int} (ha : Wk12 M x.a) (hb : Wk12 M x.b) (hr : r = 0 ∨ r = 1) : aoL M x p r = stP p (rao M x r):=by
 unfold aoL rao
 have hr1 : 1 - r = 0 ∨ 1 - r = 1:=by omega
 rw [zdn ha hr,zdn hb hr,zdn ha hr1,zdn hb hr1,areT_trn ha hb]
 simp only [Bool.or_eq_true,decide_eq_true_eq,beq_iff_eq]
 repeat' split
 all_goals first | rfl | (rw [zeY p x hb.q0]) | (rw [zeY p x ha.q0])
theorem line_xor {M : List Nd} {x : Nd} {p : Int} (ha : Wk12 M x.a) (hb : Wk12 M x.b) : xorL M x p = stP p (rxor M x):=by
 unfold xorL rxor
 rw [zdn ha (.inl rfl),zdn hb (.inl rfl),zdn ha (.inr rfl),zdn hb (.inr rfl),areT_trn ha hb]
 simp only [decide_eq_true_eq,beq_iff_eq]
 repeat' split
 all_goals first | rfl | (rw [zeY p x hb.q0]) | (rw [zeY p x ha.q0])
theorem line_mux {M : List Nd} {x : Nd} {p : Int} (ha : Wk12 M x.a) (hb : Wk12 M x.b) (hc : Wk12 M x.c) : muxL M x p = stP p (rmux M x):=by
 unfold muxL rmux
 rw [zdn ha (.inl rfl),zdn hb (.inl rfl),zdn hc (.inl rfl),zdn ha (.inr rfl),zdn hb (.inr rfl),zdn hc (.inr rfl)]
 simp only [Bool.or_eq_true,Bool.and_eq_true,decide_eq_true_eq,beq_iff_eq]
 by_cases h1 : uV M x.c = 1
 ·rw [if_pos h1,if_neg (by omega),if_pos h1,zeY p x hb.q0]
 rw [if_neg h1]
 by_cases h0 : uV M x.c = 0
 ·rw [if_pos (.inl h0),if_pos h0,zeY p x ha.q0]
 rw [if_neg h0,if_neg h1]
 by_cases he : x.a = x.b
 ·rw [if_pos (.inr he),if_pos he,zeY p x ha.q0]
 rw [if_neg (by rintro (h | h); exact h0 h; exact he h),if_neg he]
 repeat' split
 all_goals first | rfl | (rw [zeY p x hc.q0])
theorem line_look {M : List Nd} {x : Nd} {p : Int} (h : ∀ y ∈ zag x,Wk12 M y) : zbe M x p = stP p (zan M x):=by
 unfold zbe zan
 by_cases k2 : x.k = 2
 ·rw [if_pos k2,if_pos k2]
  exact line_not (h _ (by rw [zbA k2]; simp))
 rw [if_neg k2,if_neg k2]
 by_cases k3 : x.k = 3
 ·rw [if_pos k3,if_pos k3]
  exact line_ao (h _ (by rw [zay (.inl k3)]; simp)) (h _ (by rw [zay (.inl k3)]; simp)) (.inl rfl)
 rw [if_neg k3,if_neg k3]
 by_cases k4 : x.k = 4
 ·rw [if_pos k4,if_pos k4]
  exact line_ao (h _ (by rw [zay (.inr (.inl k4))]; simp)) (h _ (by rw [zay (.inr (.inl k4))]; simp)) (.inr rfl)
 rw [if_neg k4,if_neg k4]
 by_cases k5 : x.k = 5
 ·rw [if_pos k5,if_pos k5]
  exact line_xor (h _ (by rw [zay (.inr (.inr k5))]; simp)) (h _ (by rw [zay (.inr (.inr k5))]; simp))
 rw [if_neg k5,if_neg k5]
 by_cases k6 : x.k = 6
 ·rw [if_pos k6,if_pos k6]
  exact line_mux (h _ (by rw [zaN k6]; simp)) (h _ (by rw [zaN k6]; simp)) (h _ (by rw [zaN k6]; simp))
 rw [if_neg k6,if_neg k6]
 rfl
theorem rlook_kind (M : List Nd) (x : Nd) : (zan M x).1 = x ∨ ((zan M x).2 = -1 ∧ (zan M x).1.k ≠ x.k ∧ rk (zan M x).1 < rk x ∧ ∀ y ∈ zag (zan M x).1,y ∈ zag x):=by
 have kc : ∀ v : Int,(zaw v).k = 0:=fun _ => rfl
 have kn : ∀ v : Int,(notN v).k = 2:=fun _ => rfl
 have rc : ∀ v : Int,rk (zaw v) = 0:=fun _ => rfl
 have rn : ∀ v : Int,rk (notN v) = 1:=fun _ => rfl
 have uc : ∀ (v : Int) (y : Int),y ∈ zag (zaw v) → y ∈ zag x:=fun v y hy => by cases hy
 unfold zan
 by_cases k2 : x.k = 2
 ·rw [if_pos k2]
  have rx : rk x = 1:=by unfold rk; rw [if_neg (by omega),if_neg (by omega),if_pos k2]
  unfold rnot
  split
  ·exact .inr ⟨rfl,by rw [kc]; omega,by rw [rc]; omega,uc _⟩
  split
  ·exact .inl rfl
  exact .inl rfl
 rw [if_neg k2]
 have ao : ∀ r : Int,(x.k = 3 ∨ x.k = 4 ∨ x.k = 5) → (rao M x r).1 = x ∨ ((rao M x r).2 = -1 ∧ (rao M x r).1.k ≠ x.k ∧ rk (rao M x r).1 < rk x ∧ ∀ y ∈ zag (rao M x r).1,y ∈ zag x):=fun r hk => by
  have rx:=rk_b hk
  unfold rao
  repeat' split
  all_goals first | exact .inl rfl | exact .inr ⟨rfl,by rw [kc]; omega,by rw [rc]; omega,uc _⟩
 by_cases k3 : x.k = 3
 ·rw [if_pos k3]; exact ao 0 (.inl k3)
 rw [if_neg k3]
 by_cases k4 : x.k = 4
 ·rw [if_pos k4]; exact ao 1 (.inr (.inl k4))
 rw [if_neg k4]
 by_cases k5 : x.k = 5
 ·rw [if_pos k5]
  have rx:=rk_b (.inr (.inr k5))
  have ux:=zay (x:=x) (.inr (.inr k5))
  unfold rxor
  repeat' split
  all_goals first | exact .inl rfl | exact .inr ⟨rfl,by rw [kc]; omega,by rw [rc]; omega,uc _⟩ | exact .inr ⟨rfl,by rw [kn]; omega,by rw [rn]; omega,fun y hy => by rw [uses_n,List.mem_singleton] at hy; rw [hy,ux]; simp⟩
 rw [if_neg k5]
 by_cases k6 : x.k = 6
 ·rw [if_pos k6]
  have rx : rk x = 3:=by unfold rk; rw [if_pos k6]
  have ux:=zaN (x:=x) k6
  have r3 : ∀ a b : Int,rk ⟨3,a,b,0⟩ = 2:=fun _ _ => rfl
  have r4 : ∀ a b : Int,rk ⟨4,a,b,0⟩ = 2:=fun _ _ => rfl
  have u3 : ∀ a b : Int,zag ⟨3,a,b,0⟩ = [a,b]:=fun _ _ => rfl
  have u4 : ∀ a b : Int,zag ⟨4,a,b,0⟩ = [a,b]:=fun _ _ => rfl
  unfold rmux
  repeat' split
  all_goals first | exact .inl rfl | exact .inr ⟨rfl,by rw [kn]; omega,by rw [rn]; omega,fun y hy => by rw [uses_n,List.mem_singleton] at hy; rw [hy,ux]; simp⟩ | exact .inr ⟨rfl,by show (3 : Int) ≠ x.k; omega,by rw [r3]; omega,fun y hy => by rw [u3] at hy; rw [ux]; simp at hy ⊢; omega⟩ | exact .inr ⟨rfl,by show (4 : Int) ≠ x.k; omega,by rw [r4]; omega,fun y hy => by rw [u4] at hy; rw [ux]; simp at hy ⊢; omega⟩
 rw [if_neg k6]
 exact .inl rfl
theorem lookL_end {M : List Nd} {x : Nd} {p : Int} {d : Nat} (hd : rk x < d) (h : ∀ y ∈ zag x,Wk12 M y) (he : (zan M x).1.k = x.k ∨ (zan M x).1.k = 0) : zbn M p d x = stP p (zan M x):=by
 obtain ⟨d,rfl⟩ : ∃ e,d = e + 1:=⟨d - 1,by omega⟩
 have hl:=line_look (p:=p) h
 unfold zbn
 rw [hl]
 show (if za6 (zan M x).1 x = true then stP p (zan M x) else zbn M p d (zan M x).1) = _
 rcases rlook_kind M x with h1 | ⟨h1,h2,h3,h4⟩
 ·rw [if_pos ((zaE _ _).2 h1)]
 have h0 : (zan M x).1.k = 0:=by rcases he with e | e; exact absurd e h2; exact e
 rw [if_neg (fun e => by have : (zan M x).1 = x:=(zaE _ _).1 e; exact h2 (by rw [this]))]
 obtain ⟨d,rfl⟩ : ∃ e,d = e + 1:=⟨d - 1,by omega⟩
 have hc : ∀ p : Int,zbe M (zan M x).1 p = ((zan M x).1,p):=fun p => by
  unfold zbe
  rw [h0]
  rfl
 show zbn M p (d + 1) (zan M x).1 = _
 unfold zbn
 rw [hc,if_pos ((zaE _ _).2 rfl)]
 unfold stP
 rw [h1]
 rfl
theorem lookL_on {M : List Nd} {x : Nd} {p : Int} {d : Nat} (hd : rk x < d) (h : ∀ y ∈ zag x,Wk12 M y) (he : (zan M x).1.k ≠ x.k) : (zan M x).2 = -1 ∧ rk (zan M x).1 < rk x ∧ (∀ y ∈ zag (zan M x).1,y ∈ zag x) ∧ zbn M p d x = zbn M p (d - 1) (zan M x).1:=by
 obtain ⟨d,rfl⟩ : ∃ e,d = e + 1:=⟨d - 1,by omega⟩
 have hl:=line_look (p:=p) h
 rcases rlook_kind M x with h1 | ⟨h1,h2,h3,h4⟩
 ·exact absurd (by rw [h1]) he
 refine ⟨h1,h3,h4,?_⟩
 show zbn M p (d + 1) x = zbn M p d _
 conv => lhs; unfold zbn
 rw [hl,if_neg (fun e => by have : (zan M x).1 = x:=(zaE _ _).1 e; exact h2 (by rw [this]))]
 rfl
open Go.RowKit
theorem nA_of {M : List Nd} {q : Nat} {x : Nd} (h : M[q]? = some x) : nA M (q : Int) = x:=by
 unfold nA
 rw [show ((q : Int)).toNat = q from rfl,List.getD_eq_getElem?_getD,h]
 rfl
set_option maxHeartbeats 2000000 in
theorem zbh {w : World} {A : Option Addr} {n c : Nat} {M : List Nd} (h : Ns w A n M) {q : Nat} (hq : q < n) :
  Calls Try.prog 111 #[.slice A n c,.int .i64 (q : Int)] w fun e w' => e = .returned (.int .i64 (uV M q)) ∧ Below w.heap.size w w':=by
 obtain ⟨b0,off,x1,x2,x3,x4,eA,HX,hA⟩:=h.nat hq
 subst eA
 have hqn : (q : Int) < (n : Int):=by omega
 have hq0 : (0 : Int) ≤ (q : Int):=by omega
 have c1:=hA.c1
 have c2:=hA.c2
 have HU : Hid (uV M q = if x1 = 0 then x2 else -1):=Lib.hid (by unfold uV; rw [nA_of HX.out])
 clear HX hA h
 by_cases h0 : x1 = 0
 ·subst h0
  rw [HU.out,if_pos rfl]
  go_enter Try.func111,Try.ntmps111
  go_wp2_with fail
  go_ret
  exact ⟨rfl,Below.refl _ _⟩
 rw [HU.out,if_neg h0]
 have e0 : (x1 == 0) = false:=by simpa using h0
 clear h0
 go_enter Try.func111,Try.ntmps111
 go_wp2_with fail
 go_ret
 exact ⟨rfl,Below.refl _ _⟩
set_option maxHeartbeats 4000000 in
theorem zdr {w : World} {A : Option Addr} {n c : Nat} {M : List Nd} (h : Ns w A n M) {a b : Nat} (ha : a < n) (hb : b < n) :
  Calls Try.prog 112 #[.slice A n c,.int .i64 (a : Int),.int .i64 (b : Int)] w fun e w' => e = .returned (.bool (trn M a b)) ∧ Below w.heap.size w w':=by
 obtain ⟨b0,off,x1,x2,x3,x4,eA,HX,hA⟩:=h.nat ha
 obtain ⟨b1,off1,y1,y2,y3,y4,eB,HY,hB⟩:=h.nat hb
 subst eA
 obtain ⟨rfl,rfl⟩ : b0 = b1 ∧ off = off1:=by injection eB with e; injection e with e1 e2; exact ⟨e1,e2⟩
 clear eB
 have han : (a : Int) < (n : Int):=by omega
 have ha0 : (0 : Int) ≤ (a : Int):=by omega
 have hbn : (b : Int) < (n : Int):=by omega
 have hb0 : (0 : Int) ≤ (b : Int):=by omega
 have c1:=hA.c1
 have c2:=hA.c2
 have d1:=hB.c1
 have d2:=hB.c2
 have HU : Hid (trn M a b = ((x1 == 2 && x2 == (b : Int)) || (y1 == 2 && y2 == (a : Int)))):=Lib.hid (by unfold trn; rw [nA_of HX.out,nA_of HY.out])
 clear HX hA HY hB h
 rw [HU.out]
 obtain ⟨u1,h1⟩ : ∃ u,(x1 == 2) = u:=⟨_,rfl⟩
 obtain ⟨u2,h2⟩ : ∃ u,(x2 == (b : Int)) = u:=⟨_,rfl⟩
 obtain ⟨u3,h3⟩ : ∃ u,(y1 == 2) = u:=⟨_,rfl⟩
 obtain ⟨u4,h4⟩ : ∃ u,(y2 == (a : Int)) = u:=⟨_,rfl⟩
 rw [h1,h2,h3,h4]
 clear HU
 cases u1 <;> cases u2 <;> cases u3 <;> cases u4
 all_goals
  go_enter Try.func112,Try.ntmps112
  go_wp2_with fail
  go_ret
  exact ⟨rfl,Below.refl _ _⟩
end Go.Proofs.Ytcehklnonhalhaa
