/-
  What the proofs of OptTells need: Ya Yb Yr Yc Yd.
-/
import Derived.Test.YtcehklnonhalhaaSTJB
import Derived.Test.YtcehklnonhalhaaSTHa
import Derived.Test.YtcehklnonhalhaaSTGx
import Derived.Test.YtcehklnonhalhaaSTHR
set_option linter.unusedVariables false
namespace Go.Proofs.Ytcehklnonhalhaa
set_option maxRecDepth 4000
def zaw (v : Int) : Nd:=⟨0,v,0,0⟩
def notN (a : Int) : Nd:=⟨2,a,0,0⟩
def nA (M : List Nd) (q : Int) : Nd:=M.getD q.toNat nd0
def isC (M : List Nd) (q v : Int) : Bool:=za6 (nA M q) (zaw v)
def areT (M : List Nd) (a b : Int) : Bool:=za6 (nA M a) (notN b) || za6 (nA M b) (notN a)
def notL (M : List Nd) (x : Nd) (p : Int) : Nd × Int:=if (nA M x.a).k = 0 then (zaw (1 - (nA M x.a).a),p) else if (nA M x.a).k = 2 then (x,(nA M x.a).a) else (x,p)
def aoL (M : List Nd) (x : Nd) (p r : Int) : Nd × Int:=if (isC M x.a r || isC M x.b r) = true then (zaw r,p) else if isC M x.a (1 - r) = true then (x,x.b) else if (isC M x.b (1 - r) || x.a == x.b) = true then (x,x.a) else if areT M x.a x.b = true then (zaw r,p) else (x,p)
def xorL (M : List Nd) (x : Nd) (p : Int) : Nd × Int:=if (x.a == x.b) = true then (zaw 0,p) else if isC M x.a 0 = true then (x,x.b) else if isC M x.b 0 = true then (x,x.a) else if isC M x.a 1 = true then (notN x.b,p) else if isC M x.b 1 = true then (notN x.a,p) else if areT M x.a x.b = true then (zaw 1,p) else (x,p)
def muxL (M : List Nd) (x : Nd) (p : Int) : Nd × Int:=if isC M x.c 1 = true then (x,x.b) else if (isC M x.c 0 || x.a == x.b) = true then (x,x.a) else if (isC M x.a 0 && isC M x.b 1) = true then (x,x.c) else if (isC M x.a 1 && isC M x.b 0) = true then (notN x.c,p) else if isC M x.a 0 = true then (⟨3,x.b,x.c,0⟩,p) else if isC M x.b 1 = true then (⟨4,x.a,x.c,0⟩,p) else (x,p)
def zbe (M : List Nd) (x : Nd) (p : Int) : Nd × Int:=if x.k = 2 then notL M x p else if x.k = 3 then aoL M x p 0 else if x.k = 4 then aoL M x p 1 else if x.k = 5 then xorL M x p else if x.k = 6 then muxL M x p else (x,p)
theorem zaE (x y : Nd) : za6 x y = true ↔ x = y:=by
 obtain ⟨a,b,c,d⟩:=x
 obtain ⟨a',b',c',d'⟩:=y
 unfold za6
 simp [Bool.and_eq_true,beq_iff_eq]
def vN (x : Nd) (u : List Int) : Int:=if x.k = 0 then x.a else zeo x u
def rk (x : Nd) : Nat:=if x.k = 6 then 3 else if x.k = 3 ∨ x.k = 4 ∨ x.k = 5 then 2 else if x.k = 2 then 1 else 0
structure Ok (P : Int → Prop) (x : Nd) : Prop where
  kd : (x.k = 0 ∧ (x.a = 0 ∨ x.a = 1) ∧ x.b = 0 ∧ x.c = 0) ∨ (x.k = 2 ∧ P x.a ∧ x.b = 0 ∧ x.c = 0) ∨ ((x.k = 3 ∨ x.k = 4 ∨ x.k = 5) ∧ P x.a ∧ P x.b ∧ x.c = 0) ∨ (x.k = 6 ∧ P x.a ∧ P x.b ∧ P x.c)
structure Known (P : Int → Prop) (M : List Nd) (u : List Int) : Prop where
  c0 : ∀ q,P q → (nA M q).k = 0 → atI u q = (nA M q).a ∧ ((nA M q).a = 0 ∨ (nA M q).a = 1)
  c2 : ∀ q,P q → (nA M q).k = 2 → atI u q = 1 - atI u (nA M q).a
theorem zbg {P : Int → Prop} {M : List Nd} {u : List Int} (h : Known P M u) {q v : Int} (hq : P q) (hc : isC M q v = true) : atI u q = v:=by
 have e:=(zaE _ _).1 hc
 have:=(h.c0 q hq (by rw [e]; rfl)).1
 rw [this,e]
 rfl
theorem areT_val {P : Int → Prop} {M : List Nd} {u : List Int} (h : Known P M u) {a b : Int} (ha : P a) (hb : P b) (hc : areT M a b = true) : atI u a = 1 - atI u b:=by
 unfold areT at hc
 rw [Bool.or_eq_true] at hc
 rcases hc with hc | hc
 ·have e:=(zaE _ _).1 hc
  have:=h.c2 a ha (by rw [e]; rfl)
  rw [this,e]
  rfl
 have e:=(zaE _ _).1 hc
 have h2:=h.c2 b hb (by rw [e]; rfl)
 rw [e] at h2
 have h3 : atI u b = 1 - atI u a:=h2
 omega
theorem vN_2 {x : Nd} {u : List Int} (h : x.k = 2) : vN x u = 1 - atI u x.a:=by
 unfold vN zeo gvS
 rw [if_neg (by omega),if_pos h]
theorem vN_3 {x : Nd} {u : List Int} (h : x.k = 3) : vN x u = min (atI u x.a) (atI u x.b):=by
 unfold vN zeo gvS
 rw [if_neg (by omega),if_neg (by omega),if_pos h]
theorem vN_4 {x : Nd} {u : List Int} (h : x.k = 4) : vN x u = max (atI u x.a) (atI u x.b):=by
 unfold vN zeo gvS
 rw [if_neg (by omega),if_neg (by omega),if_neg (by omega),if_pos h]
theorem vN_5 {x : Nd} {u : List Int} (h : x.k = 5) : vN x u = (atI u x.a + atI u x.b) % 2:=by
 unfold vN zeo gvS
 rw [if_neg (by omega),if_neg (by omega),if_neg (by omega),if_neg (by omega),if_pos h]
theorem vN_6 {x : Nd} {u : List Int} (h : x.k = 6) : vN x u = if atI u x.c = 1 then atI u x.b else atI u x.a:=by
 unfold vN zeo gvS
 rw [if_neg (by omega),if_neg (by omega),if_neg (by omega),if_neg (by omega),if_neg (by omega)]
theorem vN_c (v : Int) (u : List Int) : vN (zaw v) u = v:=rfl
theorem vN_n (a : Int) (u : List Int) : vN (notN a) u = 1 - atI u a:=rfl
theorem ok_c {P : Int → Prop} {v : Int} (h : v = 0 ∨ v = 1) : Ok P (zaw v):=⟨.inl ⟨rfl,h,rfl,rfl⟩⟩
theorem ok_n {P : Int → Prop} {a : Int} (h : P a) : Ok P (notN a):=⟨.inr (.inl ⟨rfl,h,rfl,rfl⟩)⟩
structure Ln (P F : Int → Prop) (x : Nd) (p : Int) (u : List Int) (r : Nd × Int) : Prop where
  val : vN r.1 u = vN x u
  ok : Ok P r.1
  less : r.1 ≠ x → rk r.1 < rk x ∧ r.2 = p ∧ ∀ y ∈ zag r.1,y ∈ zag x
  st : r.1 = x → r.2 = p ∨ (P r.2 ∧ F r.2 ∧ atI u r.2 = vN x u)
section
variable {P F : Int → Prop} {M : List Nd} {u : List Int} {x : Nd} {p : Int}
theorem Ln.self (hx : Ok P x) : Ln P F x p u (x,p):=⟨rfl,hx,fun h => absurd rfl h,fun _ => .inl rfl⟩
theorem Ln.stand (hx : Ok P x) {s : Int} (hs : P s) (hf : F s) (hv : atI u s = vN x u) : Ln P F x p u (x,s):=⟨rfl,hx,fun h => absurd rfl h,fun _ => .inr ⟨hs,hf,hv⟩⟩
theorem Ln.new {b : Nd} (hb : Ok P b) (hv : vN b u = vN x u) (hr : rk b < rk x) (hu : ∀ y ∈ zag b,y ∈ zag x) : Ln P F x p u (b,p):=⟨hv,hb,fun _ => ⟨hr,rfl,hu⟩,fun e => by have : b = x:=e; rw [this] at hr; omega⟩
theorem uses_n (a : Int) : zag (notN a) = [a]:=rfl
theorem zbA (h : x.k = 2) : zag x = [x.a]:=by unfold zag zau; rw [h]; rfl
theorem zay (h : x.k = 3 ∨ x.k = 4 ∨ x.k = 5) : zag x = [x.a,x.b]:=by unfold zag zau; rcases h with h | h | h <;> rw [h] <;> rfl
theorem zaN (h : x.k = 6) : zag x = [x.a,x.b,x.c]:=by unfold zag zau; rw [h]; rfl
theorem notL_ok (hk : Known P M u) (hx : Ok P x) (h2 : x.k = 2) (hF : ∀ y ∈ zag x,F y) (hM : ∀ q,P q → F q → (nA M q).k = 2 → P (nA M q).a ∧ F (nA M q).a) (h01 : v01 u) : Ln P F x p u (notL M x p):=by
 have ha : P x.a:=by
  rcases hx.kd with ⟨e,_⟩ | ⟨_,h,_⟩ | ⟨e,_⟩ | ⟨e,_⟩
  ·omega
  ·exact h
  ·omega
  omega
 have rx : rk x = 1:=by unfold rk; rw [if_neg (by omega),if_neg (by omega),if_pos h2]
 unfold notL
 split
 ·rename_i h
  obtain ⟨e1,e2⟩:=hk.c0 _ ha h
  refine Ln.new (ok_c (by omega)) (by rw [vN_c,vN_2 h2,e1]) (by rw [rx]; exact (by decide : (0 : Nat) < 1)) (fun y hy => by cases hy)
 split
 ·rename_i h
  obtain ⟨g1,g2⟩:=hM _ ha (hF _ (by rw [zbA h2]; simp)) h
  exact Ln.stand hx g1 g2 (by rw [vN_2 h2,hk.c2 _ ha h]; omega)
 exact Ln.self hx
theorem two_of (hx : Ok P x) (h : x.k = 3 ∨ x.k = 4 ∨ x.k = 5) : P x.a ∧ P x.b:=by
 rcases hx.kd with ⟨e,_⟩ | ⟨e,_⟩ | ⟨_,h1,h2,_⟩ | ⟨e,_⟩
 ·omega
 ·omega
 ·exact ⟨h1,h2⟩
 omega
theorem rk_b (h : x.k = 3 ∨ x.k = 4 ∨ x.k = 5) : rk x = 2:=by unfold rk; rw [if_neg (by omega),if_pos h]
theorem aoL_ok (hk : Known P M u) (hx : Ok P x) {r : Int} (hr : (x.k = 3 ∧ r = 0) ∨ (x.k = 4 ∧ r = 1)) (hF : ∀ y ∈ zag x,F y) (h01 : v01 u) : Ln P F x p u (aoL M x p r):=by
 have H0 : x.k = 3 ∨ x.k = 4 ∨ x.k = 5:=by omega
 obtain ⟨ha,hb⟩:=two_of hx H0
 have rx:=rk_b H0
 have fa : F x.a:=hF _ (by rw [zay H0]; simp)
 have fb : F x.b:=hF _ (by rw [zay H0]; simp)
 have a01:=h01.at x.a
 have b01:=h01.at x.b
 have ev : ∀ s : Int,(x.k = 3 ∧ r = 0 → s = min (atI u x.a) (atI u x.b)) → (x.k = 4 ∧ r = 1 → s = max (atI u x.a) (atI u x.b)) → s = vN x u:=fun s h1 h2 => by
  rcases hr with h | h
  ·rw [vN_3 h.1]; exact h1 h
  rw [vN_4 h.1]; exact h2 h
 have oc : r = 0 ∨ r = 1:=by omega
 unfold aoL
 split
 ·rename_i h
  rw [Bool.or_eq_true] at h
  refine Ln.new (ok_c oc) ?_ (by rw [rx]; exact (by decide : (0 : Nat) < 2)) (fun y hy => by cases hy)
  rw [vN_c]
  rcases h with h | h
  ·have:=zbg hk ha h
   exact ev _ (fun e => by omega) (fun e => by omega)
  have:=zbg hk hb h
  exact ev _ (fun e => by omega) (fun e => by omega)
 split
 ·rename_i h
  have:=zbg hk ha h
  exact Ln.stand hx hb fb (ev _ (fun e => by omega) (fun e => by omega))
 split
 ·rename_i h
  rw [Bool.or_eq_true] at h
  refine Ln.stand hx ha fa ?_
  rcases h with h | h
  ·have:=zbg hk hb h
   exact ev _ (fun e => by omega) (fun e => by omega)
  have e : x.a = x.b:=by simpa using h
  rw [← e] at ev
  exact ev _ (fun _ => by omega) (fun _ => by omega)
 split
 ·rename_i h
  have:=areT_val hk ha hb h
  refine Ln.new (ok_c oc) ?_ (by rw [rx]; exact (by decide : (0 : Nat) < 2)) (fun y hy => by cases hy)
  rw [vN_c]
  exact ev _ (fun e => by omega) (fun e => by omega)
 exact Ln.self hx
theorem xorL_ok (hk : Known P M u) (hx : Ok P x) (h5 : x.k = 5) (hF : ∀ y ∈ zag x,F y) (h01 : v01 u) : Ln P F x p u (xorL M x p):=by
 have H0 : x.k = 3 ∨ x.k = 4 ∨ x.k = 5:=by omega
 obtain ⟨ha,hb⟩:=two_of hx H0
 have rx:=rk_b H0
 have fa : F x.a:=hF _ (by rw [zay H0]; simp)
 have fb : F x.b:=hF _ (by rw [zay H0]; simp)
 have ua : x.a ∈ zag x:=by rw [zay H0]; simp
 have ub : x.b ∈ zag x:=by rw [zay H0]; simp
 have a01:=h01.at x.a
 have b01:=h01.at x.b
 have v5:=vN_5 (u:=u) h5
 unfold xorL
 split
 ·rename_i h
  have e : x.a = x.b:=by simpa using h
  rw [← e] at v5
  exact Ln.new (ok_c (.inl rfl)) (by rw [vN_c,v5]; omega) (by rw [rx]; exact (by decide : (0 : Nat) < 2)) (fun y hy => by cases hy)
 split
 ·rename_i h
  have:=zbg hk ha h
  exact Ln.stand hx hb fb (by rw [v5]; omega)
 split
 ·rename_i h
  have:=zbg hk hb h
  exact Ln.stand hx ha fa (by rw [v5]; omega)
 split
 ·rename_i h
  have:=zbg hk ha h
  exact Ln.new (ok_n hb) (by rw [vN_n,v5]; omega) (by rw [rx]; exact (by decide : (1 : Nat) < 2)) (fun y hy => by rw [uses_n,List.mem_singleton] at hy; rw [hy]; exact ub)
 split
 ·rename_i h
  have:=zbg hk hb h
  exact Ln.new (ok_n ha) (by rw [vN_n,v5]; omega) (by rw [rx]; exact (by decide : (1 : Nat) < 2)) (fun y hy => by rw [uses_n,List.mem_singleton] at hy; rw [hy]; exact ua)
 split
 ·rename_i h
  have:=areT_val hk ha hb h
  exact Ln.new (ok_c (.inr rfl)) (by rw [vN_c,v5]; omega) (by rw [rx]; exact (by decide : (0 : Nat) < 2)) (fun y hy => by cases hy)
 exact Ln.self hx
theorem muxL_ok (hk : Known P M u) (hx : Ok P x) (h6 : x.k = 6) (hF : ∀ y ∈ zag x,F y) (h01 : v01 u) : Ln P F x p u (muxL M x p):=by
 obtain ⟨ha,hb,hc⟩ : P x.a ∧ P x.b ∧ P x.c:=by
  rcases hx.kd with ⟨e,_⟩ | ⟨e,_⟩ | ⟨e,_⟩ | ⟨_,h⟩
  ·omega
  ·omega
  ·omega
  exact h
 have rx : rk x = 3:=by unfold rk; rw [if_pos h6]
 have ua : x.a ∈ zag x:=by rw [zaN h6]; simp
 have ub : x.b ∈ zag x:=by rw [zaN h6]; simp
 have uc : x.c ∈ zag x:=by rw [zaN h6]; simp
 have a01:=h01.at x.a
 have b01:=h01.at x.b
 have c01:=h01.at x.c
 have v6:=vN_6 (u:=u) h6
 have v6' : (atI u x.c = 1 ∧ vN x u = atI u x.b) ∨ (atI u x.c = 0 ∧ vN x u = atI u x.a):=by
  rw [v6]
  rcases c01 with h | h
  ·right; rw [if_neg (by omega)]; exact ⟨h,rfl⟩
  left; rw [if_pos h]; exact ⟨h,rfl⟩
 unfold muxL
 split
 ·rename_i h
  have:=zbg hk hc h
  exact Ln.stand hx hb (hF _ ub) (by omega)
 split
 ·rename_i h
  rw [Bool.or_eq_true] at h
  refine Ln.stand hx ha (hF _ ua) ?_
  rcases h with h | h
  ·have:=zbg hk hc h
   omega
  have e : x.a = x.b:=by simpa using h
  rw [← e] at v6'
  omega
 split
 ·rename_i h
  rw [Bool.and_eq_true] at h
  have h1:=zbg hk ha h.1
  have h2:=zbg hk hb h.2
  exact Ln.stand hx hc (hF _ uc) (by omega)
 split
 ·rename_i h
  rw [Bool.and_eq_true] at h
  have h1:=zbg hk ha h.1
  have h2:=zbg hk hb h.2
  exact Ln.new (ok_n hc) (by rw [vN_n]; omega) (by rw [rx]; exact (by decide : (1 : Nat) < 3)) (fun y hy => by rw [uses_n,List.mem_singleton] at hy; rw [hy]; exact uc)
 split
 ·rename_i h
  have h1:=zbg hk ha h
  refine Ln.new ⟨.inr (.inr (.inl ⟨.inl rfl,hb,hc,rfl⟩))⟩ ?_ (by rw [rx]; exact (by decide : (2 : Nat) < 3)) (fun y hy => ?_)
  ·rw [vN_3 rfl]
   show min (atI u x.b) (atI u x.c) = _
   omega
  rw [zay (.inl rfl)] at hy
  simp only [List.mem_cons,List.not_mem_nil,or_false] at hy
  rcases hy with rfl | rfl
  ·exact ub
  exact uc
 split
 ·rename_i h
  have h1:=zbg hk hb h
  refine Ln.new ⟨.inr (.inr (.inl ⟨.inr (.inl rfl),ha,hc,rfl⟩))⟩ ?_ (by rw [rx]; exact (by decide : (2 : Nat) < 3)) (fun y hy => ?_)
  ·rw [vN_4 rfl]
   show max (atI u x.a) (atI u x.c) = _
   omega
  rw [zay (.inr (.inl rfl))] at hy
  simp only [List.mem_cons,List.not_mem_nil,or_false] at hy
  rcases hy with rfl | rfl
  ·exact ua
  exact uc
 exact Ln.self hx
theorem lineL_ok (hk : Known P M u) (hx : Ok P x) (hF : ∀ y ∈ zag x,F y) (hM : ∀ q,P q → F q → (nA M q).k = 2 → P (nA M q).a ∧ F (nA M q).a) (h01 : v01 u) : Ln P F x p u (zbe M x p):=by
 unfold zbe
 split
 ·exact notL_ok hk hx (by assumption) hF hM h01
 split
 ·exact aoL_ok hk hx (.inl ⟨by assumption,rfl⟩) hF h01
 split
 ·exact aoL_ok hk hx (.inr ⟨by assumption,rfl⟩) hF h01
 split
 ·exact xorL_ok hk hx (by assumption) hF h01
 split
 ·exact muxL_ok hk hx (by assumption) hF h01
 exact Ln.self hx
end
theorem rk_le (x : Nd) : rk x ≤ 3:=by
 unfold rk
 repeat' split
 all_goals omega
def zbn (M : List Nd) (p : Int) : Nat → Nd → Nd × Int
 | 0,x => (x,p)
 | d + 1,x => if za6 (zbe M x p).1 x = true then zbe M x p else zbn M p d (zbe M x p).1
structure Lk (P F : Int → Prop) (M : List Nd) (x : Nd) (p : Int) (u : List Int) (r : Nd × Int) : Prop where
  val : vN r.1 u = vN x u
  ok : Ok P r.1
  us : ∀ y ∈ zag r.1,y ∈ zag x
  st : r.2 = p ∨ (P r.2 ∧ F r.2 ∧ atI u r.2 = vN x u)
  fix : zbe M r.1 p = r
theorem lookL_ok {P F : Int → Prop} {M : List Nd} {u : List Int} {p : Int} (hk : Known P M u) (hM : ∀ q,P q → F q → (nA M q).k = 2 → P (nA M q).a ∧ F (nA M q).a) (h01 : v01 u) : ∀ (d : Nat) (x : Nd),rk x < d → Ok P x → (∀ y ∈ zag x,F y) → Lk P F M x p u (zbn M p d x)
 | 0,x,h,_,_ => by omega
 | d + 1,x,h,hx,hF => by
  have hl:=lineL_ok (p:=p) hk hx hF hM h01
  unfold zbn
  split
  ·rename_i e
   have e:=(zaE _ _).1 e
   refine ⟨hl.val,hl.ok,fun y hy => by rw [e] at hy; exact hy,hl.st e,by rw [e]⟩
  rename_i e
  have e : (zbe M x p).1 ≠ x:=fun k => e ((zaE _ _).2 k)
  obtain ⟨l1,l2,l3⟩:=hl.less e
  have ih:=lookL_ok (p:=p) hk hM h01 d (zbe M x p).1 (by omega) hl.ok fun y hy => hF y (l3 y hy)
  exact ⟨ih.val.trans hl.val,ih.ok,fun y hy => l3 y (ih.us y hy),by have:=ih.st; rw [hl.val] at this; exact this,ih.fix⟩
end Go.Proofs.Ytcehklnonhalhaa
namespace Go.Proofs.Ytcehklnonhalhaa
set_option maxRecDepth 4000
def sA (S : List Int) (q : Int) : Int:=S.getD q.toNat 0
def zaG (S : List Int) (x : Nd) : Nd:=if x.k = 2 then ⟨x.k,sA S x.a,x.b,x.c⟩ else if x.k = 3 ∨ x.k = 4 ∨ x.k = 5 then ⟨x.k,sA S x.a,sA S x.b,x.c⟩ else if x.k = 6 then ⟨x.k,sA S x.a,sA S x.b,sA S x.c⟩ else x
def isIO (x : Nd) : Prop:=x.k = 1 ∨ x.k = 7
def Pr (n : Nat) (pos : Nat → Nat) (i : Nat) (q : Int) : Prop:=0 ≤ q ∧ q < (n : Int) ∧ pos q.toNat < i
theorem Pr.le {n : Nat} {pos : Nat → Nat} {i j : Nat} {q : Int} (h : Pr n pos i q) (hij : i ≤ j) : Pr n pos j q:=⟨h.1,h.2.1,Nat.lt_of_lt_of_le h.2.2 hij⟩
theorem Pr.nat {n : Nat} {pos : Nat → Nat} {i : Nat} {q : Int} (h : Pr n pos i q) : ∃ m : Nat,q = (m : Int) ∧ m < n ∧ pos m < i:=⟨q.toNat,by have:=h.1; omega,by have:=h.1; have:=h.2.1; omega,h.2.2⟩
structure Pos (N : List Nd) (pos : Nat → Nat) : Prop where
  inj : ∀ a b,a < N.length → b < N.length → pos a = pos b → a = b
  ord : ∀ q,q < N.length → (N.getD q nd0).k ≠ 7 → ∀ y ∈ zag (N.getD q nd0),pos y.toNat < pos q
  fm : N.all (zaf N.length) = true
  sol : ∃ s inn u,Sol N s inn u ∧ v01 u
structure FI (N : List Nd) (pos : Nat → Nat) (i : Nat) (M : List Nd) (S : List Int) : Prop where
  lm : M.length = N.length
  ls : S.length = N.length
  old : ∀ q,q < N.length → i ≤ pos q → M.getD q nd0 = N.getD q nd0
  io : ∀ q,q < N.length → pos q < i → isIO (N.getD q nd0) → M.getD q nd0 = N.getD q nd0 ∧ S.getD q 0 = (q : Int)
  ok : ∀ q,q < N.length → pos q < i → ¬ isIO (N.getD q nd0) → Ok (Pr N.length pos (pos q)) (M.getD q nd0)
  st : ∀ q,q < N.length → pos q < i → Pr N.length pos (pos q + 1) (S.getD q 0) ∧ sA S (S.getD q 0) = S.getD q 0
  fx : ∀ q,q < N.length → pos q < i → S.getD q 0 = (q : Int) → ¬ isIO (N.getD q nd0) → ∀ y ∈ zag (M.getD q nd0),sA S y = y
  va : ∀ s inn u,Sol N s inn u → v01 u → ∀ q,q < N.length → pos q < i → atI u (S.getD q 0) = u.getD q 0 ∧ (¬ isIO (N.getD q nd0) → vN (M.getD q nd0) u = u.getD q 0)
  nf : ∀ q,q < N.length → pos q < i → S.getD q 0 = (q : Int) → ¬ isIO (N.getD q nd0) → zbe M (M.getD q nd0) q = (M.getD q nd0,(q : Int))
structure RwN (N : List Nd) (pos : Nat → Nat) (i : Nat) (M : List Nd) (S : List Int) : Prop where
  lm : M.length = N.length
  ls : S.length = N.length
  io : ∀ q,q < N.length → pos q < i → isIO (N.getD q nd0) → M.getD q nd0 = N.getD q nd0 ∧ S.getD q 0 = (q : Int)
  ok : ∀ q,q < N.length → pos q < i → ¬ isIO (N.getD q nd0) → Ok (Pr N.length pos (pos q)) (M.getD q nd0)
  st : ∀ q,q < N.length → pos q < i → Pr N.length pos (pos q + 1) (S.getD q 0) ∧ sA S (S.getD q 0) = S.getD q 0
  fx : ∀ q,q < N.length → pos q < i → S.getD q 0 = (q : Int) → ¬ isIO (N.getD q nd0) → ∀ y ∈ zag (M.getD q nd0),sA S y = y
  va : ∀ s inn u,Sol N s inn u → v01 u → ∀ q,q < N.length → pos q < i → atI u (S.getD q 0) = u.getD q 0 ∧ (¬ isIO (N.getD q nd0) → vN (M.getD q nd0) u = u.getD q 0)
theorem FI.rw {N : List Nd} {pos : Nat → Nat} {i : Nat} {M : List Nd} {S : List Int} (h : FI N pos i M S) : RwN N pos i M S:=⟨h.lm,h.ls,h.io,h.ok,h.st,h.fx,h.va⟩
theorem FI.start {N : List Nd} {pos : Nat → Nat} : FI N pos 0 N (List.replicate N.length 0):=
 ⟨rfl,by simp,fun q _ _ => rfl,fun q _ h => by omega,fun q _ h => by omega,fun q _ h => by omega,fun q _ h => by omega,fun s inn u _ _ q _ h => by omega,fun q _ h => by omega⟩
theorem Ok.mono {P Q : Int → Prop} {x : Nd} (h : Ok P x) (hq : ∀ y,P y → Q y) : Ok Q x:=by
 rcases h.kd with h | ⟨a,b,c⟩ | ⟨a,b,c,d⟩ | ⟨a,b,c,d⟩
 ·exact ⟨.inl h⟩
 ·exact ⟨.inr (.inl ⟨a,hq _ b,c⟩)⟩
 ·exact ⟨.inr (.inr (.inl ⟨a,hq _ b,hq _ c,d⟩))⟩
 exact ⟨.inr (.inr (.inr ⟨a,hq _ b,hq _ c,hq _ d⟩))⟩
theorem Ok.uses {P : Int → Prop} {x : Nd} (h : Ok P x) : ∀ y ∈ zag x,P y:=by
 intro y hy
 rcases h.kd with ⟨e,_⟩ | ⟨e,a,_⟩ | ⟨e,a,b,_⟩ | ⟨e,a,b,c⟩
 ·unfold zag zau at hy
  rw [e] at hy
  simp at hy
 ·rw [zbA e,List.mem_singleton] at hy
  rw [hy]; exact a
 ·rw [zay e] at hy
  simp only [List.mem_cons,List.not_mem_nil,or_false] at hy
  rcases hy with rfl | rfl
  ·exact a
  exact b
 rw [zaN e] at hy
 simp only [List.mem_cons,List.not_mem_nil,or_false] at hy
 rcases hy with rfl | rfl | rfl
 ·exact a
 ·exact b
 exact c
theorem Ok.io {P : Int → Prop} {x : Nd} (h : Ok P x) : ¬ isIO x:=by
 unfold isIO
 rcases h.kd with ⟨e,_⟩ | ⟨e,a,_⟩ | ⟨e,a,b,_⟩ | ⟨e,a,b,c⟩ <;> omega
theorem zcZ {P : Int → Prop} {M M' : List Nd} {x : Nd} (hx : Ok P x) (h : ∀ y ∈ zag x,nA M y = nA M' y) (p : Int) : zbe M x p = zbe M' x p:=by
 unfold zbe
 rcases hx.kd with ⟨e,_⟩ | ⟨e,a,_⟩ | ⟨e,a,b,_⟩ | ⟨e,a,b,c⟩
 ·rw [if_neg (by omega),if_neg (by omega),if_neg (by omega),if_neg (by omega),if_neg (by omega),if_neg (by omega),if_neg (by omega),if_neg (by omega),if_neg (by omega),if_neg (by omega)]
 ·have h1:=h x.a (by rw [zbA e]; simp)
  rw [if_pos e,if_pos e]
  unfold notL
  rw [h1]
 ·have h1:=h x.a (by rw [zay e]; simp)
  have h2:=h x.b (by rw [zay e]; simp)
  unfold aoL xorL isC areT
  rw [h1,h2]
  have n2 : ¬ x.k = 2:=by omega
  have n6 : ¬ x.k = 6:=by omega
  simp only [if_neg n2,if_neg n6]
 have h1:=h x.a (by rw [zaN e]; simp)
 have h2:=h x.b (by rw [zaN e]; simp)
 have h3:=h x.c (by rw [zaN e]; simp)
 unfold muxL isC
 rw [h1,h2,h3]
 have n2 : ¬ x.k = 2:=by omega
 have n3 : ¬ x.k = 3:=by omega
 have n4 : ¬ x.k = 4:=by omega
 have n5 : ¬ x.k = 5:=by omega
 simp only [if_neg n2,if_neg n3,if_neg n4,if_neg n5]
theorem usesF_k (S : List Int) (x : Nd) : (zaG S x).k = x.k:=by
 unfold zaG
 repeat' split
 all_goals rfl
theorem zdq (S : List Int) (x : Nd) (h7 : x.k ≠ 7) : zag (zaG S x) = (zag x).map (sA S):=by
 unfold zaG
 by_cases h2 : x.k = 2
 ·rw [if_pos h2,zbA h2,zbA (x:=⟨x.k,sA S x.a,x.b,x.c⟩) h2]
  rfl
 rw [if_neg h2]
 by_cases hb : x.k = 3 ∨ x.k = 4 ∨ x.k = 5
 ·rw [if_pos hb,zay hb,zay (x:=⟨x.k,sA S x.a,sA S x.b,x.c⟩) hb]
  rfl
 rw [if_neg hb]
 by_cases h6 : x.k = 6
 ·rw [if_pos h6,zaN h6,zaN (x:=⟨x.k,sA S x.a,sA S x.b,sA S x.c⟩) h6]
  rfl
 rw [if_neg h6]
 have : zag x = []:=by
  unfold zag zau
  rw [if_neg (by omega),if_neg hb,if_neg h6]
  rfl
 rw [this]
 rfl
theorem zep {n : Nat} {x : Nd} (h : zaf (n : Int) x = true) (hio : ¬ isIO x) : Ok (fun y => 0 ≤ y ∧ y < (n : Int)) x:=by
 unfold isIO at hio
 unfold zaf za8 at h
 simp only [Bool.and_eq_true,decide_eq_true_eq] at h
 obtain ⟨⟨h0,h7⟩,hs,hu,hr⟩:=h
 have hs:=(zaE _ _).1 hs
 have hp : ∀ y ∈ zag x,0 ≤ y ∧ y < (n : Int):=fun y hy => by
  have:=List.all_eq_true.1 hu y hy
  unfold zaj at this
  simpa using this
 rcases (show x.k = 0 ∨ x.k = 2 ∨ (x.k = 3 ∨ x.k = 4 ∨ x.k = 5) ∨ x.k = 6 by omega) with e | e | e | e
 ·unfold zcS bitS at hr
  rw [if_pos e] at hr
  unfold zcd at hs
  rw [if_neg (by omega),if_pos (.inl e)] at hs
  refine ⟨.inl ⟨e,by simpa using hr,?_,?_⟩⟩
  ·rw [hs]
  rw [hs]
 ·unfold zcd at hs
  rw [if_neg (by omega),if_pos (.inr e)] at hs
  exact ⟨.inr (.inl ⟨e,hp _ (by rw [zbA e]; simp),by rw [hs],by rw [hs]⟩)⟩
 ·unfold zcd at hs
  rw [if_neg (by omega),if_neg (by omega),if_pos (by omega)] at hs
  exact ⟨.inr (.inr (.inl ⟨e,hp _ (by rw [zay e]; simp),hp _ (by rw [zay e]; simp),by rw [hs]⟩))⟩
 exact ⟨.inr (.inr (.inr ⟨e,hp _ (by rw [zaN e]; simp),hp _ (by rw [zaN e]; simp),hp _ (by rw [zaN e]; simp)⟩))⟩
theorem zda {P Q : Int → Prop} {S : List Int} {x : Nd} (h : Ok P x) (hq : ∀ y ∈ zag x,Q (sA S y)) : Ok Q (zaG S x):=by
 unfold zaG
 rcases h.kd with ⟨e,h1,h2,h3⟩ | ⟨e,a,h2,h3⟩ | ⟨e,a,b,h3⟩ | ⟨e,a,b,c⟩
 ·rw [if_neg (by omega),if_neg (by omega),if_neg (by omega)]
  exact ⟨.inl ⟨e,h1,h2,h3⟩⟩
 ·rw [if_pos e]
  exact ⟨.inr (.inl ⟨e,hq _ (by rw [zbA e]; simp),h2,h3⟩)⟩
 ·rw [if_neg (by omega),if_pos e]
  exact ⟨.inr (.inr (.inl ⟨e,hq _ (by rw [zay e]; simp),hq _ (by rw [zay e]; simp),h3⟩))⟩
 rw [if_neg (by omega),if_neg (by omega),if_pos e]
 exact ⟨.inr (.inr (.inr ⟨e,hq _ (by rw [zaN e]; simp),hq _ (by rw [zaN e]; simp),hq _ (by rw [zaN e]; simp)⟩))⟩
theorem vN_usesF {P : Int → Prop} {S : List Int} {x : Nd} {u : List Int} (h : Ok P x) (hv : ∀ y ∈ zag x,atI u (sA S y) = atI u y) : vN (zaG S x) u = vN x u:=by
 unfold zaG
 rcases h.kd with ⟨e,h1,h2,h3⟩ | ⟨e,a,h2,h3⟩ | ⟨e,a,b,h3⟩ | ⟨e,a,b,c⟩
 ·rw [if_neg (by omega),if_neg (by omega),if_neg (by omega)]
 ·rw [if_pos e,vN_2 e,vN_2 (x:=⟨x.k,sA S x.a,x.b,x.c⟩) e]
  show 1 - atI u (sA S x.a) = _
  rw [hv _ (by rw [zbA e]; simp)]
 ·have h1:=hv x.a (by rw [zay e]; simp)
  have h2:=hv x.b (by rw [zay e]; simp)
  rw [if_neg (by omega),if_pos e]
  unfold vN zeo
  show (if x.k = 0 then sA S x.a else gvS x.k (atI u (sA S x.a)) (atI u (sA S x.b)) (atI u x.c)) = _
  rw [h1,h2,if_neg (by omega),if_neg (by omega)]
 have h1:=hv x.a (by rw [zaN e]; simp)
 have h2:=hv x.b (by rw [zaN e]; simp)
 have h3:=hv x.c (by rw [zaN e]; simp)
 rw [if_neg (by omega),if_neg (by omega),if_pos e]
 unfold vN zeo
 show (if x.k = 0 then sA S x.a else gvS x.k (atI u (sA S x.a)) (atI u (sA S x.b)) (atI u (sA S x.c))) = _
 rw [h1,h2,h3,if_neg (by omega),if_neg (by omega)]
theorem zaT {α : Type} (L : List α) (q : Nat) (x d : α) (j : Nat) (hq : q < L.length) : (L.set q x).getD j d = if j = q then x else L.getD j d:=by
 rw [List.getD_eq_getElem?_getD,List.getElem?_set]
 by_cases e : j = q
 ·rw [if_pos e.symm,if_pos hq,if_pos e]
  rfl
 rw [if_neg (fun h => e h.symm),if_neg e,← List.getD_eq_getElem?_getD]
theorem look_io (M : List Nd) (S : List Int) (p : Int) {x : Nd} (h : isIO x) : zbn M p 4 (zaG S x) = (x,p):=by
 have e1 : zaG S x = x:=by
  unfold zaG isIO at *
  rw [if_neg (by omega),if_neg (by omega),if_neg (by omega)]
 have e2 : zbe M x p = (x,p):=by
  unfold zbe isIO at *
  rw [if_neg (by omega),if_neg (by omega),if_neg (by omega),if_neg (by omega),if_neg (by omega)]
 rw [e1]
 unfold zbn
 rw [e2,if_pos ((zaE _ _).2 rfl)]
theorem Pos.at {N : List Nd} {pos : Nat → Nat} (hp : Pos N pos) {q : Nat} (hq : q < N.length) (hio : ¬ isIO (N.getD q nd0)) : Ok (Pr N.length pos (pos q)) (N.getD q nd0):=by
 have hm : N.getD q nd0 ∈ N:=by
  rw [List.getD_eq_getElem?_getD,List.getElem?_eq_getElem hq]
  exact List.getElem_mem hq
 have h1:=zep (List.all_eq_true.1 hp.fm _ hm) hio
 have h2:=h1.uses
 have h7 : (N.getD q nd0).k ≠ 7:=fun e => hio (.inr e)
 have h3:=hp.ord q hq h7
 rcases h1.kd with h | ⟨a,b,c⟩ | ⟨a,b,c,d⟩ | ⟨a,b,c,d⟩
 ·exact ⟨.inl h⟩
 ·exact ⟨.inr (.inl ⟨a,⟨b.1,b.2,h3 _ (by rw [zbA a]; simp)⟩,c⟩)⟩
 ·exact ⟨.inr (.inr (.inl ⟨a,⟨b.1,b.2,h3 _ (by rw [zay a]; simp)⟩,⟨c.1,c.2,h3 _ (by rw [zay a]; simp)⟩,d⟩))⟩
 exact ⟨.inr (.inr (.inr ⟨a,⟨b.1,b.2,h3 _ (by rw [zaN a]; simp)⟩,⟨c.1,c.2,h3 _ (by rw [zaN a]; simp)⟩,⟨d.1,d.2,h3 _ (by rw [zaN a]; simp)⟩⟩))⟩
theorem sol_vN {N : List Nd} {s inn u : List Int} (h : Sol N s inn u) {q : Nat} (hq : q < N.length) (hio : ¬ isIO (N.getD q nd0)) : vN (N.getD q nd0) u = u.getD q 0:=by
 rw [h.2 q hq]
 unfold vN zcx isIO at *
 by_cases h0 : (N.getD q nd0).k = 0
 ·rw [if_pos h0,if_pos h0]
 rw [if_neg h0,if_neg h0,if_neg (by omega),if_neg (by omega)]
theorem FI.known {N : List Nd} {pos : Nat → Nat} {i : Nat} {M : List Nd} {S : List Int} (h : FI N pos i M S) {s inn u : List Int} (hs : Sol N s inn u) (h01 : v01 u) : Known (Pr N.length pos i) M u:=by
 have key : ∀ q,Pr N.length pos i q → ∀ k,(nA M q).k = k → k ≠ 1 → k ≠ 7 → vN (nA M q) u = atI u q ∧ Ok (Pr N.length pos (pos q.toNat)) (nA M q):=by
  intro q hq k hk h1 h7
  obtain ⟨m,rfl,hm,hpm⟩:=hq.nat
  unfold nA at hk ⊢
  rw [Int.toNat_natCast] at hk ⊢
  have H0 : ¬ isIO (N.getD m nd0):=fun H0 => by
   have e:=(h.io m hm hpm H0).1
   rw [e] at hk
   unfold isIO at H0
   omega
  refine ⟨?_,h.ok m hm hpm H0⟩
  unfold atI
  rw [Int.toNat_natCast]
  exact (h.va s inn u hs h01 m hm hpm).2 H0
 refine ⟨fun q hq hk => ?_,fun q hq hk => ?_⟩
 ·obtain ⟨h1,h2⟩:=key q hq 0 hk (by omega) (by omega)
  rcases h2.kd with ⟨_,g,_⟩ | ⟨e,_⟩ | ⟨e,_⟩ | ⟨e,_⟩
  ·refine ⟨?_,g⟩
   rw [← h1]
   unfold vN
   rw [if_pos hk]
  all_goals omega
 obtain ⟨h1,h2⟩:=key q hq 2 hk (by omega) (by omega)
 rw [← h1,vN_2 hk]
theorem FI.step {N : List Nd} {pos : Nat → Nat} {i : Nat} {M : List Nd} {S : List Int} (hp : Pos N pos) (h : FI N pos i M S) {q : Nat} (hq : q < N.length) (hi : pos q = i) {r : Nd × Int} (hr : zbn M q 4 (zaG S (M.getD q nd0)) = r) : FI N pos (i + 1) (M.set q r.1) (S.set q r.2):=by
 have eM : ∀ j,(M.set q r.1).getD j nd0 = if j = q then r.1 else M.getD j nd0:=fun j => zaT M q r.1 nd0 j (by rw [h.lm]; exact hq)
 have eS : ∀ j,(S.set q r.2).getD j 0 = if j = q then r.2 else S.getD j 0:=fun j => zaT S q r.2 0 j (by rw [h.ls]; exact hq)
 have H5:=h.old q hq (by omega)
 have eq2 : sA (S.set q r.2) (q : Int) = r.2:=by
  unfold sA
  rw [Int.toNat_natCast,eS,if_pos rfl]
 have H0 : ∀ j,j < N.length → pos j < i + 1 → j = q ∨ (j ≠ q ∧ pos j < i):=fun j hj hp1 => by
  by_cases e : j = q
  ·exact .inl e
  refine .inr ⟨e,?_⟩
  have : pos j ≠ i:=fun k => e (hp.inj j q hj hq (k.trans hi.symm))
  omega
 have H4 : ∀ y k,k ≤ i → Pr N.length pos k y → y.toNat ≠ q:=fun y k hk hy e => by
  have:=hy.2.2
  rw [e] at this
  omega
 have H3 : ∀ y k,k ≤ i → Pr N.length pos k y → sA (S.set q r.2) y = sA S y:=fun y k hk hy => by
  unfold sA
  rw [eS,if_neg (H4 y k hk hy)]
 have H6 : ∀ y k,k ≤ i → Pr N.length pos k y → nA (M.set q r.1) y = nA M y:=fun y k hk hy => by
  unfold nA
  rw [eM,if_neg (H4 y k hk hy)]
 have hM : ∀ z,Pr N.length pos i z → sA S z = z → (nA M z).k = 2 → Pr N.length pos i (nA M z).a ∧ sA S (nA M z).a = (nA M z).a:=by
  intro z hz hf hk
  obtain ⟨m,rfl,hm,hpm⟩:=hz.nat
  unfold nA at hk ⊢
  rw [Int.toNat_natCast] at hk ⊢
  have H1 : ¬ isIO (N.getD m nd0):=fun H1 => by
   have e:=(h.io m hm hpm H1).1
   rw [e] at hk
   unfold isIO at H1
   omega
  have ho:=h.ok m hm hpm H1
  have hu : (M.getD m nd0).a ∈ zag (M.getD m nd0):=by rw [zbA hk]; simp
  refine ⟨(ho.uses _ hu).le (by omega),?_⟩
  unfold sA at hf
  rw [Int.toNat_natCast] at hf
  exact h.fx m hm hpm hf H1 _ hu
 by_cases H1 : isIO (N.getD q nd0)
 ·have e : r = (N.getD q nd0,(q : Int)):=by rw [← hr,H5,look_io M S q H1]
  have e1 : r.1 = N.getD q nd0:=by rw [e]
  have e2 : r.2 = (q : Int):=by rw [e]
  refine ⟨by rw [List.length_set]; exact h.lm,by rw [List.length_set]; exact h.ls,fun j hj hpj => ?_,fun j hj hpj k => ?_,fun j hj hpj k => ?_,fun j hj hpj => ?_,fun j hj hpj hs k => ?_,fun s inn u hs h01 j hj hpj => ?_,fun j hj hpj hs k => ?_⟩
  ·rw [eM,if_neg (by intro e; rw [e] at hpj; omega)]
   exact h.old j hj (by omega)
  ·rw [eM,eS]
   rcases H0 j hj hpj with e | ⟨e,hpj⟩
   ·rw [if_pos e,if_pos e,e1,e2,e]; exact ⟨rfl,rfl⟩
   rw [if_neg e,if_neg e]; exact h.io j hj hpj k
  ·rcases H0 j hj hpj with e | ⟨e,hpj⟩
   ·rw [e] at k; exact absurd H1 k
   rw [eM,if_neg e]; exact h.ok j hj hpj k
  ·rw [eS]
   rcases H0 j hj hpj with e | ⟨e,hpj⟩
   ·rw [if_pos e,e]
    have g:=eq2
    rw [← e2] at g
    exact ⟨by rw [e2]; exact ⟨by omega,by omega,by rw [Int.toNat_natCast]; omega⟩,g⟩
   rw [if_neg e]
   obtain ⟨g1,g2⟩:=h.st j hj hpj
   exact ⟨g1,by rw [H3 _ _ (by omega) g1]; exact g2⟩
  ·rcases H0 j hj hpj with e | ⟨e,hpj⟩
   ·rw [e] at k; exact absurd H1 k
   rw [eS,if_neg e] at hs
   rw [eM,if_neg e]
   intro y hy
   rw [H3 y _ (by omega) ((h.ok j hj hpj k).uses y hy)]
   exact h.fx j hj hpj hs k y hy
  ·rw [eM,eS]
   rcases H0 j hj hpj with e | ⟨e,hpj⟩
   ·rw [if_pos e,if_pos e,e2,e]
    refine ⟨?_,fun k => absurd H1 k⟩
    unfold atI
    rw [Int.toNat_natCast]
   rw [if_neg e,if_neg e]
   exact h.va s inn u hs h01 j hj hpj
  rcases H0 j hj hpj with e | ⟨e,hpj⟩
  ·rw [e] at k; exact absurd H1 k
  rw [eS,if_neg e] at hs
  rw [eM,if_neg e]
  have ho:=h.ok j hj hpj k
  rw [zcZ ho (fun y hy => H6 y _ (by omega) (ho.uses y hy))]
  exact h.nf j hj hpj hs k
 have H2:=hp.at hq H1
 rw [H5] at hr
 have hst : ∀ y ∈ zag (N.getD q nd0),Pr N.length pos i (sA S y) ∧ sA S (sA S y) = sA S y:=fun y hy => by
  obtain ⟨m,rfl,hm,hpm⟩:=(H2.uses y hy).nat
  obtain ⟨g1,g2⟩:=h.st m hm (by omega)
  unfold sA at g2 ⊢
  rw [Int.toNat_natCast]
  exact ⟨g1.le (by omega),g2⟩
 have hx0 : Ok (Pr N.length pos i) (zaG S (N.getD q nd0)):=zda H2 fun y hy => (hst y hy).1
 have hF0 : ∀ y ∈ zag (zaG S (N.getD q nd0)),sA S y = y:=fun y hy => by
  rw [zdq S _ (fun e => H1 (.inr e))] at hy
  obtain ⟨z,hz,rfl⟩:=List.mem_map.1 hy
  exact (hst z hz).2
 have lk : ∀ s inn u,Sol N s inn u → v01 u → Lk (Pr N.length pos i) (fun z => sA S z = z) M (zaG S (N.getD q nd0)) q u r ∧ vN (zaG S (N.getD q nd0)) u = u.getD q 0:=fun s inn u hs h01 => by
  refine ⟨hr ▸ lookL_ok (h.known hs h01) hM h01 4 _ (by have:=rk_le (zaG S (N.getD q nd0)); omega) hx0 hF0,?_⟩
  rw [vN_usesF H2 fun y hy => ?_]
  ·exact sol_vN hs hq H1
  obtain ⟨m,rfl,hm,hpm⟩:=(H2.uses y hy).nat
  have:=(h.va s inn u hs h01 m hm (by omega)).1
  unfold sA
  rw [Int.toNat_natCast,this]
  unfold atI
  rw [Int.toNat_natCast]
 obtain ⟨s0,inn0,u0,hs0,h010⟩:=hp.sol
 have l0:=(lk s0 inn0 u0 hs0 h010).1
 refine ⟨by rw [List.length_set]; exact h.lm,by rw [List.length_set]; exact h.ls,fun j hj hpj => ?_,fun j hj hpj k => ?_,fun j hj hpj k => ?_,fun j hj hpj => ?_,fun j hj hpj hs k => ?_,fun s inn u hs h01 j hj hpj => ?_,fun j hj hpj hs k => ?_⟩
 ·rw [eM,if_neg (by intro e; rw [e] at hpj; omega)]
  exact h.old j hj (by omega)
 ·rw [eM,eS]
  rcases H0 j hj hpj with e | ⟨e,hpj⟩
  ·rw [e] at k; exact absurd k H1
  rw [if_neg e,if_neg e]; exact h.io j hj hpj k
 ·rw [eM]
  rcases H0 j hj hpj with e | ⟨e,hpj⟩
  ·rw [if_pos e,e,hi]; exact l0.ok
  rw [if_neg e]; exact h.ok j hj hpj k
 ·rw [eS]
  rcases H0 j hj hpj with e | ⟨e,hpj⟩
  ·rw [if_pos e,e]
   rcases l0.st with g | ⟨g1,g2,_⟩
   ·have g3:=eq2
    rw [← g] at g3
    exact ⟨by rw [g]; exact ⟨by omega,by omega,by rw [Int.toNat_natCast]; omega⟩,g3⟩
   exact ⟨g1.le (by omega),by rw [H3 _ _ (Nat.le_refl _) g1]; exact g2⟩
  rw [if_neg e]
  obtain ⟨g1,g2⟩:=h.st j hj hpj
  exact ⟨g1,by rw [H3 _ _ (by omega) g1]; exact g2⟩
 ·rw [eM]
  rcases H0 j hj hpj with e | ⟨e,hpj⟩
  ·rw [if_pos e]
   intro y hy
   rw [H3 y _ (Nat.le_refl _) (l0.ok.uses y hy)]
   exact hF0 y (l0.us y hy)
  rw [eS,if_neg e] at hs
  rw [if_neg e]
  intro y hy
  rw [H3 y _ (by omega) ((h.ok j hj hpj k).uses y hy)]
  exact h.fx j hj hpj hs k y hy
 ·rw [eM,eS]
  rcases H0 j hj hpj with e | ⟨e,hpj⟩
  ·obtain ⟨l,hv⟩:=lk s inn u hs h01
   rw [if_pos e,if_pos e,e]
   refine ⟨?_,fun _ => by rw [l.val,hv]⟩
   rcases l.st with g | ⟨_,_,g⟩
   ·rw [g]
    unfold atI
    rw [Int.toNat_natCast]
   rw [g,hv]
  rw [if_neg e,if_neg e]
  exact h.va s inn u hs h01 j hj hpj
 rcases H0 j hj hpj with e | ⟨e,hpj⟩
 ·rw [eS,if_pos e,e] at hs
  rw [eM,if_pos e,e,zcZ l0.ok (fun y hy => H6 y _ (Nat.le_refl _) (l0.ok.uses y hy)),l0.fix]
  exact Prod.ext rfl hs
 rw [eS,if_neg e] at hs
 rw [eM,if_neg e]
 have ho:=h.ok j hj hpj k
 rw [zcZ ho (fun y hy => H6 y _ (by omega) (ho.uses y hy))]
 exact h.nf j hj hpj hs k
set_option maxRecDepth 4000
def lvR (M : List Nd) : Nat → Nat → Nat
 | 0,q => 0
 | d + 1,q => zbk (lvR M d) (za0 (M.getD q nd0))
theorem zed {f g : Nat → Nat} {L : List Nat} (h : ∀ j ∈ L,f j = g j) : zbk f L = zbk g L:=by
 unfold zbk
 have key : ∀ (L : List Nat) (m : Nat),(∀ j ∈ L,f j = g j) → L.foldl (fun m j => max m (f j + 1)) m = L.foldl (fun m j => max m (g j + 1)) m:=by
  intro L
  induction L with
  | nil => intro m _; rfl
  | cons j L ih =>
   intro m h
   rw [List.foldl_cons,List.foldl_cons,h j (List.mem_cons_self ..)]
   exact ih _ fun k hk => h k (List.mem_cons_of_mem _ hk)
 exact key L 0 h
theorem all_rank {M : List Nd} {pos : Nat → Nat} (h : ∀ q,q < M.length → ∀ j ∈ za0 (M.getD q nd0),j < M.length ∧ pos j < pos q) : ∃ f,All M f:=by
 have key : ∀ d d' q,q < M.length → pos q < d → pos q < d' → lvR M d q = lvR M d' q:=by
  intro d
  induction d with
  | zero => intro d' q _ h1; omega
  | succ d ih =>
   intro d' q hq h1 h2
   cases d' with
   | zero => omega
   | succ d' =>
    unfold lvR
    refine zed fun j hj => ?_
    obtain ⟨g1,g2⟩:=h q hq j hj
    exact ih d' j g1 (by omega) (by omega)
 refine ⟨fun q => lvR M (pos q + 1) q,fun q hq => ⟨M[q],List.getElem?_eq_getElem hq,fun j hj => ?_,?_⟩⟩
 ·exact (h q hq j (by rw [List.getD_eq_getElem?_getD,List.getElem?_eq_getElem hq]; exact hj)).1
 have e : M.getD q nd0 = M[q]:=by rw [List.getD_eq_getElem?_getD,List.getElem?_eq_getElem hq]; rfl
 show zbk (lvR M (pos q)) (za0 (M.getD q nd0)) = _
 rw [e]
 refine zed fun j hj => ?_
 obtain ⟨g1,g2⟩:=h q hq j (by rw [e]; exact hj)
 exact key _ _ j g1 g2 (by omega)
theorem idx_ne {p q : Nat} (h : p ≠ q) (L : List Nat) : (p :: L).idxOf q = L.idxOf q + 1:=by
 rw [List.idxOf_cons,show (p == q) = false from beq_eq_false_iff_ne.2 h]
 rfl
theorem ord_pos {dep : Nat → List Nat} : ∀ {L : List Nat},Ord dep L → ∀ q ∈ L,∀ j ∈ dep q,j ∈ L → L.idxOf j < L.idxOf q
 | [],_,q,hq,_,_,_ => by cases hq
 | p :: L,h,q,hq,j,hj,hjl => by
  obtain ⟨h1,h2,h3⟩:=h
  by_cases hjp : j = p
  ·subst hjp
   have H0 : q ≠ j:=fun e => by subst e; exact (h2 q hj).1 rfl
   rw [List.idxOf_cons_self,idx_ne (fun e => H0 e.symm)]
   omega
  have hj2 : j ∈ L:=by
   rcases List.mem_cons.1 hjl with e | h
   ·exact absurd e hjp
   exact h
  have hqp : q ≠ p:=fun e => by subst e; exact (h2 j hj).2 hj2
  have H0 : q ∈ L:=by
   rcases List.mem_cons.1 hq with e | h
   ·exact absurd e hqp
   exact h
  rw [idx_ne (fun e => hjp e.symm),idx_ne (fun e => hqp e.symm)]
  have:=ord_pos h3 q H0 j hj hj2
  omega
structure Same2 (N M : List Nd) : Prop where
  len : M.length = N.length
  fm : M.all (zaf M.length) = true
  all : ∃ f,All M f
  sol : ∀ s inn u,Sol N s inn u → v01 u → Sol M s inn u
  st : zcP M = zcP N
  nx : ∀ s inn u,Sol N s inn u → v01 u → zeC M u = zeC N u
theorem nI_lt {N : List Nd} {L : List Nat} (ho : Odr N L) : ∀ q ∈ nI L,q.toNat < N.length:=fun q hq => by
 unfold nI at hq
 obtain ⟨r,hr,rfl⟩:=List.mem_map.1 hq
 have:=(ho.mem r).1 hr
 simpa using this
theorem run_same {N M : List Nd} (h : Same2 N M) {I O O2 : List Pt} {L L2 : List Nat} (ho : Odr N L) (ho2 : Odr M L2) (hf : N.all (zaf N.length) = true) (hout : ∀ s inn u,Sol N s inn u → v01 u → outS O2 u = outS O u) (xss : List (List Nat)) : ze0 M I O2 (nI L2) xss = ze0 N I O (nI L) xss:=by
 obtain ⟨f,hfa⟩:=h.all
 have hv : ∀ st,v01 st → ∀ xs,rval M I (nI L2) st xs = rval N I (nI L) st xs ∧ Sol N st (insR I xs (List.replicate N.length 0) I.length) (rval N I (nI L) st xs) ∧ v01 (rval N I (nI L) st xs):=fun st H0 xs => by
  have s1:=zcW ho hf st (insR I xs (List.replicate N.length 0) I.length)
  have s2:=zcW ho2 h.fm st (insR I xs (List.replicate M.length 0) I.length)
  have h01 : v01 (rval N I (nI L) st xs):=rval_01 hf I xs (nI_lt ho) H0
  rw [h.len] at s2
  refine ⟨?_,s1,h01⟩
  unfold rval
  rw [h.len]
  exact zds hfa h.fm s2 (h.sol _ _ _ s1 h01)
 have H0 : ∀ j,rst M I (nI L2) xss j = rst N I (nI L) xss j:=by
  intro j
  induction j with
  | zero => exact h.st
  | succ j ih =>
   unfold rst
   rw [ih]
   obtain ⟨g1,g2,g3⟩:=hv (rst N I (nI L) xss j) (rst_01 hf I xss (nI_lt ho) j) (xss.getD j [])
   rw [g1]
   exact h.nx _ _ _ g2 g3
 unfold ze0
 split
 ·congr 1
  refine List.map_congr_left fun j _ => ?_
  unfold rtold
  rw [H0 j]
  obtain ⟨g1,g2,g3⟩:=hv (rst N I (nI L) xss j) (rst_01 hf I xss (nI_lt ho) j) (xss.getD j [])
  rw [g1]
  exact hout _ _ _ g2 g3
 rfl
set_option maxRecDepth 4000
def dffS (S : List Int) (x : Nd) : Nd:=if x.k = 7 then ⟨x.k,sA S x.a,x.b,x.c⟩ else x
def outF (S : List Int) (p : Pt) : Pt:=⟨p.name,p.bits.map (sA S)⟩
theorem dff_k (S : List Int) (x : Nd) : (dffS S x).k = x.k:=by
 unfold dffS
 split <;> rfl
theorem dff_at (M : List Nd) (S : List Int) {q : Nat} (hq : q < M.length) : (M.map (dffS S)).getD q nd0 = dffS S (M.getD q nd0):=by
 rw [List.getD_eq_getElem?_getD,List.getElem?_map,List.getD_eq_getElem?_getD,List.getElem?_eq_getElem hq]
 rfl
theorem mem_at {M : List Nd} {x : Nd} (h : x ∈ M) : ∃ q,q < M.length ∧ M.getD q nd0 = x:=by
 obtain ⟨q,hq,e⟩:=List.getElem_of_mem h
 exact ⟨q,hq,by rw [List.getD_eq_getElem?_getD,List.getElem?_eq_getElem hq]; exact e⟩
theorem zey {M : List Nd} {q : Nat} (hq : q < M.length) : M.getD q nd0 ∈ M:=by
 rw [List.getD_eq_getElem?_getD,List.getElem?_eq_getElem hq]
 exact List.getElem_mem hq
theorem Pr.place {n : Nat} {pos : Nat → Nat} {i : Nat} {q : Int} (h : Pr n pos i q) : zaj (n : Int) q = true:=by
 obtain ⟨h1,h2,_⟩:=h
 unfold zaj
 simp [h1,h2]
theorem Ok.formed {n : Nat} {x : Nd} {P : Int → Prop} (h : Ok P x) (hp : ∀ y,P y → zaj (n : Int) y = true) : zaf (n : Int) x = true:=by
 obtain ⟨k,a,b,c⟩:=x
 rcases h.kd with ⟨e,h1,h2,h3⟩ | ⟨e,a1,h2,h3⟩ | ⟨e,a1,b1,h3⟩ | ⟨e,a1,b1,c1⟩
 ·simp only at e h1 h2 h3
  subst e h2 h3
  unfold zaf za6 zcd zag zau za8 zcS bitS
  rcases h1 with h | h <;> simp [h]
 ·simp only at e h2 h3
  subst e h2 h3
  have:=hp _ a1
  unfold zaf za6 zcd zag zau za8 zcS
  simp at this ⊢
  exact this
 ·simp only at e h3
  subst h3
  have g1:=hp _ a1
  have g2:=hp _ b1
  unfold zaf za6 zcd zag zau za8 zcS
  rcases e with e | e | e <;> subst e <;> simp at g1 g2 ⊢ <;> exact ⟨g1,g2⟩
 simp only at e
 subst e
 have g1:=hp _ a1
 have g2:=hp _ b1
 have g3:=hp _ c1
 unfold zaf za6 zcd zag zau za8 zcS
 simp at g1 g2 g3 ⊢
 exact ⟨g1,g2,g3⟩
theorem zcE {n : Nat} {x : Nd} (h : zaf (n : Int) x = true) (h7 : x.k = 7) : ∃ m : Nat,x.a = (m : Int) ∧ m < n:=by
 unfold zaf zag zau at h
 rw [h7] at h
 simp [zaj] at h
 exact ⟨x.a.toNat,by omega,by omega⟩
section
variable {N : List Nd} {pos : Nat → Nat} {i : Nat} {M : List Nd} {S : List Int}
theorem RwN.place (h : RwN N pos i M S) (hall : ∀ q,q < N.length → pos q < i) {q : Nat} (hq : q < N.length) : zaj (N.length : Int) (sA S q) = true:=by
 have:=(h.st q hq (hall q hq)).1.place
 unfold sA
 rw [Int.toNat_natCast]
 exact this
theorem RwN.formed (hp : Pos N pos) (h : RwN N pos i M S) (hall : ∀ q,q < N.length → pos q < i) : (M.map (dffS S)).all (zaf N.length) = true:=by
 rw [List.all_eq_true]
 intro y hy
 obtain ⟨x,hx,rfl⟩:=List.mem_map.1 hy
 obtain ⟨q,hq,rfl⟩:=mem_at hx
 rw [h.lm] at hq
 by_cases hio : isIO (N.getD q nd0)
 ·rw [(h.io q hq (hall q hq) hio).1]
  have hf:=List.all_eq_true.1 hp.fm _ (zey hq)
  generalize N.getD q nd0 = x at hio hf
  unfold dffS
  split
  ·rename_i e
   obtain ⟨k,a,b,c⟩:=x
   simp only at e
   subst e
   unfold zaf za6 zcd zag zau za8 zcS at hf ⊢
   simp at hf ⊢
   obtain ⟨h1,h2,h3⟩:=hf
   refine ⟨h1,?_,h3⟩
   unfold zaj at h2
   simp at h2
   obtain ⟨m,rfl⟩:=Int.eq_ofNat_of_zero_le h2.1
   exact h.place hall (by omega)
  exact hf
 have ho:=h.ok q hq (hall q hq) hio
 have e : dffS S (M.getD q nd0) = M.getD q nd0:=by
  unfold dffS
  rw [if_neg (fun e => ho.io (.inr e))]
 rw [e]
 exact ho.formed fun y hy => hy.place
theorem RwN.kinds (h : RwN N pos i M S) (hall : ∀ q,q < N.length → pos q < i) {q : Nat} (hq : q < N.length) : (isIO (N.getD q nd0) → ((M.map (dffS S)).getD q nd0).k = (N.getD q nd0).k) ∧ (¬ isIO (N.getD q nd0) → ¬ isIO ((M.map (dffS S)).getD q nd0) ∧ (M.map (dffS S)).getD q nd0 = M.getD q nd0):=by
 rw [dff_at M S (by rw [h.lm]; exact hq)]
 refine ⟨fun hio => by rw [dff_k,(h.io q hq (hall q hq) hio).1],fun hio => ?_⟩
 have ho:=h.ok q hq (hall q hq) hio
 have e : dffS S (M.getD q nd0) = M.getD q nd0:=by
  unfold dffS
  rw [if_neg (fun e => ho.io (.inr e))]
 rw [e]
 exact ⟨ho.io,rfl⟩
theorem RwN.sol (h : RwN N pos i M S) (hall : ∀ q,q < N.length → pos q < i) {s inn u : List Int} (hs : Sol N s inn u) (h01 : v01 u) : Sol (M.map (dffS S)) s inn u:=by
 refine ⟨by rw [List.length_map,h.lm]; exact hs.1,fun q hq => ?_⟩
 rw [List.length_map,h.lm] at hq
 obtain ⟨k1,k2⟩:=h.kinds hall hq
 by_cases hio : isIO (N.getD q nd0)
 ·have e:=hs.2 q hq
  rw [e]
  have hk:=k1 hio
  unfold isIO at hio
  unfold zcx
  rw [hk]
  rcases hio with h1 | h7
  ·rw [if_neg (by omega),if_pos h1,if_neg (by omega),if_pos h1]
  rw [if_neg (by omega),if_neg (by omega),if_pos h7,if_neg (by omega),if_neg (by omega),if_pos h7]
 obtain ⟨g1,g2⟩:=k2 hio
 have hv:=(h.va s inn u hs h01 q hq (hall q hq)).2 hio
 rw [g2] at g1 ⊢
 rw [← hv]
 unfold isIO at g1
 unfold vN zcx
 by_cases h0 : (M.getD q nd0).k = 0
 ·rw [if_pos h0,if_pos h0]
 rw [if_neg h0,if_neg h0,if_neg (by omega),if_neg (by omega)]
theorem map_ext {α : Type} {A B : List Nd} (hl : A.length = B.length) {f g : Nd → α} (h : ∀ q,q < B.length → f (A.getD q nd0) = g (B.getD q nd0)) : A.map f = B.map g:=by
 apply List.ext_getElem (by simp [hl])
 intro q h1 h2
 simp at h1 h2
 have:=h q h2
 rw [List.getD_eq_getElem?_getD,List.getElem?_eq_getElem h1,List.getD_eq_getElem?_getD,List.getElem?_eq_getElem h2] at this
 simpa using this
theorem RwN.dff (h : RwN N pos i M S) (hall : ∀ q,q < N.length → pos q < i) {q : Nat} (hq : q < N.length) (h7 : (N.getD q nd0).k = 7) : (M.map (dffS S)).getD q nd0 = ⟨7,sA S (N.getD q nd0).a,(N.getD q nd0).b,(N.getD q nd0).c⟩:=by
 rw [dff_at M S (by rw [h.lm]; exact hq),(h.io q hq (hall q hq) (.inr h7)).1]
 unfold dffS
 rw [if_pos h7,h7]
theorem RwN.same (hp : Pos N pos) (h : RwN N pos i M S) (hall : ∀ q,q < N.length → pos q < i) : Same2 N (M.map (dffS S)):=by
 have hl : (M.map (dffS S)).length = N.length:=by rw [List.length_map,h.lm]
 refine ⟨hl,by rw [hl]; exact h.formed hp hall,all_rank (pos:=pos) fun q hq j hj => ?_,fun s inn u hs h01 => h.sol hall hs h01,?_,fun s inn u hs h01 => ?_⟩
 ·rw [hl] at hq ⊢
  obtain ⟨k1,k2⟩:=h.kinds hall hq
  by_cases hio : isIO (N.getD q nd0)
  ·have hk:=k1 hio
   have he : za0 ((M.map (dffS S)).getD q nd0) = []:=by
    unfold za0 zag zau
    rw [hk]
    rcases hio with h1 | h7
    ·rw [if_neg (by omega),if_neg (by omega),if_neg (by omega),if_neg (by omega)]; rfl
    rw [if_pos h7]
   rw [he] at hj
   cases hj
  obtain ⟨g1,g2⟩:=k2 hio
  rw [g2] at hj
  unfold za0 at hj
  have h7 : (M.getD q nd0).k ≠ 7:=fun e => (h.ok q hq (hall q hq) hio).io (.inr e)
  rw [if_neg h7] at hj
  obtain ⟨y,hy,rfl⟩:=List.mem_map.1 hj
  obtain ⟨m,rfl,hm,hpm⟩:=((h.ok q hq (hall q hq) hio).uses y hy).nat
  rw [Int.toNat_natCast]
  exact ⟨hm,hpm⟩
 ·unfold zcP
  refine map_ext hl fun q hq => ?_
  by_cases h7 : (N.getD q nd0).k = 7
  ·rw [h.dff hall hq h7]
   unfold stR
   rw [if_pos rfl,if_pos h7]
  have : ((M.map (dffS S)).getD q nd0).k ≠ 7:=by
   obtain ⟨k1,k2⟩:=h.kinds hall hq
   by_cases hio : isIO (N.getD q nd0)
   ·rw [k1 hio]; exact h7
   exact fun e => (k2 hio).1 (.inr e)
  unfold stR
  rw [if_neg this,if_neg h7]
 unfold zeC
 refine map_ext hl fun q hq => ?_
 by_cases h7 : (N.getD q nd0).k = 7
 ·rw [h.dff hall hq h7]
  unfold nxR
  rw [if_pos rfl,if_pos h7]
  obtain ⟨m,hm,hmn⟩:=zcE (List.all_eq_true.1 hp.fm _ (zey hq)) h7
  show atI u (sA S (N.getD q nd0).a) = atI u (N.getD q nd0).a
  rw [hm]
  have:=(h.va s inn u hs h01 m hmn (hall m hmn)).1
  unfold sA
  rw [Int.toNat_natCast,this]
  unfold atI
  rw [Int.toNat_natCast]
 have : ((M.map (dffS S)).getD q nd0).k ≠ 7:=by
  obtain ⟨k1,k2⟩:=h.kinds hall hq
  by_cases hio : isIO (N.getD q nd0)
  ·rw [k1 hio]; exact h7
  exact fun e => (k2 hio).1 (.inr e)
 unfold nxR
 rw [if_neg this,if_neg h7]
theorem RwN.outs (h : RwN N pos i M S) (hall : ∀ q,q < N.length → pos q < i) {O : List Pt} (hO : ∀ p ∈ O,∀ q ∈ p.bits,zaj (N.length : Int) q = true) {s inn u : List Int} (hs : Sol N s inn u) (h01 : v01 u) : outS (O.map (outF S)) u = outS O u:=by
 unfold outS
 rw [List.map_map]
 refine List.map_congr_left fun p hp => ?_
 have key : ∀ j,j ≤ p.bits.length → numS (p.bits.map (sA S)) u j = numS p.bits u j:=by
  intro j
  induction j with
  | zero => intro _; rfl
  | succ j ih =>
   intro hj
   unfold numS
   rw [ih (by omega)]
   have e : (p.bits.map (sA S)).getD j 0 = sA S (p.bits.getD j 0):=by
    rw [List.getD_eq_getElem?_getD,List.getElem?_map,List.getD_eq_getElem?_getD,List.getElem?_eq_getElem (by omega)]
    rfl
   have hm : p.bits.getD j 0 ∈ p.bits:=by
    rw [List.getD_eq_getElem?_getD,List.getElem?_eq_getElem (by omega)]
    exact List.getElem_mem _
   have H0:=hO p hp _ hm
   rw [e]
   generalize p.bits.getD j 0 = y at H0
   unfold zaj at H0
   simp at H0
   obtain ⟨m,rfl⟩:=Int.eq_ofNat_of_zero_le H0.1
   have:=(h.va s inn u hs h01 m (by omega) (hall m (by omega))).1
   have e2 : atI u (sA S ((m : Nat) : Int)) = atI u ((m : Nat) : Int):=by
    unfold sA
    rw [Int.toNat_natCast,this]
    unfold atI
    rw [Int.toNat_natCast]
   rw [e2]
 show numS (p.bits.map (sA S)) u (p.bits.map (sA S)).length = _
 rw [List.length_map]
 exact key _ (Nat.le_refl _)
end
end Go.Proofs.Ytcehklnonhalhaa
namespace Go.Proofs.Ytcehklnonhalhaa
set_option maxRecDepth 4000
theorem dupAt_map {L L2 : List Pt} (h : L2.map Pt.name = L.map Pt.name) (j : Nat) : zdJ L2 j = zdJ L j:=by
 have key : ∀ (A : List Pt) (p : Pt),(A.any fun q => p.name.toList == q.name.toList) = ((A.map Pt.name).any fun q => p.name.toList == q.toList):=fun A p => by rw [List.any_map]; rfl
 have hj : (L2[j]?).map Pt.name = (L[j]?).map Pt.name:=by rw [← List.getElem?_map,← List.getElem?_map,h]
 unfold zdJ
 cases e2 : L2[j]? with
 | none =>
  rw [e2] at hj
  cases e1 : L[j]? with
  | none => rfl
  | some p => rw [e1] at hj; cases hj
 | some p2 =>
  rw [e2] at hj
  cases e1 : L[j]? with
  | none => rw [e1] at hj; cases hj
  | some p =>
   rw [e1] at hj
   have hn : p2.name = p.name:=by injection hj
   show ((L2.take j).any fun q => p2.name.toList == q.name.toList) = ((L.take j).any fun q => p.name.toList == q.name.toList)
   rw [key,key,hn,List.map_take,List.map_take,h]
theorem dupS_map {L L2 : List Pt} (h : L2.map Pt.name = L.map Pt.name) : dupS L2 = dupS L:=by
 have hl : L2.length = L.length:=by have:=congrArg List.length h; simpa using this
 unfold dupS
 rw [hl]
 exact congrArg (fun f => (List.range L.length).any f) (funext (dupAt_map h))
theorem zcB {N : List Nd} {q : Nat} (hq : q < N.length) : zbD N q = (N.getD q nd0).k:=by
 unfold zbD
 rw [List.getD_eq_getElem?_getD,List.getElem?_eq_getElem hq]
 rfl
theorem check_same {N M : List Nd} {I O O2 : List Pt} {d : List Nat} (h : zaB N I O = (some d,0)) (hs : Same2 N M) (hk : ∀ q,q < N.length → ((M.getD q nd0).k = 1 ↔ (N.getD q nd0).k = 1)) (hn : O2.map Pt.name = O.map Pt.name) (hb : O2.all (zaM N.length) = true) : ∃ d2,zaB M I O2 = (some d2,0) ∧ d2.length = N.length:=by
 have h0 : zaU N I O = 0:=by
  unfold zaB at h
  split at h
  ·exact absurd (congrArg Prod.fst h) (by simp)
  rename_i h0; simpa using h0
 obtain ⟨w1,w2,w3,w4,w5,w6⟩:=zcw.1 h0
 have hl : O2.length = O.length:=by have:=congrArg List.length hn; simpa using this
 have hno : (I ++ O2).map Pt.name = (I ++ O).map Pt.name:=by rw [List.map_append,List.map_append,hn]
 have hw : zaU M I O2 = 0:=by
  refine zcw.2 ⟨by rw [hl]; exact w1,hs.fm,?_,?_,by rw [dupS_map hno]; exact w5,?_⟩
  ·rw [hs.len,List.all_append,Bool.and_eq_true]
   rw [List.all_append,Bool.and_eq_true] at w3
   exact ⟨w3.1,hb⟩
  ·have key : ∀ L : List Pt,L.all (fun p => zbm p.name) = (L.map Pt.name).all zbm:=fun L => by rw [List.all_map]; rfl
   rw [key,hno,← key]
   exact w4
  unfold fedS at w6 ⊢
  rw [hs.len]
  rw [List.all_eq_true] at w6 ⊢
  intro q hq
  have H0:=List.mem_range.1 hq
  have:=w6 q hq
  unfold zer at this ⊢
  rw [zcB H0] at this
  rw [zcB (by rw [hs.len]; exact H0)]
  by_cases e : (N.getD q nd0).k = 1
  ·rw [if_pos ((hk q H0).2 e)]
   rw [if_pos e] at this
   exact this
  rw [if_neg (fun k => e ((hk q H0).1 k))]
  rw [if_neg e] at this
  exact this
 obtain ⟨f,hf⟩:=hs.all
 refine ⟨(List.range M.length).map f,?_,by rw [List.length_map,List.length_range,hs.len]⟩
 unfold zaB
 rw [if_neg (by simpa using hw),zc5 hf]
section
variable {N : List Nd} {pos : Nat → Nat} {i : Nat} {M : List Nd} {S : List Int}
theorem RwN.input (h : RwN N pos i M S) (hall : ∀ q,q < N.length → pos q < i) : ∀ q,q < N.length → (((M.map (dffS S)).getD q nd0).k = 1 ↔ (N.getD q nd0).k = 1):=by
 intro q hq
 obtain ⟨k1,k2⟩:=h.kinds hall hq
 by_cases hio : isIO (N.getD q nd0)
 ·rw [k1 hio]
 exact ⟨fun e => absurd (.inl e) (k2 hio).1,fun e => absurd (.inl e) hio⟩
end
end Go.Proofs.Ytcehklnonhalhaa
