/-
  What the proofs of OptTells need: Ga.
-/
import Derived.Lib.Hide
set_option linter.unusedVariables false
namespace Go.Proofs.Ytcehklnonhalhaa
set_option maxRecDepth 4000
structure Nd where
  k : Int
  a : Int
  b : Int
  c : Int
def zau (k : Int) : Nat:=if k = 2 ∨ k = 7 then 1 else if k = 3 ∨ k = 4 ∨ k = 5 then 2 else if k = 6 then 3 else 0
def zag (x : Nd) : List Int:=[x.a,x.b,x.c].take (zau x.k)
def za0 (x : Nd) : List Nat:=if x.k = 7 then [] else (zag x).map Int.toNat
def zbk (f : Nat → Nat) (L : List Nat) : Nat:=L.foldl (fun m j => max m (f j + 1)) 0
theorem over_acc (f : Nat → Nat) (L : List Nat) (m : Nat) : L.foldl (fun m j => max m (f j + 1)) m = max m (zbk f L):=by
 unfold zbk
 induction L generalizing m with
 | nil => simp
 | cons j L ih => simp only [List.foldl_cons]; rw [ih,ih (max 0 (f j + 1))]; omega
theorem zdi (f : Nat → Nat) (j : Nat) (L : List Nat) : zbk f (j :: L) = max (f j + 1) (zbk f L):=by
 show L.foldl _ (max 0 (f j + 1)) = _
 rw [over_acc]; omega
theorem over_lt (f : Nat → Nat) {L : List Nat} {j : Nat} (h : j ∈ L) : f j < zbk f L:=by
 induction L with
 | nil => cases h
 | cons a L ih =>
  rw [zdi]
  rcases List.mem_cons.1 h with rfl | h
  ·omega
  have:=ih h; omega
theorem zb7 {f g : Nat → Nat} {L : List Nat} (h : ∀ j ∈ L,f j = g j) : zbk f L = zbk g L:=by
 induction L with
 | nil => rfl
 | cons a L ih => rw [zdi,zdi,h a (List.mem_cons_self ..),ih fun j hj => h j (List.mem_cons_of_mem _ hj)]
theorem over_at (f : Nat → Nat) (L : List Nat) : zbk f L = 0 ∨ ∃ j ∈ L,f j + 1 = zbk f L:=by
 induction L with
 | nil => exact .inl rfl
 | cons a L ih =>
  rw [zdi]
  rcases Nat.le_total (f a + 1) (zbk f L) with h | h
  ·rcases ih with ih | ⟨j,hj,hk⟩
   ·omega
   exact .inr ⟨j,List.mem_cons_of_mem _ hj,by omega⟩
  exact .inr ⟨a,List.mem_cons_self ..,by omega⟩
def Lvd (N : List Nd) (S : Nat → Prop) (f : Nat → Nat) : Prop:=∀ i,S i → ∃ x,N[i]? = some x ∧ (∀ j ∈ za0 x,S j) ∧ f i = zbk f (za0 x)
theorem lvd_unique {N : List Nd} {S S' : Nat → Prop} {f g : Nat → Nat} (hf : Lvd N S f) (hg : Lvd N S' g) : ∀ i,S i → S' i → f i = g i:=by
 suffices h : ∀ d i,f i < d → S i → S' i → f i = g i from fun i => h (f i + 1) i (by omega)
 intro d
 induction d with
 | zero => intro i h; omega
 | succ d ih =>
  intro i hd hi hi'
  obtain ⟨x,hx,h1,h2⟩:=hf i hi
  obtain ⟨y,hy,h3,h4⟩:=hg i hi'
  rw [hx] at hy
  cases hy
  rw [h2,h4]
  exact zb7 fun j hj => ih j (by have:=over_lt f hj; omega) (h1 j hj) (h3 j hj)
def All (N : List Nd) (f : Nat → Nat) : Prop:=Lvd N (fun i => i < N.length) f
theorem pigeon : ∀ (n d : Nat) (g : Nat → Nat),(∀ e ≤ d,∃ j < n,g j = e) → d < n:=by
 intro n
 induction n with
 | zero => intro d g h; obtain ⟨j,hj,_⟩:=h 0 (by omega); omega
 | succ n ih =>
  intro d g h
  by_cases hd : d = 0
  ·omega
  have:=ih (d - 1) (fun j => if g j < g n then g j else g j - 1) (fun e he => by
   by_cases hv : e < g n
   ·obtain ⟨j,hj,hg⟩:=h e (by omega)
    have : j ≠ n:=fun hjn => by subst hjn; omega
    exact ⟨j,by omega,by rw [if_pos (by omega)]; exact hg⟩
   obtain ⟨j,hj,hg⟩:=h (e + 1) (by omega)
   have : j ≠ n:=fun hjn => by subst hjn; omega
   exact ⟨j,by omega,by rw [if_neg (by omega)]; omega⟩)
  omega
theorem lvd_down {N : List Nd} {S : Nat → Prop} {f : Nat → Nat} (hf : Lvd N S f) : ∀ d i,f i = d → S i → ∀ e ≤ d,∃ j,S j ∧ f j = e:=by
 intro d
 induction d with
 | zero => intro i h hi e he; exact ⟨i,hi,by omega⟩
 | succ d ih =>
  intro i h hi e he
  by_cases hed : e = d + 1
  ·exact ⟨i,hi,by omega⟩
  obtain ⟨x,hx,h1,h2⟩:=hf i hi
  rcases over_at f (za0 x) with h3 | ⟨j,hj,hk⟩
  ·omega
  exact ih j (by omega) (h1 j hj) e (by omega)
theorem lvd_lt {N : List Nd} {S : Nat → Prop} {f : Nat → Nat} (hf : Lvd N S f) {i : Nat} (hi : S i) : f i < N.length:=by
 refine pigeon _ _ f fun e he => ?_
 obtain ⟨j,hj,hk⟩:=lvd_down hf (f i) i rfl hi e he
 obtain ⟨x,hx,_⟩:=hf j hj
 exact ⟨j,(List.getElem?_eq_some_iff.1 hx).1,hk⟩
theorem all_lt {N : List Nd} {f : Nat → Nat} (hf : All N f) {i : Nat} (hi : i < N.length) : f i < N.length:=lvd_lt hf hi
def Leads (N : List Nd) (i j : Nat) : Prop:=∃ x,N[i]? = some x ∧ j ∈ za0 x
theorem lead_lt {N : List Nd} {f : Nat → Nat} (hf : All N f) {i j : Nat} (h : Leads N i j) : f j < f i:=by
 obtain ⟨x,hx,hj⟩:=h
 obtain ⟨y,hy,_,h2⟩:=hf i (List.getElem?_eq_some_iff.1 hx).1
 rw [hx] at hy
 cases hy
 rw [h2]
 exact over_lt f hj
theorem ring_none {N : List Nd} {P : List Nat} {last at_ : Nat} (hp : ∀ k,k + 1 < P.length → Leads N (P.getD k 0) (P.getD (k + 1) 0)) (hl : P.getD (P.length - 1) 0 = last) (hm : at_ ∈ P) (hlast : Leads N last at_) (f : Nat → Nat) : ¬ All N f:=by
 intro hf
 obtain ⟨k,hk,hka⟩:=List.mem_iff_getElem.1 hm
 have hkd : P.getD k 0 = at_:=by rw [List.getD_eq_getElem?_getD,List.getElem?_eq_getElem hk,Option.getD_some,hka]
 have key : ∀ m,k + m < P.length → f (P.getD (k + m) 0) ≤ f at_:=by
  intro m
  induction m with
  | zero => intro _; rw [Nat.add_zero,hkd]; omega
  | succ m ih =>
   intro h
   have h1:=ih (by omega)
   have h2:=lead_lt hf (hp (k + m) (by omega))
   rw [show k + (m + 1) = k + m + 1 by omega]
   omega
 have h1:=key (P.length - 1 - k) (by omega)
 rw [show k + (P.length - 1 - k) = P.length - 1 by omega,hl] at h1
 have:=lead_lt hf hlast
 omega
noncomputable def levS (N : List Nd) : Option (List Nat):=by
 classical
 exact if h : ∃ f,All N f then some ((List.range N.length).map h.choose) else none
theorem zc5 {N : List Nd} {f : Nat → Nat} (hf : All N f) : levS N = some ((List.range N.length).map f):=by
 unfold levS
 have h : ∃ f,All N f:=⟨f,hf⟩
 rw [dif_pos h]
 congr 1
 refine List.map_congr_left fun i hi => ?_
 have hi:=List.mem_range.1 hi
 exact lvd_unique h.choose_spec hf i hi hi
theorem zel {N : List Nd} (h : ∀ f,¬ All N f) : levS N = none:=by
 unfold levS
 rw [dif_neg (fun ⟨f,hf⟩ => h f hf)]
theorem zcA {N : List Nd} {l : List Nat} (h : levS N = some l) : l.length = N.length ∧ All N (fun i => l.getD i 0):=by
 unfold levS at h
 split at h
 ·rename_i hx
  have hc:=hx.choose_spec
  simp only [Option.some.injEq] at h
  subst h
  refine ⟨by simp,fun i hi => ?_⟩
  obtain ⟨x,h1,h2,h3⟩:=hc i hi
  have hg : ∀ j,j < N.length → (List.map hx.choose (List.range N.length)).getD j 0 = hx.choose j:=fun j hj => by
   rw [List.getD_eq_getElem?_getD,List.getElem?_map,List.getElem?_range hj]; rfl
  refine ⟨x,h1,h2,?_⟩
  simp only
  rw [hg i hi,h3]
  exact zb7 fun j hj => (hg j (h2 j hj)).symm
 cases h
/-! ## finding levels with a list of nodes that wait -/
def Kn (lv : List Int) (i : Nat) : Prop:=∃ d : Nat,lv[i]? = some (d : Int)
def Fn (lv : List Int) (i : Nat) : Nat:=(lv.getD i 0).toNat
theorem zdK {lv : List Int} {i d : Nat} (h : lv[i]? = some (d : Int)) : Fn lv i = d:=by
 unfold Fn; rw [List.getD_eq_getElem?_getD,h]; rfl
theorem zbv {lv : List Int} {p : Nat} {v : Int} (hp : p < lv.length) (i : Nat) : (lv.set p v)[i]? = if i = p then some v else lv[i]?:=by
 rw [List.getElem?_set]
 by_cases h : p = i
 ·subst h; rw [if_pos rfl,if_pos hp,if_pos rfl]
 rw [if_neg h,if_neg (fun e => h e.symm)]
theorem zdl {N : List Nd} {S S' : Nat → Prop} {f g : Nat → Nat} (h : Lvd N S f) (hs : ∀ i,S' i ↔ S i) (hf : ∀ i,S i → f i = g i) : Lvd N S' g:=by
 intro i hi
 obtain ⟨x,h1,h2,h3⟩:=h i ((hs i).1 hi)
 refine ⟨x,h1,fun j hj => (hs j).2 (h2 j hj),?_⟩
 rw [← hf i ((hs i).1 hi),h3]
 exact zb7 fun j hj => hf j (h2 j hj)
theorem lvd_set {N : List Nd} {S : Nat → Prop} {f : Nat → Nat} (h : Lvd N S f) {i : Nat} {x : Nd} (hx : N[i]? = some x) (hn : ∀ j ∈ za0 x,S j) (hi : ¬ S i) {g : Nat → Nat} (hg : ∀ j,S j → g j = f j) (hgi : g i = zbk f (za0 x)) : Lvd N (fun j => S j ∨ j = i) g:=by
 intro j hj
 rcases hj with hj | rfl
 ·obtain ⟨y,h1,h2,h3⟩:=h j hj
  refine ⟨y,h1,fun k hk => .inl (h2 k hk),?_⟩
  rw [hg j hj,h3]
  exact zb7 fun k hk => (hg k (h2 k hk)).symm
 refine ⟨x,hx,fun k hk => .inl (hn k hk),?_⟩
 rw [hgi]
 exact zb7 fun k hk => (hg k (hn k hk)).symm
structure Climb (N : List Nd) (lv : List Int) (W : List Nat) : Prop where
  len : lv.length = N.length
  lvd : Lvd N (Kn lv) (Fn lv)
  val : ∀ (i : Nat) (v : Int),lv[i]? = some v → v = -2 ∨ v = -1 ∨ 0 ≤ v
  wait : ∀ i,lv[i]? = some (-1) ↔ i ∈ W
  nodup : W.Nodup
  path : ∀ k,k + 1 < W.length → Leads N (W.getD k 0) (W.getD (k + 1) 0)
theorem Climb.start (N : List Nd) : Climb N (List.replicate N.length (-2)) [] where
 len:=by simp
 lvd:=fun i hi => by
  obtain ⟨d,hd⟩:=hi
  rw [List.getElem?_replicate] at hd
  split at hd
  ·injection hd with hd; omega
  cases hd
 val:=fun i v h => by
  rw [List.getElem?_replicate] at h
  split at h
  ·injection h with h; exact .inl h.symm
  cases h
 wait:=fun i => by
  rw [List.getElem?_replicate]
  constructor
  ·intro h
   split at h
   ·injection h with h; omega
   cases h
  intro h; cases h
 nodup:=List.nodup_nil
 path:=fun k h => by simp at h
theorem zbE {W : List Nat} {p k : Nat} (h : k < W.length) : (W ++ [p]).getD k 0 = W.getD k 0:=by
 rw [List.getD_eq_getElem?_getD,List.getD_eq_getElem?_getD,List.getElem?_append_left h]
theorem zdI {W : List Nat} {p : Nat} : (W ++ [p]).getD W.length 0 = p:=by
 rw [List.getD_eq_getElem?_getD,List.getElem?_append_right (Nat.le_refl _),Nat.sub_self]; rfl
theorem Climb.await {N : List Nd} {lv : List Int} {W : List Nat} (h : Climb N lv W) {p : Nat} (hp : lv[p]? = some (-2)) (hl : ∀ V q,W = V ++ [q] → Leads N q p) : Climb N (lv.set p (-1)) (W ++ [p]) where
 len:=by rw [List.length_set]; exact h.len
 lvd:=by
  have hpl:=(List.getElem?_eq_some_iff.1 hp).1
  refine zdl h.lvd (fun i => ?_) (fun i hi => ?_)
  ·unfold Kn
   rw [zbv hpl]
   by_cases e : i = p
   ·subst e
    rw [if_pos rfl,hp]
    constructor
    ·rintro ⟨d,hd⟩; injection hd with hd; omega
    rintro ⟨d,hd⟩; injection hd with hd; omega
   rw [if_neg e]
  obtain ⟨d,hd⟩:=hi
  have e : i ≠ p:=fun e => by subst e; rw [hp] at hd; injection hd with hd; omega
  rw [zdK hd,zdK (d:=d) (by rw [zbv hpl,if_neg e]; exact hd)]
 val:=fun i v hv => by
  rw [zbv (List.getElem?_eq_some_iff.1 hp).1] at hv
  split at hv
  ·injection hv with hv; exact .inr (.inl hv.symm)
  exact h.val i v hv
 wait:=fun i => by
  rw [zbv (List.getElem?_eq_some_iff.1 hp).1,List.mem_append,List.mem_singleton]
  by_cases e : i = p
  ·rw [if_pos e]; exact ⟨fun _ => .inr e,fun _ => rfl⟩
  rw [if_neg e,h.wait i]; exact ⟨fun g => .inl g,fun g => g.elim id (fun g => absurd g e)⟩
 nodup:=List.nodup_append.2 ⟨h.nodup,by simp,fun a ha b hb e => by
  simp only [List.mem_singleton] at hb
  subst hb
  subst e
  have:=(h.wait a).2 ha
  rw [hp] at this
  injection this with this
  omega⟩
 path:=fun k hk => by
  rw [List.length_append,List.length_singleton] at hk
  by_cases e : k + 1 < W.length
  ·rw [zbE (by omega),zbE e]; exact h.path k e
  have e2 : k + 1 = W.length:=by omega
  rw [e2,zdI,zbE (by omega)]
  refine hl (W.take k) _ ?_
  have h1 : k < W.length:=by omega
  have : W.getD k 0 = W[k]:=by rw [List.getD_eq_getElem?_getD,List.getElem?_eq_getElem h1]; rfl
  rw [this]
  have h2:=List.take_append_drop k W
  rw [List.drop_eq_getElem_cons h1,List.drop_eq_nil_of_le (by omega)] at h2
  exact h2.symm
theorem Climb.done {N : List Nd} {lv : List Int} {W : List Nat} {q : Nat} (h : Climb N lv (W ++ [q])) {x : Nd} (hx : N[q]? = some x) (hn : ∀ j ∈ za0 x,Kn lv j) {d : Nat} (hd : d = zbk (Fn lv) (za0 x)) : Climb N (lv.set q (d : Int)) W:=by
 have hq : lv[q]? = some (-1):=(h.wait q).2 (by simp)
 have H0:=(List.getElem?_eq_some_iff.1 hq).1
 have hnq : q ∉ W:=fun hm => by
  have:=(List.nodup_append.1 h.nodup).2.2 q hm q (by simp)
  exact this rfl
 have hnk : ¬ Kn lv q:=fun ⟨e,he⟩ => by rw [hq] at he; injection he with he; omega
 have hk : ∀ i,Kn (lv.set q (d : Int)) i ↔ (Kn lv i ∨ i = q):=fun i => by
  unfold Kn
  rw [zbv H0]
  by_cases e : i = q
  ·subst e; rw [if_pos rfl]; exact ⟨fun _ => .inr rfl,fun _ => ⟨d,rfl⟩⟩
  rw [if_neg e]; exact ⟨fun g => .inl g,fun g => g.elim id (fun g => absurd g e)⟩
 refine ⟨by rw [List.length_set]; exact h.len,?_,fun i v hv => ?_,fun i => ?_,(List.nodup_append.1 h.nodup).1,fun k hk => ?_⟩
 ·have:=lvd_set (g:=Fn (lv.set q (d : Int))) h.lvd hx hn hnk (fun j hj => ?_) ?_
  ·exact zdl this hk fun i _ => rfl
  ·obtain ⟨e,he⟩:=hj
   have hne : j ≠ q:=fun e' => by subst e'; exact hnk ⟨e,he⟩
   rw [zdK he,zdK (d:=e) (by rw [zbv H0,if_neg hne]; exact he)]
  rw [zdK (d:=d) (by rw [zbv H0,if_pos rfl]),hd]
 ·rw [zbv H0] at hv
  split at hv
  ·injection hv with hv; exact .inr (.inr (by omega))
  exact h.val i v hv
 ·rw [zbv H0]
  by_cases e : i = q
  ·subst e
   rw [if_pos rfl]
   exact ⟨fun g => by injection g with g; omega,fun g => absurd g hnq⟩
  rw [if_neg e,h.wait i,List.mem_append,List.mem_singleton]
  exact ⟨fun g => g.elim id (fun g => absurd g e),fun g => .inl g⟩
 have:=h.path k (by rw [List.length_append]; omega)
 rw [zbE (by omega),zbE hk] at this
 exact this
theorem Climb.ring {N : List Nd} {lv : List Int} {W : List Nat} {q p : Nat} (h : Climb N lv (W ++ [q])) (hl : Leads N q p) (hp : lv[p]? = some (-1)) (f : Nat → Nat) : ¬ All N f:=by
 refine ring_none (P:=W ++ [q]) h.path ?_ ((h.wait p).1 hp) hl f
 rw [List.length_append,List.length_singleton,Nat.add_sub_cancel]
 exact zdI
theorem Climb.all {N : List Nd} {lv : List Int} (h : Climb N lv []) (hv : ∀ i < N.length,lv[i]? ≠ some (-2)) : levS N = some (lv.map Int.toNat) ∧ ∀ v ∈ lv,0 ≤ v:=by
 have key : ∀ i < N.length,Kn lv i:=fun i hi => by
  obtain ⟨v,hx⟩ : ∃ v,lv[i]? = some v:=⟨lv[i]'(by rw [h.len]; exact hi),List.getElem?_eq_getElem _⟩
  rcases h.val i v hx with rfl | rfl | h0
  ·exact absurd hx (hv i hi)
  ·have:=(h.wait i).1 hx; cases this
  exact ⟨v.toNat,by rw [hx]; congr 1; omega⟩
 have H0 : All N (Fn lv):=zdl h.lvd (fun i => ⟨fun hi => key i hi,fun ⟨d,hd⟩ => by rw [← h.len]; exact (List.getElem?_eq_some_iff.1 hd).1⟩) fun i _ => rfl
 constructor
 ·rw [zc5 H0]
  congr 1
  apply List.ext_getElem
  ·simp [h.len]
  intro i h1 h2
  simp only [List.getElem_map,List.getElem_range]
  unfold Fn
  rw [List.getD_eq_getElem?_getD,List.getElem?_eq_getElem (by simpa using h2)]
  rfl
 intro v hv
 obtain ⟨i,hi,rfl⟩:=List.mem_iff_getElem.1 hv
 obtain ⟨d,hd⟩:=key i (by rw [← h.len]; exact hi)
 rw [List.getElem?_eq_getElem hi] at hd
 injection hd with hd
 omega
def zbQ (lv : List Int) (W : List Nat) : Nat:=2 * lv.count (-2) + W.length
theorem count_set {lv : List Int} {p : Nat} {u v : Int} (h : lv[p]? = some u) : (lv.set p v).count (-2) + (if u = -2 then 1 else 0) = lv.count (-2) + (if v = -2 then 1 else 0):=by
 obtain ⟨hp,hu⟩:=List.getElem?_eq_some_iff.1 h
 have e1 : lv = lv.take p ++ u :: lv.drop (p + 1):=by rw [← hu,← List.drop_eq_getElem_cons hp,List.take_append_drop]
 have e2 : lv.set p v = lv.take p ++ v :: lv.drop (p + 1):=List.set_eq_take_append_cons_drop.trans (by rw [if_pos hp])
 rw [e2]
 conv => rhs; rw [e1]
 rw [List.count_append,List.count_append,List.count_cons,List.count_cons]
 simp only [beq_iff_eq]
 omega
theorem zeO {lv : List Int} {W : List Nat} {p : Nat} (hp : lv[p]? = some (-2)) : zbQ (lv.set p (-1)) (W ++ [p]) < zbQ lv W:=by
 have:=count_set (v:=-1) hp
 unfold zbQ
 rw [List.length_append,List.length_singleton]
 rw [if_pos rfl,if_neg (by omega)] at this
 omega
theorem left_done {lv : List Int} {W : List Nat} {q d : Nat} (hq : lv[q]? = some (-1)) : zbQ (lv.set q (d : Int)) W < zbQ lv (W ++ [q]):=by
 have:=count_set (v:=(d : Int)) hq
 unfold zbQ
 rw [List.length_append,List.length_singleton]
 rw [if_neg (by omega),if_neg (by omega)] at this
 omega
end Go.Proofs.Ytcehklnonhalhaa
