/-
  What the proofs of OptTells need: Gaa Gbq Gbc.
-/
import Derived.Test.YtcehklnonhalhaaSTGx
import Derived.Deep.RegionLaw
import Derived.Test.YtcehklnonhalhaaSTGa
set_option linter.unusedVariables false
namespace Go.Proofs.Ytcehklnonhalhaa
open Go.RowKit
set_option maxRecDepth 4000
def AllP (w0 : World) (n : Nat) (L : List Pt) (v : Value) (W : World) : Prop:=∃ A c,v = .slice A n c ∧ Ps W A n L ∧ Sw A n c ∧ Below w0.heap.size w0 W
theorem zdN {P : Program} {ops : Array Oper} {o : Oper} {a : Act} {w : World} {K : Act → World → Prop} {Q : Exit → Act → World → Prop} {E : Prop} (hgd : o.guard = none) (s x : Operand) (t : TypeId)
  (ho : o.op = .call { callee:=.builtin .append,args:=#[s,x],argTypes:=#[t,t] }) {e : TypeId} {size bytes : Nat} (hE : Elm P t e size bytes) (hsz : 0 < size) (hby : bytes ≤ 64)
  (base : Nat) (v : Value) (n : Nat) (xs : List Value) (hs : a.eval s = v) (hown : w.ownsRow base e size v n xs) {A : Option Addr} {m c : Nat} (news : List Value) (hx : a.eval x = .slice A m c) (hA : A = none → m = 0 ∧ c = 0)
  (hl : news.length = m * size) (hnews : ∀ ad,A = some ad → ∀ j u,news[j]? = some u → w.cell? (ad.add j) = some u) (h1 : ∀ u ∈ news,u.oneCell' = true) (hn : n + m ≤ 1000000) (hbase : base ≤ w.heap.size)
  (h : ∀ v' w',w'.ownsRow base e size v' (n + m) (xs ++ news) → w.grownBy w' v.ownBlock → K (a.put o.dst v') w') : if Region.wanted o (yielded ops a.tmps) = true then Oper.wp P o a w K Q else E:=by
 obtain ⟨ht,i,z,hi,hz,h3,h4,h5,_⟩:=hE
 have hw : Region.wanted o (yielded ops a.tmps) = true:=by simp [Region.wanted,hgd]
 rw [if_pos hw]
 cases A with
 | none =>
  obtain ⟨rfl,rfl⟩:=hA rfl
  obtain rfl : news = []:=List.eq_nil_of_length_eq_zero (by simpa using hl)
  have H0:=run_append_owned_none (P:=P) (w:=w) base t o.type e i size ht hi v n xs hown
  have hK:=h v w (by simpa using hown) ⟨rfl,rfl,rfl,Nat.le_refl _,fun _ _ _ => rfl⟩
  unfold Oper.wp
  simp [execOp,ho,resolve,invoke,builtin,hs,hx,H0,Result.andThen]
  exact hK
 | some ad =>
  have hb : (n + m) * bytes ≤ 140737488355328:=by
   have : (n + m) * bytes ≤ 1000000 * 64:=Nat.mul_le_mul hn hby
   omega
  exact wp_append_own w s x t ho base e i z size bytes ht hi hz h3 h4 h5 hsz v n xs hs hown ad m c news hx hl (hnews ad rfl) h1 (by unfold maxLen; omega) hb hbase fun v' w' g1 g2 _ => h v' w' g1 g2
set_option maxRecDepth 4000
theorem Bx.t3 {w : World} {s : Nat} {a b c : Value} (h : Bx w s [a,b,c]) : w.cell? ⟨s,0,none⟩ = some a ∧ w.cell? ⟨s,1,none⟩ = some b ∧ w.cell? ⟨s,2,none⟩ = some c:=⟨h.2 0 _ rfl,h.2 1 _ rfl,h.2 2 _ rfl⟩
structure NAt (w : World) (b o : Nat) (x1 x2 x3 x4 : Int) : Prop where
  lt : b < w.heap.size
  c1 : w.cell? ⟨b,o,none⟩ = some (.int .i64 x1)
  c2 : w.cell? ⟨b,o + 1,none⟩ = some (.int .i64 x2)
  c3 : w.cell? ⟨b,o + 2,none⟩ = some (.int .i64 x3)
  c4 : w.cell? ⟨b,o + 3,none⟩ = some (.int .i64 x4)
theorem NAt.on {w w' : World} {b o : Nat} {x1 x2 x3 x4 : Int} (h : NAt w b o x1 x2 x3 x4) (hb : Below w.heap.size w w') : NAt w' b o x1 x2 x3 x4:=
 ⟨Nat.lt_of_lt_of_le h.lt hb.size,(hb.cell (p:=⟨b,o,none⟩) h.lt).trans h.c1,(hb.cell (p:=⟨b,o + 1,none⟩) h.lt).trans h.c2,(hb.cell (p:=⟨b,o + 2,none⟩) h.lt).trans h.c3,(hb.cell (p:=⟨b,o + 3,none⟩) h.lt).trans h.c4⟩
theorem Ns.nat {w : World} {A : Option Addr} {n : Nat} {L : List Nd} (h : Ns w A n L) {k : Nat} (hk : k < n) : ∃ b off x1 x2 x3 x4,A = some ⟨b,off,none⟩ ∧ Hid (L[k]? = some ⟨x1,x2,x3,x4⟩) ∧ NAt w b (off + k * 4) x1 x2 x3 x4:=by
 obtain ⟨⟨x1,x2,x3,x4⟩,hx⟩:=zat h.1 hk
 obtain ⟨b,off,h1,h2,h3,h4,h5,h6⟩:=h.2 k _ hx
 exact ⟨b,off,x1,x2,x3,x4,h1,Lib.hid hx,h2,h3,h4,h5,h6⟩
set_option maxRecDepth 4000
def zco (lv : List Int) (L : List Int) : Int:=L.foldl (fun m p => max m (lv.getD p.toNat 0)) (-1)
def knR (lv : List Int) (L : List Int) : Bool:=L.all fun p => decide (0 ≤ lv.getD p.toNat 0)
def zdm (x : Nd) : List Int:=if x.k = 7 then [] else zag x
theorem zeh (x : Nd) : za0 x = (zdm x).map Int.toNat:=by
 unfold za0 zdm
 split <;> rfl
theorem mostR_snoc {lv L : List Int} {k : Nat} {p : Int} (h : L[k]? = some p) : zco lv (L.take (k + 1)) = max (zco lv (L.take k)) (lv.getD p.toNat 0):=by
 unfold zco
 rw [List.take_add_one,h,List.foldl_append]
 rfl
theorem knR_snoc {lv L : List Int} {k : Nat} {p : Int} (h : L[k]? = some p) : knR lv (L.take (k + 1)) = (knR lv (L.take k) && decide (0 ≤ lv.getD p.toNat 0)):=by
 unfold knR
 rw [List.take_add_one,h,List.all_append]
 simp
theorem mostR_ge (lv L : List Int) : -1 ≤ zco lv L:=by
 unfold zco
 have key : ∀ (L : List Int) (a : Int),a ≤ L.foldl (fun m p => max m (lv.getD p.toNat 0)) a:=by
  intro L
  induction L with
  | nil => intro a; exact Int.le_refl _
  | cons y L ih => intro a; rw [List.foldl_cons]; have:=ih (max a (lv.getD y.toNat 0)); omega
 exact key L (-1)
theorem mostR_le (lv L : List Int) (n : Int) (h0 : -1 ≤ n) (h : ∀ p ∈ L,lv.getD p.toNat 0 ≤ n) : zco lv L ≤ n:=by
 unfold zco
 have key : ∀ (L : List Int) (a : Int),a ≤ n → (∀ p ∈ L,lv.getD p.toNat 0 ≤ n) → L.foldl (fun m p => max m (lv.getD p.toNat 0)) a ≤ n:=by
  intro L
  induction L with
  | nil => intro a h _; exact h
  | cons y L ih => intro a ha h; rw [List.foldl_cons]; exact ih _ (by have:=h y (List.mem_cons_self ..); omega) fun x hx => h x (List.mem_cons_of_mem _ hx)
 exact key L (-1) h0 h
theorem kn_of {lv : List Int} {i : Nat} (hi : i < lv.length) (h : 0 ≤ lv.getD i 0) : Kn lv i:=by
 refine ⟨(lv.getD i 0).toNat,?_⟩
 rw [List.getD_eq_getElem?_getD,List.getElem?_eq_getElem hi] at h ⊢
 simp only [Option.getD_some] at h ⊢
 congr 1
 omega
theorem kn_get {lv : List Int} {i : Nat} (h : Kn lv i) : lv.getD i 0 = (Fn lv i : Int) ∧ 0 ≤ lv.getD i 0:=by
 obtain ⟨d,hd⟩:=h
 rw [zdK hd,List.getD_eq_getElem?_getD,hd]
 simp
theorem mostR_over {lv L : List Int} (h : ∀ p ∈ L,Kn lv p.toNat) : zco lv L + 1 = (zbk (Fn lv) (L.map Int.toNat) : Int):=by
 have key : ∀ (L : List Int) (m : Nat),(∀ p ∈ L,Kn lv p.toNat) → L.foldl (fun m p => max m (lv.getD p.toNat 0)) ((m : Int) - 1) + 1 = (((L.map Int.toNat).foldl (fun m j => max m (Fn lv j + 1)) m : Nat) : Int):=by
  intro L
  induction L with
  | nil => intro m _; simp
  | cons y L ih =>
   intro m h
   rw [List.foldl_cons,List.map_cons,List.foldl_cons,(kn_get (h y (List.mem_cons_self ..))).1]
   rw [← ih (max m (Fn lv y.toNat + 1)) fun p hp => h p (List.mem_cons_of_mem _ hp)]
   congr 2
   omega
 exact key L 0 h
theorem knR_iff {lv L : List Int} (hl : ∀ p ∈ L,p.toNat < lv.length) : knR lv L = true ↔ ∀ p ∈ L,Kn lv p.toNat:=by
 unfold knR
 rw [List.all_eq_true]
 constructor
 ·intro h p hp; exact kn_of (hl p hp) (by simpa using h p hp)
 intro h p hp; simpa using (kn_get (h p hp)).2
structure Rd (N : List Nd) (lv : List Int) : Prop where
  len : lv.length = N.length
  lvd : Lvd N (Kn lv) (Fn lv)
  val : ∀ v ∈ lv,-1 ≤ v
def Pg (N : List Nd) (lv : List Int) (r i : Nat) : Prop:=∀ g,All N g → ∀ j < N.length,(g j < r ∨ (j < i ∧ g j ≤ r)) → Kn lv j
theorem Rd.start (N : List Nd) : Rd N (List.replicate N.length (-1)) where
 len:=by simp
 lvd:=fun i hi => by
  obtain ⟨d,hd⟩:=hi
  rw [List.getElem?_replicate] at hd
  split at hd
  ·injection hd with hd; omega
  cases hd
 val:=fun v h => by have:=(List.mem_replicate.1 h).2; omega
theorem Pg.start (N : List Nd) (lv : List Int) : Pg N lv 0 0:=fun g _ j _ h => by omega
theorem Pg.round {N : List Nd} {lv : List Int} {r : Nat} (h : Pg N lv r N.length) : Pg N lv (r + 1) 0:=fun g hg j hj hh => h g hg j hj (by omega)
theorem Rd.step {N : List Nd} {lv : List Int} {i : Nat} {x : Nd} (h : Rd N lv) (hx : N[i]? = some x) (hp : ∀ p ∈ zdm x,p.toNat < N.length) (hk : knR lv (zdm x) = true) : Rd N (lv.set i (zco lv (zdm x) + 1)) ∧ Kn (lv.set i (zco lv (zdm x) + 1)) i ∧ ∀ j,Kn lv j → Kn (lv.set i (zco lv (zdm x) + 1)) j:=by
 have H1 : i < lv.length:=by rw [h.len]; exact (List.getElem?_eq_some_iff.1 hx).1
 have hkn:=(knR_iff (fun p hp' => by rw [h.len]; exact hp p hp')).1 hk
 have hm:=mostR_over hkn
 rw [← zeh] at hm
 rw [hm]
 have hn : ∀ j ∈ za0 x,Kn lv j:=fun j hj => by
  rw [zeh] at hj
  obtain ⟨p,hp1,rfl⟩:=List.mem_map.1 hj
  exact hkn p hp1
 by_cases hi : Kn lv i
 ·have H0 : lv.set i (zbk (Fn lv) (za0 x) : Int) = lv:=by
   obtain ⟨y,hy,_,h3⟩:=h.lvd i hi
   rw [hx] at hy
   cases hy
   obtain ⟨d,hd⟩:=hi
   rw [← h3,zdK hd]
   apply List.ext_getElem?
   intro k
   rw [zbv H1]
   split
   ·rename_i e; rw [e,hd]
   rfl
  rw [H0]
  exact ⟨h,hi,fun j hj => hj⟩
 have H2 : ∀ j,Kn (lv.set i (zbk (Fn lv) (za0 x) : Int)) j ↔ (Kn lv j ∨ j = i):=fun j => by
  unfold Kn
  rw [zbv H1]
  by_cases e : j = i
  ·subst e; rw [if_pos rfl]; exact ⟨fun _ => .inr rfl,fun _ => ⟨_,rfl⟩⟩
  rw [if_neg e]; exact ⟨fun g => .inl g,fun g => g.elim id (fun g => absurd g e)⟩
 refine ⟨⟨by rw [List.length_set]; exact h.len,?_,fun v hv => ?_⟩,(H2 i).2 (.inr rfl),fun j hj => (H2 j).2 (.inl hj)⟩
 ·have:=lvd_set (g:=Fn (lv.set i (zbk (Fn lv) (za0 x) : Int))) h.lvd hx hn hi (fun j hj => ?_) ?_
  ·exact zdl this H2 fun i _ => rfl
  ·obtain ⟨e,he⟩:=hj
   have hne : j ≠ i:=fun e' => by subst e'; exact hi ⟨e,he⟩
   rw [zdK he,zdK (d:=e) (by rw [zbv H1,if_neg hne]; exact he)]
  rw [zdK (d:=zbk (Fn lv) (za0 x)) (by rw [zbv H1,if_pos rfl])]
 rcases List.mem_or_eq_of_mem_set hv with hv | rfl
 ·exact h.val v hv
 omega
theorem Pg.step {N : List Nd} {lv lv' : List Int} {r i : Nat} (h : Pg N lv r i) (hi : Kn lv' i) (hk : ∀ j,Kn lv j → Kn lv' j) : Pg N lv' r (i + 1):=fun g hg j hj hh => by
 by_cases e : j = i
 ·subst e; exact hi
 exact hk j (h g hg j hj (by omega))
theorem Pg.pass {N : List Nd} {lv : List Int} {r i : Nat} {x : Nd} (h : Pg N lv r i) (hl : lv.length = N.length) (hx : N[i]? = some x) (hp : ∀ p ∈ zdm x,p.toNat < N.length) (hk : knR lv (zdm x) = false) : Pg N lv r (i + 1):=fun g hg j hj hh => by
 by_cases e : j = i
 ·subst e
  exfalso
  have : knR lv (zdm x) = true:=(knR_iff (fun p hp' => by rw [hl]; exact hp p hp')).2 fun p hp' => by
   obtain ⟨y,hy,h1,h2⟩:=hg j hj
   rw [hx] at hy
   cases hy
   have hm : p.toNat ∈ za0 x:=by rw [zeh]; exact List.mem_map.2 ⟨p,hp',rfl⟩
   have:=over_lt g hm
   exact h g hg p.toNat (h1 _ hm) (by omega)
  rw [hk] at this
  cases this
 exact h g hg j hj (by omega)
theorem Rd.all {N : List Nd} {lv : List Int} (h : Rd N lv) (hv : ∀ v ∈ lv,0 ≤ v) : levS N = some (lv.map Int.toNat):=by
 have H0 : All N (Fn lv):=zdl h.lvd (fun i => ⟨fun hi => kn_of (by rw [h.len]; exact hi) (by
  have hi' : i < lv.length:=by rw [h.len]; exact hi
  rw [List.getD_eq_getElem?_getD,List.getElem?_eq_getElem hi']
  exact hv _ (List.getElem_mem hi')),fun ⟨d,hd⟩ => by rw [← h.len]; exact (List.getElem?_eq_some_iff.1 hd).1⟩) fun i _ => rfl
 rw [zc5 H0]
 congr 1
 apply List.ext_getElem
 ·simp [h.len]
 intro i h1 h2
 simp only [List.getElem_map,List.getElem_range]
 unfold Fn
 rw [List.getD_eq_getElem?_getD,List.getElem?_eq_getElem (by simpa using h2)]
 rfl
theorem Pg.none {N : List Nd} {lv : List Int} {i : Nat} {v : Int} (h : Pg N lv (N.length + 1) 0) (hi : lv[i]? = some v) (hl : lv.length = N.length) (hv : v < 0) : levS N = none:=zel fun f hf => by
 have hin : i < N.length:=by rw [← hl]; exact (List.getElem?_eq_some_iff.1 hi).1
 obtain ⟨d,hd⟩:=h f hf i hin (.inl (by have:=all_lt hf hin; omega))
 rw [hi] at hd
 injection hd with hd
 omega
theorem Rd.le {N : List Nd} {lv : List Int} (h : Rd N lv) {i : Nat} (hi : i < N.length) : -1 ≤ lv.getD i 0 ∧ lv.getD i 0 ≤ N.length:=by
 have hl : i < lv.length:=by rw [h.len]; exact hi
 have h1 : -1 ≤ lv.getD i 0:=by
  rw [List.getD_eq_getElem?_getD,List.getElem?_eq_getElem hl]
  exact h.val _ (List.getElem_mem hl)
 refine ⟨h1,?_⟩
 by_cases h0 : 0 ≤ lv.getD i 0
 ·have hk:=kn_of hl h0
  rw [(kn_get hk).1]
  have:=lvd_lt h.lvd hk
  omega
 omega
theorem getD_some {lv : List Int} {p : Nat} {v : Int} (h : lv[p]? = some v) : lv.getD p 0 = v:=by rw [List.getD_eq_getElem?_getD,h]; rfl
end Go.Proofs.Ytcehklnonhalhaa
