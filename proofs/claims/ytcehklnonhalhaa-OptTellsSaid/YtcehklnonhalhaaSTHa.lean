/-
  What the proofs of OptTells need: Ha Hd Hm He Hg Hi HL.
-/
import Derived.Test.YtcehklnonhalhaaProg
import Derived.Test.YtcehklnonhalhaaSTMA
import Derived.Outline
import Derived.Deep.DeepFit
import Derived.Lib.Strings
import Derived.Lib.Slices
import Derived.Lib.Small
import Derived.Lib.Walk
import Derived.Lib.BitFns
import Derived.Lib.TrailingZeros
import Derived.Laws.Bits64b
import Derived.OwnWalk
import Derived.Laws.MakeOwn
import Derived.Deep.QuietTactic
import Derived.BigQuiet
import Derived.Test.YtcehklnonhalhaaSTGC
import Derived.Test.YtcehklnonhalhaaSTGbf
import Derived.Test.YtcehklnonhalhaaSTGn
import Derived.Laws.CopyOwn
import Derived.Test.YtcehklnonhalhaaSTGt
import Derived.Test.YtcehklnonhalhaaSTLex
import Derived.OpenShut
import Derived.ShutString
import Derived.ChangeOld
set_option linter.unusedVariables false
namespace Go.Proofs.Ytcehklnonhalhaa
open Go.RowKit
set_option maxRecDepth 4000
/-! values,by lists -/
def nd0 : Nd:=⟨0,0,0,0⟩
def pt0 : Pt:=⟨⟨#[]⟩,[]⟩
def atI (v : List Int) (q : Int) : Int:=v.getD q.toNat 0
def bitI (x k : Nat) : Int:=((x / 2 ^ k % 2 : Nat) : Int)
def gvS (k a b c : Int) : Int:=if k = 2 then 1 - a else if k = 3 then min a b else if k = 4 then max a b else if k = 5 then (a + b) % 2 else if c = 1 then b else a
def zeo (x : Nd) (v : List Int) : Int:=gvS x.k (atI v x.a) (atI v x.b) (atI v x.c)
def setS (bs : List Int) (x : Nat) (v : List Int) : Nat → List Int
 | 0 => v
 | j + 1 => (setS bs x v j).set (bs.getD j 0).toNat (bitI x j)
def numS (bs : List Int) (v : List Int) : Nat → Nat
 | 0 => 0
 | k + 1 => numS bs v k + if atI v (bs.getD k 0) = 0 then 0 else 2 ^ k
def outS (O : List Pt) (u : List Int) : List Nat:=O.map fun p => numS p.bits u p.bits.length
def fitAt (I : List Pt) (xs : List Nat) (i : Nat) : Bool:=decide (blen (xs.getD i 0) ≤ (I.getD i pt0).bits.length)
def zeE (I : List Pt) (xs : List Nat) : Bool:=decide (xs.length = I.length) && (List.range I.length).all (fitAt I xs)
def v01 (v : List Int) : Prop:=∀ x ∈ v,x = 0 ∨ x = 1
theorem v01.set {v : List Int} (h : v01 v) (k : Nat) {x : Int} (hx : x = 0 ∨ x = 1) : v01 (v.set k x):=fun y hy => by
 rcases List.mem_or_eq_of_mem_set hy with hy | rfl
 ·exact h y hy
 exact hx
theorem v01.at {v : List Int} (h : v01 v) (q : Int) : atI v q = 0 ∨ atI v q = 1:=by
 unfold atI
 rw [List.getD_eq_getElem?_getD]
 cases e : v[q.toNat]? with
 | none => exact .inl rfl
 | some x => exact h x (List.mem_of_getElem? e)
theorem gvS_01 (k : Int) {a b c : Int} (ha : a = 0 ∨ a = 1) (hb : b = 0 ∨ b = 1) : gvS k a b c = 0 ∨ gvS k a b c = 1:=by
 unfold gvS
 repeat' split
 all_goals omega
theorem getD_of {α : Type} {L : List α} {k : Nat} {x d : α} (h : L[k]? = some x) : L.getD k d = x:=by rw [List.getD_eq_getElem?_getD,h]; rfl
/-! memory -/
def AdOk (ok : Nat → Prop) (A : Option Addr) : Prop:=∀ b off,A = some ⟨b,off,none⟩ → ok b
def Kp (ok : Nat → Prop) (w w' : World) : Prop:=w.heap.size ≤ w'.heap.size ∧ ∀ b,b < w.heap.size → ok b → w'.heap[b]? = w.heap[b]?
section
variable {ok ok' : Nat → Prop} {w w' : World} {A : Option Addr} {n : Nat}
theorem Kp.cell (h : Kp ok w w') {b o : Nat} (hb : b < w.heap.size) (hk : ok b) : w'.cell? ⟨b,o,none⟩ = w.cell? ⟨b,o,none⟩:=World.cell?_of_block (w:=w) (h.2 b hb hk)
theorem Kp.below {B : Nat} (h : Below B w w') (hk : ∀ b,b < w.heap.size → ok b → b < B) : Kp ok w w':=⟨h.size,fun b hb ho => h.block b (hk b hb ho)⟩
def PsA (ok : Nat → Prop) (w : World) (A : Option Addr) (n : Nat) (L : List Pt) : Prop:=L.length = n ∧ ∀ k p,L[k]? = some p → ∃ b off A' m c,A = some ⟨b,off,none⟩ ∧ ok b ∧ b < w.heap.size ∧ w.cell? ⟨b,off + k * 2,none⟩ = some (.string p.name) ∧ w.cell? ⟨b,off + k * 2 + 1,none⟩ = some (.slice A' m c) ∧ (m ≤ c ∧ (A' = none → c = 0)) ∧ c ≤ maxLen ∧ IsB ok w A' m p.bits
theorem PsA.ps {L : List Pt} (h : PsA ok w A n L) : Ps w A n L:=⟨h.1,fun k p hp => by
 obtain ⟨b,off,A',m,c,h1,h2,h3,h4,h5,h6,h7,h8⟩:=h.2 k p hp
 exact ⟨b,off,A',m,c,h1,h3,h4,h5,h6,h7,h8.is⟩⟩
theorem IsB.keep {L : List Int} (h : IsB ok w A n L) (hk : Kp ok w w') : IsB ok w' A n L:=⟨h.1,fun k x hx => by
 obtain ⟨b,off,h1,h2,h3,h4⟩:=h.2 k x hx
 exact ⟨b,off,h1,h2,Nat.lt_of_lt_of_le h3 hk.1,(hk.cell h3 h2).trans h4⟩⟩
theorem PsA.keep {L : List Pt} (h : PsA ok w A n L) (hk : Kp ok w w') : PsA ok w' A n L:=⟨h.1,fun k p hp => by
 obtain ⟨b,off,A',m,c,h1,h2,h3,h4,h5,h6,h7,h8⟩:=h.2 k p hp
 exact ⟨b,off,A',m,c,h1,h2,Nat.lt_of_lt_of_le h3 hk.1,(hk.cell h3 h2).trans h4,(hk.cell h3 h2).trans h5,h6,h7,h8.keep hk⟩⟩
end
structure Si where
  wb : World
  p : Nat
  An : Option Addr
  nn : Nat
  cn : Nat
  Ai : Option Addr
  ni : Nat
  ci : Nat
  Ao : Option Addr
  no : Nat
  co : Nat
  Ag : Option Addr
  ng : Nat
  cg : Nat
  Ar : Option Addr
  nr : Nat
  cr : Nat
  N : List Nd
  I : List Pt
  O : List Pt
  G : List Int
  R : List Int
section
variable {B : Nat} {s : Si} {w w' : World} {g : Nat} {v : List Int}
end
structure Sn where
  A : Option Addr
  m : Nat
  c : Nat
  x : Nat
end Go.Proofs.Ytcehklnonhalhaa
namespace Go.Proofs.Ytcehklnonhalhaa
open Go.RowKit
set_option maxRecDepth 4000
theorem Gb.trans {w w1 w2 : World} {r : Option Nat} (h : w.grownBy w1 r) (k : w1.grownBy w2 r) : w.grownBy w2 r:=
 ⟨k.os.trans h.os,k.tape.trans h.tape,k.output.trans h.output,Nat.le_trans h.size k.size,fun b hb hr => (k.block b (Nat.lt_of_lt_of_le hb h.size) hr).trans (h.block b hb hr)⟩
theorem Gb.refl (w : World) (r : Option Nat) : w.grownBy w r:=⟨rfl,rfl,rfl,Nat.le_refl _,fun _ _ _ => rfl⟩
set_option maxRecDepth 4000
/-! lists,set place by place -/
theorem zdU (v : List Int) (q : Nat) (x : Int) (j : Nat) : (v.set q x).getD j 0 = if j = q ∧ q < v.length then x else v.getD j 0:=by
 rw [List.getD_eq_getElem?_getD,List.getD_eq_getElem?_getD,List.getElem?_set]
 by_cases h : q = j
 ·subst h
  by_cases hl : q < v.length
  ·simp [hl]
  simp [hl]
 rw [if_neg h,if_neg (fun e => h e.1.symm)]
theorem zfe {u v : List Int} {n : Nat} (hu : u.length = n) (hv : v.length = n) (h : ∀ i < n,u.getD i 0 = v.getD i 0) : u = v:=by
 apply List.ext_getElem (by omega)
 intro i h1 h2
 have:=h i (by omega)
 rw [List.getD_eq_getElem?_getD,List.getD_eq_getElem?_getD,List.getElem?_eq_getElem h1,List.getElem?_eq_getElem h2] at this
 exact this
theorem range_map {α β : Type} (L : List α) (d : α) (g : α → β) : (List.range L.length).map (fun i => g (L.getD i d)) = L.map g:=by
 apply List.ext_getElem (by simp)
 intro i h1 h2
 simp at h1 h2
 simp [h2]
def runL (h : Nat → List Int → Int) (L : List Nat) (v : List Int) : List Int:=L.foldl (fun v q => v.set q (h q v)) v
def Ord (dep : Nat → List Nat) : List Nat → Prop
 | [] => True
 | q :: L => q ∉ L ∧ (∀ j ∈ dep q,j ≠ q ∧ j ∉ L) ∧ Ord dep L
theorem runL_len (h : Nat → List Int → Int) : ∀ (L : List Nat) (v : List Int),(runL h L v).length = v.length
 | [],v => rfl
 | q :: L,v => by
  show (runL h L (v.set q (h q v))).length = _
  rw [runL_len h L,List.length_set]
theorem runL_at {h : Nat → List Int → Int} {dep : Nat → List Nat} : ∀ (L : List Nat) (v : List Int),(∀ q ∈ L,∀ u v : List Int,(∀ j ∈ dep q,u.getD j 0 = v.getD j 0) → h q u = h q v) → Ord dep L → (∀ q ∈ L,q < v.length) → (∀ q ∈ L,(runL h L v).getD q 0 = h q (runL h L v)) ∧ (∀ q,q ∉ L → (runL h L v).getD q 0 = v.getD q 0)
 | [],v,_,_,_ => ⟨fun q hq => (by cases hq),fun q _ => rfl⟩
 | q :: L,v,hd,ho,hl => by
  obtain ⟨h1,h2,h3⟩:=ho
  have hq:=hl q (List.mem_cons_self ..)
  obtain ⟨i1,i2⟩:=runL_at (h:=h) (dep:=dep) L (v.set q (h q v)) (fun p hp => hd p (List.mem_cons_of_mem _ hp)) h3 (fun p hp => by rw [List.length_set]; exact hl p (List.mem_cons_of_mem _ hp))
  have e : runL h (q :: L) v = runL h L (v.set q (h q v)):=rfl
  rw [e]
  have hqq : (runL h L (v.set q (h q v))).getD q 0 = h q (runL h L (v.set q (h q v))):=by
   rw [i2 q h1,zdU,if_pos ⟨rfl,hq⟩]
   apply hd q (List.mem_cons_self ..)
   intro j hj
   obtain ⟨g1,g2⟩:=h2 j hj
   rw [i2 j g2,zdU,if_neg (fun e => g1 e.1)]
  refine ⟨fun p hp => ?_,fun p hp => ?_⟩
  ·rcases List.mem_cons.1 hp with rfl | hp
   ·exact hqq
   exact i1 p hp
  rw [List.mem_cons,not_or] at hp
  rw [i2 p hp.2,zdU,if_neg (fun e => hp.1 e.1)]
theorem ord_of {dep : Nat → List Nat} {f : Nat → Nat} : ∀ {L : List Nat},L.Nodup → L.Pairwise (fun i j => f i ≤ f j) → (∀ q ∈ L,∀ j ∈ dep q,f j < f q) → Ord dep L
 | [],_,_,_ => trivial
 | q :: L,h1,h2,h3 => by
  rw [List.nodup_cons] at h1
  rw [List.pairwise_cons] at h2
  refine ⟨h1.1,fun j hj => ?_,ord_of h1.2 h2.2 fun p hp => h3 p (List.mem_cons_of_mem _ hp)⟩
  have h4:=h3 q (List.mem_cons_self ..) j hj
  refine ⟨fun e => ?_,fun hm => ?_⟩
  ·subst e; omega
  have:=h2.1 j hm; omega
def csetL (W : List (Nat × Int)) (v : List Int) : List Int:=W.foldl (fun v p => if p.2 = 1 then v.set p.1 1 else v) v
/-! nodes' values -/
def isGs (k : Int) : Bool:=decide (k ≠ 0) && (decide (k ≠ 1) && decide (k ≠ 7))
def zcx (x : Nd) (st inn : List Int) (i : Nat) (u : List Int) : Int:=if x.k = 0 then x.a else if x.k = 1 then inn.getD i 0 else if x.k = 7 then st.getD i 0 else zeo x u
def Sol (N : List Nd) (st inn u : List Int) : Prop:=u.length = N.length ∧ ∀ i < N.length,u.getD i 0 = zcx (N.getD i nd0) st inn i u
theorem gate_dep {x : Nd} {n : Int} (hf : zaf n x = true) (h7 : x.k ≠ 7) {u v : List Int} (h : ∀ j ∈ za0 x,u.getD j 0 = v.getD j 0) : gvS x.k (atI u x.a) (atI u x.b) (atI u x.c) = gvS x.k (atI v x.a) (atI v x.b) (atI v x.c) ∨ ¬ isGs x.k = true:=by
 by_cases hg : isGs x.k = true
 ·left
  unfold zaf za8 at hf
  unfold isGs at hg
  simp only [Bool.and_eq_true,decide_eq_true_eq] at hf hg
  unfold za0 at h
  rw [if_neg h7] at h
  unfold zag zau at h
  unfold gvS atI
  rcases (show x.k = 2 ∨ x.k = 3 ∨ x.k = 4 ∨ x.k = 5 ∨ x.k = 6 by omega) with e | e | e | e | e
  all_goals rw [e] at h ⊢
  all_goals simp at h ⊢
  ·rw [h]
  ·rw [h.1,h.2]
  ·rw [h.1,h.2]
  ·rw [h.1,h.2]
  rw [h.1,h.2.1,h.2.2]
 exact .inr hg
theorem isGs_of {k : Int} (h0 : k ≠ 0) (h1 : k ≠ 1) (h7 : k ≠ 7) : isGs k = true:=by unfold isGs; simp [h0,h1,h7]
theorem node_dep {x : Nd} {n : Int} (hf : zaf n x = true) (st inn : List Int) (i : Nat) {u v : List Int} (h : ∀ j ∈ za0 x,u.getD j 0 = v.getD j 0) : zcx x st inn i u = zcx x st inn i v:=by
 unfold zcx
 by_cases h0 : x.k = 0
 ·rw [if_pos h0,if_pos h0]
 by_cases h1 : x.k = 1
 ·rw [if_neg h0,if_neg h0,if_pos h1,if_pos h1]
 by_cases h7 : x.k = 7
 ·rw [if_neg h0,if_neg h0,if_neg h1,if_neg h1,if_pos h7,if_pos h7]
 rw [if_neg h0,if_neg h0,if_neg h1,if_neg h1,if_neg h7,if_neg h7]
 unfold zeo
 rcases gate_dep hf h7 h with e | e
 ·exact e
 exact absurd (isGs_of h0 h1 h7) e
theorem zbF {N : List Nd} {n : Int} (hf : N.all (zaf n) = true) {i : Nat} (hi : i < N.length) : zaf n (N.getD i nd0) = true:=by
 rw [List.getD_eq_getElem?_getD,List.getElem?_eq_getElem hi]
 exact List.all_eq_true.1 hf _ (List.getElem_mem hi)
theorem zfb {N : List Nd} {f : Nat → Nat} (hf : All N f) {i : Nat} (hi : i < N.length) {j : Nat} (hj : j ∈ za0 (N.getD i nd0)) : f j < f i ∧ j < N.length:=by
 obtain ⟨x,hx,h1,h2⟩:=hf i hi
 rw [getD_of hx] at hj
 exact ⟨lead_lt hf ⟨x,hx,hj⟩,h1 j hj⟩
theorem zds {N : List Nd} {f : Nat → Nat} (ha : All N f) {n : Int} (hf : N.all (zaf n) = true) {st inn u v : List Int} (hu : Sol N st inn u) (hv : Sol N st inn v) : u = v:=by
 refine zfe hu.1 hv.1 ?_
 suffices h : ∀ d i,f i < d → i < N.length → u.getD i 0 = v.getD i 0 from fun i hi => h (f i + 1) i (by omega) hi
 intro d
 induction d with
 | zero => intro i h; omega
 | succ d ih =>
  intro i hfi hi
  rw [hu.2 i hi,hv.2 i hi]
  refine node_dep (zbF hf hi) st inn i fun j hj => ?_
  obtain ⟨h1,h2⟩:=zfb ha hi hj
  exact ih j (by omega) h2
/-! orders -/
structure Od (N : List Nd) (f : Nat → Nat) (L : List Nat) : Prop where
  nd : L.Nodup
  mem : ∀ i,i ∈ L ↔ i < N.length
  all : All N f
  up : L.Pairwise (fun i j => f i ≤ f j)
theorem ordU_up (f : Nat → Nat) (n v : Nat) : (ordU f n v).Pairwise (fun i j => f i ≤ f j):=by
 induction v with
 | zero => exact List.Pairwise.nil
 | succ v ih =>
  rw [zb8,List.pairwise_append]
  have H0 : ∀ i ∈ (List.range n).filter (fun i => decide (f i = v)),f i = v:=fun i hi => by simpa using (List.mem_filter.1 hi).2
  refine ⟨ih,?_,fun a ha b hb => ?_⟩
  ·exact List.pairwise_iff_getElem.2 fun i j hi hj _ => by rw [H0 _ (List.getElem_mem hi),H0 _ (List.getElem_mem hj)]; exact Nat.le_refl _
  have h1:=((zdQ f n).1 ha).2
  rw [H0 b hb]
  omega
theorem od_of {N : List Nd} {I O : List Pt} {dd : List Nat} {e : Int} (hl : zaB N I O = (some dd,e)) : e = 0 ∧ dd.length = N.length ∧ N.all (zaf N.length) = true ∧ (∀ p ∈ I ++ O,zaM N.length p = true) ∧ fedS N I = true ∧ Od N (fun i => dd.getD i 0) (ordU (fun i => dd.getD i 0) dd.length dd.length) ∧ ordO (some dd) = nI (ordU (fun i => dd.getD i 0) dd.length dd.length):=by
 unfold zaB at hl
 split at hl
 ·injection hl with h1 h2
  cases h1
 rename_i h0
 have h0 : zaU N I O = 0:=by simpa using h0
 obtain ⟨_,w2,w3,_,_,w6⟩:=zcw.1 h0
 split at hl
 ·rename_i d hd
  injection hl with h1 h2
  injection h1 with h1
  subst h1
  obtain ⟨a,b⟩:=zcA hd
  refine ⟨h2.symm,a,w2,fun p hp => List.all_eq_true.1 w3 p hp,w6,⟨zeK _ _ _,fun i => ?_,b,ordU_up _ _ _⟩,ordO_is _⟩
  rw [zdQ,a]
  exact ⟨fun h => h.1,fun h => ⟨h,all_lt b h⟩⟩
 injection hl with h1 h2
 cases h1
theorem Od.ord {N : List Nd} {f : Nat → Nat} {L : List Nat} (h : Od N f L) (p : Nat → Bool) : Ord (fun q => za0 (N.getD q nd0)) (L.filter p):=
 ord_of (f:=f) (h.nd.filter _) (h.up.sublist List.filter_sublist) fun q hq j hj => (zfb h.all ((h.mem q).1 (List.mem_filter.1 hq).1) hj).1
/-! what comes in -/
def prP (p : Pt) (x : Nat) : List (Nat × Int):=(List.range p.bits.length).map fun k => ((p.bits.getD k 0).toNat,bitI x k)
def prI (I : List Pt) (xs : List Nat) : List (Nat × Int):=(List.range I.length).flatMap fun i => prP (I.getD i pt0) (xs.getD i 0)
def setR (bs : List Int) (x : Nat) (v : List Int) : Nat → List Int
 | 0 => v
 | j + 1 => if bitI x j = 1 then (setR bs x v j).set (bs.getD j 0).toNat 1 else setR bs x v j
def insR (I : List Pt) (xs : List Nat) (v : List Int) : Nat → List Int
 | 0 => v
 | i + 1 => setR (I.getD i pt0).bits (xs.getD i 0) (insR I xs v i) (blen (xs.getD i 0))
theorem setR_is (bs : List Int) (x : Nat) (v : List Int) : ∀ j,setR bs x v j = csetL ((List.range j).map fun k => ((bs.getD k 0).toNat,bitI x k)) v
 | 0 => rfl
 | j + 1 => by
  unfold setR
  rw [List.range_succ,List.map_append,setR_is bs x v j]
  unfold csetL
  rw [List.foldl_append]
  rfl
theorem setR_more (bs : List Int) (x : Nat) (v : List Int) {j : Nat} (hj : blen x ≤ j) : setR bs x v j = setR bs x v (blen x):=by
 obtain ⟨d,rfl⟩ : ∃ d,j = blen x + d:=⟨j - blen x,by omega⟩
 induction d with
 | zero => rfl
 | succ d ih =>
  rw [← Nat.add_assoc,setR,if_neg,ih (by omega)]
  have h1 : x < 2 ^ (blen x + d):=Nat.lt_of_lt_of_le ((blen_le x (blen x)).1 (Nat.le_refl _)) (Nat.pow_le_pow_right (by decide) (by omega))
  unfold bitI
  rw [Nat.div_eq_of_lt h1]
  decide
theorem insR_is (I : List Pt) (xs : List Nat) (v : List Int) : ∀ j,(∀ i < j,blen (xs.getD i 0) ≤ (I.getD i pt0).bits.length) → insR I xs v j = csetL ((List.range j).flatMap fun i => prP (I.getD i pt0) (xs.getD i 0)) v
 | 0,_ => rfl
 | j + 1,h => by
  unfold insR
  rw [List.range_succ,List.flatMap_append,← setR_more _ _ _ (h j (by omega)),insR_is I xs v j fun i hi => h i (by omega),setR_is]
  unfold csetL
  rw [List.foldl_append]
  simp [prP]
open Go.RowKit
set_option maxRecDepth 4000
theorem zcG (b off j : Nat) : (⟨b,off,none⟩ : Addr).add j = ⟨b,off + j,none⟩:=by
 unfold Addr.add
 by_cases h : j = 0
 ·simp [h]
 simp [h]
set_option maxRecDepth 4000
/-! what is told lies in blocks of its types,and so stays -/
def TK (t : TypeId) (w w' : World) : Prop:=∀ (b : Nat) cs f,w.heap[b]? = some (.cells cs t f) → w'.heap[b]? = w.heap[b]?
theorem TK.row {t t' : TypeId} {w w' : World} {base size n : Nat} {v : Value} {xs : List Value} (hr : w.ownsRow base t' size v n xs) (hg : w.grownBy w' v.ownBlock) (ht : t ≠ t') : TK t w w':=fun b cs f e => hg.block b (Array.getElem?_eq_some_iff.1 e).1 (fun eq => by
 rcases hr.2 with ⟨rfl,_⟩ | ⟨g,cap,cur,rfl,_,h2,_⟩
 ·cases eq
 injection eq with eq
 subst eq
 rw [h2] at e
 injection e with e
 injection e with _ e _
 exact ht e.symm)
section
variable {t : TypeId} {w w' : World} {A : Option Addr} {n x : Nat} {vs : List Value} {xs : List Nat}
end
end Go.Proofs.Ytcehklnonhalhaa
namespace Go.Proofs.Ytcehklnonhalhaa
open Go.RowKit
set_option maxRecDepth 4000
structure Sm where
  A : Option Addr
  m : Nat
  c : Nat
  xs : List Nat
section
variable {w w' : World} {A : Option Addr} {n : Nat} {xss : List (List Nat)} {t t2 : TypeId}
end
/-! what Run tells -/
section
variable (N : List Nd) (I O : List Pt) (G R : List Int) (xss : List (List Nat))
end
end Go.Proofs.Ytcehklnonhalhaa
namespace Go.Proofs.Ytcehklnonhalhaa
open Go.RowKit
set_option maxRecDepth 4000
def Cl (w : World) (b o : Nat) (u : Value) : Prop:=b < w.heap.size ∧ w.cell? ⟨b,o,none⟩ = some u
set_option maxRecDepth 4000
open Go.RowKit Go.ChangeShapes Go.WideShapes
set_option maxRecDepth 4000
section
variable {H : Type} {enc : TypeId × Value → H} {w : World}
end
end Go.Proofs.Ytcehklnonhalhaa
