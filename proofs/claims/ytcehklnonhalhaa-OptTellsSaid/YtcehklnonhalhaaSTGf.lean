/-
  What the proofs of OptTells need: Gf Gg.
-/
import Derived.Test.YtcehklnonhalhaaSTGc
import Derived.OwnWalk
import Derived.Laws.AppendOwnNone
set_option linter.unusedVariables false
namespace Go.Proofs.Ytcehklnonhalhaa
open Go.RowKit
set_option maxRecDepth 4000
theorem zcn (g o j : Nat) : (⟨g,o,none⟩ : Addr).add j = ⟨g,o + j,none⟩:=by unfold Addr.add; split <;> simp_all
theorem zap {α β : Type} (f : α → List β) (s : Nat) (hf : ∀ x,(f x).length = s) : ∀ (L : List α) (k i : Nat),i < s → (L.flatMap f)[k * s + i]? = (L[k]?).bind fun x => (f x)[i]?:=by
 intro L
 induction L with
 | nil => intro k i hi; simp
 | cons a L ih =>
  intro k i hi
  rw [List.flatMap_cons]
  cases k with
  | zero => rw [Nat.zero_mul,Nat.zero_add,List.getElem?_append_left (by rw [hf]; exact hi)]; rfl
  | succ k =>
   rw [List.getElem?_append_right (by rw [hf,Nat.succ_mul]; omega),hf,show (k + 1) * s + i - s = k * s + i by rw [Nat.succ_mul]; omega,ih k i hi]
   rfl
theorem zas {α β : Type} (f : α → List β) (s : Nat) (hf : ∀ x,(f x).length = s) (L : List α) : (L.flatMap f).length = L.length * s:=by
 induction L with
 | nil => simp
 | cons a L ih => rw [List.flatMap_cons,List.length_append,hf,ih,List.length_cons,Nat.succ_mul]; omega
theorem list_ex {α : Type} {Q : Nat → α → Prop} : ∀ (n : Nat),(∀ k < n,∃ r,Q k r) → ∃ R : List α,R.length = n ∧ ∀ k r,R[k]? = some r → Q k r:=by
 intro n
 induction n with
 | zero => intro _; exact ⟨[],rfl,fun k r h => by simp at h⟩
 | succ n ih =>
  intro h
  obtain ⟨R,h1,h2⟩:=ih fun k hk => h k (by omega)
  obtain ⟨r,hr⟩:=h n (by omega)
  refine ⟨R ++ [r],by simp [h1],fun k x hx => ?_⟩
  rcases Nat.lt_or_ge k n with hk | hk
  ·rw [List.getElem?_append_left (by omega)] at hx
   exact h2 k x hx
  rw [List.getElem?_append_right (by omega),h1] at hx
  have : k = n:=by
   obtain ⟨h3,_⟩:=List.getElem?_eq_some_iff.1 hx
   simp at h3
   omega
  subst this
  simp at hx
  subst hx
  exact hr
def Elm (P : Program) (t e : TypeId) (size bytes : Nat) : Prop:=P.underlying t = some (.slice e) ∧ ∃ i z,P.info? e = some i ∧ i.zero = some z ∧ i.size = size ∧ i.bytes = bytes ∧ z.cells.size = size ∧ ∀ u ∈ z.cells.toList,u.oneCell' = true
theorem zax {P : Program} {w : World} {ops : Array Oper} {rest : List Oper} {o : Oper} {a : Act} {Q : Exit → Act → World → Prop} (hgd : o.guard = none) (s x : Operand) (t : TypeId)
  (ho : o.op = .call { callee:=.builtin .append,args:=#[s,x],argTypes:=#[t,t] }) {e : TypeId} {size bytes : Nat} (hE : Elm P t e size bytes) (hsz : 0 < size) (hby : bytes ≤ 64)
  (base : Nat) (v : Value) (n : Nat) (xs : List Value) (hs : a.eval s = v) (hown : w.ownsRow base e size v n xs) {A : Option Addr} {m c : Nat} (news : List Value) (hx : a.eval x = .slice A m c) (hA : A = none → m = 0 ∧ c = 0)
  (hl : news.length = m * size) (hnews : ∀ ad,A = some ad → ∀ j u,news[j]? = some u → w.cell? (ad.add j) = some u) (h1 : ∀ u ∈ news,u.oneCell' = true) (hn : n + m ≤ 1000000) (hbase : base ≤ w.heap.size)
  (h : ∀ v' w',w'.ownsRow base e size v' (n + m) (xs ++ news) → w.grownBy w' v.ownBlock → wpList P ops Q rest (a.put o.dst v') w') : wpList P ops Q (o :: rest) a w:=by
 obtain ⟨ht,i,z,hi,hz,h3,h4,h5,_⟩:=hE
 cases A with
 | none =>
  obtain ⟨rfl,rfl⟩:=hA rfl
  obtain rfl : news = []:=List.eq_nil_of_length_eq_zero (by simpa using hl)
  refine wpList_append_own_none hgd s x t ho base e i size ht hi v n xs hs hown hx ?_
  have:=h v w (by simpa using hown) ⟨rfl,rfl,rfl,Nat.le_refl _,fun _ _ _ => rfl⟩
  exact this
 | some ad =>
  refine wpList_append_own w hgd s x t ho base e i z size bytes ht hi hz h3 h4 h5 hsz v n xs hs hown ad m c news hx hl (hnews ad rfl) h1 (by unfold maxLen; omega) ?_ hbase fun v' w' g1 g2 _ => h v' w' g1 g2
  have : (n + m) * bytes ≤ 1000000 * 64:=Nat.mul_le_mul hn hby
  omega
theorem zbI : Elm Try.prog 39 3 1 8:=by
 obtain ⟨i,h1,h2,h3,h4⟩:=Go.info_parts (P:=Try.prog) (e:=3) (z:=.int .i64 0) (size:=1) (bytes:=8) (by kernel_rfl)
 refine ⟨Try.underlying39,i,_,h1,h2,h3,h4,rfl,fun u hu => ?_⟩
 have H0 : u ∈ (.int .i64 0 : Value).cells.toList:=hu
 simp [Value.cells] at H0
 first | (rcases H0 with rfl | rfl <;> rfl) | (subst H0; rfl) | (rcases H0 with rfl; rfl)
theorem zbX : Elm Try.prog 22 43 4 32:=by
 obtain ⟨i,h1,h2,h3,h4⟩:=Go.info_parts (P:=Try.prog) (e:=43) (z:=.agg #[.int .i64 0,.int .i64 0,.int .i64 0,.int .i64 0]) (size:=4) (bytes:=32) (by kernel_rfl)
 refine ⟨Try.underlying22,i,_,h1,h2,h3,h4,rfl,fun u hu => ?_⟩
 have H0 : u ∈ (.agg #[.int .i64 0,.int .i64 0,.int .i64 0,.int .i64 0] : Value).cells.toList:=hu
 simp [Value.cells] at H0
 first | (rcases H0 with rfl | rfl <;> rfl) | (subst H0; rfl) | (rcases H0 with rfl; rfl)
theorem zbW : Elm Try.prog 23 41 2 40:=by
 obtain ⟨i,h1,h2,h3,h4⟩:=Go.info_parts (P:=Try.prog) (e:=41) (z:=.agg #[.string ⟨#[]⟩,.slice none 0 0]) (size:=2) (bytes:=40) (by kernel_rfl)
 refine ⟨Try.underlying23,i,_,h1,h2,h3,h4,rfl,fun u hu => ?_⟩
 have H0 : u ∈ (.agg #[.string ⟨#[]⟩,.slice none 0 0] : Value).cells.toList:=hu
 simp [Value.cells] at H0
 first | (rcases H0 with rfl | rfl <;> rfl) | (subst H0; rfl) | (rcases H0 with rfl; rfl)
structure Rp where
  name : ByteArray
  A : Option Addr
  m : Nat
  c : Nat
def ptC (r : Rp) : List Value:=[.string r.name,.slice r.A r.m r.c]
def inC (x : Int) : List Value:=[.int .i64 x]
theorem zaL (r : Rp) : (ptC r).length = 2:=rfl
theorem za1 (x : Nd) : (ndC x).length = 4:=rfl
theorem zaC (x : Int) : (inC x).length = 1:=rfl
def PsR (w : World) (A : Option Addr) (n : Nat) (R : List Rp) : Prop:=R.length = n ∧ ∀ k r,R[k]? = some r → ∃ b off,A = some ⟨b,off,none⟩ ∧ b < w.heap.size ∧ w.cell? ⟨b,off + k * 2,none⟩ = some (.string r.name) ∧ w.cell? ⟨b,off + k * 2 + 1,none⟩ = some (.slice r.A r.m r.c)
def Fit (w : World) (R : List Rp) (L : List Pt) : Prop:=R.length = L.length ∧ ∀ (k : Nat) (r : Rp) (p : Pt),R[k]? = some r → L[k]? = some p → r.name = p.name ∧ (r.m ≤ r.c ∧ (r.A = none → r.c = 0)) ∧ r.c ≤ maxLen ∧ Is w r.A r.m p.bits
theorem Ps.raw {w : World} {A : Option Addr} {n : Nat} {L : List Pt} (h : Ps w A n L) : ∃ R,PsR w A n R ∧ Fit w R L:=by
 obtain ⟨R,h1,h2⟩:=list_ex (Q:=fun (k : Nat) (r : Rp) => ∀ p : Pt,L[k]? = some p → (∃ b off,A = some ⟨b,off,none⟩ ∧ b < w.heap.size ∧ w.cell? ⟨b,off + k * 2,none⟩ = some (.string r.name) ∧ w.cell? ⟨b,off + k * 2 + 1,none⟩ = some (.slice r.A r.m r.c)) ∧ r.name = p.name ∧ (r.m ≤ r.c ∧ (r.A = none → r.c = 0)) ∧ r.c ≤ maxLen ∧ Is w r.A r.m p.bits) n (fun k hk => by
  obtain ⟨p,hp⟩:=zat h.1 hk
  obtain ⟨b,off,A',m,c,h1,h2,h3,h4,h5,h6,h7⟩:=h.2 k p hp
  refine ⟨⟨p.name,A',m,c⟩,fun q hq => ?_⟩
  rw [hp] at hq
  cases hq
  exact ⟨⟨b,off,h1,h2,h3,h4⟩,rfl,h5,h6,h7⟩)
 refine ⟨R,⟨h1,fun k r hr => ?_⟩,⟨by rw [h1,h.1],fun k r p hr hp => (h2 k r hr p hp).2⟩⟩
 obtain ⟨p,hp⟩:=zat h.1 (show k < n by rw [← h1]; exact (List.getElem?_eq_some_iff.1 hr).1)
 exact (h2 k r hr p hp).1
theorem PsR.ps {w : World} {A : Option Addr} {n : Nat} {R : List Rp} {L : List Pt} (h : PsR w A n R) (hf : Fit w R L) : Ps w A n L:=by
 refine ⟨by rw [← hf.1,h.1],fun k p hp => ?_⟩
 obtain ⟨r,hr⟩:=zat h.1 (show k < n by rw [← h.1,hf.1]; exact (List.getElem?_eq_some_iff.1 hp).1)
 obtain ⟨b,off,h1,h2,h3,h4⟩:=h.2 k r hr
 obtain ⟨g1,g2,g3,g4⟩:=hf.2 k r p hr hp
 exact ⟨b,off,r.A,r.m,r.c,h1,h2,by rw [← g1]; exact h3,h4,g2,g3,g4⟩
theorem Fit.on {w w' : World} {R : List Rp} {L : List Pt} (h : Fit w R L) (hb : Below w.heap.size w w') : Fit w' R L:=
 ⟨h.1,fun k r p h1 h2 => by
  obtain ⟨g1,g2,g3,g4⟩:=h.2 k r p h1 h2
  exact ⟨g1,g2,g3,g4.on hb⟩⟩
theorem Fit.append {w : World} {R R' : List Rp} {L L' : List Pt} (h : Fit w R L) (h' : Fit w R' L') : Fit w (R ++ R') (L ++ L'):=by
 refine ⟨by rw [List.length_append,List.length_append,h.1,h'.1],fun k r p h1 h2 => ?_⟩
 rcases Nat.lt_or_ge k R.length with hk | hk
 ·rw [List.getElem?_append_left hk] at h1
  rw [List.getElem?_append_left (by rw [← h.1]; exact hk)] at h2
  exact h.2 k r p h1 h2
 rw [List.getElem?_append_right hk] at h1
 rw [List.getElem?_append_right (by rw [← h.1]; exact hk),← h.1] at h2
 exact h'.2 _ r p h1 h2
theorem PsR.cells {w : World} {A : Option Addr} {n : Nat} {R : List Rp} (h : PsR w A n R) : ∀ ad,A = some ad → ∀ j u,(R.flatMap ptC)[j]? = some u → w.cell? (ad.add j) = some u:=by
 intro ad ha j u hu
 have e : j = j / 2 * 2 + j % 2:=by omega
 rw [e,zap ptC 2 zaL R _ _ (Nat.mod_lt _ (by omega))] at hu
 cases hr : R[j / 2]? with
 | none => rw [hr] at hu; cases hu
 | some r =>
  rw [hr] at hu
  obtain ⟨b,off,h1,h2,h3,h4⟩:=h.2 _ r hr
  rw [ha] at h1
  cases h1
  rw [zcn,e]
  rcases Nat.mod_two_eq_zero_or_one j with h0 | h0 <;> rw [h0] at hu ⊢ <;> cases hu
  ·exact h3
  rw [← Nat.add_assoc]; exact h4
theorem Ns.cells {w : World} {A : Option Addr} {n : Nat} {L : List Nd} (h : Ns w A n L) : ∀ ad,A = some ad → ∀ j u,(L.flatMap ndC)[j]? = some u → w.cell? (ad.add j) = some u:=by
 intro ad ha j u hu
 have e : j = j / 4 * 4 + j % 4:=by omega
 rw [e,zap ndC 4 za1 L _ _ (Nat.mod_lt _ (by omega))] at hu
 cases hr : L[j / 4]? with
 | none => rw [hr] at hu; cases hu
 | some r =>
  rw [hr] at hu
  obtain ⟨b,off,h1,h2,h3,h4,h5,h6⟩:=h.2 _ r hr
  rw [ha] at h1
  cases h1
  rw [zcn,e]
  have hm:=Nat.mod_lt j (show 0 < 4 by omega)
  rcases (show j % 4 = 0 ∨ j % 4 = 1 ∨ j % 4 = 2 ∨ j % 4 = 3 by omega) with h0 | h0 | h0 | h0 <;> rw [h0] at hu ⊢ <;> cases hu
  ·exact h3
  ·rw [← Nat.add_assoc]; exact h4
  ·rw [← Nat.add_assoc]; exact h5
  rw [← Nat.add_assoc]; exact h6
theorem Is.cells {w : World} {A : Option Addr} {n : Nat} {L : List Int} (h : Is w A n L) : ∀ ad,A = some ad → ∀ j u,(L.flatMap inC)[j]? = some u → w.cell? (ad.add j) = some u:=by
 intro ad ha j u hu
 have e : j = j * 1 + 0:=by omega
 rw [e,zap inC 1 zaC L _ _ (by omega)] at hu
 cases hr : L[j]? with
 | none => rw [hr] at hu; cases hu
 | some r =>
  rw [hr] at hu
  obtain ⟨b,off,h1,h2,h3⟩:=h.2 _ r hr
  rw [ha] at h1
  cases h1
  cases hu
  rw [zcn]
  exact h3
theorem zef (R : List Rp) : ∀ u ∈ R.flatMap ptC,u.oneCell' = true:=by
 intro u hu
 obtain ⟨r,_,h⟩:=List.mem_flatMap.1 hu
 unfold ptC at h
 simp at h
 rcases h with rfl | rfl <;> rfl
theorem zdG (R : List Nd) : ∀ u ∈ R.flatMap ndC,u.oneCell' = true:=by
 intro u hu
 obtain ⟨r,_,h⟩:=List.mem_flatMap.1 hu
 unfold ndC at h
 simp at h
 rcases h with rfl | rfl | rfl | rfl <;> rfl
theorem one_in (R : List Int) : ∀ u ∈ R.flatMap inC,u.oneCell' = true:=by
 intro u hu
 obtain ⟨r,_,h⟩:=List.mem_flatMap.1 hu
 unfold inC at h
 simp at h
 subst h
 rfl
def Sw (A : Option Addr) (n c : Nat) : Prop:=n ≤ c ∧ c ≤ maxLen ∧ (A = none → c = 0)
theorem Sw.none_ {A : Option Addr} {n c : Nat} (h : Sw A n c) : A = none → n = 0 ∧ c = 0:=fun e => by have:=h.2.2 e; have:=h.1; omega
theorem zaP {w : World} {base : Nat} {e : TypeId} {size : Nat} {v : Value} {n : Nat} {xs : List Value} (h : w.ownsRow base e size v n xs) : ∃ A c,v = .slice A n c ∧ Sw A n c ∧ (∀ b off,A = some ⟨b,off,none⟩ → base ≤ b ∧ off = 0) ∧ ∀ j u,xs[j]? = some u → ∃ b,A = some ⟨b,0,none⟩ ∧ b < w.heap.size ∧ w.cell? ⟨b,j,none⟩ = some u:=by
 rcases h.2 with ⟨rfl,rfl⟩ | ⟨g,cap,cur,rfl,hb,hg,hc,hm,hs,ht⟩
 ·exact ⟨none,0,rfl,⟨Nat.le_refl _,by unfold maxLen; omega,fun _ => rfl⟩,fun b off e => (by cases e),fun j u hu => by
   have:=h.1
   rw [Nat.zero_mul] at this
   rw [List.eq_nil_of_length_eq_zero this] at hu
   simp at hu⟩
 refine ⟨some ⟨g,0,none⟩,cap,rfl,⟨hc,hm,fun e => by cases e⟩,fun b off e => by cases e; exact ⟨hb,rfl⟩,fun j u hu => ⟨g,rfl,(Array.getElem?_eq_some_iff.1 hg).1,?_⟩⟩
 rw [cell_of_row w g j cur e (0,0) hg]
 rw [← ht,List.getElem?_take] at hu
 split at hu
 ·simpa using hu
 cases hu
theorem row_ps {w : World} {base : Nat} {v : Value} {n : Nat} {R : List Rp} (h : w.ownsRow base 41 2 v n (R.flatMap ptC)) : ∃ A c,v = .slice A n c ∧ Sw A n c ∧ (∀ b off,A = some ⟨b,off,none⟩ → base ≤ b ∧ off = 0) ∧ PsR w A n R:=by
 obtain ⟨A,c,h1,h2,h3,h4⟩:=zaP h
 have hl:=h.1
 rw [zas ptC 2 zaL] at hl
 refine ⟨A,c,h1,h2,h3,by omega,fun k r hr => ?_⟩
 obtain ⟨b,e1,e2,e3⟩:=h4 (k * 2 + 0) (.string r.name) (by rw [zap ptC 2 zaL R k 0 (by omega),hr]; rfl)
 obtain ⟨b',e1',e2',e3'⟩:=h4 (k * 2 + 1) (.slice r.A r.m r.c) (by rw [zap ptC 2 zaL R k 1 (by omega),hr]; rfl)
 rw [e1] at e1'
 cases e1'
 exact ⟨b,0,e1,e2,by rw [Nat.zero_add]; exact e3,by rw [Nat.zero_add]; exact e3'⟩
theorem zbj {w : World} {base : Nat} {v : Value} {n : Nat} {R : List Nd} (h : w.ownsRow base 43 4 v n (R.flatMap ndC)) : ∃ A c,v = .slice A n c ∧ Sw A n c ∧ (∀ b off,A = some ⟨b,off,none⟩ → base ≤ b ∧ off = 0) ∧ Ns w A n R:=by
 obtain ⟨A,c,h1,h2,h3,h4⟩:=zaP h
 have hl:=h.1
 rw [zas ndC 4 za1] at hl
 refine ⟨A,c,h1,h2,h3,by omega,fun k r hr => ?_⟩
 have H0 : ∀ i u,i < 4 → (ndC r)[i]? = some u → ∃ b,A = some ⟨b,0,none⟩ ∧ b < w.heap.size ∧ w.cell? ⟨b,k * 4 + i,none⟩ = some u:=fun i u hi hu => h4 (k * 4 + i) u (by rw [zap ndC 4 za1 R k i hi,hr]; exact hu)
 obtain ⟨b,e1,e2,e3⟩:=H0 0 _ (by omega) rfl
 obtain ⟨b1,f1,f2,f3⟩:=H0 1 _ (by omega) rfl
 obtain ⟨b2,g1,g2,g3⟩:=H0 2 _ (by omega) rfl
 obtain ⟨b3,i1,i2,i3⟩:=H0 3 _ (by omega) rfl
 rw [e1] at f1 g1 i1
 cases f1
 cases g1
 cases i1
 exact ⟨b,0,e1,e2,by rw [Nat.zero_add]; exact e3,by rw [Nat.zero_add]; exact f3,by rw [Nat.zero_add]; exact g3,by rw [Nat.zero_add]; exact i3⟩
theorem za4 {w : World} {base : Nat} {v : Value} {n : Nat} {R : List Int} (h : w.ownsRow base 3 1 v n (R.flatMap inC)) : ∃ A c,v = .slice A n c ∧ Sw A n c ∧ (∀ b off,A = some ⟨b,off,none⟩ → base ≤ b ∧ off = 0) ∧ Is w A n R:=by
 obtain ⟨A,c,h1,h2,h3,h4⟩:=zaP h
 have hl:=h.1
 rw [zas inC 1 zaC] at hl
 refine ⟨A,c,h1,h2,h3,by omega,fun k r hr => ?_⟩
 obtain ⟨b,e1,e2,e3⟩:=h4 (k * 1 + 0) (.int .i64 r) (by rw [zap inC 1 zaC R k 0 (by omega),hr]; rfl)
 exact ⟨b,0,e1,e2,by rw [Nat.zero_add]; simpa using e3⟩
theorem za5 {w w' : World} {base : Nat} {e : TypeId} {size : Nat} {v : Value} {n : Nat} {xs : List Value} {w0 : World} (h : w.ownsRow base e size v n xs) (hb : Below w0.heap.size w0 w) (hB : w0.heap.size ≤ base) (hg : w.grownBy w' v.ownBlock) : Below w0.heap.size w0 w':=
 hb.grown hg hb.size fun k hk => Nat.le_trans hB (h.lt k hk).1
theorem grow_none {w : World} (n : Int) (hn : n = 0) : Calls Try.prog 117 #[.slice none 0 0,.int .i64 n] w fun en w' => ∃ v,en = .returned v ∧ w'.ownsRow w.heap.size 41 2 v 0 [] ∧ Below w.heap.size w w':=by
 subst hn
 go_enter Try.func117,Try.ntmps117
 go_wp2_with fail
 go_ret
 exact ⟨_,rfl,World.ownsRow_nil w _ _ _,Below.refl _ _⟩
set_option maxHeartbeats 1000000 in
theorem grow_some {w : World} (n : Nat) (h0 : 0 < n) (hn : n ≤ 1000000) : Calls Try.prog 117 #[.slice none 0 0,.int .i64 (n : Int)] w fun en w' => ∃ v,en = .returned v ∧ w'.ownsRow w.heap.size 41 2 v 0 [] ∧ Below w.heap.size w w':=by
 have hfit : ¬ 281474976710656 < Builtin.nextslicecap n 0 * 40:=by
  have:=growslice_fits (need:=n) (old:=0) (bytes:=40) (by omega) (by omega)
  omega
 have H0 : Try.t41.bytes = 40:=rfl
 go_enter Try.func117,Try.ntmps117
 go_wp2_with fail
 have g1:=grownCap_ge w n 0 41
 have g2:=grownCap_le_maxLen w n 0 41 (by unfold maxLen; omega)
 unfold grownCap at g1 g2
 generalize (Question.appendCap n 0 41).cut (w.tape w.drawn (Question.appendCap n 0 41)) = cap at *
 go_ret
 refine ⟨_,rfl,⟨rfl,.inr ⟨w.heap.size,cap,_,rfl,Nat.le_refl _,heap_alloc_new _ _,Nat.zero_le _,g2,?_,?_⟩⟩,?_⟩
 ·simp [size_zeroCells]
  omega
 ·simp
 first | exact zaa _ _ | exact (Below.refl _ _).drew.alloc (Nat.le_refl _) _
set_option maxRecDepth 4000
def PsX (w : World) (n : Nat) (L : List Pt) (en : Ending) (w' : World) : Prop:=∃ A c,en = .returned (.slice A n c) ∧ Ps w' A n L ∧ Sw A n c ∧ Below w.heap.size w w'
theorem zbY {w : World} {base base2 : Nat} {e : TypeId} {size : Nat} {v : Value} {n : Nat} {xs : List Value} (h : w.ownsRow base e size v n xs) (hb : base2 ≤ base) : w.ownsRow base2 e size v n xs:=by
 refine ⟨h.1,?_⟩
 rcases h.2 with h1 | ⟨g,cap,cur,h1,h2,h3⟩
 ·exact .inl h1
 exact .inr ⟨g,cap,cur,h1,Nat.le_trans hb h2,h3⟩
theorem grow_as {w : World} (n : Nat) (hn : n ≤ 1000000) : Calls Try.prog 117 #[.slice none 0 0,.int .i64 (n : Int)] w fun en w' => ∃ v,en = .returned v ∧ w'.ownsRow w.heap.size 41 2 v 0 [] ∧ Below w.heap.size w w':=by
 by_cases h0 : n = 0
 ·exact grow_none _ (by omega)
 exact grow_some n (by omega) hn
theorem PsR.on {w w' : World} {A : Option Addr} {n : Nat} {R : List Rp} (h : PsR w A n R) (hb : Below w.heap.size w w') : PsR w' A n R:=
 ⟨h.1,fun k r hr => by
  obtain ⟨b,off,h1,h2,h3,h4⟩:=h.2 k r hr
  exact ⟨b,off,h1,Nat.lt_of_lt_of_le h2 hb.size,(hb.cell (p:=⟨b,off + k * 2,none⟩) h2).trans h3,(hb.cell (p:=⟨b,off + k * 2 + 1,none⟩) h2).trans h4⟩⟩
set_option maxHeartbeats 4000000 in
theorem zcb {Ai Ao : Option Addr} {ni ci no co s : Nat} {I O : List Pt} {w : World} (hI : Ps w Ai ni I) (hO : Ps w Ao no O) (swI : Sw Ai ni ci) (swO : Sw Ao no co) (hs : ni + no ≤ 1000) (z : Bx w s [.slice Ai ni ci,.slice Ao no co]) :
  Calls Try.prog 96 #[.slice (some ⟨s,0,none⟩) 2 2] w (PsX w (ni + no) (I ++ O)):=by
 obtain ⟨RI,PsRI,FI⟩:=hI.raw
 obtain ⟨RO,PsRO,FO⟩:=hO.raw
 have RI1:=PsRI.1
 have RO1:=PsRO.1
 have HFI:=Lib.hid FI
 have HFO:=Lib.hid FO
 clear FI FO hI hO
 obtain ⟨q,hq⟩ : ∃ q,ni + no = q:=⟨_,rfl⟩
 rw [hq]
 have q1 : IntKind.i64.wrap ((ni : Int) + (no : Int)) = (q : Int):=by rw [IntKind.wrap_i64]; omega
 have q0 : IntKind.i64.wrap (ni : Int) = (ni : Int):=by rw [IntKind.wrap_i64]; omega
 go_enter Try.func96,Try.ntmps96
 go_wp2_with fail
 go_loopw [3,11] (fun a i wr => ∃ j : Nat,j ≤ 2 ∧ i = .int .i64 j ∧ a = .int .i64 (if j = 0 then 0 else if j = 1 then (ni : Int) else (q : Int)) ∧ Below w.heap.size w wr) (fun _ i _ => 2 - (intOf i).toNat)
 case atStart => exact ⟨0,by omega,rfl,rfl,Below.refl _ _⟩
 obtain ⟨j,hj,rfl,rfl,BW⟩:=hrel
 rcases (show j = 0 ∨ j = 1 ∨ j = 2 by omega) with rfl | rfl | rfl
 ·have zc:=(z.on BW).2 0 _ rfl
  go_wp2_with fail
  go_roundw
  case rel => exact ⟨1,by omega,rfl,by first | rfl | (simp [q0]),BW⟩
  case measure => simp [intOf]
 ·have zc:=(z.on BW).2 1 _ rfl
  go_wp2_with fail
  go_roundw
  case rel => exact ⟨2,by omega,rfl,by first | rfl | (simp [q1]),BW⟩
  case measure => simp [intOf]
 go_wp2_with fail
 refine (grow_as q (by omega)).mono ?_
 rintro en w1 ⟨v0,rfl,H0,b1⟩
 have BW0:=Below.step BW b1
 replace H0:=zbY H0 BW.size
 clear BW b1
 go_wp2_with fail
 go_loopw [6,27] (fun v i wr => ∃ j : Nat,j ≤ 2 ∧ i = .int .i64 j ∧ wr.ownsRow w.heap.size 41 2 v (if j = 0 then 0 else if j = 1 then ni else q) ((if j = 0 then [] else if j = 1 then RI else RI ++ RO).flatMap ptC) ∧ Below w.heap.size w wr) (fun _ i _ => 2 - (intOf i).toNat)
 case atStart => exact ⟨0,by omega,rfl,H0,BW0⟩
 clear BW0 H0
 obtain ⟨j,hj,rfl,hrow,BW⟩:=hrel
 rename_i v _
 rcases (show j = 0 ∨ j = 1 ∨ j = 2 by omega) with rfl | rfl | rfl
 ·have zc:=(z.on BW).2 0 _ rfl
  simp only [if_true,List.flatMap_nil] at hrow
  go_wp2_with (at_builtin; refine zax (A:=Ai) (m:=ni) (c:=ci) rfl _ _ 23 rfl zbW (by omega) (by omega) w.heap.size _ _ _ rfl hrow (RI.flatMap ptC) rfl swI.none_ (by rw [zas ptC 2 zaL,RI1]) (PsRI.on BW).cells (zef _) (by omega) BW.size ?_; intro v2 w2 hrow2 hg)
  have b2:=za5 hrow BW (Nat.le_refl _) hg
  go_roundw
  case rel => exact ⟨1,by omega,rfl,by simpa using hrow2,b2⟩
  case measure => simp [intOf]
 ·have zc:=(z.on BW).2 1 _ rfl
  simp only [Nat.one_ne_zero,if_false,if_true] at hrow
  go_wp2_with (at_builtin; refine zax (A:=Ao) (m:=no) (c:=co) rfl _ _ 23 rfl zbW (by omega) (by omega) w.heap.size _ _ _ rfl hrow (RO.flatMap ptC) rfl swO.none_ (by rw [zas ptC 2 zaL,RO1]) (PsRO.on BW).cells (zef _) (by omega) BW.size ?_; intro v2 w2 hrow2 hg)
  have b2:=za5 hrow BW (Nat.le_refl _) hg
  rw [hq] at hrow2
  go_roundw
  case rel => exact ⟨2,by omega,rfl,by simpa [List.flatMap_append] using hrow2,b2⟩
  case measure => simp [intOf]
 simp only [show ¬ (2 = 0) by decide,show ¬ (2 = 1) by decide,if_false] at hrow
 obtain ⟨A,c,rfl,sw,_,hp⟩:=row_ps hrow
 go_wp2_with fail
 go_ret
 refine ⟨A,c,rfl,hp.ps ((HFI.out.on BW).append (HFO.out.on BW)),sw,BW⟩
def zaU (N : List Nd) (I O : List Pt) : Int:=if 64 < I.length + O.length then 4 else if N.all (zaf N.length) && (I ++ O).all (zaM N.length) then (if (I ++ O).all (fun p => zbm p.name) then (if dupS (I ++ O) then 8 else if fedS N I then 0 else 10) else 7) else 2
set_option maxHeartbeats 1000000 in
theorem wrong_many {An Ai Ao : Option Addr} {nn cn ni ci no co : Nat} {N : List Nd} {I O : List Pt} {w : World} (hN : Ns w An nn N) (hI : Ps w Ai ni I) (hO : Ps w Ao no O) (swI : Sw Ai ni ci) (swO : Sw Ao no co) (hn : nn ≤ 100000) (hs : ni + no ≤ 1000) (hb : ∀ p ∈ I ++ O,p.bits.length ≤ 1000000) (q : Nat) (hq : ni + no = q) (q1 : IntKind.i64.wrap ((ni : Int) + (no : Int)) = (q : Int)) (e0 : decide (262144 < (nn : Int)) = false) (e1 : decide (64 < (q : Int)) = true) :
  Calls Try.prog 69 #[.agg #[.slice An nn cn,.slice Ai ni ci,.slice Ao no co]] w fun e w' => e = .returned (.int .i64 4) ∧ Below w.heap.size w w':=by
 go_enter Try.func69,Try.ntmps69
 go_wp2_with fail
 go_ret
 exact ⟨rfl,zaa _ _⟩
set_option maxHeartbeats 1000000 in
theorem wrong_f {An Ai Ao : Option Addr} {nn cn ni ci no co : Nat} {N : List Nd} {I O : List Pt} {w : World} (hN : Ns w An nn N) (hI : Ps w Ai ni I) (hO : Ps w Ao no O) (swI : Sw Ai ni ci) (swO : Sw Ao no co) (hn : nn ≤ 100000) (hs : ni + no ≤ 1000) (hb : ∀ p ∈ I ++ O,p.bits.length ≤ 1000000) (q : Nat) (hq : ni + no = q) (q1 : IntKind.i64.wrap ((ni : Int) + (no : Int)) = (q : Int)) (e0 : decide (262144 < (nn : Int)) = false) (e1 : decide (64 < (q : Int)) = false) (hf : N.all (zaf nn) = false)  :
  Calls Try.prog 69 #[.agg #[.slice An nn cn,.slice Ai ni ci,.slice Ao no co]] w fun e w' => e = .returned (.int .i64 2) ∧ Below w.heap.size w w':=by
 have HF:=Lib.hid hf
 have HB:=Lib.hid hb
 clear hf hb
 go_enter Try.func69,Try.ntmps69
 go_upto_region 3 with fail
 obtain ⟨w1,e_w1,b,hs_w1,z0⟩:=zmD w [.slice An nn cn,.slice Ai ni ci,.slice Ao no co] 25
 rw [e_w1]
 clear e_w1
 have BW:=b
 clear b
 clear hs_w1
 have b0:=BW
 replace hN:=hN.on b0
 replace hI:=hI.on b0
 replace hO:=hO.on b0
 clear b0
 obtain ⟨z0c0,z0c1,z0c2⟩:=z0.zb3
 go_wp2_with fail
 clear z0c0 z0c1 z0c2
 obtain ⟨w2,e_w2,b,hs_w2,z1⟩:=zmD w1 [.slice Ai ni ci,.slice Ao no co] 23
 rw [e_w2]
 clear e_w2
 replace z0:=z0.on b
 replace hN:=hN.on b
 replace hI:=hI.on b
 replace hO:=hO.on b
 replace BW:=Below.step BW b
 clear b
 clear hs_w2
 refine (zcb hI hO swI swO (by omega) z1).mono ?_
 rintro en w3 ⟨A,cp,rfl,hp,sw,b⟩
 replace z0:=z0.on b
 replace hN:=hN.on b
 replace hI:=hI.on b
 replace hO:=hO.on b
 replace z1:=z1.on b
 replace BW:=Below.step BW b
 clear b
 rw [hq] at hp sw
 clear hO z1
 obtain ⟨z0c0,z0c1,z0c2⟩:=z0.zb3
 go_wp2_with fail
 refine (zbr hN (by omega) false HF.out).mono ?_
 rintro en w4 ⟨rfl,b⟩
 clear z0c0 z0c1 z0c2
 replace z0:=z0.on b
 replace hN:=hN.on b
 replace hI:=hI.on b
 replace hp:=hp.on b
 replace BW:=Below.step BW b
 clear b
 obtain ⟨z0c0,z0c1,z0c2⟩:=z0.zb3
 go_wp2_with fail
 go_ret
 exact ⟨rfl,BW⟩
set_option maxHeartbeats 1000000 in
theorem wrong_b {An Ai Ao : Option Addr} {nn cn ni ci no co : Nat} {N : List Nd} {I O : List Pt} {w : World} (hN : Ns w An nn N) (hI : Ps w Ai ni I) (hO : Ps w Ao no O) (swI : Sw Ai ni ci) (swO : Sw Ao no co) (hn : nn ≤ 100000) (hs : ni + no ≤ 1000) (hb : ∀ p ∈ I ++ O,p.bits.length ≤ 1000000) (q : Nat) (hq : ni + no = q) (q1 : IntKind.i64.wrap ((ni : Int) + (no : Int)) = (q : Int)) (e0 : decide (262144 < (nn : Int)) = false) (e1 : decide (64 < (q : Int)) = false) (hf : N.all (zaf nn) = true) (hbt : (I ++ O).all (zaM nn) = false)  :
  Calls Try.prog 69 #[.agg #[.slice An nn cn,.slice Ai ni ci,.slice Ao no co]] w fun e w' => e = .returned (.int .i64 2) ∧ Below w.heap.size w w':=by
 have HF:=Lib.hid hf
 have HT:=Lib.hid hbt
 have HB:=Lib.hid hb
 clear hf hbt hb
 go_enter Try.func69,Try.ntmps69
 go_upto_region 3 with fail
 obtain ⟨w1,e_w1,b,hs_w1,z0⟩:=zmD w [.slice An nn cn,.slice Ai ni ci,.slice Ao no co] 25
 rw [e_w1]
 clear e_w1
 have BW:=b
 clear b
 clear hs_w1
 have b0:=BW
 replace hN:=hN.on b0
 replace hI:=hI.on b0
 replace hO:=hO.on b0
 clear b0
 obtain ⟨z0c0,z0c1,z0c2⟩:=z0.zb3
 go_wp2_with fail
 clear z0c0 z0c1 z0c2
 obtain ⟨w2,e_w2,b,hs_w2,z1⟩:=zmD w1 [.slice Ai ni ci,.slice Ao no co] 23
 rw [e_w2]
 clear e_w2
 replace z0:=z0.on b
 replace hN:=hN.on b
 replace hI:=hI.on b
 replace hO:=hO.on b
 replace BW:=Below.step BW b
 clear b
 clear hs_w2
 refine (zcb hI hO swI swO (by omega) z1).mono ?_
 rintro en w3 ⟨A,cp,rfl,hp,sw,b⟩
 replace z0:=z0.on b
 replace hN:=hN.on b
 replace hI:=hI.on b
 replace hO:=hO.on b
 replace z1:=z1.on b
 replace BW:=Below.step BW b
 clear b
 rw [hq] at hp sw
 clear hO z1
 obtain ⟨z0c0,z0c1,z0c2⟩:=z0.zb3
 go_wp2_with fail
 refine (zbr hN (by omega) true HF.out).mono ?_
 rintro en w4 ⟨rfl,b⟩
 clear z0c0 z0c1 z0c2
 replace z0:=z0.on b
 replace hN:=hN.on b
 replace hI:=hI.on b
 replace hp:=hp.on b
 replace BW:=Below.step BW b
 clear b
 obtain ⟨z0c0,z0c1,z0c2⟩:=z0.zb3
 go_wp2_with fail
 refine (zbP hp (by omega) HB.out _ false HT.out).mono ?_
 rintro en w5 ⟨rfl,b⟩
 clear z0c0 z0c1 z0c2
 replace z0:=z0.on b
 replace hN:=hN.on b
 replace hI:=hI.on b
 replace hp:=hp.on b
 replace BW:=Below.step BW b
 clear b
 obtain ⟨z0c0,z0c1,z0c2⟩:=z0.zb3
 go_wp2_with fail
 go_ret
 exact ⟨rfl,BW⟩
set_option maxHeartbeats 1000000 in
theorem wrong_n {An Ai Ao : Option Addr} {nn cn ni ci no co : Nat} {N : List Nd} {I O : List Pt} {w : World} (hN : Ns w An nn N) (hI : Ps w Ai ni I) (hO : Ps w Ao no O) (swI : Sw Ai ni ci) (swO : Sw Ao no co) (hn : nn ≤ 100000) (hs : ni + no ≤ 1000) (hb : ∀ p ∈ I ++ O,p.bits.length ≤ 1000000) (q : Nat) (hq : ni + no = q) (q1 : IntKind.i64.wrap ((ni : Int) + (no : Int)) = (q : Int)) (e0 : decide (262144 < (nn : Int)) = false) (e1 : decide (64 < (q : Int)) = false) (hf : N.all (zaf nn) = true) (hbt : (I ++ O).all (zaM nn) = true) (hnm : (I ++ O).all (fun p => zbm p.name) = false)  :
  Calls Try.prog 69 #[.agg #[.slice An nn cn,.slice Ai ni ci,.slice Ao no co]] w fun e w' => e = .returned (.int .i64 7) ∧ Below w.heap.size w w':=by
 have HF:=Lib.hid hf
 have HT:=Lib.hid hbt
 have HM:=Lib.hid hnm
 have HB:=Lib.hid hb
 clear hf hbt hnm hb
 go_enter Try.func69,Try.ntmps69
 go_upto_region 3 with fail
 obtain ⟨w1,e_w1,b,hs_w1,z0⟩:=zmD w [.slice An nn cn,.slice Ai ni ci,.slice Ao no co] 25
 rw [e_w1]
 clear e_w1
 have BW:=b
 clear b
 clear hs_w1
 have b0:=BW
 replace hN:=hN.on b0
 replace hI:=hI.on b0
 replace hO:=hO.on b0
 clear b0
 obtain ⟨z0c0,z0c1,z0c2⟩:=z0.zb3
 go_wp2_with fail
 clear z0c0 z0c1 z0c2
 obtain ⟨w2,e_w2,b,hs_w2,z1⟩:=zmD w1 [.slice Ai ni ci,.slice Ao no co] 23
 rw [e_w2]
 clear e_w2
 replace z0:=z0.on b
 replace hN:=hN.on b
 replace hI:=hI.on b
 replace hO:=hO.on b
 replace BW:=Below.step BW b
 clear b
 clear hs_w2
 refine (zcb hI hO swI swO (by omega) z1).mono ?_
 rintro en w3 ⟨A,cp,rfl,hp,sw,b⟩
 replace z0:=z0.on b
 replace hN:=hN.on b
 replace hI:=hI.on b
 replace hO:=hO.on b
 replace z1:=z1.on b
 replace BW:=Below.step BW b
 clear b
 rw [hq] at hp sw
 clear hO z1
 obtain ⟨z0c0,z0c1,z0c2⟩:=z0.zb3
 go_wp2_with fail
 refine (zbr hN (by omega) true HF.out).mono ?_
 rintro en w4 ⟨rfl,b⟩
 clear z0c0 z0c1 z0c2
 replace z0:=z0.on b
 replace hN:=hN.on b
 replace hI:=hI.on b
 replace hp:=hp.on b
 replace BW:=Below.step BW b
 clear b
 obtain ⟨z0c0,z0c1,z0c2⟩:=z0.zb3
 go_wp2_with fail
 refine (zbP hp (by omega) HB.out _ true HT.out).mono ?_
 rintro en w5 ⟨rfl,b⟩
 clear z0c0 z0c1 z0c2
 replace z0:=z0.on b
 replace hN:=hN.on b
 replace hI:=hI.on b
 replace hp:=hp.on b
 replace BW:=Below.step BW b
 clear b
 obtain ⟨z0c0,z0c1,z0c2⟩:=z0.zb3
 go_wp2_with fail
 refine (zbV hp (by omega) false HM.out).mono ?_
 rintro en w6 ⟨rfl,b⟩
 clear z0c0 z0c1 z0c2
 replace z0:=z0.on b
 replace hN:=hN.on b
 replace hI:=hI.on b
 replace hp:=hp.on b
 replace BW:=Below.step BW b
 clear b
 obtain ⟨z0c0,z0c1,z0c2⟩:=z0.zb3
 go_wp2_with fail
 go_ret
 exact ⟨rfl,BW⟩
set_option maxHeartbeats 1000000 in
theorem wrong_d {An Ai Ao : Option Addr} {nn cn ni ci no co : Nat} {N : List Nd} {I O : List Pt} {w : World} (hN : Ns w An nn N) (hI : Ps w Ai ni I) (hO : Ps w Ao no O) (swI : Sw Ai ni ci) (swO : Sw Ao no co) (hn : nn ≤ 100000) (hs : ni + no ≤ 1000) (hb : ∀ p ∈ I ++ O,p.bits.length ≤ 1000000) (q : Nat) (hq : ni + no = q) (q1 : IntKind.i64.wrap ((ni : Int) + (no : Int)) = (q : Int)) (e0 : decide (262144 < (nn : Int)) = false) (e1 : decide (64 < (q : Int)) = false) (hf : N.all (zaf nn) = true) (hbt : (I ++ O).all (zaM nn) = true) (hnm : (I ++ O).all (fun p => zbm p.name) = true) (hd : dupS (I ++ O) = true)  :
  Calls Try.prog 69 #[.agg #[.slice An nn cn,.slice Ai ni ci,.slice Ao no co]] w fun e w' => e = .returned (.int .i64 8) ∧ Below w.heap.size w w':=by
 have HF:=Lib.hid hf
 have HT:=Lib.hid hbt
 have HM:=Lib.hid hnm
 have HD:=Lib.hid hd
 have HB:=Lib.hid hb
 clear hf hbt hnm hd hb
 go_enter Try.func69,Try.ntmps69
 go_upto_region 3 with fail
 obtain ⟨w1,e_w1,b,hs_w1,z0⟩:=zmD w [.slice An nn cn,.slice Ai ni ci,.slice Ao no co] 25
 rw [e_w1]
 clear e_w1
 have BW:=b
 clear b
 clear hs_w1
 have b0:=BW
 replace hN:=hN.on b0
 replace hI:=hI.on b0
 replace hO:=hO.on b0
 clear b0
 obtain ⟨z0c0,z0c1,z0c2⟩:=z0.zb3
 go_wp2_with fail
 clear z0c0 z0c1 z0c2
 obtain ⟨w2,e_w2,b,hs_w2,z1⟩:=zmD w1 [.slice Ai ni ci,.slice Ao no co] 23
 rw [e_w2]
 clear e_w2
 replace z0:=z0.on b
 replace hN:=hN.on b
 replace hI:=hI.on b
 replace hO:=hO.on b
 replace BW:=Below.step BW b
 clear b
 clear hs_w2
 refine (zcb hI hO swI swO (by omega) z1).mono ?_
 rintro en w3 ⟨A,cp,rfl,hp,sw,b⟩
 replace z0:=z0.on b
 replace hN:=hN.on b
 replace hI:=hI.on b
 replace hO:=hO.on b
 replace z1:=z1.on b
 replace BW:=Below.step BW b
 clear b
 rw [hq] at hp sw
 clear hO z1
 obtain ⟨z0c0,z0c1,z0c2⟩:=z0.zb3
 go_wp2_with fail
 refine (zbr hN (by omega) true HF.out).mono ?_
 rintro en w4 ⟨rfl,b⟩
 clear z0c0 z0c1 z0c2
 replace z0:=z0.on b
 replace hN:=hN.on b
 replace hI:=hI.on b
 replace hp:=hp.on b
 replace BW:=Below.step BW b
 clear b
 obtain ⟨z0c0,z0c1,z0c2⟩:=z0.zb3
 go_wp2_with fail
 refine (zbP hp (by omega) HB.out _ true HT.out).mono ?_
 rintro en w5 ⟨rfl,b⟩
 clear z0c0 z0c1 z0c2
 replace z0:=z0.on b
 replace hN:=hN.on b
 replace hI:=hI.on b
 replace hp:=hp.on b
 replace BW:=Below.step BW b
 clear b
 obtain ⟨z0c0,z0c1,z0c2⟩:=z0.zb3
 go_wp2_with fail
 refine (zbV hp (by omega) true HM.out).mono ?_
 rintro en w6 ⟨rfl,b⟩
 clear z0c0 z0c1 z0c2
 replace z0:=z0.on b
 replace hN:=hN.on b
 replace hI:=hI.on b
 replace hp:=hp.on b
 replace BW:=Below.step BW b
 clear b
 obtain ⟨z0c0,z0c1,z0c2⟩:=z0.zb3
 go_wp2_with fail
 refine (zb1 hp (by omega) sw.1 true HD.out).mono ?_
 rintro en w7 ⟨rfl,b⟩
 clear z0c0 z0c1 z0c2
 replace z0:=z0.on b
 replace hN:=hN.on b
 replace hI:=hI.on b
 replace hp:=hp.on b
 replace BW:=Below.step BW b
 clear b
 obtain ⟨z0c0,z0c1,z0c2⟩:=z0.zb3
 go_wp2_with fail
 go_ret
 exact ⟨rfl,BW⟩
set_option maxHeartbeats 1000000 in
theorem zdY {An Ai Ao : Option Addr} {nn cn ni ci no co : Nat} {N : List Nd} {I O : List Pt} {w : World} (hN : Ns w An nn N) (hI : Ps w Ai ni I) (hO : Ps w Ao no O) (swI : Sw Ai ni ci) (swO : Sw Ao no co) (hn : nn ≤ 100000) (hs : ni + no ≤ 1000) (hb : ∀ p ∈ I ++ O,p.bits.length ≤ 1000000) (q : Nat) (hq : ni + no = q) (q1 : IntKind.i64.wrap ((ni : Int) + (no : Int)) = (q : Int)) (e0 : decide (262144 < (nn : Int)) = false) (e1 : decide (64 < (q : Int)) = false) (hf : N.all (zaf nn) = true) (hbt : (I ++ O).all (zaM nn) = true) (hnm : (I ++ O).all (fun p => zbm p.name) = true) (hd : dupS (I ++ O) = false) (hfd : fedS N I = false)  :
  Calls Try.prog 69 #[.agg #[.slice An nn cn,.slice Ai ni ci,.slice Ao no co]] w fun e w' => e = .returned (.int .i64 10) ∧ Below w.heap.size w w':=by
 have HBI : Hid (∀ p ∈ I,p.bits.length ≤ 1000000):=Lib.hid fun p hp => hb p (List.mem_append_left _ hp)
 have HR : Hid (∀ p ∈ I,∀ x ∈ p.bits,∃ q : Nat,x = (q : Int) ∧ q < nn):=Lib.hid fun p hp x hx => by
  have h1:=List.all_eq_true.1 hbt p (List.mem_append_left _ hp)
  unfold zaM at h1
  have h2:=List.all_eq_true.1 (Bool.and_eq_true_iff.1 h1).2 x hx
  unfold zaj at h2
  obtain ⟨h3,h4⟩:=Bool.and_eq_true_iff.1 h2
  have h3:=of_decide_eq_true h3
  have h4:=of_decide_eq_true h4
  exact ⟨x.toNat,by omega,by omega⟩
 have HF:=Lib.hid hf
 have HT:=Lib.hid hbt
 have HM:=Lib.hid hnm
 have HD:=Lib.hid hd
 have HE:=Lib.hid hfd
 have HB:=Lib.hid hb
 clear hf hbt hnm hd hfd hb
 go_enter Try.func69,Try.ntmps69
 go_upto_region 3 with fail
 obtain ⟨w1,e_w1,b,hs_w1,z0⟩:=zmD w [.slice An nn cn,.slice Ai ni ci,.slice Ao no co] 25
 rw [e_w1]
 clear e_w1
 have BW:=b
 clear b
 clear hs_w1
 have b0:=BW
 replace hN:=hN.on b0
 replace hI:=hI.on b0
 replace hO:=hO.on b0
 clear b0
 obtain ⟨z0c0,z0c1,z0c2⟩:=z0.zb3
 go_wp2_with fail
 clear z0c0 z0c1 z0c2
 obtain ⟨w2,e_w2,b,hs_w2,z1⟩:=zmD w1 [.slice Ai ni ci,.slice Ao no co] 23
 rw [e_w2]
 clear e_w2
 replace z0:=z0.on b
 replace hN:=hN.on b
 replace hI:=hI.on b
 replace hO:=hO.on b
 replace BW:=Below.step BW b
 clear b
 clear hs_w2
 refine (zcb hI hO swI swO (by omega) z1).mono ?_
 rintro en w3 ⟨A,cp,rfl,hp,sw,b⟩
 replace z0:=z0.on b
 replace hN:=hN.on b
 replace hI:=hI.on b
 replace hO:=hO.on b
 replace z1:=z1.on b
 replace BW:=Below.step BW b
 clear b
 rw [hq] at hp sw
 clear hO z1
 obtain ⟨z0c0,z0c1,z0c2⟩:=z0.zb3
 go_wp2_with fail
 refine (zbr hN (by omega) true HF.out).mono ?_
 rintro en w4 ⟨rfl,b⟩
 clear z0c0 z0c1 z0c2
 replace z0:=z0.on b
 replace hN:=hN.on b
 replace hI:=hI.on b
 replace hp:=hp.on b
 replace BW:=Below.step BW b
 clear b
 obtain ⟨z0c0,z0c1,z0c2⟩:=z0.zb3
 go_wp2_with fail
 refine (zbP hp (by omega) HB.out _ true HT.out).mono ?_
 rintro en w5 ⟨rfl,b⟩
 clear z0c0 z0c1 z0c2
 replace z0:=z0.on b
 replace hN:=hN.on b
 replace hI:=hI.on b
 replace hp:=hp.on b
 replace BW:=Below.step BW b
 clear b
 obtain ⟨z0c0,z0c1,z0c2⟩:=z0.zb3
 go_wp2_with fail
 refine (zbV hp (by omega) true HM.out).mono ?_
 rintro en w6 ⟨rfl,b⟩
 clear z0c0 z0c1 z0c2
 replace z0:=z0.on b
 replace hN:=hN.on b
 replace hI:=hI.on b
 replace hp:=hp.on b
 replace BW:=Below.step BW b
 clear b
 obtain ⟨z0c0,z0c1,z0c2⟩:=z0.zb3
 go_wp2_with fail
 refine (zb1 hp (by omega) sw.1 false HD.out).mono ?_
 rintro en w7 ⟨rfl,b⟩
 clear z0c0 z0c1 z0c2
 replace z0:=z0.on b
 replace hN:=hN.on b
 replace hI:=hI.on b
 replace hp:=hp.on b
 replace BW:=Below.step BW b
 clear b
 obtain ⟨z0c0,z0c1,z0c2⟩:=z0.zb3
 go_wp2_with fail
 refine (isFed_as hN hI (by omega) (by omega) HBI.out HR.out false HE.out).mono ?_
 rintro en w8 ⟨rfl,b⟩
 clear z0c0 z0c1 z0c2
 replace z0:=z0.on b
 replace hN:=hN.on b
 replace hI:=hI.on b
 replace hp:=hp.on b
 replace BW:=Below.step BW b
 clear b
 obtain ⟨z0c0,z0c1,z0c2⟩:=z0.zb3
 go_wp2_with fail
 go_ret
 exact ⟨rfl,BW⟩
set_option maxHeartbeats 1000000 in
theorem zeA {An Ai Ao : Option Addr} {nn cn ni ci no co : Nat} {N : List Nd} {I O : List Pt} {w : World} (hN : Ns w An nn N) (hI : Ps w Ai ni I) (hO : Ps w Ao no O) (swI : Sw Ai ni ci) (swO : Sw Ao no co) (hn : nn ≤ 100000) (hs : ni + no ≤ 1000) (hb : ∀ p ∈ I ++ O,p.bits.length ≤ 1000000) (q : Nat) (hq : ni + no = q) (q1 : IntKind.i64.wrap ((ni : Int) + (no : Int)) = (q : Int)) (e0 : decide (262144 < (nn : Int)) = false) (e1 : decide (64 < (q : Int)) = false) (hf : N.all (zaf nn) = true) (hbt : (I ++ O).all (zaM nn) = true) (hnm : (I ++ O).all (fun p => zbm p.name) = true) (hd : dupS (I ++ O) = false) (hfd : fedS N I = true)  :
  Calls Try.prog 69 #[.agg #[.slice An nn cn,.slice Ai ni ci,.slice Ao no co]] w fun e w' => e = .returned (.int .i64 0) ∧ Below w.heap.size w w':=by
 have HBI : Hid (∀ p ∈ I,p.bits.length ≤ 1000000):=Lib.hid fun p hp => hb p (List.mem_append_left _ hp)
 have HR : Hid (∀ p ∈ I,∀ x ∈ p.bits,∃ q : Nat,x = (q : Int) ∧ q < nn):=Lib.hid fun p hp x hx => by
  have h1:=List.all_eq_true.1 hbt p (List.mem_append_left _ hp)
  unfold zaM at h1
  have h2:=List.all_eq_true.1 (Bool.and_eq_true_iff.1 h1).2 x hx
  unfold zaj at h2
  obtain ⟨h3,h4⟩:=Bool.and_eq_true_iff.1 h2
  have h3:=of_decide_eq_true h3
  have h4:=of_decide_eq_true h4
  exact ⟨x.toNat,by omega,by omega⟩
 have HF:=Lib.hid hf
 have HT:=Lib.hid hbt
 have HM:=Lib.hid hnm
 have HD:=Lib.hid hd
 have HE:=Lib.hid hfd
 have HB:=Lib.hid hb
 clear hf hbt hnm hd hfd hb
 go_enter Try.func69,Try.ntmps69
 go_upto_region 3 with fail
 obtain ⟨w1,e_w1,b,hs_w1,z0⟩:=zmD w [.slice An nn cn,.slice Ai ni ci,.slice Ao no co] 25
 rw [e_w1]
 clear e_w1
 have BW:=b
 clear b
 clear hs_w1
 have b0:=BW
 replace hN:=hN.on b0
 replace hI:=hI.on b0
 replace hO:=hO.on b0
 clear b0
 obtain ⟨z0c0,z0c1,z0c2⟩:=z0.zb3
 go_wp2_with fail
 clear z0c0 z0c1 z0c2
 obtain ⟨w2,e_w2,b,hs_w2,z1⟩:=zmD w1 [.slice Ai ni ci,.slice Ao no co] 23
 rw [e_w2]
 clear e_w2
 replace z0:=z0.on b
 replace hN:=hN.on b
 replace hI:=hI.on b
 replace hO:=hO.on b
 replace BW:=Below.step BW b
 clear b
 clear hs_w2
 refine (zcb hI hO swI swO (by omega) z1).mono ?_
 rintro en w3 ⟨A,cp,rfl,hp,sw,b⟩
 replace z0:=z0.on b
 replace hN:=hN.on b
 replace hI:=hI.on b
 replace hO:=hO.on b
 replace z1:=z1.on b
 replace BW:=Below.step BW b
 clear b
 rw [hq] at hp sw
 clear hO z1
 obtain ⟨z0c0,z0c1,z0c2⟩:=z0.zb3
 go_wp2_with fail
 refine (zbr hN (by omega) true HF.out).mono ?_
 rintro en w4 ⟨rfl,b⟩
 clear z0c0 z0c1 z0c2
 replace z0:=z0.on b
 replace hN:=hN.on b
 replace hI:=hI.on b
 replace hp:=hp.on b
 replace BW:=Below.step BW b
 clear b
 obtain ⟨z0c0,z0c1,z0c2⟩:=z0.zb3
 go_wp2_with fail
 refine (zbP hp (by omega) HB.out _ true HT.out).mono ?_
 rintro en w5 ⟨rfl,b⟩
 clear z0c0 z0c1 z0c2
 replace z0:=z0.on b
 replace hN:=hN.on b
 replace hI:=hI.on b
 replace hp:=hp.on b
 replace BW:=Below.step BW b
 clear b
 obtain ⟨z0c0,z0c1,z0c2⟩:=z0.zb3
 go_wp2_with fail
 refine (zbV hp (by omega) true HM.out).mono ?_
 rintro en w6 ⟨rfl,b⟩
 clear z0c0 z0c1 z0c2
 replace z0:=z0.on b
 replace hN:=hN.on b
 replace hI:=hI.on b
 replace hp:=hp.on b
 replace BW:=Below.step BW b
 clear b
 obtain ⟨z0c0,z0c1,z0c2⟩:=z0.zb3
 go_wp2_with fail
 refine (zb1 hp (by omega) sw.1 false HD.out).mono ?_
 rintro en w7 ⟨rfl,b⟩
 clear z0c0 z0c1 z0c2
 replace z0:=z0.on b
 replace hN:=hN.on b
 replace hI:=hI.on b
 replace hp:=hp.on b
 replace BW:=Below.step BW b
 clear b
 obtain ⟨z0c0,z0c1,z0c2⟩:=z0.zb3
 go_wp2_with fail
 refine (isFed_as hN hI (by omega) (by omega) HBI.out HR.out true HE.out).mono ?_
 rintro en w8 ⟨rfl,b⟩
 clear z0c0 z0c1 z0c2
 replace z0:=z0.on b
 replace hN:=hN.on b
 replace hI:=hI.on b
 replace hp:=hp.on b
 replace BW:=Below.step BW b
 clear b
 obtain ⟨z0c0,z0c1,z0c2⟩:=z0.zb3
 go_wp2_with fail
 go_ret
 exact ⟨rfl,BW⟩
theorem wrong_as {An Ai Ao : Option Addr} {nn cn ni ci no co : Nat} {N : List Nd} {I O : List Pt} {w : World} (hN : Ns w An nn N) (hI : Ps w Ai ni I) (hO : Ps w Ao no O) (swI : Sw Ai ni ci) (swO : Sw Ao no co) (hn : nn ≤ 100000) (hs : ni + no ≤ 1000) (hb : ∀ p ∈ I ++ O,p.bits.length ≤ 1000000) (v : Int) (hv : zaU N I O = v) :
  Calls Try.prog 69 #[.agg #[.slice An nn cn,.slice Ai ni ci,.slice Ao no co]] w fun e w' => e = .returned (.int .i64 v) ∧ Below w.heap.size w w':=by
 have q1 : IntKind.i64.wrap ((ni : Int) + (no : Int)) = ((ni + no : Nat) : Int):=by rw [IntKind.wrap_i64]; omega
 have e0 : decide (262144 < (nn : Int)) = false:=decide_eq_false (by omega)
 unfold zaU at hv
 rw [hI.1,hO.1,hN.1] at hv
 by_cases h1 : 64 < ni + no
 ·rw [if_pos h1] at hv
  subst hv
  exact wrong_many hN hI hO swI swO hn hs hb _ rfl q1 e0 (decide_eq_true (by omega))
 have e1 : decide (64 < ((ni + no : Nat) : Int)) = false:=decide_eq_false (by omega)
 rw [if_neg h1] at hv
 cases h2 : N.all (zaf nn)
 ·rw [h2] at hv
  subst hv
  exact wrong_f hN hI hO swI swO hn hs hb _ rfl q1 e0 e1 h2
 cases h3 : (I ++ O).all (zaM nn)
 ·rw [h2,h3] at hv
  subst hv
  exact wrong_b hN hI hO swI swO hn hs hb _ rfl q1 e0 e1 h2 h3
 rw [h2,h3] at hv
 simp only [Bool.and_self,if_true] at hv
 cases h4 : (I ++ O).all (fun p => zbm p.name)
 ·rw [h4] at hv
  subst hv
  exact wrong_n hN hI hO swI swO hn hs hb _ rfl q1 e0 e1 h2 h3 h4
 rw [h4] at hv
 simp only [if_true] at hv
 cases h5 : dupS (I ++ O)
 ·rw [h5] at hv
  simp only [Bool.false_eq_true,if_false] at hv
  cases h6 : fedS N I
  ·rw [h6] at hv
   subst hv
   exact zdY hN hI hO swI swO hn hs hb _ rfl q1 e0 e1 h2 h3 h4 h5 h6
  rw [h6] at hv
  subst hv
  exact zeA hN hI hO swI swO hn hs hb _ rfl q1 e0 e1 h2 h3 h4 h5 h6
 rw [h5] at hv
 subst hv
 exact wrong_d hN hI hO swI swO hn hs hb _ rfl q1 e0 e1 h2 h3 h4 h5
end Go.Proofs.Ytcehklnonhalhaa
