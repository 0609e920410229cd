/-
  What the proofs of OptTells need: GC.
-/
import Derived.Test.YtcehklnonhalhaaSTGbf
import Derived.Test.YtcehklnonhalhaaSTGr
import Derived.Laws.StructEq
import Derived.Laws.Tables
import Derived.Laws.Cover2
import Derived.Test.YtcehklnonhalhaaSTGt
import Derived.ChangeArms
import Derived.Deep.Slices
import Derived.Lib.SmallJoins
import Derived.SizedLaws
import Derived.DataReads
set_option linter.unusedVariables false
namespace Go.Proofs.Ytcehklnonhalhaa
open Go.RowKit
set_option maxRecDepth 4000
theorem Bx.ns {w : World} {s : Nat} {L : List Nd} (h : Bx w s (L.flatMap ndC)) : Ns w (some ⟨s,0,none⟩) L.length L:=⟨rfl,fun k x hx => by
 have H0 : ∀ i u,i < 4 → (ndC x)[i]? = some u → w.cell? ⟨s,0 + k * 4 + i,none⟩ = some u:=fun i u hi hu => by
  rw [Nat.zero_add]
  exact h.2 _ u (by rw [zap ndC 4 za1 L k i hi,hx]; exact hu)
 exact ⟨s,0,rfl,h.1,H0 0 _ (by omega) rfl,H0 1 _ (by omega) rfl,H0 2 _ (by omega) rfl,H0 3 _ (by omega) rfl⟩⟩
theorem Bx.is {w : World} {s : Nat} {L : List Int} (h : Bx w s (L.flatMap inC)) : Is w (some ⟨s,0,none⟩) L.length L:=⟨rfl,fun k x hx => ⟨s,0,rfl,h.1,by
 rw [Nat.zero_add]
 exact h.2 _ _ (by have:=zap inC 1 zaC L k 0 (by omega); rw [Nat.mul_one,Nat.add_zero] at this; rw [this,hx]; rfl)⟩⟩
theorem Bx.ps1 {w : World} {s : Nat} {nm : ByteArray} {A : Option Addr} {m c : Nat} {bs : List Int} (h : Bx w s [.string nm,.slice A m c]) (hi : Is w A m bs) (hc : m ≤ c ∧ (A = none → c = 0)) (hm : c ≤ maxLen) : Ps w (some ⟨s,0,none⟩) 1 [⟨nm,bs⟩]:=⟨rfl,fun k p hp => by
 cases k with
 | zero =>
  cases hp
  exact ⟨s,0,A,m,c,rfl,h.1,by simpa using h.2 0 _ rfl,by simpa using h.2 1 _ rfl,hc,hm,hi⟩
 | succ k => simp at hp⟩
theorem Sw.one (A : Nat) (n : Nat) (hn : n ≤ 1000) : Sw (some ⟨A,0,none⟩) n n:=⟨Nat.le_refl _,by unfold maxLen; omega,fun e => by cases e⟩
theorem Sw.nil_ : Sw none 0 0:=⟨Nat.le_refl _,by unfold maxLen; omega,fun _ => rfl⟩
set_option maxRecDepth 4000
open Go.RowKit Go.ChangeShapes Go.WideShapes
set_option maxRecDepth 4000
def RB : Nat:=140737488351232
section
variable {H : Type} {enc : TypeId × Value → H} {w : World}
theorem zdZ {P : Program} {e : TypeId} : ∀ {l : List (DataW H)} {d : DataW H},d ∈ l → ∀ n ∈ d.weights P e,n ∈ DataW.weightsAll P e l
 | d' :: r,d,hd,n,hn => by
  simp only [DataW.weightsAll,List.mem_append]
  rcases List.mem_cons.1 hd with rfl | h
  ·exact Or.inl hn
  exact Or.inr (zdZ h n hn)
theorem bytes_node : Try.prog.bytesOf 43 = 32:=by kernel_rfl
theorem bytes_port : Try.prog.bytesOf 41 = 40:=by kernel_rfl
theorem bytes_int : Try.prog.bytesOf 3 = 8:=by kernel_rfl
theorem zeU : Try.prog.cellsOf 43 = 4:=by kernel_rfl
theorem zeT : Try.prog.cellsOf 41 = 2:=by kernel_rfl
theorem cells_int : Try.prog.cellsOf 3 = 1:=by kernel_rfl
theorem cells_net : Try.prog.cellsOf 25 = 3:=by kernel_rfl
theorem block_lt {a : Addr} {v : Value} (h : w.cell? a = some v) : ∃ b off,a = ⟨b,off,none⟩ ∧ b < w.heap.size:=by
 have h1:=World.cell?_spot h
 obtain ⟨b,off,s⟩:=a
 refine ⟨b,off,by simpa using h1,?_⟩
 rcases Nat.lt_or_ge b w.heap.size with g | g
 ·exact g
 exfalso
 unfold World.cell? at h
 simp [Array.getElem?_eq_none g] at h
theorem spot_of {a : Addr} {v : Value} (h : w.cell? (a.add 0) = some v) : a.spot = none:=by
 obtain ⟨b,off,e,hb⟩:=block_lt h
 unfold Addr.add at e
 simp at e
 rw [e]
theorem zeg {a : Addr} {j : Nat} {v : Value} (hs : a.spot = none) (h : w.cell? (a.add j) = some v) : ∃ b o,a = ⟨b,o,none⟩ ∧ b < w.heap.size ∧ w.cell? ⟨b,o + j,none⟩ = some v:=by
 obtain ⟨b,off,e,hb⟩:=block_lt h
 obtain ⟨b',o',s⟩:=a
 subst hs
 unfold Addr.add at e h
 by_cases hi : j = 0
 all_goals
  simp [hi] at e h ⊢
  exact ⟨b',o',⟨rfl,rfl⟩,by omega,h⟩
theorem open_ints6 {fuel : Nat} {v : Value} {x : DataW H × List MemPlace} (h : DataW.trod enc Try.prog w 0 (fun _ => true) true fuel 39 [v] = some x) (hz : ∀ n ∈ x.1.weights Try.prog 39,n ≤ RB) :
  ∃ A n c L,v = .slice A n c ∧ Is w A n L ∧ Sw A n c ∧ c ≤ RB:=by
 rcases open_ints Try.underlying39 Try.underlying3 cells_int h with ⟨hcs,_⟩ | ⟨a,l,c,zs,hcs,_,hl,hm,hzl,hx,hcell,hwz⟩
 ·cases hcs
  exact ⟨none,0,0,[],rfl,Is.nil_,⟨Nat.le_refl _,by unfold maxLen; omega,fun _ => rfl⟩,by unfold RB; omega⟩
 cases hcs
 simp only [if_true] at hzl
 have hc : c ≤ RB:=by
  have:=hz (c * Try.prog.bytesOf 3) (by
   rw [hx]
   simp only [DataW.weights,Try.underlying39,List.mem_cons,List.length_map,lits,List.length_take,List.length_drop,hzl]
   exact .inl (by congr 1; omega))
  rw [bytes_int] at this
  omega
 refine ⟨some a,l,c,zs.take l,rfl,⟨by rw [List.length_take]; omega,fun k x hx => ?_⟩,⟨hl,hm,fun e => by cases e⟩,hc⟩
 rw [List.getElem?_take] at hx
 split at hx
 ·rename_i hk
  have hkz : k < zs.length:=(List.getElem?_eq_some_iff.1 hx).1
  have h1:=hcell k hkz
  rw [List.getD_eq_getElem?_getD,hx] at h1
  have hs:=spot_of (hcell 0 (by omega))
  obtain ⟨b,o,rfl,hb,h2⟩:=zeg hs h1
  exact ⟨b,o,rfl,hb,h2⟩
 cases hx
theorem open_nodes6 {fuel : Nat} {v : Value} {x : DataW H × List MemPlace} (h : DataW.trod enc Try.prog w 0 (fun _ => true) true fuel 22 [v] = some x) (hz : ∀ n ∈ x.1.weights Try.prog 22,n ≤ RB) :
  ∃ A n c N,v = .slice A n c ∧ Ns w A n N ∧ Sw A n c ∧ c ≤ RB:=by
 rcases Go.Deep.open_slice Try.underlying22 h with ⟨hcs,_⟩ | ⟨a,l,c,m,fu,D,Pl,hcs,_,hl,hm,hmm,hx,hel⟩
 ·cases hcs
  exact ⟨none,0,0,[],rfl,Ns.nil_,⟨Nat.le_refl _,by unfold maxLen; omega,fun _ => rfl⟩,by unfold RB; omega⟩
 cases hcs
 simp only [if_true] at hmm
 subst hmm
 have hc : m ≤ RB:=by
  have:=hz (m * Try.prog.bytesOf 43) (by
   rw [hx]
   simp only [DataW.weights,Try.underlying22,List.mem_cons,List.length_map,List.length_range]
   exact .inl (by congr 1; omega))
  rw [bytes_node] at this
  omega
 obtain ⟨N,hN1,hN2⟩:=list_ex (Q:=fun (k : Nat) (x : Nd) => ∃ b off,some a = some ⟨b,off,none⟩ ∧ NdAt w b (off + k * 4) x) l (fun k hk => by
  have hs : a.spot = none:=by
   obtain ⟨cs,h1,_⟩:=hel 0 (by omega)
   rw [zeU] at h1
   obtain ⟨_,hcl,hce⟩:=World.cells?_some h1
   have g0:=hce 0 (by omega)
   rw [Go.Deep.add_add,Nat.zero_mul,List.getElem?_eq_getElem (by omega)] at g0
   exact spot_of g0
  obtain ⟨cs,h1,h2⟩:=hel k (by omega)
  rw [zeU] at h1
  obtain ⟨_,hcl,hce⟩:=World.cells?_some h1
  obtain ⟨c0,c1,c2,c3,rfl⟩ : ∃ c0 c1 c2 c3,cs = [c0,c1,c2,c3]:=by
   match cs,hcl with
   | [c0,c1,c2,c3],_ => exact ⟨c0,c1,c2,c3,rfl⟩
  obtain ⟨y0,y1,y2,y3,fu2,_,_,t0,t1,t2,t3⟩:=Go.Joins.trod_struct4 Try.underlying43 h2
  obtain ⟨x0,e0,_⟩:=DataW.trod_int Try.underlying3 t0
  obtain ⟨x1,e1,_⟩:=DataW.trod_int Try.underlying3 t1
  obtain ⟨x2,e2,_⟩:=DataW.trod_int Try.underlying3 t2
  obtain ⟨x3,e3,_⟩:=DataW.trod_int Try.underlying3 t3
  simp only [show Try.prog.cellsOf 3 = 1 from cells_int] at e0 e1 e2 e3
  obtain rfl : c0 = .int .i64 x0:=by simpa using e0
  obtain rfl : c1 = .int .i64 x1:=by simpa using e1
  obtain rfl : c2 = .int .i64 x2:=by simpa using e2
  obtain rfl : c3 = .int .i64 x3:=by simpa using e3
  have g0:=hce 0 (by omega)
  have g1:=hce 1 (by omega)
  have g2:=hce 2 (by omega)
  have g3:=hce 3 (by omega)
  rw [Go.Deep.add_add] at g0 g1 g2 g3
  obtain ⟨b,o,rfl,hb,q0⟩:=zeg hs g0
  refine ⟨⟨x0,x1,x2,x3⟩,b,o,rfl,hb,?_,?_,?_,?_⟩
  ·exact q0
  ·obtain ⟨b',o',e,_,q⟩:=zeg hs g1; cases e; exact q
  ·obtain ⟨b',o',e,_,q⟩:=zeg hs g2; cases e; exact q
  obtain ⟨b',o',e,_,q⟩:=zeg hs g3; cases e; exact q)
 exact ⟨some a,l,m,N,rfl,⟨hN1,hN2⟩,⟨hl,hm,fun e => by cases e⟩,hc⟩
theorem zee {fuel : Nat} {v : Value} {x : DataW H × List MemPlace} (h : DataW.trod enc Try.prog w 0 (fun _ => true) true fuel 23 [v] = some x) (hz : ∀ n ∈ x.1.weights Try.prog 23,n ≤ RB) :
  ∃ A n c L,v = .slice A n c ∧ Ps w A n L ∧ Sw A n c ∧ c ≤ RB ∧ ∀ p ∈ L,p.bits.length ≤ RB ∧ p.name.size ≤ RB:=by
 rcases Go.Deep.open_slice Try.underlying23 h with ⟨hcs,_⟩ | ⟨a,l,c,m,fu,D,Pl,hcs,_,hl,hm,hmm,hx,hel⟩
 ·cases hcs
  exact ⟨none,0,0,[],rfl,Ps.nil_,⟨Nat.le_refl _,by unfold maxLen; omega,fun _ => rfl⟩,by unfold RB; omega,fun p hp => by cases hp⟩
 cases hcs
 simp only [if_true] at hmm
 subst hmm
 have hc : m ≤ RB:=by
  have:=hz (m * Try.prog.bytesOf 41) (by
   rw [hx]
   simp only [DataW.weights,Try.underlying23,List.mem_cons,List.length_map,List.length_range]
   exact .inl (by congr 1; omega))
  rw [bytes_port] at this
  omega
 have H0 : ∀ k < l,∀ n ∈ (D k).weights Try.prog 41,n ≤ RB:=fun k hk n hn => hz n (by
  rw [hx]
  simp only [DataW.weights,Try.underlying23,List.mem_cons,List.mem_append]
  exact .inr (.inl (zdZ (List.mem_map.2 ⟨k,List.mem_range.2 hk,rfl⟩) n hn)))
 obtain ⟨L,hL1,hL2⟩:=list_ex (Q:=fun (k : Nat) (p : Pt) => (∃ b off A' m c,some a = some ⟨b,off,none⟩ ∧ b < w.heap.size ∧ w.cell? ⟨b,off + k * 2,none⟩ = some (.string p.name) ∧ w.cell? ⟨b,off + k * 2 + 1,none⟩ = some (.slice A' m c) ∧ (m ≤ c ∧ (A' = none → c = 0)) ∧ c ≤ maxLen ∧ Is w A' m p.bits) ∧ p.bits.length ≤ RB ∧ p.name.size ≤ RB) l (fun k hk => by
  have hs : a.spot = none:=by
   obtain ⟨cs,h1,_⟩:=hel 0 (by omega)
   rw [zeT] at h1
   obtain ⟨_,hcl,hce⟩:=World.cells?_some h1
   have g0:=hce 0 (by omega)
   rw [Go.Deep.add_add,Nat.zero_mul,List.getElem?_eq_getElem (by omega)] at g0
   exact spot_of g0
  obtain ⟨cs,h1,h2⟩:=hel k (by omega)
  rw [zeT] at h1
  obtain ⟨_,hcl,hce⟩:=World.cells?_some h1
  obtain ⟨c0,c1,rfl⟩ : ∃ c0 c1,cs = [c0,c1]:=by
   match cs,hcl with
   | [c0,c1],_ => exact ⟨c0,c1,rfl⟩
  obtain ⟨y0,y1,fu2,hD,_,t0,t1⟩:=trod_struct2 Try.underlying41 h2
  injection hD with hD _
  have hw:=H0 k hk
  rw [hD] at hw
  simp only [DataW.weights,Try.underlying41,DataW.weightsEach,List.map_cons,List.map_nil,List.append_nil,List.mem_append] at hw
  have t0' : DataW.trod enc Try.prog w 0 (fun _ => true) true fu2 9 [c0] = some y0:=t0
  have t1' : DataW.trod enc Try.prog w 0 (fun _ => true) true fu2 39 [c1] = some y1:=t1
  obtain ⟨s,e0,ey,hss⟩:=DataW.trod_string Try.underlying9 t0'
  obtain rfl : c0 = .string s:=by simpa using e0
  obtain ⟨A',m',c',bs,rfl,hi,hsw,hcr⟩:=open_ints6 t1' (fun n hn => hw n (.inr hn))
  have hsz : s.size ≤ RB:=hw s.size (.inl (by rw [ey]; simp [DataW.weights]))
  have g0:=hce 0 (by omega)
  have g1:=hce 1 (by omega)
  rw [Go.Deep.add_add] at g0 g1
  obtain ⟨b,o,rfl,hb,q0⟩:=zeg hs g0
  refine ⟨⟨s,bs⟩,⟨b,o,A',m',c',rfl,hb,q0,?_,⟨hsw.1,hsw.2.2⟩,hsw.2.1,hi⟩,?_,hsz⟩
  ·obtain ⟨b',o',e,_,q⟩:=zeg hs g1; cases e; exact q
  show bs.length ≤ RB
  rw [hi.1]
  exact Nat.le_trans hsw.1 hcr)
 exact ⟨some a,l,m,L,rfl,⟨hL1,fun k p hp => (hL2 k p hp).1⟩,⟨hl,hm,fun e => by cases e⟩,hc,fun p hp => by
  obtain ⟨k,hk⟩:=List.mem_iff_getElem?.1 hp
  exact (hL2 k p hk).2⟩
structure NetIn (w : World) (An : Option Addr) (nn cn : Nat) (Ai : Option Addr) (ni ci : Nat) (Ao : Option Addr) (no co : Nat) (N : List Nd) (I O : List Pt) : Prop where
  n : Ns w An nn N
  i : Ps w Ai ni I
  o : Ps w Ao no O
  sn : Sw An nn cn
  si : Sw Ai ni ci
  so : Sw Ao no co
  hn : nn ≤ RB
  hi : ni ≤ RB
  ho : no ≤ RB
  bi : ∀ p ∈ I,p.bits.length ≤ RB ∧ p.name.size ≤ RB
  bo : ∀ p ∈ O,p.bits.length ≤ RB ∧ p.name.size ≤ RB
theorem NetIn.on {w w' : World} {An Ai Ao : Option Addr} {nn cn ni ci no co : Nat} {N : List Nd} {I O : List Pt} (h : NetIn w An nn cn Ai ni ci Ao no co N I O) (hb : Below w.heap.size w w') : NetIn w' An nn cn Ai ni ci Ao no co N I O:=
 ⟨h.n.on hb,h.i.on hb,h.o.on hb,h.sn,h.si,h.so,h.hn,h.hi,h.ho,h.bi,h.bo⟩
theorem open_net {v : Value} {d : DataW H} {p : List MemPlace} {b0 : Nat} (hv : Value.okWide Try.prog w .any b0 25 v) (h : DataW.Trod enc Try.prog w 0 (fun _ => true) true 25 v d p) (hz : ∀ n ∈ d.weights Try.prog 25,n ≤ RB) :
  ∃ An nn cn Ai ni ci Ao no co N I O,v = .agg #[.slice An nn cn,.slice Ai ni ci,.slice Ao no co] ∧ NetIn w An nn cn Ai ni ci Ao no co N I O:=by
 obtain ⟨v0,v1,v2,y0,y1,y2,fu,rfl,rfl,rfl,t0,t1,t2⟩:=Go.Joins.open_agg3 Try.underlying25 (by kernel_rfl) cells_net hv h
 simp only [DataW.weights,Try.underlying25,DataW.weightsEach,List.map_cons,List.map_nil,List.append_nil,List.mem_append] at hz
 obtain ⟨An,nn,cn,N,rfl,hN,sn,hn⟩:=open_nodes6 t0 (fun n hn => hz n (.inl hn))
 obtain ⟨Ai,ni,ci,I,rfl,hI,si,hi,bi⟩:=zee t1 (fun n hn => hz n (.inr (.inl hn)))
 obtain ⟨Ao,no,co,O,rfl,hO,so,ho,bo⟩:=zee t2 (fun n hn => hz n (.inr (.inr hn)))
 exact ⟨An,nn,cn,Ai,ni,ci,Ao,no,co,N,I,O,rfl,hN,hI,hO,sn,si,so,Nat.le_trans sn.1 hn,Nat.le_trans si.1 hi,Nat.le_trans so.1 ho,bi,bo⟩
end
end Go.Proofs.Ytcehklnonhalhaa
