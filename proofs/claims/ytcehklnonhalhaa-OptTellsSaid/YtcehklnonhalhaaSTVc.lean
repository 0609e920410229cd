/-
  What the proofs of OptTells need: Vc Vd Ve.
-/
import Derived.Test.YtcehklnonhalhaaSTVa
import Derived.Test.YtcehklnonhalhaaSTYy
import Derived.Maps.Views
import Derived.Maps.Own
import Derived.Maps.OwnOps
import Derived.Maps.OwnSet
import Derived.DeepKeys4
import Derived.Test.YtcehklnonhalhaaSTYl
set_option linter.unusedVariables false
namespace Go.Proofs.Ytcehklnonhalhaa
open Go.RowKit
open Go.Maps (Keyed)
set_option maxRecDepth 4000
def kN (x : Nd) : Lit:=.string (keyBytes [.int .i64 x.k,.int .i64 x.a,.int .i64 x.b,.int .i64 x.c])
def wfN (x : Nd) : Prop:=(Lit.int .i64 x.k).wf = true ∧ (Lit.int .i64 x.a).wf = true ∧ (Lit.int .i64 x.b).wf = true ∧ (Lit.int .i64 x.c).wf = true
theorem nd_laid : laidOutB Try.prog = true:=by kernel_rfl
theorem nd_row : (43 : TypeId) < Try.prog.types.size:=of_decide_eq_true (by kernel_rfl)
theorem nd_wide : (match Try.prog.underlying 43 with | some (.array _ _) | some (.struct _) => true | _ => false) = true:=by kernel_rfl
theorem nd_keyed : Keyed Try.prog 43:=Keyed.of_law (deep_law_laid nd_laid (m:=2) (by omega) nd_row (by kernel_rfl) nd_wide)
theorem keyN {x : Nd} (h : wfN x) : keyOf Try.prog 43 (ndA x) = some (kN x):=by
 obtain ⟨k,a,b,c⟩:=x
 obtain ⟨h1,h2,h3,h4⟩:=h
 obtain ⟨n,hn⟩ : ∃ n,Try.prog.types.size = n + 1:=⟨Try.prog.types.size - 1,by have h : 0 < Try.prog.types.size:=of_decide_eq_true (by kernel_rfl); omega⟩
 have hk : Try.prog.keyType 43 = true:=by kernel_rfl
 have hf : (Value.agg #[.int .i64 k,.int .i64 a,.int .i64 b,.int .i64 c]).formed Try.prog 43 = true:=by
  have hc : Try.prog.cellsOf 43 = 4:=by kernel_rfl
  simp [Value.formed,Try.underlying43,hc]
 have hl : Try.prog.keyLits (Try.prog.types.size + 1) 43 [.int .i64 k,.int .i64 a,.int .i64 b,.int .i64 c] = some [.int .i64 k,.int .i64 a,.int .i64 b,.int .i64 c]:=by
  have hc : Try.prog.cellsOf 43 = 4:=by kernel_rfl
  have hi : Try.prog.cellsOf 3 = 1:=by kernel_rfl
  rw [hn]
  simp [Program.keyLits,Try.underlying43,Try.underlying3,hc,hi] at h1 h2 h3 h4 ⊢
  simp [h1,h2,h3,h4]
 unfold keyOf
 rw [Try.underlying43]
 have hf2 : (ndA ⟨k,a,b,c⟩).formed Try.prog 43 = true:=hf
 rw [if_pos (by rw [hk,hf2]; rfl)]
 show Option.map _ (Try.prog.keyLits (Try.prog.types.size + 1) 43 [.int .i64 k,.int .i64 a,.int .i64 b,.int .i64 c]) = _
 rw [hl]
 rfl
theorem wf_n64 {x : Int} (h0 : 0 ≤ x) (h1 : x ≤ 1000000) : (Lit.int .i64 x).wf = true:=by
 have e1 : IntKind.i64.min = -9223372036854775808:=rfl
 have e2 : IntKind.i64.max = 9223372036854775807:=rfl
 simp [Lit.wf]
 omega
theorem wfN_of {x : Nd} (h : ∀ v ∈ [x.k,x.a,x.b,x.c],-1000000 ≤ v ∧ v ≤ 1000000) : wfN x:=by
 have H0 : ∀ v : Int,-1000000 ≤ v ∧ v ≤ 1000000 → (Lit.int .i64 v).wf = true:=fun v hv => by
  have e1 : IntKind.i64.min = -9223372036854775808:=rfl
  have e2 : IntKind.i64.max = 9223372036854775807:=rfl
  simp [Lit.wf]
  omega
 exact ⟨H0 _ (h _ (by simp)),H0 _ (h _ (by simp)),H0 _ (h _ (by simp)),H0 _ (h _ (by simp))⟩
theorem ndA_inj {x y : Nd} (h : ndA x = ndA y) : x = y:=by
 obtain ⟨a,b,c,d⟩:=x
 obtain ⟨a',b',c',d'⟩:=y
 unfold ndA at h
 injection h with h
 have h:=congrArg Array.toList h
 simp at h
 obtain ⟨rfl,rfl,rfl,rfl⟩:=h
 rfl
theorem kN_ne {x y : Nd} (hx : wfN x) (hy : wfN y) (h : y ≠ x) : kN y ≠ kN x:=fun e => h (ndA_inj (nd_keyed.inj (keyN hy) (by rw [keyN hx,e])))
def MapN (w : World) (b n : Nat) (D : DataW Unit) : Prop:=w.ownsMap Try.prog 43 (plainElem Try.prog 3) b n D
theorem MapN.below {w w' : World} {b n : Nat} {D : DataW Unit} (h : MapN w b n D) (hb : Below w.heap.size w w') : MapN w' b n D:=by
 obtain ⟨es,clock,h1,h2⟩:=h
 exact ⟨es,clock,(hb.block b (Array.getElem?_eq_some_iff.1 h1).1).trans h1,h2⟩
structure Dn (F : Nd → Option Nat) (D : DataW Unit) : Prop where
  has : ∀ x,wfN x → Maps.has D (kN x) = (F x).isSome
  at_ : ∀ x,wfN x → D.atKey (kN x) (.lit (.int .i64 0)) = .lit (.int .i64 ((F x).getD 0 : Nat))
theorem Dn.start : Dn (fun _ => none) (.map []):=⟨fun x _ => rfl,fun x _ => rfl⟩
theorem Dn.put {F : Nd → Option Nat} {D : DataW Unit} (h : Dn F D) (hm : Maps.IsMap D) {x : Nd} (hx : wfN x) (q : Nat) : Dn (putK F x q) (D.put (kN x) (.lit (.int .i64 q))) where
 has:=fun y hy => by
  by_cases e : y = x
  ·subst e
   rw [Maps.has_put_same hm (by trivial),zdg]
   rfl
  rw [Maps.has_put_other (kN_ne hx hy e),zcK _ _ e]
  exact h.has y hy
 at_:=fun y hy => by
  by_cases e : y = x
  ·subst e
   rw [Maps.atKey_put_same hm (by trivial),zdg]
   rfl
  rw [Maps.atKey_put_other (kN_ne hx hy e),zcK _ _ e]
  exact h.at_ y hy
theorem look_ok {w : World} {b n : Nat} {D : DataW Unit} {F : Nd → Option Nat} {x : Nd} (h : MapN w b n D) (d : Dn F D) (hx : wfN x) : (Instr.lookup 83 (.map (some b)) (ndA x) true).run Try.prog w = .ok (.tuple #[.int .i64 ((F x).getD 0 : Nat),.bool (F x).isSome]) w:=by
 obtain ⟨v,ps,hrun,hv⟩:=World.ownsMap.look_ok h nd_keyed Try.underlying83 (z:=.int .i64 0) (by kernel_rfl) (plainElem_int Try.underlying3 (by decide)) (keyN hx)
 rw [d.at_ x hx] at hv
 obtain ⟨c,rfl,hc,_⟩:=plainElem_int_inv Try.underlying3 hv
 injection hc with hc _
 injection hc with hc
 injection hc with _ hc
 rw [hrun,d.has x hx,hc]
def Kx (T : Nat → Prop) (w w' : World) : Prop:=Below 0 w w' ∧ ∀ b,b < w.heap.size → ¬ T b → w'.heap[b]? = w.heap[b]?
theorem Kx.size {T : Nat → Prop} {a b : World} (h : Kx T a b) : a.heap.size ≤ b.heap.size:=Below.size h.1
theorem Kx.refl (T : Nat → Prop) (w : World) : Kx T w w:=⟨Below.refl _ _,fun _ _ _ => rfl⟩
theorem Kx.step {T : Nat → Prop} {a b c : World} (h : Kx T a b) (k : Below b.heap.size b c) : Kx T a c:=⟨Below.trans h.1 (k.mono (Nat.zero_le _)),fun x hx ht => (k.block x (Nat.lt_of_lt_of_le hx h.size)).trans (h.2 x hx ht)⟩
theorem Kx.trans {T : Nat → Prop} {a b c : World} (h : Kx T a b) (k : Kx T b c) : Kx T a c:=⟨Below.trans h.1 k.1,fun x hx ht => (k.2 x (Nat.lt_of_lt_of_le hx h.size) ht).trans (h.2 x hx ht)⟩
theorem Kx.mono {T T' : Nat → Prop} {a b : World} (h : Kx T a b) (hT : ∀ x,T x → T' x) : Kx T' a b:=⟨h.1,fun x hx ht => h.2 x hx (fun e => ht (hT x e))⟩
theorem Kx.set {T : Nat → Prop} {a b : World} (h : Kx T a b) {g : Nat} (hg : T g) (o : Nat) (u : Value) : Kx T a (b.setCell ⟨g,o,none⟩ u):=⟨Below.setCell h.1 (p:=⟨g,o,none⟩) (Nat.zero_le _) u,fun x hx ht => (Below.heap_setCell b ⟨g,o,none⟩ u x (fun e => ht (by have e : x = g:=e; rw [e]; exact hg))).trans (h.2 x hx ht)⟩
theorem Kx.grown {T : Nat → Prop} {a b c : World} {g : Nat} (h : Kx T a b) (hG : b.grownBy c (some g)) (hg : T g) : Kx T a c:=⟨Below.grown h.1 hG (Nat.zero_le _) (fun _ _ => Nat.zero_le _),fun x hx ht => (hG.block x (Nat.lt_of_lt_of_le hx h.size) (fun e => ht (by injection e with e; rw [e]; exact hg))).trans (h.2 x hx ht)⟩
theorem Kx.below {T : Nat → Prop} {a b : World} (h : Kx T a b) {B : Nat} (hB : B ≤ a.heap.size) (hT : ∀ x,T x → B ≤ x) : Below B a b:=⟨Below.os h.1,Below.tape h.1,Below.output h.1,h.size,fun k hk => h.2 k (Nat.lt_of_lt_of_le hk hB) (fun ht => by have:=hT k ht; omega)⟩
def tS (vn vs : Value) (mb : Nat) : Nat → Prop:=fun b => vn.ownBlock = some b ∨ vs.ownBlock = some b ∨ b = mb
structure Fk (w : World) (base p : Nat) (vn vs : Value) (mb n : Nat) (M : List Nd) (S : List Int) (F : Nd → Option Nat) : Prop where
  ow : Own w p 85 [vn,vs,.map (some mb)]
  rn : w.ownsRow base 43 4 vn M.length (M.flatMap ndC)
  rs : w.ownsRow base 3 1 vs M.length (S.flatMap inC)
  ls : S.length = M.length
  lo : base ≤ p
  mp : ∃ D,MapN w mb n D ∧ Dn F D
  lb : base ≤ mb
section
variable {w w' : World} {base p : Nat} {vn vs : Value} {mb n : Nat} {M : List Nd} {S : List Int} {F : Nd → Option Nat}
theorem Fk.on (h : Fk w base p vn vs mb n M S F) (hb : Below w.heap.size w w') : Fk w' base p vn vs mb n M S F:=by
 obtain ⟨D,hm,hd⟩:=h.mp
 exact ⟨h.ow.below hb h.ow.lt,zam h.rn hb,zam h.rs hb,h.ls,h.lo,⟨D,hm.below hb,hd⟩,h.lb⟩
theorem zcz {b g : Nat} {cur : Array Value} {T : TypeId} {f : Nat × Nat} {D : DataW Unit} (k : MapN w b n D) (hg : w.heap[g]? = some (.cells cur T f)) : b ≠ g:=fun e => by
 obtain ⟨es,clock,hb,_⟩:=k
 rw [e,hg] at hb
 cases hb
theorem map_set {b g : Nat} {cur : Array Value} {T : TypeId} {f : Nat × Nat} {D : DataW Unit} (k : MapN w b n D) (hg : w.heap[g]? = some (.cells cur T f)) (o : Nat) (u : Value) : MapN (w.setCell ⟨g,o,none⟩ u) b n D:=World.ownsMap.kept k (zai _ _ _) (fun e => zcz k hg (by injection e))
theorem zd8 {T : Nat → Prop} {e : TypeId} {s k : Nat} {v : Value} {xs : List Value} (h : w.ownsRow base e s v k xs) (hk : Kx T w w') (ht : ∀ b,v.ownBlock = some b → ¬ T b) : w'.ownsRow base e s v k xs:=by
 have hl:=h.lt
 refine ⟨h.1,?_⟩
 rcases h.2 with h1 | ⟨g,cap,cur,rfl,h2,h3,h4⟩
 ·exact .inl h1
 exact .inr ⟨g,cap,cur,rfl,h2,(hk.2 g (hl g rfl).2 (ht g rfl)).trans h3,h4⟩
theorem Fk.kx {T : Nat → Prop} (h : Fk w base p vn vs mb n M S F) (hk : Kx T w w') (hp : ¬ T p) (hn : ∀ b,vn.ownBlock = some b → ¬ T b) (hs : ∀ b,vs.ownBlock = some b → ¬ T b) (hm : ¬ T mb) : Fk w' base p vn vs mb n M S F:=by
 obtain ⟨D,⟨es,clock,g1,g2⟩,hd⟩:=h.mp
 exact ⟨(hk.2 p h.ow.lt hp).trans h.ow,zd8 h.rn hk hn,zd8 h.rs hk hs,h.ls,h.lo,⟨D,⟨es,clock,(hk.2 mb (Array.getElem?_eq_some_iff.1 g1).1 hm).trans g1,g2⟩,hd⟩,h.lb⟩
theorem Fk.setS {b1 c' q : Nat} (h : Fk w base p vn (.slice (some ⟨b1,0,none⟩) M.length c') mb n M S F) (v : Int) : Fk (w.setCell ⟨b1,q,none⟩ (.int .i64 v)) base p vn (.slice (some ⟨b1,0,none⟩) M.length c') mb n M (S.set q v) F:=by
 obtain ⟨D,hm,hd⟩:=h.mp
 obtain ⟨cu,hc,hlo⟩:=zaJ h.rs
 have R:=(h.rs.stored q (.int .i64 v)).1
 rw [zca] at R
 exact ⟨h.ow.apart (zaK h.ow hc (by decide)) q _,zaI h.rn hc (by decide) q _,R,by rw [List.length_set]; exact h.ls,h.lo,⟨D,map_set hm hc q _,hd⟩,h.lb⟩
theorem Fk.setN {b0 cc q : Nat} (h : Fk w base p (.slice (some ⟨b0,0,none⟩) M.length cc) vs mb n M S F) (x : Nd) : Fk ((((w.setCell ⟨b0,q * 4,none⟩ (.int .i64 x.k)).setCell ⟨b0,q * 4 + 1,none⟩ (.int .i64 x.a)).setCell ⟨b0,q * 4 + 2,none⟩ (.int .i64 x.b)).setCell ⟨b0,q * 4 + 3,none⟩ (.int .i64 x.c)) base p (.slice (some ⟨b0,0,none⟩) M.length cc) vs mb n (M.set q x) S F:=by
 obtain ⟨D,hm,hd⟩:=h.mp
 obtain ⟨cu,hc,hlo⟩:=zaJ h.rn
 have R1:=(h.rn.stored (q * 4) (.int .i64 x.k)).1
 obtain ⟨cu1,hc1,_⟩:=zaJ R1
 have R2:=(R1.stored (q * 4 + 1) (.int .i64 x.a)).1
 obtain ⟨cu2,hc2,_⟩:=zaJ R2
 have R3:=(R2.stored (q * 4 + 2) (.int .i64 x.b)).1
 obtain ⟨cu3,hc3,_⟩:=zaJ R3
 have R4:=(R3.stored (q * 4 + 3) (.int .i64 x.c)).1
 rw [zcO] at R4
 have H0:=zaK h.ow hc (by decide)
 have eM : (M.set q x).length = M.length:=by simp
 refine ⟨(((h.ow.apart H0 _ _).apart H0 _ _).apart H0 _ _).apart H0 _ _,by rw [eM]; exact R4,by rw [eM]; exact zaI (zaI (zaI (zaI h.rs hc (by decide) _ _) hc1 (by decide) _ _) hc2 (by decide) _ _) hc3 (by decide) _ _,by rw [eM]; exact h.ls,h.lo,⟨D,map_set (map_set (map_set (map_set hm hc _ _) hc1 _ _) hc2 _ _) hc3 _ _,hd⟩,h.lb⟩
theorem Fk.putM {D : DataW Unit} {x : Nd} {q : Nat} (h : Fk w base p vn vs mb n M S F) (hm : MapN w mb n D) (hd : Dn F D) (hx : wfN x) (hM : MapN w' mb (n + 1) (D.put (kN x) (.lit (.int .i64 q)))) (hG : w.grownBy w' (some mb)) : Fk w' base p vn vs mb (n + 1) M S (putK F x q):=by
 have ne : ∀ {B k s : Nat} {e : TypeId} {v : Value} {xs : List Value},w.ownsRow B e s v k xs → v.ownBlock ≠ some mb:=fun h q => by
  rcases h.2 with ⟨e1,_⟩ | ⟨g,cap,cur,e1,_,hg,_⟩
  ·rw [e1] at q
   cases q
  rw [e1] at q
  injection q with q
  exact zcz hm hg q.symm
 refine ⟨h.ow.kept hG (fun e => ?_),h.rn.kept hG (.inr (ne h.rn)),h.rs.kept hG (.inr (ne h.rs)),h.ls,h.lo,⟨_,hM,hd.put (World.ownsMap.isMap hm) hx q⟩,h.lb⟩
 injection e with e
 exact zcz hm h.ow e.symm
end
end Go.Proofs.Ytcehklnonhalhaa
namespace Go.Proofs.Ytcehklnonhalhaa
open Go.RowKit
open Go.Maps (Keyed)
set_option maxRecDepth 4000
def Frk (w : World) (p n : Nat) (S : List Int) : Prop:=∃ (v1 : Value) (A' : Option Addr) (c' : Nat) (v3 : Value),Bx w p [v1,.slice A' n c',v3] ∧ Is w A' n S
theorem suses_as {w : World} {p n : Nat} {S : List Int} (h : Frk w p n S) {x : Nd} (hx : isIO x ∨ Ok (fun y => ∃ m : Nat,y = (m : Int) ∧ m < n) x) : Calls Try.prog 79 #[.pointer (some ⟨p,0,none⟩),ndA x] w fun e w' => e = .returned (ndA (keyS (zaG S x))) ∧ Below w.heap.size w w':=by
 obtain ⟨v1,A',c',v3,h1,h3⟩:=h
 obtain ⟨k,xa,xb,xc⟩:=x
 have H0 : k ≠ 2 → k ≠ 3 → k ≠ 4 → k ≠ 5 → k ≠ 6 → Calls Try.prog 79 #[.pointer (some ⟨p,0,none⟩),ndA ⟨k,xa,xb,xc⟩] w fun e w' => e = .returned (ndA (keyS (zaG S ⟨k,xa,xb,xc⟩))) ∧ Below w.heap.size w w':=fun e2 e3 e4 e5 e6 => by
  have : zaG S ⟨k,xa,xb,xc⟩ = ⟨k,xa,xb,xc⟩:=by
   unfold zaG
   rw [if_neg e2,if_neg (by intro h; rcases h with h | h | h <;> contradiction),if_neg e6]
  rw [this]
  exact uses10_n xa xb xc k (zae e2) (zae e3) (zae e4) (zae e5) (zae e6) h1
 rcases hx with hio | hx
 ·have hio : k = 1 ∨ k = 7:=hio
  exact H0 (by omega) (by omega) (by omega) (by omega) (by omega)
 rcases hx.kd with ⟨e,_⟩ | ⟨e,ha,_⟩ | ⟨e,ha,hb,_⟩ | ⟨e,ha,hb,hc⟩
 ·have e : k = 0:=e
  exact H0 (by omega) (by omega) (by omega) (by omega) (by omega)
 ·have e : k = 2:=e
  subst e
  obtain ⟨a,e1,ha⟩:=ha
  have e1 : xa = (a : Int):=e1
  subst e1
  obtain ⟨b0,off,eA,iA⟩:=h3.iat ha
  subst eA
  exact uses10_2 a xb xc _ h1 ha iA
 ·obtain ⟨a,e1,ha⟩:=ha
  obtain ⟨b,e2,hb⟩:=hb
  have e1 : xa = (a : Int):=e1
  have e2 : xb = (b : Int):=e2
  subst e1 e2
  obtain ⟨b0,off,eA,iA⟩:=h3.iat ha
  subst eA
  obtain ⟨b1,off1,eB,iB⟩:=h3.iat hb
  injection eB with eB
  injection eB with eB1 eB2
  subst eB1 eB2
  have e : k = 3 ∨ k = 4 ∨ k = 5:=e
  rcases e with e | e | e
  ·subst e
   exact zeW a b xc _ _ 3 rfl (.inl rfl) h1 ha iA hb iB
  ·subst e
   exact zeW a b xc _ _ 4 rfl (.inr (.inl ⟨rfl,rfl⟩)) h1 ha iA hb iB
  subst e
  exact zeW a b xc _ _ 5 rfl (.inr (.inr ⟨rfl,rfl,rfl⟩)) h1 ha iA hb iB
 have e : k = 6:=e
 subst e
 obtain ⟨a,e1,ha⟩:=ha
 obtain ⟨b,e2,hb⟩:=hb
 obtain ⟨c,e3,hc⟩:=hc
 have e1 : xa = (a : Int):=e1
 have e2 : xb = (b : Int):=e2
 have e3 : xc = (c : Int):=e3
 subst e1 e2 e3
 obtain ⟨b0,off,eA,iA⟩:=h3.iat ha
 subst eA
 obtain ⟨b1,off1,eB,iB⟩:=h3.iat hb
 injection eB with eB
 injection eB with eB1 eB2
 subst eB1 eB2
 obtain ⟨b2,off2,eC,iC⟩:=h3.iat hc
 injection eC with eC
 injection eC with eC1 eC2
 subst eC1 eC2
 exact uses10_6 a b c _ _ _ h1 ha iA hb iB hc iC
theorem Fk.frk {w : World} {base p : Nat} {vn vs : Value} {mb n : Nat} {M : List Nd} {S : List Int} {F : Nd → Option Nat} (h : Fk w base p vn vs mb n M S F) : Frk w p M.length S:=by
 obtain ⟨A',c',rfl,s2,l2,n2⟩:=za4 h.rs
 exact ⟨vn,A',c',_,⟨h.ow.lt,fun i u hu => (h.ow.cell i).trans hu⟩,n2⟩
theorem here_ok : LexG.RelOk LexG.Here:=⟨fun _ => rfl,fun _ _ _ h k => Eq.trans k h⟩
set_option maxHeartbeats 4000000 in
theorem slook_as {w : World} {base p : Nat} {vn vs : Value} {mb n : Nat} {M : List Nd} {S : List Int} {F : Nd → Option Nat} (h : Fk w base p vn vs mb n M S F) {q : Nat} (hq : q < M.length) (hn : n ≤ 1000000) (hM : M.length ≤ 100000) (hx : isIO (M.getD q nd0) ∨ Ok (fun y => ∃ m : Nat,y = (m : Int) ∧ m < M.length) (M.getD q nd0)) (hw : ¬ isIO (M.getD q nd0) → wfN (keyS (zaG (S.set q (q : Int)) (M.getD q nd0)))) : Calls Try.prog 50 #[.pointer (some ⟨p,0,none⟩),.int .i64 (q : Int)] w fun e w' => e = .returned (.tuple #[]) ∧ (∃ n',n' ≤ n + 1 ∧ Fk w' base p vn vs mb n' (zbi (M,S,F) q).1 (zbi (M,S,F) q).2.1 (zbi (M,S,F) q).2.2) ∧ Kx (tS vn vs mb) w w':=by
 have Hb : base ≤ w.heap.size:=Nat.le_trans h.lo (Nat.le_of_lt h.ow.lt)
 obtain ⟨A,cc,rfl,s1,k1,h2⟩:=zbj h.rn
 obtain ⟨A',c',rfl,s2,k2,h3⟩:=za4 h.rs
 obtain ⟨b0,off,x1,x2,x3,x4,eA,HX,_⟩:=h2.nat hq
 obtain ⟨b1,off1,eA',iA⟩:=h3.iat hq
 obtain rfl : off = 0:=(k1 b0 off eA).2
 obtain rfl : off1 = 0:=(k2 b1 off1 eA').2
 subst eA eA'
 rw [Nat.zero_add] at iA
 clear k1 k2 s1 s2 h2 h3
 have hq1 : (q : Int) < (M.length : Int):=by omega
 have hq0 : (0 : Int) ≤ (q : Int):=by omega
 have H3 : Hid (M.getD q nd0 = ⟨x1,x2,x3,x4⟩):=Lib.hid (by rw [List.getD_eq_getElem?_getD,HX.out]; rfl)
 obtain ⟨⟨y1,y2,y3,y4⟩,hy⟩ : ∃ y,keyS (zaG (S.set q (q : Int)) ⟨x1,x2,x3,x4⟩) = y:=⟨_,rfl⟩
 have HY:=Lib.hid hy
 have Hh : Hid (x1 = 1 ∨ x1 = 7 → zbi (M,S,F) q = (M,S.set q (q : Int),F)):=Lib.hid fun e => by
  unfold zbi
  rw [if_pos (by rw [H3.out]; exact e)]
 have Hg : Hid (¬ (x1 = 1 ∨ x1 = 7) → ∀ p0,F ⟨y1,y2,y3,y4⟩ = some p0 → zbi (M,S,F) q = (M.set q ⟨y1,y2,y3,y4⟩,(S.set q (q : Int)).set q (p0 : Int),F)):=Lib.hid fun e p0 hF => by
  unfold zbi
  rw [if_neg (by rw [H3.out]; exact e)]
  simp only [H3.out,hy,hF]
 have Hf : Hid (¬ (x1 = 1 ∨ x1 = 7) → F ⟨y1,y2,y3,y4⟩ = none → zbi (M,S,F) q = (M.set q ⟨y1,y2,y3,y4⟩,S.set q (q : Int),putK F ⟨y1,y2,y3,y4⟩ q)):=Lib.hid fun e hF => by
  unfold zbi
  rw [if_neg (by rw [H3.out]; exact e)]
  simp only [H3.out,hy,hF]
 have HWF : Hid (¬ (x1 = 1 ∨ x1 = 7) → wfN ⟨y1,y2,y3,y4⟩):=Lib.hid fun e => by
  have:=hw (by rw [H3.out]; exact e)
  rw [H3.out,hy] at this
  exact this
 have C : ∀ w',Frk w' p M.length (S.set q (q : Int)) → Calls Try.prog 79 #[.pointer (some ⟨p,0,none⟩),.agg #[.int .i64 x1,.int .i64 x2,.int .i64 x3,.int .i64 x4]] w' fun e w2 => e = .returned (.agg #[.int .i64 y1,.int .i64 y2,.int .i64 y3,.int .i64 y4]) ∧ Below w'.heap.size w' w2:=fun w' hf => by
  have:=suses_as hf (x:=⟨x1,x2,x3,x4⟩) (by rw [← H3.out]; exact hx)
  rw [hy] at this
  exact this
 clear hx hy hw
 have c1 : _ = some (Value.slice (some ⟨b1,0,none⟩) M.length c'):=h.ow.cell 1
 have a1:=iA.2
 have f1:=h.rs.frozenAt q
 obtain ⟨_,hcu1,hlo1⟩:=zaJ h.rs
 obtain ⟨_,hcu0,hlo0⟩:=zaJ h.rn
 go_enter Try.func50,Try.ntmps50
 go_upto_region 1 with fail
 clear c1 a1 f1 iA hcu1 hcu0
 have F1:=h.setS (q:=q) (q : Int)
 have BB:=(Kx.refl (tS (.slice (some ⟨b0,0,none⟩) M.length cc) (.slice (some ⟨b1,0,none⟩) M.length c') mb) w).set (g:=b1) (.inr (.inl rfl)) q (.int .i64 (q : Int))
 obtain ⟨w1,e1⟩ : ∃ w',w.setCell ⟨b1,q,none⟩ (.int .i64 (q : Int)) = w':=⟨_,rfl⟩
 rw [e1] at F1 BB ⊢
 have hsz1 : base ≤ w1.heap.size:=Nat.le_trans Hb BB.size
 clear e1 h
 have nc : ∀ (w' : World) (S' : List Int) (n' : Nat),Fk w' base p (.slice (some ⟨b0,0,none⟩) M.length cc) (.slice (some ⟨b1,0,none⟩) M.length c') mb n' M S' F → w'.cell? ⟨b0,q * 4,none⟩ = some (Value.int .i64 x1) ∧ w'.cell? ⟨b0,q * 4 + 1,none⟩ = some (Value.int .i64 x2) ∧ w'.cell? ⟨b0,q * 4 + 2,none⟩ = some (Value.int .i64 x3) ∧ w'.cell? ⟨b0,q * 4 + 3,none⟩ = some (Value.int .i64 x4):=fun w' S' n' f => by
  have hls : (M.flatMap ndC).length = M.length * 4:=zas ndC 4 za1 M
  exact ⟨(f.rn.cellAt (q * 4) (by omega)).trans (by rw [show q * 4 = q * 4 + 0 from rfl,zap ndC 4 za1 M q 0 (by omega),HX.out]; rfl),(f.rn.cellAt (q * 4 + 1) (by omega)).trans (by rw [zap ndC 4 za1 M q 1 (by omega),HX.out]; rfl),(f.rn.cellAt (q * 4 + 2) (by omega)).trans (by rw [zap ndC 4 za1 M q 2 (by omega),HX.out]; rfl),(f.rn.cellAt (q * 4 + 3) (by omega)).trans (by rw [zap ndC 4 za1 M q 3 (by omega),HX.out]; rfl)⟩
 obtain ⟨n0,n1,n2,n3⟩:=nc _ _ _ F1
 have NC:=Lib.hid nc
 clear nc
 have c0 : _ = some (Value.slice (some ⟨b0,0,none⟩) M.length cc):=F1.ow.cell 0
 by_cases hio : x1 = 1 ∨ x1 = 7
 ·have HS:=Lib.hid (Hh.out hio)
  rcases hio with e | e
  ·have e1 : (x1 == 1) = true:=zav e
   clear e
   go_wp2_with fail
   refine bodyPost_ret (v:=.tuple #[]) (by simp [results,Try.results50,go_sem]) rfl ⟨rfl,⟨n,by omega,by rw [HS.out]; exact F1⟩,BB⟩
  have e1 : (x1 == 1) = false:=zae (by omega)
  have e2 : (x1 == 7) = true:=zav e
  clear e
  go_wp2_with fail
  refine bodyPost_ret (v:=.tuple #[]) (by simp [results,Try.results50,go_sem]) rfl ⟨rfl,⟨n,by omega,by rw [HS.out]; exact F1⟩,BB⟩
 have e1 : (x1 == 1) = false:=zae (by omega)
 have e2 : (x1 == 7) = false:=zae (by omega)
 have Hc:=Lib.hid hio
 clear hio
 go_upto_region 4 with (go_at_call 79; (with_reducible refine (C _ F1.frk).mono ?_); (rintro en w2 ⟨rfl,b⟩; clear c0 n0 n1 n2 n3 e1 e2))
 obtain ⟨w3,e3⟩ : ∃ w3,w2.alloc (.cells #[.int .i64 y1,.int .i64 y2,.int .i64 y3,.int .i64 y4] 43) = w3:=⟨_,rfl⟩
 have z5 : Own w3 w2.heap.size 43 [.int .i64 y1,.int .i64 y2,.int .i64 y3,.int .i64 y4]:=e3 ▸ Own.made w2 43 [.int .i64 y1,.int .i64 y2,.int .i64 y3,.int .i64 y4]
 have b3 : Below w2.heap.size w2 w3:=e3 ▸ zaa _ _
 have F3:=(F1.on b).on b3
 have H4:=BB.step (Below.step b b3)
 have He : b0 < w2.heap.size:=((F1.on b).rn.lt b0 rfl).2
 have hps : p < w2.heap.size:=(F1.on b).ow.lt
 obtain ⟨s5,hs5⟩ : ∃ s5,w2.heap.size = s5:=⟨_,rfl⟩
 rw [e3]
 rw [hs5] at z5 He hps ⊢
 clear e3 b b3 hs5 F1 BB C
 -- the node is laid
 refine LexG.region_plan LexG.any_ok 7 [0,1,2,3,4,5,6,7] (h:=?_)
 dsimp only [LexG.pick,LexG.nth]
 have bd : Below w3.heap.size w3 w3.drew:=(Below.refl _ _).drew
 have hsz3 : base ≤ w3.heap.size:=Nat.le_trans Hb H4.size
 replace F3:=F3.on bd
 replace z5:=z5.below bd z5.lt
 replace H4:=H4.step bd
 obtain ⟨w4,e4⟩ : ∃ w',w3.drew = w':=⟨_,rfl⟩
 rw [e4] at F3 z5 H4 ⊢
 clear e4 bd
 have H9:=fun s : LexG.Wd LexG.Here w4 => LexG.here (P:=fun w' => w'.cell? ⟨p,0,none⟩ = some (Value.slice (some ⟨b0,0,none⟩) M.length cc)) (F3.ow.cell 0) s
 have H8:=fun s : LexG.Wd LexG.Here w4 => LexG.here (P:=fun w' => w'.cell? ⟨s5,0,none⟩ = some (Value.int .i64 y1)) (z5.cell 0) s
 have H7:=fun s : LexG.Wd LexG.Here w4 => LexG.here (P:=fun w' => w'.cell? ⟨s5,1,none⟩ = some (Value.int .i64 y2)) (z5.cell 1) s
 have H6:=fun s : LexG.Wd LexG.Here w4 => LexG.here (P:=fun w' => w'.cell? ⟨s5,2,none⟩ = some (Value.int .i64 y3)) (z5.cell 2) s
 have H5:=fun s : LexG.Wd LexG.Here w4 => LexG.here (P:=fun w' => w'.cell? ⟨s5,3,none⟩ = some (Value.int .i64 y4)) (z5.cell 3) s
 refine LexG.lex_here 7 7 (Nat.le_refl _) (by kernel_rfl) ?_
 dsimp only [List.take,List.drop]
 repeat go_big_quiet_step (fail)
 refine wpQuiet_nil ?_
 clear H9 H8 H7 H6 H5
 obtain ⟨a0,a1,a2,a3⟩:=NC.out _ _ _ F3
 have f0:=F3.rn.frozenAt (q * 4); have f1:=F3.rn.frozenAt (q * 4 + 1); have f2:=F3.rn.frozenAt (q * 4 + 2); have f3:=F3.rn.frozenAt (q * 4 + 3)
 refine LexG.lex_call (h:=fun K hK => ?_)
 go_simp
 clear a0 a1 a2 a3 f0 f1 f2 f3
 refine hK _ _ trivial ?_
 clear hK K
 have F5:=F3.setN (q:=q) ⟨y1,y2,y3,y4⟩
 have H2 : s5 ≠ b0:=by omega
 have z6:=(((z5.apart H2 (q * 4) (.int .i64 y1)).apart H2 (q * 4 + 1) (.int .i64 y2)).apart H2 (q * 4 + 2) (.int .i64 y3)).apart H2 (q * 4 + 3) (.int .i64 y4)
 have H1:=(((H4.set (g:=b0) (.inl rfl) (q * 4) (.int .i64 y1)).set (g:=b0) (.inl rfl) (q * 4 + 1) (.int .i64 y2)).set (g:=b0) (.inl rfl) (q * 4 + 2) (.int .i64 y3)).set (g:=b0) (.inl rfl) (q * 4 + 3) (.int .i64 y4)
 dsimp only at F5
 obtain ⟨w5,e5⟩ : ∃ w',(((w4.setCell ⟨b0,q * 4,none⟩ (.int .i64 y1)).setCell ⟨b0,q * 4 + 1,none⟩ (.int .i64 y2)).setCell ⟨b0,q * 4 + 2,none⟩ (.int .i64 y3)).setCell ⟨b0,q * 4 + 3,none⟩ (.int .i64 y4) = w':=⟨_,rfl⟩
 rw [e5] at F5 z6 H1 ⊢
 clear e5 F3 z5 H4 NC
 refine LexG.lex_nil ?_
 dsimp only [NoPanic]
 have eM : (M.set q ⟨y1,y2,y3,y4⟩).length = M.length:=by simp
 -- the first of its kind
 go_upto_region 5 with fail
 refine LexG.region_plan here_ok 0 [0,1,2,3,4,5,6,7,8,9,10] (h:=?_)
 dsimp only [LexG.pick,LexG.nth]
 have bd : Below w5.heap.size w5 w5.drew:=(Below.refl _ _).drew
 have hsz5 : base ≤ w5.heap.size:=Nat.le_trans Hb H1.size
 replace F5:=F5.on bd
 replace z6:=z6.below bd z6.lt
 replace H1:=H1.step bd
 obtain ⟨w6,e6⟩ : ∃ w',w5.drew = w':=⟨_,rfl⟩
 rw [e6] at F5 z6 H1 ⊢
 clear e6 bd
 have H9:=fun s : LexG.Wd LexG.Here w6 => LexG.here (P:=fun w' => w'.cell? ⟨p,2,none⟩ = some (Value.map (some mb))) (F5.ow.cell 2) s
 have H8:=fun s : LexG.Wd LexG.Here w6 => LexG.here (P:=fun w' => w'.cell? ⟨s5,0,none⟩ = some (Value.int .i64 y1)) (z6.cell 0) s
 have H7:=fun s : LexG.Wd LexG.Here w6 => LexG.here (P:=fun w' => w'.cell? ⟨s5,1,none⟩ = some (Value.int .i64 y2)) (z6.cell 1) s
 have H6:=fun s : LexG.Wd LexG.Here w6 => LexG.here (P:=fun w' => w'.cell? ⟨s5,2,none⟩ = some (Value.int .i64 y3)) (z6.cell 2) s
 have H5:=fun s : LexG.Wd LexG.Here w6 => LexG.here (P:=fun w' => w'.cell? ⟨s5,3,none⟩ = some (Value.int .i64 y4)) (z6.cell 3) s
 refine LexG.lex_plain 5 (by kernel_rfl) ?_
 dsimp only [List.take,List.drop]
 repeat go_big_quiet_step (fail)
 refine wpQuiet_nil ?_
 clear H9 H8 H7 H6 H5
 obtain ⟨D,hm,hd⟩:=F5.mp
 have H0:=look_ok hm hd (HWF.out Hc.out)
 have HM:=Lib.hid hm
 have HD:=Lib.hid hd
 clear hm hd
 cases hF : F ⟨y1,y2,y3,y4⟩ with
 | some p0 =>
  rw [hF] at H0
  have H0 : (Instr.lookup 83 (.map (some mb)) (.agg #[.int .i64 y1,.int .i64 y2,.int .i64 y3,.int .i64 y4]) true).run Try.prog w6 = .ok (.tuple #[.int .i64 ((p0 : Nat) : Int),.bool true]) w6:=H0
  refine LexG.lex_call (h:=fun K hK => ?_)
  go_simp
  clear H0
  refine hK _ _ rfl ?_
  clear hK K
  refine LexG.lex_plain 5 (by kernel_rfl) ?_
  dsimp only [List.take,List.drop]
  repeat go_big_quiet_step (fail)
  refine wpQuiet_nil ?_
  refine LexG.lex_nil ?_
  dsimp only [NoPanic]
  have HS:=Lib.hid (Hg.out Hc.out p0 hF)
  have c1 : _ = some (Value.slice (some ⟨b1,0,none⟩) M.length c'):=F5.ow.cell 1
  have hSq : q < (S.set q (q : Int)).length:=by have:=F5.ls; rw [eM] at this; omega
  have RS:=F5.rs
  rw [eM] at RS
  have a0 : w6.cell? ⟨b1,q,none⟩ = some (Value.int .i64 ((S.set q (q : Int))[q]'hSq)):=(RS.cellAt q (by omega)).trans (by have e:=zap inC 1 zaC (S.set q (q : Int)) q 0 (by omega); rw [Nat.mul_one,Nat.add_zero,List.getElem?_eq_getElem hSq] at e; exact e)
  have f0:=RS.frozenAt q
  obtain ⟨sq,hsq⟩ : ∃ sq,(S.set q (q : Int))[q]'hSq = sq:=⟨_,rfl⟩
  rw [hsq] at a0
  clear hsq
  have F5' : Fk w6 base p (.slice (some ⟨b0,0,none⟩) M.length cc) (.slice (some ⟨b1,0,none⟩) (M.set q ⟨y1,y2,y3,y4⟩).length c') mb n (M.set q ⟨y1,y2,y3,y4⟩) (S.set q (q : Int)) F:=by rw [eM]; exact F5
  have F7:=F5'.setS (q:=q) (p0 : Int)
  have BB7:=H1.set (g:=b1) (.inr (.inl rfl)) q (.int .i64 (p0 : Int))
  rw [eM] at F7
  clear F5 F5' z6 H1 hF RS
  go_wp2_with fail
  refine bodyPost_ret (v:=.tuple #[]) (by simp [results,Try.results50,go_sem]) rfl ⟨rfl,⟨n,by omega,by rw [HS.out]; exact F7⟩,BB7⟩
 | none =>
  rw [hF] at H0
  have H0 : (Instr.lookup 83 (.map (some mb)) (.agg #[.int .i64 y1,.int .i64 y2,.int .i64 y3,.int .i64 y4]) true).run Try.prog w6 = .ok (.tuple #[.int .i64 0,.bool false]) w6:=H0
  refine LexG.lex_call (h:=fun K hK => ?_)
  go_simp
  clear H0
  refine hK _ _ rfl ?_
  clear hK K
  refine LexG.lex_plain 5 (by kernel_rfl) ?_
  dsimp only [List.take,List.drop]
  repeat go_big_quiet_step (fail)
  refine wpQuiet_nil ?_
  refine LexG.lex_nil ?_
  dsimp only [NoPanic]
  have HS:=Lib.hid (Hf.out Hc.out hF)
  clear hF
  go_upto_region 8 with fail
  refine LexG.region_plan (KB3.ok p s5 s5) 0 [0,1,2,3,4,5,6] (h:=?_)
  dsimp only [LexG.pick,LexG.nth]
  have bd : Below w6.heap.size w6 w6.drew:=(Below.refl _ _).drew
  have hsz6 : base ≤ w6.heap.size:=Nat.le_trans Hb H1.size
  replace F5:=F5.on bd
  replace z6:=z6.below bd z6.lt
  replace HM:=Lib.hid (MapN.below HM.out bd)
  replace H1:=H1.step bd
  obtain ⟨w7,e7⟩ : ∃ w',w6.drew = w':=⟨_,rfl⟩
  rw [e7] at F5 z6 HM H1 ⊢
  clear e7 bd
  have H9:=fun s : LexG.Wd (KB3 p s5 s5) w7 => (show s.w.cell? ⟨p,2,none⟩ = some (Value.map (some mb)) from (zac s.rel.1 2).trans (F5.ow.cell 2))
  have H8:=fun s : LexG.Wd (KB3 p s5 s5) w7 => (show s.w.cell? ⟨s5,0,none⟩ = some (Value.int .i64 y1) from (zac s.rel.2.1 0).trans (z6.cell 0))
  have H7:=fun s : LexG.Wd (KB3 p s5 s5) w7 => (show s.w.cell? ⟨s5,1,none⟩ = some (Value.int .i64 y2) from (zac s.rel.2.1 1).trans (z6.cell 1))
  have H6:=fun s : LexG.Wd (KB3 p s5 s5) w7 => (show s.w.cell? ⟨s5,2,none⟩ = some (Value.int .i64 y3) from (zac s.rel.2.1 2).trans (z6.cell 2))
  have H5:=fun s : LexG.Wd (KB3 p s5 s5) w7 => (show s.w.cell? ⟨s5,3,none⟩ = some (Value.int .i64 y4) from (zac s.rel.2.1 3).trans (z6.cell 3))
  refine LexG.lex_plain 6 (by kernel_rfl) ?_
  dsimp only [List.take,List.drop]
  repeat go_big_quiet_step (fail)
  refine wpQuiet_nil ?_
  clear H9 H8 H7 H6 H5
  have hnl : n < maxLen:=by unfold maxLen; omega
  have Ha : plainElem (H:=Unit) Try.prog 3 (.int .i64 (q : Int)) = some (.lit (.int .i64 (q : Int)),[]):=plainElem_int Try.underlying3 (wf_n64 hq0 (by omega))
  have Hd:=HWF.out Hc.out
  obtain ⟨w8,H0,hM8,hG8⟩:=World.ownsMap.update HM.out nd_keyed Try.underlying83 hnl (keyN Hd) Ha
  have H0 : (Instr.mapUpdate 83 (.map (some mb)) (.agg #[.int .i64 y1,.int .i64 y2,.int .i64 y3,.int .i64 y4]) (.int .i64 (q : Int))).run Try.prog w7 = .ok () w8:=H0
  have hpm : p ≠ mb:=fun e => zcz HM.out F5.ow e.symm
  have hsm : s5 ≠ mb:=fun e => zcz HM.out z6 e.symm
  refine LexG.lex_call (h:=fun K hK => ?_)
  go_simp
  clear H0
  refine hK _ _ ⟨hG8.block p F5.ow.lt (fun e => hpm (by injection e)),hG8.block s5 z6.lt (fun e => hsm (by injection e)),hG8.block s5 z6.lt (fun e => hsm (by injection e))⟩ ?_
  clear hK K
  have F9:=F5.putM HM.out HD.out Hd hM8 hG8
  have BB9:=H1.grown hG8 (.inr (.inr rfl))
  clear Ha hM8 hG8 F5 z6 H1 HM Hd
  refine LexG.lex_nil ?_
  dsimp only [NoPanic]
  go_wp2_with fail
  refine bodyPost_end (v:=.tuple #[]) (by simp [results,Try.results50,go_sem]) rfl ⟨rfl,⟨n + 1,by omega,by rw [HS.out]; exact F9⟩,BB9⟩
end Go.Proofs.Ytcehklnonhalhaa
namespace Go.Proofs.Ytcehklnonhalhaa
open Go.RowKit
open Go.Maps (Keyed)
set_option maxRecDepth 4000
theorem flat_setA : ∀ (M : List Nd) (j : Nat) (v : Int) (x : Nd),M[j]? = some x → (M.flatMap ndC).set (j * 4 + 1) (.int .i64 v) = (M.set j ⟨x.k,v,x.b,x.c⟩).flatMap ndC
 | [],j,v,x,h => by simp at h
 | y :: M,0,v,x,h => by
  injection h with h
  subst h
  simp [ndC]
 | y :: M,j + 1,v,x,h => by
  have ih:=flat_setA M j v x h
  rw [show (j + 1) * 4 + 1 = (j * 4 + 1) + 4 by omega,List.set_cons_succ,List.flatMap_cons,List.flatMap_cons,← ih]
  rfl
theorem Fk.setA {w : World} {base p mb n b0 cc k : Nat} {vs : Value} {M : List Nd} {S : List Int} {F : Nd → Option Nat} (h : Fk w base p (.slice (some ⟨b0,0,none⟩) k cc) vs mb n M S F) (hk : k = M.length) {q : Nat} {x : Nd} (hx : M[q]? = some x) (v : Int) : Fk (w.setCell ⟨b0,q * 4 + 1,none⟩ (.int .i64 v)) base p (.slice (some ⟨b0,0,none⟩) k cc) vs mb n (M.set q ⟨x.k,v,x.b,x.c⟩) S F:=by
 subst hk
 obtain ⟨D,hm,hd⟩:=h.mp
 obtain ⟨cu,hc,hlo⟩:=zaJ h.rn
 have R:=(h.rn.stored (q * 4 + 1) (.int .i64 v)).1
 rw [flat_setA M q v x hx] at R
 have eM : (M.set q ⟨x.k,v,x.b,x.c⟩).length = M.length:=by simp
 exact ⟨h.ow.apart (zaK h.ow hc (by decide)) _ _,by rw [eM]; exact R,by rw [eM]; exact zaI h.rs hc (by decide) _ _,by rw [eM]; exact h.ls,h.lo,⟨D,map_set hm hc _ _,hd⟩,h.lb⟩
set_option maxHeartbeats 4000000 in
theorem ssettle_as {w : World} {base p mb n : Nat} {vn vs : Value} {M : List Nd} {S : List Int} {F0 : Nd → Option Nat} (h : Fk w base p vn vs mb n M S F0) (hd : ∀ q,q < M.length → (M.getD q nd0).k = 7 → ∃ m : Nat,(M.getD q nd0).a = (m : Int) ∧ m < M.length) (hn : M.length ≤ 100000) : Calls Try.prog 51 #[.pointer (some ⟨p,0,none⟩)] w fun e w' => e = .returned (.tuple #[]) ∧ Fk w' base p vn vs mb n (M.map (dffS S)) S F0 ∧ Kx (tS vn vs mb) w w':=by
 obtain ⟨A,cc,rfl,s1,k1,n1⟩:=zbj h.rn
 obtain ⟨A',c',rfl,s2,k2,n2⟩:=za4 h.rs
 have HD:=Lib.hid hd
 have K1:=Lib.hid k1
 have K2:=Lib.hid k2
 have c0 : _ = some (Value.slice A M.length cc):=h.ow.cell 0
 have hbw : base ≤ w.heap.size:=Nat.le_trans h.lo (Nat.le_of_lt h.ow.lt)
 clear hd k1 k2 s1 s2 n1 n2
 go_enter Try.func51,Try.ntmps51
 go_wp2_with fail
 clear c0
 go_loopw [9] (fun i wr => ∃ j : Nat,j ≤ M.length ∧ i = .int .i64 j ∧ Fk wr base p (.slice A M.length cc) (.slice A' M.length c') mb n (mjS S M j) S F0 ∧ Kx (tS (.slice A M.length cc) (.slice A' M.length c') mb) w wr) (fun i _ => M.length - (intOf i).toNat)
 case atStart => exact ⟨0,Nat.zero_le _,rfl,by unfold mjS; simpa using h,Kx.refl _ _⟩
 obtain ⟨j,hj,rfl,F,BB⟩:=hrel
 by_cases hlt : j < M.length
 ·have hjn : (j : Int) < (M.length : Int):=by omega
  have hj0 : (0 : Int) ≤ (j : Int):=by omega
  have FN:=F.rn
  have FS:=F.rs
  rw [zcy] at FN FS
  obtain ⟨A2,cc2,e2,_,_,N2⟩:=zbj FN
  injection e2 with e2 _ e2'
  subst e2 e2'
  obtain ⟨b0,off,x1,x2,x3,x4,eA,HX,hA⟩:=N2.nat hlt
  obtain rfl : off = 0:=(K1.out b0 off eA).2
  subst eA
  rw [Nat.zero_add] at hA
  have HM : Hid (M[j]? = some ⟨x1,x2,x3,x4⟩):=Lib.hid (by rw [← mj_at S M hlt]; exact HX.out)
  have HMD : Hid (M.getD j nd0 = ⟨x1,x2,x3,x4⟩):=Lib.hid (by rw [List.getD_eq_getElem?_getD,HM.out]; rfl)
  clear N2 HX
  have a0:=hA.c1; have a1:=hA.c2; have a2:=hA.c3; have a3:=hA.c4
  have bn : (j : Int) ≤ 100000:=by omega
  go_upto_region 3 with fail
  clear a0 a1 a2 a3
  obtain ⟨w3,e3⟩ : ∃ w3,wr.alloc (.cells #[.int .i64 x1,.int .i64 x2,.int .i64 x3,.int .i64 x4] 43) = w3:=⟨_,rfl⟩
  have z3 : Own w3 wr.heap.size 43 [.int .i64 x1,.int .i64 x2,.int .i64 x3,.int .i64 x4]:=e3 ▸ Own.made wr 43 [.int .i64 x1,.int .i64 x2,.int .i64 x3,.int .i64 x4]
  have b : Below wr.heap.size wr w3:=e3 ▸ zaa _ _
  have hp3 : p ≠ wr.heap.size:=Nat.ne_of_lt F.ow.lt
  have H0 : b0 ≠ wr.heap.size:=Nat.ne_of_lt hA.lt
  replace F:=F.on b
  replace hA:=hA.on b
  have hbr : base ≤ wr.heap.size:=Nat.le_trans hbw BB.size
  replace BB:=BB.step b
  obtain ⟨s3,hs3⟩ : ∃ s3,wr.heap.size = s3:=⟨_,rfl⟩
  rw [e3]
  rw [hs3] at z3 hp3 H0 ⊢
  clear e3 b hs3 hbr FN FS
  have c0 : _ = some (Value.int .i64 x1):=z3.cell 0
  by_cases h7 : x1 = 7
  ·have h7b:=zav h7
   obtain ⟨m,hm,hmn⟩:=HD.out j hlt (by rw [HMD.out]; exact h7)
   rw [HMD.out] at hm
   have hm : x2 = (m : Int):=hm
   subst hm
   have hm1 : (m : Int) < (M.length : Int):=by omega
   have hm0 : (0 : Int) ≤ (m : Int):=by omega
   go_wp2_with fail
   clear c0
   have FN:=F.rn
   have FS:=F.rs
   rw [zcy] at FN FS
   obtain ⟨A2,cc2,e2,_,_,N2⟩:=za4 FS
   injection e2 with e2 _ e2'
   subst e2 e2'
   obtain ⟨b1,off1,eB,iB⟩:=N2.iat hmn
   obtain rfl : off1 = 0:=(K2.out b1 off1 eB).2
   subst eB
   rw [Nat.zero_add] at iB
   clear N2
   obtain ⟨sv,H1⟩ : ∃ sv,S.getD m 0 = sv:=⟨_,rfl⟩
   rw [H1] at iB
   replace H1:=Lib.hid H1
   obtain ⟨cu0,hc0,hlo0⟩:=zaJ FN
   obtain ⟨cu1,hc1,hlo1⟩:=zaJ FS
   have hpg : p ≠ b0:=zaK F.ow hc0 (by decide)
   have h01 : b1 ≠ b0:=zaK hc1 hc0 (by decide)
   clear hc0 hc1 cu0 cu1
   refine LexG.region_plan (KB3.ok p s3 b1) 0 [0,1,2,3,4,5,6,7,8,9,10,11,12,13,14,15] (h:=?_)
   dsimp only [LexG.pick,LexG.nth]
   have bd : Below w3.heap.size w3 w3.drew:=(Below.refl _ _).drew
   replace F:=F.on bd
   replace FN:=zam FN bd
   replace FS:=zam FS bd
   replace hA:=hA.on bd
   replace iB:=iB.on bd
   replace z3:=z3.below bd z3.lt
   replace BB:=BB.step bd
   obtain ⟨w4,e4⟩ : ∃ w',w3.drew = w':=⟨_,rfl⟩
   rw [e4] at F FN FS hA iB z3 BB ⊢
   clear e4 bd
   have lf0:=fun s : LexG.Wd (KB3 p s3 b1) w4 => (show s.w.cell? ⟨p,0,none⟩ = some (Value.slice (some ⟨b0,0,none⟩) M.length cc) from (zac s.rel.1 0).trans (F.ow.cell 0))
   have lf1:=fun s : LexG.Wd (KB3 p s3 b1) w4 => (show s.w.cell? ⟨p,1,none⟩ = some (Value.slice (some ⟨b1,0,none⟩) M.length c') from (zac s.rel.1 1).trans (F.ow.cell 1))
   have lf2:=fun s : LexG.Wd (KB3 p s3 b1) w4 => (show s.w.cell? ⟨s3,1,none⟩ = some (Value.int .i64 (m : Int)) from (zac s.rel.2.1 1).trans (z3.cell 1))
   have lf3:=fun s : LexG.Wd (KB3 p s3 b1) w4 => (show s.w.cell? ⟨b1,m,none⟩ = some (Value.int .i64 sv) from (zac s.rel.2.2 m).trans iB.2)
   refine LexG.lex_plain 15 (by kernel_rfl) ?_
   dsimp only [List.take,List.drop]
   repeat go_big_quiet_step (fail)
   refine wpQuiet_nil ?_
   clear lf0 lf1 lf2 lf3
   have a1:=hA.c2
   have f1:=FN.frozenAt (j * 4 + 1)
   refine LexG.lex_call (h:=fun K hK => ?_)
   go_simp
   clear a1 f1
   refine hK _ _ (KB3.set w4 hpg H0.symm h01 (j * 4 + 1) (.int .i64 sv)) ?_
   clear hK K
   have FF:=F.setA (zcy S M j).symm (q:=j) (x:=⟨x1,(m : Int),x3,x4⟩) (by rw [mj_at S M hlt]; exact HM.out) sv
   dsimp only at FF
   have ed : dffS S ⟨x1,(m : Int),x3,x4⟩ = ⟨x1,sv,x3,x4⟩:=by
    unfold dffS
    rw [if_pos h7]
    show (⟨x1,sA S (m : Int),x3,x4⟩ : Nd) = _
    unfold sA
    rw [Int.toNat_natCast,H1.out]
   rw [← ed,← ze8 S M HM.out] at FF
   have BB2:=BB.set (g:=b0) (.inl rfl) (j * 4 + 1) (.int .i64 sv)
   refine LexG.lex_nil ?_
   dsimp only [NoPanic]
   go_wp2_with fail
   go_roundw
   case rel => exact ⟨j + 1,by omega,by go_num,FF,BB2⟩
   case measure => simp [intOf]; omega
  have h7b:=zae h7
  go_wp2_with fail
  go_roundw
  case rel =>
   refine ⟨j + 1,by omega,by go_num,?_,BB⟩
   have e : mjS S M (j + 1) = mjS S M j:=by
    have hj' : j < (mjS S M j).length:=by rw [zcy]; exact hlt
    have hx : (mjS S M j)[j]? = some ⟨x1,x2,x3,x4⟩:=by rw [mj_at S M hlt]; exact HM.out
    rw [ze8 S M HM.out]
    have : dffS S ⟨x1,x2,x3,x4⟩ = ⟨x1,x2,x3,x4⟩:=by unfold dffS; rw [if_neg h7]
    rw [this]
    obtain ⟨_,hx⟩:=List.getElem?_eq_some_iff.1 hx
    rw [← hx,List.set_getElem_self]
   rw [e]
   exact F
  case measure => simp [intOf]; omega
 obtain rfl : j = M.length:=by omega
 have hjn : ¬ (M.length : Int) < (M.length : Int):=by omega
 go_wp2_with fail
 refine bodyPost_end (v:=.tuple #[]) (by simp [results,Try.results51,go_sem]) rfl ⟨rfl,?_,BB⟩
 rw [mj_all] at F
 exact F
def chS (S : List Int) : Nat → Nat
 | 0 => 0
 | j + 1 => chS S j + if (S.getD j 0 != (j : Int)) = true then 1 else 0
theorem zeS (S : List Int) : ∀ j,chS S j ≤ j
 | 0 => Nat.le_refl _
 | j + 1 => by
  have:=zeS S j
  unfold chS
  split <;> omega
set_option maxHeartbeats 4000000 in
theorem replaced_as {w : World} {base p mb n : Nat} {vn vs : Value} {M : List Nd} {S : List Int} {F0 : Nd → Option Nat} (h : Fk w base p vn vs mb n M S F0) (hn : M.length ≤ 100000) : Calls Try.prog 52 #[.pointer (some ⟨p,0,none⟩)] w fun e w' => e = .returned (.int .i64 (chS S M.length : Nat)) ∧ Below w.heap.size w w':=by
 obtain ⟨A',c',rfl,s2,k2,n2⟩:=za4 h.rs
 have c0 : _ = some (Value.slice A' M.length c'):=h.ow.cell 1
 clear h s2 k2
 go_enter Try.func52,Try.ntmps52
 go_wp2_with fail
 clear c0
 go_loopw [3,11] (fun t i wr => ∃ j : Nat,j ≤ M.length ∧ i = .int .i64 j ∧ t = .int .i64 (chS S j : Nat) ∧ Below w.heap.size w wr) (fun t i _ => M.length - (intOf i).toNat)
 case atStart => exact ⟨0,Nat.zero_le _,rfl,rfl,Below.refl _ _⟩
 obtain ⟨j,hj,rfl,rfl,BW⟩:=hrel
 by_cases hlt : j < M.length
 ·have hjn : (j : Int) < (M.length : Int):=by omega
  have hj0 : (0 : Int) ≤ (j : Int):=by omega
  obtain ⟨b1,off1,eB,iB⟩:=(n2.on BW).iat hlt
  subst eB
  obtain ⟨sv,hsv⟩ : ∃ sv,S.getD j 0 = sv:=⟨_,rfl⟩
  rw [hsv] at iB
  have iB2:=iB.2
  have hch:=zeS S j
  by_cases hs : (sv != (j : Int)) = true
  ·have HF : Hid (chS S (j + 1) = chS S j + 1):=Lib.hid (by
    show chS S j + (if (S.getD j 0 != (j : Int)) = true then 1 else 0) = _
    rw [hsv,if_pos hs])
   have hw : IntKind.i64.wrap ((chS S j : Nat) + 1 : Int) = ((chS S j + 1 : Nat) : Int):=by
    rw [IntKind.wrap_i64]; omega
   clear hsv
   go_wp2_with fail
   go_roundw
   case rel => exact ⟨j + 1,by omega,by go_num,by first | exact congrArg _ (by rw [HF.out]; omega) | (rw [HF.out]; go_num),BW⟩
   case measure => simp [intOf]; omega
  have hs : (sv != (j : Int)) = false:=by simpa using hs
  have HF : Hid (chS S (j + 1) = chS S j):=Lib.hid (by
   show chS S j + (if (S.getD j 0 != (j : Int)) = true then 1 else 0) = _
   rw [hsv,if_neg (by rw [hs]; decide)]
   rfl)
  clear hsv
  go_wp2_with fail
  go_roundw
  case rel => exact ⟨j + 1,by omega,by go_num,by rw [HF.out],BW⟩
  case measure => simp [intOf]; omega
 obtain rfl : j = M.length:=by omega
 have hjn : ¬ (M.length : Int) < (M.length : Int):=by omega
 go_wp2_with fail
 go_ret
 exact ⟨rfl,BW⟩
end Go.Proofs.Ytcehklnonhalhaa
