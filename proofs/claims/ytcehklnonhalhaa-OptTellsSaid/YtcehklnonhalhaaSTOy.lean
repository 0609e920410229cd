/-
  What the proofs of OptTells need: Oy.
-/
import Derived.Test.YtcehklnonhalhaaSTOu
import Derived.Test.YtcehklnonhalhaaSTOw
import Derived.Test.YtcehklnonhalhaaSTWo
import Derived.Test.YtcehklnonhalhaaSTOe
import Derived.Test.YtcehklnonhalhaaSTHR
import Derived.Test.YtcehklnonhalhaaSTLexG
set_option linter.unusedVariables false
namespace Go.Proofs.Ytcehklnonhalhaa
open Go.RowKit
def NtK (T : Nat → Prop) (w : World) (An : Option Addr) (nn cn : Nat) (Ai : Option Addr) (ni ci : Nat) (Ao : Option Addr) (no co : Nat) (t : Tn) : Prop:=∀ w',Kx T w w' → Nt w' An nn cn Ai ni ci Ao no co t.N t.I t.O
section
variable {T T' : Nat → Prop} {w w' : World} {An Ai Ao : Option Addr} {nn cn ni ci no co : Nat} {t : Tn}
theorem NtK.nt (h : NtK T w An nn cn Ai ni ci Ao no co t) : Nt w An nn cn Ai ni ci Ao no co t.N t.I t.O:=h w (Kx.refl _ _)
theorem NtK.kx (h : NtK T w An nn cn Ai ni ci Ao no co t) (k : Kx T w w') : NtK T w' An nn cn Ai ni ci Ao no co t:=fun w'' k' => h w'' (k.trans k')
theorem NtK.on (h : NtK T w An nn cn Ai ni ci Ao no co t) (b : Below w.heap.size w w') : NtK T w' An nn cn Ai ni ci Ao no co t:=h.kx ((Kx.refl _ _).step b)
theorem NtK.mono (h : NtK T w An nn cn Ai ni ci Ao no co t) (hT : ∀ x,T' x → T x) : NtK T' w An nn cn Ai ni ci Ao no co t:=fun w' k => h w' (k.mono hT)
theorem NtK.ext (h : NtK T w An nn cn Ai ni ci Ao no co t) : NtK (fun b => T b ∨ w.heap.size ≤ b) w An nn cn Ai ni ci Ao no co t:=fun w' k => h w' ⟨k.1,fun b hb ht => k.2 b hb (fun e => by
 rcases e with e | e
 ·exact ht e
 omega)⟩
theorem NtK.put (h : NtK T w An nn cn Ai ni ci Ao no co t) {g : Nat} (hg : T g) (o : Nat) (u : Value) : NtK T (w.setCell ⟨g,o,none⟩ u) An nn cn Ai ni ci Ao no co t:=h.kx ((Kx.refl _ _).set hg o u)
theorem NtK.arg (h : Nt w An nn cn Ai ni ci Ao no co t.N t.I t.O) : NtK (fun b => w.heap.size ≤ b) w An nn cn Ai ni ci Ao no co t:=fun w' k => h.on (k.below (Nat.le_refl _) (fun x hx => hx))
theorem NtK.made (h : NtK T w An nn cn Ai ni ci Ao no co t) (b : Below w.heap.size w w') {Al Bo : Option Addr} {m cl do' : Nat} {N' : List Nd} {O' : List Pt} (hn : Nt w' Al m cl Ai ni ci Bo no do' N' t.I O') (ha : AdOk (w.heap.size ≤ ·) Al) (ho : PsH w.heap.size w' Bo no O') : NtK (fun b => T b ∧ b < w.heap.size) w' Al m cl Ai ni ci Bo no do' ⟨N',t.I,O'⟩:=fun w'' k => by
 have hk : ∀ b,w.heap.size ≤ b → b < w'.heap.size → w''.heap[b]? = w'.heap[b]?:=fun b h1 h2 => k.2 b h2 (fun e => by have:=e.2; omega)
 have hs:=k.size
 have hk2 : Kx T w w'':=⟨Below.trans (b.mono (Nat.zero_le _)) k.1,fun c hc ht => (k.2 c (Nat.lt_of_lt_of_le hc b.size) (fun e => ht e.1)).trans (b.block c hc)⟩
 have H:=h w'' hk2
 exact ⟨hn.n.by_ ha hs hk,H.i,(ho.by_ hs hk).ps,H.si,hn.so,hn.hn,hn.hs,hn.hb⟩
theorem NtH.ntK {s : Nat} {N : List Nd} {I O : List Pt} (h : NtH s w An nn cn Ai ni ci Ao no co N I O) : NtK (fun b => b < s) w An nn cn Ai ni ci Ao no co ⟨N,I,O⟩:=fun w' k => by
 have hk : ∀ b,s ≤ b → b < w.heap.size → w'.heap[b]? = w.heap[b]?:=fun b h1 h2 => k.2 b h2 (fun e => by omega)
 exact ⟨h.nt.n.by_ h.an k.size hk,(h.ai.by_ k.size hk).ps,(h.ao.by_ k.size hk).ps,h.nt.si,h.nt.so,h.nt.hn,h.nt.hs,h.nt.hb⟩
theorem rfoldX (h : NtK T w An nn cn Ai ni ci Ao no co t) (sn : Sw An nn cn) (hn6 : nn ≤ 1000) (ho : no ≤ 66) (hb : ∀ p ∈ t.I ++ t.O,p.bits.length ≤ 4000) (hm : Nm t.I t.O) (hok : OkT t) : Calls Try.prog 63 #[.agg #[.slice An nn cn,.slice Ai ni ci,.slice Ao no co]] w fun en w' => (∃ (Al : Option Addr) (cl : Nat) (As : Option Addr) (cs : Nat) (Bo : Option Addr) (do' : Nat) (M : List Nd) (S : List Int),en = .returned (.tuple #[.agg #[.slice Al nn cl,.slice Ai ni ci,.slice Bo no do'],.slice As nn cs,.int .i64 0]) ∧ NtK (fun b => T b ∧ b < w.heap.size) w' Al nn cl Ai ni ci Bo no do' (za3 t).1 ∧ Sw Al nn cl ∧ Is w' As nn S ∧ AdOk (w.heap.size ≤ ·) As ∧ (za3 t).1.N = M ∧ (za3 t).2 = chN S M t.N nn ∧ Gd t (za3 t).1) ∧ Below w.heap.size w w':=by
 obtain ⟨dd,L,lx⟩:=hok
 have hnn:=h.nt.n.1
 refine (rfold_yes h.nt sn hm lx hn6 ho hb).mono ?_
 rintro en w' ⟨⟨M,S,hr,hf,Al,cl,As,cs,Bo,do',rfl,hn,sl,ha,hpo,his,has⟩,b⟩
 have e1 : (za3 t).1 = ⟨M.map (dffS S),t.I,t.O.map (outF S)⟩:=by unfold za3; rw [zbH lx,hr]
 have e2 : (za3 t).2 = chN S (M.map (dffS S)) t.N nn:=by unfold za3; rw [zbH lx,hr,hnn]
 have hrw:=rw_all lx.lev lx.pos hf.rw (idx_lt lx.mem)
 have hl:=zeq t
 refine ⟨⟨Al,cl,As,cs,Bo,do',M.map (dffS S),S,rfl,by rw [e1]; exact h.made b hn ha hpo,sl,his,has,by rw [e1],e2,?_⟩,b⟩
 rw [e1] at hl ⊢
 exact ⟨hrw,Nat.le_of_eq hl,Pa.self _,zdx _ _⟩
theorem rshareX (h : NtK T w An nn cn Ai ni ci Ao no co t) (sn : Sw An nn cn) (hn6 : nn ≤ 1000) (ho : no ≤ 66) (hb : ∀ p ∈ t.I ++ t.O,p.bits.length ≤ 4000) (hm : Nm t.I t.O) (hok : OkT t) : Calls Try.prog 64 #[.agg #[.slice An nn cn,.slice Ai ni ci,.slice Ao no co]] w fun en w' => (∃ (Al : Option Addr) (cl : Nat) (Bo : Option Addr) (do' : Nat),en = .returned (.tuple #[.agg #[.slice Al nn cl,.slice Ai ni ci,.slice Bo no do'],.int .i64 (((zaA t).2 : Nat) : Int),.int .i64 0]) ∧ NtK (fun b => T b ∧ b < w.heap.size) w' Al nn cl Ai ni ci Bo no do' (zaA t).1 ∧ Sw Al nn cl ∧ Gd t (zaA t).1) ∧ Below w.heap.size w w':=by
 obtain ⟨dd,L,lx⟩:=hok
 have hnn:=h.nt.n.1
 refine (rshare_yes h.nt sn hm lx hn6 ho hb).mono ?_
 rintro en w' ⟨⟨M,S,F,hr,hf,Al,cl,Bo,do',rfl,hn,sl,ha,hpo⟩,b⟩
 have e1 : (zaA t).1 = ⟨M.map (dffS S),t.I,t.O.map (outF S)⟩:=by unfold zaA; rw [zbH lx,hr]
 have e2 : (zaA t).2 = chS S nn:=by unfold zaA; rw [zbH lx,hr,hnn]
 have hrw:=rw_all lx.lev lx.pos hf.rw (idx_lt lx.mem)
 have hl:=zdt t
 refine ⟨⟨Al,cl,Bo,do',by rw [e2],by rw [e1]; exact h.made b hn ha hpo,sl,?_⟩,b⟩
 rw [e1] at hl ⊢
 exact ⟨hrw,Nat.le_of_eq hl,Pa.self _,zdx _ _⟩
theorem rsweepX (h : NtK T w An nn cn Ai ni ci Ao no co t) (hi : ni ≤ 66) (ho : no ≤ 66) (hb : ∀ p ∈ t.I ++ t.O,p.bits.length ≤ 4000) (hm : Nm t.I t.O) (hok : OkT t) : Calls Try.prog 27 #[.agg #[.slice An nn cn,.slice Ai ni ci,.slice Ao no co]] w fun en w' => (∃ (Al : Option Addr) (kk cl : Nat) (Bi : Option Addr) (di : Nat) (Bo : Option Addr) (do' : Nat),en = .returned (.tuple #[.agg #[.slice Al kk cl,.slice Bi ni di,.slice Bo no do'],.int .i64 (((zao t).2 : Nat) : Int),.int .i64 0]) ∧ NtK (fun b => b < w.heap.size) w' Al kk cl Bi ni di Bo no do' (zao t).1 ∧ Sw Al kk cl ∧ Gd t (zao t).1) ∧ Below w.heap.size w w':=by
 have H0:=hok
 obtain ⟨dd,L,lx⟩:=hok
 have H1:=h.nt.n.1
 refine (rsweep_yesH h.nt hm hi ho hb lx).mono ?_
 rintro en w' ⟨⟨B,Bn,k,dn,Bi,di,Bo,do',rfl,hlB,hrB,hkl,hn,sf⟩,b⟩
 have eB : zb5 t = B:=zdW H0 (by rw [hlB,H1]) hrB
 have e1 : (zao t).1 = ⟨(kpL t.N B nn).map (mvN (plS t.N B nn nn)),t.I.map (outF (plS t.N B nn nn)),t.O.map (outF (plS t.N B nn nn))⟩:=by unfold zao placT; rw [eB,H1]
 have e2 : (((zao t).2 : Nat) : Int) = (nn : Int) - (k : Int):=by
  have : (zao t).2 = nn - k:=by unfold zao; rw [eB,H1,hkl]
  have hk:=zcr t.N B nn
  omega
 exact ⟨⟨Bn,k,dn,Bi,di,Bo,do',by rw [e2],by rw [e1]; exact hn.ntK,sf,(sweepT_gd H0).1⟩,b⟩
end
theorem Gd.nm {t u : Tn} (g : Gd t u) (hnm : ∀ p ∈ t.I ++ t.O,p.name.size ≤ 1000000) (hi : t.I.length ≤ 66) (hb : ∀ p ∈ t.I ++ t.O,p.bits.length ≤ 4000) : Nm u.I u.O:=by
 have key : ∀ {L M : List Pt},Pa L M → (∀ p ∈ L,p.name.size ≤ 1000000) → ∀ p ∈ M,p.name.size ≤ 1000000:=fun {L M} h hl p hp => by
  obtain ⟨j,hj⟩:=List.mem_iff_getElem?.1 hp
  obtain ⟨q,hq⟩ : ∃ q,L[j]? = some q:=⟨_,List.getElem?_eq_getElem (by have:=(List.getElem?_eq_some_iff.1 hj).1; have:=h.1; omega)⟩
  rw [(h.2 j q p hq hj).1]
  exact hl q (List.mem_of_getElem? hq)
 have hb2:=g.bits hb
 refine ⟨fun p hp => ?_,fun k => ?_⟩
 ·rcases List.mem_append.1 hp with hp | hp
  ·exact key g.pi (fun p hp => hnm p (List.mem_append_left _ hp)) p hp
  exact key g.po (fun p hp => hnm p (List.mem_append_right _ hp)) p hp
 have:=zeu (L:=u.I) (m:=66) (n:=4000) (by rw [g.pi.1]; exact hi) (fun p hp => hb2 p (List.mem_append_left _ hp)) k
 omega
end Go.Proofs.Ytcehklnonhalhaa
