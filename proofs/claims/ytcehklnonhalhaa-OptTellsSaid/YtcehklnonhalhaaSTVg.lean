/-
  What the proofs of OptTells need: Vg Wx Wy Oa Ob.
-/
import Derived.Test.YtcehklnonhalhaaSTVf
import Derived.Test.YtcehklnonhalhaaSTYv
import Derived.Test.YtcehklnonhalhaaSTWu
import Derived.Test.YtcehklnonhalhaaSTWl
import Derived.Test.YtcehklnonhalhaaSTWa
import Derived.Test.YtcehklnonhalhaaSTHR
import Derived.Test.YtcehklnonhalhaaSTLexG
set_option linter.unusedVariables false
namespace Go.Proofs.Ytcehklnonhalhaa
open Go.RowKit
set_option maxRecDepth 4000
attribute [local go_sem ↓] zbT zbS
theorem field_a (k a b c : Int) (w : World) : (Instr.field 43 (.agg #[.int .i64 k,.int .i64 a,.int .i64 b,.int .i64 c]) 1).run Try.prog w = .ok (.int .i64 a) w:=by kernel_rfl
attribute [local go_sem ↓] field_a
end Go.Proofs.Ytcehklnonhalhaa
namespace Go.Proofs.Ytcehklnonhalhaa
open Go.RowKit
set_option maxRecDepth 4000
theorem zeu {L : List Pt} {m n : Nat} (hm : L.length ≤ m) (h : ∀ p ∈ L,p.bits.length ≤ n) (k : Nat) : (zah (L.take k)).length ≤ m * n:=by
 unfold zah
 rw [List.length_flatMap]
 have key : ∀ L : List Pt,(∀ p ∈ L,p.bits.length ≤ n) → ((L.map fun p => p.bits.length).sum) ≤ L.length * n:=by
  intro L
  induction L with
  | nil => intro _; simp
  | cons p L ih =>
   intro h
   rw [List.map_cons,List.sum_cons,List.length_cons,Nat.add_mul,Nat.one_mul]
   have:=ih fun q hq => h q (List.mem_cons_of_mem _ hq)
   have h2:=h p (List.mem_cons_self ..)
   omega
 have h1:=key (L.take k) fun p hp => h p (List.mem_of_mem_take hp)
 have h2 : (L.take k).length ≤ m:=by rw [List.length_take]; omega
 exact Nat.le_trans h1 (Nat.mul_le_mul_right n h2)
theorem sameL_me (L : List Pt) : zcu L L = true:=by
 unfold zcu
 rw [beq_self_eq_true,Bool.true_and,List.all_eq_true]
 intro i hi
 have hi:=List.mem_range.1 hi
 unfold zcQ
 rw [List.getElem?_eq_getElem hi]
 unfold zdd
 simp
theorem zcH (N : List Nd) (I O : List Pt) : zct N N I I O O = true:=by
 unfold zct
 rw [sameL_me,sameL_me]
 simp
section
variable {An Ai Ao : Option Addr} {nn cn ni ci no co : Nat} {N : List Nd} {I O : List Pt} {w : World}
end
end Go.Proofs.Ytcehklnonhalhaa
namespace Go.Proofs.Ytcehklnonhalhaa
open Go.RowKit
set_option maxRecDepth 4000
theorem sw_again {N M : List Nd} {I O : List Pt} {K : List Nat} {P : List Int} (re : Re N M K P) (hI : PK K I) (hO : PK K O) (hf : N.all (zaf N.length) = true) (hr : ∀ q ∈ K,Rch N (fun p => (p : Int) ∈ zah I ++ zah O) q) {B : List Bool} (hB : ∀ p,B.getD p false = true ↔ Rch M (fun p => (p : Int) ∈ zah (I.map (outF P)) ++ zah (O.map (outF P))) p) : ∀ p,p < M.length → B.getD p false = true:=fun p hp => by
 obtain ⟨q,hq,hm⟩:=zen (K:=K) (j:=p) (by rw [← re.len]; exact hp)
 obtain ⟨j,hj,hrj⟩:=re.rch hf (Y:=zah I ++ zah O) (fun y hy => by
  rcases List.mem_append.1 hy with hy | hy
  ·exact hI.comes y hy
  exact hO.comes y hy) (hr q hm)
 have e1:=re.inv _ _ hq
 have e2:=re.inv _ _ hj
 obtain rfl : p = j:=by omega
 rw [hB,zfg,zfg,← List.map_append]
 exact hrj
structure Tn where
  N : List Nd
  I : List Pt
  O : List Pt
theorem Tn.ext_ {t u : Tn} (h1 : t.N = u.N) (h2 : t.I = u.I) (h3 : t.O = u.O) : t = u:=by
 cases t; cases u; simp only at h1 h2 h3; rw [h1,h2,h3]
def OkT (t : Tn) : Prop:=∃ dd L,LvN t.N t.I t.O dd L
noncomputable def ordT (t : Tn) : List Nat:=(ordO (zaB t.N t.I t.O).1).map Int.toNat
theorem zbH {t : Tn} {dd L : List Nat} (lx : LvN t.N t.I t.O dd L) : ordT t = L:=by
 unfold ordT
 rw [lx.lev]
 show (ordO (some dd)).map Int.toNat = L
 rw [lx.ord]
 unfold nI
 rw [List.map_map]
 exact (List.map_congr_left fun x _ => Int.toNat_natCast x).trans (List.map_id _)
theorem RwA.self {N : List Nd} {I O : List Pt} {dd L : List Nat} (lx : LvN N I O dd L) : RwA N I O N I O:=⟨⟨dd,lx.lev⟩,lx.fm,lx.bits,lx.all,fun xss L L2 ho ho2 => by
 obtain ⟨f,hf⟩:=lx.all
 have key : ∀ st xs,rval N I (nI L2) st xs = rval N I (nI L) st xs:=fun st xs => zds hf lx.fm (zcW ho2 lx.fm _ _) (zcW ho lx.fm _ _)
 have hst : ∀ j,rst N I (nI L2) xss j = rst N I (nI L) xss j:=by
  intro j
  induction j with
  | zero => rfl
  | succ j ih =>
   unfold rst
   rw [ih,key]
 unfold ze0
 split
 ·congr 1
  refine List.map_congr_left fun j _ => ?_
  unfold rtold
  rw [hst,key]
 rfl⟩
theorem RwA.trans {N M K : List Nd} {I O I2 O2 I3 O3 : List Pt} (h : RwA N I O M I2 O2) (g : RwA M I2 O2 K I3 O3) : RwA N I O K I3 O3:=⟨g.lev,g.fm,g.bits,g.all,fun xss L L3 ho ho3 => by
 obtain ⟨d2,hd2⟩:=h.lev
 obtain ⟨_,_,_,_,_,od,_⟩:=od_of hd2
 exact (g.run xss _ _ od.odr ho3).trans (h.run xss _ _ ho od.odr)⟩
theorem Pa.trans {L M K : List Pt} (h : Pa L M) (g : Pa M K) : Pa L K:=⟨g.1.trans h.1,fun j p q hp hq => by
 obtain ⟨r,hr⟩ : ∃ r,M[j]? = some r:=⟨_,List.getElem?_eq_getElem (by have:=(List.getElem?_eq_some_iff.1 hp).1; have:=h.1; omega)⟩
 exact ⟨(g.2 j r q hr hq).1.trans (h.2 j p r hp hr).1,(g.2 j r q hr hq).2.trans (h.2 j p r hp hr).2⟩⟩
theorem Pa.bits {L M : List Pt} (h : Pa L M) {b : Nat} (hb : ∀ p ∈ L,p.bits.length ≤ b) : ∀ p ∈ M,p.bits.length ≤ b:=fun p hp => by
 obtain ⟨j,hj⟩:=List.mem_iff_getElem?.1 hp
 obtain ⟨q,hq⟩ : ∃ q,L[j]? = some q:=⟨_,List.getElem?_eq_getElem (by have:=(List.getElem?_eq_some_iff.1 hj).1; have:=h.1; omega)⟩
 rw [(h.2 j q p hq hj).2]
 exact hb q (List.mem_of_getElem? hq)
structure Gd (t u : Tn) : Prop where
  rw : RwA t.N t.I t.O u.N u.I u.O
  le : u.N.length ≤ t.N.length
  pi : Pa t.I u.I
  po : Pa t.O u.O
theorem Gd.self {t : Tn} (h : OkT t) : Gd t t:=by
 obtain ⟨dd,L,lx⟩:=h
 exact ⟨RwA.self lx,Nat.le_refl _,Pa.self _,Pa.self _⟩
theorem Gd.trans {t u v : Tn} (h : Gd t u) (g : Gd u v) : Gd t v:=⟨h.rw.trans g.rw,Nat.le_trans g.le h.le,h.pi.trans g.pi,h.po.trans g.po⟩
theorem Gd.ok {t u : Tn} (h : Gd t u) : OkT u:=by
 obtain ⟨d2,hd2⟩:=h.rw.lev
 obtain ⟨L,lx⟩:=lv_x hd2
 exact ⟨d2,L,lx⟩
theorem Gd.bits {t u : Tn} (h : Gd t u) {b : Nat} (hb : ∀ p ∈ t.I ++ t.O,p.bits.length ≤ b) : ∀ p ∈ u.I ++ u.O,p.bits.length ≤ b:=fun p hp => by
 rcases List.mem_append.1 hp with hp | hp
 ·exact h.pi.bits (fun q hq => hb q (List.mem_append_left _ hq)) p hp
 exact h.po.bits (fun q hq => hb q (List.mem_append_right _ hq)) p hp
/-! what each does,and its number -/
noncomputable def za3 (t : Tn) : Tn × Nat:=(⟨(runF t.N (ordT t)).1.map (dffS (runF t.N (ordT t)).2),t.I,t.O.map (outF (runF t.N (ordT t)).2)⟩,chN (runF t.N (ordT t)).2 ((runF t.N (ordT t)).1.map (dffS (runF t.N (ordT t)).2)) t.N t.N.length)
noncomputable def zaA (t : Tn) : Tn × Nat:=(⟨(runK t.N (ordT t)).1.map (dffS (runK t.N (ordT t)).2.1),t.I,t.O.map (outF (runK t.N (ordT t)).2.1)⟩,chS (runK t.N (ordT t)).2.1 t.N.length)
open Classical in
noncomputable def zb5 (t : Tn) : List Bool:=(List.range t.N.length).map fun p => decide (Rch t.N (fun p => (p : Int) ∈ zah t.I ++ zah t.O) p)
noncomputable def placT (t : Tn) : List Int:=plS t.N (zb5 t) t.N.length t.N.length
noncomputable def zao (t : Tn) : Tn × Nat:=(⟨(kpL t.N (zb5 t) t.N.length).map (mvN (placT t)),t.I.map (outF (placT t)),t.O.map (outF (placT t))⟩,t.N.length - (kpL t.N (zb5 t) t.N.length).length)
theorem ze3 {N : List Nd} {F : Nat → Prop} (hF : ∀ p,F p → p < N.length) (hu : ∀ q,q < N.length → Plc N.length (zag (N.getD q nd0))) {p : Nat} (h : Rch N F p) : p < N.length:=h.closed hF fun q hq y hy => by
 obtain ⟨m,rfl,hm⟩:=hu q hq y hy
 rw [Int.toNat_natCast]
 exact hm
theorem zdW {t : Tn} (hok : OkT t) {B : List Bool} (hl : B.length = t.N.length) (hb : ∀ p,B.getD p false = true ↔ Rch t.N (fun p => (p : Int) ∈ zah t.I ++ zah t.O) p) : zb5 t = B:=by
 obtain ⟨dd,L,lx⟩:=hok
 refine bits_eq (by unfold zb5; rw [List.length_map,List.length_range,hl]) fun p => ?_
 rw [hb]
 unfold zb5
 by_cases hp : p < t.N.length
 ·rw [List.getD_eq_getElem?_getD,List.getElem?_map,List.getElem?_range hp]
  simp
 constructor
 ·intro h
  rw [List.getD_eq_getElem?_getD,List.getElem?_map,List.getElem?_eq_none (by rw [List.length_range]; omega)] at h
  cases h
 intro h
 exact absurd (ze3 (fun q hq => by
  obtain ⟨m,e,hm⟩:=zcR lx _ hq
  omega) (zcj lx.fm rfl) h) hp
noncomputable def zaR (on : Bool) (F : Tn → Tn × Nat) (t : Tn) : Tn × Nat:=if on then F t else (t,0)
noncomputable def zaq (f s x : Bool) (t : Tn) : Tn × (Nat × Nat × Nat):=((zaR x zao (zaR s zaA (zaR f za3 t).1).1).1,((zaR f za3 t).2,(zaR s zaA (zaR f za3 t).1).2,(zaR x zao (zaR s zaA (zaR f za3 t).1).1).2))
noncomputable def itT (f s x : Bool) (t : Tn) : Nat → Tn × (Nat × Nat × Nat)
 | 0 => (t,(0,0,0))
 | k + 1 => ((zaq f s x (itT f s x t k).1).1,((itT f s x t k).2.1 + (zaq f s x (itT f s x t k).1).2.1,(itT f s x t k).2.2.1 + (zaq f s x (itT f s x t k).1).2.2.1,(itT f s x t k).2.2.2 + (zaq f s x (itT f s x t k).1).2.2.2))
structure EndK (f s x : Bool) (t : Tn) (k : Nat) : Prop where
  one : 1 ≤ k
  top : k ≤ 12
  on : ∀ j,j + 1 < k → (itT f s x t (j + 1)).1 ≠ (itT f s x t j).1
  off : k = 12 ∨ ∃ j,k = j + 1 ∧ (itT f s x t (j + 1)).1 = (itT f s x t j).1
theorem EndK.le {f s x : Bool} {t : Tn} {k l : Nat} (h : EndK f s x t k) (g : EndK f s x t l) : l ≤ k:=by
 refine Classical.byContradiction fun n => ?_
 rcases h.off with e | ⟨j,e,hj⟩
 ·have:=g.top
  omega
 exact g.on j (by omega) hj
theorem EndK.eq {f s x : Bool} {t : Tn} {k l : Nat} (h : EndK f s x t k) (g : EndK f s x t l) : k = l:=Nat.le_antisymm (g.le h) (h.le g)
theorem runF_len (L : List Nat) : ∀ (x : List Nd × List Int),(L.foldl stepF x).1.length = x.1.length:=by
 induction L with
 | nil => intro x; rfl
 | cons q L ih =>
  intro x
  rw [List.foldl_cons,ih]
  unfold stepF
  exact List.length_set
theorem zeq (t : Tn) : (za3 t).1.N.length = t.N.length:=by
 unfold za3
 dsimp only
 rw [List.length_map]
 exact runF_len _ _
theorem runK_len (L : List Nat) : ∀ (x : List Nd × List Int × (Nd → Option Nat)),(L.foldl zbi x).1.length = x.1.length:=by
 induction L with
 | nil => intro x; rfl
 | cons q L ih =>
  intro x
  rw [List.foldl_cons,ih]
  unfold zbi
  repeat' split
  all_goals simp
theorem zdt (t : Tn) : (zaA t).1.N.length = t.N.length:=by
 unfold zaA
 dsimp only
 rw [List.length_map]
 exact runK_len _ _
theorem zeI (t : Tn) : (zao t).1.N.length + (zao t).2 = t.N.length:=by
 unfold zao
 dsimp only
 rw [List.length_map]
 have:=zcr t.N (zb5 t) t.N.length
 omega
theorem partT_len {on : Bool} {F : Tn → Tn × Nat} (hF : ∀ t,(F t).1.N.length = t.N.length) (t : Tn) : (zaR on F t).1.N.length = t.N.length:=by
 unfold zaR
 split
 ·exact hF t
 rfl
theorem sweepT_gd {t : Tn} (hok : OkT t) : Gd t (zao t).1 ∧ zao (zao t).1 = ((zao t).1,0):=by
 obtain ⟨dd,L,lx⟩:=hok
 have hB : (zb5 t).length = t.N.length:=by unfold zb5; rw [List.length_map,List.length_range]
 have hbt : ∀ p,(zb5 t).getD p false = true ↔ Rch t.N (fun p => (p : Int) ∈ zah t.I ++ zah t.O) p:=fun p => by
  unfold zb5
  by_cases hp : p < t.N.length
  ·rw [List.getD_eq_getElem?_getD,List.getElem?_map,List.getElem?_range hp]
   simp
  constructor
  ·intro h
   rw [List.getD_eq_getElem?_getD,List.getElem?_map,List.getElem?_eq_none (by rw [List.length_range]; omega)] at h
   cases h
  intro h
  exact absurd (ze3 (fun q hq => by
   obtain ⟨m,e,hm⟩:=zcR lx _ hq
   omega) (zcj lx.fm rfl) h) hp
 obtain ⟨re,hI,hO⟩:=re_sweep hB lx.fm (zcR lx) hbt
 have hrw:=re.all hI hO lx.lev lx.all
 have hg : Gd t (zao t).1:=⟨hrw,by have:=zeI t; omega,zdx _ _,zdx _ _⟩
 refine ⟨hg,?_⟩
 obtain ⟨d2,L2,lx2⟩:=hg.ok
 have hr : ∀ q ∈ kpQ (zb5 t) t.N.length,Rch t.N (fun p => (p : Int) ∈ zah t.I ++ zah t.O) q:=fun q hq => (hbt q).1 (zcq.1 hq).2
 have hB2 : (zb5 (zao t).1).length = (zao t).1.N.length:=by unfold zb5; rw [List.length_map,List.length_range]
 have hb2 : ∀ p,(zb5 (zao t).1).getD p false = true ↔ Rch (zao t).1.N (fun p => (p : Int) ∈ zah (zao t).1.I ++ zah (zao t).1.O) p:=fun p => by
  unfold zb5
  by_cases hp : p < (zao t).1.N.length
  ·rw [List.getD_eq_getElem?_getD,List.getElem?_map,List.getElem?_range hp]
   simp
  constructor
  ·intro h
   rw [List.getD_eq_getElem?_getD,List.getElem?_map,List.getElem?_eq_none (by rw [List.length_range]; omega)] at h
   cases h
  intro h
  exact absurd (ze3 (fun q hq => by
   obtain ⟨m,e,hm⟩:=zcR lx2 _ hq
   omega) (zcj lx2.fm rfl) h) hp
 obtain ⟨a1,a2,a3,a4⟩:=again_id lx2.fm lx2.bits (sw_again re hI hO lx.fm hr hb2)
 have e1 : (zao (zao t).1).1 = (zao t).1:=Tn.ext_ a2 a3 a4
 have e2 : (zao (zao t).1).2 = 0:=by
  show (zao t).1.N.length - (kpL (zao t).1.N (zb5 (zao t).1) (zao t).1.N.length).length = 0
  rw [a1]
  omega
 exact Prod.ext e1 e2
end Go.Proofs.Ytcehklnonhalhaa
namespace Go.Proofs.Ytcehklnonhalhaa
open Go.RowKit
set_option maxRecDepth 4000
def StepX (s ni no : Nat) (F : Tn → Tn × Nat) (t : Tn) (en : Ending) (w' : World) : Prop:=∃ (Bn : Option Addr) (kk dn : Nat) (Bi : Option Addr) (di : Nat) (Bo : Option Addr) (do' : Nat),en = .returned (.tuple #[.agg #[.slice Bn kk dn,.slice Bi ni di,.slice Bo no do'],.int .i64 (((F t).2 : Nat) : Int),.int .i64 0]) ∧ NtH s w' Bn kk dn Bi ni di Bo no do' (F t).1.N (F t).1.I (F t).1.O ∧ Sw Bn kk dn ∧ Gd t (F t).1
section
variable {t : Tn} {An Ai Ao : Option Addr} {nn cn ni ci no co : Nat} {w : World}
theorem foldX (h : Nt w An nn cn Ai ni ci Ao no co t.N t.I t.O) (sn : Sw An nn cn) (hb : ∀ p ∈ t.I ++ t.O,p.bits.length ≤ 4000) (hok : OkT t) : Calls Try.prog 17 #[.agg #[.slice An nn cn,.slice Ai ni ci,.slice Ao no co]] w fun en w' => StepX w.heap.size ni no za3 t en w' ∧ Below w.heap.size w w':=by
 obtain ⟨dd,L,lx⟩:=hok
 have hnn:=h.n.1
 refine (fold_yesH h sn (fun p hp => by have:=hb p hp; omega) lx.lev lx.ord lx.nd lx.mem lx.pos lx.pl).mono ?_
 rintro en w' ⟨⟨Bn,dn,Bi,di,Bo,do',M,S,rfl,hr,hf,hn,sf⟩,b⟩
 have e1 : (za3 t).1 = ⟨M.map (dffS S),t.I,t.O.map (outF S)⟩:=by unfold za3; rw [zbH lx,hr]
 have e2 : (za3 t).2 = chN S (M.map (dffS S)) t.N nn:=by unfold za3; rw [zbH lx,hr,hnn]
 have hrw:=rw_all lx.lev lx.pos hf.rw (idx_lt lx.mem)
 refine ⟨⟨Bn,nn,dn,Bi,di,Bo,do',by rw [e2],by rw [e1]; exact hn,sf,?_⟩,b⟩
 have hl:=zeq t
 rw [e1] at hl ⊢
 exact ⟨hrw,Nat.le_of_eq hl,Pa.self _,zdx _ _⟩
theorem shareX (h : Nt w An nn cn Ai ni ci Ao no co t.N t.I t.O) (sn : Sw An nn cn) (hb : ∀ p ∈ t.I ++ t.O,p.bits.length ≤ 4000) (hok : OkT t) : Calls Try.prog 23 #[.agg #[.slice An nn cn,.slice Ai ni ci,.slice Ao no co]] w fun en w' => StepX w.heap.size ni no zaA t en w' ∧ Below w.heap.size w w':=by
 obtain ⟨dd,L,lx⟩:=hok
 have hnn:=h.n.1
 refine (share_yesH h sn (fun p hp => by have:=hb p hp; omega) lx).mono ?_
 rintro en w' ⟨⟨Bn,dn,Bi,di,Bo,do',M,S,F,rfl,hr,hf,hn,sf⟩,b⟩
 have e1 : (zaA t).1 = ⟨M.map (dffS S),t.I,t.O.map (outF S)⟩:=by unfold zaA; rw [zbH lx,hr]
 have e2 : (zaA t).2 = chS S nn:=by unfold zaA; rw [zbH lx,hr,hnn]
 have hrw:=rw_all lx.lev lx.pos hf.rw (idx_lt lx.mem)
 refine ⟨⟨Bn,nn,dn,Bi,di,Bo,do',by rw [e2],by rw [e1]; exact hn,sf,?_⟩,b⟩
 have hl:=zdt t
 rw [e1] at hl ⊢
 exact ⟨hrw,Nat.le_of_eq hl,Pa.self _,zdx _ _⟩
theorem sweepX (h : Nt w An nn cn Ai ni ci Ao no co t.N t.I t.O) (sn : Sw An nn cn) (hi : ni ≤ 66) (ho : no ≤ 66) (hb : ∀ p ∈ t.I ++ t.O,p.bits.length ≤ 4000) (hok : OkT t) : Calls Try.prog 26 #[.agg #[.slice An nn cn,.slice Ai ni ci,.slice Ao no co]] w fun en w' => StepX w.heap.size ni no zao t en w' ∧ Below w.heap.size w w':=by
 have H0:=hok
 obtain ⟨dd,L,lx⟩:=hok
 have H1:=h.n.1
 refine (ssweep_yesH h sn hi ho hb lx).mono ?_
 rintro en w' ⟨⟨B,Bn,k,dn,Bi,di,Bo,do',rfl,hlB,hrB,hkl,hn,sf⟩,b⟩
 have eB : zb5 t = B:=zdW H0 (by rw [hlB,H1]) hrB
 have e1 : (zao t).1 = ⟨(kpL t.N B nn).map (mvN (plS t.N B nn nn)),t.I.map (outF (plS t.N B nn nn)),t.O.map (outF (plS t.N B nn nn))⟩:=by unfold zao placT; rw [eB,H1]
 have e2 : (((zao t).2 : Nat) : Int) = (nn : Int) - (k : Int):=by
  have : (zao t).2 = nn - k:=by unfold zao; rw [eB,H1,hkl]
  have hk:=zcr t.N B nn
  omega
 exact ⟨⟨Bn,k,dn,Bi,di,Bo,do',by rw [e2],by rw [e1]; exact hn,sf,(sweepT_gd H0).1⟩,b⟩
end
theorem NtH.put {s : Nat} {w : World} {An Ai Ao : Option Addr} {nn cn ni ci no co : Nat} {N : List Nd} {I O : List Pt} (h : NtH s w An nn cn Ai ni ci Ao no co N I O) {p : Nat} (hp : p < s) (k : Nat) (v : Value) : NtH s (w.setCell ⟨p,k,none⟩ v) An nn cn Ai ni ci Ao no co N I O:=by
 have hs : w.heap.size ≤ (w.setCell ⟨p,k,none⟩ v).heap.size:=by simp [World.setCell]
 have hk : ∀ b,s ≤ b → b < w.heap.size → (w.setCell ⟨p,k,none⟩ v).heap[b]? = w.heap[b]?:=fun b hb _ => Below.heap_setCell _ _ _ _ (by show b ≠ p; omega)
 have ai:=h.ai.by_ hs hk
 have ao:=h.ao.by_ hs hk
 exact ⟨⟨h.nt.n.by_ h.an hs hk,ai.ps,ao.ps,h.nt.si,h.nt.so,h.nt.hn,h.nt.hs,h.nt.hb⟩,h.an,ai,ao⟩
set_option maxHeartbeats 4000000 in
theorem do_fold {w : World} {p ni no : Nat} {t : Tn} {F : Tn → Tn × Nat} {r0 r1 r2 r3 : Value} {Bn : Option Addr} {nn dn : Nat} {Bi : Option Addr} {di : Nat} {Bo : Option Addr} {do' : Nat} (hz : Own w p 97 [r0,r1,r2,r3,.slice Bn nn dn,.slice Bi ni di,.slice Bo no do'])
  (hC : Calls Try.prog 17 #[.agg #[.slice Bn nn dn,.slice Bi ni di,.slice Bo no do']] w fun en w' => StepX w.heap.size ni no F t en w' ∧ Below w.heap.size w w') :
  Calls Try.prog 85 #[.pointer (some ⟨p,0,none⟩),.func (.func 17) #[] #[]] w fun en w' => (∃ (Cn : Option Addr) (kk en' : Nat) (Ci : Option Addr) (ei : Nat) (Co : Option Addr) (eo : Nat),en = .returned (.int .i64 (((F t).2 : Nat) : Int)) ∧ Own w' p 97 [r0,r1,r2,r3,.slice Cn kk en',.slice Ci ni ei,.slice Co no eo] ∧ NtH w.heap.size w' Cn kk en' Ci ni ei Co no eo (F t).1.N (F t).1.I (F t).1.O ∧ Sw Cn kk en' ∧ Gd t (F t).1) ∧ Kx (fun b => b = p) w w':=by
 go_enter Try.func85,Try.ntmps85
 obtain ⟨c4,c5,c6⟩:=hz.zoc4c5c6
 have c4 : _ = some (Value.slice Bn nn dn):=c4
 have c5 : _ = some (Value.slice Bi ni di):=c5
 have c6 : _ = some (Value.slice Bo no do'):=c6
 have H0:=hz.lt
 go_wp2_with fail
 refine hC.mono ?_
 rintro en w1 ⟨⟨Cn,kk,ec,Ci,ei,Co,eo,rfl,hn,sn,hg⟩,b⟩
 clear c4 c5 c6
 replace hz:=hz.below b hz.lt
 have hk1 : Kx (fun b => b = p) w w1:=(Kx.refl _ _).step b
 clear b
 go_upto_region 2 with fail
 obtain ⟨w2,e2,z2,b⟩:=zmB w1 [.slice Cn kk ec,.slice Ci ni ei,.slice Co no eo] 25
 rw [e2]
 replace hz:=hz.below b hz.lt
 have hk2:=hk1.step b
 have hn2 : NtH w.heap.size w2 Cn kk ec Ci ni ei Co no eo (F t).1.N (F t).1.I (F t).1.O:=⟨hn.nt.on b,hn.an,hn.ai.on b,hn.ao.on b⟩
 obtain ⟨s2,hs2⟩ : ∃ s2,w1.heap.size = s2:=⟨_,rfl⟩
 rw [hs2] at z2 ⊢
 clear e2 b hs2 hn hk1
 obtain ⟨c0,c1,c2⟩:=z2.zb3
 obtain ⟨d4,d5,d6⟩:=hz.zoc4c5c6
 obtain ⟨f4,f5,f6⟩:=hz.zof4f5f6
 go_wp2_with fail
 have hz3:=((hz.put 4 (.slice Cn kk ec)).put 5 (.slice Ci ni ei)).put 6 (.slice Co no eo)
 have hn3:=((hn2.put H0 4 (.slice Cn kk ec)).put H0 5 (.slice Ci ni ei)).put H0 6 (.slice Co no eo)
 have hk3:=((hk2.set (g:=p) rfl 4 (.slice Cn kk ec)).set (g:=p) rfl 5 (.slice Ci ni ei)).set (g:=p) rfl 6 (.slice Co no eo)
 go_ret
 exact ⟨⟨Cn,kk,ec,Ci,ei,Co,eo,rfl,hz3,hn3,sn,hg⟩,hk3⟩
set_option maxHeartbeats 4000000 in
theorem do_share {w : World} {p ni no : Nat} {t : Tn} {F : Tn → Tn × Nat} {r0 r1 r2 r3 : Value} {Bn : Option Addr} {nn dn : Nat} {Bi : Option Addr} {di : Nat} {Bo : Option Addr} {do' : Nat} (hz : Own w p 97 [r0,r1,r2,r3,.slice Bn nn dn,.slice Bi ni di,.slice Bo no do'])
  (hC : Calls Try.prog 23 #[.agg #[.slice Bn nn dn,.slice Bi ni di,.slice Bo no do']] w fun en w' => StepX w.heap.size ni no F t en w' ∧ Below w.heap.size w w') :
  Calls Try.prog 85 #[.pointer (some ⟨p,0,none⟩),.func (.func 23) #[] #[]] w fun en w' => (∃ (Cn : Option Addr) (kk en' : Nat) (Ci : Option Addr) (ei : Nat) (Co : Option Addr) (eo : Nat),en = .returned (.int .i64 (((F t).2 : Nat) : Int)) ∧ Own w' p 97 [r0,r1,r2,r3,.slice Cn kk en',.slice Ci ni ei,.slice Co no eo] ∧ NtH w.heap.size w' Cn kk en' Ci ni ei Co no eo (F t).1.N (F t).1.I (F t).1.O ∧ Sw Cn kk en' ∧ Gd t (F t).1) ∧ Kx (fun b => b = p) w w':=by
 go_enter Try.func85,Try.ntmps85
 obtain ⟨c4,c5,c6⟩:=hz.zoc4c5c6
 have c4 : _ = some (Value.slice Bn nn dn):=c4
 have c5 : _ = some (Value.slice Bi ni di):=c5
 have c6 : _ = some (Value.slice Bo no do'):=c6
 have H0:=hz.lt
 go_wp2_with fail
 refine hC.mono ?_
 rintro en w1 ⟨⟨Cn,kk,ec,Ci,ei,Co,eo,rfl,hn,sn,hg⟩,b⟩
 clear c4 c5 c6
 replace hz:=hz.below b hz.lt
 have hk1 : Kx (fun b => b = p) w w1:=(Kx.refl _ _).step b
 clear b
 go_upto_region 2 with fail
 obtain ⟨w2,e2,z2,b⟩:=zmB w1 [.slice Cn kk ec,.slice Ci ni ei,.slice Co no eo] 25
 rw [e2]
 replace hz:=hz.below b hz.lt
 have hk2:=hk1.step b
 have hn2 : NtH w.heap.size w2 Cn kk ec Ci ni ei Co no eo (F t).1.N (F t).1.I (F t).1.O:=⟨hn.nt.on b,hn.an,hn.ai.on b,hn.ao.on b⟩
 obtain ⟨s2,hs2⟩ : ∃ s2,w1.heap.size = s2:=⟨_,rfl⟩
 rw [hs2] at z2 ⊢
 clear e2 b hs2 hn hk1
 obtain ⟨c0,c1,c2⟩:=z2.zb3
 obtain ⟨d4,d5,d6⟩:=hz.zoc4c5c6
 obtain ⟨f4,f5,f6⟩:=hz.zof4f5f6
 go_wp2_with fail
 have hz3:=((hz.put 4 (.slice Cn kk ec)).put 5 (.slice Ci ni ei)).put 6 (.slice Co no eo)
 have hn3:=((hn2.put H0 4 (.slice Cn kk ec)).put H0 5 (.slice Ci ni ei)).put H0 6 (.slice Co no eo)
 have hk3:=((hk2.set (g:=p) rfl 4 (.slice Cn kk ec)).set (g:=p) rfl 5 (.slice Ci ni ei)).set (g:=p) rfl 6 (.slice Co no eo)
 go_ret
 exact ⟨⟨Cn,kk,ec,Ci,ei,Co,eo,rfl,hz3,hn3,sn,hg⟩,hk3⟩
set_option maxHeartbeats 4000000 in
theorem zdV {w : World} {p ni no : Nat} {t : Tn} {F : Tn → Tn × Nat} {r0 r1 r2 r3 : Value} {Bn : Option Addr} {nn dn : Nat} {Bi : Option Addr} {di : Nat} {Bo : Option Addr} {do' : Nat} (hz : Own w p 97 [r0,r1,r2,r3,.slice Bn nn dn,.slice Bi ni di,.slice Bo no do'])
  (hC : Calls Try.prog 26 #[.agg #[.slice Bn nn dn,.slice Bi ni di,.slice Bo no do']] w fun en w' => StepX w.heap.size ni no F t en w' ∧ Below w.heap.size w w') :
  Calls Try.prog 85 #[.pointer (some ⟨p,0,none⟩),.func (.func 26) #[] #[]] w fun en w' => (∃ (Cn : Option Addr) (kk en' : Nat) (Ci : Option Addr) (ei : Nat) (Co : Option Addr) (eo : Nat),en = .returned (.int .i64 (((F t).2 : Nat) : Int)) ∧ Own w' p 97 [r0,r1,r2,r3,.slice Cn kk en',.slice Ci ni ei,.slice Co no eo] ∧ NtH w.heap.size w' Cn kk en' Ci ni ei Co no eo (F t).1.N (F t).1.I (F t).1.O ∧ Sw Cn kk en' ∧ Gd t (F t).1) ∧ Kx (fun b => b = p) w w':=by
 go_enter Try.func85,Try.ntmps85
 obtain ⟨c4,c5,c6⟩:=hz.zoc4c5c6
 have c4 : _ = some (Value.slice Bn nn dn):=c4
 have c5 : _ = some (Value.slice Bi ni di):=c5
 have c6 : _ = some (Value.slice Bo no do'):=c6
 have H0:=hz.lt
 go_wp2_with fail
 refine hC.mono ?_
 rintro en w1 ⟨⟨Cn,kk,ec,Ci,ei,Co,eo,rfl,hn,sn,hg⟩,b⟩
 clear c4 c5 c6
 replace hz:=hz.below b hz.lt
 have hk1 : Kx (fun b => b = p) w w1:=(Kx.refl _ _).step b
 clear b
 go_upto_region 2 with fail
 obtain ⟨w2,e2,z2,b⟩:=zmB w1 [.slice Cn kk ec,.slice Ci ni ei,.slice Co no eo] 25
 rw [e2]
 replace hz:=hz.below b hz.lt
 have hk2:=hk1.step b
 have hn2 : NtH w.heap.size w2 Cn kk ec Ci ni ei Co no eo (F t).1.N (F t).1.I (F t).1.O:=⟨hn.nt.on b,hn.an,hn.ai.on b,hn.ao.on b⟩
 obtain ⟨s2,hs2⟩ : ∃ s2,w1.heap.size = s2:=⟨_,rfl⟩
 rw [hs2] at z2 ⊢
 clear e2 b hs2 hn hk1
 obtain ⟨c0,c1,c2⟩:=z2.zb3
 obtain ⟨d4,d5,d6⟩:=hz.zoc4c5c6
 obtain ⟨f4,f5,f6⟩:=hz.zof4f5f6
 go_wp2_with fail
 have hz3:=((hz.put 4 (.slice Cn kk ec)).put 5 (.slice Ci ni ei)).put 6 (.slice Co no eo)
 have hn3:=((hn2.put H0 4 (.slice Cn kk ec)).put H0 5 (.slice Ci ni ei)).put H0 6 (.slice Co no eo)
 have hk3:=((hk2.set (g:=p) rfl 4 (.slice Cn kk ec)).set (g:=p) rfl 5 (.slice Ci ni ei)).set (g:=p) rfl 6 (.slice Co no eo)
 go_ret
 exact ⟨⟨Cn,kk,ec,Ci,ei,Co,eo,rfl,hz3,hn3,sn,hg⟩,hk3⟩
end Go.Proofs.Ytcehklnonhalhaa
