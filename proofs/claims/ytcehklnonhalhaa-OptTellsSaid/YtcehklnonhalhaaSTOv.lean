/-
  What the proofs of OptTells need: Ov.
-/
import Derived.Test.YtcehklnonhalhaaSTOr
set_option linter.unusedVariables false
namespace Go.Proofs.Ytcehklnonhalhaa
open Go.RowKit
theorem chS_put {R : List Int} {q : Nat} (hq : q < R.length) (h0 : R.getD q 0 = (q : Int)) {s : Int} (hs : s ≠ (q : Int)) : ∀ n,chS (R.set q s) n = chS R n + (if q < n then 1 else 0)
 | 0 => by
  rw [if_neg (Nat.not_lt_zero _)]
  rfl
 | n + 1 => by
  have ih:=chS_put hq h0 hs n
  show chS (R.set q s) n + (if ((R.set q s).getD n 0 != (n : Int)) = true then 1 else 0) = chS R n + (if (R.getD n 0 != (n : Int)) = true then 1 else 0) + _
  rw [ih,zaT R q s 0 n hq]
  by_cases e : n = q
  ·subst e
   have e1 : (s != (n : Int)) = true:=by simpa using hs
   have e2 : ¬ (R.getD n 0 != (n : Int)) = true:=by rw [h0]; simp
   rw [if_pos rfl,if_neg (Nat.lt_irrefl _),if_pos (Nat.lt_succ_self _),if_pos e1,if_neg e2]
  rw [if_neg e]
  by_cases h : q < n
  ·rw [if_pos h,if_pos (show q < n + 1 by omega)]
   omega
  rw [if_neg h,if_neg (show ¬ q < n + 1 by omega)]
  omega
theorem chS_self {R : List Int} : ∀ m,(∀ q,q < m → R.getD q 0 = (q : Int)) → chS R m = 0
 | 0,_ => rfl
 | m + 1,h => by
  show chS R m + (if (R.getD m 0 != (m : Int)) = true then 1 else 0) = 0
  rw [chS_self m (fun q hq => h q (by omega)),h m (by omega)]
  simp
def pK (M : List Nd) (x : Nd) (r : Nat) : Bool:=!((M.getD r nd0).k == 1) && (!((M.getD r nd0).k == 7) && za6 (M.getD r nd0) x)
theorem pK_iff (M : List Nd) (x : Nd) (r : Nat) : pK M x r = true ↔ ¬ isIO (M.getD r nd0) ∧ M.getD r nd0 = x:=by
 unfold pK isIO
 rw [Bool.and_eq_true,Bool.and_eq_true,zaE,Bool.not_eq_true',Bool.not_eq_true',beq_eq_false_iff_ne,beq_eq_false_iff_ne]
 constructor
 ·rintro ⟨h1,h2,h3⟩
  exact ⟨fun h => h.elim h1 h2,h3⟩
 rintro ⟨h1,h3⟩
 exact ⟨fun h => h1 (.inl h),fun h => h1 (.inr h),h3⟩
theorem zeQ {p p' : Nat → Bool} : ∀ L : List Nat,(∀ r ∈ L,p r = p' r) → L.find? p = L.find? p'
 | [],_ => rfl
 | a :: L,h => by
  rw [List.find?_cons,List.find?_cons,h a (List.mem_cons_self ..),zeQ L fun r hr => h r (List.mem_cons_of_mem _ hr)]
theorem find_on {L : List Nat} {p : Nat → Bool} {k u : Nat} (h : (L.take k).find? p = some u) : (L.take (k + 1)).find? p = some u:=by
 rw [List.take_add_one,List.find?_append,h]
 rfl
theorem find_yes {L : List Nat} {p : Nat → Bool} {k r : Nat} (hr : L[k]? = some r) (h : (L.take k).find? p = none) (hp : p r = true) : (L.take (k + 1)).find? p = some r:=by
 rw [List.take_add_one,List.find?_append,h,hr]
 show [r].find? p = some r
 rw [List.find?_cons,hp]
theorem find_no {L : List Nat} {p : Nat → Bool} {k r : Nat} (hr : L[k]? = some r) (h : (L.take k).find? p = none) (hp : p r = false) : (L.take (k + 1)).find? p = none:=by
 rw [List.take_add_one,List.find?_append,h,hr]
 show [r].find? p = none
 rw [List.find?_cons,hp]
 rfl
theorem zdL {L : List Nat} {j k r : Nat} : (L.take j)[k]? = some r ↔ k < j ∧ L[k]? = some r:=by
 by_cases h : k < j
 ·rw [List.getElem?_take_of_lt h]
  exact ⟨fun e => ⟨h,e⟩,fun e => e.2⟩
 constructor
 ·intro e
  have:=(List.getElem?_eq_some_iff.1 e).1
  rw [List.length_take] at this
  omega
 exact fun e => absurd e.1 h
theorem share_find {N : List Nd} {I O : List Pt} {dd L : List Nat} (lx : LvN N I O dd L) {j : Nat} {M : List Nd} {S : List Int} {F : Nd → Option Nat} (h : SI N (fun q => L.idxOf q) j M S F) (x : Nd) : F x = (L.take j).find? (pK M x):=by
 have hin : ∀ r,r < N.length → L.idxOf r < j → (L.take j)[L.idxOf r]? = some r:=fun r hr hi => zdL.2 ⟨hi,zdH ((lx.mem r).2 hr)⟩
 have H0 : ∀ r k,(L.take j)[k]? = some r → r < N.length ∧ L.idxOf r = k ∧ k < j:=fun r k hk => by
  obtain ⟨h1,h2⟩:=zdL.1 hk
  exact ⟨(lx.mem r).1 (List.mem_of_getElem? h2),zdE lx.nd h2,h1⟩
 have hp : ∀ r,r < N.length → L.idxOf r < j → (pK M x r = true ↔ ¬ isIO (N.getD r nd0) ∧ M.getD r nd0 = x):=fun r hr hi => by
  rw [pK_iff,h.io hr hi]
 cases e : (L.take j).find? (pK M x) with
 | none => exact h.free fun r hr hi k1 k2 => List.find?_eq_none.1 e r (List.mem_of_getElem? (hin r hr hi)) ((hp r hr hi).2 ⟨k1,k2⟩)
 | some q =>
  obtain ⟨h1,la,lb,h2,h3⟩:=List.find?_eq_some_iff_append.1 e
  have hq0 : (L.take j)[la.length]? = some q:=by rw [h2,List.getElem?_append_right (Nat.le_refl _),Nat.sub_self]; rfl
  obtain ⟨hq,hi,hj⟩:=H0 q _ hq0
  have hi' : L.idxOf q < j:=by omega
  obtain ⟨k1,k2⟩:=(hp q hq hi').1 h1
  refine h.first lx.pos hq hi' k1 k2 fun r hr hri kr ke => ?_
  have hri : L.idxOf r < L.idxOf q:=hri
  have hr0:=hin r hr (by omega)
  rw [h2,List.getElem?_append_left (by omega)] at hr0
  have:=h3 r (List.mem_of_getElem? hr0)
  rw [(hp r hr (by omega)).2 ⟨kr,ke⟩] at this
  cases this
def stQ (R : List Int) (q : Nat) : Option Nat → List Int
 | none => R
 | some p => R.set q (p : Int)
theorem share_gate {N : List Nd} {I O : List Pt} {dd L : List Nat} (lx : LvN N I O dd L) {nn j q : Nat} (hn : N.length = nn) (hq : L[j]? = some q) {M : List Nd} {S : List Int} {F : Nd → Option Nat} (hrun : runK N (L.take j) = (M,S,F)) (h : SI N (fun q => L.idxOf q) j M S F) {x y : Nd} (hx : M.getD q nd0 = x) (hk : ¬ (x.k = 1 ∨ x.k = 7)) (hy : keyS (mvN (rS L nn j S) x) = y) :
  ∃ S' F',runK N (L.take (j + 1)) = (M.set q y,S',F') ∧ SI N (fun q => L.idxOf q) (j + 1) (M.set q y) S' F' ∧ rS L nn (j + 1) S' = stQ (rS L nn j S) q ((L.take j).find? (pK (M.set q y) y)):=by
 subst hn
 have H0 : q < N.length:=(lx.mem q).1 (List.mem_of_getElem? hq)
 have hi : L.idxOf q = j:=zdE lx.nd hq
 have e0:=h.old q H0 (by show j ≤ L.idxOf q; omega)
 have hio : ¬ isIO (N.getD q nd0):=by
  rw [← e0,hx]
  exact hk
 have H1:=lx.pos.at H0 hio
 have H1 : Ok (Pr N.length (fun q => L.idxOf q) j) x:=by
  have h1 : Ok (Pr N.length (fun q => L.idxOf q) (L.idxOf q)) (N.getD q nd0):=H1
  rw [hi,← e0,hx] at h1
  exact h1
 have hy1 : mvN (rS L N.length j S) x = zaG S x:=mvN_uses H1 fun y hy => rS_sA hy
 have hy2 : zaG (S.set q (q : Int)) x = zaG S x:=zd0 H1 (q:=q) (by show j ≤ L.idxOf q; omega) _
 rw [hy1] at hy
 have hf : F y = (L.take j).find? (pK (M.set q y) y):=by
  rw [share_find lx h y]
  refine zeQ _ fun r hr => ?_
  obtain ⟨k,hk⟩:=List.mem_iff_getElem?.1 hr
  obtain ⟨k1,k2⟩:=zdL.1 hk
  have hne : r ≠ q:=fun e => by
   have:=zdE lx.nd k2
   rw [e,hi] at this
   omega
  unfold pK
  rw [zaT M q y nd0 r (by rw [h.rw.lm]; exact H0),if_neg hne]
 rw [← hf]
 have h1:=zd5 N hq
 rw [hrun] at h1
 have hs:=h.step lx.pos H0 hi
 have es : zbi (M,S,F) q = match F y with
   | some p => (M.set q y,(S.set q (q : Int)).set q (p : Int),F)
   | none => (M.set q y,S.set q (q : Int),putK F y q):=by
  unfold zbi
  dsimp only
  rw [hx,if_neg hk,hy2,hy]
  cases F y <;> rfl
 have hls : S.length = N.length:=h.rw.ls
 cases hF : F y with
 | none =>
  rw [hF] at es
  dsimp only at es
  rw [es] at h1 hs
  exact ⟨_,_,h1,hs,(zea lx.nd hq H0 hls _).trans (ze4 lx.nd hq H0)⟩
 | some p =>
  rw [hF] at es
  dsimp only at es
  rw [es,set_again] at h1
  rw [es,set_again] at hs
  exact ⟨_,_,h1,hs,zea lx.nd hq H0 hls _⟩
theorem share_stay {N : List Nd} {I O : List Pt} {dd L : List Nat} (lx : LvN N I O dd L) {nn j q : Nat} (hn : N.length = nn) (hq : L[j]? = some q) {M : List Nd} {S : List Int} {F : Nd → Option Nat} (hrun : runK N (L.take j) = (M,S,F)) (h : SI N (fun q => L.idxOf q) j M S F) {x : Nd} (hx : M.getD q nd0 = x) (hk : x.k = 1 ∨ x.k = 7) :
  runK N (L.take (j + 1)) = (M,S.set q (q : Int),F) ∧ SI N (fun q => L.idxOf q) (j + 1) M (S.set q (q : Int)) F ∧ rS L nn (j + 1) (S.set q (q : Int)) = rS L nn j S:=by
 subst hn
 have H0 : q < N.length:=(lx.mem q).1 (List.mem_of_getElem? hq)
 have hi : L.idxOf q = j:=zdE lx.nd hq
 have h1:=zd5 N hq
 rw [hrun] at h1
 have hs:=h.step lx.pos H0 hi
 have es : zbi (M,S,F) q = (M,S.set q (q : Int),F):=by
  unfold zbi
  dsimp only
  rw [hx,if_pos hk]
 rw [es] at h1 hs
 exact ⟨h1,hs,(zea lx.nd hq H0 h.rw.ls _).trans (ze4 lx.nd hq H0)⟩
theorem share_plc {N : List Nd} {I O : List Pt} {dd L : List Nat} (lx : LvN N I O dd L) {nn j q : Nat} (hn : N.length = nn) (hq : L[j]? = some q) {M : List Nd} {S : List Int} {F : Nd → Option Nat} (h : SI N (fun q => L.idxOf q) j M S F) {x : Nd} (hx : M.getD q nd0 = x) : Plc nn (zag x):=by
 subst hn
 have hqn : q < N.length:=(lx.mem q).1 (List.mem_of_getElem? hq)
 have hi : L.idxOf q = j:=zdE lx.nd hq
 have e0:=h.old q hqn (by show j ≤ L.idxOf q; omega)
 rw [← hx,e0]
 have hN : N[q]? = some (N.getD q nd0):=by rw [List.getD_eq_getElem?_getD,List.getElem?_eq_getElem hqn]; rfl
 exact zeN lx.fm hN
def SH (N : List Nd) (L : List Nat) (nn : Nat) (Al : Option Addr) (cl : Nat) (As : Option Addr) (cs B1 B2 : Nat) (W : World) (j many : Nat) (w' : World) : Prop:=∃ M S F,runK N (L.take j) = (M,S,F) ∧ SI N (fun q => L.idxOf q) j M S F ∧ w'.ownsRow B1 43 4 (.slice Al nn cl) nn (M.flatMap ndC) ∧ w'.ownsRow B2 3 1 (.slice As nn cs) nn ((rS L nn j S).flatMap inC) ∧ Below W.heap.size W w' ∧ many = chS (rS L nn j S) nn
theorem SH.fd {N : List Nd} {I O : List Pt} {dd L : List Nat} (lx : LvN N I O dd L) {nn : Nat} (hn : N.length = nn) {Al As : Option Addr} {cl cs B1 B2 many : Nat} {W w : World} (h : SH N L nn Al cl As cs B1 B2 W L.length many w) : ∃ M S F,runK N L = (M,S,F) ∧ SI N (fun q => L.idxOf q) L.length M S F ∧ FD M S nn Al cl As cs B1 B2 W 0 w ∧ many = chS S nn:=by
 obtain ⟨M,S,F,h1,h2,h3,h4,h5,h6⟩:=h
 rw [List.take_length] at h1
 rw [rS_all (by rw [h2.rw.ls]; exact hn) fun q hq => (lx.mem q).2 (by omega)] at h4 h6
 exact ⟨M,S,F,h1,h2,⟨by rw [ze9]; exact h3,h4,h5⟩,h6⟩
theorem SH.start {N : List Nd} {L : List Nat} {nn : Nat} (hn : N.length = nn) {Al As : Option Addr} {cl cs B1 B2 : Nat} {W w : World} (h1 : w.ownsRow B1 43 4 (.slice Al nn cl) nn (N.flatMap ndC)) (h2 : w.ownsRow B2 3 1 (.slice As nn cs) nn ((idL nn).flatMap inC)) (h3 : Below W.heap.size W w) : SH N L nn Al cl As cs B1 B2 W 0 0 w:=by
 subst hn
 refine ⟨N,zI N.length,fun _ => none,rfl,SI.start,h1,by rw [rS_zero]; exact h2,h3,?_⟩
 rw [chS_self]
 intro q hq
 rw [rS_at hq,if_neg (Nat.not_lt_zero _)]
def ShS (s : Nat) (Ai : Option Addr) (ni ci no : Nat) (M : List Nd) (S : List Int) (I O : List Pt) (nn : Nat) (en : Ending) (w' : World) : Prop:=∃ Al cl Bo do',en = .returned (.tuple #[.agg #[.slice Al nn cl,.slice Ai ni ci,.slice Bo no do'],.int .i64 (chS S nn : Nat),.int .i64 0]) ∧ Nt w' Al nn cl Ai ni ci Bo no do' (M.map (dffS S)) I (O.map (outF S)) ∧ Sw Al nn cl ∧ AdOk (s ≤ ·) Al ∧ PsH s w' Bo no (O.map (outF S))
end Go.Proofs.Ytcehklnonhalhaa
