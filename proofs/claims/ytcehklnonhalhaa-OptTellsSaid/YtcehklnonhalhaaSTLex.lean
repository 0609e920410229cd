/-
  What the proofs of OptTells need: Lex.
-/
import Derived.Deep.Quiet
import Derived.OrdersHeld
import Derived.Below
import Derived.BigQuiet
import Derived.Deep.RegionHeld3
set_option linter.unusedVariables false
namespace Go.Proofs.Ytcehklnonhalhaa
open Go Go.RowKit
structure Wd (w0 : World) where
  w : World
  below : Below w0.heap.size w0 w
instance (w0 : World) : Nonempty (Wd w0):=⟨⟨w0,Below.refl _ _⟩⟩
def Rb (w0 w : World) : Prop:=∃ s : Wd w0,w = s.w
theorem Rb.of {w0 w : World} (h : Below w0.heap.size w0 w) : Rb w0 w:=⟨⟨w,h⟩,rfl⟩
theorem Rb.bel {w0 w : World} (h : Rb w0 w) : Below w0.heap.size w0 w:=by
 obtain ⟨s,rfl⟩:=h
 exact s.below
theorem Rb.refl (w : World) : Rb w w:=Rb.of (Below.refl _ _)
theorem Rb.trans {a b c : World} (h : Rb a b) (k : Rb b c) : Rb a c:=Rb.of (h.bel.trans (k.bel.mono h.bel.size))
section
variable {P : Program} {ops : Array Oper} {md : Region.Mode} {Q : Exit → Act → World → Prop}
theorem zdz {Y : Act → Prop} {j : Nat} {oj : Oper} {d : Option Nat} {v : Value} (hj : ops[j]? = some oj) (hs : ∀ cs b,oj.op ≠ .select cs b)
  (h1 : ∀ e,d = some e → e ∉ oj.looksAt ops) (h2 : ∀ e,d = some e → oj.dst ≠ some e)
  (keep : ∀ (a : Act),Y a → ∀ u,Y (a.put oj.dst u)) (keepD : ∀ (a : Act),Y a → ∀ x,Y { a with defers:=x :: a.defers })
  (hQ : ∀ c a w,Q (.panic c) (a.put d v) w → Q (.panic c) a w) {K : Act → World → Prop} {a : Act} {w : World} (hy : Y a)
  (h : wpOp P ops Q j K (a.put d v) w) : wpOp P ops Q j (fun a' w' => Y a' ∧ K (a'.put d v) w') a w:=by
 have H0 : ∀ (b : Act) u,Y b → K ((b.put d v).put oj.dst u) = K ((b.put oj.dst u).put d v):=fun b u _ => by rw [Act.put_comm b v u h2]
 unfold wpOp at h ⊢
 simp only [hj] at h ⊢
 rw [wanted_put oj a d v h1] at h
 cases hw : Region.wanted oj (yielded ops a.tmps)
 ·rw [hw,if_neg (by decide)] at h
  rw [if_neg (by decide)]
  exact ⟨keep a hy _,by rw [← H0 a _ hy]; exact h⟩
 rw [hw,if_pos rfl] at h
 rw [if_pos rfl]
 rcases h with h | ⟨h,hl⟩
 ·left
  unfold Oper.wp at h ⊢
  rw [execOp_put oj hs a d v h1] at h
  generalize (execOp a.eval oj).run P w = r at h ⊢
  rcases r with ⟨n,w'⟩ | ⟨x,w'⟩
  ·cases n <;> simp only [Oper.upon] at h ⊢
   case value u => exact ⟨keep a hy u,by rw [← H0 a u hy]; exact h⟩
   case skip => exact ⟨keep a hy _,by rw [← H0 a _ hy]; exact h⟩
   case defer x =>
    refine ⟨keep _ (keepD a hy x) _,?_⟩
    rw [← H0 _ _ (keepD a hy x),← Act.put_defers]
    exact h
   case enter f args =>
    refine Calls.mono h fun e w'' he => ?_
    rcases e with u | c | _
    ·exact ⟨keep a hy u,by rw [← H0 a u hy]; exact he⟩
    ·exact hQ _ _ _ he
    exact he
   case row row args => exact Rows.mono h fun u w'' he => ⟨keep a hy u,by rw [← H0 a u hy]; exact he⟩
  cases x <;> simp only [Oper.upon] at h ⊢
  case panic u => exact hQ _ _ _ h
 right
 refine ⟨?_,hl⟩
 unfold Oper.asks at h ⊢
 rw [execOp_put oj hs a d v h1] at h
 exact h
def anyR (P : Program) (md : Region.Mode) (ops : Array Oper) (Q : Exit → Act → World → Prop) : Nat → Array Bool → Act → World → Prop
 | 0,listed,a,w => Region.ready md ops listed = [] ∧ ∀ w1,Rb w w1 → Q .normal a w1
 | n + 1,listed,a,w => ∀ w1,Rb w w1 → (Region.ready md ops listed = [] → Q .normal a w1) ∧
   ∀ i ∈ Region.ready md ops listed,wpOp P ops Q i (fun a' w' => Rb w1 w' ∧ anyR P md ops Q n (listed.setIfInBounds i true) a' w') a w1
theorem anyR_on : ∀ (n : Nat) {listed : Array Bool} {a : Act} {w w' : World},anyR P md ops Q n listed a w → Rb w w' → anyR P md ops Q n listed a w'
 | 0,_,_,_,_,h,k => ⟨h.1,fun w1 h1 => h.2 w1 (k.trans h1)⟩
 | n + 1,_,_,_,_,h,k => fun w1 h1 => h w1 (k.trans h1)
theorem zbc : ∀ (n : Nat) (listed : Array Bool) (a : Act) (w : World),anyR P md ops Q n listed a w → wpAny P md ops Q n listed a w
 | 0,_,_,w,h => ⟨h.1,h.2 w (Rb.refl w)⟩
 | n + 1,_,_,w,h => ⟨(h w (Rb.refl w)).1,fun i hi => wpOp_mono (fun a' w' h' => zbc n _ a' w' h'.2) ((h w (Rb.refl w)).2 i hi)⟩
theorem zcv {w w' : World} {o : Oper} {v : Value} {a : Act} (h : YieldsIf P ops (Rb w) o v a) (k : Rb w w') : YieldsIf P ops (Rb w') o v a:=
 h.imp (fun ⟨h1,h2⟩ => ⟨h1,fun w1 k1 => h2 w1 (k.trans k1)⟩) id
theorem zce {i : Nat} {oi : Oper} {v : Value} (hi : ops[i]? = some oi) (hsel : ∀ (j : Nat) (o : Oper) cs b,ops[j]? = some o → o.op ≠ .select cs b)
  (hQ : ∀ d v c a w,Q (.panic c) (a.put d v) w → Q (.panic c) a w) : ∀ (n : Nat) (listed : Array Bool) (a : Act) (w : World),
   (∀ j oj,ops[j]? = some oj → j ≠ i → listed.getD j true = false → (∀ e ∈ oj.after,Region.binds md e = true → e.on ≠ i) → oi.apart ops oj = true) →
   i ∈ Region.ready md ops listed → YieldsIf P ops (Rb w) oi v a →
   anyR P md ops Q n (listed.setIfInBounds i true) (a.put oi.dst v) w → anyR P md ops Q (n + 1) listed a w:=by
 intro n
 induction n with
 | zero =>
  intro listed a w hfree hr hy H w1 hw1
  refine ⟨fun h => absurd hr (by rw [h]; exact List.not_mem_nil),fun j hj => ?_⟩
  by_cases e : j = i
  ·subst e
   exact hy.wpOp hi hw1 ⟨Rb.refl w1,anyR_on 0 H hw1⟩
  have:=ready_mono hj e
  rw [H.1] at this
  cases this
 | succ n ih =>
  intro listed a w hfree hr hy H w1 hw1
  refine ⟨fun h => absurd hr (by rw [h]; exact List.not_mem_nil),fun j hj => ?_⟩
  by_cases e : j = i
  ·subst e
   exact hy.wpOp hi hw1 ⟨Rb.refl w1,anyR_on (n + 1) H hw1⟩
  have h1:=(H w1 hw1).2 j (ready_mono hj e)
  obtain ⟨hjun,oj,hoj,hall⟩:=mem_ready.1 hj
  have H0:=(mem_ready.1 hr).1
  have H1 : ∀ x ∈ oj.after,Region.binds md x = true → x.on ≠ i:=fun x hx hb hxi => by
   have h2:=hall x hx hb
   rw [hxi] at h2
   by_cases hlt : i < listed.size
   ·simp [hlt] at H0 h2; rw [H0] at h2; cases h2
   simp [Array.getElem?_eq_none (Nat.le_of_not_lt hlt)] at h2
  obtain ⟨g1,g2,g3⟩:=Oper.apart_spec (hfree j oj hoj e hjun H1)
  have h2:=zdz (Y:=YieldsIf P ops (Rb w) oi v) hoj (fun cs b => hsel j oj cs b hoj) g1 g2
   (fun b hb u => hb.of_same (execOp_put oi (fun cs b => hsel i oi cs b hi) b oj.dst u g3) (wanted_put oi b oj.dst u g3)) (fun b hb x => hb.of_same rfl rfl) (hQ oi.dst v) hy h1
  refine wpOp_mono (fun a' w' ⟨y,k,h3⟩ => ⟨k,ih (listed.setIfInBounds j true) a' w' (fun l ol hl hli hun hno => ?_) (ready_mono hr (Ne.symm e)) (zcv y (hw1.trans k)) ?_⟩) h2
  ·refine hfree l ol hl hli ?_ hno
   by_cases hjl : j = l
   ·subst hjl; exact hjun
   rw [getD_set_ne true hjl] at hun; exact hun
  rw [Array.setIfInBounds_comm _ _ e]
  exact h3
def zar (o : Oper) : Bool:=match o.op with
 | .move _ | .assign _ | .pick .. | .build .. | .load .. | .binOp .. | .unOp .. | .convert .. | .fieldAddr .. | .field .. | .indexAddr .. | .index .. | .extract .. => true
 | _ => false
theorem zbN {s : Sem Value} {w w' : World} {n : Next} (h : (do pure (Next.value (← s)) : Sem Next).run P w = .ok n w') : ∃ u,n = .value u:=by
 rw [Sem.run_bind] at h
 generalize s.run P w = r at h
 rcases r with ⟨u,w2⟩ | ⟨x,w2⟩
 ·simp only [Result.andThen_ok,Sem.run_pure] at h
  cases h
  exact ⟨u,rfl⟩
 cases h
theorem zbw {ρ : Operand → Value} {o : Oper} {w w' : World} {n : Next} (hp : zar o = true) (h : (execOp ρ o).run P w = .ok n w') : ∃ u,n = .value u:=by
 unfold zar at hp
 unfold execOp at h
 split at hp
 all_goals first | cases hp | skip
 all_goals (rename_i e; rw [e] at h; first | exact zbN h | skip)
 ·simp only [Sem.run_pure] at h; cases h; exact ⟨_,rfl⟩
 ·simp only [Sem.run_pure] at h; cases h; exact ⟨_,rfl⟩
 rename_i c x y
 rw [Sem.run_bind] at h
 generalize (asBool (ρ c)).run P w = r at h
 rcases r with ⟨u,w2⟩ | ⟨x,w2⟩
 ·simp only [Result.andThen_ok,Sem.run_pure] at h; cases h; exact ⟨_,rfl⟩
 cases h
def lst (n : Nat) (D : List Nat) : Array Bool:=((List.range n).map fun i => D.contains i).toArray
theorem zaX (n : Nat) (D : List Nat) (j : Nat) (d : Bool) : (lst n D).getD j d = if j < n then D.contains j else d:=by
 unfold lst
 by_cases h : j < n
 ·rw [if_pos h]; simp [h]
 rw [if_neg h]; simp [Nat.le_of_not_lt h]
theorem zdC (n : Nat) : Array.replicate n false = lst n []:=by
 apply Array.ext
 ·simp [lst]
 intro i h1 h2
 simp [lst]
theorem za9 (n k : Nat) (D : List Nat) : (lst n D).setIfInBounds k true = lst n (k :: D):=by
 apply Array.ext
 ·simp [lst]
 intro i h1 h2
 have hs : i < (lst n D).size:=by simpa using h1
 rw [Array.getElem_setIfInBounds hs]
 by_cases e : k = i
 ·subst e; simp [lst]
 rw [if_neg e]
 simp only [lst,List.getElem_toArray,List.getElem_map,List.getElem_range,List.contains_cons]
 rw [show (i == k) = false by simp; exact fun h => e h.symm,Bool.false_or]
def zcf (md : Region.Mode) (D : List Nat) (p : Oper) : Bool:=p.after.any fun e => Region.binds md e && !D.contains e.on
def nth : List Oper → Nat → List Oper → List Oper
 | [],_,r => r
 | o :: _,0,r => o :: r
 | _ :: l,n + 1,r => nth l n r
def pick (l : List Oper) : List Nat → List Oper
 | [] => []
 | i :: is => nth l i (pick l is)
def zaW (md : Region.Mode) (ops : Array Oper) : List Nat → List Nat → List Oper → Bool
 | _,[],_ => true
 | _,_ :: _,[] => false
 | D,i :: is,o :: rest => !D.contains i && !zcf md D o && (bif zar o then rest.all (fun p => p.after.any (fun e => Region.binds md e && e.on == i) || o.apart ops p) else rest.all (zcf md D)) && zaW md ops (i :: D) is rest
def zbZ (n : Nat) (plan : List Nat) : Bool:=(List.range n).all (fun i => plan.contains i) && plan.all (fun i => decide (i < n))
def zaF (P : Program) (ops : Array Oper) (Q : Exit → Act → World → Prop) : List Oper → Act → World → Prop
 | [],a,w => ∀ w1,Rb w w1 → Q .normal a w1
 | o :: rest,a,w =>
  if zar o = true then
   (if Region.wanted o (yielded ops a.tmps) then o.quiet P a (Rb w) (fun a' => zaF P ops Q rest a' w) else zaF P ops Q rest (a.put o.dst undef) w)
  else ∀ w1,Rb w w1 → (if Region.wanted o (yielded ops a.tmps) then o.wp P a w1 (fun a' w' => Rb w1 w' ∧ zaF P ops Q rest a' w') Q else zaF P ops Q rest (a.put o.dst undef) w1)
theorem zb9 : ∀ (l : List Oper) (i : Nat) (r : List Oper) {o : Oper},l[i]? = some o → nth l i r = o :: r
 | [],i,r,o,h => by simp at h
 | p :: l,0,r,o,h => by simp at h; subst h; rfl
 | p :: l,i + 1,r,o,h => by simp at h; exact zb9 l i r h
theorem zbL {l : List Oper} {j : Nat} {o : Oper} (hj : l[j]? = some o) : ∀ {is : List Nat},j ∈ is → (∀ i ∈ is,i < l.length) → o ∈ pick l is
 | [],h,_ => by cases h
 | i :: is,h,hb => by
  have hi : i < l.length:=hb i (List.mem_cons_self ..)
  obtain ⟨p,hp⟩ : ∃ p,l[i]? = some p:=⟨l[i],by simp [hi]⟩
  unfold pick
  rw [zb9 l i _ hp]
  rcases List.mem_cons.1 h with rfl | h
  ·rw [hj] at hp
   cases hp
   exact List.mem_cons_self ..
  exact List.mem_cons_of_mem _ (zbL hj h fun k hk => hb k (List.mem_cons_of_mem _ hk))
theorem zaV {D : List Nat} (hD : ∀ i ∈ D,i < ops.size) {j : Nat} : j ∈ Region.ready md ops (lst ops.size D) ↔ D.contains j = false ∧ ∃ o,ops[j]? = some o ∧ zcf md D o = false:=by
 rw [mem_ready,zaX]
 constructor
 ·rintro ⟨h1,o,ho,h2⟩
  have hj:=(Array.getElem?_eq_some_iff.1 ho).1
  rw [if_pos hj] at h1
  refine ⟨h1,o,ho,?_⟩
  unfold zcf
  rw [Array.any_eq_false']
  intro e he hc
  rw [Bool.and_eq_true] at hc
  have h3:=h2 e he hc.1
  rw [zaX] at h3
  split at h3
  ·rw [h3] at hc; cases hc.2
  cases h3
 rintro ⟨h1,o,ho,h2⟩
 have hj:=(Array.getElem?_eq_some_iff.1 ho).1
 rw [if_pos hj]
 refine ⟨h1,o,ho,fun e he hb => ?_⟩
 unfold zcf at h2
 rw [Array.any_eq_false'] at h2
 have h3:=h2 e he
 rw [hb,Bool.true_and,Bool.not_eq_true',Bool.not_eq_false] at h3
 rw [zaX,if_pos (hD _ (by simpa using h3))]
 exact h3
theorem zaZ (hsel : Region.noSelect ops = true) (hQ : ∀ d v c a w,Q (.panic c) (a.put d v) w → Q (.panic c) a w) : ∀ (plan D : List Nat) (a : Act) (w : World),
  (∀ i ∈ D,i < ops.size) → (∀ i ∈ plan,i < ops.size) → (∀ i,i < ops.size → i ∈ D ∨ i ∈ plan) → zaW md ops D plan (pick ops.toList plan) = true → zaF P ops Q (pick ops.toList plan) a w →
  anyR P md ops Q plan.length (lst ops.size D) a w
 | [],D,a,w,hD,_,hc,_,h => by
  refine ⟨List.eq_nil_iff_forall_not_mem.2 fun j hj => ?_,h⟩
  obtain ⟨h1,o,ho,_⟩:=(zaV hD).1 hj
  rcases hc j (Array.getElem?_eq_some_iff.1 ho).1 with h2 | h2
  ·rw [show D.contains j = true by simpa using h2] at h1; cases h1
  cases h2
 | k :: rest,D,a,w,hD,hp0,hc,hB,h => by
  have hlt : k < ops.size:=hp0 k (List.mem_cons_self ..)
  obtain ⟨o,h0⟩ : ∃ o,ops[k]? = some o:=⟨ops[k],by simp [hlt]⟩
  have h0' : ops.toList[k]? = some o:=by simpa using h0
  rw [show pick ops.toList (k :: rest) = o :: pick ops.toList rest from zb9 _ _ _ h0'] at hB h
  simp only [zaW,Bool.and_eq_true,Bool.not_eq_true'] at hB
  obtain ⟨⟨⟨hu,hw⟩,hf⟩,hB'⟩:=hB
  have hr : k ∈ Region.ready md ops (lst ops.size D):=(zaV hD).2 ⟨hu,o,h0,hw⟩
  have H1 : ∀ i ∈ rest,i < ops.size:=fun i hi => hp0 i (List.mem_cons_of_mem _ hi)
  have H3 : ∀ i ∈ k :: D,i < ops.size:=fun i hi => by
   rcases List.mem_cons.1 hi with rfl | hi
   ·exact hlt
   exact hD i hi
  have H2 : ∀ i,i < ops.size → i ∈ k :: D ∨ i ∈ rest:=fun i hi => by
   rcases hc i hi with h | h
   ·exact .inl (List.mem_cons_of_mem _ h)
   rcases List.mem_cons.1 h with rfl | h
   ·exact .inl (List.mem_cons_self ..)
   exact .inr h
  have H0 : ∀ j oj,ops[j]? = some oj → j ≠ k → D.contains j = false → oj ∈ pick ops.toList rest:=fun j oj hj hjk hjD => by
   rcases hc j (Array.getElem?_eq_some_iff.1 hj).1 with h | h
   ·rw [show D.contains j = true by simpa using h] at hjD; cases hjD
   rcases List.mem_cons.1 h with h | h
   ·exact absurd h hjk
   exact zbL (by simpa using hj) h (fun i hi => by simpa using H1 i hi)
  unfold zaF at h
  cases hp : zar o
  ·rw [hp,if_neg (by decide)] at h
   rw [hp,cond_false,List.all_eq_true] at hf
   intro w1 hw1
   refine ⟨fun h => absurd hr (by rw [h]; exact List.not_mem_nil),fun j hj => ?_⟩
   obtain ⟨g1,oj,g2,g3⟩:=(zaV hD).1 hj
   have e : j = k:=by
    refine Classical.byContradiction fun hne => ?_
    have:=hf oj (H0 j oj g2 hne g1)
    rw [this] at g3
    cases g3
   subst e
   have h1:=h w1 hw1
   unfold wpOp
   simp only [h0]
   split
   ·rename_i hwa
    rw [if_pos hwa] at h1
    refine .inl (Oper.wp_mono (fun a' w' ⟨k1,k2⟩ => ⟨k1,?_⟩) h1)
    rw [za9]
    exact zaZ hsel hQ rest (j :: D) a' w' H3 H1 H2 hB' k2
   rename_i hwa
   rw [if_neg hwa] at h1
   refine ⟨Rb.refl w1,?_⟩
   rw [za9]
   exact zaZ hsel hQ rest (j :: D) _ w1 H3 H1 H2 hB' h1
  rw [hp,if_pos rfl] at h
  rw [hp,cond_true,List.all_eq_true] at hf
  have key : ∃ v,YieldsIf P ops (Rb w) o v a ∧ zaF P ops Q (pick ops.toList rest) (a.put o.dst v) w:=by
   split at h
   ·rename_i hwa
    obtain ⟨v,h1,h2⟩:=h
    refine ⟨v,.inl ⟨hwa,fun w1 hw1 => ?_⟩,h2⟩
    have h3:=h1 w1 hw1
    unfold Oper.quietAt at h3
    generalize hr : (execOp a.eval o).run P w1 = r at h3
    rcases r with ⟨n,w2⟩ | ⟨x,w2⟩
    ·obtain ⟨u,rfl⟩:=zbw hp hr
     obtain ⟨rfl,rfl⟩:=h3
     rfl
    exact h3.elim
   rename_i hwa
   exact ⟨undef,.inr ⟨by simpa using hwa,rfl⟩,h⟩
  obtain ⟨v,hy,hK⟩:=key
  refine zce h0 (Region.noSelect_spec hsel) hQ rest.length _ a w (fun j oj hj hjk hun hno => ?_) hr hy ?_
  ·rw [zaX,if_pos (Array.getElem?_eq_some_iff.1 hj).1] at hun
   have h1:=hf oj (H0 j oj hj hjk hun)
   rw [Bool.or_eq_true] at h1
   rcases h1 with h1 | h1
   ·obtain ⟨e,he,hb⟩:=Array.any_eq_true'.1 h1
    simp only [Bool.and_eq_true,beq_iff_eq] at hb
    exact absurd hb.2 (hno e he hb.1)
   exact h1
  rw [za9]
  exact zaZ hsel hQ rest (k :: D) _ w H3 H1 H2 hB' hK
theorem region_plan {id : Nat} {a : Act} {w : World} {l : List Oper} (plan : List Nat) (hm : P.follows .mixedOrders = true) (hsel : Region.noSelect l.toArray = true) (hn : l.length = plan.length) (hA : zbZ l.length plan = true)
  (hB : zaW .any l.toArray [] plan (pick l plan) = true)
  (h : zaF P l.toArray (NoPanic Q) (pick l plan) a w.drew) : (Code.region id l.toArray true).wp P Q a w:=by
 refine wp_region_noPanic (wp_region_any hm (zbc _ _ _ _ ?_))
 rw [zdC]
 unfold zbZ at hA
 rw [Bool.and_eq_true,List.all_eq_true,List.all_eq_true] at hA
 have:=zaZ (md:=.any) (P:=P) (ops:=l.toArray) (Q:=NoPanic Q) hsel (fun _ _ _ _ _ h => h) plan [] a w.drew (fun i hi => by cases hi) (fun i hi => by simpa using hA.2 i hi)
  (fun i hi => .inr (by simpa using hA.1 i (by simpa using hi))) hB h
 simpa [hn] using this
theorem lex_plain : ∀ (n : Nat) {l : List Oper} {a : Act} {w : World},(l.take n).all zar = true → wpQuiet P ops (fun w1 => ∃ s : Wd w,w1 = s.w) (fun a' => zaF P ops Q (l.drop n) a' w) (l.take n) a → zaF P ops Q l a w
 | 0,_,_,_,_,h => by simpa [wpQuiet] using h
 | n + 1,[],_,_,_,h => by simpa [wpQuiet] using h
 | n + 1,o :: l,a,w,hp,h => by
  simp only [List.take_succ_cons,List.all_cons,Bool.and_eq_true] at hp
  simp only [List.take_succ_cons,List.drop_succ_cons,wpQuiet] at h
  unfold zaF
  rw [if_pos hp.1]
  split
  ·rename_i hw
   rw [if_pos hw] at h
   exact Oper.quiet_mono (fun a' h' => lex_plain n hp.2 h') h
  rename_i hw
  rw [if_neg hw] at h
  exact lex_plain n hp.2 h
theorem lex_call {o : Oper} {l : List Oper} {a : Act} {w : World} (hp : zar o = false) (hw : Region.wanted o (yielded ops a.tmps) = true)
  (h : ∀ w1,Below w.heap.size w w1 → ∀ K : Act → World → Prop,(∀ a' w',Below w1.heap.size w1 w' → zaF P ops Q l a' w' → K a' w') → o.wp P a w1 K Q) : zaF P ops Q (o :: l) a w:=by
 unfold zaF
 rw [hp,if_neg (by decide)]
 intro w1 hw1
 rw [if_pos hw]
 exact h w1 hw1.bel _ fun a' w' k1 k2 => ⟨Rb.of k1,k2⟩
theorem lex_skip {o : Oper} {l : List Oper} {a : Act} {w : World} (hp : zar o = false) (hw : Region.wanted o (yielded ops a.tmps) = false) (h : ∀ w1,Below w.heap.size w w1 → zaF P ops Q l (a.put o.dst undef) w1) : zaF P ops Q (o :: l) a w:=by
 unfold zaF
 rw [hp,if_neg (by decide)]
 intro w1 hw1
 rw [hw,if_neg (by decide)]
 exact h w1 hw1.bel
theorem lex_nil {a : Act} {w : World} (h : ∀ w1,Below w.heap.size w w1 → Q .normal a w1) : zaF P ops Q [] a w:=fun w1 k => h w1 k.bel
end
end Go.Proofs.Ytcehklnonhalhaa
