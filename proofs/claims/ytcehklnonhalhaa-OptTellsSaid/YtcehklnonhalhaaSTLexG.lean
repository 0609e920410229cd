/-
  What the proofs of OptTells need: LexG LexH.
-/
import Derived.Deep.Quiet
import Derived.OrdersHeld
import Derived.Below
import Derived.BigQuiet
import Derived.Deep.RegionHeld3
import Derived.Test.YtcehklnonhalhaaSTHa
set_option linter.unusedVariables false
namespace Go.Proofs.Ytcehklnonhalhaa.LexG
open Go Go.RowKit
structure RelOk (R : World → World → Prop) : Prop where
  refl : ∀ w,R w w
  trans : ∀ a b c,R a b → R b c → R a c
theorem any_ok : RelOk (fun _ _ => True):=⟨fun _ => trivial,fun _ _ _ _ _ => trivial⟩
theorem below_ok : RelOk (fun w w' => Below w.heap.size w w'):=⟨fun w => Below.refl _ _,fun a b c h k => h.trans (k.mono h.size)⟩
theorem low_ok (B : Nat) : RelOk (fun w w' => Below B w w'):=⟨fun w => Below.refl _ _,fun a b c h k => h.trans k⟩
theorem grown_ok (sx : Nat) : RelOk (fun w w' => w.grownBy w' (some sx)):=⟨fun w => Gb.refl _ _,fun a b c h k => Gb.trans h k⟩
structure Wd (R : World → World → Prop) (w0 : World) where
  w : World
  rel : R w0 w
instance (w0 : World) : Nonempty (Wd (fun w w' : World => Below w.heap.size w w') w0):=⟨⟨w0,Below.refl _ _⟩⟩
instance (B : Nat) (w0 : World) : Nonempty (Wd (fun w w' : World => Below B w w') w0):=⟨⟨w0,Below.refl _ _⟩⟩
instance (w0 : World) : Nonempty (Wd (fun _ _ : World => True) w0):=⟨⟨w0,trivial⟩⟩
instance (sx : Nat) (w0 : World) : Nonempty (Wd (fun w w' : World => w.grownBy w' (some sx)) w0):=⟨⟨w0,Gb.refl _ _⟩⟩
def Here (a b : World) : Prop:=b = a
instance (w0 : World) : Nonempty (Wd Here w0):=⟨⟨w0,rfl⟩⟩
theorem here {P : World → Prop} {w : World} (h : P w) (s : Wd Here w) : P s.w:=by
 have e : s.w = w:=s.rel
 rw [e]
 exact h
def Cl (R : World → World → Prop) (c : Bool) (w0 w : World) : Prop:=if c then w = w0 else R w0 w
section
variable {R : World → World → Prop} {P : Program} {ops : Array Oper} {md : Region.Mode} {Q : Exit → Act → World → Prop}
theorem zdz {Y : Act → Prop} {j : Nat} {oj : Oper} {d : Option Nat} {v : Value} (hj : ops[j]? = some oj) (hs : ∀ cs b,oj.op ≠ .select cs b)
  (h1 : ∀ e,d = some e → e ∉ oj.looksAt ops) (h2 : ∀ e,d = some e → oj.dst ≠ some e)
  (keep : ∀ (a : Act),Y a → ∀ u,Y (a.put oj.dst u)) (keepD : ∀ (a : Act),Y a → ∀ x,Y { a with defers:=x :: a.defers })
  (hQ : ∀ c a w,Q (.panic c) (a.put d v) w → Q (.panic c) a w) {K : Act → World → Prop} {a : Act} {w : World} (hy : Y a)
  (h : wpOp P ops Q j K (a.put d v) w) : wpOp P ops Q j (fun a' w' => Y a' ∧ K (a'.put d v) w') a w:=by
 have H0 : ∀ (b : Act) u,Y b → K ((b.put d v).put oj.dst u) = K ((b.put oj.dst u).put d v):=fun b u _ => by rw [Act.put_comm b v u h2]
 unfold wpOp at h ⊢
 simp only [hj] at h ⊢
 rw [wanted_put oj a d v h1] at h
 cases hw : Region.wanted oj (yielded ops a.tmps)
 ·rw [hw,if_neg (by decide)] at h
  rw [if_neg (by decide)]
  exact ⟨keep a hy _,by rw [← H0 a _ hy]; exact h⟩
 rw [hw,if_pos rfl] at h
 rw [if_pos rfl]
 rcases h with h | ⟨h,hl⟩
 ·left
  unfold Oper.wp at h ⊢
  rw [execOp_put oj hs a d v h1] at h
  generalize (execOp a.eval oj).run P w = r at h ⊢
  rcases r with ⟨n,w'⟩ | ⟨x,w'⟩
  ·cases n <;> simp only [Oper.upon] at h ⊢
   case value u => exact ⟨keep a hy u,by rw [← H0 a u hy]; exact h⟩
   case skip => exact ⟨keep a hy _,by rw [← H0 a _ hy]; exact h⟩
   case defer x =>
    refine ⟨keep _ (keepD a hy x) _,?_⟩
    rw [← H0 _ _ (keepD a hy x),← Act.put_defers]
    exact h
   case enter f args =>
    refine Calls.mono h fun e w'' he => ?_
    rcases e with u | c | _
    ·exact ⟨keep a hy u,by rw [← H0 a u hy]; exact he⟩
    ·exact hQ _ _ _ he
    exact he
   case row row args => exact Rows.mono h fun u w'' he => ⟨keep a hy u,by rw [← H0 a u hy]; exact he⟩
  cases x <;> simp only [Oper.upon] at h ⊢
  case panic u => exact hQ _ _ _ h
 right
 refine ⟨?_,hl⟩
 unfold Oper.asks at h ⊢
 rw [execOp_put oj hs a d v h1] at h
 exact h
def zar (o : Oper) : Bool:=match o.op with
 | .move _ | .assign _ | .pick .. | .build .. | .load .. | .binOp .. | .unOp .. | .convert .. | .fieldAddr .. | .field .. | .indexAddr .. | .index .. | .extract .. | .nilCheck .. => true
 | .call c => (match c.callee with | .builtin .len => true | _ => false)
 | _ => false
theorem zbN {s : Sem Value} {w w' : World} {n : Next} (h : (do pure (Next.value (← s)) : Sem Next).run P w = .ok n w') : ∃ u,n = .value u:=by
 rw [Sem.run_bind] at h
 generalize s.run P w = r at h
 rcases r with ⟨u,w2⟩ | ⟨x,w2⟩
 ·simp only [Result.andThen_ok,Sem.run_pure] at h
  cases h
  exact ⟨u,rfl⟩
 cases h
theorem zbw {ρ : Operand → Value} {o : Oper} {w w' : World} {n : Next} (hp : zar o = true) (h : (execOp ρ o).run P w = .ok n w') : ∃ u,n = .value u:=by
 unfold zar at hp
 unfold execOp at h
 split at hp
 all_goals first | cases hp | skip
 all_goals (rename_i e; rw [e] at h; first | exact zbN h | skip)
 ·simp only [Sem.run_pure] at h; cases h; exact ⟨_,rfl⟩
 ·simp only [Sem.run_pure] at h; cases h; exact ⟨_,rfl⟩
 ·rename_i c x y
  rw [Sem.run_bind] at h
  generalize (asBool (ρ c)).run P w = r at h
  rcases r with ⟨u,w2⟩ | ⟨x,w2⟩
  ·simp only [Result.andThen_ok,Sem.run_pure] at h; cases h; exact ⟨_,rfl⟩
  cases h
 ·dsimp only at h
  split at h
  ·cases h
  ·cases h
  ·cases h
  ·split at h
   ·cases h
   ·rw [Sem.run_bind] at h
    generalize Sem.run P _ w = r at h
    rcases r with ⟨u,w2⟩ | ⟨x,w2⟩
    ·simp only [Result.andThen_ok] at h
     rw [Sem.run_bind] at h
     generalize Sem.run P _ w2 = r at h
     rcases r with ⟨u,w3⟩ | ⟨x,w3⟩
     ·simp only [Result.andThen_ok] at h
      split at h
      ·cases h
      cases h; exact ⟨_,rfl⟩
     cases h
    cases h
   cases h; exact ⟨_,rfl⟩
  cases h; exact ⟨_,rfl⟩
 rename_i c
 split at hp
 ·rename_i hc
  dsimp only at h
  unfold resolve at h
  rw [hc] at h
  simp only [Sem.run_bind,Sem.run_pure,Result.andThen_ok] at h
  exact zbN h
 cases hp
def Stp (R : World → World → Prop) (ops : Array Oper) (i : Nat) (w w' : World) : Prop:=R w w' ∧ ∀ o,ops[i]? = some o → zar o = true → w' = w
def anyR (R : World → World → Prop) (P : Program) (md : Region.Mode) (ops : Array Oper) (Q : Exit → Act → World → Prop) : Nat → Array Bool → Act → World → Prop
 | 0,listed,a,w => Region.ready md ops listed = [] ∧ Q .normal a w
 | n + 1,listed,a,w => (Region.ready md ops listed = [] → Q .normal a w) ∧
   ∀ i ∈ Region.ready md ops listed,wpOp P ops Q i (fun a' w' => Stp R ops i w w' ∧ anyR R P md ops Q n (listed.setIfInBounds i true) a' w') a w
theorem zbc : ∀ (n : Nat) (listed : Array Bool) (a : Act) (w : World),anyR R P md ops Q n listed a w → wpAny P md ops Q n listed a w
 | 0,_,_,_,h => h
 | n + 1,_,_,w,h => ⟨h.1,fun i hi => wpOp_mono (fun a' w' h' => zbc n _ a' w' h'.2) (h.2 i hi)⟩
theorem zcv {c : Bool} {w w' : World} {o : Oper} {v : Value} {a : Act} (hR : RelOk R) (h : YieldsIf P ops (Cl R c w) o v a) (k : R w w') (hw : c = true → w' = w) : YieldsIf P ops (Cl R c w') o v a:=by
 cases c with
 | true => rw [hw rfl]; exact h
 | false => exact h.imp (fun ⟨h1,h2⟩ => ⟨h1,fun w1 k1 => h2 w1 (hR.trans _ _ _ k k1)⟩) id
theorem Stp.refl (hR : RelOk R) (i : Nat) (w : World) : Stp R ops i w w:=⟨hR.refl w,fun _ _ _ => rfl⟩
theorem cl_self (hR : RelOk R) (c : Bool) (w : World) : Cl R c w w:=by
 cases c with
 | true => rfl
 | false => exact hR.refl w
theorem zce {c : Bool} (hR : RelOk R) {i : Nat} {oi : Oper} {v : Value} (hi : ops[i]? = some oi) (hsel : ∀ (j : Nat) (o : Oper) cs b,ops[j]? = some o → o.op ≠ .select cs b)
  (hQ : ∀ d v c a w,Q (.panic c) (a.put d v) w → Q (.panic c) a w) : ∀ (n : Nat) (listed : Array Bool) (a : Act) (w : World),
   (∀ j oj,ops[j]? = some oj → j ≠ i → listed.getD j true = false → (∀ e ∈ oj.after,Region.binds md e = true → e.on ≠ i) → oi.apart ops oj = true) →
   (c = true → ∀ j oj,ops[j]? = some oj → j ≠ i → listed.getD j true = false → (∀ e ∈ oj.after,Region.binds md e = true → e.on ≠ i) → zar oj = true) →
   i ∈ Region.ready md ops listed → YieldsIf P ops (Cl R c w) oi v a →
   anyR R P md ops Q n (listed.setIfInBounds i true) (a.put oi.dst v) w → anyR R P md ops Q (n + 1) listed a w:=by
 intro n
 induction n with
 | zero =>
  intro listed a w hfree hpl hr hy H
  refine ⟨fun h => absurd hr (by rw [h]; exact List.not_mem_nil),fun j hj => ?_⟩
  by_cases e : j = i
  ·subst e
   exact hy.wpOp hi (cl_self hR c w) ⟨Stp.refl hR _ w,H⟩
  have:=ready_mono hj e
  rw [H.1] at this
  cases this
 | succ n ih =>
  intro listed a w hfree hpl hr hy H
  refine ⟨fun h => absurd hr (by rw [h]; exact List.not_mem_nil),fun j hj => ?_⟩
  by_cases e : j = i
  ·subst e
   exact hy.wpOp hi (cl_self hR c w) ⟨Stp.refl hR _ w,H⟩
  have h1:=H.2 j (ready_mono hj e)
  obtain ⟨hjun,oj,hoj,hall⟩:=mem_ready.1 hj
  have H1:=(mem_ready.1 hr).1
  have H0 : ∀ x ∈ oj.after,Region.binds md x = true → x.on ≠ i:=fun x hx hb hxi => by
   have h2:=hall x hx hb
   rw [hxi] at h2
   by_cases hlt : i < listed.size
   ·simp [hlt] at H1 h2; rw [H1] at h2; cases h2
   simp [Array.getElem?_eq_none (Nat.le_of_not_lt hlt)] at h2
  obtain ⟨g1,g2,g3⟩:=Oper.apart_spec (hfree j oj hoj e hjun H0)
  have h2:=zdz (Y:=YieldsIf P ops (Cl R c w) oi v) hoj (fun cs b => hsel j oj cs b hoj) g1 g2
   (fun b hb u => hb.of_same (execOp_put oi (fun cs b => hsel i oi cs b hi) b oj.dst u g3) (wanted_put oi b oj.dst u g3)) (fun b hb x => hb.of_same rfl rfl) (hQ oi.dst v) hy h1
  refine wpOp_mono (fun a' w' ⟨y,k,h3⟩ => ⟨k,ih (listed.setIfInBounds j true) a' w' (fun l ol hl hli hun hno => ?_) (fun hc l ol hl hli hun hno => ?_) (ready_mono hr (Ne.symm e)) (zcv hR y k.1 fun hc => k.2 oj hoj (hpl hc j oj hoj e hjun H0)) ?_⟩) h2
  ·refine hfree l ol hl hli ?_ hno
   by_cases hjl : j = l
   ·subst hjl; exact hjun
   rw [Go.getD_set_ne true hjl] at hun; exact hun
  ·refine hpl hc l ol hl hli ?_ hno
   by_cases hjl : j = l
   ·subst hjl; exact hjun
   rw [Go.getD_set_ne true hjl] at hun; exact hun
  rw [Array.setIfInBounds_comm _ _ e]
  exact h3
def lst (n : Nat) (D : List Nat) : Array Bool:=((List.range n).map fun i => D.contains i).toArray
theorem zaX (n : Nat) (D : List Nat) (j : Nat) (d : Bool) : (lst n D).getD j d = if j < n then D.contains j else d:=by
 unfold lst
 by_cases h : j < n
 ·rw [if_pos h]; simp [h]
 rw [if_neg h]; simp [Nat.le_of_not_lt h]
theorem zdC (n : Nat) : Array.replicate n false = lst n []:=by
 apply Array.ext
 ·simp [lst]
 intro i h1 h2
 simp [lst]
theorem za9 (n k : Nat) (D : List Nat) : (lst n D).setIfInBounds k true = lst n (k :: D):=by
 apply Array.ext
 ·simp [lst]
 intro i h1 h2
 have hs : i < (lst n D).size:=by simpa using h1
 rw [Array.getElem_setIfInBounds hs]
 by_cases e : k = i
 ·subst e; simp [lst]
 rw [if_neg e]
 simp only [lst,List.getElem_toArray,List.getElem_map,List.getElem_range,List.contains_cons]
 rw [show (i == k) = false by simp; exact fun h => e h.symm,Bool.false_or]
def zcf (md : Region.Mode) (D : List Nat) (p : Oper) : Bool:=p.after.any fun e => Region.binds md e && !D.contains e.on
def nth : List Oper → Nat → List Oper → List Oper
 | [],_,r => r
 | o :: _,0,r => o :: r
 | _ :: l,n + 1,r => nth l n r
def pick (l : List Oper) : List Nat → List Oper
 | [] => []
 | i :: is => nth l i (pick l is)
def zaW (md : Region.Mode) (ops : Array Oper) : List Nat → Nat → List Nat → List Oper → Bool
 | _,_,[],_ => true
 | _,_,_ :: _,[] => false
 | D,m,i :: is,o :: rest => !D.contains i && !zcf md D o && (bif zar o then rest.all (fun p => p.after.any (fun e => Region.binds md e && e.on == i) || o.apart ops p) else rest.all (zcf md D)) && (m == 0 || !zar o || rest.all (fun p => zar p || p.after.any (fun e => Region.binds md e && e.on == i))) && zaW md ops (i :: D) (m - 1) is rest
def zbZ (n : Nat) (plan : List Nat) : Bool:=(List.range n).all (fun i => plan.contains i) && plan.all (fun i => decide (i < n))
def zaF (R : World → World → Prop) (P : Program) (ops : Array Oper) (Q : Exit → Act → World → Prop) : Nat → List Oper → Act → World → Prop
 | _,[],a,w => Q .normal a w
 | m,o :: rest,a,w =>
  if zar o = true then
   (if Region.wanted o (yielded ops a.tmps) then o.quiet P a (Cl R (m != 0) w) (fun a' => zaF R P ops Q (m - 1) rest a' w) else zaF R P ops Q (m - 1) rest (a.put o.dst undef) w)
  else (if Region.wanted o (yielded ops a.tmps) then o.wp P a w (fun a' w' => R w w' ∧ zaF R P ops Q (m - 1) rest a' w') Q else zaF R P ops Q (m - 1) rest (a.put o.dst undef) w)
theorem zb9 : ∀ (l : List Oper) (i : Nat) (r : List Oper) {o : Oper},l[i]? = some o → nth l i r = o :: r
 | [],i,r,o,h => by simp at h
 | p :: l,0,r,o,h => by simp at h; subst h; rfl
 | p :: l,i + 1,r,o,h => by simp at h; exact zb9 l i r h
theorem zbL {l : List Oper} {j : Nat} {o : Oper} (hj : l[j]? = some o) : ∀ {is : List Nat},j ∈ is → (∀ i ∈ is,i < l.length) → o ∈ pick l is
 | [],h,_ => by cases h
 | i :: is,h,hb => by
  have hi : i < l.length:=hb i (List.mem_cons_self ..)
  obtain ⟨p,hp⟩ : ∃ p,l[i]? = some p:=⟨l[i],by simp [hi]⟩
  unfold pick
  rw [zb9 l i _ hp]
  rcases List.mem_cons.1 h with rfl | h
  ·rw [hj] at hp
   cases hp
   exact List.mem_cons_self ..
  exact List.mem_cons_of_mem _ (zbL hj h fun k hk => hb k (List.mem_cons_of_mem _ hk))
theorem zaV {D : List Nat} (hD : ∀ i ∈ D,i < ops.size) {j : Nat} : j ∈ Region.ready md ops (lst ops.size D) ↔ D.contains j = false ∧ ∃ o,ops[j]? = some o ∧ zcf md D o = false:=by
 rw [mem_ready,zaX]
 constructor
 ·rintro ⟨h1,o,ho,h2⟩
  have hj:=(Array.getElem?_eq_some_iff.1 ho).1
  rw [if_pos hj] at h1
  refine ⟨h1,o,ho,?_⟩
  unfold zcf
  rw [Array.any_eq_false']
  intro e he hc
  rw [Bool.and_eq_true] at hc
  have h3:=h2 e he hc.1
  rw [zaX] at h3
  split at h3
  ·rw [h3] at hc; cases hc.2
  cases h3
 rintro ⟨h1,o,ho,h2⟩
 have hj:=(Array.getElem?_eq_some_iff.1 ho).1
 rw [if_pos hj]
 refine ⟨h1,o,ho,fun e he hb => ?_⟩
 unfold zcf at h2
 rw [Array.any_eq_false'] at h2
 have h3:=h2 e he
 rw [hb,Bool.true_and,Bool.not_eq_true',Bool.not_eq_false] at h3
 rw [zaX,if_pos (hD _ (by simpa using h3))]
 exact h3
theorem zaZ (hR : RelOk R) (hsel : Region.noSelect ops = true) (hQ : ∀ d v c a w,Q (.panic c) (a.put d v) w → Q (.panic c) a w) : ∀ (m : Nat) (plan D : List Nat) (a : Act) (w : World),
  (∀ i ∈ D,i < ops.size) → (∀ i ∈ plan,i < ops.size) → (∀ i,i < ops.size → i ∈ D ∨ i ∈ plan) → zaW md ops D m plan (pick ops.toList plan) = true → zaF R P ops Q m (pick ops.toList plan) a w →
  anyR R P md ops Q plan.length (lst ops.size D) a w
 | m,[],D,a,w,hD,_,hc,_,h => by
  refine ⟨List.eq_nil_iff_forall_not_mem.2 fun j hj => ?_,h⟩
  obtain ⟨h1,o,ho,_⟩:=(zaV hD).1 hj
  rcases hc j (Array.getElem?_eq_some_iff.1 ho).1 with h2 | h2
  ·rw [show D.contains j = true by simpa using h2] at h1; cases h1
  cases h2
 | m,k :: rest,D,a,w,hD,hp0,hc,hB,h => by
  have hlt : k < ops.size:=hp0 k (List.mem_cons_self ..)
  obtain ⟨o,h0⟩ : ∃ o,ops[k]? = some o:=⟨ops[k],by simp [hlt]⟩
  have h0' : ops.toList[k]? = some o:=by simpa using h0
  rw [show pick ops.toList (k :: rest) = o :: pick ops.toList rest from zb9 _ _ _ h0'] at hB h
  simp only [zaW,Bool.and_eq_true,Bool.not_eq_true'] at hB
  obtain ⟨⟨⟨⟨hu,hw⟩,hf⟩,hm⟩,hB'⟩:=hB
  have hr : k ∈ Region.ready md ops (lst ops.size D):=(zaV hD).2 ⟨hu,o,h0,hw⟩
  have H1 : ∀ i ∈ rest,i < ops.size:=fun i hi => hp0 i (List.mem_cons_of_mem _ hi)
  have H3 : ∀ i ∈ k :: D,i < ops.size:=fun i hi => by
   rcases List.mem_cons.1 hi with rfl | hi
   ·exact hlt
   exact hD i hi
  have H2 : ∀ i,i < ops.size → i ∈ k :: D ∨ i ∈ rest:=fun i hi => by
   rcases hc i hi with h | h
   ·exact .inl (List.mem_cons_of_mem _ h)
   rcases List.mem_cons.1 h with rfl | h
   ·exact .inl (List.mem_cons_self ..)
   exact .inr h
  have H0 : ∀ j oj,ops[j]? = some oj → j ≠ k → D.contains j = false → oj ∈ pick ops.toList rest:=fun j oj hj hjk hjD => by
   rcases hc j (Array.getElem?_eq_some_iff.1 hj).1 with h | h
   ·rw [show D.contains j = true by simpa using h] at hjD; cases hjD
   rcases List.mem_cons.1 h with h | h
   ·exact absurd h hjk
   exact zbL (by simpa using hj) h (fun i hi => by simpa using H1 i hi)
  unfold zaF at h
  cases hp : zar o
  ·rw [hp,if_neg (by decide)] at h
   rw [hp,cond_false,List.all_eq_true] at hf
   refine ⟨fun h => absurd hr (by rw [h]; exact List.not_mem_nil),fun j hj => ?_⟩
   obtain ⟨g1,oj,g2,g3⟩:=(zaV hD).1 hj
   have e : j = k:=by
    refine Classical.byContradiction fun hne => ?_
    have:=hf oj (H0 j oj g2 hne g1)
    rw [this] at g3
    cases g3
   subst e
   have h1:=h
   unfold wpOp
   simp only [h0]
   split
   ·rename_i hwa
    rw [if_pos hwa] at h1
    refine .inl (Oper.wp_mono (fun a' w' ⟨k1,k2⟩ => ⟨⟨k1,fun o' ho' hp' => by rw [g2] at h0; rw [h0] at g2; rw [g2] at ho'; cases ho'; rw [hp] at hp'; cases hp'⟩,?_⟩) h1)
    rw [za9]
    exact zaZ hR hsel hQ (m - 1) rest (j :: D) a' w' H3 H1 H2 hB' k2
   rename_i hwa
   rw [if_neg hwa] at h1
   refine ⟨Stp.refl hR _ w,?_⟩
   rw [za9]
   exact zaZ hR hsel hQ (m - 1) rest (j :: D) _ w H3 H1 H2 hB' h1
  rw [hp,if_pos rfl] at h
  rw [hp,cond_true,List.all_eq_true] at hf
  have key : ∃ v,YieldsIf P ops (Cl R (m != 0) w) o v a ∧ zaF R P ops Q (m - 1) (pick ops.toList rest) (a.put o.dst v) w:=by
   split at h
   ·rename_i hwa
    obtain ⟨v,h1,h2⟩:=h
    refine ⟨v,.inl ⟨hwa,fun w1 hw1 => ?_⟩,h2⟩
    have h3:=h1 w1 hw1
    unfold Oper.quietAt at h3
    generalize hr : (execOp a.eval o).run P w1 = r at h3
    rcases r with ⟨n,w2⟩ | ⟨x,w2⟩
    ·obtain ⟨u,rfl⟩:=zbw hp hr
     obtain ⟨rfl,rfl⟩:=h3
     rfl
    exact h3.elim
   rename_i hwa
   exact ⟨undef,.inr ⟨by simpa using hwa,rfl⟩,h⟩
  obtain ⟨v,hy,hK⟩:=key
  refine zce (c:=m != 0) hR h0 (Region.noSelect_spec hsel) hQ rest.length _ a w (fun j oj hj hjk hun hno => ?_) (fun hcm j oj hj hjk hun hno => ?_) hr hy ?_
  ·rw [zaX,if_pos (Array.getElem?_eq_some_iff.1 hj).1] at hun
   have h1:=hf oj (H0 j oj hj hjk hun)
   rw [Bool.or_eq_true] at h1
   rcases h1 with h1 | h1
   ·obtain ⟨e,he,hb⟩:=Array.any_eq_true'.1 h1
    simp only [Bool.and_eq_true,beq_iff_eq] at hb
    exact absurd hb.2 (hno e he hb.1)
   exact h1
  ·rw [zaX,if_pos (Array.getElem?_eq_some_iff.1 hj).1] at hun
   have hm0 : (m == 0) = false:=by simpa using hcm
   rw [hm0,hp,Bool.false_or,Bool.not_true,Bool.false_or,List.all_eq_true] at hm
   have h1:=hm oj (H0 j oj hj hjk hun)
   rw [Bool.or_eq_true] at h1
   rcases h1 with h1 | h1
   ·exact h1
   obtain ⟨e,he,hb⟩:=Array.any_eq_true'.1 h1
   simp only [Bool.and_eq_true,beq_iff_eq] at hb
   exact absurd hb.2 (hno e he hb.1)
  rw [za9]
  exact zaZ hR hsel hQ (m - 1) rest (k :: D) _ w H3 H1 H2 hB' hK
theorem region_plan {id : Nat} {a : Act} {w : World} {l : List Oper} (hR : RelOk R) (m : Nat) (plan : List Nat) (hm : P.follows .mixedOrders = true:=by kernel_rfl) (hsel : Region.noSelect l.toArray = true:=by kernel_rfl) (hn : l.length = plan.length:=by kernel_rfl) (hA : zbZ l.length plan = true:=by kernel_rfl)
  (hB : zaW .any l.toArray [] m plan (pick l plan) = true:=by kernel_rfl)
  (h : zaF R P l.toArray (NoPanic Q) m (pick l plan) a w.drew) : (Code.region id l.toArray true).wp P Q a w:=by
 refine wp_region_noPanic (wp_region_any hm (zbc (R:=R) _ _ _ _ ?_))
 rw [zdC]
 unfold zbZ at hA
 rw [Bool.and_eq_true,List.all_eq_true,List.all_eq_true] at hA
 have:=zaZ (R:=R) (md:=.any) (P:=P) (ops:=l.toArray) (Q:=NoPanic Q) hR hsel (fun _ _ _ _ _ h => h) m plan [] a w.drew (fun i hi => by cases hi) (fun i hi => by simpa using hA.2 i hi)
  (fun i hi => .inr (by simpa using hA.1 i (by simpa using hi))) hB h
 simpa [hn] using this
theorem lex_here : ∀ (n m : Nat) {l : List Oper} {a : Act} {w : World},n ≤ m → (l.take n).all zar = true → wpQuiet P ops (fun w1 => ∃ s : Wd Here w,w1 = s.w) (fun a' => zaF R P ops Q (m - n) (l.drop n) a' w) (l.take n) a → zaF R P ops Q m l a w
 | 0,_,_,_,_,_,_,h => by simpa [wpQuiet] using h
 | n + 1,_,[],_,_,_,_,h => by simpa [wpQuiet,zaF] using h
 | n + 1,m,o :: l,a,w,hm,hp,h => by
  simp only [List.take_succ_cons,List.all_cons,Bool.and_eq_true] at hp
  simp only [List.take_succ_cons,List.drop_succ_cons,wpQuiet] at h
  have e1 : m - (n + 1) = m - 1 - n:=by omega
  have e2 : (m != 0) = true:=by simp; omega
  rw [e1] at h
  unfold zaF
  have e3 : Cl R true w = (fun w1 => ∃ s : Wd Here w,w1 = s.w):=by
   funext w1
   exact propext ⟨fun h => ⟨⟨w1,h⟩,rfl⟩,fun ⟨s,e⟩ => by rw [e]; exact s.rel⟩
  rw [if_pos hp.1,e2,e3]
  split
  ·rename_i hw
   rw [if_pos hw] at h
   exact Oper.quiet_mono (fun a' h' => lex_here n (m - 1) (by omega) hp.2 h') h
  rename_i hw
  rw [if_neg hw] at h
  exact lex_here n (m - 1) (by omega) hp.2 h
theorem lex_plain : ∀ (n : Nat) {l : List Oper} {a : Act} {w : World},(l.take n).all zar = true → wpQuiet P ops (fun w1 => ∃ s : Wd R w,w1 = s.w) (fun a' => zaF R P ops Q 0 (l.drop n) a' w) (l.take n) a → zaF R P ops Q 0 l a w
 | 0,_,_,_,_,h => by simpa [wpQuiet] using h
 | n + 1,[],_,_,_,h => by simpa [wpQuiet,zaF] using h
 | n + 1,o :: l,a,w,hp,h => by
  simp only [List.take_succ_cons,List.all_cons,Bool.and_eq_true] at hp
  simp only [List.take_succ_cons,List.drop_succ_cons,wpQuiet] at h
  unfold zaF
  rw [if_pos hp.1]
  have e : Cl R (0 != 0) w = (fun w1 => ∃ s : Wd R w,w1 = s.w):=by
   funext w1
   refine propext ⟨fun h => ⟨⟨w1,h⟩,rfl⟩,fun ⟨s,e⟩ => by rw [e]; exact s.rel⟩
  rw [e]
  split
  ·rename_i hw
   rw [if_pos hw] at h
   exact Oper.quiet_mono (fun a' h' => lex_plain n hp.2 h') h
  rename_i hw
  rw [if_neg hw] at h
  exact lex_plain n hp.2 h
theorem lex_call {m : Nat} {o : Oper} {l : List Oper} {a : Act} {w : World} (hp : zar o = false:=by kernel_rfl) (hw : Region.wanted o (yielded ops a.tmps) = true:=by kernel_rfl)
  (h : ∀ K : Act → World → Prop,(∀ a' w',R w w' → zaF R P ops Q (m - 1) l a' w' → K a' w') → o.wp P a w K Q) : zaF R P ops Q m (o :: l) a w:=by
 unfold zaF
 rw [hp,if_neg (by decide),if_pos hw]
 exact h _ fun a' w' k1 k2 => ⟨k1,k2⟩
theorem lex_skip {m : Nat} {o : Oper} {l : List Oper} {a : Act} {w : World} (hp : zar o = false) (hw : Region.wanted o (yielded ops a.tmps) = false) (h : zaF R P ops Q (m - 1) l (a.put o.dst undef) w) : zaF R P ops Q m (o :: l) a w:=by
 unfold zaF
 rw [hp,if_neg (by decide),hw,if_neg (by decide)]
 exact h
theorem lex_nil {m : Nat} {a : Act} {w : World} (h : Q .normal a w) : zaF R P ops Q m [] a w:=h
end
end Go.Proofs.Ytcehklnonhalhaa.LexG
namespace Go.Proofs.Ytcehklnonhalhaa.LexG
open Go Go.RowKit
def zeB (md : Region.Mode) (T : List Nat) (p : Oper) : Bool:=p.after.any fun e => Region.binds md e && T.contains e.on
def zcT (md : Region.Mode) : List Nat → List Nat → List Oper → List Nat
 | T,j :: js,p :: ps => zcT md (bif zeB md T p then j :: T else T) js ps
 | T,_,_ => T
def zcL (md : Region.Mode) (ops : Array Oper) (U : List Nat) : List Nat → List Nat → List Oper → Bool
 | _,[],_ => true
 | _,_ :: _,[] => false
 | D,i :: is,o :: rest => !D.contains i && !zcf md D o && (bif zar o then (is.zip rest).all (fun x => (zcT md [i] is rest).contains x.1 || (o.apart ops x.2 && (U.contains x.1 || zar x.2))) else rest.all (zcf md D)) && zcL md ops U (i :: D) is rest
def zbs (R : World → World → Prop) (U : List Nat) (P : Program) (ops : Array Oper) (Q : Exit → Act → World → Prop) : List Nat → List Oper → Act → World → Prop
 | i :: is,o :: rest,a,w =>
  if zar o = true then
   (if Region.wanted o (yielded ops a.tmps) then o.quiet P a (R w) (fun a' => zbs R U P ops Q is rest a' w) else zbs R U P ops Q is rest (a.put o.dst undef) w)
  else (if Region.wanted o (yielded ops a.tmps) then o.wp P a w (fun a' w' => (U.contains i = true → R w w') ∧ zbs R U P ops Q is rest a' w') Q else zbs R U P ops Q is rest (a.put o.dst undef) w)
 | _,_,a,w => Q .normal a w
theorem zd9 (md : Region.Mode) : ∀ (T js : List Nat) (ps : List Oper),∀ t ∈ T,t ∈ zcT md T js ps
 | T,[],ps,t,h => by unfold zcT; exact h
 | T,j :: js,[],t,h => by unfold zcT; exact h
 | T,j :: js,p :: ps,t,h => by
  unfold zcT
  refine zd9 md _ js ps t ?_
  cases zeB md T p
  ·exact h
  exact List.mem_cons_of_mem _ h
theorem waitT_mono {md : Region.Mode} {T T2 : List Nat} {p : Oper} (h : zeB md T p = true) (hs : ∀ t ∈ T,t ∈ T2) : zeB md T2 p = true:=by
 unfold zeB at h ⊢
 rw [Array.any_eq_true'] at h ⊢
 obtain ⟨e,he,hb⟩:=h
 rw [Bool.and_eq_true] at hb
 refine ⟨e,he,?_⟩
 rw [Bool.and_eq_true]
 exact ⟨hb.1,by have:=hs e.on (by simpa using hb.2); simpa using this⟩
theorem nth_pick {l : List Oper} {j : Nat} {js : List Nat} (hj : j < l.length) : ∃ o,l[j]? = some o ∧ pick l (j :: js) = o :: pick l js:=by
 obtain ⟨o,ho⟩ : ∃ o,l[j]? = some o:=⟨l[j],by simp [hj]⟩
 exact ⟨o,ho,zb9 _ _ _ ho⟩
theorem reach_spec (md : Region.Mode) {l : List Oper} : ∀ (T js : List Nat),(∀ j ∈ js,j < l.length) → ∀ t ∈ zcT md T js (pick l js),t ∈ T ∨ ∃ o,l[t]? = some o ∧ zeB md (zcT md T js (pick l js)) o = true
 | T,[],_,t,h => by unfold zcT at h; exact .inl h
 | T,j :: js,hb,t,h => by
  obtain ⟨o,ho,e⟩:=nth_pick (js:=js) (hb j (List.mem_cons_self ..))
  rw [e] at h ⊢
  unfold zcT at h ⊢
  rcases reach_spec md _ js (fun k hk => hb k (List.mem_cons_of_mem _ hk)) t h with h1 | h1
  ·cases hw : zeB md T o
   ·rw [hw] at h1
    exact .inl h1
   rw [hw] at h1
   rcases List.mem_cons.1 h1 with rfl | h1
   ·exact .inr ⟨o,ho,waitT_mono hw fun x hx => zd9 md _ js _ x (List.mem_cons_of_mem _ hx)⟩
   exact .inl h1
  exact .inr h1
theorem mem_zip {l : List Oper} {j : Nat} {o : Oper} (hj : l[j]? = some o) : ∀ {is : List Nat},j ∈ is → (∀ i ∈ is,i < l.length) → (j,o) ∈ is.zip (pick l is)
 | [],h,_ => by cases h
 | i :: is,h,hb => by
  obtain ⟨p,hp,e⟩:=nth_pick (js:=is) (hb i (List.mem_cons_self ..))
  rw [e,List.zip_cons_cons]
  rcases List.mem_cons.1 h with rfl | h
  ·rw [hj] at hp
   cases hp
   exact List.mem_cons_self ..
  exact List.mem_cons_of_mem _ (mem_zip hj h fun k hk => hb k (List.mem_cons_of_mem _ hk))
section
variable {R : World → World → Prop} {P : Program} {ops : Array Oper} {md : Region.Mode} {Q : Exit → Act → World → Prop}
def StpU (R : World → World → Prop) (U : List Nat) (ops : Array Oper) (i : Nat) (w w' : World) : Prop:=(U.contains i = true → R w w') ∧ ∀ o,ops[i]? = some o → zar o = true → w' = w
def anyU (R : World → World → Prop) (U : List Nat) (P : Program) (md : Region.Mode) (ops : Array Oper) (Q : Exit → Act → World → Prop) : Nat → Array Bool → Act → World → Prop
 | 0,listed,a,w => Region.ready md ops listed = [] ∧ Q .normal a w
 | n + 1,listed,a,w => (Region.ready md ops listed = [] → Q .normal a w) ∧
   ∀ i ∈ Region.ready md ops listed,wpOp P ops Q i (fun a' w' => StpU R U ops i w w' ∧ anyU R U P md ops Q n (listed.setIfInBounds i true) a' w') a w
theorem zez {U : List Nat} : ∀ (n : Nat) (listed : Array Bool) (a : Act) (w : World),anyU R U P md ops Q n listed a w → wpAny P md ops Q n listed a w
 | 0,_,_,_,h => h
 | n + 1,_,_,w,h => ⟨h.1,fun i hi => wpOp_mono (fun a' w' h' => zez n _ a' w' h'.2) (h.2 i hi)⟩
theorem yieldsU_on {w w' : World} {o : Oper} {v : Value} {a : Act} (hR : RelOk R) (h : YieldsIf P ops (R w) o v a) (k : R w w') : YieldsIf P ops (R w') o v a:=
 h.imp (fun ⟨h1,h2⟩ => ⟨h1,fun w1 k1 => h2 w1 (hR.trans _ _ _ k k1)⟩) id
theorem StpU.refl (hR : RelOk R) (U : List Nat) (i : Nat) (w : World) : StpU R U ops i w w:=⟨fun _ => hR.refl w,fun _ _ _ => rfl⟩
theorem anyU_first {U : List Nat} (hR : RelOk R) {i : Nat} {oi : Oper} {v : Value} (hi : ops[i]? = some oi) (hsel : ∀ (j : Nat) (o : Oper) cs b,ops[j]? = some o → o.op ≠ .select cs b)
  (hQ : ∀ d v c a w,Q (.panic c) (a.put d v) w → Q (.panic c) a w) (T : List Nat) (hiT : i ∈ T) (hT : ∀ j ∈ T,j = i ∨ ∃ oj,ops[j]? = some oj ∧ zeB md T oj = true) : ∀ (n : Nat) (listed : Array Bool) (a : Act) (w : World),
   (∀ j ∈ T,listed.getD j true = false) →
   (∀ j oj,ops[j]? = some oj → j ∉ T → listed.getD j true = false → oi.apart ops oj = true) →
   (∀ j oj,ops[j]? = some oj → j ∉ T → listed.getD j true = false → U.contains j = true ∨ zar oj = true) →
   i ∈ Region.ready md ops listed → YieldsIf P ops (R w) oi v a →
   anyU R U P md ops Q n (listed.setIfInBounds i true) (a.put oi.dst v) w → anyU R U P md ops Q (n + 1) listed a w:=by
 intro n
 induction n with
 | zero =>
  intro listed a w hun0 hfree hpl hr hy H
  refine ⟨fun h => absurd hr (by rw [h]; exact List.not_mem_nil),fun j hj => ?_⟩
  by_cases e : j = i
  ·subst e
   exact hy.wpOp hi (hR.refl w) ⟨StpU.refl hR U _ w,H⟩
  have:=ready_mono hj e
  rw [H.1] at this
  cases this
 | succ n ih =>
  intro listed a w hun0 hfree hpl hr hy H
  refine ⟨fun h => absurd hr (by rw [h]; exact List.not_mem_nil),fun j hj => ?_⟩
  by_cases e : j = i
  ·subst e
   exact hy.wpOp hi (hR.refl w) ⟨StpU.refl hR U _ w,H⟩
  have h1:=H.2 j (ready_mono hj e)
  obtain ⟨hjun,oj,hoj,hall⟩:=mem_ready.1 hj
  have H1 : j ∉ T:=fun hjT => by
   rcases hT j hjT with k | ⟨o2,ho2,hw⟩
   ·exact e k
   rw [hoj] at ho2
   cases ho2
   unfold zeB at hw
   rw [Array.any_eq_true'] at hw
   obtain ⟨x,hx,hb⟩:=hw
   rw [Bool.and_eq_true] at hb
   have h2:=hall x hx hb.1
   have h3:=hun0 x.on (by simpa using hb.2)
   by_cases hlt : x.on < listed.size
   ·simp [hlt] at h3 h2; rw [h3] at h2; cases h2
   simp [Array.getElem?_eq_none (Nat.le_of_not_lt hlt)] at h2
  obtain ⟨g1,g2,g3⟩:=Oper.apart_spec (hfree j oj hoj H1 hjun)
  have h2:=zdz (Y:=YieldsIf P ops (R w) oi v) hoj (fun cs b => hsel j oj cs b hoj) g1 g2
   (fun b hb u => hb.of_same (execOp_put oi (fun cs b => hsel i oi cs b hi) b oj.dst u g3) (wanted_put oi b oj.dst u g3)) (fun b hb x => hb.of_same rfl rfl) (hQ oi.dst v) hy h1
  have H0 : ∀ l,(listed.setIfInBounds j true).getD l true = false → listed.getD l true = false:=fun l hun => by
   by_cases hjl : j = l
   ·subst hjl; exact hjun
   rw [Go.getD_set_ne true hjl] at hun; exact hun
  refine wpOp_mono (fun a' w' ⟨y,k,h3⟩ => ⟨k,ih (listed.setIfInBounds j true) a' w' (fun l hl => ?_) (fun l ol hl hli hun => hfree l ol hl hli (H0 l hun)) (fun l ol hl hli hun => hpl l ol hl hli (H0 l hun)) (ready_mono hr (Ne.symm e)) ?_ ?_⟩) h2
  ·rw [Go.getD_set_ne true (fun k : j = l => H1 (by rw [k]; exact hl))]
   exact hun0 l hl
  ·rcases hpl j oj hoj H1 hjun with hu | hp
   ·exact yieldsU_on hR y (k.1 hu)
   rw [k.2 oj hoj hp]; exact y
  rw [Array.setIfInBounds_comm _ _ e]
  exact h3
theorem zdp {U : List Nat} (hR : RelOk R) (hsel : Region.noSelect ops = true) (hQ : ∀ d v c a w,Q (.panic c) (a.put d v) w → Q (.panic c) a w) : ∀ (plan D : List Nat) (a : Act) (w : World),plan.Nodup → (∀ i ∈ plan,i ∉ D) →
  (∀ i ∈ D,i < ops.size) → (∀ i ∈ plan,i < ops.size) → (∀ i,i < ops.size → i ∈ D ∨ i ∈ plan) → zcL md ops U D plan (pick ops.toList plan) = true → zbs R U P ops Q plan (pick ops.toList plan) a w →
  anyU R U P md ops Q plan.length (lst ops.size D) a w
 | [],D,a,w,_,_,hD,_,hc,_,h => by
  refine ⟨List.eq_nil_iff_forall_not_mem.2 fun j hj => ?_,h⟩
  obtain ⟨h1,o,ho,_⟩:=(zaV hD).1 hj
  rcases hc j (Array.getElem?_eq_some_iff.1 ho).1 with h2 | h2
  ·rw [show D.contains j = true by simpa using h2] at h1; cases h1
  cases h2
 | k :: rest,D,a,w,hnd,hdj,hD,hp0,hc,hB,h => by
  have H4 : k < ops.size:=hp0 k (List.mem_cons_self ..)
  obtain ⟨o,h0⟩ : ∃ o,ops[k]? = some o:=⟨ops[k],by simp [H4]⟩
  have h0' : ops.toList[k]? = some o:=by simpa using h0
  rw [show pick ops.toList (k :: rest) = o :: pick ops.toList rest from zb9 _ _ _ h0'] at hB h
  simp only [zcL,Bool.and_eq_true,Bool.not_eq_true'] at hB
  obtain ⟨⟨⟨hu,hw⟩,hf⟩,hB'⟩:=hB
  rw [List.nodup_cons] at hnd
  have hr : k ∈ Region.ready md ops (lst ops.size D):=(zaV hD).2 ⟨hu,o,h0,hw⟩
  have H1 : ∀ i ∈ rest,i < ops.size:=fun i hi => hp0 i (List.mem_cons_of_mem _ hi)
  have H7 : ∀ i ∈ k :: D,i < ops.size:=fun i hi => by
   rcases List.mem_cons.1 hi with rfl | hi
   ·exact H4
   exact hD i hi
  have H6 : ∀ i,i < ops.size → i ∈ k :: D ∨ i ∈ rest:=fun i hi => by
   rcases hc i hi with h | h
   ·exact .inl (List.mem_cons_of_mem _ h)
   rcases List.mem_cons.1 h with rfl | h
   ·exact .inl (List.mem_cons_self ..)
   exact .inr h
  have H2 : ∀ i ∈ rest,i ∉ k :: D:=fun i hi hm => by
   rcases List.mem_cons.1 hm with rfl | hm
   ·exact hnd.1 hi
   exact hdj i (List.mem_cons_of_mem _ hi) hm
  have H0 : ∀ j oj,ops[j]? = some oj → j ≠ k → D.contains j = false → j ∈ rest:=fun j oj hj hjk hjD => by
   rcases hc j (Array.getElem?_eq_some_iff.1 hj).1 with h | h
   ·rw [show D.contains j = true by simpa using h] at hjD; cases hjD
   rcases List.mem_cons.1 h with h | h
   ·exact absurd h hjk
   exact h
  unfold zbs at h
  cases hp : zar o
  ·rw [hp,if_neg (by decide)] at h
   rw [hp,cond_false,List.all_eq_true] at hf
   refine ⟨fun h => absurd hr (by rw [h]; exact List.not_mem_nil),fun j hj => ?_⟩
   obtain ⟨g1,oj,g2,g3⟩:=(zaV hD).1 hj
   have e : j = k:=by
    refine Classical.byContradiction fun hne => ?_
    have:=hf oj (zbL (by simpa using g2) (H0 j oj g2 hne g1) (fun i hi => by simpa using H1 i hi))
    rw [this] at g3
    cases g3
   subst e
   have h1:=h
   unfold wpOp
   simp only [h0]
   split
   ·rename_i hwa
    rw [if_pos hwa] at h1
    refine .inl (Oper.wp_mono (fun a' w' ⟨k1,k2⟩ => ⟨⟨k1,fun o' ho' hp' => by rw [g2] at h0; rw [h0] at g2; rw [g2] at ho'; cases ho'; rw [hp] at hp'; cases hp'⟩,?_⟩) h1)
    rw [za9]
    exact zdp hR hsel hQ rest (j :: D) a' w' hnd.2 H2 H7 H1 H6 hB' k2
   rename_i hwa
   rw [if_neg hwa] at h1
   refine ⟨StpU.refl hR U _ w,?_⟩
   rw [za9]
   exact zdp hR hsel hQ rest (j :: D) _ w hnd.2 H2 H7 H1 H6 hB' h1
  rw [hp,if_pos rfl] at h
  rw [hp,cond_true,List.all_eq_true] at hf
  have key : ∃ v,YieldsIf P ops (R w) o v a ∧ zbs R U P ops Q rest (pick ops.toList rest) (a.put o.dst v) w:=by
   split at h
   ·rename_i hwa
    obtain ⟨v,h1,h2⟩:=h
    refine ⟨v,.inl ⟨hwa,fun w1 hw1 => ?_⟩,h2⟩
    have h3:=h1 w1 hw1
    unfold Oper.quietAt at h3
    generalize hr : (execOp a.eval o).run P w1 = r at h3
    rcases r with ⟨n,w2⟩ | ⟨x,w2⟩
    ·obtain ⟨u,rfl⟩:=zbw hp hr
     obtain ⟨rfl,rfl⟩:=h3
     rfl
    exact h3.elim
   rename_i hwa
   exact ⟨undef,.inr ⟨by simpa using hwa,rfl⟩,h⟩
  obtain ⟨v,hy,hK⟩:=key
  obtain ⟨T,eT⟩ : ∃ T,zcT md [k] rest (pick ops.toList rest) = T:=⟨_,rfl⟩
  have sp:=reach_spec md (l:=ops.toList) [k] rest (fun i hi => by simpa using H1 i hi)
  rw [eT] at hf sp
  have H5 : k ∈ T:=by rw [← eT]; exact zd9 md _ _ _ k (List.mem_singleton.2 rfl)
  have H3 : ∀ t ∈ T,t = k ∨ t ∈ rest:=fun t ht => by
   rw [← eT] at ht
   clear eT H5 sp hf
   have gen : ∀ (T js : List Nat) (ps : List Oper),∀ t ∈ zcT md T js ps,t ∈ T ∨ t ∈ js:=by
    intro T js
    induction js generalizing T with
    | nil => intro ps t h; cases ps <;> (unfold zcT at h; exact .inl h)
    | cons j js ih =>
     intro ps t h
     cases ps with
     | nil => unfold zcT at h; exact .inl h
     | cons p ps =>
      unfold zcT at h
      rcases ih _ ps t h with h | h
      ·cases hw : zeB md T p
       ·rw [hw] at h; exact .inl h
       rw [hw] at h
       rcases List.mem_cons.1 h with rfl | h
       ·exact .inr (List.mem_cons_self ..)
       exact .inl h
      exact .inr (List.mem_cons_of_mem _ h)
   rcases gen _ _ _ t ht with h | h
   ·exact .inl (List.mem_singleton.1 h)
   exact .inr h
  have ask : ∀ j oj,ops[j]? = some oj → j ∉ T → (lst ops.size D).getD j true = false → o.apart ops oj = true ∧ (U.contains j = true ∨ zar oj = true):=fun j oj hj hjT hun => by
   rw [zaX,if_pos (Array.getElem?_eq_some_iff.1 hj).1] at hun
   have h1:=hf (j,oj) (mem_zip (by simpa using hj) (H0 j oj hj (fun e => hjT (e ▸ H5)) hun) (fun i hi => by simpa using H1 i hi))
   rw [Bool.or_eq_true] at h1
   rcases h1 with h1 | h1
   ·exact absurd (by simpa using h1) hjT
   rw [Bool.and_eq_true,Bool.or_eq_true] at h1
   exact h1
  refine anyU_first hR h0 (Region.noSelect_spec hsel) hQ T H5 (fun j hj => ?_) rest.length _ a w (fun j hj => ?_) (fun j oj hj hjT hun => (ask j oj hj hjT hun).1) (fun j oj hj hjT hun => (ask j oj hj hjT hun).2) hr hy ?_
  ·rcases sp j hj with h | ⟨o2,h1,h2⟩
   ·exact .inl (List.mem_singleton.1 h)
   exact .inr ⟨o2,by simpa using h1,h2⟩
  ·have hjl : j < ops.size:=by
    rcases H3 j hj with rfl | h
    ·exact H4
    exact H1 j h
   rw [zaX,if_pos hjl]
   rcases H3 j hj with rfl | h
   ·exact hu
   have:=hdj j (List.mem_cons_of_mem _ h)
   simpa using this
  rw [za9]
  exact zdp hR hsel hQ rest (k :: D) _ w hnd.2 H2 H7 H1 H6 hB' hK
theorem region_planU {id : Nat} {a : Act} {w : World} {l : List Oper} (hR : RelOk R) (U plan : List Nat) (hm : P.follows .mixedOrders = true:=by kernel_rfl) (hsel : Region.noSelect l.toArray = true:=by kernel_rfl) (hn : l.length = plan.length:=by kernel_rfl) (hA : (zbZ l.length plan && decide plan.Nodup) = true:=by kernel_rfl)
  (hB : zcL .any l.toArray U [] plan (pick l plan) = true:=by kernel_rfl)
  (h : zbs R U P l.toArray (NoPanic Q) plan (pick l plan) a w.drew) : (Code.region id l.toArray true).wp P Q a w:=by
 refine wp_region_noPanic (wp_region_any hm (zez (R:=R) (U:=U) _ _ _ _ ?_))
 rw [zdC]
 rw [Bool.and_eq_true,decide_eq_true_eq] at hA
 obtain ⟨hA,hnd⟩:=hA
 unfold zbZ at hA
 rw [Bool.and_eq_true,List.all_eq_true,List.all_eq_true] at hA
 have:=zdp (R:=R) (U:=U) (md:=.any) (P:=P) (ops:=l.toArray) (Q:=NoPanic Q) hR hsel (fun _ _ _ _ _ h => h) plan [] a w.drew hnd (fun i _ h => by cases h) (fun i hi => by cases hi) (fun i hi => by simpa using hA.2 i hi)
  (fun i hi => .inr (by simpa using hA.1 i (by simpa using hi))) hB h
 simpa [hn] using this
theorem lexU_plain {U : List Nat} : ∀ (n : Nat) {is : List Nat} {l : List Oper} {a : Act} {w : World},(l.take n).all zar = true → (is.length == l.length) = true → wpQuiet P ops (fun w1 => ∃ s : Wd R w,w1 = s.w) (fun a' => zbs R U P ops Q (is.drop n) (l.drop n) a' w) (l.take n) a → zbs R U P ops Q is l a w
 | 0,_,_,_,_,_,_,h => by simpa [wpQuiet] using h
 | n + 1,[],[],_,_,_,_,h => by simpa [wpQuiet,zbs] using h
 | n + 1,[],o :: l,_,_,_,hl,h => by simp at hl
 | n + 1,i :: is,[],_,_,_,hl,h => by simp at hl
 | n + 1,i :: is,o :: l,a,w,hp,hl,h => by
  simp only [List.take_succ_cons,List.all_cons,Bool.and_eq_true] at hp
  simp only [List.take_succ_cons,List.drop_succ_cons,wpQuiet] at h
  have hl2 : (is.length == l.length) = true:=by simpa using hl
  unfold zbs
  rw [if_pos hp.1]
  have e : R w = (fun w1 => ∃ s : Wd R w,w1 = s.w):=by
   funext w1
   refine propext ⟨fun h => ⟨⟨w1,h⟩,rfl⟩,fun ⟨s,e⟩ => by rw [e]; exact s.rel⟩
  rw [e]
  split
  ·rename_i hw
   rw [if_pos hw] at h
   exact Oper.quiet_mono (fun a' h' => lexU_plain n hp.2 hl2 h') h
  rename_i hw
  rw [if_neg hw] at h
  exact lexU_plain n hp.2 hl2 h
theorem lexU_call {U : List Nat} {i : Nat} {is : List Nat} {o : Oper} {l : List Oper} {a : Act} {w : World} (hp : zar o = false:=by kernel_rfl) (hw : Region.wanted o (yielded ops a.tmps) = true:=by kernel_rfl)
  (h : ∀ K : Act → World → Prop,(∀ a' w',R w w' → zbs R U P ops Q is l a' w' → K a' w') → o.wp P a w K Q) : zbs R U P ops Q (i :: is) (o :: l) a w:=by
 unfold zbs
 rw [hp,if_neg (by decide),if_pos hw]
 exact h _ fun a' w' k1 k2 => ⟨fun _ => k1,k2⟩
theorem lexU_last {U : List Nat} {i : Nat} {is : List Nat} {o : Oper} {l : List Oper} {a : Act} {w : World} (hp : zar o = false:=by kernel_rfl) (hu : U.contains i = false:=by kernel_rfl) (hw : Region.wanted o (yielded ops a.tmps) = true:=by kernel_rfl)
  (h : ∀ K : Act → World → Prop,(∀ a' w',zbs R U P ops Q is l a' w' → K a' w') → o.wp P a w K Q) : zbs R U P ops Q (i :: is) (o :: l) a w:=by
 unfold zbs
 rw [hp,if_neg (by decide),if_pos hw]
 exact h _ fun a' w' k2 => ⟨(fun k => by rw [hu] at k; cases k),k2⟩
theorem lexU_nil {U : List Nat} {a : Act} {w : World} (h : Q .normal a w) : zbs R U P ops Q [] [] a w:=h
end
end Go.Proofs.Ytcehklnonhalhaa.LexG
namespace Go.Proofs.Ytcehklnonhalhaa
theorem zhC {w : World} {p : Addr} {v : Value} (h : w.cell? p = some v) : ∀ s : LexG.Wd LexG.Here w,s.w.cell? p = some v:=fun s => LexG.here (P:=fun w' => w'.cell? p = some v) h s
theorem zfC {w : World} {p : Addr} {v : Value} {g : Nat} (h : w.cell? p = some v) (hl : p.block < w.heap.size) (hn : some p.block ≠ some g) : ∀ s : LexG.Wd (fun w w' => w.grownBy w' (some g)) w,s.w.cell? p = some v:=fun s => (s.rel.cell_far p hl hn).trans h
end Go.Proofs.Ytcehklnonhalhaa
