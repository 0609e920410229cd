
/-
  A region that draws its order, where two operations may come up at once: both ways are walked.
-/
import Derived.Test.YtcfmgoilncninaaLex
namespace Go.Proofs.Ytcfmgoilncninaa
open Go Go.RowKit
set_option linter.unusedVariables false

/-- an order, parting where two operations may come up. -/
inductive PT where
  | nil : PT
  | one : Nat → PT → PT
  | two : Nat → Nat → PT → PT → PT
def PT.depth : PT → Nat
  | .nil => 0
  | .one _ t => t.depth + 1
  | .two _ _ t u => t.depth + 1
/-- those that are left but for these. -/
def leftB (n : Nat) (D : List Nat) : List Nat := (List.range n).filter fun x => !D.contains x
def opAt (ops : Array Oper) (i : Nat) (p : Oper → Bool) : Bool := match ops[i]? with
  | some o => p o
  | none => false
def treeCheck (md : Region.Mode) (ops : Array Oper) : List Nat → PT → Bool
  | D, .nil => (leftB ops.size D).isEmpty
  | D, .one k t => !D.contains k && opAt ops k (fun o => !waitD md D o && (bif plainOp o then (leftB ops.size (k :: D)).all (fun j => opAt ops j fun p => p.after.any (fun e => Region.binds md e && e.on == k) || o.apart ops p) else (leftB ops.size (k :: D)).all (fun j => opAt ops j (waitD md D)))) && treeCheck md ops (k :: D) t
  | D, .two i j t u => !D.contains i && !D.contains j && opAt ops i (fun o => !waitD md D o && !plainOp o) && opAt ops j (fun o => !waitD md D o && !plainOp o) && (leftB ops.size (i :: j :: D)).all (fun l => opAt ops l (waitD md D)) && t.depth == u.depth && treeCheck md ops (i :: D) t && treeCheck md ops (j :: D) u
def wpStep (P : Program) (ops : Array Oper) (Q : Exit → Act → World → Prop) (o : Oper) (K : Act → World → Prop) (a : Act) (w : World) : Prop :=
  ∀ w1, Rb w w1 → (if Region.wanted o (yielded ops a.tmps) then o.wp P a w1 (fun a' w' => Rb w1 w' ∧ K a' w') Q else K (a.put o.dst undef) w1)
def wpTree (P : Program) (ops : Array Oper) (Q : Exit → Act → World → Prop) : PT → Act → World → Prop
  | .nil, a, w => ∀ w1, Rb w w1 → Q .normal a w1
  | .one k t, a, w => ∀ o, ops[k]? = some o →
    if plainOp o = true then
      (if Region.wanted o (yielded ops a.tmps) then o.quiet P a (Rb w) (fun a' => wpTree P ops Q t a' w) else wpTree P ops Q t (a.put o.dst undef) w)
    else wpStep P ops Q o (wpTree P ops Q t) a w
  | .two i j t u, a, w => (∀ o, ops[i]? = some o → wpStep P ops Q o (wpTree P ops Q t) a w) ∧ (∀ o, ops[j]? = some o → wpStep P ops Q o (wpTree P ops Q u) a w)
section
variable {P : Program} {md : Region.Mode} {ops : Array Oper} {Q : Exit → Act → World → Prop}
theorem leftB_mem {n : Nat} {D : List Nat} {x : Nat} : x ∈ leftB n D ↔ x < n ∧ D.contains x = false := by
  unfold leftB
  rw [List.mem_filter, List.mem_range, Bool.not_eq_true']
theorem opAt_spec {i : Nat} {p : Oper → Bool} (h : opAt ops i p = true) : ∃ o, ops[i]? = some o ∧ p o = true := by
  unfold opAt at h
  split at h
  · rename_i o e
    exact ⟨o, e, h⟩
  · cases h
theorem contains_cons {k x : Nat} {D : List Nat} (h1 : x ≠ k) (h2 : D.contains x = false) : (k :: D).contains x = false := by
  simp at h2 ⊢
  exact ⟨h1, h2⟩
theorem step_op {k : Nat} {o : Oper} (h0 : ops[k]? = some o) {D : List Nat} {n : Nat} {K : Act → World → Prop} {a : Act} {w1 w : World} (hw1 : Rb w w1)
    (hK : ∀ a' w', K a' w' → anyR P md ops Q n (lst ops.size (k :: D)) a' w') (h : wpStep P ops Q o K a w) :
    wpOp P ops Q k (fun a' w' => Rb w1 w' ∧ anyR P md ops Q n ((lst ops.size D).setIfInBounds k true) a' w') a w1 := by
  have h1 := h w1 hw1
  unfold wpOp
  simp only [h0]
  split
  · rename_i hwa
    rw [if_pos hwa] at h1
    refine .inl (Oper.wp_mono (fun a' w' ⟨k1, k2⟩ => ⟨k1, ?_⟩) h1)
    rw [lst_cons]
    exact hK a' w' k2
  · rename_i hwa
    rw [if_neg hwa] at h1
    refine ⟨Rb.refl w1, ?_⟩
    rw [lst_cons]
    exact hK _ w1 h1
theorem anyR_tree (hsel : Region.noSelect ops = true) (hQ : ∀ d v c a w, Q (.panic c) (a.put d v) w → Q (.panic c) a w) : ∀ (t : PT) (D : List Nat) (a : Act) (w : World),
    (∀ i ∈ D, i < ops.size) → treeCheck md ops D t = true → wpTree P ops Q t a w →
    anyR P md ops Q t.depth (lst ops.size D) a w
  | .nil, D, a, w, hD, hB, h => by
    refine ⟨List.eq_nil_iff_forall_not_mem.2 fun j hj => ?_, h⟩
    obtain ⟨h1, o, ho, _⟩ := (ready_lst hD).1 hj
    simp only [treeCheck, List.isEmpty_iff] at hB
    have : j ∈ leftB ops.size D := leftB_mem.2 ⟨(Array.getElem?_eq_some_iff.1 ho).1, h1⟩
    rw [hB] at this
    cases this
  | .one k t, D, a, w, hD, hB, h => by
    simp only [treeCheck, Bool.and_eq_true, Bool.not_eq_true'] at hB
    obtain ⟨⟨hu, hO⟩, hB'⟩ := hB
    obtain ⟨o, h0, hO⟩ := opAt_spec hO
    simp only [Bool.and_eq_true, Bool.not_eq_true'] at hO
    obtain ⟨hw, hf⟩ := hO
    have hlt : k < ops.size := (Array.getElem?_eq_some_iff.1 h0).1
    have hr : k ∈ Region.ready md ops (lst ops.size D) := (ready_lst hD).2 ⟨hu, o, h0, hw⟩
    have hD' : ∀ i ∈ k :: D, i < ops.size := fun i hi => by
      rcases List.mem_cons.1 hi with rfl | hi
      · exact hlt
      · exact hD i hi
    have behind : ∀ j oj, ops[j]? = some oj → j ≠ k → D.contains j = false → j ∈ leftB ops.size (k :: D) := fun j oj hj hjk hjD => leftB_mem.2 ⟨(Array.getElem?_eq_some_iff.1 hj).1, contains_cons hjk hjD⟩
    unfold wpTree at h
    have hS := h o h0
    clear h
    cases hp : plainOp o
    · rw [hp, if_neg (by decide)] at hS
      rw [hp, cond_false, List.all_eq_true] at hf
      intro w1 hw1
      refine ⟨fun h => absurd hr (by rw [h]; exact List.not_mem_nil), fun j hj => ?_⟩
      obtain ⟨g1, oj, g2, g3⟩ := (ready_lst hD).1 hj
      have e : j = k := by
        refine Classical.byContradiction fun hne => ?_
        obtain ⟨o2, q1, q2⟩ := opAt_spec (hf j (behind j oj g2 hne g1))
        rw [g2] at q1
        injection q1 with q1
        rw [q1, q2] at g3
        cases g3
      subst e
      exact step_op h0 hw1 (fun a' w' h' => anyR_tree hsel hQ t (j :: D) a' w' hD' hB' h') hS
    · rw [hp, if_pos rfl] at hS
      rw [hp, cond_true, List.all_eq_true] at hf
      have key : ∃ v, YieldsIf P ops (Rb w) o v a ∧ wpTree P ops Q t (a.put o.dst v) w := by
        split at hS
        · rename_i hwa
          obtain ⟨v, h1, h2⟩ := hS
          refine ⟨v, .inl ⟨hwa, fun w1 hw1 => ?_⟩, h2⟩
          have h3 := h1 w1 hw1
          unfold Oper.quietAt at h3
          generalize hr : (execOp a.eval o).run P w1 = r at h3
          rcases r with ⟨n, w2⟩ | ⟨x, w2⟩
          · obtain ⟨u, rfl⟩ := plain_value hp hr
            obtain ⟨rfl, rfl⟩ := h3
            rfl
          · exact h3.elim
        · rename_i hwa
          exact ⟨undef, .inr ⟨by simpa using hwa, rfl⟩, hS⟩
      obtain ⟨v, hy, hK⟩ := key
      refine anyR_first h0 (Region.noSelect_spec hsel) hQ t.depth _ a w (fun j oj hj hjk hun hno => ?_) hr hy ?_
      · rw [lst_getD, if_pos (Array.getElem?_eq_some_iff.1 hj).1] at hun
        obtain ⟨o2, q1, h1⟩ := opAt_spec (hf j (behind j oj hj hjk hun))
        rw [hj] at q1
        injection q1 with q1
        rw [← q1, Bool.or_eq_true] at h1
        rcases h1 with h1 | h1
        · obtain ⟨e, he, hb⟩ := Array.any_eq_true'.1 h1
          simp only [Bool.and_eq_true, beq_iff_eq] at hb
          exact absurd hb.2 (hno e he hb.1)
        · exact h1
      · rw [lst_cons]
        exact anyR_tree hsel hQ t (k :: D) _ w hD' hB' hK
  | .two i j t u, D, a, w, hD, hB, h => by
    simp only [treeCheck, Bool.and_eq_true, Bool.not_eq_true', beq_iff_eq] at hB
    obtain ⟨⟨⟨⟨⟨⟨⟨ui, uj⟩, hi⟩, hj⟩, hf⟩, hd⟩, hBt⟩, hBu⟩ := hB
    obtain ⟨oi, hoi, hi⟩ := opAt_spec hi
    obtain ⟨oj, hoj, hj⟩ := opAt_spec hj
    simp only [Bool.and_eq_true, Bool.not_eq_true'] at hi hj
    have li : i < ops.size := (Array.getElem?_eq_some_iff.1 hoi).1
    have lj : j < ops.size := (Array.getElem?_eq_some_iff.1 hoj).1
    have hr : i ∈ Region.ready md ops (lst ops.size D) := (ready_lst hD).2 ⟨ui, oi, hoi, hi.1⟩
    rw [List.all_eq_true] at hf
    intro w1 hw1
    refine ⟨fun h => absurd hr (by rw [h]; exact List.not_mem_nil), fun l hl => ?_⟩
    obtain ⟨g1, ol, g2, g3⟩ := (ready_lst hD).1 hl
    by_cases e1 : l = i
    · subst e1
      exact step_op hoi hw1 (fun a' w' h' => anyR_tree hsel hQ t (l :: D) a' w' (fun x hx => by
        rcases List.mem_cons.1 hx with rfl | hx
        · exact li
        · exact hD x hx) hBt h') (h.1 oi hoi)
    · by_cases e2 : l = j
      · subst e2
        show wpOp P ops Q l (fun a' w' => Rb w1 w' ∧ anyR P md ops Q t.depth _ a' w') a w1
        rw [hd]
        exact step_op hoj hw1 (fun a' w' h' => anyR_tree hsel hQ u (l :: D) a' w' (fun x hx => by
          rcases List.mem_cons.1 hx with rfl | hx
          · exact lj
          · exact hD x hx) hBu h') (h.2 oj hoj)
      · exfalso
        obtain ⟨o2, q1, q2⟩ := opAt_spec (hf l (leftB_mem.2 ⟨(Array.getElem?_eq_some_iff.1 g2).1, contains_cons e1 (contains_cons e2 g1)⟩))
        rw [g2] at q1
        injection q1 with q1
        rw [q1, q2] at g3
        cases g3
/-- THE REGION by its walk along such a tree (and it doesn't panic). -/
theorem region_tree {id : Nat} {a : Act} {w : World} {l : List Oper} (t : PT) (hm : P.follows .mixedOrders = true) (hsel : Region.noSelect l.toArray = true) (hn : l.length = t.depth)
    (hB : treeCheck .any l.toArray [] t = true)
    (h : wpTree P l.toArray (NoPanic Q) t a w.drew) : (Code.region id l.toArray true).wp P Q a w := by
  refine wp_region_noPanic (wp_region_any hm (any_of_anyR _ _ _ _ ?_))
  rw [lst_nil]
  have := anyR_tree (md := .any) (P := P) (ops := l.toArray) (Q := NoPanic Q) hsel (fun _ _ _ _ _ h => h) t [] a w.drew (fun i hi => by cases hi) hB h
  simpa [hn] using this
/-- the operations along a stretch without a parting. -/
def stretch : List Nat → PT → PT
  | [], t => t
  | i :: is, t => .one i (stretch is t)
end
/-- what stands behind a stretch, as a list. -/
def wpLexK (P : Program) (ops : Array Oper) (Q : Exit → Act → World → Prop) (K : Act → World → Prop) : List Oper → Act → World → Prop
  | [], a, w => ∀ w1, Rb w w1 → K a w1
  | o :: rest, a, w =>
    if plainOp o = true then
      (if Region.wanted o (yielded ops a.tmps) then o.quiet P a (Rb w) (fun a' => wpLexK P ops Q K rest a' w) else wpLexK P ops Q K rest (a.put o.dst undef) w)
    else ∀ w1, Rb w w1 → (if Region.wanted o (yielded ops a.tmps) then o.wp P a w1 (fun a' w' => Rb w1 w' ∧ wpLexK P ops Q K rest a' w') Q else wpLexK P ops Q K rest (a.put o.dst undef) w1)
section
variable {P : Program} {ops : Array Oper} {Q : Exit → Act → World → Prop} {K : Act → World → Prop}
theorem lexK_step {k : Nat} {o : Oper} {rest : List Oper} {t : PT} {a : Act} {w : World} (h0 : ops[k]? = some o) (ht : ∀ a w, wpLexK P ops Q K rest a w → wpTree P ops Q t a w) (h : wpLexK P ops Q K (o :: rest) a w) : wpTree P ops Q (.one k t) a w := by
  unfold wpTree
  intro o' h0'
  rw [h0] at h0'
  injection h0' with h0'
  subst h0'
  unfold wpLexK at h
  by_cases hp : plainOp o = true
  · rw [if_pos hp] at h ⊢
    split at h
    · rename_i hw
      rw [if_pos hw]
      obtain ⟨v, h1, h2⟩ := h
      exact ⟨v, h1, ht _ _ h2⟩
    · rename_i hw
      rw [if_neg hw]
      exact ht _ _ h
  · rw [if_neg hp] at h ⊢
    intro w1 hw1
    have h := h w1 hw1
    split at h
    · rename_i hw
      rw [if_pos hw]
      exact Oper.wp_mono (fun a' w' ⟨k1, k2⟩ => ⟨k1, ht _ _ k2⟩) h
    · rename_i hw
      rw [if_neg hw]
      exact ht _ _ h
theorem tree_of_lex {t : PT} (ht : ∀ a w, (∀ w1, Rb w w1 → K a w1) → wpTree P ops Q t a w) : ∀ (is : List Nat) (a : Act) (w : World), (∀ i ∈ is, i < ops.size) → wpLexK P ops Q K (pick ops.toList is) a w → wpTree P ops Q (stretch is t) a w
  | [], a, w, _, h => ht a w h
  | i :: is, a, w, hb, h => by
    have hlt : i < ops.size := hb i (List.mem_cons_self ..)
    have h0 : ops[i]? = some ops[i] := by simp [hlt]
    have h0' : ops.toList[i]? = some ops[i] := by simp [hlt]
    rw [show pick ops.toList (i :: is) = ops[i] :: pick ops.toList is from nth_eq _ _ _ h0'] at h
    exact lexK_step h0 (fun a w h => tree_of_lex ht is a w (fun j hj => hb j (List.mem_cons_of_mem _ hj)) h) h
theorem lex_is_K : ∀ (l : List Oper) (a : Act) (w : World), wpLex P ops Q l a w → wpLexK P ops Q (fun a w => Q .normal a w) l a w
  | [], a, w, h => h
  | o :: l, a, w, h => by
    unfold wpLex at h
    unfold wpLexK
    split at h
    · rename_i hp
      rw [if_pos hp]
      split at h
      · rename_i hw
        rw [if_pos hw]
        obtain ⟨v, h1, h2⟩ := h
        exact ⟨v, h1, lex_is_K l _ _ h2⟩
      · rename_i hw
        rw [if_neg hw]
        exact lex_is_K l _ _ h
    · rename_i hp
      rw [if_neg hp]
      intro w1 hw1
      have h := h w1 hw1
      split at h
      · rename_i hw
        rw [if_pos hw]
        exact Oper.wp_mono (fun a' w' ⟨k1, k2⟩ => ⟨k1, lex_is_K l _ _ k2⟩) h
      · rename_i hw
        rw [if_neg hw]
        exact lex_is_K l _ _ h
theorem step_of_tree {k : Nat} {o : Oper} {t : PT} {a : Act} {w : World} (h0 : ops[k]? = some o) (hp : plainOp o = false) (h : wpTree P ops Q (.one k t) a w) : wpStep P ops Q o (wpTree P ops Q t) a w := by
  unfold wpTree at h
  have := h o h0
  rw [hp, if_neg (by decide)] at this
  exact this
theorem tree_nil (a : Act) (w : World) (h : ∀ w1, Rb w w1 → Q .normal a w1) : wpTree P ops Q .nil a w := h
theorem tree_two {i j : Nat} {oi oj : Oper} {isA isB : List Nat} {a : Act} {w : World} (hi : ops[i]? = some oi) (hj : ops[j]? = some oj) (pi : plainOp oi = false) (pj : plainOp oj = false) (bA : ∀ k ∈ i :: isA, k < ops.size) (bB : ∀ k ∈ j :: isB, k < ops.size)
    (hA : wpLex P ops Q (pick ops.toList (i :: isA)) a w) (hB : wpLex P ops Q (pick ops.toList (j :: isB)) a w) : wpTree P ops Q (.two i j (stretch isA .nil) (stretch isB .nil)) a w := by
  have h1 := tree_of_lex (t := .nil) (fun a w h => tree_nil a w h) (i :: isA) a w bA (lex_is_K _ _ _ hA)
  have h2 := tree_of_lex (t := .nil) (fun a w h => tree_nil a w h) (j :: isB) a w bB (lex_is_K _ _ _ hB)
  unfold wpTree
  refine ⟨fun o ho => ?_, fun o ho => ?_⟩
  · rw [hi] at ho
    injection ho with ho
    subst ho
    exact step_of_tree hi pi h1
  · rw [hj] at ho
    injection ho with ho
    subst ho
    exact step_of_tree hj pj h2
def loudAt (ops : Array Oper) (i : Nat) : Bool := opAt ops i fun o => !plainOp o
/-- THE REGION: a stretch, then two that may come up at once. -/
theorem region_two {id : Nat} {a : Act} {w : World} {l : List Oper} (is : List Nat) (i j : Nat) (isA isB : List Nat) (hm : P.follows .mixedOrders = true) (hsel : Region.noSelect l.toArray = true) (hn : l.length = (stretch is (.two i j (stretch isA .nil) (stretch isB .nil))).depth)
    (hB : treeCheck .any l.toArray [] (stretch is (.two i j (stretch isA .nil) (stretch isB .nil))) = true) (hb : (is ++ i :: isA ++ j :: isB).all (fun k => decide (k < l.length)) = true) (hi : loudAt l.toArray i = true) (hj : loudAt l.toArray j = true)
    (h : wpLexK P l.toArray (NoPanic Q) (fun a w => wpLex P l.toArray (NoPanic Q) (pick l (i :: isA)) a w ∧ wpLex P l.toArray (NoPanic Q) (pick l (j :: isB)) a w) (pick l is) a w.drew) : (Code.region id l.toArray true).wp P Q a w := by
  refine region_tree _ hm hsel hn hB ?_
  rw [List.all_eq_true] at hb
  have hb' : ∀ k ∈ is ++ i :: isA ++ j :: isB, k < l.toArray.size := fun k hk => by simpa using hb k hk
  obtain ⟨oi, h1, p1⟩ := opAt_spec hi
  obtain ⟨oj, h2, p2⟩ := opAt_spec hj
  refine tree_of_lex (fun a w hK => ?_) is a w.drew (fun k hk => hb' k (by simp [hk])) h
  obtain ⟨hA, hB⟩ := hK w (Rb.refl w)
  exact tree_two h1 h2 (by simpa using p1) (by simpa using p2) (fun k hk => hb' k (by simp at hk ⊢; rcases hk with h | h <;> simp [h])) (fun k hk => hb' k (by simp at hk ⊢; rcases hk with h | h <;> simp [h])) hA hB
theorem lexK_nil {a : Act} {w : World} (h : ∀ w1, Below w.heap.size w w1 → K a w1) : wpLexK P ops Q K [] a w := fun w1 k => h w1 k.bel
theorem lexK_skip {o : Oper} {l : List Oper} {a : Act} {w : World} (hp : plainOp o = false) (hw : Region.wanted o (yielded ops a.tmps) = false) (h : ∀ w1, Below w.heap.size w w1 → wpLexK P ops Q K l (a.put o.dst undef) w1) : wpLexK P ops Q K (o :: l) a w := by
  unfold wpLexK
  rw [hp, if_neg (by decide)]
  intro w1 hw1
  rw [if_neg (by rw [hw]; decide)]
  exact h w1 hw1.bel
theorem lexK_call {o : Oper} {l : List Oper} {a : Act} {w : World} (hp : plainOp o = false) (hw : Region.wanted o (yielded ops a.tmps) = true)
    (h : ∀ w1, Below w.heap.size w w1 → ∀ K' : Act → World → Prop, (∀ a' w', Below w1.heap.size w1 w' → wpLexK P ops Q K l a' w' → K' a' w') → o.wp P a w1 K' Q) : wpLexK P ops Q K (o :: l) a w := by
  unfold wpLexK
  rw [hp, if_neg (by decide)]
  intro w1 hw1
  rw [if_pos hw]
  exact h w1 hw1.bel _ fun a' w' k1 k2 => ⟨Rb.of k1, k2⟩
theorem lexK_plain : ∀ (n : Nat) {l : List Oper} {a : Act} {w : World}, (l.take n).all plainOp = true → wpQuiet P ops (fun w1 => ∃ s : Wd w, w1 = s.w) (fun a' => wpLexK P ops Q K (l.drop n) a' w) (l.take n) a → wpLexK P ops Q K l a w
  | 0, _, _, _, _, h => by simpa [wpQuiet] using h
  | n + 1, [], _, _, _, h => by simpa [wpQuiet] using h
  | n + 1, o :: l, a, w, hp, h => by
    simp only [List.take_succ_cons, List.all_cons, Bool.and_eq_true] at hp
    simp only [List.take_succ_cons, List.drop_succ_cons, wpQuiet] at h
    unfold wpLexK
    rw [if_pos hp.1]
    split
    · rename_i hw
      rw [if_pos hw] at h
      exact Oper.quiet_mono (fun a' h' => lexK_plain n hp.2 h') h
    · rename_i hw
      rw [if_neg hw] at h
      exact lexK_plain n hp.2 h
end
end Go.Proofs.Ytcfmgoilncninaa
