
/-
  Layer 7: mathematics: the values of a net's nodes are told by what each one hangs on; a run through an order finds them.
-/
import Derived.Test.YtcfmgoilncninaaHa
import Derived.Test.YtcfmgoilncninaaGbf
namespace Go.Proofs.Ytcfmgoilncninaa
set_option linter.unusedVariables false
set_option maxRecDepth 4000

/-! lists, set place by place -/
theorem getD_set (v : List Int) (q : Nat) (x : Int) (j : Nat) : (v.set q x).getD j 0 = if j = q ∧ q < v.length then x else v.getD j 0 := by
  rw [List.getD_eq_getElem?_getD, List.getD_eq_getElem?_getD, List.getElem?_set]
  by_cases h : q = j
  · subst h
    by_cases hl : q < v.length
    · simp [hl]
    · simp [hl]
  · rw [if_neg h, if_neg (fun e => h e.1.symm)]
theorem ext_getD {u v : List Int} {n : Nat} (hu : u.length = n) (hv : v.length = n) (h : ∀ i < n, u.getD i 0 = v.getD i 0) : u = v := by
  apply List.ext_getElem (by omega)
  intro i h1 h2
  have := h i (by omega)
  rw [List.getD_eq_getElem?_getD, List.getD_eq_getElem?_getD, List.getElem?_eq_getElem h1, List.getElem?_eq_getElem h2] at this
  exact this
theorem range_map {α β : Type} (L : List α) (d : α) (g : α → β) : (List.range L.length).map (fun i => g (L.getD i d)) = L.map g := by
  apply List.ext_getElem (by simp)
  intro i h1 h2
  simp at h1 h2
  simp [h2]
theorem range_flat {α β : Type} (L : List α) (d : α) (g : α → List β) : (List.range L.length).flatMap (fun i => g (L.getD i d)) = L.flatMap g := by
  rw [List.flatMap_def, List.flatMap_def, range_map]
def runL (h : Nat → List Int → Int) (L : List Nat) (v : List Int) : List Int := L.foldl (fun v q => v.set q (h q v)) v
def Ord (dep : Nat → List Nat) : List Nat → Prop
  | [] => True
  | q :: L => q ∉ L ∧ (∀ j ∈ dep q, j ≠ q ∧ j ∉ L) ∧ Ord dep L
theorem runL_len (h : Nat → List Int → Int) : ∀ (L : List Nat) (v : List Int), (runL h L v).length = v.length
  | [], v => rfl
  | q :: L, v => by
    show (runL h L (v.set q (h q v))).length = _
    rw [runL_len h L, List.length_set]
theorem runL_at {h : Nat → List Int → Int} {dep : Nat → List Nat} : ∀ (L : List Nat) (v : List Int), (∀ q ∈ L, ∀ u v : List Int, (∀ j ∈ dep q, u.getD j 0 = v.getD j 0) → h q u = h q v) → Ord dep L → (∀ q ∈ L, q < v.length) → (∀ q ∈ L, (runL h L v).getD q 0 = h q (runL h L v)) ∧ (∀ q, q ∉ L → (runL h L v).getD q 0 = v.getD q 0)
  | [], v, _, _, _ => ⟨fun q hq => (by cases hq), fun q _ => rfl⟩
  | q :: L, v, hd, ho, hl => by
    obtain ⟨h1, h2, h3⟩ := ho
    have hq := hl q (List.mem_cons_self ..)
    obtain ⟨i1, i2⟩ := runL_at (h := h) (dep := dep) L (v.set q (h q v)) (fun p hp => hd p (List.mem_cons_of_mem _ hp)) h3 (fun p hp => by rw [List.length_set]; exact hl p (List.mem_cons_of_mem _ hp))
    have e : runL h (q :: L) v = runL h L (v.set q (h q v)) := rfl
    rw [e]
    have hqq : (runL h L (v.set q (h q v))).getD q 0 = h q (runL h L (v.set q (h q v))) := by
      rw [i2 q h1, getD_set, if_pos ⟨rfl, hq⟩]
      apply hd q (List.mem_cons_self ..)
      intro j hj
      obtain ⟨g1, g2⟩ := h2 j hj
      rw [i2 j g2, getD_set, if_neg (fun e => g1 e.1)]
    refine ⟨fun p hp => ?_, fun p hp => ?_⟩
    · rcases List.mem_cons.1 hp with rfl | hp
      · exact hqq
      · exact i1 p hp
    · rw [List.mem_cons, not_or] at hp
      rw [i2 p hp.2, getD_set, if_neg (fun e => hp.1 e.1)]
theorem ord_of {dep : Nat → List Nat} {f : Nat → Nat} : ∀ {L : List Nat}, L.Nodup → L.Pairwise (fun i j => f i ≤ f j) → (∀ q ∈ L, ∀ j ∈ dep q, f j < f q) → Ord dep L
  | [], _, _, _ => trivial
  | q :: L, h1, h2, h3 => by
    rw [List.nodup_cons] at h1
    rw [List.pairwise_cons] at h2
    refine ⟨h1.1, fun j hj => ?_, ord_of h1.2 h2.2 fun p hp => h3 p (List.mem_cons_of_mem _ hp)⟩
    have h4 := h3 q (List.mem_cons_self ..) j hj
    refine ⟨fun e => ?_, fun hm => ?_⟩
    · subst e; omega
    · have := h2.1 j hm; omega
def setL (W : List (Nat × Int)) (v : List Int) : List Int := W.foldl (fun v p => v.set p.1 p.2) v
def csetL (W : List (Nat × Int)) (v : List Int) : List Int := W.foldl (fun v p => if p.2 = 1 then v.set p.1 1 else v) v
theorem setL_len : ∀ (W : List (Nat × Int)) (v : List Int), (setL W v).length = v.length
  | [], v => rfl
  | p :: W, v => by
    show (setL W (v.set p.1 p.2)).length = _
    rw [setL_len W, List.length_set]
theorem csetL_len : ∀ (W : List (Nat × Int)) (v : List Int), (csetL W v).length = v.length
  | [], v => rfl
  | p :: W, v => by
    show (csetL W (if p.2 = 1 then v.set p.1 1 else v)).length = _
    rw [csetL_len W]
    split
    · rw [List.length_set]
    · rfl
theorem setL_at : ∀ (W : List (Nat × Int)) (v : List Int), (W.map (·.1)).Nodup → (∀ p ∈ W, p.1 < v.length) → (∀ p ∈ W, (setL W v).getD p.1 0 = p.2) ∧ (∀ q, q ∉ W.map (·.1) → (setL W v).getD q 0 = v.getD q 0)
  | [], v, _, _ => ⟨fun p hp => (by cases hp), fun q _ => rfl⟩
  | p :: W, v, hn, hl => by
    rw [List.map_cons, List.nodup_cons] at hn
    obtain ⟨i1, i2⟩ := setL_at W (v.set p.1 p.2) hn.2 (fun r hr => by rw [List.length_set]; exact hl r (List.mem_cons_of_mem _ hr))
    have e : setL (p :: W) v = setL W (v.set p.1 p.2) := rfl
    rw [e]
    refine ⟨fun r hr => ?_, fun q hq => ?_⟩
    · rcases List.mem_cons.1 hr with rfl | hr
      · rw [i2 _ hn.1, getD_set, if_pos ⟨rfl, hl _ (List.mem_cons_self ..)⟩]
      · exact i1 r hr
    · rw [List.map_cons, List.mem_cons, not_or] at hq
      rw [i2 q hq.2, getD_set, if_neg (fun e => hq.1 e.1)]
theorem csetL_at : ∀ (W : List (Nat × Int)) (v : List Int), (W.map (·.1)).Nodup → (∀ p ∈ W, p.1 < v.length) → (∀ p ∈ W, p.2 = 0 ∨ p.2 = 1) → (∀ p ∈ W, v.getD p.1 0 = 0) → (∀ p ∈ W, (csetL W v).getD p.1 0 = p.2) ∧ (∀ q, q ∉ W.map (·.1) → (csetL W v).getD q 0 = v.getD q 0)
  | [], v, _, _, _, _ => ⟨fun p hp => (by cases hp), fun q _ => rfl⟩
  | p :: W, v, hn, hl, h01, hz => by
    rw [List.map_cons, List.nodup_cons] at hn
    have key : ∀ q, (if p.2 = 1 then v.set p.1 1 else v).getD q 0 = if q = p.1 then p.2 else v.getD q 0 := fun q => by
      have hl1 := hl p (List.mem_cons_self ..)
      rcases h01 p (List.mem_cons_self ..) with h | h
      · rw [h, if_neg (by omega)]
        split
        · rename_i e; rw [e]; exact hz p (List.mem_cons_self ..)
        · rfl
      · rw [h, if_pos rfl, getD_set]
        by_cases e : q = p.1
        · rw [if_pos ⟨e, hl1⟩, if_pos e]
        · rw [if_neg (fun x => e x.1), if_neg e]
    obtain ⟨i1, i2⟩ := csetL_at W (if p.2 = 1 then v.set p.1 1 else v) hn.2 (fun r hr => by
        have := hl r (List.mem_cons_of_mem _ hr)
        split
        · rw [List.length_set]; exact this
        · exact this) (fun r hr => h01 r (List.mem_cons_of_mem _ hr)) (fun r hr => by
        rw [key, if_neg (fun e => hn.1 (by rw [← e]; exact List.mem_map.2 ⟨r, hr, rfl⟩))]
        exact hz r (List.mem_cons_of_mem _ hr))
    have e : csetL (p :: W) v = csetL W (if p.2 = 1 then v.set p.1 1 else v) := rfl
    rw [e]
    refine ⟨fun r hr => ?_, fun q hq => ?_⟩
    · rcases List.mem_cons.1 hr with rfl | hr
      · rw [i2 _ hn.1, key, if_pos rfl]
      · exact i1 r hr
    · rw [List.map_cons, List.mem_cons, not_or] at hq
      rw [i2 q hq.2, key, if_neg hq.1]

/-! nodes' values -/
def isGs (k : Int) : Bool := decide (k ≠ 0) && (decide (k ≠ 1) && decide (k ≠ 7))
/-- what a node's value is, by the state, what comes in, and the values. -/
def nodeS (x : Nd) (st inn : List Int) (i : Nat) (u : List Int) : Int := if x.k = 0 then x.a else if x.k = 1 then inn.getD i 0 else if x.k = 7 then st.getD i 0 else gateS x u
/-- these are the values. -/
def Sol (N : List Nd) (st inn u : List Int) : Prop := u.length = N.length ∧ ∀ i < N.length, u.getD i 0 = nodeS (N.getD i nd0) st inn i u
theorem gate_dep {x : Nd} {n : Int} (hf : formedS n x = true) (h7 : x.k ≠ 7) {u v : List Int} (h : ∀ j ∈ needS x, u.getD j 0 = v.getD j 0) : gvS x.k (atI u x.a) (atI u x.b) (atI u x.c) = gvS x.k (atI v x.a) (atI v x.b) (atI v x.c) ∨ ¬ isGs x.k = true := by
  by_cases hg : isGs x.k = true
  · left
    unfold formedS kindS at hf
    unfold isGs at hg
    simp only [Bool.and_eq_true, decide_eq_true_eq] at hf hg
    unfold needS at h
    rw [if_neg h7] at h
    unfold usesS manyS at h
    unfold gvS atI
    rcases (show x.k = 2 ∨ x.k = 3 ∨ x.k = 4 ∨ x.k = 5 ∨ x.k = 6 by omega) with e | e | e | e | e
    all_goals rw [e] at h ⊢
    all_goals simp at h ⊢
    · rw [h]
    · rw [h.1, h.2]
    · rw [h.1, h.2]
    · rw [h.1, h.2]
    · rw [h.1, h.2.1, h.2.2]
  · exact .inr hg
theorem isGs_of {k : Int} (h0 : k ≠ 0) (h1 : k ≠ 1) (h7 : k ≠ 7) : isGs k = true := by unfold isGs; simp [h0, h1, h7]
theorem node_dep {x : Nd} {n : Int} (hf : formedS n x = true) (st inn : List Int) (i : Nat) {u v : List Int} (h : ∀ j ∈ needS x, u.getD j 0 = v.getD j 0) : nodeS x st inn i u = nodeS x st inn i v := by
  unfold nodeS
  by_cases h0 : x.k = 0
  · rw [if_pos h0, if_pos h0]
  by_cases h1 : x.k = 1
  · rw [if_neg h0, if_neg h0, if_pos h1, if_pos h1]
  by_cases h7 : x.k = 7
  · rw [if_neg h0, if_neg h0, if_neg h1, if_neg h1, if_pos h7, if_pos h7]
  rw [if_neg h0, if_neg h0, if_neg h1, if_neg h1, if_neg h7, if_neg h7]
  unfold gateS
  rcases gate_dep hf h7 h with e | e
  · exact e
  · exact absurd (isGs_of h0 h1 h7) e
theorem formed_at {N : List Nd} {n : Int} (hf : N.all (formedS n) = true) {i : Nat} (hi : i < N.length) : formedS n (N.getD i nd0) = true := by
  rw [List.getD_eq_getElem?_getD, List.getElem?_eq_getElem hi]
  exact List.all_eq_true.1 hf _ (List.getElem_mem hi)
theorem hneed_lt {N : List Nd} {f : Nat → Nat} (hf : All N f) {i : Nat} (hi : i < N.length) {j : Nat} (hj : j ∈ needS (N.getD i nd0)) : f j < f i ∧ j < N.length := by
  obtain ⟨x, hx, h1, h2⟩ := hf i hi
  rw [getD_of hx] at hj
  exact ⟨lead_lt hf ⟨x, hx, hj⟩, h1 j hj⟩
/-- THE VALUES ARE TOLD. -/
theorem sol_unique {N : List Nd} {f : Nat → Nat} (ha : All N f) {n : Int} (hf : N.all (formedS n) = true) {st inn u v : List Int} (hu : Sol N st inn u) (hv : Sol N st inn v) : u = v := by
  refine ext_getD hu.1 hv.1 ?_
  suffices h : ∀ d i, f i < d → i < N.length → u.getD i 0 = v.getD i 0 from fun i hi => h (f i + 1) i (by omega) hi
  intro d
  induction d with
  | zero => intro i h; omega
  | succ d ih =>
    intro i hfi hi
    rw [hu.2 i hi, hv.2 i hi]
    refine node_dep (formed_at hf hi) st inn i fun j hj => ?_
    obtain ⟨h1, h2⟩ := hneed_lt ha hi hj
    exact ih j (by omega) h2

/-! orders -/
structure Od (N : List Nd) (f : Nat → Nat) (L : List Nat) : Prop where
  nd : L.Nodup
  mem : ∀ i, i ∈ L ↔ i < N.length
  all : All N f
  up : L.Pairwise (fun i j => f i ≤ f j)
theorem ordU_up (f : Nat → Nat) (n v : Nat) : (ordU f n v).Pairwise (fun i j => f i ≤ f j) := by
  induction v with
  | zero => exact List.Pairwise.nil
  | succ v ih =>
    rw [ordU_succ, List.pairwise_append]
    have key : ∀ i ∈ (List.range n).filter (fun i => decide (f i = v)), f i = v := fun i hi => by simpa using (List.mem_filter.1 hi).2
    refine ⟨ih, ?_, fun a ha b hb => ?_⟩
    · exact List.pairwise_iff_getElem.2 fun i j hi hj _ => by rw [key _ (List.getElem_mem hi), key _ (List.getElem_mem hj)]; exact Nat.le_refl _
    · have h1 := ((ordU_mem f n).1 ha).2
      rw [key b hb]
      omega
theorem od_of {N : List Nd} {I O : List Pt} {dd : List Nat} {e : Int} (hl : levelS N I O = (some dd, e)) : e = 0 ∧ dd.length = N.length ∧ N.all (formedS N.length) = true ∧ (∀ p ∈ I ++ O, bitsS N.length p = true) ∧ fedS N I = true ∧ Od N (fun i => dd.getD i 0) (ordU (fun i => dd.getD i 0) dd.length dd.length) ∧ ordO (some dd) = nI (ordU (fun i => dd.getD i 0) dd.length dd.length) := by
  unfold levelS at hl
  split at hl
  · injection hl with h1 h2
    cases h1
  · rename_i h0
    have h0 : wrongS N I O = 0 := by simpa using h0
    obtain ⟨_, w2, w3, _, _, w6⟩ := wrongS_ok.1 h0
    split at hl
    · rename_i d hd
      injection hl with h1 h2
      injection h1 with h1
      subst h1
      obtain ⟨a, b⟩ := levS_some hd
      refine ⟨h2.symm, a, w2, fun p hp => List.all_eq_true.1 w3 p hp, w6, ⟨ordU_nodup _ _ _, fun i => ?_, b, ordU_up _ _ _⟩, ordO_is _⟩
      rw [ordU_mem, a]
      exact ⟨fun h => h.1, fun h => ⟨h, all_lt b h⟩⟩
    · injection hl with h1 h2
      cases h1
theorem no_of {N : List Nd} {I O : List Pt} {e : Int} (hl : levelS N I O = (none, e)) : e ≠ 0 := by
  intro e0
  subst e0
  unfold levelS at hl
  split at hl
  · rename_i h
    injection hl with h1 h2
    exact h h2
  · split at hl
    · injection hl with h1 h2
      cases h1
    · injection hl with h1 h2
      cases h2
def gatesS (N : List Nd) (L : List Nat) : List Nat := L.filter fun q => isGs (N.getD q nd0).k
def regsS (N : List Nd) (L : List Nat) : List Nat := L.filter fun q => decide ((N.getD q nd0).k = 7)
theorem Od.ord {N : List Nd} {f : Nat → Nat} {L : List Nat} (h : Od N f L) (p : Nat → Bool) : Ord (fun q => needS (N.getD q nd0)) (L.filter p) :=
  ord_of (f := f) (h.nd.filter _) (h.up.sublist List.filter_sublist) fun q hq j hj => (hneed_lt h.all ((h.mem q).1 (List.mem_filter.1 hq).1) hj).1
theorem runS_is (N : List Nd) (G : List Int) (v : List Int) : ∀ j, runS N G v j = runL (fun q u => gateS (N.getD q nd0) u) ((List.range j).map fun i => (G.getD i 0).toNat) v
  | 0 => rfl
  | j + 1 => by
    unfold runS
    rw [List.range_succ, List.map_append, runS_is N G v j]
    unfold runL
    rw [List.foldl_append]
    rfl
theorem runS_nI (N : List Nd) (G : List Nat) (v : List Int) : runS N (nI G) v (nI G).length = runL (fun q u => gateS (N.getD q nd0) u) G v := by
  rw [runS_is]
  congr 1
  rw [range_map (nI G) 0 Int.toNat]
  unfold nI
  rw [List.map_map]
  exact (List.map_congr_left fun x _ => Int.toNat_natCast x).trans (List.map_id _)
theorem nextS_is (N : List Nd) (R u : List Int) (v : List Int) : ∀ j, nextS N R u v j = runL (fun q _ => atI u (N.getD q nd0).a) ((List.range j).map fun i => (R.getD i 0).toNat) v
  | 0 => rfl
  | j + 1 => by
    unfold nextS
    rw [List.range_succ, List.map_append, nextS_is N R u v j]
    unfold runL
    rw [List.foldl_append]
    rfl
theorem nextS_nI (N : List Nd) (R : List Nat) (u v : List Int) : nextS N (nI R) u v (nI R).length = runL (fun q _ => atI u (N.getD q nd0).a) R v := by
  rw [nextS_is]
  congr 1
  rw [range_map (nI R) 0 Int.toNat]
  unfold nI
  rw [List.map_map]
  exact (List.map_congr_left fun x _ => Int.toNat_natCast x).trans (List.map_id _)
/-! what comes in -/
def prP (p : Pt) (x : Nat) : List (Nat × Int) := (List.range p.bits.length).map fun k => ((p.bits.getD k 0).toNat, bitI x k)
def prI (I : List Pt) (xs : List Nat) : List (Nat × Int) := (List.range I.length).flatMap fun i => prP (I.getD i pt0) (xs.getD i 0)
theorem setS_is (bs : List Int) (x : Nat) (v : List Int) : ∀ j, setS bs x v j = setL ((List.range j).map fun k => ((bs.getD k 0).toNat, bitI x k)) v
  | 0 => rfl
  | j + 1 => by
    unfold setS
    rw [List.range_succ, List.map_append, setS_is bs x v j]
    unfold setL
    rw [List.foldl_append]
    rfl
theorem insS_is (I : List Pt) (xs : List Nat) (v : List Int) : ∀ j, insS I xs v j = setL ((List.range j).flatMap fun i => prP (I.getD i pt0) (xs.getD i 0)) v
  | 0 => rfl
  | j + 1 => by
    unfold insS
    rw [List.range_succ, List.flatMap_append, insS_is I xs v j, setS_is]
    unfold setL
    rw [List.foldl_append]
    simp [prP]
theorem prI_keys (I : List Pt) (xs : List Nat) : (prI I xs).map (·.1) = (comesS I).map Int.toNat := by
  unfold prI comesS
  rw [List.map_flatMap]
  have : ∀ i, (prP (I.getD i pt0) (xs.getD i 0)).map (·.1) = (I.getD i pt0).bits.map Int.toNat := fun i => by
    unfold prP
    rw [List.map_map]
    exact range_map _ 0 Int.toNat
  simp only [this]
  rw [range_flat I pt0 (fun p => p.bits.map Int.toNat), List.map_flatMap]
/-- as the reference does it: of so many bits of a port, of so many ports. -/
def setR (bs : List Int) (x : Nat) (v : List Int) : Nat → List Int
  | 0 => v
  | j + 1 => if bitI x j = 1 then (setR bs x v j).set (bs.getD j 0).toNat 1 else setR bs x v j
def insR (I : List Pt) (xs : List Nat) (v : List Int) : Nat → List Int
  | 0 => v
  | i + 1 => setR (I.getD i pt0).bits (xs.getD i 0) (insR I xs v i) (blen (xs.getD i 0))
theorem setR_len (bs : List Int) (x : Nat) (v : List Int) : ∀ j, (setR bs x v j).length = v.length
  | 0 => rfl
  | j + 1 => by
    unfold setR
    split
    · rw [List.length_set, setR_len bs x v j]
    · exact setR_len bs x v j
theorem insR_len (I : List Pt) (xs : List Nat) (v : List Int) : ∀ j, (insR I xs v j).length = v.length
  | 0 => rfl
  | j + 1 => by unfold insR; rw [setR_len, insR_len I xs v j]
theorem setR_is (bs : List Int) (x : Nat) (v : List Int) : ∀ j, setR bs x v j = csetL ((List.range j).map fun k => ((bs.getD k 0).toNat, bitI x k)) v
  | 0 => rfl
  | j + 1 => by
    unfold setR
    rw [List.range_succ, List.map_append, setR_is bs x v j]
    unfold csetL
    rw [List.foldl_append]
    rfl
theorem setR_more (bs : List Int) (x : Nat) (v : List Int) {j : Nat} (hj : blen x ≤ j) : setR bs x v j = setR bs x v (blen x) := by
  obtain ⟨d, rfl⟩ : ∃ d, j = blen x + d := ⟨j - blen x, by omega⟩
  induction d with
  | zero => rfl
  | succ d ih =>
    rw [← Nat.add_assoc, setR, if_neg, ih (by omega)]
    have h1 : x < 2 ^ (blen x + d) := Nat.lt_of_lt_of_le ((blen_le x (blen x)).1 (Nat.le_refl _)) (Nat.pow_le_pow_right (by decide) (by omega))
    unfold bitI
    rw [Nat.div_eq_of_lt h1]
    decide
theorem insR_is (I : List Pt) (xs : List Nat) (v : List Int) : ∀ j, (∀ i < j, blen (xs.getD i 0) ≤ (I.getD i pt0).bits.length) → insR I xs v j = csetL ((List.range j).flatMap fun i => prP (I.getD i pt0) (xs.getD i 0)) v
  | 0, _ => rfl
  | j + 1, h => by
    unfold insR
    rw [List.range_succ, List.flatMap_append, ← setR_more _ _ _ (h j (by omega)), insR_is I xs v j fun i hi => h i (by omega), setR_is]
    unfold csetL
    rw [List.foldl_append]
    simp [prP]
end Go.Proofs.Ytcfmgoilncninaa
