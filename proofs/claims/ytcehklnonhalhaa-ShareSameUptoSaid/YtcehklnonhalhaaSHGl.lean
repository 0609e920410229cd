/-
  What the proofs of ShareSame and ShareLeft need: Gl.
-/
import Derived.Test.YtcehklnonhalhaaSHGk
namespace Go.Proofs.Ytcehklnonhalhaa
/-- how many of the first n are so. -/
def Cn (p : Nat → Bool) (n : Nat) : Nat := (List.range n).countP p
theorem Cn_succ (p : Nat → Bool) (n : Nat) : Cn p (n + 1) = Cn p n + if p n then 1 else 0 := by
  unfold Cn
  rw [List.range_succ, List.countP_append]
  simp [List.countP_cons]
theorem Cn_none {p : Nat → Bool} {n : Nat} (h : ∀ i < n, p i = false) : Cn p n = 0 := by
  induction n with
  | zero => rfl
  | succ n ih => rw [Cn_succ, ih fun i hi => h i (by omega), h n (by omega)]; rfl
theorem Cn_all {p : Nat → Bool} {n : Nat} (h : ∀ i < n, p i = true) : Cn p n = n := by
  induction n with
  | zero => rfl
  | succ n ih => rw [Cn_succ, ih fun i hi => h i (by omega), h n (by omega), if_pos rfl]
theorem Cn_le {p q : Nat → Bool} {n : Nat} (h : ∀ i < n, p i = true → q i = true) : Cn p n ≤ Cn q n := by
  induction n with
  | zero => exact Nat.le_refl _
  | succ n ih =>
    rw [Cn_succ, Cn_succ]
    have h1 := ih fun i hi => h i (by omega)
    have h2 := h n (by omega)
    cases hp : p n <;> cases hq : q n <;> simp_all <;> omega
theorem Cn_le_n (p : Nat → Bool) (n : Nat) : Cn p n ≤ n := by
  induction n with
  | zero => exact Nat.le_refl _
  | succ n ih => rw [Cn_succ]; split <;> omega
theorem Cn_mono (p : Nat → Bool) {a b : Nat} (h : a ≤ b) : Cn p a ≤ Cn p b := by
  induction b with
  | zero => have : a = 0 := by omega
            subst this; exact Nat.le_refl _
  | succ b ih =>
    rw [Cn_succ]
    by_cases e : a = b + 1
    · subst e; rw [Cn_succ]; exact Nat.le_refl _
    · have := ih (by omega); omega
theorem Cn_lt (p : Nat → Bool) {i j : Nat} (h : i < j) (hp : p i = true) : Cn p i < Cn p j := by
  have h1 := Cn_succ p i
  rw [hp, if_pos rfl] at h1
  have := Cn_mono p (show i + 1 ≤ j by omega)
  omega
section
variable (f : Nat → Nat) (n : Nat)
/-- below a level; at a level, ahead of a place. -/
def Lt (v : Nat) : Nat := Cn (fun i => decide (f i < v)) n
def Eqs (v j : Nat) : Nat := Cn (fun i => decide (f i = v)) j
theorem Lt_succ (v : Nat) : Lt f n (v + 1) = Lt f n v + Eqs f v n := by
  unfold Lt Eqs
  induction n with
  | zero => rfl
  | succ n ih =>
    rw [Cn_succ, Cn_succ, Cn_succ, ih]
    by_cases h1 : f n < v
    · rw [if_pos (by simp; omega), if_pos (by simpa using h1), if_neg (by simp; omega)]; omega
    · by_cases h2 : f n = v
      · rw [if_pos (by simp; omega), if_neg (by simpa using h1), if_pos (by simpa using h2)]; omega
      · rw [if_neg (by simp; omega), if_neg (by simpa using h1), if_neg (by simpa using h2)]; omega
theorem Lt_mono {v v' : Nat} (h : v ≤ v') : Lt f n v ≤ Lt f n v' := Cn_le fun i _ hi => by simp at hi ⊢; omega
def posS (i : Nat) : Nat := Lt f n (f i) + Eqs f (f i) i
theorem pos_lt {i : Nat} (hi : i < n) : posS f n i < n := by
  have h1 : Eqs f (f i) i < Eqs f (f i) n := Cn_lt _ hi (by simp)
  have h2 := Lt_succ f n (f i)
  have h3 : Lt f n (f i + 1) ≤ n := Cn_le_n _ _
  unfold posS
  omega
theorem pos_lt_of {i j : Nat} (hi : i < n) (h : f i < f j) : posS f n i < posS f n j := by
  have h1 : Eqs f (f i) i < Eqs f (f i) n := Cn_lt _ hi (by simp)
  have h2 := Lt_succ f n (f i)
  have h3 := Lt_mono f n (show f i + 1 ≤ f j by omega)
  unfold posS
  omega
theorem pos_lt_eq {i j : Nat} (hij : i < j) (h : f i = f j) : posS f n i < posS f n j := by
  have h1 : Eqs f (f i) i < Eqs f (f i) j := Cn_lt _ hij (by simp)
  unfold posS
  rw [← h]
  omega
theorem pos_ne {i j : Nat} (hi : i < n) (hj : j < n) (hne : i ≠ j) : posS f n i ≠ posS f n j := by
  rcases Nat.lt_trichotomy (f i) (f j) with h | h | h
  · exact Nat.ne_of_lt (pos_lt_of f n hi h)
  · rcases Nat.lt_or_gt_of_ne hne with g | g
    · exact Nat.ne_of_lt (pos_lt_eq f n g h)
    · exact Nat.ne_of_gt (pos_lt_eq f n g h.symm)
  · exact Nat.ne_of_gt (pos_lt_of f n hj h)
/-- the nodes in order: by levels, then by places. -/
def ordU (v : Nat) : List Nat := (List.range v).flatMap fun d => (List.range n).filter fun i => decide (f i = d)
theorem ordU_succ (v : Nat) : ordU f n (v + 1) = ordU f n v ++ (List.range n).filter fun i => decide (f i = v) := by
  unfold ordU
  rw [List.range_succ, List.flatMap_append]
  simp
theorem ordU_len (v : Nat) : (ordU f n v).length = Lt f n v := by
  induction v with
  | zero => exact (Cn_none fun i _ => by simp).symm
  | succ v ih =>
    rw [ordU_succ, List.length_append, ih, Lt_succ]
    congr 1
    unfold Eqs Cn
    rw [List.countP_eq_length_filter]
theorem ordU_mem {v i : Nat} : i ∈ ordU f n v ↔ i < n ∧ f i < v := by
  unfold ordU
  rw [List.mem_flatMap]
  simp only [List.mem_range, List.mem_filter, decide_eq_true_eq]
  constructor
  · rintro ⟨d, h1, h2, h3⟩; exact ⟨h2, by omega⟩
  · rintro ⟨h1, h2⟩; exact ⟨f i, h2, h1, rfl⟩
theorem ordU_nodup (v : Nat) : (ordU f n v).Nodup := by
  induction v with
  | zero => exact List.nodup_nil
  | succ v ih =>
    rw [ordU_succ]
    refine List.nodup_append.2 ⟨ih, List.nodup_range.filter _, fun a ha b hb e => ?_⟩
    subst e
    have h1 := (ordU_mem f n).1 ha
    have h2 := (List.mem_filter.1 hb).2
    simp at h2
    omega
theorem filter_at {p : Nat → Bool} {i : Nat} (hi : i < n) (hp : p i = true) : ((List.range n).filter p)[Cn p i]? = some i := by
  have e : List.range n = List.range i ++ i :: (List.range' (i + 1) (n - i - 1)) := by
    have h1 : List.range n = List.range i ++ List.range' i (n - i) := by
      have := List.range'_append (s := 0) (m := i) (n := n - i) (step := 1)
      rw [Nat.zero_add, Nat.one_mul, show i + (n - i) = n by omega] at this
      rw [List.range_eq_range', List.range_eq_range']
      exact this.symm
    rw [h1]
    congr 1
    rw [show n - i = (n - i - 1) + 1 by omega, List.range'_succ]
    simp
  rw [e, List.filter_append, List.filter_cons, if_pos hp]
  have hl : (List.filter p (List.range i)).length = Cn p i := by unfold Cn; rw [List.countP_eq_length_filter]
  rw [List.getElem?_append_right (by rw [hl]; exact Nat.le_refl _), hl, Nat.sub_self]
  rfl
theorem ordU_at {v i : Nat} (hi : i < n) (h : f i < v) : (ordU f n v)[posS f n i]? = some i := by
  induction v with
  | zero => omega
  | succ v ih =>
    rw [ordU_succ]
    by_cases e : f i < v
    · have h1 := ih e
      rw [List.getElem?_append_left (List.getElem?_eq_some_iff.1 h1).1]
      exact h1
    · have e : f i = v := by omega
      have h2 : posS f n i = (ordU f n v).length + Eqs f v i := by rw [ordU_len]; unfold posS; rw [e]
      rw [h2, List.getElem?_append_right (by omega), Nat.add_sub_cancel_left]
      exact filter_at n hi (by simpa using e)
/-- WHAT STANDS AT EACH NODE'S PLACE is the order. -/
theorem order_is {v : Nat} (h : ∀ i < n, f i < v) {o : List Int} (hl : o.length = n) (ho : ∀ i < n, o[posS f n i]? = some (i : Int)) : o = (ordU f n v).map fun i : Nat => (i : Int) := by
  have hlen : (ordU f n v).length = n := by
    rw [ordU_len]
    exact Cn_all fun i hi => by simpa using h i hi
  apply List.ext_getElem?
  intro k
  rw [List.getElem?_map]
  by_cases hk : k < n
  · obtain ⟨i, hi⟩ : ∃ i, (ordU f n v)[k]? = some i := ⟨(ordU f n v)[k]'(by omega), List.getElem?_eq_getElem _⟩
    have him := (ordU_mem f n).1 (List.mem_of_getElem? hi)
    have h2 := ordU_at f n him.1 him.2
    have hkp : k = posS f n i := (List.getElem?_inj (by omega) (ordU_nodup f n v)).1 (hi.trans h2.symm)
    rw [hi, hkp, ho i him.1]
    rfl
  · rw [List.getElem?_eq_none (by omega), List.getElem?_eq_none (by omega)]
    rfl
end
end Go.Proofs.Ytcehklnonhalhaa
