/-
  What the proofs of OptSweeps and OptSettles need: Wa Wm Wq.
-/
import Derived.Test.YtcehklnonhalhaaSOYr
namespace Go.Proofs.Ytcehklnonhalhaa
set_option linter.unusedVariables false
set_option maxRecDepth 4000

/-- on these, or on one on which one of these hangs. -/
inductive Rch (N : List Nd) (F : Nat → Prop) : Nat → Prop where
  | base {p : Nat} : F p → Rch N F p
  | step {p : Nat} {y : Int} : Rch N F p → y ∈ usesS (N.getD p nd0) → Rch N F y.toNat
/-- one more place that waits, where it wasn't seen. -/
def awS (t : List Bool × List Int) (y : Int) : List Bool × List Int := if t.1.getD y.toNat false = true then t else (t.1.set y.toNat true, t.2 ++ [y])
def awF (t : List Bool × List Int) (Y : List Int) : List Bool × List Int := Y.foldl awS t
theorem awF_snoc (t : List Bool × List Int) {Y : List Int} {k : Nat} {y : Int} (h : Y[k]? = some y) : awF t (Y.take (k + 1)) = awS (awF t (Y.take k)) y := by
  unfold awF
  rw [List.take_add_one, h, List.foldl_append]
  rfl
def cntF (B : List Bool) : Nat := B.count false
theorem getD_set_b (B : List Bool) (m p : Nat) (hm : m < B.length) : (B.set m true).getD p false = if p = m then true else B.getD p false := by
  rw [List.getD_eq_getElem?_getD, List.getD_eq_getElem?_getD, List.getElem?_set]
  by_cases e : p = m
  · subst e
    rw [if_pos rfl, if_pos rfl, if_pos hm]
    rfl
  · rw [if_neg (fun k => e k.symm), if_neg e]
theorem cnt_set : ∀ (B : List Bool) (m : Nat), m < B.length → B.getD m false = false → cntF (B.set m true) + 1 = cntF B
  | [], m, h, _ => absurd h (Nat.not_lt_zero _)
  | b :: B, 0, _, hf => by
    have : b = false := hf
    subst this
    simp [cntF]
  | b :: B, m + 1, h, hf => by
    have := cnt_set B m (Nat.lt_of_succ_lt_succ h) hf
    unfold cntF at this ⊢
    rw [List.set_cons_succ]
    cases b <;> simp <;> omega
/-- what an awaiting does. -/
structure Aw (B : List Bool) (T : List Int) (Y : List Int) (B' : List Bool) (T' : List Int) : Prop where
  len : B'.length = B.length
  up : ∀ p, B.getD p false = true → B'.getD p false = true
  all : ∀ y ∈ Y, B'.getD y.toNat false = true
  new : ∀ p, B'.getD p false = true → B.getD p false = true ∨ ((p : Int) ∈ Y ∧ (p : Int) ∈ T')
  old : ∀ t ∈ T, t ∈ T'
  only : ∀ t ∈ T', t ∈ T ∨ t ∈ Y
  meas : T'.length + cntF B' = T.length + cntF B
theorem Aw.refl (B : List Bool) (T : List Int) : Aw B T [] B T := ⟨rfl, fun p h => h, fun y h => (by cases h), fun p h => .inl h, fun t h => h, fun t h => .inl h, rfl⟩
theorem Aw.step {B B' : List Bool} {T T' Y : List Int} (h : Aw B T Y B' T') {m : Nat} (hm : m < B.length) : Aw B T (Y ++ [(m : Int)]) (awS (B', T') (m : Int)).1 (awS (B', T') (m : Int)).2 := by
  unfold awS
  rw [Int.toNat_natCast]
  by_cases hb : B'.getD m false = true
  · rw [if_pos hb]
    refine ⟨h.len, h.up, fun y hy => ?_, fun p hp => ?_, h.old, fun t ht => ?_, h.meas⟩
    · rcases List.mem_append.1 hy with hy | hy
      · exact h.all y hy
      · rw [List.mem_singleton.1 hy, Int.toNat_natCast]
        exact hb
    · rcases h.new p hp with k | ⟨k1, k2⟩
      · exact .inl k
      · exact .inr ⟨List.mem_append_left _ k1, k2⟩
    · rcases h.only t ht with k | k
      · exact .inl k
      · exact .inr (List.mem_append_left _ k)
  · rw [if_neg hb]
    have hf : B'.getD m false = false := by simpa using hb
    have hm' : m < B'.length := by rw [h.len]; exact hm
    have e := fun p => getD_set_b B' m p hm'
    refine ⟨by rw [List.length_set]; exact h.len, fun p hp => ?_, fun y hy => ?_, fun p hp => ?_, fun t ht => List.mem_append_left _ (h.old t ht), fun t ht => ?_, ?_⟩
    · show (B'.set m true).getD p false = true
      rw [e]
      split
      · rfl
      · exact h.up p hp
    · show (B'.set m true).getD y.toNat false = true
      rw [e]
      rcases List.mem_append.1 hy with hy | hy
      · split
        · rfl
        · exact h.all y hy
      · rw [List.mem_singleton.1 hy, Int.toNat_natCast, if_pos rfl]
    · have hp : (B'.set m true).getD p false = true := hp
      rw [e] at hp
      by_cases k : p = m
      · subst k
        exact .inr ⟨List.mem_append_right _ (List.mem_singleton.2 rfl), List.mem_append_right _ (List.mem_singleton.2 rfl)⟩
      · rw [if_neg k] at hp
        rcases h.new p hp with k | ⟨k1, k2⟩
        · exact .inl k
        · exact .inr ⟨List.mem_append_left _ k1, List.mem_append_left _ k2⟩
    · rcases List.mem_append.1 ht with ht | ht
      · rcases h.only t ht with k | k
        · exact .inl k
        · exact .inr (List.mem_append_left _ k)
      · exact .inr (List.mem_append_right _ ht)
    · show (T' ++ [(m : Int)]).length + cntF (B'.set m true) = _
      have := cnt_set B' m hm' hf
      have := h.meas
      rw [List.length_append, List.length_singleton]
      omega
/-- places of a net. -/
def Plc (n : Nat) (Y : List Int) : Prop := ∀ y ∈ Y, ∃ m : Nat, y = (m : Int) ∧ m < n
theorem aw_all {B : List Bool} {T : List Int} : ∀ {Y : List Int}, Plc B.length Y → Aw B T Y (awF (B, T) Y).1 (awF (B, T) Y).2 := by
  intro Y hY
  have key : ∀ k, k ≤ Y.length → Aw B T (Y.take k) (awF (B, T) (Y.take k)).1 (awF (B, T) (Y.take k)).2 := by
    intro k
    induction k with
    | zero => intro _; exact Aw.refl B T
    | succ k ih =>
      intro hk
      have ih := ih (by omega)
      obtain ⟨y, hy⟩ : ∃ y, Y[k]? = some y := ⟨_, List.getElem?_eq_getElem hk⟩
      obtain ⟨m, rfl, hm⟩ := hY y (List.mem_of_getElem? hy)
      rw [awF_snoc _ hy, List.take_add_one, hy]
      exact ih.step hm
  have := key Y.length (Nat.le_refl _)
  rw [List.take_length] at this
  exact this
/-- as far as it has come: those that wait are seen, and of all others what they use is. -/
structure Rv (N : List Nd) (F : Nat → Prop) (B : List Bool) (T : List Int) : Prop where
  len : B.length = N.length
  wt : Plc N.length T
  wb : ∀ t ∈ T, B.getD t.toNat false = true
  snd : ∀ p, B.getD p false = true → Rch N F p
  frm : ∀ p, F p → B.getD p false = true
  cls : ∀ p, B.getD p false = true → (p : Int) ∉ T → ∀ y ∈ usesS (N.getD p nd0), B.getD y.toNat false = true
theorem Rv.start {N : List Nd} {Y : List Int} (hY : Plc N.length Y) : Rv N (fun p => (p : Int) ∈ Y) (awF (List.replicate N.length false, []) Y).1 (awF (List.replicate N.length false, []) Y).2 := by
  have hl : (List.replicate N.length false).length = N.length := by simp
  have h := aw_all (B := List.replicate N.length false) (T := []) (Y := Y) (by rw [hl]; exact hY)
  have h0 : ∀ p, (List.replicate N.length false).getD p false = true → False := fun p hp => by
    rw [List.getD_eq_getElem?_getD, List.getElem?_replicate] at hp
    split at hp <;> cases hp
  refine ⟨h.len.trans hl, fun t ht => ?_, fun t ht => ?_, fun p hp => ?_, fun p hp => ?_, fun p hp hn => ?_⟩
  · rcases h.only t ht with k | k
    · cases k
    · exact hY t k
  · rcases h.only t ht with k | k
    · cases k
    · exact h.all t k
  · rcases h.new p hp with k | ⟨k, _⟩
    · exact (h0 p k).elim
    · exact .base k
  · have := h.all _ hp
    rw [Int.toNat_natCast] at this
    exact this
  · rcases h.new p hp with k | ⟨_, k⟩
    · exact (h0 p k).elim
    · exact absurd k hn
theorem Rv.pop {N : List Nd} {F : Nat → Prop} {B : List Bool} {V : List Int} {q : Nat} (h : Rv N F B (V ++ [(q : Int)])) (hN : Plc N.length (usesS (N.getD q nd0))) : Rv N F (awF (B, V) (usesS (N.getD q nd0))).1 (awF (B, V) (usesS (N.getD q nd0))).2 ∧ (awF (B, V) (usesS (N.getD q nd0))).2.length + cntF (awF (B, V) (usesS (N.getD q nd0))).1 = V.length + cntF B := by
  have k := aw_all (B := B) (T := V) (Y := usesS (N.getD q nd0)) (by rw [h.len]; exact hN)
  have hq : B.getD q false = true := by
    have := h.wb (q : Int) (List.mem_append_right _ (List.mem_singleton.2 rfl))
    rw [Int.toNat_natCast] at this
    exact this
  refine ⟨⟨k.len.trans h.len, fun t ht => ?_, fun t ht => ?_, fun p hp => ?_, fun p hp => k.up p (h.frm p hp), fun p hp hn y hy => ?_⟩, k.meas⟩
  · rcases k.only t ht with e | e
    · exact h.wt t (List.mem_append_left _ e)
    · exact hN t e
  · rcases k.only t ht with e | e
    · exact k.up _ (h.wb t (List.mem_append_left _ e))
    · exact k.all t e
  · rcases k.new p hp with e | ⟨e, _⟩
    · exact h.snd p e
    · have := Rch.step (h.snd q hq) e
      rw [Int.toNat_natCast] at this
      exact this
  · rcases k.new p hp with e | ⟨_, e⟩
    · by_cases hpq : p = q
      · subst hpq
        exact k.all y hy
      · refine k.up _ (h.cls p e (fun m => ?_) y hy)
        rcases List.mem_append.1 m with m | m
        · exact hn (k.old _ m)
        · have := List.mem_singleton.1 m
          omega
    · exact absurd e hn
theorem Rv.done {N : List Nd} {F : Nat → Prop} {B : List Bool} (h : Rv N F B []) (p : Nat) : B.getD p false = true ↔ Rch N F p := by
  refine ⟨h.snd p, fun r => ?_⟩
  induction r with
  | base hf => exact h.frm _ hf
  | step _ hy ih => exact h.cls _ ih (by simp) _ hy
end Go.Proofs.Ytcehklnonhalhaa
namespace Go.Proofs.Ytcehklnonhalhaa
set_option linter.unusedVariables false
set_option maxRecDepth 4000

theorem Rch.closed {N : List Nd} {F G : Nat → Prop} (hF : ∀ p, F p → G p) (hc : ∀ p, G p → ∀ y ∈ usesS (N.getD p nd0), G y.toNat) {p : Nat} (h : Rch N F p) : G p := by
  induction h with
  | base hf => exact hF _ hf
  | step _ hy ih => exact hc _ ih _ hy
end Go.Proofs.Ytcehklnonhalhaa
namespace Go.Proofs.Ytcehklnonhalhaa
set_option linter.unusedVariables false
set_option maxRecDepth 4000

def LeB (A B : List Bool) : Prop := B.length = A.length ∧ ∀ p, A.getD p false = true → B.getD p false = true
theorem LeB.anti : ∀ {A B : List Bool}, LeB A B → LeB B A → A = B
  | [], [], _, _ => rfl
  | [], b :: B, h, _ => by cases h.1
  | a :: A, [], h, _ => by cases h.1
  | a :: A, b :: B, h, k => by
    have h0 : a = true → b = true := h.2 0
    have k0 : b = true → a = true := k.2 0
    have e : a = b := by
      cases a
      · cases b
        · rfl
        · exact (k0 rfl)
      · exact (h0 rfl).symm
    have := LeB.anti (A := A) (B := B) ⟨Nat.succ.inj h.1, fun p => h.2 (p + 1)⟩ ⟨Nat.succ.inj k.1, fun p => k.2 (p + 1)⟩
    rw [e, this]
theorem bits_eq {A B : List Bool} (hl : A.length = B.length) (h : ∀ p, A.getD p false = true ↔ B.getD p false = true) : A = B := LeB.anti ⟨hl.symm, fun p => (h p).1⟩ ⟨hl, fun p => (h p).2⟩
end Go.Proofs.Ytcehklnonhalhaa
