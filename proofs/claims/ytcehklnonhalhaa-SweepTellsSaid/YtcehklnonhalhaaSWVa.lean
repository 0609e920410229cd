/-
  What the proofs of SweepTells and SweepCones and SweepSame need: Va.
-/
import Derived.Test.YtcehklnonhalhaaSWYr
namespace Go.Proofs.Ytcehklnonhalhaa
set_option linter.unusedVariables false
set_option maxRecDepth 4000

/-- a node with its lesser place first. -/
def keyS (x : Nd) : Nd := if x.k = 3 ∨ x.k = 4 ∨ x.k = 5 then ⟨x.k, min x.a x.b, max x.a x.b, x.c⟩ else x
theorem keyS_k (x : Nd) : (keyS x).k = x.k := by unfold keyS; split <;> rfl
theorem keyS_idem (x : Nd) : keyS (keyS x) = keyS x := by
  unfold keyS
  by_cases h : x.k = 3 ∨ x.k = 4 ∨ x.k = 5
  · rw [if_pos h, if_pos h]
    have e1 : min (min x.a x.b) (max x.a x.b) = min x.a x.b := by omega
    have e2 : max (min x.a x.b) (max x.a x.b) = max x.a x.b := by omega
    simp only [e1, e2]
  · rw [if_neg h, if_neg h]
theorem keyS_uses (x : Nd) (y : Int) : y ∈ usesS (keyS x) ↔ y ∈ usesS x := by
  by_cases h : x.k = 3 ∨ x.k = 4 ∨ x.k = 5
  · rw [uses_b h, uses_b (x := keyS x) (by rw [keyS_k]; exact h)]
    unfold keyS
    rw [if_pos h]
    simp only [List.mem_cons, List.not_mem_nil, or_false]
    rcases Int.le_total x.a x.b with e | e
    · rw [Int.min_eq_left e, Int.max_eq_right e]
    · rw [Int.min_eq_right e, Int.max_eq_left e]
      exact Or.comm
  · unfold keyS
    rw [if_neg h]
theorem keyS_ok {P : Int → Prop} {x : Nd} (h : Ok P x) : Ok P (keyS x) := by
  by_cases hk : x.k = 3 ∨ x.k = 4 ∨ x.k = 5
  · obtain ⟨ha, hb⟩ := two_of h hk
    have hc : x.c = 0 := by
      rcases h.kd with ⟨e, _⟩ | ⟨e, _⟩ | ⟨e, _, _, e2⟩ | ⟨e, _⟩
      · omega
      · omega
      · exact e2
      · omega
    refine ⟨.inr (.inr (.inl ⟨by rw [keyS_k]; exact hk, ?_, ?_, ?_⟩))⟩ <;> unfold keyS <;> rw [if_pos hk]
    · show P (min x.a x.b)
      rcases Int.le_total x.a x.b with e | e
      · rw [Int.min_eq_left e]; exact ha
      · rw [Int.min_eq_right e]; exact hb
    · show P (max x.a x.b)
      rcases Int.le_total x.a x.b with e | e
      · rw [Int.max_eq_right e]; exact hb
      · rw [Int.max_eq_left e]; exact ha
    · exact hc
  · unfold keyS
    rw [if_neg hk]
    exact h
theorem keyS_vN (x : Nd) (u : List Int) : vN (keyS x) u = vN x u := by
  by_cases hk : x.k = 3 ∨ x.k = 4 ∨ x.k = 5
  · have ek := keyS_k x
    have e : (keyS x).a = min x.a x.b ∧ (keyS x).b = max x.a x.b := by unfold keyS; rw [if_pos hk]; exact ⟨rfl, rfl⟩
    rcases Int.le_total x.a x.b with g | g
    · have : keyS x = x := by
        unfold keyS
        rw [if_pos hk, Int.min_eq_left g, Int.max_eq_right g]
      rw [this]
    · rw [Int.min_eq_right g, Int.max_eq_left g] at e
      rcases hk with k | k | k
      · rw [vN_3 k, vN_3 (by rw [ek]; exact k), e.1, e.2, Int.min_comm]
      · rw [vN_4 k, vN_4 (by rw [ek]; exact k), e.1, e.2, Int.max_comm]
      · rw [vN_5 k, vN_5 (by rw [ek]; exact k), e.1, e.2, Int.add_comm]
  · unfold keyS
    rw [if_neg hk]
/-- ONE MORE NODE IS REWRITTEN, in whatever way that keeps its value. -/
theorem RwN.step {N : List Nd} {pos : Nat → Nat} {i : Nat} {M : List Nd} {S : List Int} (hp : Pos N pos) (h : RwN N pos i M S) {q : Nat} (hq : q < N.length) (hi : pos q = i) {m : Nd} {t : Int}
    (hio : isIO (N.getD q nd0) → m = N.getD q nd0 ∧ t = (q : Int)) (hok : ¬ isIO (N.getD q nd0) → Ok (Pr N.length pos i) m) (hst : t = (q : Int) ∨ (Pr N.length pos i t ∧ sA S t = t)) (hfx : ¬ isIO (N.getD q nd0) → ∀ y ∈ usesS m, sA S y = y)
    (hva : ∀ s inn u, Sol N s inn u → v01 u → atI u t = u.getD q 0 ∧ (¬ isIO (N.getD q nd0) → vN m u = u.getD q 0)) : RwN N pos (i + 1) (M.set q m) (S.set q t) := by
  have eM : ∀ j, (M.set q m).getD j nd0 = if j = q then m else M.getD j nd0 := fun j => getD_setG M q m nd0 j (by rw [h.lm]; exact hq)
  have eS : ∀ j, (S.set q t).getD j 0 = if j = q then t else S.getD j 0 := fun j => getD_setG S q t 0 j (by rw [h.ls]; exact hq)
  have eq2 : sA (S.set q t) (q : Int) = t := by
    unfold sA
    rw [Int.toNat_natCast, eS, if_pos rfl]
  have early : ∀ j, j < N.length → pos j < i + 1 → j = q ∨ (j ≠ q ∧ pos j < i) := fun j hj hp1 => by
    by_cases e : j = q
    · exact .inl e
    · refine .inr ⟨e, ?_⟩
      have : pos j ≠ i := fun k => e (hp.inj j q hj hq (k.trans hi.symm))
      omega
  have sAe : ∀ y k, k ≤ i → Pr N.length pos k y → sA (S.set q t) y = sA S y := fun y k hk hy => by
    unfold sA
    rw [eS, if_neg]
    intro e
    have := hy.2.2
    rw [e] at this
    omega
  refine ⟨by rw [List.length_set]; exact h.lm, by rw [List.length_set]; exact h.ls, fun j hj hpj k => ?_, fun j hj hpj k => ?_, fun j hj hpj => ?_, fun j hj hpj hs k => ?_, fun s inn u hs h01 j hj hpj => ?_⟩
  · rw [eM, eS]
    rcases early j hj hpj with e | ⟨e, hpj⟩
    · rw [if_pos e, if_pos e, e]; rw [e] at k; exact hio k
    · rw [if_neg e, if_neg e]; exact h.io j hj hpj k
  · rw [eM]
    rcases early j hj hpj with e | ⟨e, hpj⟩
    · rw [if_pos e, e, hi]; rw [e] at k; exact hok k
    · rw [if_neg e]; exact h.ok j hj hpj k
  · rw [eS]
    rcases early j hj hpj with e | ⟨e, hpj⟩
    · rw [if_pos e, e]
      rcases hst with g | ⟨g1, g2⟩
      · have g3 := eq2
        rw [g] at g3 ⊢
        exact ⟨⟨by omega, by omega, by rw [Int.toNat_natCast]; omega⟩, g3⟩
      · exact ⟨g1.le (by omega), by rw [sAe _ _ (Nat.le_refl _) g1]; exact g2⟩
    · rw [if_neg e]
      obtain ⟨g1, g2⟩ := h.st j hj hpj
      exact ⟨g1, by rw [sAe _ _ (by omega) g1]; exact g2⟩
  · rw [eM]
    rcases early j hj hpj with e | ⟨e, hpj⟩
    · rw [if_pos e]
      rw [e] at k
      intro y hy
      rw [sAe y _ (Nat.le_refl _) ((hok k).uses y hy)]
      exact hfx k y hy
    · rw [eS, if_neg e] at hs
      rw [if_neg e]
      intro y hy
      rw [sAe y _ (by omega) ((h.ok j hj hpj k).uses y hy)]
      exact h.fx j hj hpj hs k y hy
  · rw [eM, eS]
    rcases early j hj hpj with e | ⟨e, hpj⟩
    · rw [if_pos e, if_pos e, e]
      exact hva s inn u hs h01
    · rw [if_neg e, if_neg e]
      exact h.va s inn u hs h01 j hj hpj
/-- which node stands for one of its kind. -/
def putK (F : Nd → Option Nat) (x : Nd) (q : Nat) : Nd → Option Nat := fun y => if sameN y x = true then some q else F y
theorem putK_same (F : Nd → Option Nat) (x : Nd) (q : Nat) : putK F x q x = some q := by
  unfold putK
  rw [if_pos ((sameN_iff x x).2 rfl)]
theorem putK_other (F : Nd → Option Nat) {x y : Nd} (q : Nat) (h : y ≠ x) : putK F x q y = F y := by
  unfold putK
  rw [if_neg (fun e => h ((sameN_iff y x).1 e))]
/-- a look at a node. -/
def stepK (t : List Nd × List Int × (Nd → Option Nat)) (q : Nat) : List Nd × List Int × (Nd → Option Nat) :=
  if (t.1.getD q nd0).k = 1 ∨ (t.1.getD q nd0).k = 7 then (t.1, t.2.1.set q (q : Int), t.2.2)
  else match t.2.2 (keyS (usesF (t.2.1.set q (q : Int)) (t.1.getD q nd0))) with
    | some p => (t.1.set q (keyS (usesF (t.2.1.set q (q : Int)) (t.1.getD q nd0))), (t.2.1.set q (q : Int)).set q (p : Int), t.2.2)
    | none => (t.1.set q (keyS (usesF (t.2.1.set q (q : Int)) (t.1.getD q nd0))), t.2.1.set q (q : Int), putK t.2.2 (keyS (usesF (t.2.1.set q (q : Int)) (t.1.getD q nd0))) q)
/-- as far as it has come. -/
structure SI (N : List Nd) (pos : Nat → Nat) (i : Nat) (M : List Nd) (S : List Int) (F : Nd → Option Nat) : Prop where
  rw : RwN N pos i M S
  old : ∀ q, q < N.length → i ≤ pos q → M.getD q nd0 = N.getD q nd0
  key : ∀ q, q < N.length → pos q < i → ¬ isIO (N.getD q nd0) → keyS (M.getD q nd0) = M.getD q nd0
  fir : ∀ x p, F x = some p → p < N.length ∧ pos p < i ∧ ¬ isIO (N.getD p nd0) ∧ M.getD p nd0 = x ∧ S.getD p 0 = (p : Int)
  all : ∀ q, q < N.length → pos q < i → ¬ isIO (N.getD q nd0) → ∃ p, F (M.getD q nd0) = some p ∧ S.getD q 0 = (p : Int)
theorem SI.start {N : List Nd} {pos : Nat → Nat} : SI N pos 0 N (List.replicate N.length 0) (fun _ => none) :=
  ⟨⟨rfl, by simp, fun q _ h => by omega, fun q _ h => by omega, fun q _ h => by omega, fun q _ h => by omega, fun s inn u _ _ q _ h => by omega⟩, fun q _ _ => rfl, fun q _ h => by omega, fun x p h => (by cases h), fun q _ h => by omega⟩
theorem usesF_set {N : List Nd} {pos : Nat → Nat} {i : Nat} {S : List Int} {x : Nd} (hx : Ok (Pr N.length pos i) x) {q : Nat} (hi : i ≤ pos q) (v : Int) : usesF (S.set q v) x = usesF S x := by
  have key : ∀ y ∈ usesS x, sA (S.set q v) y = sA S y := fun y hy => by
    have hy := hx.uses y hy
    unfold sA
    rw [List.getD_eq_getElem?_getD, List.getElem?_set_ne, List.getD_eq_getElem?_getD]
    intro e
    have := hy.2.2
    rw [← e] at this
    omega
  unfold usesF
  split
  · rename_i e
    rw [key x.a (by rw [uses_2 e]; simp)]
  · split
    · rename_i e
      rw [key x.a (by rw [uses_b e]; simp), key x.b (by rw [uses_b e]; simp)]
    · split
      · rename_i e
        rw [key x.a (by rw [uses_6 e]; simp), key x.b (by rw [uses_6 e]; simp), key x.c (by rw [uses_6 e]; simp)]
      · rfl
theorem set_old {N : List Nd} {M : List Nd} {q : Nat} (hq : q < M.length) (h : M.getD q nd0 = N.getD q nd0) : M.set q (N.getD q nd0) = M := by
  rw [← h, List.getD_eq_getElem?_getD, List.getElem?_eq_getElem hq]
  exact List.set_getElem_self hq
theorem SI.step {N : List Nd} {pos : Nat → Nat} {i : Nat} {M : List Nd} {S : List Int} {F : Nd → Option Nat} (hp : Pos N pos) (h : SI N pos i M S F) {q : Nat} (hq : q < N.length) (hi : pos q = i) : SI N pos (i + 1) (stepK (M, S, F) q).1 (stepK (M, S, F) q).2.1 (stepK (M, S, F) q).2.2 := by
  have hlm := h.rw.lm
  have hls := h.rw.ls
  have hold := h.old q hq (by omega)
  have early : ∀ j, j < N.length → pos j < i + 1 → j = q ∨ (j ≠ q ∧ pos j < i) := fun j hj hp1 => by
    by_cases e : j = q
    · exact .inl e
    · refine .inr ⟨e, ?_⟩
      have : pos j ≠ i := fun k => e (hp.inj j q hj hq (k.trans hi.symm))
      omega
  by_cases hio : isIO (N.getD q nd0)
  · have e : stepK (M, S, F) q = (M, S.set q (q : Int), F) := by
      unfold stepK
      rw [if_pos (by rw [hold]; exact hio)]
    rw [e]
    have eS : ∀ j, (S.set q (q : Int)).getD j 0 = if j = q then (q : Int) else S.getD j 0 := fun j => getD_setG S q _ 0 j (by rw [hls]; exact hq)
    have R := h.rw.step hp hq hi (m := N.getD q nd0) (t := (q : Int)) (fun _ => ⟨rfl, rfl⟩) (fun k => absurd hio k) (.inl rfl) (fun k => absurd hio k) (fun s inn u hs h01 => ⟨by unfold atI; rw [Int.toNat_natCast], fun k => absurd hio k⟩)
    rw [set_old (by rw [hlm]; exact hq) hold] at R
    refine ⟨R, fun j hj hpj => h.old j hj (by omega), fun j hj hpj k => ?_, fun x p hx => ?_, fun j hj hpj k => ?_⟩
    · rcases early j hj hpj with e | ⟨e, hpj⟩
      · rw [e] at k; exact absurd hio k
      · exact h.key j hj hpj k
    · obtain ⟨g1, g2, g3, g4, g5⟩ := h.fir x p hx
      refine ⟨g1, by omega, g3, g4, ?_⟩
      rw [eS, if_neg (by intro e; rw [e] at g2; omega)]
      exact g5
    · rcases early j hj hpj with e | ⟨e, hpj⟩
      · rw [e] at k; exact absurd hio k
      · obtain ⟨p, g1, g2⟩ := h.all j hj hpj k
        exact ⟨p, g1, by rw [eS, if_neg e]; exact g2⟩
  · have hok0 := hp.at hq hio
    rw [hi] at hok0
    have hst : ∀ y ∈ usesS (N.getD q nd0), Pr N.length pos i (sA S y) ∧ sA S (sA S y) = sA S y := fun y hy => by
      obtain ⟨m, rfl, hm, hpm⟩ := (hok0.uses y hy).nat
      obtain ⟨g1, g2⟩ := h.rw.st m hm (by omega)
      unfold sA at g2 ⊢
      rw [Int.toNat_natCast]
      exact ⟨g1.le (by omega), g2⟩
    obtain ⟨x, hx⟩ : ∃ x, keyS (usesF S (N.getD q nd0)) = x := ⟨_, rfl⟩
    have hxo : Ok (Pr N.length pos i) x := hx ▸ keyS_ok (usesF_ok hok0 fun y hy => (hst y hy).1)
    have hxk : keyS x = x := by rw [← hx]; exact keyS_idem _
    have hxu : ∀ y ∈ usesS x, sA S y = y := fun y hy => by
      rw [← hx, keyS_uses, usesF_uses S _ (fun e => hio (.inr e))] at hy
      obtain ⟨z, hz, rfl⟩ := List.mem_map.1 hy
      exact (hst z hz).2
    have hxv : ∀ s inn u, Sol N s inn u → v01 u → vN x u = u.getD q 0 := fun s inn u hs h01 => by
      rw [← hx, keyS_vN, vN_usesF hok0 fun y hy => ?_]
      · exact sol_vN hs hq hio
      · obtain ⟨m, rfl, hm, hpm⟩ := (hok0.uses y hy).nat
        have := (h.rw.va s inn u hs h01 m hm (by omega)).1
        unfold sA
        rw [Int.toNat_natCast, this]
        unfold atI
        rw [Int.toNat_natCast]
    have ex : keyS (usesF (S.set q (q : Int)) (M.getD q nd0)) = x := by rw [hold, usesF_set hok0 (by omega), hx]
    have eM : ∀ j, (M.set q x).getD j nd0 = if j = q then x else M.getD j nd0 := fun j => getD_setG M q x nd0 j (by rw [hlm]; exact hq)
    cases hF : F x with
    | some p =>
      have e : stepK (M, S, F) q = (M.set q x, S.set q (p : Int), F) := by
        unfold stepK
        rw [if_neg (by rw [hold]; exact hio)]
        simp only [ex, hF, List.set_set]
      rw [e]
      have eS : ∀ j, (S.set q (p : Int)).getD j 0 = if j = q then (p : Int) else S.getD j 0 := fun j => getD_setG S q _ 0 j (by rw [hls]; exact hq)
      obtain ⟨f1, f2, f3, f4, f5⟩ := h.fir x p hF
      have hpp : Pr N.length pos i (p : Int) := ⟨by omega, by omega, by rw [Int.toNat_natCast]; exact f2⟩
      have R := h.rw.step hp hq hi (m := x) (t := (p : Int)) (fun k => absurd k hio) (fun _ => hxo) (.inr ⟨hpp, by unfold sA; rw [Int.toNat_natCast]; exact f5⟩) (fun _ => hxu) (fun s inn u hs h01 => ⟨by
        have hv := (h.rw.va s inn u hs h01 p f1 f2).2 f3
        rw [f4, hxv s inn u hs h01] at hv
        rw [hv]
        unfold atI
        rw [Int.toNat_natCast], fun _ => hxv s inn u hs h01⟩)
      refine ⟨R, fun j hj hpj => ?_, fun j hj hpj k => ?_, fun y r hy => ?_, fun j hj hpj k => ?_⟩
      · rw [eM, if_neg (by intro e; rw [e] at hpj; omega)]
        exact h.old j hj (by omega)
      · rw [eM]
        rcases early j hj hpj with e | ⟨e, hpj⟩
        · rw [if_pos e]; exact hxk
        · rw [if_neg e]; exact h.key j hj hpj k
      · obtain ⟨g1, g2, g3, g4, g5⟩ := h.fir y r hy
        have hne : r ≠ q := by intro e; rw [e] at g2; omega
        refine ⟨g1, by omega, g3, ?_, ?_⟩
        · rw [eM, if_neg hne]; exact g4
        · rw [eS, if_neg hne]; exact g5
      · rw [eM, eS]
        rcases early j hj hpj with e | ⟨e, hpj⟩
        · rw [if_pos e, if_pos e]; exact ⟨p, hF, rfl⟩
        · rw [if_neg e, if_neg e]; exact h.all j hj hpj k
    | none =>
      have e : stepK (M, S, F) q = (M.set q x, S.set q (q : Int), putK F x q) := by
        unfold stepK
        rw [if_neg (by rw [hold]; exact hio)]
        simp only [ex, hF]
      rw [e]
      have eS : ∀ j, (S.set q (q : Int)).getD j 0 = if j = q then (q : Int) else S.getD j 0 := fun j => getD_setG S q _ 0 j (by rw [hls]; exact hq)
      have R := h.rw.step hp hq hi (m := x) (t := (q : Int)) (fun k => absurd k hio) (fun _ => hxo) (.inl rfl) (fun _ => hxu) (fun s inn u hs h01 => ⟨by unfold atI; rw [Int.toNat_natCast], fun _ => hxv s inn u hs h01⟩)
      refine ⟨R, fun j hj hpj => ?_, fun j hj hpj k => ?_, fun y r hy => ?_, fun j hj hpj k => ?_⟩
      · rw [eM, if_neg (by intro e; rw [e] at hpj; omega)]
        exact h.old j hj (by omega)
      · rw [eM]
        rcases early j hj hpj with e | ⟨e, hpj⟩
        · rw [if_pos e]; exact hxk
        · rw [if_neg e]; exact h.key j hj hpj k
      · have hy : putK F x q y = some r := hy
        by_cases ey : y = x
        · subst ey
          rw [putK_same] at hy
          injection hy with hy
          subst hy
          exact ⟨hq, by omega, hio, by rw [eM, if_pos rfl], by rw [eS, if_pos rfl]⟩
        · rw [putK_other _ _ ey] at hy
          obtain ⟨g1, g2, g3, g4, g5⟩ := h.fir y r hy
          have hne : r ≠ q := by intro e; rw [e] at g2; omega
          refine ⟨g1, by omega, g3, ?_, ?_⟩
          · rw [eM, if_neg hne]; exact g4
          · rw [eS, if_neg hne]; exact g5
      · rw [eM, eS]
        rcases early j hj hpj with e | ⟨e, hpj⟩
        · rw [if_pos e, if_pos e]; exact ⟨q, putK_same F x q, rfl⟩
        · rw [if_neg e, if_neg e]
          obtain ⟨p, g1, g2⟩ := h.all j hj hpj k
          exact ⟨p, (putK_other F q (fun e2 => by rw [e2, hF] at g1; cases g1)).trans g1, g2⟩
/-- no two nodes that stand for themselves are the same. -/
theorem SI.left {N : List Nd} {pos : Nat → Nat} {i : Nat} {M : List Nd} {S : List Int} {F : Nd → Option Nat} (h : SI N pos i M S F) (hall : ∀ q, q < N.length → pos q < i) {a b : Nat} (ha : a < N.length) (hb : b < N.length) (hsa : S.getD a 0 = (a : Int)) (hsb : S.getD b 0 = (b : Int)) (ia : ¬ isIO (N.getD a nd0)) (ib : ¬ isIO (N.getD b nd0)) (e : M.getD a nd0 = M.getD b nd0) : a = b := by
  obtain ⟨p, p1, p2⟩ := h.all a ha (hall a ha) ia
  obtain ⟨r, r1, r2⟩ := h.all b hb (hall b hb) ib
  rw [e, r1] at p1
  injection p1 with p1
  subst p1
  have : ((a : Nat) : Int) = (b : Int) := by rw [← hsa, ← hsb, p2, r2]
  omega
end Go.Proofs.Ytcehklnonhalhaa
