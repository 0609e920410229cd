
/-
  net: Order, a counting sort.
-/
import Derived.Test.YtcfmgoilncninaaGl
namespace Go.Proofs.Ytcfmgoilncninaa
open Go.RowKit
set_option linter.unusedVariables false
set_option maxRecDepth 4000

/-- a row of numbers by their places. -/
def rg (F : Nat → Nat) (k : Nat) : List Value := (List.range k).map fun u => .int .i64 (F u)
theorem rg_len (F : Nat → Nat) (k : Nat) : (rg F k).length = k := by simp [rg]
theorem rg_at (F : Nat → Nat) {k u : Nat} (h : u < k) : (rg F k)[u]? = some (.int .i64 (F u)) := by
  unfold rg
  rw [List.getElem?_map, List.getElem?_range h]
  rfl
theorem rg_congr {F G : Nat → Nat} {k : Nat} (h : ∀ u < k, F u = G u) : rg F k = rg G k := by
  unfold rg
  exact List.map_congr_left fun u hu => by rw [h u (List.mem_range.1 hu)]
theorem rg_set (F G : Nat → Nat) {k u x : Nat} (hx : G u = x) (h : ∀ v < k, v ≠ u → F v = G v) : (rg F k).set u (.int .i64 (x : Int)) = rg G k := by
  apply List.ext_getElem?
  intro v
  rw [List.getElem?_set, rg_len]
  by_cases e : u = v
  · subst e
    rw [if_pos rfl]
    by_cases hk : u < k
    · rw [if_pos hk, rg_at G hk, hx]
    · rw [if_neg hk, List.getElem?_eq_none (by rw [rg_len]; omega)]
  · rw [if_neg e]
    by_cases hk : v < k
    · rw [rg_at F hk, rg_at G hk, h v hk (fun q => e q.symm)]
    · rw [List.getElem?_eq_none (by rw [rg_len]; omega), List.getElem?_eq_none (by rw [rg_len]; omega)]
theorem rg_zero (k : Nat) : List.replicate k (Value.int .i64 0) = rg (fun _ => 0) k := by
  unfold rg
  rw [List.map_const', List.length_range]
  rfl
/-- the order of nodes of these levels. -/
def ordS (d : List Nat) : List Int := (ordU (fun i => d.getD i 0) d.length d.length).map fun i : Nat => (i : Int)
def ordO (d : Option (List Nat)) : List Int := match d with | some d => ordS d | none => []
theorem most_le {L : List Int} {x : Int} (h : x ∈ L) : x ≤ mostS L := by
  unfold mostS
  have key : ∀ (L : List Int) (a : Int), a ≤ L.foldl max a ∧ ∀ x ∈ L, x ≤ L.foldl max a := by
    intro L
    induction L with
    | nil => intro a; exact ⟨Int.le_refl _, fun x hx => by cases hx⟩
    | cons y L ih =>
      intro a
      obtain ⟨h1, h2⟩ := ih (max a y)
      rw [List.foldl_cons]
      refine ⟨by omega, fun x hx => ?_⟩
      rcases List.mem_cons.1 hx with rfl | hx
      · omega
      · exact h2 x hx
  exact (key L 0).2 x h
theorem most_0 (L : List Int) : 0 ≤ mostS L := by
  unfold mostS
  have key : ∀ (L : List Int) (a : Int), a ≤ L.foldl max a := by
    intro L
    induction L with
    | nil => intro a; exact Int.le_refl _
    | cons y L ih => intro a; rw [List.foldl_cons]; have := ih (max a y); omega
  exact key L 0
theorem most_lt {L : List Int} {n : Int} (h0 : 0 ≤ n) (h : ∀ x ∈ L, x ≤ n) : mostS L ≤ n := by
  unfold mostS
  have key : ∀ (L : List Int) (a : Int), a ≤ n → (∀ x ∈ L, x ≤ n) → L.foldl max a ≤ n := by
    intro L
    induction L with
    | nil => intro a h _; exact h
    | cons y L ih => intro a ha h; rw [List.foldl_cons]; exact ih _ (by have := h y (List.mem_cons_self ..); omega) fun x hx => h x (List.mem_cons_of_mem _ hx)
  exact key L 0 h0 h
theorem Own.apart {w : World} {g s : Nat} {t : TypeId} {cs : List Value} (h : Own w g t cs) (hs : g ≠ s) (i : Nat) (v : Value) : Own (w.setCell ⟨s, i, none⟩ v) g t cs := (Below.heap_setCell w ⟨s, i, none⟩ v g hs).trans h
def slA (f : Nat → Nat) (j u : Nat) : Nat := if u = 0 then 0 else Eqs f (u - 1) j
def slB (f : Nat → Nat) (n v u : Nat) : Nat := if u < v then Lt f n u else Eqs f (u - 1) n
def slC (f : Nat → Nat) (n j u : Nat) : Nat := Lt f n u + Eqs f u j
theorem Eqs_succ (f : Nat → Nat) (v j : Nat) : Eqs f v (j + 1) = Eqs f v j + if f j = v then 1 else 0 := by
  unfold Eqs
  rw [Cn_succ]
  simp
theorem slA_hit {f : Nat → Nat} {j p u c c' : Nat} (hp : f j = p) (hu : p + 1 = u) (hc : Eqs f p j = c) (hc' : c + 1 = c') : slA f (j + 1) u = c' := by
  unfold slA
  rw [if_neg (by omega), ← hu, Nat.add_sub_cancel, Eqs_succ, if_pos hp, hc, hc']
theorem slA_miss {f : Nat → Nat} {j p u : Nat} (hp : f j = p) (hu : p + 1 = u) (v : Nat) (hv : v ≠ u) : slA f j v = slA f (j + 1) v := by
  unfold slA
  by_cases h : v = 0
  · rw [if_pos h, if_pos h]
  · rw [if_neg h, if_neg h, Eqs_succ, if_neg (by omega)]
    rfl
theorem Lt_zero (f : Nat → Nat) (n : Nat) : Lt f n 0 = 0 := Cn_none fun i _ => by simp
theorem slA_B (f : Nat → Nat) (n u : Nat) : slA f n u = slB f n 1 u := by
  unfold slA slB
  by_cases h : u = 0
  · rw [if_pos h, if_pos (by omega), h, Lt_zero]
  · rw [if_neg h, if_neg (by omega)]
theorem slB_hit {f : Nat → Nat} {n v0 v a b t : Nat} (hv : v0 + 1 = v) (ha : Eqs f v0 n = a) (hb : Lt f n v0 = b) (ht : a + b = t) : slB f n (v + 1) v = t := by
  unfold slB
  rw [if_pos (by omega), ← hv, Lt_succ, ha, hb]
  omega
theorem slB_miss (f : Nat → Nat) (n : Nat) {v u : Nat} (hu : u ≠ v) : slB f n v u = slB f n (v + 1) u := by
  unfold slB
  by_cases h : u < v
  · rw [if_pos h, if_pos (by omega)]
  · rw [if_neg h, if_neg (by omega)]
theorem slB_C (f : Nat → Nat) (n : Nat) {v u : Nat} (hu : u < v) : slB f n v u = slC f n 0 u := by
  unfold slB slC
  rw [if_pos hu]
  rfl
theorem slC_hit {f : Nat → Nat} {n j p c c' : Nat} (hp : f j = p) (hc : slC f n j p = c) (hc' : c + 1 = c') : slC f n (j + 1) p = c' := by
  unfold slC at hc ⊢
  rw [Eqs_succ, if_pos hp]
  omega
theorem slC_miss {f : Nat → Nat} {j p : Nat} (n : Nat) (hp : f j = p) (v : Nat) (hv : v ≠ p) : slC f n j v = slC f n (j + 1) v := by
  unfold slC
  rw [Eqs_succ, if_neg (by omega)]
  rfl
/-- an order is told. -/
def OrX (w : World) (v : List Int) (e : Int) (en : Ending) (w' : World) : Prop := ∃ A m c, en = .returned (.tuple #[.slice A m c, .int .i64 e]) ∧ Is w' A m v ∧ m ≤ c ∧ Below w.heap.size w w'
end Go.Proofs.Ytcfmgoilncninaa
