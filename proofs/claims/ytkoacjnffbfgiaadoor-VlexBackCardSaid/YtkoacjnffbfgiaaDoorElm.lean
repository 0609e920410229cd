
/-
  vlex: mathematics of VlexBack: a comment's first line; texts put together again.
-/
import Derived.Test.YtkoacjnffbfgiaaDoorEk
import Derived.Laws.RangeAny
namespace Go.Proofs.YtkoacjnffbfgiaaDoor
open Go.RowKit
set_option linter.unusedVariables false

/-- behind a rune's first byte stand none but bytes from 128 on. -/
theorem decode_more (s : ByteArray) (pos k : Nat) (h1 : 1 ≤ k) (h2 : k < (Utf8.decode s pos).2) : pos + k < s.size ∧ (s.get! (pos + k)).toNat / 64 = 2 := by
  revert h2
  simp only [Utf8.decode]
  repeat' split
  all_goals intro h2
  all_goals try (exfalso; simp only at h2; omega)
  all_goals
    simp only [Bool.and_eq_true, decide_eq_true_eq, beq_iff_eq] at *
    rcases (show k = 1 ∨ k = 2 ∨ k = 3 by omega) with rfl | rfl | rfl
  all_goals first
    | omega
    | (constructor <;> omega)
theorem decode_pos (s : ByteArray) (pos : Nat) (h : pos < s.size) : 1 ≤ (Utf8.decode s pos).2 := by
  by_cases ha : (s[pos]'h).toNat < 128
  · rw [decode_ascii s pos h ha]
    exact Nat.le_refl _
  · exact (decode_high s pos h (by omega)).2
theorem decode_end (s : ByteArray) (pos : Nat) (h : pos < s.size) : pos + (Utf8.decode s pos).2 ≤ s.size := by
  have h1 := decode_pos s pos h
  by_cases h2 : (Utf8.decode s pos).2 = 1
  · omega
  · have := (decode_more s pos ((Utf8.decode s pos).2 - 1) (by omega) (by omega)).1
    omega
/-- no line feed up to here. -/
def NoL (s : ByteArray) (pos : Nat) : Prop := ∀ x ∈ s.data.toList.take pos, x ≠ 10
theorem NoL.step {s : ByteArray} {pos : Nat} (h : NoL s pos) (hp : pos < s.size) (h10 : s[pos] ≠ 10) : NoL s (pos + (Utf8.decode s pos).2) := by
  have h1 := decode_pos s pos hp
  intro x hx
  obtain ⟨i, hi⟩ := List.getElem?_of_mem hx
  rw [List.getElem?_take] at hi
  split at hi
  · rename_i hlt
    by_cases hip : i < pos
    · exact h x (List.mem_of_getElem? (i := i) (by rw [List.getElem?_take, if_pos hip]; exact hi))
    · by_cases he : i = pos
      · subst he
        rw [at_list hp] at hi
        cases hi
        exact h10
      · obtain ⟨g1, g2⟩ := decode_more s pos (i - pos) (by omega) (by omega)
        rw [show pos + (i - pos) = i by omega] at g1 g2
        have hg : s.get! i = s[i] := by
          show s.get! i = _
          simp [ByteArray.get!, getElem!_pos, g1]
          rfl
        rw [at_list g1] at hi
        cases hi
        intro e
        rw [hg, e] at g2
        exact absurd g2 (by decide)
  · cases hi
/-- how many bytes tokens have. -/
def sumL (T : List Tk) : Nat := (T.map (·.t.length)).sum
theorem lex_sum : ∀ {l : List UInt8} {line k : Nat} {T : List Tk}, lexA line k l = .ok T → sumL T + k ≤ l.length + k ∧ (k ≤ l.length → sumL T + k ≤ l.length)
  | [], line, k, T, h => by
    rw [lex_nil_] at h
    cases h
    exact ⟨by simp [sumL], fun hk => by simp [sumL] at *; omega⟩
  | c :: r, line, k + 1, T, h => by
    obtain ⟨h1, h2⟩ := lex_sum (l := r) h
    rw [List.length_cons]
    exact ⟨by omega, fun hk => by have := h2 (by omega); omega⟩
  | c :: r, line, 0, T, h => by
    have key : sumL T ≤ (c :: r).length := by
      rw [List.length_cons]
      cases hs : by8 spS c with
      | true => rw [lex_space hs] at h; have := (lex_sum h).1; omega
      | false =>
        cases hp : Lib.hasPrefix (c :: r) [47, 47] with
        | true => rw [lex_note hs hp] at h; have := (lex_sum h).1; omega
        | false =>
          cases hf : fstS (c :: r) with
          | none => rw [lex_bad hs hp hf] at h; cases h
          | some u =>
            rw [lex_tok hf] at h
            obtain ⟨_, g2, g3, _⟩ := fst_is hf
            rw [List.length_cons] at g3
            cases hr : lexA line (u.t.length - 1) r with
            | error e' => rw [hr] at h; cases h
            | ok T' =>
              rw [hr] at h
              cases h
              have := (lex_sum hr).2 (by omega)
              show u.t.length + sumL T' ≤ _
              omega
    exact ⟨by omega, fun _ => by omega⟩
theorem ok_pos {t : Tk} (h : OkT t) : 0 < t.t.length := by
  obtain ⟨l, u, hu, e⟩ := h
  have := (fst_is hu).2.1
  rw [e]
  exact this
theorem len_sum : ∀ {T : List Tk}, (∀ t ∈ T, OkT t) → T.length ≤ sumL T
  | [], _ => Nat.le_refl _
  | t :: T, h => by
    have h1 := ok_pos (h t (List.mem_cons_self ..))
    have h2 := len_sum (T := T) fun t ht => h t (List.mem_cons_of_mem _ ht)
    show T.length + 1 ≤ t.t.length + sumL T
    omega
theorem flat_size : ∀ (T : List Tk), (flatS T).length = sumL T + T.length
  | [] => rfl
  | t :: T => by
    have := flat_size T
    show (t.t ++ [32] ++ flatS T).length = t.t.length + sumL T + (T.length + 1)
    rw [List.length_append, List.length_append, this]
    simp
    omega
theorem tall_size (m : List UInt8) : ∀ (T : List Tk), (tallS m T).length = sumL T + T.length * (m.length + 3)
  | [] => by simp [tallS, sumL]
  | t :: T => by
    have := tall_size m T
    show ((t.t ++ ([47, 47] ++ (m ++ [10]))) ++ tallS m T).length = t.t.length + sumL T + (T.length + 1) * (m.length + 3)
    rw [List.length_append, this, List.length_append, List.length_append, List.length_append, Nat.add_mul]
    simp
    omega
theorem sum_take : ∀ (T : List Tk) (j : Nat), sumL (T.take j) ≤ sumL T
  | [], j => by simp
  | t :: T, 0 => Nat.zero_le _
  | t :: T, j + 1 => by
    have := sum_take T j
    show t.t.length + sumL (T.take j) ≤ t.t.length + sumL T
    omega
theorem flat_snoc {T : List Tk} {j : Nat} {t : Tk} (h : T[j]? = some t) : flatS (T.take (j + 1)) = flatS (T.take j) ++ (t.t ++ [32]) := by
  unfold flatS
  rw [List.take_add_one, h, List.flatMap_append]
  simp
theorem tall_snoc {T : List Tk} {m : List UInt8} {j : Nat} {t : Tk} (h : T[j]? = some t) : tallS m (T.take (j + 1)) = tallS m (T.take j) ++ (t.t ++ ([47, 47] ++ (m ++ [10]))) := by
  unfold tallS
  rw [List.take_add_one, h, List.flatMap_append]
  simp
theorem tall_len : ∀ (T : List Tk) (n : Nat), (tallT n T).length = T.length
  | [], n => rfl
  | t :: T, n => by show (tallT (n + 1) T).length + 1 = T.length + 1; rw [tall_len T]
theorem tall_at : ∀ (T : List Tk) (n j : Nat) {t : Tk}, T[j]? = some t → (tallT n T)[j]? = some (t.at (n + j))
  | [], n, j, t, h => by simp at h
  | a :: T, n, 0, t, h => by
    cases h
    rfl
  | a :: T, n, j + 1, t, h => by
    have := tall_at T (n + 1) j (t := t) (by simpa using h)
    show (tallT (n + 1) T)[j]? = _
    rw [this, show n + 1 + j = n + (j + 1) by omega]
end Go.Proofs.YtkoacjnffbfgiaaDoor
