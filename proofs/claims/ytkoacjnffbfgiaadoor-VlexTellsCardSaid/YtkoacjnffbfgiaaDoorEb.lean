
/-
  vlex: the tokens of texts put together; names.
-/
import Derived.Test.YtkoacjnffbfgiaaDoorEa
namespace Go.Proofs.YtkoacjnffbfgiaaDoor
set_option linter.unusedVariables false

/-! ### lexA's steps -/
theorem lex_nil_ (line k : Nat) : lexA line k [] = .ok [] := by cases k <;> rfl
theorem lex_skip_ (line k : Nat) (c : UInt8) (r : List UInt8) : lexA line (k + 1) (c :: r) = lexA (lnS line c) k r := rfl
theorem lex_space {line : Nat} {c : UInt8} {r : List UInt8} (h : by8 spS c = true) : lexA line 0 (c :: r) = lexA (lnS line c) 0 r := by
  conv => lhs; unfold lexA
  rw [if_pos h]
theorem lex_note {line : Nat} {c : UInt8} {r : List UInt8} (h : by8 spS c = false) (h2 : Lib.hasPrefix (c :: r) [47, 47] = true) : lexA line 0 (c :: r) = lexA (lnS line c) (runS nlS (c :: r) - 1) r := by
  conv => lhs; unfold lexA
  rw [if_neg (by rw [h]; decide), if_pos h2]
theorem lex_bad {line : Nat} {c : UInt8} {r : List UInt8} (h : by8 spS c = false) (h2 : Lib.hasPrefix (c :: r) [47, 47] = false) (h3 : fstS (c :: r) = none) : lexA line 0 (c :: r) = .error (lnS line c) := by
  conv => lhs; unfold lexA
  rw [if_neg (by rw [h]; decide), if_neg (by rw [h2]; decide), h3]
theorem lex_tok {line : Nat} {c : UInt8} {r : List UInt8} {t : Tk} (h3 : fstS (c :: r) = some t) : lexA line 0 (c :: r) = (lexA line (t.t.length - 1) r).map (t.at line :: ·) := by
  obtain ⟨h10, h, h47⟩ := fst_head h3
  conv => lhs; unfold lexA
  rw [if_neg (by rw [h]; decide), if_neg (by rw [pre_head h47]; decide), h3]
  unfold lnS
  rw [if_neg h10]
theorem ln_ne {line : Nat} {c : UInt8} (h : c ≠ 10) : lnS line c = line := if_neg h
theorem skip_drop : ∀ {k line : Nat} {l : List UInt8}, (∀ x ∈ l.take k, x ≠ 10) → lexA line k l = lexA line 0 (l.drop k)
  | 0, line, l, _ => rfl
  | k + 1, line, [], _ => by simp [lex_nil_]
  | k + 1, line, c :: r, h => by
    rw [lex_skip_, ln_ne (h c (by simp)), List.drop_succ_cons]
    exact skip_drop fun x hx => h x (by rw [List.take_succ_cons]; exact List.mem_cons_of_mem _ hx)
theorem sp10 : by8 spS 10 = true := by decide
/-- where the lines stand. -/
theorem lex_lines : ∀ {l : List UInt8} {line k : Nat}, (∀ e, lexA line k l = .error e → line ≤ e) ∧ ∀ T, lexA line k l = .ok T → (∀ t ∈ T, line ≤ t.l) ∧ T.Pairwise fun s t => s.l ≤ t.l
  | [], line, k => by
    rw [lex_nil_]
    exact ⟨fun e h => (by cases h), fun T h => (by cases h; exact ⟨fun t h => (by simp at h), .nil⟩)⟩
  | c :: r, line, k + 1 => by
    have ih := lex_lines (l := r) (line := lnS line c) (k := k)
    have hl : line ≤ lnS line c := by unfold lnS; split <;> omega
    rw [lex_skip_]
    exact ⟨fun e h => Nat.le_trans hl (ih.1 e h), fun T h => ⟨fun t ht => Nat.le_trans hl ((ih.2 T h).1 t ht), (ih.2 T h).2⟩⟩
  | c :: r, line, 0 => by
    have hl : line ≤ lnS line c := by unfold lnS; split <;> omega
    cases hs : by8 spS c with
    | true =>
      have ih := lex_lines (l := r) (line := lnS line c) (k := 0)
      rw [lex_space hs]
      exact ⟨fun e h => Nat.le_trans hl (ih.1 e h), fun T h => ⟨fun t ht => Nat.le_trans hl ((ih.2 T h).1 t ht), (ih.2 T h).2⟩⟩
    | false =>
      cases hp : Lib.hasPrefix (c :: r) [47, 47] with
      | true =>
        have ih := lex_lines (l := r) (line := lnS line c) (k := runS nlS (c :: r) - 1)
        rw [lex_note hs hp]
        exact ⟨fun e h => Nat.le_trans hl (ih.1 e h), fun T h => ⟨fun t ht => Nat.le_trans hl ((ih.2 T h).1 t ht), (ih.2 T h).2⟩⟩
      | false =>
        cases hf : fstS (c :: r) with
        | none =>
          rw [lex_bad hs hp hf]
          exact ⟨fun e h => (by cases h; exact hl), fun T h => (by cases h)⟩
        | some t =>
          rw [lex_tok hf]
          have ih := lex_lines (l := r) (line := line) (k := t.t.length - 1)
          cases hr : lexA line (t.t.length - 1) r with
          | error e =>
            exact ⟨fun e' h => (by cases h; exact ih.1 _ hr), fun T h => (by cases h)⟩
          | ok T' =>
            obtain ⟨h1, h2⟩ := ih.2 T' hr
            refine ⟨fun e' h => (by cases h), fun T h => ?_⟩
            cases h
            refine ⟨fun t' ht => ?_, List.Pairwise.cons (fun t' ht => h1 t' ht) h2⟩
            rcases List.mem_cons.1 ht with rfl | ht
            · exact Nat.le_refl _
            · exact h1 t' ht
/-- a token's text and what is none of it. -/
theorem lex_one {line : Nat} {l : List UInt8} {t : Tk} (h : fstS l = some t) {c : UInt8} {rest : List UInt8} (hc : by8 goS c = false) (h39 : c ≠ 39) : lexA line 0 (t.t ++ c :: rest) = (lexA line 0 (c :: rest)).map (t.at line :: ·) := by
  have h1 := fst_on h (rest := rest) hc h39
  obtain ⟨e1, e2, e3, e4⟩ := fst_is h
  revert h1 e2 e4
  cases ht : t.t with
  | nil => intro h1 e2; exact absurd e2 (by decide)
  | cons a x =>
    intro h1 e2 e4
    rw [List.cons_append] at *
    rw [lex_tok h1, ht, List.length_cons, Nat.add_sub_cancel, skip_drop, List.drop_left]
    rw [List.take_left]
    exact fun y hy => e4 y (List.mem_cons_of_mem _ hy)
/-- what a token was made of. -/
def OkT (t : Tk) : Prop := ∃ l u, fstS l = some u ∧ t = u.at t.l
theorem lex_ok : ∀ {l : List UInt8} {line k : Nat} {T : List Tk}, lexA line k l = .ok T → ∀ t ∈ T, OkT t
  | [], line, k, T, h => by rw [lex_nil_] at h; cases h; exact fun t h => by simp at h
  | c :: r, line, k + 1, T, h => lex_ok (l := r) h
  | c :: r, line, 0, T, h => by
    cases hs : by8 spS c with
    | true => rw [lex_space hs] at h; exact lex_ok h
    | false =>
      cases hp : Lib.hasPrefix (c :: r) [47, 47] with
      | true => rw [lex_note hs hp] at h; exact lex_ok h
      | false =>
        cases hf : fstS (c :: r) with
        | none => rw [lex_bad hs hp hf] at h; cases h
        | some t =>
          rw [lex_tok hf] at h
          cases hr : lexA line (t.t.length - 1) r with
          | error e => rw [hr] at h; cases h
          | ok T' =>
            rw [hr] at h
            cases h
            intro t' ht
            rcases List.mem_cons.1 ht with rfl | ht
            · exact ⟨_, t, hf, rfl⟩
            · exact lex_ok hr t' ht
/-- tokens, each with a space behind. -/
def flatS (T : List Tk) : List UInt8 := T.flatMap fun t => t.t ++ [32]
/-- tokens, each with a comment and a line feed behind. -/
def tallS (m : List UInt8) (T : List Tk) : List UInt8 := T.flatMap fun t => t.t ++ ([47, 47] ++ (m ++ [10]))
def tallT : Nat → List Tk → List Tk
  | _, [] => []
  | n, t :: r => t.at n :: tallT (n + 1) r
theorem at_at (t : Tk) (m n : Nat) : (t.at m).at n = t.at n := rfl
theorem lex_flat (n : Nat) : ∀ {T : List Tk}, (∀ t ∈ T, OkT t) → lexA n 0 (flatS T) = .ok (T.map (·.at n))
  | [], _ => rfl
  | t :: T, h => by
    obtain ⟨l, u, hu, e⟩ := h t (List.mem_cons_self ..)
    have ih := lex_flat n (T := T) fun t ht => h t (List.mem_cons_of_mem _ ht)
    have e2 : t.t = u.t := by rw [e]; rfl
    have e3 : t.at n = u.at n := by rw [e]; rfl
    show lexA n 0 (t.t ++ [32] ++ flatS T) = _
    rw [List.append_assoc, e2, List.singleton_append, lex_one hu (by decide) (by decide), lex_space (by decide), ln_ne (by decide), ih, List.map_cons, e3]
    rfl
theorem run_note {m rest : List UInt8} (hm : ∀ x ∈ m, x ≠ 10) : runS nlS (47 :: 47 :: (m ++ 10 :: rest)) = m.length + 2 := by
  have h : (47 :: 47 :: m : List UInt8).all (by8 nlS) = true := by
    rw [List.all_eq_true]
    intro x hx
    have : x ≠ 10 := by
      rcases List.mem_cons.1 hx with rfl | hx
      · decide
      · rcases List.mem_cons.1 hx with rfl | hx
        · decide
        · exact hm x hx
    unfold by8 nlS
    rw [bne_iff_ne]
    intro e
    exact this (UInt8.toNat_inj.1 (by show x.toNat = 10; omega))
  have := run_app (f := nlS) (rest := 10 :: rest) h (fun c r e => by cases e; decide)
  simpa using this
theorem lex_tall {m : List UInt8} (hm : ∀ x ∈ m, x ≠ 10) : ∀ {T : List Tk} (n : Nat), (∀ t ∈ T, OkT t) → lexA n 0 (tallS m T) = .ok (tallT n T)
  | [], n, _ => rfl
  | t :: T, n, h => by
    obtain ⟨l, u, hu, e⟩ := h t (List.mem_cons_self ..)
    have ih := lex_tall hm (T := T) (n + 1) fun t ht => h t (List.mem_cons_of_mem _ ht)
    have e2 : t.t = u.t := by rw [e]; rfl
    have e3 : t.at n = u.at n := by rw [e]; rfl
    have e4 : tallS m (t :: T) = u.t ++ 47 :: (47 :: (m ++ 10 :: tallS m T)) := by
      show (t.t ++ ([47, 47] ++ (m ++ [10]))) ++ tallS m T = _
      rw [e2]
      simp
    have hpre : Lib.hasPrefix (47 :: (47 :: (m ++ 10 :: tallS m T))) [47, 47] = true := pre_app [47, 47] _
    rw [e4, lex_one hu (by decide) (by decide), lex_note (by decide) hpre, ln_ne (by decide), run_note hm, show m.length + 2 - 1 = (47 :: m : List UInt8).length from rfl, ← List.cons_append, skip_drop, List.drop_left, lex_space sp10, show lnS n 10 = n + 1 from rfl, ih]
    · show Except.ok (u.at n :: tallT (n + 1) T) = _
      rw [← e3]
      rfl
    · rw [List.take_left]
      intro x hx
      rcases List.mem_cons.1 hx with rfl | hx
      · decide
      · exact hm x hx
/-! ### two texts -/
def lines (l : List UInt8) : Nat := l.count 10
/-- so many lines further on. -/
def moreS (m : Nat) : Except Nat (List Tk) → Except Nat (List Tk)
  | .error e => .error (m + e)
  | .ok T => .ok (T.map fun t => t.at (m + t.l))
theorem more_map (m : Nat) (t : Tk) (n : Nat) (x : Except Nat (List Tk)) : moreS m (x.map (t.at n :: ·)) = (moreS m x).map (t.at (m + n) :: ·) := by
  cases x <;> rfl
theorem ln_more (m n : Nat) (c : UInt8) : lnS (m + n) c = m + lnS n c := by unfold lnS; split <;> omega
theorem lex_more (m : Nat) : ∀ {l : List UInt8} {n k : Nat}, lexA (m + n) k l = moreS m (lexA n k l)
  | [], n, k => by rw [lex_nil_, lex_nil_]; rfl
  | c :: r, n, k + 1 => by rw [lex_skip_, lex_skip_, ln_more]; exact lex_more m
  | c :: r, n, 0 => by
    cases hs : by8 spS c with
    | true => rw [lex_space hs, lex_space hs, ln_more]; exact lex_more m
    | false =>
      cases hp : Lib.hasPrefix (c :: r) [47, 47] with
      | true => rw [lex_note hs hp, lex_note hs hp, ln_more]; exact lex_more m
      | false =>
        cases hf : fstS (c :: r) with
        | none => rw [lex_bad hs hp hf, lex_bad hs hp hf, ln_more]; rfl
        | some t => rw [lex_tok hf, lex_tok hf, more_map, lex_more m]
theorem ln_count (n : Nat) (c : UInt8) (r : List UInt8) : lnS n c + lines r = n + lines (c :: r) := by
  unfold lnS lines
  rw [List.count_cons]
  split
  · rename_i h
    rw [if_pos (by rw [h]; rfl)]
    omega
  · rename_i h
    rw [if_neg (by simpa using h)]
    omega
/-- two texts, a line feed between. -/
theorem lex_join (b : List UInt8) : ∀ {a : List UInt8} {n k : Nat}, k ≤ a.length → lexA n k (a ++ 10 :: b) = match lexA n k a with
    | .error e => .error e
    | .ok T => (lexA (n + lines a + 1) 0 b).map (T ++ ·)
  | [], n, k, hk => by
    have : k = 0 := by simpa using hk
    subst this
    rw [List.nil_append, lex_space sp10, lex_nil_]
    show lexA (n + 1) 0 b = (lexA (n + 0 + 1) 0 b).map ([] ++ ·)
    rw [Nat.add_zero]
    cases lexA (n + 1) 0 b <;> rfl
  | c :: r, n, k + 1, hk => by
    rw [List.cons_append, lex_skip_, lex_skip_, lex_join b (by simpa using hk), ln_count]
  | c :: r, n, 0, hk => by
    have hcount := ln_count n c r
    cases hs : by8 spS c with
    | true => rw [List.cons_append, lex_space hs, lex_space hs, lex_join b (Nat.zero_le _), hcount]
    | false =>
      have hp' := pre_line (b := b) (p := [47, 47]) (l := c :: r) (by decide)
      have hf' := fst_line (b := b) (c := c) (r := r)
      have hr' := run_line (f := nlS) (b := b) (l := c :: r) (by decide)
      rw [List.cons_append] at *
      cases hp : Lib.hasPrefix (c :: r) [47, 47] with
      | true =>
        rw [hp] at hp'
        have hle := run_le (f := nlS) (l := c :: r)
        rw [List.length_cons] at hle
        rw [lex_note hs hp', lex_note hs hp, hr', lex_join b (by omega), hcount]
      | false =>
        rw [hp] at hp'
        cases hf : fstS (c :: r) with
        | none => rw [hf] at hf'; rw [lex_bad hs hp' hf', lex_bad hs hp hf]
        | some t =>
          rw [hf] at hf'
          obtain ⟨_, h2, h3, _⟩ := fst_is hf
          have h10 := (fst_head hf).1
          rw [ln_ne h10] at hcount
          rw [List.length_cons] at h3
          rw [lex_tok hf', lex_tok hf, lex_join b (by omega), hcount]
          cases lexA n (t.t.length - 1) r with
          | error e => rfl
          | ok T =>
            show Except.map _ (Except.map _ (lexA _ 0 b)) = Except.map _ (lexA _ 0 b)
            cases lexA (n + lines (c :: r) + 1) 0 b <;> rfl
/-! ### names -/
def nameS : List UInt8 → Option Nat
  | 78 :: d => if (d.all (by8 dgS) && numS d) = true then some (decV d) else none
  | _ => none
theorem dgt_u8 (i : Nat) (h : i < 10) : by8 dgS (UInt8.ofNat (48 + i)) = true ∧ (UInt8.ofNat (48 + i)).toNat = 48 + i := by
  have : ∀ i : Fin 10, by8 dgS (UInt8.ofNat (48 + i.val)) = true ∧ (UInt8.ofNat (48 + i.val)).toNat = 48 + i.val := by decide +kernel
  exact this ⟨i, h⟩
theorem digits_all : ∀ n : Nat, (Lib.decDigits n).all (by8 dgS) = true := by
  intro n
  induction n using Nat.strongRecOn with
  | _ n ih =>
    rw [Lib.decDigits]
    split
    · rename_i h
      rw [List.all_cons, (dgt_u8 n h).1]
      rfl
    · rw [List.all_append, ih (n / 10) (by omega)]
      rw [List.all_cons, (dgt_u8 (n % 10) (Nat.mod_lt _ (by omega))).1]
      rfl
theorem dec_app : ∀ {d : List UInt8} {a n : Nat} {c : UInt8}, Lib.decFrom a d = some n → by8 dgS c = true → Lib.decFrom a (d ++ [c]) = some (n * 10 + (c.toNat - 48))
  | [], a, n, c, h, hc => by
    cases h
    show Lib.decFrom a [c] = _
    unfold Lib.decFrom
    rw [dg_val hc]
    rfl
  | x :: d, a, n, c, h, hc => by
    rw [List.cons_append]
    unfold Lib.decFrom at h ⊢
    cases hx : Lib.digitVal x with
    | none => rw [hx] at h; cases h
    | some e =>
      rw [hx] at h
      exact dec_app h hc
theorem decV_app {d : List UInt8} {c : UInt8} (hd : d.all (by8 dgS) = true) (hc : by8 dgS c = true) : decV (d ++ [c]) = decV d * 10 + (c.toNat - 48) := by
  unfold decV
  rw [dec_app (dec_is hd) hc]
  rfl
theorem digits_back : ∀ n : Nat, decV (Lib.decDigits n) = n := by
  intro n
  induction n using Nat.strongRecOn with
  | _ n ih =>
    rw [Lib.decDigits]
    split
    · rename_i h
      have := decV_app (d := []) (c := UInt8.ofNat (48 + n)) rfl (dgt_u8 n h).1
      rw [List.nil_append, (dgt_u8 n h).2] at this
      rw [this]
      show 0 * 10 + _ = n
      omega
    · rw [decV_app (digits_all _) (dgt_u8 (n % 10) (Nat.mod_lt _ (by omega))).1, ih (n / 10) (by omega), (dgt_u8 (n % 10) (Nat.mod_lt _ (by omega))).2]
      omega
theorem decV_lt {d : List UInt8} (h : d.all (by8 dgS) = true) : decV d < 10 ^ d.length := by
  have := Lib.decFrom_lt d 0 _ (dec_is h)
  simpa using this
/-- digits with no 0 ahead are their number's. -/
theorem digits_canon : ∀ (k : Nat) {d : List UInt8}, d.length = k + 1 → d.all (by8 dgS) = true → (d.length = 1 ∨ d.headD 0 ≠ 48) → Lib.decDigits (decV d) = d ∧ (d.headD 0 ≠ 48 → 0 < decV d)
  | 0, d, hl, ha, _ => by
    match d, hl with
    | [c], _ =>
      have hc : by8 dgS c = true := by simpa using ha
      obtain ⟨_, _, h1, h2⟩ := dg_is hc
      have hv : decV [c] = c.toNat - 48 := by
        have := decV_app (d := []) (c := c) rfl hc
        rw [List.nil_append] at this
        rw [this]
        show 0 * 10 + _ = _
        omega
      rw [hv]
      refine ⟨?_, fun h => ?_⟩
      · rw [Lib.decDigits_one (by omega), show 48 + (c.toNat - 48) = c.toNat by omega]
        simp
      · have : c.toNat ≠ 48 := fun e => h (UInt8.toNat_inj.1 (by show c.toNat = 48; omega))
        omega
  | k + 1, d, hl, ha, hh => by
    obtain ⟨e, x, rfl⟩ : ∃ e x, d = e ++ [x] := ⟨d.dropLast, d.getLast (by intro e; rw [e] at hl; cases hl), (List.dropLast_concat_getLast _).symm⟩
    rw [List.length_append, List.length_singleton] at hl
    have hl : e.length = k + 1 := by omega
    rw [List.all_append, Bool.and_eq_true] at ha
    have hx : by8 dgS x = true := by simpa using ha.2
    obtain ⟨_, _, h1, h2⟩ := dg_is hx
    have hhd : (e ++ [x]).headD 0 = e.headD 0 := by
      match e, hl with
      | a :: e, _ => rfl
    have h48 : e.headD 0 ≠ 48 := by
      rcases hh with h | h
      · rw [List.length_append, List.length_singleton] at h
        omega
      · rwa [hhd] at h
    obtain ⟨i1, i2⟩ := digits_canon k hl ha.1 (.inr h48)
    have hp := i2 h48
    rw [decV_app ha.1 hx]
    refine ⟨?_, fun _ => by omega⟩
    rw [Lib.decDigits, dif_neg (by omega), show (decV e * 10 + (x.toNat - 48)) / 10 = decV e by omega, show (decV e * 10 + (x.toNat - 48)) % 10 = x.toNat - 48 by omega, i1, show 48 + (x.toNat - 48) = x.toNat by omega]
    simp
theorem digits_len (n : Nat) : 0 < (Lib.decDigits n).length := by rw [Lib.decDigits_length]; exact Lib.nDigits_pos n
theorem digits_short : ∀ (k n : Nat), n < 10 ^ (k + 1) → (Lib.decDigits n).length ≤ k + 1
  | 0, n, h => by rw [Lib.decDigits_one (by simpa using h)]; simp
  | k + 1, n, h => by
    rw [Lib.decDigits]
    split
    · simp
    · rw [List.length_append, List.length_singleton]
      have := digits_short k (n / 10) (by rw [Nat.pow_succ] at h; omega)
      omega
theorem digits_head {n : Nat} : (Lib.decDigits n).length = 1 ∨ (Lib.decDigits n).headD 0 ≠ 48 := by
  induction n using Nat.strongRecOn with
  | _ n ih =>
    rw [Lib.decDigits]
    split
    · exact .inl rfl
    · rename_i h
      right
      have hp := digits_len (n / 10)
      have e : (Lib.decDigits (n / 10) ++ [UInt8.ofNat (48 + n % 10)]).headD 0 = (Lib.decDigits (n / 10)).headD 0 := by
        revert hp
        cases Lib.decDigits (n / 10) with
        | nil => intro h; exact absurd h (by decide)
        | cons a x => intro _; rfl
      rw [e]
      rcases ih (n / 10) (by omega) with h1 | h1
      · have hs : n / 10 < 10 := by
          rw [Lib.decDigits_length] at h1
          have := Lib.lt_pow_nDigits (n / 10)
          rw [h1] at this
          simpa using this
        rw [Lib.decDigits_one hs]
        intro e
        have := (dgt_u8 (n / 10) hs).2
        rw [show (UInt8.ofNat (48 + n / 10)) = 48 from e] at this
        have h48 : (48 : UInt8).toNat = 48 := rfl
        omega
      · exact h1
/-- so it is just the number's own digits that are taken. -/
theorem digits_iff {d : List UInt8} (hd : d.all (by8 dgS) = true) (h0 : 0 < d.length) : Lib.decDigits (decV d) = d ↔ (d.length = 1 ∨ d.headD 0 ≠ 48) := by
  constructor
  · intro h
    have := digits_head (n := decV d)
    rwa [h] at this
  · intro h
    exact (digits_canon (d.length - 1) (by omega) hd h).1
theorem num_iff {d : List UInt8} : numS d = true ↔ 0 < d.length ∧ d.length ≤ 7 ∧ (d.length = 1 ∨ d.headD 0 ≠ 48) := by
  unfold numS
  rw [Bool.or_eq_true, Bool.and_eq_true, Bool.and_eq_true, bne_iff_ne, beq_iff_eq, decide_eq_true_eq, decide_eq_true_eq]
  by_cases q : d.headD 0 = 48
  · simp only [ne_eq, q, not_true, and_false, or_false]
    omega
  · simp only [ne_eq, q, not_false_eq_true, and_true, or_true]
    omega
theorem name_digits (n : Nat) : nameS (78 :: Lib.decDigits n) = if n < 10000000 then some n else none := by
  show (if ((Lib.decDigits n).all (by8 dgS) && numS (Lib.decDigits n)) = true then some (decV (Lib.decDigits n)) else none) = _
  rw [digits_all, Bool.true_and, digits_back]
  have : numS (Lib.decDigits n) = true ↔ n < 10000000 := by
    rw [num_iff]
    constructor
    · rintro ⟨_, h, _⟩
      have h1 := decV_lt (digits_all n)
      rw [digits_back] at h1
      exact Nat.lt_of_lt_of_le h1 (Nat.le_trans (Nat.pow_le_pow_right (by omega) h) (by decide))
    · intro h
      exact ⟨digits_len n, digits_short 6 n (by simpa using h), digits_head⟩
  simp only [this]
theorem atoi_num {d : List UInt8} (hd : d.all (by8 dgS) = true) (h0 : 0 < d.length) : Lib.atoi d = some (decV d : Int) := by
  cases d with
  | nil => exact absurd h0 (by decide)
  | cons c r =>
    have hc := all_mem hd (List.mem_cons_self ..)
    obtain ⟨_, _, h1, h2⟩ := dg_is hc
    show (if (c == 45) = true then (Lib.decNat r).map (fun (m : Nat) => -(m : Int)) else if (c == 43) = true then (Lib.decNat r).map (fun (m : Nat) => (m : Int)) else (Lib.decNat (c :: r)).map fun (m : Nat) => (m : Int)) = _
    rw [if_neg, if_neg]
    · unfold Lib.decNat
      rw [if_neg (by simp), dec_is hd]
      rfl
    · intro e
      have e := eq_of_beq e
      subst e
      revert h1
      decide
    · intro e
      have e := eq_of_beq e
      subst e
      revert h1
      decide
/-- a name is one word. -/
theorem lex_name (n : Nat) : lexA 1 0 (78 :: Lib.decDigits n) = .ok [⟨3, 78 :: Lib.decDigits n, 0, 1⟩] := by
  have hall : (78 :: Lib.decDigits n).all (by8 goS) = true := by
    rw [List.all_cons, show by8 goS 78 = true by decide, Bool.true_and, List.all_eq_true]
    exact fun x hx => dg_go x (all_mem (digits_all n) hx)
  have hf : fstS (78 :: Lib.decDigits n) = some ⟨3, 78 :: Lib.decDigits n, 0, 0⟩ := by
    rw [fst_cons, if_pos (by decide), run_end hall, List.take_length]
  rw [lex_tok hf]
  show (lexA 1 ((78 :: Lib.decDigits n).length - 1) (Lib.decDigits n)).map _ = _
  rw [List.length_cons, Nat.add_sub_cancel, skip_drop, List.drop_length, lex_nil_]
  · rfl
  · rw [List.take_length]
    exact fun x hx => (go_is (dg_go x (all_mem (digits_all n) hx))).1
end Go.Proofs.YtkoacjnffbfgiaaDoor
