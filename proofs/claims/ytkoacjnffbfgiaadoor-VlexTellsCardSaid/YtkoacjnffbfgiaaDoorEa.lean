
/-
  vlex: the tokens of a text, as a function of its bytes.
-/
import Derived.Lib.Strings
import Derived.Lib.Atoi
import Derived.Lib.ItoaNum
import Derived.Lib.Bytealg
namespace Go.Proofs.YtkoacjnffbfgiaaDoor
set_option linter.unusedVariables false

def dgS (c : Int) : Bool := decide (48 ≤ c) && decide (c ≤ 57)
def bgS (c : Int) : Bool := (decide (97 ≤ c) && decide (c ≤ 122)) || ((decide (65 ≤ c) && decide (c ≤ 90)) || c == 95)
def goS (c : Int) : Bool := bgS c || dgS c
def spS (c : Int) : Bool := c == 32 || (c == 9 || c == 10)
def nlS (c : Int) : Bool := c != 10
def sgS (c : Int) : Bool := [40, 41, 91, 93, 58, 59, 44, 63, 61].contains c
def by8 (f : Int → Bool) (c : UInt8) : Bool := f (c.toNat : Int)
/-- a token: kind, text, value, line. -/
structure Tk where
  k : Nat
  t : List UInt8
  v : Nat
  l : Nat
def runS (f : Int → Bool) (l : List UInt8) : Nat := (l.takeWhile (by8 f)).length
def numS (d : List UInt8) : Bool := d.length == 1 || ((decide (1 < d.length) && decide (d.length ≤ 7)) && d.headD 0 != 48)
def apS : List UInt8 → Bool
  | [] => true
  | c :: _ => !by8 goS c && c != 39
def decV (d : List UInt8) : Nat := (Lib.decFrom 0 d).getD 0
def bitS (l : List UInt8) : Option Tk :=
  if ((Lib.hasPrefix l [49, 39, 98, 48] || Lib.hasPrefix l [49, 39, 98, 49]) && apS (l.drop 4)) = true then some ⟨1, l.take 4, (l.getD 3 0).toNat - 48, 0⟩ else none
def nbS (l : List UInt8) : Option Tk :=
  if (numS (l.take (runS dgS l)) && apS (l.drop (runS dgS l))) = true then some ⟨2, l.take (runS dgS l), decV (l.take (runS dgS l)), 0⟩ else none
def fstS : List UInt8 → Option Tk
  | [] => none
  | c :: r =>
    if by8 bgS c = true then some ⟨3, (c :: r).take (runS goS (c :: r)), 0, 0⟩
    else if by8 sgS c = true then some ⟨4, [c], 0, 0⟩
    else (bitS (c :: r)).or (nbS (c :: r))
theorem fst_cons (c : UInt8) (r : List UInt8) : fstS (c :: r) = if by8 bgS c = true then some ⟨3, (c :: r).take (runS goS (c :: r)), 0, 0⟩ else if by8 sgS c = true then some ⟨4, [c], 0, 0⟩ else (bitS (c :: r)).or (nbS (c :: r)) := rfl
def Tk.at (t : Tk) (n : Nat) : Tk := { t with l := n }
def lnS (line : Nat) (c : UInt8) : Nat := if c = 10 then line + 1 else line
/-- the tokens from here on, so many bytes of which are gone through; or the line of what is none. -/
def lexA : Nat → Nat → List UInt8 → Except Nat (List Tk)
  | _, _, [] => .ok []
  | line, k + 1, c :: r => lexA (lnS line c) k r
  | line, 0, c :: r =>
    if by8 spS c = true then lexA (lnS line c) 0 r
    else if Lib.hasPrefix (c :: r) [47, 47] = true then lexA (lnS line c) (runS nlS (c :: r) - 1) r
    else match fstS (c :: r) with
      | none => .error (lnS line c)
      | some t => (lexA (lnS line c) (t.t.length - 1) r).map (t.at (lnS line c) :: ·)

/-! ### runs -/
section
variable {f : Int → Bool} {l : List UInt8}
theorem run_le : runS f l ≤ l.length := (List.takeWhile_prefix _).length_le
theorem take_run : l.take (runS f l) = l.takeWhile (by8 f) := (List.prefix_iff_eq_take.1 (List.takeWhile_prefix _)).symm
theorem run_cons {c : UInt8} {r : List UInt8} : runS f (c :: r) = if by8 f c = true then runS f r + 1 else 0 := by
  unfold runS
  rw [List.takeWhile_cons]
  split <;> rfl
theorem run_stop : ∀ {l : List UInt8} {j : Nat} {c : UInt8}, (l.take j).all (by8 f) = true → l[j]? = some c → by8 f c = false → runS f l = j
  | [], j, c, _, h, _ => by simp at h
  | a :: r, 0, c, _, h, hc => by
    simp at h
    subst h
    rw [run_cons, hc]
    rfl
  | a :: r, j + 1, c, ha, h, hc => by
    rw [List.take_succ_cons, List.all_cons, Bool.and_eq_true] at ha
    rw [run_cons, if_pos ha.1, run_stop ha.2 (by simpa using h) hc]
theorem run_end : ∀ {l : List UInt8}, l.all (by8 f) = true → runS f l = l.length
  | [], _ => rfl
  | a :: r, h => by
    rw [List.all_cons, Bool.and_eq_true] at h
    rw [run_cons, if_pos h.1, run_end h.2]
    rfl
theorem run_all : (l.take (runS f l)).all (by8 f) = true := by
  rw [take_run, List.all_eq_true]
  intro x hx
  exact List.all_eq_true.1 (List.all_takeWhile ..) x hx
theorem run_next : ∀ {l : List UInt8} {c : UInt8}, l[runS f l]? = some c → by8 f c = false
  | [], c, h => by simp at h
  | a :: r, c, h => by
    rw [run_cons] at h
    split at h
    · exact run_next (by simpa using h)
    · rename_i hn
      simp at h
      subst h
      simpa using hn
/-- behind a run stands what is none of it. -/
theorem run_app {x rest : List UInt8} (hx : x.all (by8 f) = true) (hr : ∀ c r, rest = c :: r → by8 f c = false) : runS f (x ++ rest) = x.length := by
  induction x with
  | nil =>
    cases rest with
    | nil => rfl
    | cons c r => rw [List.nil_append, run_cons, hr c r rfl]; rfl
  | cons a x ih =>
    rw [List.all_cons, Bool.and_eq_true] at hx
    rw [List.cons_append, run_cons, if_pos hx.1, ih hx.2]
    rfl
theorem run_line {b : List UInt8} (hf : f 10 = false) : ∀ {l : List UInt8}, runS f (l ++ 10 :: b) = runS f l
  | [] => by
    rw [List.nil_append, run_cons, if_neg (by show ¬ f 10 = true; rw [hf]; decide)]
    rfl
  | a :: r => by
    rw [List.cons_append, run_cons, run_cons, run_line hf]
theorem takeall {α : Type} {p : α → Bool} {L : List α} {k : Nat} {x : α} (h : (L.take k).all p = true) (hk : L[k]? = some x) (hx : p x = true) : (L.take (k + 1)).all p = true := by
  rw [List.take_add_one, hk, List.all_append, h]
  simp [hx]
end

/-! ### bytes -/
theorem u8_all {p : UInt8 → Bool} (h : ∀ i : Fin 256, p (UInt8.ofNat i.val) = true) (c : UInt8) : p c = true := by
  have := h ⟨c.toNat, c.toNat_lt⟩
  simpa using this
theorem bg_go (c : UInt8) (h : by8 bgS c = true) : by8 goS c = true := by unfold by8 goS at *; rw [h]; rfl
theorem dg_go (c : UInt8) (h : by8 dgS c = true) : by8 goS c = true := by unfold by8 goS at *; rw [h, Bool.or_true]
theorem go_fact (c : UInt8) : (!by8 goS c || (c != 10 && (!by8 spS c && (c != 47 && (c != 39 && !by8 sgS c))))) = true := u8_all (p := fun c => !by8 goS c || (c != 10 && (!by8 spS c && (c != 47 && (c != 39 && !by8 sgS c))))) (by decide +kernel) c
theorem sg_fact (c : UInt8) : (!by8 sgS c || (c != 10 && (!by8 spS c && (c != 47 && !by8 bgS c)))) = true := u8_all (p := fun c => !by8 sgS c || (c != 10 && (!by8 spS c && (c != 47 && !by8 bgS c)))) (by decide +kernel) c
theorem dg_fact (c : UInt8) : (!by8 dgS c || (!by8 bgS c && (!by8 sgS c && (decide (48 ≤ c.toNat) && decide (c.toNat ≤ 57))))) = true := u8_all (p := fun c => !by8 dgS c || (!by8 bgS c && (!by8 sgS c && (decide (48 ≤ c.toNat) && decide (c.toNat ≤ 57))))) (by decide +kernel) c
theorem go_is {c : UInt8} (h : by8 goS c = true) : c ≠ 10 ∧ by8 spS c = false ∧ c ≠ 47 ∧ c ≠ 39 ∧ by8 sgS c = false := by
  have := go_fact c
  rw [h] at this
  simpa using this
theorem sg_is {c : UInt8} (h : by8 sgS c = true) : c ≠ 10 ∧ by8 spS c = false ∧ c ≠ 47 ∧ by8 bgS c = false := by
  have := sg_fact c
  rw [h] at this
  simpa using this
theorem dg_is {c : UInt8} (h : by8 dgS c = true) : by8 bgS c = false ∧ by8 sgS c = false ∧ 48 ≤ c.toNat ∧ c.toNat ≤ 57 := by
  have := dg_fact c
  rw [h] at this
  simpa using this
theorem sg_index (c : UInt8) : by8 sgS c = decide (0 ≤ Lib.indexByte [40, 41, 91, 93, 58, 59, 44, 63, 61] c) := by
  have := u8_all (p := fun c => by8 sgS c == decide (0 ≤ Lib.indexByte [40, 41, 91, 93, 58, 59, 44, 63, 61] c)) (by decide +kernel) c
  exact eq_of_beq this
theorem dg_val {c : UInt8} (h : by8 dgS c = true) : Lib.digitVal c = some (c.toNat - 48) := by
  obtain ⟨_, _, h1, h2⟩ := dg_is h
  unfold Lib.digitVal
  rw [if_pos ⟨h1, h2⟩]
theorem dec_ex : ∀ {d : List UInt8} (a : Nat), d.all (by8 dgS) = true → ∃ n, Lib.decFrom a d = some n
  | [], a, _ => ⟨a, rfl⟩
  | c :: r, a, h => by
    rw [List.all_cons, Bool.and_eq_true] at h
    obtain ⟨n, hn⟩ := dec_ex (a * 10 + (c.toNat - 48)) h.2
    exact ⟨n, by unfold Lib.decFrom; rw [dg_val h.1]; exact hn⟩
theorem dec_is {d : List UInt8} (h : d.all (by8 dgS) = true) : Lib.decFrom 0 d = some (decV d) := by
  obtain ⟨n, hn⟩ := dec_ex 0 h
  unfold decV
  rw [hn]
  rfl

/-! ### the first token -/
theorem pre_line {b : List UInt8} : ∀ {p l : List UInt8}, (10 : UInt8) ∉ p → Lib.hasPrefix (l ++ 10 :: b) p = Lib.hasPrefix l p
  | [], l, _ => by simp [Lib.hasPrefix]
  | x :: p, [], h => by
    have : (x == (10 : UInt8)) = false := by simpa using fun e : x = 10 => h (by rw [e]; exact List.mem_cons_self ..)
    simp [Lib.hasPrefix, List.isPrefixOf, this]
  | x :: p, a :: l, h => by
    have := pre_line (b := b) (p := p) (l := l) fun e => h (List.mem_cons_of_mem _ e)
    unfold Lib.hasPrefix at *
    rw [List.cons_append, List.isPrefixOf, List.isPrefixOf, this]
theorem pre_ex {p l : List UInt8} (h : Lib.hasPrefix l p = true) : ∃ r, l = p ++ r := by
  obtain ⟨r, hr⟩ := List.isPrefixOf_iff_prefix.1 h
  exact ⟨r, hr.symm⟩
theorem pre_app (p r : List UInt8) : Lib.hasPrefix (p ++ r) p = true := List.isPrefixOf_iff_prefix.2 ⟨r, rfl⟩
theorem ap_line {b : List UInt8} : ∀ {x : List UInt8}, apS (x ++ 10 :: b) = apS x
  | [] => rfl
  | a :: x => rfl
theorem bit_line {b l : List UInt8} : bitS (l ++ 10 :: b) = bitS l := by
  unfold bitS
  rw [pre_line (by decide), pre_line (by decide)]
  by_cases h : (Lib.hasPrefix l [49, 39, 98, 48] || Lib.hasPrefix l [49, 39, 98, 49]) = true
  · have : ∃ p r, l = p ++ r ∧ p.length = 4 := by
      rw [Bool.or_eq_true] at h
      rcases h with h | h
      · obtain ⟨r, hr⟩ := pre_ex h
        exact ⟨_, r, hr, rfl⟩
      · obtain ⟨r, hr⟩ := pre_ex h
        exact ⟨_, r, hr, rfl⟩
    obtain ⟨p, r, rfl, hp⟩ := this
    rw [List.append_assoc, ← hp, List.drop_left, List.drop_left, ap_line, List.take_left, List.take_left]
    rw [List.getD_eq_getElem?_getD, List.getD_eq_getElem?_getD, List.getElem?_append_left (by omega), List.getElem?_append_left (by omega)]
  · rw [Bool.not_eq_true] at h
    rw [h]
    rfl
theorem nb_line {b l : List UInt8} : nbS (l ++ 10 :: b) = nbS l := by
  have h := run_line (f := dgS) (b := b) (l := l) (by decide)
  unfold nbS
  rw [h, List.take_append_of_le_length run_le, List.drop_append_of_le_length run_le, ap_line]
theorem fst_line {b : List UInt8} {c : UInt8} {r : List UInt8} : fstS (c :: r ++ 10 :: b) = fstS (c :: r) := by
  have h := run_line (f := goS) (b := b) (l := c :: r) (by decide)
  have h1 := bit_line (b := b) (l := c :: r)
  have h2 := nb_line (b := b) (l := c :: r)
  rw [List.cons_append] at *
  rw [fst_cons, fst_cons, h, h1, h2, ← List.cons_append, List.take_append_of_le_length run_le]
theorem all_mem {d : List UInt8} {p : UInt8 → Bool} (h : d.all p = true) {x : UInt8} (hx : x ∈ d) : p x = true := List.all_eq_true.1 h x hx
theorem num_pos {d : List UInt8} (h : numS d = true) : d ≠ [] := by
  rintro rfl
  revert h
  decide
/-- what a token's text is. -/
theorem fst_is {l : List UInt8} {t : Tk} (h : fstS l = some t) : t.t = l.take t.t.length ∧ 0 < t.t.length ∧ t.t.length ≤ l.length ∧ ∀ x ∈ t.t, x ≠ 10 := by
  cases l with
  | nil => cases h
  | cons c r =>
    rw [fst_cons] at h
    split at h
    · rename_i hb
      cases h
      have h1 : (List.take (runS goS (c :: r)) (c :: r)).length = runS goS (c :: r) := by rw [List.length_take]; exact Nat.min_eq_left run_le
      refine ⟨by rw [h1], by rw [h1, run_cons, if_pos (bg_go c hb)]; omega, by rw [h1]; exact run_le, fun x hx => (go_is (all_mem run_all hx)).1⟩
    · split at h
      · rename_i hs
        cases h
        exact ⟨rfl, Nat.zero_lt_one, by simp, fun x hx => by rw [List.mem_singleton.1 hx]; exact (sg_is hs).1⟩
      · cases hb : bitS (c :: r) with
        | some u =>
          rw [hb] at h
          cases h
          unfold bitS at hb
          split at hb
          · rename_i hp
            cases hb
            rw [Bool.and_eq_true, Bool.or_eq_true] at hp
            have : ∃ p q, c :: r = p ++ q ∧ p.length = 4 ∧ ∀ x ∈ p, x ≠ 10 := by
              rcases hp.1 with h | h
              · obtain ⟨q, hq⟩ := pre_ex h
                exact ⟨_, q, hq, rfl, by decide⟩
              · obtain ⟨q, hq⟩ := pre_ex h
                exact ⟨_, q, hq, rfl, by decide⟩
            obtain ⟨p, q, e, h4, hn⟩ := this
            have ht : List.take 4 (c :: r) = p := by rw [e, ← h4, List.take_left]
            refine ⟨?_, ?_, ?_, ?_⟩
            · show List.take 4 (c :: r) = List.take (List.take 4 (c :: r)).length (c :: r)
              rw [ht, h4, ht]
            · show 0 < (List.take 4 (c :: r)).length
              rw [ht]; omega
            · show (List.take 4 (c :: r)).length ≤ _
              exact List.length_take_le' ..
            · show ∀ x ∈ List.take 4 (c :: r), x ≠ 10
              rw [ht]
              exact hn
          · cases hb
        | none =>
          rw [hb] at h
          have h : nbS (c :: r) = some t := h
          unfold nbS at h
          split at h
          · rename_i hp
            cases h
            have h1 : (List.take (runS dgS (c :: r)) (c :: r)).length = runS dgS (c :: r) := by rw [List.length_take]; exact Nat.min_eq_left run_le
            refine ⟨by rw [h1], ?_, by rw [h1]; exact run_le, fun x hx => (go_is (dg_go x (all_mem run_all hx))).1⟩
            rw [Bool.and_eq_true] at hp
            exact List.length_pos_iff.2 (num_pos hp.1)
          · cases h
/-- a token's text, with what is none of it behind, is that token again. -/
theorem fst_on {l : List UInt8} {t : Tk} (h : fstS l = some t) {c : UInt8} {rest : List UInt8} (hc : by8 goS c = false) (h39 : c ≠ 39) : fstS (t.t ++ c :: rest) = some t := by
  have hd : by8 dgS c = false := by
    cases e : by8 dgS c with
    | false => rfl
    | true => rw [dg_go c e] at hc; cases hc
  cases l with
  | nil => cases h
  | cons a r =>
    rw [fst_cons] at h
    split at h
    · rename_i hb
      cases h
      have e0 : runS goS (a :: r) = runS goS r + 1 := by rw [run_cons, if_pos (bg_go a hb)]
      have e : List.take (runS goS (a :: r)) (a :: r) = a :: List.take (runS goS r) r := by rw [e0, List.take_succ_cons]
      have ha := run_all (f := goS) (l := a :: r)
      have hr := run_app (rest := c :: rest) ha (fun c' r' e => by cases e; exact hc)
      show fstS (List.take (runS goS (a :: r)) (a :: r) ++ c :: rest) = some ⟨3, List.take (runS goS (a :: r)) (a :: r), 0, 0⟩
      rw [e] at hr ⊢
      rw [List.cons_append] at hr ⊢
      rw [fst_cons]
      rw [if_pos hb, hr, ← List.cons_append, List.take_left]
    · rename_i hnb
      split at h
      · rename_i hs
        cases h
        show fstS (a :: (c :: rest)) = _
        rw [fst_cons]
        rw [if_neg hnb, if_pos hs]
      · rename_i hns
        cases hb : bitS (a :: r) with
        | some u =>
          rw [hb] at h
          cases h
          unfold bitS at hb
          split at hb
          · rename_i hp
            cases hb
            rw [Bool.and_eq_true, Bool.or_eq_true] at hp
            have : ∃ p q, a :: r = p ++ q ∧ (p = [49, 39, 98, 48] ∨ p = [49, 39, 98, 49]) := by
              rcases hp.1 with h | h
              · obtain ⟨q, hq⟩ := pre_ex h
                exact ⟨_, q, hq, .inl rfl⟩
              · obtain ⟨q, hq⟩ := pre_ex h
                exact ⟨_, q, hq, .inr rfl⟩
            obtain ⟨p, q, e, h4⟩ := this
            rw [e]
            have hap : apS (c :: rest) = true := by
              show (!by8 goS c && c != 39) = true
              rw [hc]
              simpa using h39
            rcases h4 with rfl | rfl
            · show fstS (49 :: 39 :: 98 :: 48 :: c :: rest) = some ⟨1, [49, 39, 98, 48], 0, 0⟩
              rw [fst_cons]
              rw [if_neg (by decide), if_neg (by decide)]
              unfold bitS
              rw [if_pos]
              · rfl
              · rw [show List.drop 4 (49 :: 39 :: 98 :: 48 :: c :: rest) = c :: rest from rfl, hap, show Lib.hasPrefix (49 :: 39 :: 98 :: 48 :: c :: rest) [49, 39, 98, 48] = true from pre_app [49, 39, 98, 48] (c :: rest)]
                rfl
            · show fstS (49 :: 39 :: 98 :: 49 :: c :: rest) = some ⟨1, [49, 39, 98, 49], 1, 0⟩
              rw [fst_cons]
              rw [if_neg (by decide), if_neg (by decide)]
              unfold bitS
              rw [if_pos]
              · rfl
              · rw [show List.drop 4 (49 :: 39 :: 98 :: 49 :: c :: rest) = c :: rest from rfl, hap, show Lib.hasPrefix (49 :: 39 :: 98 :: 49 :: c :: rest) [49, 39, 98, 49] = true from pre_app [49, 39, 98, 49] (c :: rest), Bool.or_true]
                rfl
          · cases hb
        | none =>
          rw [hb] at h
          have h : nbS (a :: r) = some t := h
          unfold nbS at h
          split at h
          · rename_i hp
            cases h
            rw [Bool.and_eq_true] at hp
            have hall := run_all (f := dgS) (l := a :: r)
            have hn := hp.1
            have hne := num_pos hn
            show fstS (List.take (runS dgS (a :: r)) (a :: r) ++ c :: rest) = some ⟨2, List.take (runS dgS (a :: r)) (a :: r), decV (List.take (runS dgS (a :: r)) (a :: r)), 0⟩
            revert hall hn hne
            generalize List.take (runS dgS (a :: r)) (a :: r) = d
            intro hall hn hne
            cases d with
            | nil => exact absurd rfl hne
            | cons x d =>
              have hx := all_mem hall (List.mem_cons_self ..)
              have hr := run_app (f := dgS) (rest := c :: rest) hall (fun c' r' e => by cases e; exact hd)
              have hap : apS (c :: rest) = true := by
                show (!by8 goS c && c != 39) = true
                rw [hc]
                simpa using h39
              have hbit : bitS (x :: d ++ c :: rest) = none := by
                unfold bitS
                rw [if_neg]
                rw [Bool.and_eq_true, Bool.or_eq_true]
                rintro ⟨h1, _⟩
                have : ∃ q, (x :: d ++ c :: rest)[1]? = some q ∧ q ≠ 39 := by
                  cases d with
                  | nil => exact ⟨c, rfl, h39⟩
                  | cons y d => exact ⟨y, rfl, (go_is (dg_go y (all_mem hall (by simp)))).2.2.2.1⟩
                obtain ⟨q, hq, hq2⟩ := this
                rcases h1 with h1 | h1
                · obtain ⟨z, hz⟩ := pre_ex h1
                  rw [hz] at hq
                  simp at hq
                  exact hq2 hq.symm
                · obtain ⟨z, hz⟩ := pre_ex h1
                  rw [hz] at hq
                  simp at hq
                  exact hq2 hq.symm
              have hnb2 : nbS (x :: d ++ c :: rest) = some ⟨2, x :: d, decV (x :: d), 0⟩ := by
                unfold nbS
                rw [hr, List.take_left, List.drop_left, hn, hap]
                rfl
              rw [List.cons_append] at *
              rw [fst_cons]
              rw [if_neg (by rw [(dg_is hx).1]; decide), if_neg (by rw [(dg_is hx).2.1]; decide), hbit, hnb2]
              rfl
          · cases h
/-- a token's first byte. -/
theorem fst_head {c : UInt8} {r : List UInt8} {t : Tk} (h : fstS (c :: r) = some t) : c ≠ 10 ∧ by8 spS c = false ∧ c ≠ 47 := by
  have hg : ∀ c : UInt8, by8 goS c = true → c ≠ 10 ∧ by8 spS c = false ∧ c ≠ 47 := fun c h => ⟨(go_is h).1, (go_is h).2.1, (go_is h).2.2.1⟩
  rw [fst_cons] at h
  split at h
  · rename_i hb
    exact hg c (bg_go c hb)
  · split at h
    · rename_i hs
      exact ⟨(sg_is hs).1, (sg_is hs).2.1, (sg_is hs).2.2.1⟩
    · cases hb : bitS (c :: r) with
      | some u =>
        unfold bitS at hb
        split at hb
        · rename_i hp
          rw [Bool.and_eq_true, Bool.or_eq_true] at hp
          have : c = 49 := by
            rcases hp.1 with h | h
            · obtain ⟨q, hq⟩ := pre_ex h
              cases hq
              rfl
            · obtain ⟨q, hq⟩ := pre_ex h
              cases hq
              rfl
          subst this
          decide
        · cases hb
      | none =>
        rw [hb] at h
        have h : nbS (c :: r) = some t := h
        unfold nbS at h
        split at h
        · rename_i hp
          rw [Bool.and_eq_true] at hp
          have hne := num_pos hp.1
          rw [run_cons] at hne
          split at hne
          · rename_i hd
            exact hg c (dg_go c hd)
          · exact absurd rfl hne
        · cases h
theorem pre_head {c : UInt8} {r p : List UInt8} {x : UInt8} (h : c ≠ x) : Lib.hasPrefix (c :: r) (x :: p) = false := by
  have : (x == c) = false := by simpa using fun e : x = c => h e.symm
  simp [Lib.hasPrefix, List.isPrefixOf, this]
end Go.Proofs.YtkoacjnffbfgiaaDoor
