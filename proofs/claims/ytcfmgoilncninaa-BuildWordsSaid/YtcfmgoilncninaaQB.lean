/-
  Words of gates: the values of a builder's nodes, each told by those ahead of it, and the numbers of words.
  Words of gates: what the reference tells of a net of gates, in one cycle.
  slipstickref08: Gate, Each, One, Is.
  build: Pad, Each, Nots, Pick: words as numbers.
  slipstickref07: Eval, of a net of gates.
  What comes in; layer 8's words and eval.
-/
import Derived.Test.YtcfmgoilncninaaJB
import Derived.Test.YtcfmgoilncninaaHR
import Derived.Test.YtcfmgoilncninaaHj
import Derived.Test.YtcfmgoilncninaaHk
namespace Go.Proofs.Ytcfmgoilncninaa
set_option linter.unusedVariables false
set_option maxRecDepth 4000

theorem bval_testBit (bs : List Bool) (i : Nat) : (bval bs).testBit i = bs.getD i false := by
  rw [Nat.testBit_eq_decide_div_mod_eq, bval_at]
  cases bs.getD i false <;> rfl
/-- a node's bit, of what comes in, and of those ahead. -/
def gvB (x : Nd) (i : Nat) (inn : Nat → Bool) (u : List Bool) : Bool :=
  if x.k = 0 then decide (x.a = 1) else if x.k = 1 then inn i else if x.k = 2 then !(u.getD x.a.toNat false)
  else if x.k = 3 then (u.getD x.a.toNat false && u.getD x.b.toNat false) else if x.k = 4 then (u.getD x.a.toNat false || u.getD x.b.toNat false)
  else if x.k = 5 then (u.getD x.a.toNat false ^^ u.getD x.b.toNat false) else if x.k = 6 then (if u.getD x.c.toNat false then u.getD x.b.toNat false else u.getD x.a.toNat false) else false
def evL (inn : Nat → Bool) (N : List Nd) : List Bool := N.foldl (fun v x => v ++ [gvB x v.length inn v]) []
/-- the bit of a place. -/
def bt (inn : Nat → Bool) (N : List Nd) (q : Int) : Bool := (evL inn N).getD q.toNat false
theorem evL_snoc (inn : Nat → Bool) (N : List Nd) (x : Nd) : evL inn (N ++ [x]) = evL inn N ++ [gvB x (evL inn N).length inn (evL inn N)] := by
  unfold evL
  rw [List.foldl_append]
  rfl
theorem snoc_ind {P : List Nd → Prop} (h0 : P []) (hs : ∀ M x, P M → P (M ++ [x])) : ∀ M, P M := by
  intro M
  have key : ∀ R : List Nd, P R.reverse := by
    intro R
    induction R with
    | nil => exact h0
    | cons x R ih => rw [List.reverse_cons]; exact hs _ _ ih
  have := key M.reverse
  rwa [List.reverse_reverse] at this
theorem evL_len (inn : Nat → Bool) : ∀ N : List Nd, (evL inn N).length = N.length := by
  refine snoc_ind rfl fun M x ih => ?_
  rw [evL_snoc]
  simp [ih]
theorem evL_app (inn : Nat → Bool) (N : List Nd) : ∀ M : List Nd, ∃ R, evL inn (N ++ M) = evL inn N ++ R := by
  refine snoc_ind ⟨[], by simp⟩ fun M x ⟨R, h⟩ => ?_
  rw [← List.append_assoc, evL_snoc, h, List.append_assoc]
  exact ⟨_, rfl⟩
def Pq (n : Nat) (q : Int) : Prop := 0 ≤ q ∧ q < (n : Int)
theorem Pq.nat {n m : Nat} (h : m < n) : Pq n (m : Int) := ⟨by omega, by omega⟩
theorem Pq.le {n m : Nat} {q : Int} (h : Pq n q) (hm : n ≤ m) : Pq m q := ⟨h.1, by have := h.2; omega⟩
theorem bt_app {inn : Nat → Bool} {N M : List Nd} {q : Int} (h : Pq N.length q) : bt inn (N ++ M) q = bt inn N q := by
  obtain ⟨R, e⟩ := evL_app inn N M
  obtain ⟨h1, h2⟩ := h
  unfold bt
  rw [e]
  exact getD_left (by rw [evL_len]; omega)
theorem bt_new (inn : Nat → Bool) (N : List Nd) (x : Nd) : bt inn (N ++ [x]) (N.length : Int) = gvB x N.length inn (evL inn N) := by
  unfold bt
  have := getD_right (A := evL inn N) (B := [gvB x (evL inn N).length inn (evL inn N)]) (i := 0) (d := false)
  rw [evL_len] at this
  rw [evL_snoc, Int.toNat_natCast, evL_len]
  simpa using this
/-- a net of gates alone, each of those ahead. -/
def Gd (N : List Nd) : Prop := Bk N ∧ ∀ x ∈ N, x.k ≠ 7
theorem Gd.nil : Gd [] := ⟨fun i x h => by simp at h, fun x h => by cases h⟩
structure Lays (N N' : List Nd) : Prop where
  app : ∃ M, N' = N ++ M
  gd : Gd N'
theorem Lays.refl {N : List Nd} (h : Gd N) : Lays N N := ⟨⟨[], by simp⟩, h⟩
theorem Lays.trans {N N' N'' : List Nd} (h : Lays N N') (k : Lays N' N'') : Lays N N'' := by
  obtain ⟨M, e⟩ := h.app
  obtain ⟨M', e'⟩ := k.app
  exact ⟨⟨M ++ M', by rw [e', e, List.append_assoc]⟩, k.gd⟩
theorem Lays.len {N N' : List Nd} (h : Lays N N') : N.length ≤ N'.length := by
  obtain ⟨M, e⟩ := h.app
  rw [e, List.length_append]
  omega
theorem Lays.bit {N N' : List Nd} (h : Lays N N') {inn : Nat → Bool} {q : Int} (hq : Pq N.length q) : bt inn N' q = bt inn N q := by
  obtain ⟨M, e⟩ := h.app
  rw [e]
  exact bt_app hq
theorem Lays.pq {N N' : List Nd} (h : Lays N N') {q : Int} (hq : Pq N.length q) : Pq N'.length q := hq.le h.len
/-- a word's places are the net's. -/
def PW (n : Nat) (X : List Int) : Prop := ∀ q ∈ X, Pq n q
theorem Lays.pw {N N' : List Nd} (h : Lays N N') {X : List Int} (hx : PW N.length X) : PW N'.length X := fun q hq => h.pq (hx q hq)
theorem PW.at {n : Nat} {X : List Int} (h : PW n X) {i : Nat} (hi : i < X.length) : Pq n (X.getD i 0) := by
  rw [List.getD_eq_getElem?_getD, List.getElem?_eq_getElem hi]
  exact h _ (List.getElem_mem hi)
theorem PW.app {n : Nat} {X Y : List Int} (h : PW n X) (k : PW n Y) : PW n (X ++ Y) := fun q hq => (List.mem_append.1 hq).elim (h q) (k q)
theorem PW.one {n : Nat} {q : Int} (h : Pq n q) : PW n [q] := fun r hr => by rw [List.mem_singleton.1 hr]; exact h
theorem PW.nil (n : Nat) : PW n [] := fun r hr => by cases hr
theorem PW.take {n : Nat} {X : List Int} (h : PW n X) (k : Nat) : PW n (X.take k) := fun q hq => h q (List.mem_of_mem_take hq)
theorem PW.drop {n : Nat} {X : List Int} (h : PW n X) (k : Nat) : PW n (X.drop k) := fun q hq => h q (List.mem_of_mem_drop hq)
/-- a word's number. -/
def wn (inn : Nat → Bool) (N : List Nd) (X : List Int) : Nat := bval (X.map (bt inn N))
theorem wn_lt (inn : Nat → Bool) (N : List Nd) (X : List Int) : wn inn N X < 2 ^ X.length := by
  have := bval_lt (X.map (bt inn N))
  rwa [List.length_map] at this
theorem wn_nil (inn : Nat → Bool) (N : List Nd) : wn inn N [] = 0 := rfl
theorem wn_app (inn : Nat → Bool) (N : List Nd) (X Y : List Int) : wn inn N (X ++ Y) = wn inn N X + 2 ^ X.length * wn inn N Y := by
  unfold wn
  rw [List.map_append, bval_append, List.length_map]
theorem wn_one (inn : Nat → Bool) (N : List Nd) (q : Int) : wn inn N [q] = (bt inn N q).toNat := by
  unfold wn
  simp [bval]
theorem wn_snoc (inn : Nat → Bool) (N : List Nd) (X : List Int) (q : Int) : wn inn N (X ++ [q]) = wn inn N X + 2 ^ X.length * (bt inn N q).toNat := by
  rw [wn_app, wn_one]
theorem wn_bit (inn : Nat → Bool) (N : List Nd) (X : List Int) (i : Nat) : (wn inn N X).testBit i = (decide (i < X.length) && bt inn N (X.getD i 0)) := by
  unfold wn
  rw [bval_testBit, List.getD_eq_getElem?_getD, List.getElem?_map]
  by_cases h : i < X.length
  · rw [List.getElem?_eq_getElem h, List.getD_eq_getElem?_getD, List.getElem?_eq_getElem h]
    simp [h]
  · rw [List.getElem?_eq_none (by omega)]
    simp [h]
theorem wn_at {inn : Nat → Bool} {N : List Nd} {X : List Int} {i : Nat} (h : i < X.length) : (wn inn N X).testBit i = bt inn N (X.getD i 0) := by
  rw [wn_bit]
  simp [h]
theorem wn_out {inn : Nat → Bool} {N : List Nd} {X : List Int} {i : Nat} (h : X.length ≤ i) : (wn inn N X).testBit i = false := by
  rw [wn_bit]
  simp [Nat.not_lt.2 h]
theorem wn_eq {inn : Nat → Bool} {N : List Nd} {X : List Int} {V : Nat} (hV : V < 2 ^ X.length) (h : ∀ i < X.length, bt inn N (X.getD i 0) = V.testBit i) : wn inn N X = V := by
  apply Nat.eq_of_testBit_eq
  intro i
  by_cases hi : i < X.length
  · rw [wn_at hi, h i hi]
  · rw [wn_out (by omega), Nat.testBit_lt_two_pow (Nat.lt_of_lt_of_le hV (Nat.pow_le_pow_right (by omega) (by omega)))]
theorem Lays.num {N N' : List Nd} (h : Lays N N') {inn : Nat → Bool} {X : List Int} (hx : PW N.length X) : wn inn N' X = wn inn N X := by
  unfold wn
  congr 1
  exact List.map_congr_left fun q hq => h.bit (hx q hq)
theorem wn_take (inn : Nat → Bool) (N : List Nd) (X : List Int) (k : Nat) : wn inn N (X.take k) = wn inn N X % 2 ^ k := by
  unfold wn
  rw [bval_mod, List.map_take]
theorem wn_drop (inn : Nat → Bool) (N : List Nd) (X : List Int) (k : Nat) : wn inn N (X.drop k) = wn inn N X / 2 ^ k := by
  unfold wn
  rw [bval_div, List.map_drop]
/-! words that are laid bit by bit -/
structure Wv (N : List Nd) (Z : List Int) (j : Nat) (f : (Nat → Bool) → Nat → Bool) : Prop where
  len : Z.length = j
  pw : PW N.length Z
  at_ : ∀ inn i, i < j → bt inn N (Z.getD i 0) = f inn i
theorem Wv.nil (N : List Nd) (f : (Nat → Bool) → Nat → Bool) : Wv N [] 0 f := ⟨rfl, PW.nil _, fun inn i h => by omega⟩
theorem Wv.on {N N' : List Nd} {Z : List Int} {j : Nat} {f : (Nat → Bool) → Nat → Bool} (h : Wv N Z j f) (hl : Lays N N') : Wv N' Z j f :=
  ⟨h.len, hl.pw h.pw, fun inn i hi => (hl.bit (h.pw.at (by rw [h.len]; exact hi))).trans (h.at_ inn i hi)⟩
theorem Wv.snoc {N : List Nd} {Z : List Int} {j : Nat} {f : (Nat → Bool) → Nat → Bool} (h : Wv N Z j f) {q : Int} (hq : Pq N.length q) (hb : ∀ inn, bt inn N q = f inn j) : Wv N (Z ++ [q]) (j + 1) f := by
  have hl := h.len
  refine ⟨by rw [List.length_append, h.len]; rfl, h.pw.app (PW.one hq), fun inn i hi => ?_⟩
  by_cases e : i = j
  · subst e
    have := getD_right (A := Z) (B := [q]) (i := 0) (d := (0 : Int))
    rw [hl, Nat.add_zero] at this
    rw [this]
    exact hb inn
  · rw [getD_left (by omega)]
    exact h.at_ inn i (by omega)
theorem Wv.num {N : List Nd} {Z : List Int} {j : Nat} {f : (Nat → Bool) → Nat → Bool} (h : Wv N Z j f) {inn : Nat → Bool} {V : Nat} (hV : V < 2 ^ j) (hf : ∀ i < j, f inn i = V.testBit i) : wn inn N Z = V := by
  have hl := h.len
  exact wn_eq (by rw [hl]; exact hV) fun i hi => by rw [h.at_ inn i (by omega), hf i (by omega)]
/-! gates -/
theorem Gd.lay {N : List Nd} (h : Gd N) {x : Nd} (hf : formedS (N.length : Int) x = true) (h7 : x.k ≠ 7) : Lays N (N ++ [x]) := by
  refine ⟨⟨_, rfl⟩, h.1.app fun i y hy => ?_, fun y hy => ?_⟩
  · cases i with
    | zero => cases hy; rw [Nat.add_zero]; exact hf
    | succ i => simp at hy
  · rcases List.mem_append.1 hy with hy | hy
    · exact h.2 y hy
    · rw [List.mem_singleton.1 hy]; exact h7
theorem Pq.place {n : Nat} {q : Int} (h : Pq n q) : placeS (n : Int) q = true := by
  obtain ⟨h1, h2⟩ := h
  unfold placeS
  simp [h1, h2]
theorem lay_not {N : List Nd} (h : Gd N) {x : Int} (hx : Pq N.length x) : Lays N (N ++ [⟨2, x, 0, 0⟩]) ∧ ∀ inn, bt inn (N ++ [⟨2, x, 0, 0⟩]) (N.length : Int) = !bt inn N x := by
  refine ⟨h.lay ?_ (by simp), fun inn => by rw [bt_new]; rfl⟩
  unfold formedS sameN bareS usesS manyS kindS restS
  simp [hx.place]
theorem lay_and {N : List Nd} (h : Gd N) {x y : Int} (hx : Pq N.length x) (hy : Pq N.length y) : Lays N (N ++ [⟨3, x, y, 0⟩]) ∧ ∀ inn, bt inn (N ++ [⟨3, x, y, 0⟩]) (N.length : Int) = (bt inn N x && bt inn N y) := by
  refine ⟨h.lay ?_ (by simp), fun inn => by rw [bt_new]; rfl⟩
  unfold formedS sameN bareS usesS manyS kindS restS
  simp [hx.place, hy.place]
theorem lay_or {N : List Nd} (h : Gd N) {x y : Int} (hx : Pq N.length x) (hy : Pq N.length y) : Lays N (N ++ [⟨4, x, y, 0⟩]) ∧ ∀ inn, bt inn (N ++ [⟨4, x, y, 0⟩]) (N.length : Int) = (bt inn N x || bt inn N y) := by
  refine ⟨h.lay ?_ (by simp), fun inn => by rw [bt_new]; rfl⟩
  unfold formedS sameN bareS usesS manyS kindS restS
  simp [hx.place, hy.place]
theorem lay_xor {N : List Nd} (h : Gd N) {x y : Int} (hx : Pq N.length x) (hy : Pq N.length y) : Lays N (N ++ [⟨5, x, y, 0⟩]) ∧ ∀ inn, bt inn (N ++ [⟨5, x, y, 0⟩]) (N.length : Int) = (bt inn N x ^^ bt inn N y) := by
  refine ⟨h.lay ?_ (by simp), fun inn => by rw [bt_new]; rfl⟩
  unfold formedS sameN bareS usesS manyS kindS restS
  simp [hx.place, hy.place]
theorem lay_mux {N : List Nd} (h : Gd N) {x y c : Int} (hx : Pq N.length x) (hy : Pq N.length y) (hc : Pq N.length c) : Lays N (N ++ [⟨6, x, y, c⟩]) ∧ ∀ inn, bt inn (N ++ [⟨6, x, y, c⟩]) (N.length : Int) = if bt inn N c then bt inn N y else bt inn N x := by
  refine ⟨h.lay ?_ (by simp), fun inn => by rw [bt_new]; rfl⟩
  unfold formedS sameN bareS usesS manyS kindS restS
  simp [hx.place, hy.place, hc.place]
theorem lay_bit {N : List Nd} (h : Gd N) {v : Int} (hv : v = 0 ∨ v = 1) : Lays N (N ++ [⟨0, v, 0, 0⟩]) ∧ ∀ inn, bt inn (N ++ [⟨0, v, 0, 0⟩]) (N.length : Int) = decide (v = 1) := by
  refine ⟨h.lay ?_ (by simp), fun inn => by rw [bt_new]; rfl⟩
  unfold formedS sameN bareS usesS manyS kindS restS bitS
  rcases hv with rfl | rfl <;> simp
theorem lay_in {N : List Nd} (h : Gd N) : Lays N (N ++ [⟨1, 0, 0, 0⟩]) ∧ ∀ inn, bt inn (N ++ [⟨1, 0, 0, 0⟩]) (N.length : Int) = inn N.length := by
  refine ⟨h.lay ?_ (by simp), fun inn => by rw [bt_new]; rfl⟩
  unfold formedS sameN bareS usesS manyS kindS restS
  simp
theorem plc_pw (m n : Nat) : PW (m + n) (plc m n) := fun q hq => by
  unfold plc at hq
  obtain ⟨i, hi, rfl⟩ := List.mem_map.1 hq
  have := List.mem_range.1 hi
  exact Pq.nat (by omega)
theorem plc_snoc (m n : Nat) : plc m (n + 1) = plc m n ++ [((m + n : Nat) : Int)] := by
  unfold plc
  rw [List.range_succ]
  simp
/-- places that come in. -/
theorem lay_ins {N : List Nd} (h : Gd N) : ∀ n : Nat, Lays N (N ++ ins0 n) ∧ ∀ inn i, i < n → bt inn (N ++ ins0 n) ((N.length + i : Nat) : Int) = inn (N.length + i)
  | 0 => ⟨by rw [show ins0 0 = [] from rfl, List.append_nil]; exact Lays.refl h, fun inn i hi => by omega⟩
  | n + 1 => by
    obtain ⟨h1, h2⟩ := lay_ins h n
    obtain ⟨k1, k2⟩ := lay_in h1.gd
    have hl : (N ++ ins0 n).length = N.length + n := by rw [List.length_append, ins0_len]
    rw [ins0_succ, ← List.append_assoc]
    refine ⟨h1.trans k1, fun inn i hi => ?_⟩
    by_cases e : i = n
    · subst e
      have := k2 inn
      rw [hl] at this
      exact this
    · rw [k1.bit (by rw [hl]; exact Pq.nat (by omega))]
      exact h2 inn i (by omega)
/-- a number as constants. -/
theorem lay_word {N : List Nd} (h : Gd N) (x : Nat) : ∀ n : Nat, Lays N (N ++ wordN x n) ∧ Wv (N ++ wordN x n) (plc N.length n) n (fun _ i => x.testBit i)
  | 0 => ⟨by rw [show wordN x 0 = [] from rfl, List.append_nil]; exact Lays.refl h, Wv.nil _ _⟩
  | n + 1 => by
    obtain ⟨h1, h2⟩ := lay_word h x n
    have hl : (N ++ wordN x n).length = N.length + n := by rw [List.length_append, wordN_len]
    have hv : tobit ((x / 2 ^ n % 2 : Nat) : Int) = 0 ∨ tobit ((x / 2 ^ n % 2 : Nat) : Int) = 1 := by
      unfold tobit
      split
      · exact .inl rfl
      · exact .inr rfl
    obtain ⟨k1, k2⟩ := lay_bit h1.gd hv
    rw [wordN_succ, ← List.append_assoc, plc_snoc]
    refine ⟨h1.trans k1, (h2.on k1).snoc ?_ fun inn => ?_⟩
    · rw [List.length_append, hl]
      exact Pq.nat (by simp)
    · have := k2 inn
      rw [hl] at this
      rw [this, Nat.testBit_eq_decide_div_mod_eq]
      unfold tobit
      have : x / 2 ^ n % 2 = 0 ∨ x / 2 ^ n % 2 = 1 := by omega
      rcases this with e | e <;> rw [e] <;> simp
end Go.Proofs.Ytcfmgoilncninaa

namespace Go.Proofs.Ytcfmgoilncninaa
set_option linter.unusedVariables false
set_option maxRecDepth 4000

def b2i (b : Bool) : Int := if b then 1 else 0
theorem b2i_at (l : List Bool) (j : Nat) : (l.map b2i).getD j 0 = b2i (l.getD j false) := by
  rw [List.getD_eq_getElem?_getD, List.getElem?_map, List.getD_eq_getElem?_getD]
  cases l[j]? <;> rfl
theorem formed_k {n : Int} {x : Nd} (h : formedS n x = true) : (x.k = 0 ∧ (x.a = 0 ∨ x.a = 1)) ∨ x.k = 1 ∨ (x.k = 2 ∧ 0 ≤ x.a ∧ x.a < n) ∨ ((x.k = 3 ∨ x.k = 4 ∨ x.k = 5) ∧ (0 ≤ x.a ∧ x.a < n) ∧ 0 ≤ x.b ∧ x.b < n) ∨ (x.k = 6 ∧ (0 ≤ x.a ∧ x.a < n) ∧ (0 ≤ x.b ∧ x.b < n) ∧ 0 ≤ x.c ∧ x.c < n) ∨ x.k = 7 := by
  unfold formedS kindS at h
  simp only [Bool.and_eq_true, decide_eq_true_eq] at h
  obtain ⟨⟨h0, h7⟩, _, hu, hr⟩ := h
  rcases (show x.k = 0 ∨ x.k = 1 ∨ x.k = 2 ∨ x.k = 3 ∨ x.k = 4 ∨ x.k = 5 ∨ x.k = 6 ∨ x.k = 7 by omega) with e | e | e | e | e | e | e | e
  · refine .inl ⟨e, ?_⟩
    unfold restS bitS at hr
    simpa [e] using hr
  · exact .inr (.inl e)
  · unfold usesS manyS placeS at hu
    simp [e] at hu
    exact .inr (.inr (.inl ⟨e, hu⟩))
  · unfold usesS manyS placeS at hu
    simp [e] at hu
    exact .inr (.inr (.inr (.inl ⟨.inl e, hu⟩)))
  · unfold usesS manyS placeS at hu
    simp [e] at hu
    exact .inr (.inr (.inr (.inl ⟨.inr (.inl e), hu⟩)))
  · unfold usesS manyS placeS at hu
    simp [e] at hu
    exact .inr (.inr (.inr (.inl ⟨.inr (.inr e), hu⟩)))
  · unfold usesS manyS placeS at hu
    simp [e] at hu
    exact .inr (.inr (.inr (.inr (.inl ⟨e, hu⟩))))
  · exact .inr (.inr (.inr (.inr (.inr e))))
theorem gvB_dep {n : Nat} {x : Nd} (h : formedS (n : Int) x = true) {i : Nat} {inn : Nat → Bool} {u v : List Bool} (huv : ∀ j < n, u.getD j false = v.getD j false) : gvB x i inn u = gvB x i inn v := by
  have g : ∀ q : Int, 0 ≤ q ∧ q < (n : Int) → u.getD q.toNat false = v.getD q.toNat false := fun q hq => huv _ (by omega)
  unfold gvB
  rcases formed_k h with ⟨e, _⟩ | e | ⟨e, ha⟩ | ⟨e | e | e, ha, hb⟩ | ⟨e, ha, hb, hc⟩ | e <;> rw [e] <;> simp only [show ¬ ((1 : Int) = 0) by omega, show ¬ ((2 : Int) = 0) by omega, show ¬ ((2 : Int) = 1) by omega, show ¬ ((3 : Int) = 0) by omega, show ¬ ((3 : Int) = 1) by omega, show ¬ ((3 : Int) = 2) by omega, show ¬ ((4 : Int) = 0) by omega, show ¬ ((4 : Int) = 1) by omega, show ¬ ((4 : Int) = 2) by omega, show ¬ ((4 : Int) = 3) by omega, show ¬ ((5 : Int) = 0) by omega, show ¬ ((5 : Int) = 1) by omega, show ¬ ((5 : Int) = 2) by omega, show ¬ ((5 : Int) = 3) by omega, show ¬ ((5 : Int) = 4) by omega, show ¬ ((6 : Int) = 0) by omega, show ¬ ((6 : Int) = 1) by omega, show ¬ ((6 : Int) = 2) by omega, show ¬ ((6 : Int) = 3) by omega, show ¬ ((6 : Int) = 4) by omega, show ¬ ((6 : Int) = 5) by omega, show ¬ ((7 : Int) = 0) by omega, show ¬ ((7 : Int) = 1) by omega, show ¬ ((7 : Int) = 2) by omega, show ¬ ((7 : Int) = 3) by omega, show ¬ ((7 : Int) = 4) by omega, show ¬ ((7 : Int) = 5) by omega, show ¬ ((7 : Int) = 6) by omega, if_true, if_false]
  · rw [g _ ha]
  · rw [g _ ha, g _ hb]
  · rw [g _ ha, g _ hb]
  · rw [g _ ha, g _ hb]
  · rw [g _ ha, g _ hb, g _ hc]
/-- each node's bit is told by the bits. -/
theorem evL_at {inn : Nat → Bool} : ∀ N : List Nd, Bk N → ∀ i x, N[i]? = some x → (evL inn N).getD i false = gvB x i inn (evL inn N) := by
  refine snoc_ind (fun _ i x h => by simp at h) fun M y ih hb i x hx => ?_
  have hbM : Bk M := fun j z hz => hb j z (by rw [List.getElem?_append_left (List.getElem?_eq_some_iff.1 hz).1]; exact hz)
  rw [evL_snoc]
  by_cases hi : i < M.length
  · rw [List.getElem?_append_left hi] at hx
    rw [getD_left (by rw [evL_len]; exact hi), ih hbM i x hx]
    exact gvB_dep (hbM i x hx) fun j hj => (getD_left (by rw [evL_len]; omega)).symm
  · rw [List.getElem?_append_right (by omega)] at hx
    obtain ⟨j, hj⟩ : ∃ j, i = M.length + j := ⟨i - M.length, by omega⟩
    subst hj
    rw [Nat.add_sub_cancel_left] at hx
    cases j with
    | succ j => simp at hx
    | zero =>
      cases hx
      have hb2 := hb M.length y (by rw [List.getElem?_append_right (Nat.le_refl _), Nat.sub_self]; rfl)
      have := getD_right (A := evL inn M) (B := [gvB y (evL inn M).length inn (evL inn M)]) (i := 0) (d := false)
      rw [evL_len] at this
      rw [Nat.add_zero] at this ⊢
      rw [evL_len, this]
      show gvB y M.length inn (evL inn M) = _
      exact gvB_dep hb2 fun j hj => (getD_left (by rw [evL_len]; omega)).symm
theorem b2i_not (a : Bool) : b2i (!a) = 1 - b2i a := by cases a <;> rfl
theorem b2i_and (a b : Bool) : b2i (a && b) = min (b2i a) (b2i b) := by cases a <;> cases b <;> rfl
theorem b2i_or (a b : Bool) : b2i (a || b) = max (b2i a) (b2i b) := by cases a <;> cases b <;> rfl
theorem b2i_xor (a b : Bool) : b2i (a ^^ b) = (b2i a + b2i b) % 2 := by cases a <;> cases b <;> rfl
theorem b2i_mux (a b c : Bool) : b2i (if c then b else a) = if b2i c = 1 then b2i b else b2i a := by cases c <;> rfl
/-- the bits are the values. -/
theorem sol_ev {N : List Nd} (hg : Gd N) (st inn : List Int) (h01 : v01 inn) : Sol N st inn ((evL (fun i => decide (inn.getD i 0 = 1)) N).map b2i) := by
  refine ⟨by rw [List.length_map, evL_len], fun i hi => ?_⟩
  have hx : N[i]? = some N[i] := List.getElem?_eq_getElem hi
  have h7 : N[i].k ≠ 7 := hg.2 _ (List.getElem_mem hi)
  have hf := hg.1 i _ hx
  rw [b2i_at, evL_at N hg.1 i _ hx, getD_of hx]
  generalize N[i] = x at hf h7
  have g : ∀ q : Int, atI ((evL (fun i => decide (inn.getD i 0 = 1)) N).map b2i) q = b2i ((evL (fun i => decide (inn.getD i 0 = 1)) N).getD q.toNat false) := fun q => b2i_at _ _
  unfold nodeS gateS gvS
  rw [g, g, g]
  unfold gvB
  rcases formed_k hf with ⟨e, ha⟩ | e | ⟨e, ha⟩ | ⟨e | e | e, ha, hb⟩ | ⟨e, ha, hb, hc⟩ | e
  · rw [if_pos e, if_pos e]
    rcases ha with h | h <;> rw [h] <;> rfl
  · rw [if_neg (by omega), if_pos e, if_neg (by omega), if_pos e]
    have : inn.getD i 0 = 0 ∨ inn.getD i 0 = 1 := by
      have := h01.at (i : Int)
      unfold atI at this
      rwa [Int.toNat_natCast] at this
    show b2i (decide (inn.getD i 0 = 1)) = inn.getD i 0
    rcases this with h | h <;> rw [h] <;> rfl
  · rw [if_neg (by omega), if_neg (by omega), if_pos e, if_neg (by omega), if_neg (by omega), if_neg h7, if_pos e, b2i_not]
  · rw [if_neg (by omega), if_neg (by omega), if_neg (by omega), if_pos e, if_neg (by omega), if_neg (by omega), if_neg h7, if_neg (by omega), if_pos e, b2i_and]
  · rw [if_neg (by omega), if_neg (by omega), if_neg (by omega), if_neg (by omega), if_pos e, if_neg (by omega), if_neg (by omega), if_neg h7, if_neg (by omega), if_neg (by omega), if_pos e, b2i_or]
  · rw [if_neg (by omega), if_neg (by omega), if_neg (by omega), if_neg (by omega), if_neg (by omega), if_pos e, if_neg (by omega), if_neg (by omega), if_neg h7, if_neg (by omega), if_neg (by omega), if_neg (by omega), if_pos e, b2i_xor]
  · have n0 : ¬ x.k = 0 := by omega
    have n1 : ¬ x.k = 1 := by omega
    have n2 : ¬ x.k = 2 := by omega
    have n3 : ¬ x.k = 3 := by omega
    have n4 : ¬ x.k = 4 := by omega
    have n5 : ¬ x.k = 5 := by omega
    simp only [if_neg n0, if_neg n1, if_neg n2, if_neg n3, if_neg n4, if_neg n5, if_neg h7, if_pos e, b2i_mux]
  · exact absurd e h7
theorem numS_wn (inn : Nat → Bool) (N : List Nd) (X : List Int) : ∀ j, j ≤ X.length → numS X ((evL inn N).map b2i) j = wn inn N (X.take j)
  | 0, _ => by rw [List.take_zero]; rfl
  | j + 1, h => by
    have e : X.take (j + 1) = X.take j ++ [X.getD j 0] := by
      rw [List.take_add_one, List.getElem?_eq_getElem (by omega), List.getD_eq_getElem?_getD, List.getElem?_eq_getElem (by omega)]
      rfl
    unfold numS
    rw [e, wn_snoc, numS_wn inn N X j (by omega), List.length_take, Nat.min_eq_left (by omega)]
    unfold atI bt
    rw [b2i_at]
    cases (evL inn N).getD (X.getD j 0).toNat false <;> simp [b2i]
/-- what comes in, by place. -/
def inF (I : List Pt) (xs : List Nat) (m : Nat) (q : Nat) : Bool := decide ((insR I xs (List.replicate m 0) I.length).getD q 0 = 1)
theorem run_ev {N : List Nd} (hg : Gd N) {I O : List Pt} {L : List Nat} (ho : Odr N L) {xs : List Nat} (hfit : fitsS I xs = true) : rrunX N I O (nI L) [xs] = ([O.map fun p => wn (inF I xs N.length) N p.bits], 0) := by
  unfold rrunX
  rw [if_pos (by simpa using hfit)]
  obtain ⟨f, hf⟩ := hg.1.all
  have h1 := odr_sol ho hg.1.formed (startR N) (insR I xs (List.replicate N.length 0) I.length)
  have h2 := sol_ev hg (startR N) (insR I xs (List.replicate N.length 0) I.length) (insR_01 _ _ (zero_01 _) _)
  have h3 := sol_unique hf hg.1.formed h1 h2
  show ([outS O (rval N I (nI L) (startR N) xs)], (0 : Int)) = _
  unfold rval
  rw [h3]
  unfold outS
  congr 2
  refine List.map_congr_left fun p hp => ?_
  have := numS_wn (inF I xs N.length) N p.bits p.bits.length (Nat.le_refl _)
  rw [List.take_length] at this
  exact this
/-! what comes in, port by port -/
theorem setQ_at {a n x : Nat} {v : List Int} (hv : a + n ≤ v.length) (q : Nat) : ∀ j, j ≤ n → (setR (plc a n) x v j).getD q 0 = if a ≤ q ∧ q < a + j ∧ bitI x (q - a) = 1 then 1 else v.getD q 0
  | 0, _ => by
    unfold setR
    rw [if_neg (by omega)]
  | j + 1, h => by
    have ih := setQ_at (x := x) hv q j (by omega)
    unfold setR
    split
    · rename_i hb
      rw [getD_set, plc_at (by omega), Int.toNat_natCast, setR_len, ih]
      by_cases e : q = a + j
      · subst e
        rw [if_pos ⟨rfl, by omega⟩, if_pos ⟨by omega, by omega, by rw [Nat.add_sub_cancel_left]; exact hb⟩]
      · rw [if_neg (fun h => e h.1)]
        by_cases h2 : a ≤ q ∧ q < a + j ∧ bitI x (q - a) = 1
        · rw [if_pos h2, if_pos ⟨h2.1, by omega, h2.2.2⟩]
        · rw [if_neg h2, if_neg (fun k => h2 ⟨k.1, by omega, k.2.2⟩)]
    · rename_i hb
      rw [ih]
      by_cases h2 : a ≤ q ∧ q < a + j ∧ bitI x (q - a) = 1
      · rw [if_pos h2, if_pos ⟨h2.1, by omega, h2.2.2⟩]
      · rw [if_neg h2]
        by_cases e : q = a + j
        · subst e
          rw [if_neg (fun k => hb (by have := k.2.2; rwa [Nat.add_sub_cancel_left] at this))]
        · rw [if_neg (fun k => h2 ⟨k.1, by omega, k.2.2⟩)]
theorem bitI_out {x n t : Nat} (hx : blen x ≤ n) (ht : n ≤ t) : bitI x t = 0 := by
  have : x < 2 ^ t := Nat.lt_of_lt_of_le ((blen_le x n).1 hx) (Nat.pow_le_pow_right (by omega) ht)
  unfold bitI
  rw [Nat.div_eq_of_lt this]
  rfl
theorem insQ_at {I : List Pt} {xs : List Nat} (s d : Nat → Nat) (m : Nat) (hs : ∀ i < I.length, (I.getD i pt0).bits = plc (s i) (d i) ∧ s (i + 1) = s i + d i ∧ blen (xs.getD i 0) ≤ d i) (hm : s I.length ≤ m) (hz : 0 ≤ s 0) : ∀ j, j ≤ I.length → (∀ q, s j ≤ q → (insR I xs (List.replicate m 0) j).getD q 0 = 0) ∧ (∀ i < j, ∀ t < d i, (insR I xs (List.replicate m 0) j).getD (s i + t) 0 = bitI (xs.getD i 0) t)
  | 0, _ => ⟨fun q _ => by
      unfold insR
      rw [List.getD_eq_getElem?_getD, List.getElem?_replicate]
      split <;> rfl, fun i h => by omega⟩
  | j + 1, h => by
    obtain ⟨i1, i2⟩ := insQ_at s d m hs hm hz j (by omega)
    obtain ⟨h1, h2, h3⟩ := hs j (by omega)
    have mono : ∀ a b, a ≤ b → b ≤ I.length → s a ≤ s b := by
      intro a b hab
      induction b with
      | zero => intro _; rw [show a = 0 by omega]; exact Nat.le_refl _
      | succ b ih =>
        intro hb
        by_cases e : a = b + 1
        · rw [e]; exact Nat.le_refl _
        · have := (hs b (by omega)).2.1
          have := ih (by omega) (by omega)
          omega
    have hlen : s j + d j ≤ (insR I xs (List.replicate m 0) j).length := by
      have hl : ∀ k, (insR I xs (List.replicate m (0 : Int)) k).length = m := by
        intro k
        induction k with
        | zero => unfold insR; exact List.length_replicate ..
        | succ k ih => unfold insR; rw [setR_len, ih]
      rw [hl, ← h2]
      exact Nat.le_trans (mono (j + 1) _ h (Nat.le_refl _)) hm
    have key : ∀ q, (insR I xs (List.replicate m 0) (j + 1)).getD q 0 = if s j ≤ q ∧ q < s j + blen (xs.getD j 0) ∧ bitI (xs.getD j 0) (q - s j) = 1 then 1 else (insR I xs (List.replicate m 0) j).getD q 0 := fun q => by
      show (setR (I.getD j pt0).bits (xs.getD j 0) (insR I xs (List.replicate m 0) j) (blen (xs.getD j 0))).getD q 0 = _
      rw [h1]
      exact setQ_at hlen q _ h3
    refine ⟨fun q hq => ?_, fun i hi t ht => ?_⟩
    · rw [key, if_neg (by omega), i1 q (by omega)]
    · rw [key]
      by_cases e : i = j
      · subst e
        rw [Nat.add_sub_cancel_left, i1 _ (by omega)]
        by_cases hb : t < blen (xs.getD i 0)
        · rcases bitI_01 (xs.getD i 0) t with e | e
          · rw [e, if_neg (by omega)]
          · rw [e, if_pos ⟨by omega, by omega, rfl⟩]
        · rw [if_neg (by omega), bitI_out (Nat.le_refl _) (by omega)]
      · have h4 := (hs i (by omega)).2.1
        have h5 := mono (i + 1) j (by omega) (by omega)
        rw [if_neg (by omega), i2 i (by omega) t ht]
theorem inF_at {I : List Pt} {xs : List Nat} (s d : Nat → Nat) {m : Nat} (hs : ∀ i < I.length, (I.getD i pt0).bits = plc (s i) (d i) ∧ s (i + 1) = s i + d i ∧ blen (xs.getD i 0) ≤ d i) (hm : s I.length ≤ m) {i t : Nat} (hi : i < I.length) (ht : t < d i) : inF I xs m (s i + t) = (xs.getD i 0).testBit t := by
  unfold inF
  rw [(insQ_at s d m hs hm (Nat.zero_le _) _ (Nat.le_refl _)).2 i hi t ht, Nat.testBit_eq_decide_div_mod_eq]
  unfold bitI
  congr 1
  apply propext
  omega
end Go.Proofs.Ytcfmgoilncninaa

namespace Go.Proofs.Ytcfmgoilncninaa
open Go.RowKit
set_option linter.unusedVariables false
set_option maxRecDepth 4000

def gateG (k : Int) (a b : Bool) : Bool := if k = 3 then (a && b) else if k = 4 then (a || b) else (a ^^ b)
def opG (k : Int) (x y : Nat) : Nat := if k = 3 then x &&& y else if k = 4 then x ||| y else x ^^^ y
theorem opG_bit (k : Int) (x y i : Nat) : (opG k x y).testBit i = gateG k (x.testBit i) (y.testBit i) := by
  unfold opG gateG
  split
  · exact Nat.testBit_and ..
  · split
    · exact Nat.testBit_or ..
    · exact Nat.testBit_xor ..
theorem opG_lt (k : Int) {x y m : Nat} (hx : x < 2 ^ m) (hy : y < 2 ^ m) : opG k x y < 2 ^ m := by
  unfold opG
  split
  · exact Nat.and_lt_two_pow _ hy
  · split
    · exact Nat.or_lt_two_pow hx hy
    · exact Nat.xor_lt_two_pow hx hy
theorem gate8_as (k : Int) (a b : Bool) (w : World) : Calls Try.prog 99 #[.int .i64 k, .bool a, .bool b] w fun en w' => en = .returned (.bool (gateG k a b)) ∧ w = w' := by
  unfold gateG
  by_cases h3 : k = 3
  · have e3 : (k == 3) = true := by simp [h3]
    rw [if_pos h3]
    clear h3
    go_enter Try.func99, Try.ntmps99
    cases a <;> cases b <;> (go_wp2_with fail; go_ret; exact ⟨rfl, rfl⟩)
  · have e3 : (k == 3) = false := by simp [h3]
    rw [if_neg h3]
    by_cases h4 : k = 4
    · have e4 : (k == 4) = true := by simp [h4]
      rw [if_pos h4]
      clear h3 h4
      go_enter Try.func99, Try.ntmps99
      cases a <;> cases b <;> (go_wp2_with fail; go_ret; exact ⟨rfl, rfl⟩)
    · have e4 : (k == 4) = false := by simp [h4]
      rw [if_neg h4]
      clear h3 h4
      go_enter Try.func99, Try.ntmps99
      cases a <;> cases b <;> (go_wp2_with fail; go_ret; exact ⟨rfl, rfl⟩)
def eachL (k : Int) (as_ bs : List Bool) (j : Nat) : List Bool := (List.range j).map fun i => gateG k (as_.getD i false) (bs.getD i false)
theorem eachL_len (k : Int) (as_ bs : List Bool) (j : Nat) : (eachL k as_ bs j).length = j := by simp [eachL]
theorem eachL_succ (k : Int) (as_ bs : List Bool) (j : Nat) : eachL k as_ bs (j + 1) = eachL k as_ bs j ++ [gateG k (as_.getD j false) (bs.getD j false)] := by
  unfold eachL
  rw [List.range_succ]
  simp
theorem eachL_val (k : Int) (as_ bs : List Bool) (m : Nat) : bval (eachL k as_ bs m) % 2 ^ m = opG k (bval as_) (bval bs) % 2 ^ m := by
  apply Nat.eq_of_testBit_eq
  intro i
  rw [Nat.testBit_mod_two_pow, Nat.testBit_mod_two_pow, opG_bit, bval_testBit, bval_testBit, bval_testBit]
  by_cases h : i < m
  · unfold eachL
    rw [List.getD_eq_getElem?_getD, List.getElem?_map, List.getElem?_range h]
    rfl
  · simp [h]
theorem br_len {w : World} {A : Option Addr} {n c x : Nat} (h : BR w A n c x) {m : Nat} (hx : x < 2 ^ m) : n ≤ m := by
  rw [h.size]
  exact (blen_le x m).2 hx
set_option maxHeartbeats 4000000 in
/-- EACH. -/
theorem each8_as {A1 A2 : Option Addr} {n1 c1 n2 c2 x y : Nat} {w : World} (h1 : BR w A1 n1 c1 x) (h2 : BR w A2 n2 c2 y) (s1 : n1 ≤ 1000000) (s2 : n2 ≤ 1000000) (k : Int) (m : Nat) (hm : m ≤ 100000) :
    Calls Try.prog 26 #[.int .i64 k, .slice A1 n1 c1, .slice A2 n2 c2, .int .i64 (m : Int)] w (BitsPost w (opG k x y % 2 ^ m)) := by
  obtain ⟨as_, ha, _, _, _, va⟩ := h1
  obtain ⟨bs, hb, _, _, _, vb⟩ := h2
  have VA := Lib.hid va
  have VB := Lib.hid vb
  have HA := Lib.hid ha
  have HBS := Lib.hid hb
  clear va vb ha hb
  go_enter Try.func26, Try.ntmps26
  go_upto_region 2 with fail
  obtain ⟨w0, e_w0⟩ : ∃ w', w.alloc (.cells #[] 4) = w' := ⟨_, rfl⟩
  have b0 : Below w.heap.size w w0 := e_w0 ▸ below_lit _ _
  have hg0 : Grow w0 w.heap.size 4 (.slice (some ⟨w.heap.size, 0, none⟩) 0 0) (Bo (eachL k as_ bs 0)) := e_w0 ▸ Grow.made w _ (Nat.le_refl _)
  rw [e_w0]
  clear e_w0
  go_wp2_with fail
  go_loopw [9, 10] (fun ov iv wr => ∃ j : Nat, j ≤ m ∧ iv = .int .i64 j ∧ (∃ g cap, ov = .slice (some ⟨g, 0, none⟩) j cap) ∧ Hid (Grow wr w.heap.size 4 ov (Bo (eachL k as_ bs j))) ∧ Hid (Below w.heap.size w wr)) (fun _ iv _ => m - (intOf iv).toNat)
  case atStart => exact ⟨0, Nat.zero_le _, rfl, ⟨_, _, rfl⟩, Lib.hid hg0, Lib.hid b0⟩
  case round =>
    clear hg0 b0
    obtain ⟨j, hj, rfl, ⟨g, cap, rfl⟩, HG, HB⟩ := hrel
    by_cases hlt : j < m
    · have i1 : (j : Int) < (m : Int) := by omega
      obtain ⟨a, ea⟩ : ∃ a, as_.getD j false = a := ⟨_, rfl⟩
      obtain ⟨b, eb⟩ : ∃ b, bs.getD j false = b := ⟨_, rfl⟩
      have EA := Lib.hid ea
      have EB := Lib.hid eb
      clear ea eb
      go_wp2_with fail
      refine (rbit_any (HA.out.on HB.out) (by omega) (j : Int) a (Lib.hid (by rw [bitAt_nat]; exact EA.out))).mono ?_
      rintro en w1 ⟨rfl, rfl⟩
      go_wp2_with fail
      refine (rbit_any (HBS.out.on HB.out) (by omega) (j : Int) b (Lib.hid (by rw [bitAt_nat]; exact EB.out))).mono ?_
      rintro en w1 ⟨rfl, rfl⟩
      go_wp2_with fail
      refine (gate8_as k a b _).mono ?_
      rintro en w1 ⟨rfl, rfl⟩
      obtain ⟨r, hr⟩ : ∃ r, gateG k a b = r := ⟨_, rfl⟩
      rw [hr]
      have hg := HG.out
      have hsz := HB.out.size
      have hll : (Bo (eachL k as_ bs j)).length + 1 ≤ 1000000 := by rw [Bo_len, eachL_len]; omega
      have HR := Lib.hid hr
      clear hr
      go_wp2_with (at_builtin; refine wpList_push3 _ rfl _ _ 40 rfl elm_bits8 (by omega) w.heap.size _ _ rfl hg _ rfl rfl hll hsz ?_; intro g7 cap7 w7 hr7 hG7 hw7)
      have B7 : Below w.heap.size w w7 := HB.out.grown hG7 HB.out.size fun k hk => (hg.lt k hk).1
      have hr8 : Hid (Grow w7 w.heap.size 4 (.slice (some ⟨g7, 0, none⟩) ((Bo (eachL k as_ bs j)).length + 1) cap7) (Bo (eachL k as_ bs (j + 1)))) := Lib.hid (by
        have e : Bo (eachL k as_ bs (j + 1)) = Bo (eachL k as_ bs j) ++ [.bool r] := by rw [eachL_succ, EA.out, EB.out, HR.out]; simp [Bo]
        rw [e]
        exact hr7)
      clear hg hr7 hG7 hw7
      go_roundw
      case rel => exact ⟨j + 1, by omega, by go_num, ⟨_, _, by rw [Bo_len, eachL_len]⟩, hr8, Lib.hid B7⟩
      case measure => simp [intOf]; omega
    · obtain rfl : j = m := by omega
      obtain ⟨A', c', e, hb, h1, h2⟩ := HG.out.bits
      injection e with e1 e2 e3
      subst e1 e3
      clear e2
      rw [Bo_len, eachL_len] at hb
      have HBW := Lib.hid HB.out
      go_wp2_with fail
      refine (rlow8_any hb rfl (by omega) j (by omega)).mono ?_
      rintro en w2 ⟨A2, n2, c2, rfl, hb2, b2⟩
      go_wp2_with fail
      go_ret
      refine ⟨A2, n2, c2, rfl, ?_, Below.step HBW.out b2⟩
      rw [eachL_val, VA.out, VB.out] at hb2
      exact hb2
/-- IS. -/
theorem is8_as {A1 A2 : Option Addr} {n1 c1 n2 c2 x y : Nat} {w : World} (h1 : Res w A1 n1 x) (h2 : BR w A2 n2 c2 y) (s1 : n1 ≤ 1000000) (s2 : n2 ≤ 1000000) :
    Calls Try.prog 25 #[.slice A1 n1 c1, .slice A2 n2 c2] w fun en w' => en = .returned (.bool (decide (x = y))) ∧ Below w.heap.size w w' := by
  have H1 := Lib.hid h1
  have S2 := Lib.hid h2.size
  clear h1
  go_enter Try.func25, Try.ntmps25
  go_wp2_with fail
  refine (rparts_any h2 s2).mono ?_
  rintro en w1 ⟨A3, n3, c3, rfl, h3, hn3, b3⟩
  have s3 : n3 ≤ 2000000 := by have := S2.out; omega
  obtain ⟨xs, r1, k1, v1⟩ := H1.out.on b3
  obtain ⟨ys, r2, k2, v2⟩ := h3
  have E : Hid (decide (xs = ys) = decide (x = y)) := Lib.hid (by
    congr 1
    apply propext
    constructor
    · intro e
      rw [← v1, ← v2, e]
    · intro e
      exact canon_unique xs ys k1 k2 (by rw [v1, v2, e]))
  have B3 := Lib.hid b3
  clear k1 v1 k2 v2 b3 hn3 S2 h2
  go_wp2_with fail
  refine (same_any r1 r2 (by omega) s3).mono ?_
  rintro en w2 ⟨d, rfl, rfl⟩
  go_wp2_with fail
  go_ret
  exact ⟨by rw [E.out]; rfl, below_drewN B3.out d⟩
theorem one8_as (v : Bool) (w : World) : Calls Try.prog 77 #[.bool v] w (BitsPost w v.toNat) := by
  cases v
  · go_enter Try.func77, Try.ntmps77
    go_wp2_with fail
    go_ret
    refine ⟨_, _, _, rfl, ⟨[], ⟨⟨rfl, fun i u hu => by simp [Bo] at hu⟩, Tg.nil_⟩, Nat.le_refl _, by unfold maxLen; omega, rfl, rfl⟩, ?_⟩
    exact below_lit _ _
  · go_enter Try.func77, Try.ntmps77
    go_wp2_with fail
    go_ret
    have o := Own.made w 4 [.bool true]
    refine ⟨_, _, _, rfl, ⟨[true], ⟨⟨rfl, fun i u hu => ?_⟩, fun _ => ⟨w.heap.size, 0, _, _, rfl, o⟩⟩, Nat.le_refl _, by unfold maxLen; omega, rfl, rfl⟩, ?_⟩
    · exact ⟨w.heap.size, 0, rfl, o.lt, by rw [Nat.zero_add, o.cell]; exact hu⟩
    · exact below_lit _ _
end Go.Proofs.Ytcfmgoilncninaa

namespace Go.Proofs.Ytcfmgoilncninaa
open Go.RowKit
set_option linter.unusedVariables false
set_option maxRecDepth 4000

/-- a word of the call's own is told: its number. -/
def WG (w : World) (base top p : Nat) (N : List Nd) (I O : List Pt) (n cost : Nat) (v : (Nat → Bool) → Nat) (en : Ending) (w' : World) : Prop := ∃ (A : Option Addr) (c : Nat) (Z : List Int) (N' : List Nd), en = .returned (.slice A n c) ∧ Grow w' w.heap.size 3 (.slice A n c) (ivs Z) ∧ Sw A n c ∧ Z.length = n ∧ Bd w' base top p N' I O ∧ BF base p w w' ∧ Lays N N' ∧ N'.length ≤ N.length + cost ∧ PW N'.length Z ∧ ∀ inn, wn inn N' Z = v inn
theorem Grow.wo {w : World} {base n c : Nat} {A : Option Addr} {Z : List Int} (h : Grow w base 3 (.slice A n c) (ivs Z)) (hl : Z.length = n) : Wo w A n Z := h.rwt (by rw [ivs_len7]; exact hl)
theorem Grow.low {w : World} {base base2 : Nat} {t : TypeId} {v : Value} {xs : List Value} (h : Grow w base t v xs) (hb : base2 ≤ base) : Grow w base2 t v xs := by
  unfold Grow at h ⊢
  exact row_low h hb
theorem Wo.take {w : World} {A : Option Addr} {n m : Nat} {X : List Int} (h : Wo w A n X) (hm : m ≤ n) : Wo w A m (X.take m) := by
  have hl := h.len
  refine ⟨⟨by rw [ivs_len7, List.length_take]; omega, fun k u hu => ?_⟩, fun h0 => h.2 (by omega)⟩
  refine h.1.2 k u ?_
  unfold ivs at hu ⊢
  rw [List.getElem?_map] at hu ⊢
  rw [List.getElem?_take] at hu
  split at hu
  · exact hu
  · cases hu
theorem one_ivs (X : List Int) : ∀ u ∈ ivs X, u.oneCell' = true := by
  intro u hu
  unfold ivs at hu
  obtain ⟨x, _, rfl⟩ := List.mem_map.1 hu
  rfl
theorem ivs_app (X Y : List Int) : ivs (X ++ Y) = ivs X ++ ivs Y := by unfold ivs; rw [List.map_append]
theorem Arg.none_ (w : World) : Arg w none 0 0 0 := ⟨[], ⟨⟨rfl, fun i u hu => by simp [U] at hu⟩, fun b h => by cases h⟩, Nat.le_refl _, by unfold maxLen; omega, rfl⟩
/-! slices.Concat of two words -/
theorem growI_none {w : World} (n : Int) (hn : n = 0) : Calls Try.prog 139 #[.slice none 0 0, .int .i64 n] w fun en w' => ∃ v, en = .returned v ∧ w'.ownsRow w.heap.size 3 1 v 0 [] ∧ Below w.heap.size w w' := by
  subst hn
  go_enter Try.func139, Try.ntmps139
  go_wp2_with fail
  go_ret
  exact ⟨_, rfl, World.ownsRow_nil w _ _ _, Below.refl _ _⟩
set_option maxHeartbeats 1000000 in
theorem growI_some {w : World} (n : Nat) (h0 : 0 < n) (hn : n ≤ 1000000) : Calls Try.prog 139 #[.slice none 0 0, .int .i64 (n : Int)] w fun en w' => ∃ v, en = .returned v ∧ w'.ownsRow w.heap.size 3 1 v 0 [] ∧ Below w.heap.size w w' := by
  have hfit : ¬ 281474976710656 < Builtin.nextslicecap n 0 * 8 := by
    have := growslice_fits (need := n) (old := 0) (bytes := 8) (by omega) (by omega)
    omega
  have hbytes : Try.t3.bytes = 8 := rfl
  go_enter Try.func139, Try.ntmps139
  go_wp2_with fail
  have g1 := grownCap_ge w n 0 3
  have g2 := grownCap_le_maxLen w n 0 3 (by unfold maxLen; omega)
  unfold grownCap at g1 g2
  generalize (Question.appendCap n 0 3).cut (w.tape w.drawn (Question.appendCap n 0 3)) = cap at *
  go_ret
  refine ⟨_, rfl, ⟨rfl, .inr ⟨w.heap.size, cap, _, rfl, Nat.le_refl _, heap_alloc_new _ _, Nat.zero_le _, g2, ?_, ?_⟩⟩, ?_⟩
  · simp [size_zeroCells]
    omega
  · simp
  · first | exact below_lit _ _ | exact (Below.refl _ _).drew.alloc (Nat.le_refl _) _
theorem growI_as {w : World} (n : Nat) (hn : n ≤ 1000000) : Calls Try.prog 139 #[.slice none 0 0, .int .i64 (n : Int)] w fun en w' => ∃ v, en = .returned v ∧ w'.ownsRow w.heap.size 3 1 v 0 [] ∧ Below w.heap.size w w' := by
  by_cases h0 : n = 0
  · exact growI_none _ (by omega)
  · exact growI_some n (by omega) hn
set_option maxHeartbeats 4000000 in
theorem concatI_as {A1 A2 : Option Addr} {n1 c1 n2 c2 s : Nat} {X Y : List Int} {w : World} (hX : Wo w A1 n1 X) (hY : Wo w A2 n2 Y) (swX : Sw A1 n1 c1) (swY : Sw A2 n2 c2) (hs : n1 + n2 ≤ 200000) (z : Bx w s [.slice A1 n1 c1, .slice A2 n2 c2]) :
    Calls Try.prog 95 #[.slice (some ⟨s, 0, none⟩) 2 2] w fun en w' => ∃ A c, en = .returned (.slice A (n1 + n2) c) ∧ Grow w' w.heap.size 3 (.slice A (n1 + n2) c) (ivs (X ++ Y)) ∧ Sw A (n1 + n2) c ∧ Below w.heap.size w w' := by
  have LX := Lib.hid hX.len
  have LY := Lib.hid hY.len
  have HX := Lib.hid hX
  have HY := Lib.hid hY
  clear hX hY
  obtain ⟨q, hq⟩ : ∃ q, n1 + n2 = q := ⟨_, rfl⟩
  rw [hq]
  have q1 : IntKind.i64.wrap ((n1 : Int) + (n2 : Int)) = (q : Int) := by rw [IntKind.wrap_i64]; omega
  have q0 : IntKind.i64.wrap (n1 : Int) = (n1 : Int) := by rw [IntKind.wrap_i64]; omega
  go_enter Try.func95, Try.ntmps95
  go_wp2_with fail
  go_loopw [3, 11] (fun a i wr => ∃ j : Nat, j ≤ 2 ∧ i = .int .i64 j ∧ a = .int .i64 (if j = 0 then 0 else if j = 1 then (n1 : Int) else (q : Int)) ∧ Below w.heap.size w wr) (fun _ i _ => 2 - (intOf i).toNat)
  case atStart => exact ⟨0, by omega, rfl, rfl, Below.refl _ _⟩
  case round =>
    obtain ⟨j, hj, rfl, rfl, BW⟩ := hrel
    rcases (show j = 0 ∨ j = 1 ∨ j = 2 by omega) with rfl | rfl | rfl
    · have zc := (z.on BW).2 0 _ rfl
      go_wp2_with fail
      go_roundw
      case rel => exact ⟨1, by omega, rfl, by first | rfl | (simp [q0]), BW⟩
      case measure => simp [intOf]
    · have zc := (z.on BW).2 1 _ rfl
      go_wp2_with fail
      go_roundw
      case rel => exact ⟨2, by omega, rfl, by first | rfl | (simp [q1]), BW⟩
      case measure => simp [intOf]
    · go_wp2_with fail
      refine (growI_as q (by omega)).mono ?_
      rintro en w1 ⟨v0, rfl, hrow0, b1⟩
      have BW0 := Below.step BW b1
      replace hrow0 := row_low hrow0 BW.size
      clear BW b1
      go_wp2_with fail
      go_loopw [6, 27] (fun v i wr => ∃ j : Nat, j ≤ 2 ∧ i = .int .i64 j ∧ wr.ownsRow w.heap.size 3 1 v (if j = 0 then 0 else if j = 1 then n1 else q) (ivs (if j = 0 then [] else if j = 1 then X else X ++ Y)) ∧ Below w.heap.size w wr) (fun _ i _ => 2 - (intOf i).toNat)
      case atStart => exact ⟨0, by omega, rfl, hrow0, BW0⟩
      case round =>
        clear BW0 hrow0
        obtain ⟨j, hj, rfl, hrow, BW⟩ := hrel
        rename_i v _
        rcases (show j = 0 ∨ j = 1 ∨ j = 2 by omega) with rfl | rfl | rfl
        · have zc := (z.on BW).2 0 _ rfl
          simp only [if_true] at hrow
          go_wp2_with (at_builtin; refine wpList_app (A := A1) (m := n1) (c := c1) rfl _ _ 26 rfl elm_int (by omega) (by omega) w.heap.size _ _ _ rfl hrow (ivs X) rfl swX.none_ (by rw [ivs_len7, LX.out, Nat.mul_one]) (HX.out.on BW).1.cells (one_ivs _) (by omega) BW.size ?_; intro v2 w2 hrow2 hg)
          have b2 := row_below hrow BW (Nat.le_refl _) hg
          go_roundw
          case rel => exact ⟨1, by omega, rfl, by simpa [ivs] using hrow2, b2⟩
          case measure => simp [intOf]
        · have zc := (z.on BW).2 1 _ rfl
          simp only [Nat.one_ne_zero, if_false, if_true] at hrow
          go_wp2_with (at_builtin; refine wpList_app (A := A2) (m := n2) (c := c2) rfl _ _ 26 rfl elm_int (by omega) (by omega) w.heap.size _ _ _ rfl hrow (ivs Y) rfl swY.none_ (by rw [ivs_len7, LY.out, Nat.mul_one]) (HY.out.on BW).1.cells (one_ivs _) (by omega) BW.size ?_; intro v2 w2 hrow2 hg)
          have b2 := row_below hrow BW (Nat.le_refl _) hg
          rw [hq] at hrow2
          go_roundw
          case rel => exact ⟨2, by omega, rfl, by simpa [ivs_app] using hrow2, b2⟩
          case measure => simp [intOf]
        · simp only [show ¬ (2 = 0) by decide, show ¬ (2 = 1) by decide, if_false] at hrow
          obtain ⟨A, c, rfl, sw, _, hp⟩ := row_at hrow
          have hl : (ivs (X ++ Y)).length = q := by rw [ivs_len7, List.length_append, LX.out, LY.out]; exact hq
          have HR := Lib.hid hrow
          clear hrow
          go_wp2_with fail
          go_ret
          refine ⟨A, c, rfl, ?_, sw, BW⟩
          unfold Grow
          rw [hl]
          exact HR.out
/-! Pad -/
theorem mod_len {inn : Nat → Bool} {N : List Nd} {X : List Int} {m : Nat} (h : X.length ≤ m) : wn inn N X % 2 ^ m = wn inn N X :=
  Nat.mod_eq_of_lt (Nat.lt_of_lt_of_le (wn_lt inn N X) (Nat.pow_le_pow_right (by omega) h))
set_option maxHeartbeats 4000000 in
/-- PAD. -/
theorem pad_as {w : World} {base top p : Nat} {N : List Nd} {I O : List Pt} (h : Bd w base top p N I O) (hg : Gd N) {A : Option Addr} {n c : Nat} {X : List Int} (hx : Wo w A n X) (sw : Sw A n c) (hp : PW N.length X) (m : Nat) (hn : n ≤ 50000) (hm : m ≤ 50000) (hN : N.length + m ≤ 200000) :
    Calls Try.prog 19 #[.pointer (some ⟨p, 0, none⟩), .slice A n c, .int .i64 (m : Int)] w (WG w base top p N I O m m (fun inn => wn inn N X % 2 ^ m)) := by
  have hl := hx.len
  have m0 : (0 : Int) ≤ (m : Int) := by omega
  by_cases hmn : m ≤ n
  · have m1 : (m : Int) ≤ (n : Int) := by omega
    have m2 : (m : Int) ≤ (c : Int) := by have := sw.1; omega
    have hx2 := hx.take hmn
    have sw2 : Sw A m c := ⟨by have := sw.1; omega, sw.2⟩
    have hb := h.bs
    have hpl := h.pl
    have H := Lib.hid h
    clear h hx sw
    go_enter Try.func19, Try.ntmps19
    go_wp2_with fail
    refine (cloneW_as hx2.is sw2 (by omega)).mono ?_
    rintro en w1 ⟨A1, c1, rfl, hg1, hw1, sw1, had1, b⟩
    have B := Lib.hid b
    clear b
    go_wp2_with fail
    go_ret
    refine ⟨A1, c1, X.take m, N, rfl, hg1, sw1, by rw [List.length_take]; omega, H.out.on B.out, BF.of hb hpl B.out, Lays.refl hg, by omega, hp.take m, fun inn => wn_take ..⟩
  · have m1 : ¬ (m : Int) ≤ (n : Int) := by omega
    obtain ⟨d, hd⟩ : ∃ d : Nat, m = n + d := ⟨m - n, by omega⟩
    have m3 : IntKind.i64.wrap ((m : Int) - (n : Int)) = (d : Int) := by rw [IntKind.wrap_i64]; omega
    have m4 : (m : Int) - (n : Int) = (d : Int) := by omega
    have hb := h.bs
    have hpl := h.pl
    have htp := h.tp
    have M3 := Lib.hid m3
    have M4 := Lib.hid m4
    have HD := Lib.hid hd
    have HX := Lib.hid hx
    have hde : d ≤ 50000 := by omega
    have hNd : N.length + d ≤ 200000 := by omega
    clear m3 m4 hd hx
    go_enter Try.func19, Try.ntmps19
    go_wp2_with fail
    first | rw [M4.out] | rw [M3.out]
    refine (word_b h (x := 0) (fun w' _ => Arg.none_ w') d (by omega) hNd).mono ?_
    rintro en w1 ⟨A1, c1, rfl, hw1, sw1, h1, f1⟩
    have hx1 := HX.out.tk f1.int
    obtain ⟨k1, k2⟩ := lay_word hg 0 d
    have F1 := Lib.hid f1
    have W1 := Lib.hid hw1
    have X1 := Lib.hid hx1
    clear f1 hw1 hx1 h
    go_wp2_with fail
    obtain ⟨w2, e_w2⟩ : ∃ w', w1.alloc (.cells #[.slice A n c, .slice A1 d c1] 26) = w' := ⟨_, rfl⟩
    have b2 : Below w1.heap.size w1 w2 := e_w2 ▸ below_lit _ _
    have z2 : Bx w2 w1.heap.size [.slice A n c, .slice A1 d c1] := e_w2 ▸ Bx.made_k w1 rfl #[.slice A n c, .slice A1 d c1] 26
    rw [e_w2]
    clear e_w2
    refine (concatI_as (X1.out.on b2) (W1.out.on b2) sw sw1 (by omega) z2).mono ?_
    rintro en w3 ⟨A3, c3, rfl, hg3, sw3, b3⟩
    have B3 := Lib.hid (Below.step b2 b3)
    have S2 := Lib.hid b2.size
    have G3 := Lib.hid hg3
    clear b2 b3 z2 hg3
    go_wp2_with fail
    go_ret
    have hsz : w.heap.size ≤ w2.heap.size := by have := F1.out.bw.size; have := S2.out; omega
    have e := HD.out
    subst e
    refine ⟨A3, c3, X ++ plc N.length d, N ++ wordN 0 d, rfl, G3.out.low hsz, sw3, by rw [List.length_append, plc_len]; omega, h1.on B3.out, F1.out.trans (BF.of h1.bs h1.pl B3.out), k1, by rw [List.length_append, wordN_len]; omega, (k1.pw hp).app k2.pw, fun inn => ?_⟩
    rw [wn_app, k1.num hp, k2.num (V := 0) (Nat.two_pow_pos _) (fun i _ => rfl), Nat.mul_zero, Nat.add_zero]
    exact (mod_len (by omega)).symm

theorem row_some {w : World} {base n c : Nat} {e : TypeId} {A : Option Addr} {xs : List Value} {size : Nat} (h : w.ownsRow base e size (.slice A n c) n xs) {j : Nat} (hj : j < n) : ∃ g, A = some ⟨g, 0, none⟩ := by
  rcases h.2 with ⟨_, hn0⟩ | ⟨g', cap, cur, e, _⟩
  · omega
  · injection e with e
    exact ⟨g', e⟩
theorem zdrop_at {Z X : List Int} {j m : Nat} (hz : Z.length = j) (hx : X.length = m) (hj : j < m) : (Z ++ X.drop j)[j]? = some (X.getD j 0) := by
  rw [List.getElem?_append_right (by omega), hz, Nat.sub_self, List.getElem?_drop, Nat.add_zero, List.getD_eq_getElem?_getD, List.getElem?_eq_getElem (by omega)]
  rfl
theorem getD_at {X : List Int} {j m : Nat} (hx : X.length = m) (hj : j < m) : X[j]? = some (X.getD j 0) := by
  rw [List.getD_eq_getElem?_getD, List.getElem?_eq_getElem (by omega)]
  rfl
theorem zset {Z X : List Int} {j m : Nat} (hz : Z.length = j) (hx : X.length = m) (hj : j < m) (q : Int) : (Z ++ X.drop j).set j q = (Z ++ [q]) ++ X.drop (j + 1) := by
  rw [List.set_append, if_neg (by omega), hz, Nat.sub_self, List.drop_eq_getElem_cons (by omega), List.set_cons_zero]
  simp
set_option maxHeartbeats 8000000 in
theorem join_and {w : World} {base top p : Nat} {N : List Nd} {I O : List Pt} (h : Bd w base top p N I O) (hg : Gd N) {A1 : Option Addr} {n1 c1 : Nat} {X : List Int} (hx : Wo w A1 n1 X) (sw1 : Sw A1 n1 c1) (hp1 : PW N.length X) {A2 : Option Addr} {n2 c2 : Nat} {Y : List Int} (hy : Wo w A2 n2 Y) (sw2 : Sw A2 n2 c2) (hp2 : PW N.length Y) (m : Nat) (hm : max n1 n2 = m) (hmb : m ≤ 30000) (hN : N.length + 3 * m ≤ 200000) :
    Calls Try.prog 89 #[.pointer (some ⟨p, 0, none⟩), .slice A1 n1 c1, .slice A2 n2 c2, .func (.func 83) #[.pointer (some ⟨p, 0, none⟩)] #[]] w (WG w base top p N I O m (3 * m) (fun inn => opG 3 (wn inn N X) (wn inn N Y))) := by
  have hbs := h.bs
  have hpl := h.pl
  have htp := h.tp
  have L1 := Lib.hid hx.len
  have L2 := Lib.hid hy.len
  have HY := Lib.hid hy
  have n1m : n1 ≤ m := by omega
  have n2m : n2 ≤ m := by omega
  have mx : max (n1 : Int) (n2 : Int) = (m : Int) := by omega
  have MX := Lib.hid mx
  clear hy mx hm
  go_enter Try.func89, Try.ntmps89
  go_wp2_with fail
  first | rw [MX.out] | skip
  refine (pad_as h hg hx sw1 hp1 m (by omega) (by omega) (by omega)).mono ?_
  rintro en w1 ⟨B1, d1, X1, N1, rfl, gx1, sx1, lx1, h1, f1, k1, m1, q1, v1⟩
  have hy1 := HY.out.tk f1.int
  have q2 := k1.pw hp2
  go_wp2_with fail
  first | rw [MX.out] | skip
  refine (pad_as h1 k1.gd hy1 sw2 q2 m (by omega) (by omega) (by omega)).mono ?_
  rintro en w2 ⟨B2, d2, Y2, N2, rfl, gy2, sy2, ly2, h2, f2, k2, m2, q2', v2⟩
  have gx2 := row_tk gx1 f2.int
  have gx2l : w2.ownsRow w.heap.size 3 1 (.slice B1 m d1) m (ivs X1) := by unfold Grow at gx1; rw [ivs_len7, lx1] at gx1; exact row_tk gx1 f2.int
  have gy2l : w2.ownsRow w1.heap.size 3 1 (.slice B2 m d2) m (ivs Y2) := by unfold Grow at gy2; rwa [ivs_len7, ly2] at gy2
  have HXB : Hid (∀ inn i, i < m → bt inn N2 (X1.getD i 0) = (wn inn N X).testBit i) := Lib.hid fun inn i hi => by
    rw [k2.bit (q1.at (by omega)), ← wn_at (by omega), v1, Nat.testBit_mod_two_pow]
    simp [hi]
  have HYB : Hid (∀ inn i, i < m → bt inn N2 (Y2.getD i 0) = (wn inn N Y).testBit i) := Lib.hid fun inn i hi => by
    rw [← wn_at (by omega), v2, Nat.testBit_mod_two_pow, k1.num hp2]
    simp [hi]
  have hgx : ∀ b, (Value.slice B1 m d1).ownBlock = some b → b < w1.heap.size := fun b e => (gx1.lt b e).2
  have HGX := Lib.hid hgx
  have HLX := Lib.hid lx1
  have HLY := Lib.hid ly2
  have HK0 := Lib.hid (k1.trans k2)
  have F2 : BF base p w w2 := f1.trans f2
  have hNl : N2.length ≤ N.length + 2 * m := by omega
  have px2 := k2.pw q1
  have HPX := Lib.hid px2
  have HPY := Lib.hid q2'
  have W12 := f1.bw.size
  have HG2 := Lib.hid k2.gd
  have hpl1 := h1.pl
  have hbs1 := h1.bs
  clear gx1 gy2 gx2 k1 k2 v1 v2 q1 q2 q2' h1 f1 f2 hgx lx1 ly2 m1 m2 hx hy1 px2 hp1 hp2 hg h
  go_wp2_with fail
  go_loopw [26] (fun iv wr => ∃ (j : Nat) (Nj : List Nd) (Z : List Int), j ≤ m ∧ iv = .int .i64 j ∧ Hid (wr.ownsRow w.heap.size 3 1 (.slice B1 m d1) m (ivs (Z ++ X1.drop j))) ∧ Hid (wr.ownsRow w1.heap.size 3 1 (.slice B2 m d2) m (ivs Y2)) ∧ Hid (Bd wr base top p Nj I O) ∧ Hid (BF base p w wr) ∧ Hid (Lays N2 Nj) ∧ Hid (Nj.length = N2.length + j) ∧ Hid (Wv Nj Z j (fun inn i => gateG 3 ((wn inn N X).testBit i) ((wn inn N Y).testBit i)))) (fun iv _ => m - (intOf iv).toNat)
  case atStart => exact ⟨0, N2, [], Nat.zero_le _, rfl, Lib.hid gx2l, Lib.hid gy2l, Lib.hid h2, Lib.hid F2, Lib.hid (Lays.refl HG2.out), Lib.hid rfl, Lib.hid (Wv.nil _ _)⟩
  case round =>
    clear gx2l gy2l h2 F2
    obtain ⟨j, Nj, Z, hj, rfl, HX1, HY2, HB, HF, HK, HL, HZ⟩ := hrel
    have hLb : Nj.length ≤ N.length + 2 * m + j := by have := HL.out; omega
    by_cases hlt : j < m
    · obtain ⟨gx, rfl⟩ := row_some HX1.out hlt
      obtain ⟨gy, rfl⟩ := row_some HY2.out hlt
      have hgx1 : w.heap.size ≤ gx := (HX1.out.lt gx rfl).1
      have hgy1 : w1.heap.size ≤ gy := (HY2.out.lt gy rfl).1
      have hgx2 : gx < w1.heap.size := HGX.out gx rfl
      have cx := HX1.out.cellAt j (by omega)
      rw [ivs_at (zdrop_at HZ.out.len HLX.out hlt)] at cx
      have cy := HY2.out.cellAt j (by omega)
      rw [ivs_at (getD_at HLY.out hlt)] at cy
      obtain ⟨x, hx⟩ : ∃ x, X1.getD j 0 = x := ⟨_, rfl⟩
      obtain ⟨y, hy⟩ : ∃ y, Y2.getD j 0 = y := ⟨_, rfl⟩
      rw [hx] at cx
      rw [hy] at cy
      have HXE := Lib.hid hx
      have HYE := Lib.hid hy
      have i0 : (0 : Int) ≤ (j : Int) := by omega
      have i1 : (j : Int) < (m : Int) := by omega
      have bd : Below wr.heap.size wr wr.drew := (Below.refl _ _).drew
      have hBd := HB.out.on bd
      have rx := Lib.hid (row_on HX1.out bd)
      have ry := Lib.hid (row_on HY2.out bd)
      have FD := Lib.hid (HF.out.trans (BF.of (HB.out.bs) HB.out.pl bd))
      clear hx hy bd
      go_upto_region 6 with fail
      go_region_law (
        (go_simp
         go_at_call 83
         refine (and_as hBd (by omega) x y).mono ?_
         rintro en w3 ⟨rfl, h3, f3⟩
         have rx3 := Lib.hid (row_tk rx.out f3.int)
         have ry3 := Lib.hid (row_tk ry.out f3.int)
         have cx3 := rx3.out.cellAt j (by omega)
         rw [ivs_at (zdrop_at HZ.out.len HLX.out hlt), HXE.out] at cx3
         have fx3 := rx3.out.frozenAt j))
      all_goals (
        obtain ⟨st, gst⟩ := rx3.out.stored j (.int .i64 (Nj.length : Int))
        obtain ⟨w4, e_w4⟩ : ∃ w', w3.setCell ⟨gx, j, none⟩ (.int .i64 (Nj.length : Int)) = w' := ⟨_, rfl⟩
        have b4 : Below w.heap.size w3 w4 := e_w4 ▸ (Below.refl _ _).setCell hgx1 _
        rw [e_w4] at st gst ⊢
        have k4 : ∀ t, t ≠ 3 → TK t w3 w4 := fun t ht => TK.row rx3.out gst ht
        have ry4 := Lib.hid (ry3.out.kept gst (.inr fun e => by
          have e : gy = gx := by simpa [Value.ownBlock] using e
          omega))
        have ST := Lib.hid st
        have H4 := Lib.hid (h3.push b4 htp k4)
        have F4 := Lib.hid ((FD.out.trans f3).push b4 hpl (Nat.le_refl _) hbs k4)
        obtain ⟨kl, kb⟩ := lay_and HK.out.gd (show Pq Nj.length x by rw [← HXE.out]; exact HK.out.pq (HPX.out.at (by rw [HLX.out]; exact hlt))) (show Pq Nj.length y by rw [← HYE.out]; exact HK.out.pq (HPY.out.at (by rw [HLY.out]; exact hlt)))
        have KL := Lib.hid kl
        have KB := Lib.hid kb
        clear st gst k4 e_w4 b4 kl kb h3 f3 cx3 fx3
        go_wp2_with fail
        go_roundw
        case rel =>
          refine ⟨j + 1, _, Z ++ [(Nj.length : Int)], by omega, by go_num, Lib.hid ?_, ry4, H4, F4, Lib.hid (HK.out.trans KL.out), Lib.hid (by rw [List.length_append, HL.out]; simp; omega), Lib.hid ((HZ.out.on KL.out).snoc (Pq.nat (by simp)) fun inn => ?_)⟩
          · rw [← zset HZ.out.len HLX.out hlt, ← ivs_set]
            exact ST.out
          · rw [KB.out, ← HXE.out, ← HYE.out, HK.out.bit (HPX.out.at (by rw [HLX.out]; exact hlt)), HK.out.bit (HPY.out.at (by rw [HLY.out]; exact hlt)), HXB.out _ _ hlt, HYB.out _ _ hlt]
            rfl
        case measure => simp [intOf]; omega)
    · obtain rfl : j = m := by omega
      have hG := HX1.out
      rw [List.drop_eq_nil_of_le (by rw [HLX.out]; exact Nat.le_refl _), List.append_nil] at hG
      have HGG := Lib.hid hG
      clear hG
      go_wp2_with fail
      go_ret
      refine ⟨B1, d1, Z, Nj, rfl, ?_, sx1, HZ.out.len, HB.out, HF.out, HK0.out.trans HK.out, by omega, HZ.out.pw, fun inn => ?_⟩
      · unfold Grow
        rw [ivs_len7, HZ.out.len]
        exact HGG.out
      · exact HZ.out.num (opG_lt 3 (Nat.lt_of_lt_of_le (wn_lt inn N X) (Nat.pow_le_pow_right (by omega) (by rw [L1.out]; omega))) (Nat.lt_of_lt_of_le (wn_lt inn N Y) (Nat.pow_le_pow_right (by omega) (by rw [L2.out]; omega)))) fun i hi => (opG_bit ..).symm
set_option maxHeartbeats 8000000 in
theorem join_or {w : World} {base top p : Nat} {N : List Nd} {I O : List Pt} (h : Bd w base top p N I O) (hg : Gd N) {A1 : Option Addr} {n1 c1 : Nat} {X : List Int} (hx : Wo w A1 n1 X) (sw1 : Sw A1 n1 c1) (hp1 : PW N.length X) {A2 : Option Addr} {n2 c2 : Nat} {Y : List Int} (hy : Wo w A2 n2 Y) (sw2 : Sw A2 n2 c2) (hp2 : PW N.length Y) (m : Nat) (hm : max n1 n2 = m) (hmb : m ≤ 30000) (hN : N.length + 3 * m ≤ 200000) :
    Calls Try.prog 89 #[.pointer (some ⟨p, 0, none⟩), .slice A1 n1 c1, .slice A2 n2 c2, .func (.func 138) #[.pointer (some ⟨p, 0, none⟩)] #[]] w (WG w base top p N I O m (3 * m) (fun inn => opG 4 (wn inn N X) (wn inn N Y))) := by
  have hbs := h.bs
  have hpl := h.pl
  have htp := h.tp
  have L1 := Lib.hid hx.len
  have L2 := Lib.hid hy.len
  have HY := Lib.hid hy
  have n1m : n1 ≤ m := by omega
  have n2m : n2 ≤ m := by omega
  have mx : max (n1 : Int) (n2 : Int) = (m : Int) := by omega
  have MX := Lib.hid mx
  clear hy mx hm
  go_enter Try.func89, Try.ntmps89
  go_wp2_with fail
  first | rw [MX.out] | skip
  refine (pad_as h hg hx sw1 hp1 m (by omega) (by omega) (by omega)).mono ?_
  rintro en w1 ⟨B1, d1, X1, N1, rfl, gx1, sx1, lx1, h1, f1, k1, m1, q1, v1⟩
  have hy1 := HY.out.tk f1.int
  have q2 := k1.pw hp2
  go_wp2_with fail
  first | rw [MX.out] | skip
  refine (pad_as h1 k1.gd hy1 sw2 q2 m (by omega) (by omega) (by omega)).mono ?_
  rintro en w2 ⟨B2, d2, Y2, N2, rfl, gy2, sy2, ly2, h2, f2, k2, m2, q2', v2⟩
  have gx2 := row_tk gx1 f2.int
  have gx2l : w2.ownsRow w.heap.size 3 1 (.slice B1 m d1) m (ivs X1) := by unfold Grow at gx1; rw [ivs_len7, lx1] at gx1; exact row_tk gx1 f2.int
  have gy2l : w2.ownsRow w1.heap.size 3 1 (.slice B2 m d2) m (ivs Y2) := by unfold Grow at gy2; rwa [ivs_len7, ly2] at gy2
  have HXB : Hid (∀ inn i, i < m → bt inn N2 (X1.getD i 0) = (wn inn N X).testBit i) := Lib.hid fun inn i hi => by
    rw [k2.bit (q1.at (by omega)), ← wn_at (by omega), v1, Nat.testBit_mod_two_pow]
    simp [hi]
  have HYB : Hid (∀ inn i, i < m → bt inn N2 (Y2.getD i 0) = (wn inn N Y).testBit i) := Lib.hid fun inn i hi => by
    rw [← wn_at (by omega), v2, Nat.testBit_mod_two_pow, k1.num hp2]
    simp [hi]
  have hgx : ∀ b, (Value.slice B1 m d1).ownBlock = some b → b < w1.heap.size := fun b e => (gx1.lt b e).2
  have HGX := Lib.hid hgx
  have HLX := Lib.hid lx1
  have HLY := Lib.hid ly2
  have HK0 := Lib.hid (k1.trans k2)
  have F2 : BF base p w w2 := f1.trans f2
  have hNl : N2.length ≤ N.length + 2 * m := by omega
  have px2 := k2.pw q1
  have HPX := Lib.hid px2
  have HPY := Lib.hid q2'
  have W12 := f1.bw.size
  have HG2 := Lib.hid k2.gd
  have hpl1 := h1.pl
  have hbs1 := h1.bs
  clear gx1 gy2 gx2 k1 k2 v1 v2 q1 q2 q2' h1 f1 f2 hgx lx1 ly2 m1 m2 hx hy1 px2 hp1 hp2 hg h
  go_wp2_with fail
  go_loopw [26] (fun iv wr => ∃ (j : Nat) (Nj : List Nd) (Z : List Int), j ≤ m ∧ iv = .int .i64 j ∧ Hid (wr.ownsRow w.heap.size 3 1 (.slice B1 m d1) m (ivs (Z ++ X1.drop j))) ∧ Hid (wr.ownsRow w1.heap.size 3 1 (.slice B2 m d2) m (ivs Y2)) ∧ Hid (Bd wr base top p Nj I O) ∧ Hid (BF base p w wr) ∧ Hid (Lays N2 Nj) ∧ Hid (Nj.length = N2.length + j) ∧ Hid (Wv Nj Z j (fun inn i => gateG 4 ((wn inn N X).testBit i) ((wn inn N Y).testBit i)))) (fun iv _ => m - (intOf iv).toNat)
  case atStart => exact ⟨0, N2, [], Nat.zero_le _, rfl, Lib.hid gx2l, Lib.hid gy2l, Lib.hid h2, Lib.hid F2, Lib.hid (Lays.refl HG2.out), Lib.hid rfl, Lib.hid (Wv.nil _ _)⟩
  case round =>
    clear gx2l gy2l h2 F2
    obtain ⟨j, Nj, Z, hj, rfl, HX1, HY2, HB, HF, HK, HL, HZ⟩ := hrel
    have hLb : Nj.length ≤ N.length + 2 * m + j := by have := HL.out; omega
    by_cases hlt : j < m
    · obtain ⟨gx, rfl⟩ := row_some HX1.out hlt
      obtain ⟨gy, rfl⟩ := row_some HY2.out hlt
      have hgx1 : w.heap.size ≤ gx := (HX1.out.lt gx rfl).1
      have hgy1 : w1.heap.size ≤ gy := (HY2.out.lt gy rfl).1
      have hgx2 : gx < w1.heap.size := HGX.out gx rfl
      have cx := HX1.out.cellAt j (by omega)
      rw [ivs_at (zdrop_at HZ.out.len HLX.out hlt)] at cx
      have cy := HY2.out.cellAt j (by omega)
      rw [ivs_at (getD_at HLY.out hlt)] at cy
      obtain ⟨x, hx⟩ : ∃ x, X1.getD j 0 = x := ⟨_, rfl⟩
      obtain ⟨y, hy⟩ : ∃ y, Y2.getD j 0 = y := ⟨_, rfl⟩
      rw [hx] at cx
      rw [hy] at cy
      have HXE := Lib.hid hx
      have HYE := Lib.hid hy
      have i0 : (0 : Int) ≤ (j : Int) := by omega
      have i1 : (j : Int) < (m : Int) := by omega
      have bd : Below wr.heap.size wr wr.drew := (Below.refl _ _).drew
      have hBd := HB.out.on bd
      have rx := Lib.hid (row_on HX1.out bd)
      have ry := Lib.hid (row_on HY2.out bd)
      have FD := Lib.hid (HF.out.trans (BF.of (HB.out.bs) HB.out.pl bd))
      clear hx hy bd
      go_upto_region 6 with fail
      go_region_law (
        (go_simp
         go_at_call 138
         refine (or_as hBd (by omega) x y).mono ?_
         rintro en w3 ⟨rfl, h3, f3⟩
         have rx3 := Lib.hid (row_tk rx.out f3.int)
         have ry3 := Lib.hid (row_tk ry.out f3.int)
         have cx3 := rx3.out.cellAt j (by omega)
         rw [ivs_at (zdrop_at HZ.out.len HLX.out hlt), HXE.out] at cx3
         have fx3 := rx3.out.frozenAt j))
      all_goals (
        obtain ⟨st, gst⟩ := rx3.out.stored j (.int .i64 (Nj.length : Int))
        obtain ⟨w4, e_w4⟩ : ∃ w', w3.setCell ⟨gx, j, none⟩ (.int .i64 (Nj.length : Int)) = w' := ⟨_, rfl⟩
        have b4 : Below w.heap.size w3 w4 := e_w4 ▸ (Below.refl _ _).setCell hgx1 _
        rw [e_w4] at st gst ⊢
        have k4 : ∀ t, t ≠ 3 → TK t w3 w4 := fun t ht => TK.row rx3.out gst ht
        have ry4 := Lib.hid (ry3.out.kept gst (.inr fun e => by
          have e : gy = gx := by simpa [Value.ownBlock] using e
          omega))
        have ST := Lib.hid st
        have H4 := Lib.hid (h3.push b4 htp k4)
        have F4 := Lib.hid ((FD.out.trans f3).push b4 hpl (Nat.le_refl _) hbs k4)
        obtain ⟨kl, kb⟩ := lay_or HK.out.gd (show Pq Nj.length x by rw [← HXE.out]; exact HK.out.pq (HPX.out.at (by rw [HLX.out]; exact hlt))) (show Pq Nj.length y by rw [← HYE.out]; exact HK.out.pq (HPY.out.at (by rw [HLY.out]; exact hlt)))
        have KL := Lib.hid kl
        have KB := Lib.hid kb
        clear st gst k4 e_w4 b4 kl kb h3 f3 cx3 fx3
        go_wp2_with fail
        go_roundw
        case rel =>
          refine ⟨j + 1, _, Z ++ [(Nj.length : Int)], by omega, by go_num, Lib.hid ?_, ry4, H4, F4, Lib.hid (HK.out.trans KL.out), Lib.hid (by rw [List.length_append, HL.out]; simp; omega), Lib.hid ((HZ.out.on KL.out).snoc (Pq.nat (by simp)) fun inn => ?_)⟩
          · rw [← zset HZ.out.len HLX.out hlt, ← ivs_set]
            exact ST.out
          · rw [KB.out, ← HXE.out, ← HYE.out, HK.out.bit (HPX.out.at (by rw [HLX.out]; exact hlt)), HK.out.bit (HPY.out.at (by rw [HLY.out]; exact hlt)), HXB.out _ _ hlt, HYB.out _ _ hlt]
            rfl
        case measure => simp [intOf]; omega)
    · obtain rfl : j = m := by omega
      have hG := HX1.out
      rw [List.drop_eq_nil_of_le (by rw [HLX.out]; exact Nat.le_refl _), List.append_nil] at hG
      have HGG := Lib.hid hG
      clear hG
      go_wp2_with fail
      go_ret
      refine ⟨B1, d1, Z, Nj, rfl, ?_, sx1, HZ.out.len, HB.out, HF.out, HK0.out.trans HK.out, by omega, HZ.out.pw, fun inn => ?_⟩
      · unfold Grow
        rw [ivs_len7, HZ.out.len]
        exact HGG.out
      · exact HZ.out.num (opG_lt 4 (Nat.lt_of_lt_of_le (wn_lt inn N X) (Nat.pow_le_pow_right (by omega) (by rw [L1.out]; omega))) (Nat.lt_of_lt_of_le (wn_lt inn N Y) (Nat.pow_le_pow_right (by omega) (by rw [L2.out]; omega)))) fun i hi => (opG_bit ..).symm
set_option maxHeartbeats 8000000 in
theorem join_xor {w : World} {base top p : Nat} {N : List Nd} {I O : List Pt} (h : Bd w base top p N I O) (hg : Gd N) {A1 : Option Addr} {n1 c1 : Nat} {X : List Int} (hx : Wo w A1 n1 X) (sw1 : Sw A1 n1 c1) (hp1 : PW N.length X) {A2 : Option Addr} {n2 c2 : Nat} {Y : List Int} (hy : Wo w A2 n2 Y) (sw2 : Sw A2 n2 c2) (hp2 : PW N.length Y) (m : Nat) (hm : max n1 n2 = m) (hmb : m ≤ 30000) (hN : N.length + 3 * m ≤ 200000) :
    Calls Try.prog 89 #[.pointer (some ⟨p, 0, none⟩), .slice A1 n1 c1, .slice A2 n2 c2, .func (.func 115) #[.pointer (some ⟨p, 0, none⟩)] #[]] w (WG w base top p N I O m (3 * m) (fun inn => opG 5 (wn inn N X) (wn inn N Y))) := by
  have hbs := h.bs
  have hpl := h.pl
  have htp := h.tp
  have L1 := Lib.hid hx.len
  have L2 := Lib.hid hy.len
  have HY := Lib.hid hy
  have n1m : n1 ≤ m := by omega
  have n2m : n2 ≤ m := by omega
  have mx : max (n1 : Int) (n2 : Int) = (m : Int) := by omega
  have MX := Lib.hid mx
  clear hy mx hm
  go_enter Try.func89, Try.ntmps89
  go_wp2_with fail
  first | rw [MX.out] | skip
  refine (pad_as h hg hx sw1 hp1 m (by omega) (by omega) (by omega)).mono ?_
  rintro en w1 ⟨B1, d1, X1, N1, rfl, gx1, sx1, lx1, h1, f1, k1, m1, q1, v1⟩
  have hy1 := HY.out.tk f1.int
  have q2 := k1.pw hp2
  go_wp2_with fail
  first | rw [MX.out] | skip
  refine (pad_as h1 k1.gd hy1 sw2 q2 m (by omega) (by omega) (by omega)).mono ?_
  rintro en w2 ⟨B2, d2, Y2, N2, rfl, gy2, sy2, ly2, h2, f2, k2, m2, q2', v2⟩
  have gx2 := row_tk gx1 f2.int
  have gx2l : w2.ownsRow w.heap.size 3 1 (.slice B1 m d1) m (ivs X1) := by unfold Grow at gx1; rw [ivs_len7, lx1] at gx1; exact row_tk gx1 f2.int
  have gy2l : w2.ownsRow w1.heap.size 3 1 (.slice B2 m d2) m (ivs Y2) := by unfold Grow at gy2; rwa [ivs_len7, ly2] at gy2
  have HXB : Hid (∀ inn i, i < m → bt inn N2 (X1.getD i 0) = (wn inn N X).testBit i) := Lib.hid fun inn i hi => by
    rw [k2.bit (q1.at (by omega)), ← wn_at (by omega), v1, Nat.testBit_mod_two_pow]
    simp [hi]
  have HYB : Hid (∀ inn i, i < m → bt inn N2 (Y2.getD i 0) = (wn inn N Y).testBit i) := Lib.hid fun inn i hi => by
    rw [← wn_at (by omega), v2, Nat.testBit_mod_two_pow, k1.num hp2]
    simp [hi]
  have hgx : ∀ b, (Value.slice B1 m d1).ownBlock = some b → b < w1.heap.size := fun b e => (gx1.lt b e).2
  have HGX := Lib.hid hgx
  have HLX := Lib.hid lx1
  have HLY := Lib.hid ly2
  have HK0 := Lib.hid (k1.trans k2)
  have F2 : BF base p w w2 := f1.trans f2
  have hNl : N2.length ≤ N.length + 2 * m := by omega
  have px2 := k2.pw q1
  have HPX := Lib.hid px2
  have HPY := Lib.hid q2'
  have W12 := f1.bw.size
  have HG2 := Lib.hid k2.gd
  have hpl1 := h1.pl
  have hbs1 := h1.bs
  clear gx1 gy2 gx2 k1 k2 v1 v2 q1 q2 q2' h1 f1 f2 hgx lx1 ly2 m1 m2 hx hy1 px2 hp1 hp2 hg h
  go_wp2_with fail
  go_loopw [26] (fun iv wr => ∃ (j : Nat) (Nj : List Nd) (Z : List Int), j ≤ m ∧ iv = .int .i64 j ∧ Hid (wr.ownsRow w.heap.size 3 1 (.slice B1 m d1) m (ivs (Z ++ X1.drop j))) ∧ Hid (wr.ownsRow w1.heap.size 3 1 (.slice B2 m d2) m (ivs Y2)) ∧ Hid (Bd wr base top p Nj I O) ∧ Hid (BF base p w wr) ∧ Hid (Lays N2 Nj) ∧ Hid (Nj.length = N2.length + j) ∧ Hid (Wv Nj Z j (fun inn i => gateG 5 ((wn inn N X).testBit i) ((wn inn N Y).testBit i)))) (fun iv _ => m - (intOf iv).toNat)
  case atStart => exact ⟨0, N2, [], Nat.zero_le _, rfl, Lib.hid gx2l, Lib.hid gy2l, Lib.hid h2, Lib.hid F2, Lib.hid (Lays.refl HG2.out), Lib.hid rfl, Lib.hid (Wv.nil _ _)⟩
  case round =>
    clear gx2l gy2l h2 F2
    obtain ⟨j, Nj, Z, hj, rfl, HX1, HY2, HB, HF, HK, HL, HZ⟩ := hrel
    have hLb : Nj.length ≤ N.length + 2 * m + j := by have := HL.out; omega
    by_cases hlt : j < m
    · obtain ⟨gx, rfl⟩ := row_some HX1.out hlt
      obtain ⟨gy, rfl⟩ := row_some HY2.out hlt
      have hgx1 : w.heap.size ≤ gx := (HX1.out.lt gx rfl).1
      have hgy1 : w1.heap.size ≤ gy := (HY2.out.lt gy rfl).1
      have hgx2 : gx < w1.heap.size := HGX.out gx rfl
      have cx := HX1.out.cellAt j (by omega)
      rw [ivs_at (zdrop_at HZ.out.len HLX.out hlt)] at cx
      have cy := HY2.out.cellAt j (by omega)
      rw [ivs_at (getD_at HLY.out hlt)] at cy
      obtain ⟨x, hx⟩ : ∃ x, X1.getD j 0 = x := ⟨_, rfl⟩
      obtain ⟨y, hy⟩ : ∃ y, Y2.getD j 0 = y := ⟨_, rfl⟩
      rw [hx] at cx
      rw [hy] at cy
      have HXE := Lib.hid hx
      have HYE := Lib.hid hy
      have i0 : (0 : Int) ≤ (j : Int) := by omega
      have i1 : (j : Int) < (m : Int) := by omega
      have bd : Below wr.heap.size wr wr.drew := (Below.refl _ _).drew
      have hBd := HB.out.on bd
      have rx := Lib.hid (row_on HX1.out bd)
      have ry := Lib.hid (row_on HY2.out bd)
      have FD := Lib.hid (HF.out.trans (BF.of (HB.out.bs) HB.out.pl bd))
      clear hx hy bd
      go_upto_region 6 with fail
      go_region_law (
        (go_simp
         go_at_call 115
         refine (xor_as hBd (by omega) x y).mono ?_
         rintro en w3 ⟨rfl, h3, f3⟩
         have rx3 := Lib.hid (row_tk rx.out f3.int)
         have ry3 := Lib.hid (row_tk ry.out f3.int)
         have cx3 := rx3.out.cellAt j (by omega)
         rw [ivs_at (zdrop_at HZ.out.len HLX.out hlt), HXE.out] at cx3
         have fx3 := rx3.out.frozenAt j))
      all_goals (
        obtain ⟨st, gst⟩ := rx3.out.stored j (.int .i64 (Nj.length : Int))
        obtain ⟨w4, e_w4⟩ : ∃ w', w3.setCell ⟨gx, j, none⟩ (.int .i64 (Nj.length : Int)) = w' := ⟨_, rfl⟩
        have b4 : Below w.heap.size w3 w4 := e_w4 ▸ (Below.refl _ _).setCell hgx1 _
        rw [e_w4] at st gst ⊢
        have k4 : ∀ t, t ≠ 3 → TK t w3 w4 := fun t ht => TK.row rx3.out gst ht
        have ry4 := Lib.hid (ry3.out.kept gst (.inr fun e => by
          have e : gy = gx := by simpa [Value.ownBlock] using e
          omega))
        have ST := Lib.hid st
        have H4 := Lib.hid (h3.push b4 htp k4)
        have F4 := Lib.hid ((FD.out.trans f3).push b4 hpl (Nat.le_refl _) hbs k4)
        obtain ⟨kl, kb⟩ := lay_xor HK.out.gd (show Pq Nj.length x by rw [← HXE.out]; exact HK.out.pq (HPX.out.at (by rw [HLX.out]; exact hlt))) (show Pq Nj.length y by rw [← HYE.out]; exact HK.out.pq (HPY.out.at (by rw [HLY.out]; exact hlt)))
        have KL := Lib.hid kl
        have KB := Lib.hid kb
        clear st gst k4 e_w4 b4 kl kb h3 f3 cx3 fx3
        go_wp2_with fail
        go_roundw
        case rel =>
          refine ⟨j + 1, _, Z ++ [(Nj.length : Int)], by omega, by go_num, Lib.hid ?_, ry4, H4, F4, Lib.hid (HK.out.trans KL.out), Lib.hid (by rw [List.length_append, HL.out]; simp; omega), Lib.hid ((HZ.out.on KL.out).snoc (Pq.nat (by simp)) fun inn => ?_)⟩
          · rw [← zset HZ.out.len HLX.out hlt, ← ivs_set]
            exact ST.out
          · rw [KB.out, ← HXE.out, ← HYE.out, HK.out.bit (HPX.out.at (by rw [HLX.out]; exact hlt)), HK.out.bit (HPY.out.at (by rw [HLY.out]; exact hlt)), HXB.out _ _ hlt, HYB.out _ _ hlt]
            rfl
        case measure => simp [intOf]; omega)
    · obtain rfl : j = m := by omega
      have hG := HX1.out
      rw [List.drop_eq_nil_of_le (by rw [HLX.out]; exact Nat.le_refl _), List.append_nil] at hG
      have HGG := Lib.hid hG
      clear hG
      go_wp2_with fail
      go_ret
      refine ⟨B1, d1, Z, Nj, rfl, ?_, sx1, HZ.out.len, HB.out, HF.out, HK0.out.trans HK.out, by omega, HZ.out.pw, fun inn => ?_⟩
      · unfold Grow
        rw [ivs_len7, HZ.out.len]
        exact HGG.out
      · exact HZ.out.num (opG_lt 5 (Nat.lt_of_lt_of_le (wn_lt inn N X) (Nat.pow_le_pow_right (by omega) (by rw [L1.out]; omega))) (Nat.lt_of_lt_of_le (wn_lt inn N Y) (Nat.pow_le_pow_right (by omega) (by rw [L2.out]; omega)))) fun i hi => (opG_bit ..).symm
theorem pick1_as {w : World} {base top p s4 s7 : Nat} {N : List Nd} {I O : List Pt} (h : Bd w base top p N I O) {cc : Int} (o4 : Own w s4 25 [.pointer (some ⟨p, 0, none⟩)]) (o7 : Own w s7 3 [.int .i64 cc]) (hN : N.length ≤ 300000) (x y : Int) :
    Calls Try.prog 93 #[.int .i64 x, .int .i64 y, .pointer (some ⟨s4, 0, none⟩), .pointer (some ⟨s7, 0, none⟩)] w fun en w' => en = .returned (.int .i64 (N.length : Int)) ∧ Bd w' base top p (N ++ [⟨6, x, y, cc⟩]) I O ∧ BF base p w w' := by
  have c4 := o4.cell 0
  have c7 := o7.cell 0
  simp only [List.getElem?_cons_zero] at c4 c7
  go_enter Try.func93, Try.ntmps93
  go_wp2_with fail
  refine (mux_as h hN x y cc).mono ?_
  rintro en w1 ⟨rfl, h1, f1⟩
  go_wp2_with fail
  go_ret
  exact ⟨rfl, h1, f1⟩
set_option maxHeartbeats 8000000 in
theorem join_mux {w : World} {base top p : Nat} {N : List Nd} {I O : List Pt} (h : Bd w base top p N I O) (hg : Gd N) {A1 : Option Addr} {n1 c1 : Nat} {X : List Int} (hx : Wo w A1 n1 X) (sw1 : Sw A1 n1 c1) (hp1 : PW N.length X) {A2 : Option Addr} {n2 c2 : Nat} {Y : List Int} (hy : Wo w A2 n2 Y) (sw2 : Sw A2 n2 c2) (hp2 : PW N.length Y) (m : Nat) (hm : max n1 n2 = m) (hmb : m ≤ 30000) (hN : N.length + 3 * m ≤ 200000) {s4 s7 : Nat} {cc : Int} (hc : Pq N.length cc) (o4 : Own w s4 25 [.pointer (some ⟨p, 0, none⟩)]) (o7 : Own w s7 3 [.int .i64 cc]) :
    Calls Try.prog 89 #[.pointer (some ⟨p, 0, none⟩), .slice A1 n1 c1, .slice A2 n2 c2, .func (.func 93) #[] #[.pointer (some ⟨s4, 0, none⟩), .pointer (some ⟨s7, 0, none⟩)]] w (WG w base top p N I O m (3 * m) (fun inn => if bt inn N cc then wn inn N Y else wn inn N X)) := by
  have hbs := h.bs
  have hpl := h.pl
  have htp := h.tp
  have L1 := Lib.hid hx.len
  have L2 := Lib.hid hy.len
  have HY := Lib.hid hy
  have O4 := Lib.hid o4
  have O7 := Lib.hid o7
  have HPC0 := Lib.hid hc
  clear o4 o7 hc
  have n1m : n1 ≤ m := by omega
  have n2m : n2 ≤ m := by omega
  have mx : max (n1 : Int) (n2 : Int) = (m : Int) := by omega
  have MX := Lib.hid mx
  clear hy mx hm
  go_enter Try.func89, Try.ntmps89
  go_wp2_with fail
  first | rw [MX.out] | skip
  refine (pad_as h hg hx sw1 hp1 m (by omega) (by omega) (by omega)).mono ?_
  rintro en w1 ⟨B1, d1, X1, N1, rfl, gx1, sx1, lx1, h1, f1, k1, m1, q1, v1⟩
  have hy1 := HY.out.tk f1.int
  have q2 := k1.pw hp2
  go_wp2_with fail
  first | rw [MX.out] | skip
  refine (pad_as h1 k1.gd hy1 sw2 q2 m (by omega) (by omega) (by omega)).mono ?_
  rintro en w2 ⟨B2, d2, Y2, N2, rfl, gy2, sy2, ly2, h2, f2, k2, m2, q2', v2⟩
  have gx2 := row_tk gx1 f2.int
  have gx2l : w2.ownsRow w.heap.size 3 1 (.slice B1 m d1) m (ivs X1) := by unfold Grow at gx1; rw [ivs_len7, lx1] at gx1; exact row_tk gx1 f2.int
  have gy2l : w2.ownsRow w1.heap.size 3 1 (.slice B2 m d2) m (ivs Y2) := by unfold Grow at gy2; rwa [ivs_len7, ly2] at gy2
  have HXB : Hid (∀ inn i, i < m → bt inn N2 (X1.getD i 0) = (wn inn N X).testBit i) := Lib.hid fun inn i hi => by
    rw [k2.bit (q1.at (by omega)), ← wn_at (by omega), v1, Nat.testBit_mod_two_pow]
    simp [hi]
  have HYB : Hid (∀ inn i, i < m → bt inn N2 (Y2.getD i 0) = (wn inn N Y).testBit i) := Lib.hid fun inn i hi => by
    rw [← wn_at (by omega), v2, Nat.testBit_mod_two_pow, k1.num hp2]
    simp [hi]
  have hgx : ∀ b, (Value.slice B1 m d1).ownBlock = some b → b < w1.heap.size := fun b e => (gx1.lt b e).2
  have HGX := Lib.hid hgx
  have HLX := Lib.hid lx1
  have HLY := Lib.hid ly2
  have HK0 := Lib.hid (k1.trans k2)
  have F2 : BF base p w w2 := f1.trans f2
  have hNl : N2.length ≤ N.length + 2 * m := by omega
  have px2 := k2.pw q1
  have HPX := Lib.hid px2
  have HPY := Lib.hid q2'
  have HPC := Lib.hid ((k1.trans k2).pq HPC0.out)
  have HC0 : Hid (∀ inn, bt inn N2 cc = bt inn N cc) := Lib.hid fun inn => (k1.trans k2).bit HPC0.out
  have W12 := f1.bw.size
  have HG2 := Lib.hid k2.gd
  have hpl1 := h1.pl
  have hbs1 := h1.bs
  clear gx1 gy2 gx2 k1 k2 v1 v2 q1 q2 q2' h1 f1 f2 hgx lx1 ly2 m1 m2 hx hy1 px2 hp1 hp2 hg h
  go_wp2_with fail
  go_loopw [26] (fun iv wr => ∃ (j : Nat) (Nj : List Nd) (Z : List Int), j ≤ m ∧ iv = .int .i64 j ∧ Hid (wr.ownsRow w.heap.size 3 1 (.slice B1 m d1) m (ivs (Z ++ X1.drop j))) ∧ Hid (wr.ownsRow w1.heap.size 3 1 (.slice B2 m d2) m (ivs Y2)) ∧ Hid (Bd wr base top p Nj I O) ∧ Hid (BF base p w wr) ∧ Hid (Lays N2 Nj) ∧ Hid (Nj.length = N2.length + j) ∧ Hid (Wv Nj Z j (fun inn i => if bt inn N cc then (wn inn N Y).testBit i else (wn inn N X).testBit i))) (fun iv _ => m - (intOf iv).toNat)
  case atStart => exact ⟨0, N2, [], Nat.zero_le _, rfl, Lib.hid gx2l, Lib.hid gy2l, Lib.hid h2, Lib.hid F2, Lib.hid (Lays.refl HG2.out), Lib.hid rfl, Lib.hid (Wv.nil _ _)⟩
  case round =>
    clear gx2l gy2l h2 F2
    obtain ⟨j, Nj, Z, hj, rfl, HX1, HY2, HB, HF, HK, HL, HZ⟩ := hrel
    have hLb : Nj.length ≤ N.length + 2 * m + j := by have := HL.out; omega
    by_cases hlt : j < m
    · obtain ⟨gx, rfl⟩ := row_some HX1.out hlt
      obtain ⟨gy, rfl⟩ := row_some HY2.out hlt
      have hgx1 : w.heap.size ≤ gx := (HX1.out.lt gx rfl).1
      have hgy1 : w1.heap.size ≤ gy := (HY2.out.lt gy rfl).1
      have hgx2 : gx < w1.heap.size := HGX.out gx rfl
      have cx := HX1.out.cellAt j (by omega)
      rw [ivs_at (zdrop_at HZ.out.len HLX.out hlt)] at cx
      have cy := HY2.out.cellAt j (by omega)
      rw [ivs_at (getD_at HLY.out hlt)] at cy
      obtain ⟨x, hx⟩ : ∃ x, X1.getD j 0 = x := ⟨_, rfl⟩
      obtain ⟨y, hy⟩ : ∃ y, Y2.getD j 0 = y := ⟨_, rfl⟩
      rw [hx] at cx
      rw [hy] at cy
      have HXE := Lib.hid hx
      have HYE := Lib.hid hy
      have i0 : (0 : Int) ≤ (j : Int) := by omega
      have i1 : (j : Int) < (m : Int) := by omega
      have bd : Below wr.heap.size wr wr.drew := (Below.refl _ _).drew
      have hBd := HB.out.on bd
      have rx := Lib.hid (row_on HX1.out bd)
      have ry := Lib.hid (row_on HY2.out bd)
      have FD := Lib.hid (HF.out.trans (BF.of (HB.out.bs) HB.out.pl bd))
      have o4 := own_tk O4.out (FD.out.tk _ bp_ne.1 bp_ne.2.1 bp_ne.2.2.1)
      have o7 := own_tk O7.out FD.out.int
      clear hx hy bd
      go_upto_region 6 with fail
      go_region_law (
        (go_simp
         go_at_call 93
         refine (pick1_as hBd o4 o7 (by omega) x y).mono ?_
         rintro en w3 ⟨rfl, h3, f3⟩
         have rx3 := Lib.hid (row_tk rx.out f3.int)
         have ry3 := Lib.hid (row_tk ry.out f3.int)
         have cx3 := rx3.out.cellAt j (by omega)
         rw [ivs_at (zdrop_at HZ.out.len HLX.out hlt), HXE.out] at cx3
         have fx3 := rx3.out.frozenAt j))
      all_goals (
        obtain ⟨st, gst⟩ := rx3.out.stored j (.int .i64 (Nj.length : Int))
        obtain ⟨w4, e_w4⟩ : ∃ w', w3.setCell ⟨gx, j, none⟩ (.int .i64 (Nj.length : Int)) = w' := ⟨_, rfl⟩
        have b4 : Below w.heap.size w3 w4 := e_w4 ▸ (Below.refl _ _).setCell hgx1 _
        rw [e_w4] at st gst ⊢
        have k4 : ∀ t, t ≠ 3 → TK t w3 w4 := fun t ht => TK.row rx3.out gst ht
        have ry4 := Lib.hid (ry3.out.kept gst (.inr fun e => by
          have e : gy = gx := by simpa [Value.ownBlock] using e
          omega))
        have ST := Lib.hid st
        have H4 := Lib.hid (h3.push b4 htp k4)
        have F4 := Lib.hid ((FD.out.trans f3).push b4 hpl (Nat.le_refl _) hbs k4)
        obtain ⟨kl, kb⟩ := lay_mux HK.out.gd (show Pq Nj.length x by rw [← HXE.out]; exact HK.out.pq (HPX.out.at (by rw [HLX.out]; exact hlt))) (show Pq Nj.length y by rw [← HYE.out]; exact HK.out.pq (HPY.out.at (by rw [HLY.out]; exact hlt))) (HK.out.pq HPC.out)
        have KL := Lib.hid kl
        have KB := Lib.hid kb
        clear st gst k4 e_w4 b4 kl kb h3 f3 cx3 fx3
        go_wp2_with fail
        go_roundw
        case rel =>
          refine ⟨j + 1, _, Z ++ [(Nj.length : Int)], by omega, by go_num, Lib.hid ?_, ry4, H4, F4, Lib.hid (HK.out.trans KL.out), Lib.hid (by rw [List.length_append, HL.out]; simp; omega), Lib.hid ((HZ.out.on KL.out).snoc (Pq.nat (by simp)) fun inn => ?_)⟩
          · rw [← zset HZ.out.len HLX.out hlt, ← ivs_set]
            exact ST.out
          · rw [KB.out, ← HXE.out, ← HYE.out, HK.out.bit (HPX.out.at (by rw [HLX.out]; exact hlt)), HK.out.bit (HPY.out.at (by rw [HLY.out]; exact hlt)), HXB.out _ _ hlt, HYB.out _ _ hlt]
            rw [HK.out.bit HPC.out, HC0.out]
        case measure => simp [intOf]; omega)
    · obtain rfl : j = m := by omega
      have hG := HX1.out
      rw [List.drop_eq_nil_of_le (by rw [HLX.out]; exact Nat.le_refl _), List.append_nil] at hG
      have HGG := Lib.hid hG
      clear hG
      go_wp2_with fail
      go_ret
      refine ⟨B1, d1, Z, Nj, rfl, ?_, sx1, HZ.out.len, HB.out, HF.out, HK0.out.trans HK.out, by omega, HZ.out.pw, fun inn => ?_⟩
      · unfold Grow
        rw [ivs_len7, HZ.out.len]
        exact HGG.out
      · have bx : wn inn N X < 2 ^ j := Nat.lt_of_lt_of_le (wn_lt inn N X) (Nat.pow_le_pow_right (by omega) (by rw [L1.out]; omega))
        have by_ : wn inn N Y < 2 ^ j := Nat.lt_of_lt_of_le (wn_lt inn N Y) (Nat.pow_le_pow_right (by omega) (by rw [L2.out]; omega))
        exact HZ.out.num (V := if bt inn N cc then wn inn N Y else wn inn N X) (by split; exact by_; exact bx) fun i hi => by split <;> rfl
theorem gate_3 (w : World) (p : Nat) : Calls Try.prog 90 #[.pointer (some ⟨p, 0, none⟩), .int .i64 3] w fun en w' => en = .returned (.func (.func 83) #[.pointer (some ⟨p, 0, none⟩)] #[]) ∧ w = w' := by
  go_enter Try.func90, Try.ntmps90
  go_wp2_with fail
  go_ret
  exact ⟨rfl, rfl⟩
theorem gate_4 (w : World) (p : Nat) : Calls Try.prog 90 #[.pointer (some ⟨p, 0, none⟩), .int .i64 4] w fun en w' => en = .returned (.func (.func 138) #[.pointer (some ⟨p, 0, none⟩)] #[]) ∧ w = w' := by
  go_enter Try.func90, Try.ntmps90
  go_wp2_with fail
  go_ret
  exact ⟨rfl, rfl⟩
theorem gate_n (w : World) (p : Nat) (k : Int) (e3 : (k == 3) = false) (e4 : (k == 4) = false) : Calls Try.prog 90 #[.pointer (some ⟨p, 0, none⟩), .int .i64 k] w fun en w' => en = .returned (.func (.func 115) #[.pointer (some ⟨p, 0, none⟩)] #[]) ∧ w = w' := by
  go_enter Try.func90, Try.ntmps90
  go_wp2_with fail
  go_ret
  exact ⟨rfl, rfl⟩
theorem opG_5 {k : Int} (h3 : k ≠ 3) (h4 : k ≠ 4) (x y : Nat) : opG k x y = opG 5 x y := by
  unfold opG
  rw [if_neg h3, if_neg h4, if_neg (by omega), if_neg (by omega)]
/-- EACH. -/
theorem eachB_as {w : World} {base top p : Nat} {N : List Nd} {I O : List Pt} (h : Bd w base top p N I O) (hg : Gd N) (k : Int) {A1 : Option Addr} {n1 c1 : Nat} {X : List Int} (hx : Wo w A1 n1 X) (sw1 : Sw A1 n1 c1) (hp1 : PW N.length X) {A2 : Option Addr} {n2 c2 : Nat} {Y : List Int} (hy : Wo w A2 n2 Y) (sw2 : Sw A2 n2 c2) (hp2 : PW N.length Y) (m : Nat) (hm : max n1 n2 = m) (hmb : m ≤ 30000) (hN : N.length + 3 * m ≤ 200000) :
    Calls Try.prog 16 #[.pointer (some ⟨p, 0, none⟩), .int .i64 k, .slice A1 n1 c1, .slice A2 n2 c2] w (WG w base top p N I O m (3 * m) (fun inn => opG k (wn inn N X) (wn inn N Y))) := by
  have HM := Lib.hid hm
  clear hm
  by_cases h3 : k = 3
  · subst h3
    go_enter Try.func16, Try.ntmps16
    go_wp2_with fail
    refine (gate_3 _ p).mono ?_
    rintro en w1 ⟨rfl, rfl⟩
    go_wp2_with fail
    refine (join_and h hg hx sw1 hp1 hy sw2 hp2 m HM.out hmb hN).mono ?_
    rintro en w1 ⟨A, c, Z, N', rfl, H⟩
    have H := Lib.hid H
    go_wp2_with fail
    go_ret
    exact ⟨A, c, Z, N', rfl, H.out⟩
  · by_cases h4 : k = 4
    · subst h4
      go_enter Try.func16, Try.ntmps16
      go_wp2_with fail
      refine (gate_4 _ p).mono ?_
      rintro en w1 ⟨rfl, rfl⟩
      go_wp2_with fail
      refine (join_or h hg hx sw1 hp1 hy sw2 hp2 m HM.out hmb hN).mono ?_
      rintro en w1 ⟨A, c, Z, N', rfl, H⟩
      have H := Lib.hid H
      go_wp2_with fail
      go_ret
      exact ⟨A, c, Z, N', rfl, H.out⟩
    · have e3 : (k == 3) = false := by simp [h3]
      have e4 : (k == 4) = false := by simp [h4]
      have H3 := Lib.hid h3
      have H4 := Lib.hid h4
      clear h3 h4
      go_enter Try.func16, Try.ntmps16
      go_wp2_with fail
      refine (gate_n _ p k e3 e4).mono ?_
      rintro en w1 ⟨rfl, rfl⟩
      go_wp2_with fail
      refine (join_xor h hg hx sw1 hp1 hy sw2 hp2 m HM.out hmb hN).mono ?_
      rintro en w1 ⟨A, c, Z, N', rfl, g1, g2, g3, g4, g5, g6, g7, g8, g9⟩
      have G9 : Hid (∀ inn, wn inn N' Z = opG k (wn inn N X) (wn inn N Y)) := Lib.hid fun inn => by rw [g9, opG_5 H3.out H4.out]
      have G1 := Lib.hid g1
      have G3 := Lib.hid g3
      clear g1 g3 g9
      go_wp2_with fail
      go_ret
      exact ⟨A, c, Z, N', rfl, G1.out, g2, G3.out, g4, g5, g6, g7, g8, G9.out⟩
/-- PICK. -/
theorem pick_as {w : World} {base top p : Nat} {N : List Nd} {I O : List Pt} (h : Bd w base top p N I O) (hg : Gd N) {A1 : Option Addr} {n1 c1 : Nat} {X : List Int} (hx : Wo w A1 n1 X) (sw1 : Sw A1 n1 c1) (hp1 : PW N.length X) {A2 : Option Addr} {n2 c2 : Nat} {Y : List Int} (hy : Wo w A2 n2 Y) (sw2 : Sw A2 n2 c2) (hp2 : PW N.length Y) {cc : Int} (hc : Pq N.length cc) (m : Nat) (hm : max n1 n2 = m) (hmb : m ≤ 30000) (hN : N.length + 3 * m ≤ 200000) :
    Calls Try.prog 18 #[.pointer (some ⟨p, 0, none⟩), .slice A1 n1 c1, .slice A2 n2 c2, .int .i64 cc] w (WG w base top p N I O m (3 * m) (fun inn => if bt inn N cc then wn inn N Y else wn inn N X)) := by
  have HM := Lib.hid hm
  have hbs := h.bs
  have hpl := h.pl
  clear hm
  go_enter Try.func18, Try.ntmps18
  go_upto_region 1 with fail
  obtain ⟨w1, e_w1⟩ : ∃ w', w.alloc (.cells #[.pointer (some ⟨p, 0, none⟩)] 25) = w' := ⟨_, rfl⟩
  have o3 : Own w1 w.heap.size 25 [.pointer (some ⟨p, 0, none⟩)] := e_w1 ▸ Own.made w 25 [.pointer (some ⟨p, 0, none⟩)]
  have b1 : Below w.heap.size w w1 := e_w1 ▸ below_lit _ _
  have hs1 : w1.heap.size = w.heap.size + 1 := e_w1 ▸ size_lit w _ rfl
  rw [e_w1]
  clear e_w1
  obtain ⟨s5, hs5⟩ : ∃ s5, w.heap.size + 1 = s5 := ⟨_, rfl⟩
  rw [hs5] at hs1 ⊢
  obtain ⟨w2, e_w2⟩ : ∃ w', w1.alloc (.cells #[.int .i64 cc] 3) = w' := ⟨_, rfl⟩
  have o5 : Own w2 s5 3 [.int .i64 cc] := by rw [← hs1]; exact e_w2 ▸ Own.made w1 3 [.int .i64 cc]
  have b2 : Below w1.heap.size w1 w2 := e_w2 ▸ below_lit _ _
  rw [e_w2]
  clear e_w2 hs1 hs5
  have BW := Below.step b1 b2
  have o32 := o3.below b2 o3.lt
  have hs : w.heap.size ≤ w2.heap.size := BW.size
  have c3 := o32.cell 0
  simp only [List.getElem?_cons_zero] at c3
  go_wp2_with fail
  refine (join_mux (h.on BW) hg (hx.on BW) sw1 hp1 (hy.on BW) sw2 hp2 m HM.out hmb hN hc o32 o5).mono ?_
  rintro en w3 ⟨A, c, Z, N', rfl, g1, g2, g3, g4, g5, g6⟩
  have G1 := Lib.hid (g1.low hs)
  have G3 := Lib.hid g3
  have G5 := Lib.hid ((BF.of hbs hpl BW).trans g5)
  have G6 := Lib.hid g6
  clear g1 g3 g5 g6 c3
  go_wp2_with fail
  go_ret
  exact ⟨A, c, Z, N', rfl, G1.out, g2, G3.out, g4, G5.out, G6.out⟩
set_option maxHeartbeats 4000000 in
/-- turn, by Not. -/
theorem turnN_as {w : World} {base top p : Nat} {N : List Nd} {I O : List Pt} (h : Bd w base top p N I O) (hg : Gd N) {A : Option Addr} {n c : Nat} {X : List Int} (hx : Wo w A n X) (sw : Sw A n c) (hp : PW N.length X) (hn : n ≤ 30000) (hN : N.length + n ≤ 200000) :
    Calls Try.prog 91 #[.slice A n c, .func (.func 92) #[.pointer (some ⟨p, 0, none⟩)] #[]] w (WG w base top p N I O n n (fun inn => wn inn N X ^^^ (2 ^ n - 1))) := by
  have hbs := h.bs
  have hpl := h.pl
  have htp := h.tp
  have LX := Lib.hid hx.len
  have HPX := Lib.hid hp
  have HG0 := Lib.hid hg
  go_enter Try.func91, Try.ntmps91
  go_wp2_with fail
  refine (cloneW_as hx.is sw (by omega)).mono ?_
  rintro en w1 ⟨A1, c1, rfl, hg1, hw1, sw1, had1, b⟩
  have h1 := h.on b
  have F1 : BF base p w w1 := BF.of hbs hpl b
  have hgl : w1.ownsRow w.heap.size 3 1 (.slice A1 n c1) n (ivs X) := by unfold Grow at hg1; rwa [ivs_len7, LX.out] at hg1
  clear hw1 had1 hx hg1 b hp hg h
  go_wp2_with fail
  go_loopw [10] (fun iv wr => ∃ (j : Nat) (Nj : List Nd) (Z : List Int), j ≤ n ∧ iv = .int .i64 j ∧ Hid (wr.ownsRow w.heap.size 3 1 (.slice A1 n c1) n (ivs (Z ++ X.drop j))) ∧ Hid (Bd wr base top p Nj I O) ∧ Hid (BF base p w wr) ∧ Hid (Lays N Nj) ∧ Hid (Nj.length = N.length + j) ∧ Hid (Wv Nj Z j (fun inn i => !(wn inn N X).testBit i))) (fun iv _ => n - (intOf iv).toNat)
  case atStart => exact ⟨0, N, [], Nat.zero_le _, rfl, Lib.hid hgl, Lib.hid h1, Lib.hid F1, Lib.hid (Lays.refl HG0.out), Lib.hid rfl, Lib.hid (Wv.nil _ _)⟩
  case round =>
    clear hgl h1 F1
    obtain ⟨j, Nj, Z, hj, rfl, HX1, HB, HF, HK, HL, HZ⟩ := hrel
    have hLb : Nj.length ≤ N.length + j := by have := HL.out; omega
    by_cases hlt : j < n
    · obtain ⟨gx, rfl⟩ := row_some HX1.out hlt
      have hgx1 : w.heap.size ≤ gx := (HX1.out.lt gx rfl).1
      have cx := HX1.out.cellAt j (by omega)
      rw [ivs_at (zdrop_at HZ.out.len LX.out hlt)] at cx
      obtain ⟨x, hx⟩ : ∃ x, X.getD j 0 = x := ⟨_, rfl⟩
      rw [hx] at cx
      have HXE := Lib.hid hx
      have i0 : (0 : Int) ≤ (j : Int) := by omega
      have i1 : (j : Int) < (n : Int) := by omega
      clear hx
      go_wp2_with fail
      refine (not_as HB.out (by omega) x).mono ?_
      rintro en w3 ⟨rfl, h3, f3⟩
      have rx3 := row_tk HX1.out f3.int
      have cx3 := rx3.cellAt j (by omega)
      rw [ivs_at (zdrop_at HZ.out.len LX.out hlt), HXE.out] at cx3
      have fx3 := rx3.frozenAt j
      obtain ⟨st, gst⟩ := rx3.stored j (.int .i64 (Nj.length : Int))
      clear cx
      go_wp2_with fail
      obtain ⟨w4, e_w4⟩ : ∃ w', w3.setCell ⟨gx, j, none⟩ (.int .i64 (Nj.length : Int)) = w' := ⟨_, rfl⟩
      have b4 : Below w.heap.size w3 w4 := e_w4 ▸ (Below.refl _ _).setCell hgx1 _
      rw [e_w4] at st gst
      have k4 : ∀ t, t ≠ 3 → TK t w3 w4 := fun t ht => TK.row rx3 gst ht
      have ST := Lib.hid st
      have H4 := Lib.hid (h3.push b4 htp k4)
      have F4 := Lib.hid ((HF.out.trans f3).push b4 hpl (Nat.le_refl _) hbs k4)
      obtain ⟨kl, kb⟩ := lay_not HK.out.gd (show Pq Nj.length x by rw [← HXE.out]; exact HK.out.pq (HPX.out.at (by rw [LX.out]; exact hlt)))
      have KL := Lib.hid kl
      have KB := Lib.hid kb
      clear st gst k4 b4 kl kb h3 f3 cx3 fx3 rx3
      go_roundw
      case rel =>
        refine ⟨j + 1, _, Z ++ [(Nj.length : Int)], by omega, by go_num, Lib.hid ?_, Lib.hid (by rw [e_w4]; exact H4.out), Lib.hid (by rw [e_w4]; exact F4.out), Lib.hid (HK.out.trans KL.out), Lib.hid (by rw [List.length_append, HL.out]; simp; omega), Lib.hid ((HZ.out.on KL.out).snoc (Pq.nat (by simp)) fun inn => ?_)⟩
        · rw [e_w4, ← zset HZ.out.len LX.out hlt, ← ivs_set]
          exact ST.out
        · rw [KB.out, ← HXE.out, HK.out.bit (HPX.out.at (by rw [LX.out]; exact hlt)), wn_at (by rw [LX.out]; exact hlt)]
      case measure => simp [intOf]; omega
    · obtain rfl : j = n := by omega
      have hG := HX1.out
      rw [List.drop_eq_nil_of_le (by rw [LX.out]; exact Nat.le_refl _), List.append_nil] at hG
      have HGG := Lib.hid hG
      clear hG
      go_wp2_with fail
      go_ret
      refine ⟨A1, c1, Z, Nj, rfl, ?_, sw1, HZ.out.len, HB.out, HF.out, HK.out, by omega, HZ.out.pw, fun inn => ?_⟩
      · unfold Grow
        rw [ivs_len7, HZ.out.len]
        exact HGG.out
      · have hlt2 : wn inn N X < 2 ^ j := by have := wn_lt inn N X; rwa [LX.out] at this
        refine HZ.out.num (Nat.xor_lt_two_pow hlt2 (by have := Nat.two_pow_pos j; omega)) fun i hi => ?_
        rw [Nat.testBit_xor, Nat.testBit_two_pow_sub_one]
        simp [hi]
/-- NOTS. -/
theorem nots_as {w : World} {base top p : Nat} {N : List Nd} {I O : List Pt} (h : Bd w base top p N I O) (hg : Gd N) {A : Option Addr} {n c : Nat} {X : List Int} (hx : Wo w A n X) (sw : Sw A n c) (hp : PW N.length X) (hn : n ≤ 30000) (hN : N.length + n ≤ 200000) :
    Calls Try.prog 17 #[.pointer (some ⟨p, 0, none⟩), .slice A n c] w (WG w base top p N I O n n (fun inn => wn inn N X ^^^ (2 ^ n - 1))) := by
  go_enter Try.func17, Try.ntmps17
  go_wp2_with fail
  refine (turnN_as h hg hx sw hp hn hN).mono ?_
  rintro en w3 ⟨A, c, Z, N', rfl, H⟩
  have H := Lib.hid H
  go_wp2_with fail
  go_ret
  exact ⟨A, c, Z, N', rfl, H.out⟩
end Go.Proofs.Ytcfmgoilncninaa

namespace Go.Proofs.Ytcfmgoilncninaa
open Go.RowKit
set_option linter.unusedVariables false
set_option maxRecDepth 4000

def outW (N : List Nd) (I O : List Pt) (xs : List Nat) : List Nat := O.map fun p => wn (inF I xs N.length) N p.bits
def EvP (w : World) (no : Nat) (l : List Nat) (en : Ending) (w' : World) : Prop := ∃ A c, en = .returned (.tuple #[.slice A no c, .bool true]) ∧ NuT 22 w' A no l ∧ Sw A no c ∧ Below w.heap.size w w'
set_option maxRecDepth 20000 in
set_option maxHeartbeats 4000000 in
/-- EVAL, of gates. -/
theorem eval_as {An Ai Ao : Option Addr} {nn cn ni ci no co : Nat} {N : List Nd} {I O : List Pt} {w : World} (h : Nt w An nn cn Ai ni ci Ao no co N I O) (hg : Gd N) (hbt : (I ++ O).all (bitsS nn) = true) (hbb : ∀ p ∈ I ++ O, p.bits.length ≤ 100000) {As : Option Addr} {ms cs : Nat} {xs : List Nat} (hs : NuB 30000 w As ms xs) (sws : Sw As ms cs) (hms : ms ≤ 1000) (hfit : fitsS I xs = true) :
    Calls Try.prog 66 #[.agg #[.slice An nn cn, .slice Ai ni ci, .slice Ao no co], .slice As ms cs] w (EvP w no (outW N I O xs)) := by
  obtain ⟨f, hfa⟩ := hg.1.all
  have HFA := Lib.hid hfa
  have HG := Lib.hid hg
  have HLN : Hid (N.length = nn) := Lib.hid h.n.1
  have HLO : Hid (O.length = no) := Lib.hid h.o.1
  have HFM : Hid (N.all (formedS nn) = true) := Lib.hid (by rw [← h.n.1]; exact hg.1.formed)
  have HBT := Lib.hid hbt
  have HFIT := Lib.hid hfit
  have hn := h.hn
  have hio := h.hs
  have HPQ : Hid (∀ p ∈ I ++ O, ∀ q ∈ p.bits, ∃ r : Nat, q = (r : Int) ∧ r < nn) := Lib.hid (by
    intro p hp q hq
    have h1 := List.all_eq_true.1 hbt p hp
    unfold bitsS at h1
    have h2 := List.all_eq_true.1 (Bool.and_eq_true_iff.1 h1).2 q hq
    unfold placeS at h2
    simp only [Bool.and_eq_true, decide_eq_true_eq] at h2
    exact ⟨q.toNat, by omega, by omega⟩)
  have HBB : Hid (∀ p ∈ I ++ O, p.bits.length ≤ 100000) := Lib.hid hbb
  clear hfa hg hbt hfit
  go_enter Try.func66, Try.ntmps66
  go_upto_region 1 with fail
  obtain ⟨w1, e_w1⟩ : ∃ w', w.alloc (.cells #[.slice An nn cn, .slice Ai ni ci, .slice Ao no co] 52) = w' := ⟨_, rfl⟩
  have b1 : Below w.heap.size w w1 := e_w1 ▸ below_lit _ _
  have z1 : Bx w1 w.heap.size [.slice An nn cn, .slice Ai ni ci, .slice Ao no co] := e_w1 ▸ Bx.made_k w rfl #[.slice An nn cn, .slice Ai ni ci, .slice Ao no co] 52
  rw [e_w1]
  clear e_w1
  have hN1 := h.on b1
  have z1c0 := z1.2 0 _ rfl
  have z1c1 := z1.2 1 _ rfl
  have z1c2 := z1.2 2 _ rfl
  go_wp2_with fail
  refine (fast_as hN1 HFM.out HBT.out HFA.out).mono ?_
  rintro en w2 ⟨Af, cf, L, rfl, hiL, swL, hOd, b2⟩
  have HOD := Lib.hid hOd
  have hLm : L.length ≤ nn := by have := hOd.len; rw [HLN.out] at this; exact this
  have B2 := Lib.hid (Below.step b1 b2)
  replace z1 := z1.on b2
  have HN2 := Lib.hid (hN1.on b2)
  have HS2 := Lib.hid (hs.on B2.out)
  have HL2 := Lib.hid hiL
  clear z1c0 z1c1 z1c2 hOd b1 b2 h hN1 hs hiL
  have z1c0 := z1.2 0 _ rfl
  have z1c1 := z1.2 1 _ rfl
  have z1c2 := z1.2 2 _ rfl
  go_wp2_with fail
  have b3 : Below w2.heap.size w2 (w2.alloc (.cells #[.slice As ms cs] 36)) := below_lit _ _
  have o3 : Own (w2.alloc (.cells #[.slice As ms cs] 36)) w2.heap.size 36 [.slice As ms cs] := Own.made w2 36 [.slice As ms cs]
  have nb3 : NnB 30000 (w2.alloc (.cells #[.slice As ms cs] 36)) (some ⟨w2.heap.size, 0, none⟩) 1 [xs] := by
    refine ⟨[⟨As, ms, cs, xs⟩], ⟨rfl, fun i u hu => ?_⟩, rfl, fun s hs => ?_⟩
    · exact ⟨w2.heap.size, 0, rfl, o3.lt, by rw [Nat.zero_add, o3.cell]; exact hu⟩
    · rw [List.mem_singleton.1 hs]
      exact ⟨HS2.out.on b3, sws⟩
  have hN3 := HN2.out.on b3
  refine (rthrough_as hN3.n hN3.i hN3.o (by omega) (by omega) (by omega) HBB.out HPQ.out HFM.out (HL2.out.on b3) (by omega) (fun q hq => by
    unfold nI at hq
    obtain ⟨r, hr, rfl⟩ := List.mem_map.1 hq
    exact ⟨r, rfl, by rw [← HLN.out]; exact (HOD.out.mem r).1 hr⟩) nb3 (by omega) (run_ev HG.out HOD.out HFIT.out)).mono ?_
  rintro en w4 ⟨Ao4, mo, c4, rfl, hout, swo', b4⟩
  have hmo : mo = 1 := by
    have := hout.len
    exact this.symm
  subst hmo
  obtain ⟨bo, oo, A5, m5, c5, ys, rfl, hbo, HXO, qo, hnu, sw5⟩ := hout.at (k := 0) (by omega)
  have qo' : w4.cell? ⟨bo, oo, none⟩ = some (.slice A5 m5 c5) := by simpa using qo
  have hys : ys = outW N I O xs := by
    have := HXO.out
    injection this with this
    exact this.symm
  subst hys
  have hm5 : m5 = no := by
    have := hnu.len
    unfold outW at this
    rw [List.length_map, HLO.out] at this
    exact this.symm
  subst hm5
  have HNU := Lib.hid hnu
  have B4 := Lib.hid (Below.step (Below.step B2.out b3) b4)
  clear hout b3 b4 o3 nb3 hN3 z1c0 z1c1 z1c2 z1 HXO hnu
  go_wp2_with fail
  first | go_ret2 | go_ret
  exact ⟨A5, c5, rfl, HNU.out, sw5, B4.out⟩
end Go.Proofs.Ytcfmgoilncninaa

namespace Go.Proofs.Ytcfmgoilncninaa
open Go.RowKit
set_option linter.unusedVariables false
set_option maxRecDepth 4000


/-! places that come in -/
def InsG (N : List Nd) : Prop := Gd N ∧ ∀ inn q, q < N.length → bt inn N (q : Int) = inn q
theorem InsG.nil : InsG [] := ⟨Gd.nil, fun inn q h => by cases h⟩
theorem InsG.more {N : List Nd} (h : InsG N) (n : Nat) : InsG (N ++ ins0 n) := by
  obtain ⟨h1, h2⟩ := lay_ins h.1 n
  refine ⟨h1.gd, fun inn q hq => ?_⟩
  by_cases hl : q < N.length
  · rw [h1.bit (Pq.nat hl), h.2 inn q hl]
  · have := h2 inn (q - N.length) (by rw [List.length_append, ins0_len] at hq; omega)
    rwa [show N.length + (q - N.length) = q by omega] at this
def inW (inn : Nat → Bool) (a n : Nat) : Nat := bval ((List.range n).map fun t => inn (a + t))
theorem InsG.num {N : List Nd} (h : InsG N) (inn : Nat → Bool) {a n : Nat} (hn : a + n ≤ N.length) : wn inn N (plc a n) = inW inn a n := by
  unfold wn inW plc
  rw [List.map_map]
  congr 1
  refine List.map_congr_left fun t ht => ?_
  have := List.mem_range.1 ht
  exact h.2 inn (a + t) (by omega)
theorem inW_eq {inn : Nat → Bool} {a n x : Nat} (hx : x < 2 ^ n) (h : ∀ t < n, inn (a + t) = x.testBit t) : inW inn a n = x := by
  apply Nat.eq_of_testBit_eq
  intro i
  unfold inW
  rw [bval_testBit, List.getD_eq_getElem?_getD, List.getElem?_map]
  by_cases hi : i < n
  · rw [List.getElem?_range hi]
    exact h i hi
  · rw [List.getElem?_eq_none (by simp; omega), Nat.testBit_lt_two_pow (Nat.lt_of_lt_of_le hx (Nat.pow_le_pow_right (by omega) (by omega)))]
    rfl
def I3 (a b c : Nat) (n1 n2 n3 : ByteArray) : List Pt := [⟨n1, plc 0 a⟩, ⟨n2, plc a b⟩, ⟨n3, plc (a + b) c⟩]
theorem lt3 {P : Nat → Prop} (h0 : P 0) (h1 : P 1) (h2 : P 2) : ∀ i < 3, P i := by
  intro i hi
  rcases (show i = 0 ∨ i = 1 ∨ i = 2 by omega) with rfl | rfl | rfl
  · exact h0
  · exact h1
  · exact h2
theorem in3 {a b c x y z m : Nat} (n1 n2 n3 : ByteArray) (hx : x < 2 ^ a) (hy : y < 2 ^ b) (hz : z < 2 ^ c) (hm : a + b + c ≤ m) : fitsS (I3 a b c n1 n2 n3) [x, y, z] = true ∧ (∀ t < a, inF (I3 a b c n1 n2 n3) [x, y, z] m t = x.testBit t) ∧ (∀ t < b, inF (I3 a b c n1 n2 n3) [x, y, z] m (a + t) = y.testBit t) ∧ (∀ t < c, inF (I3 a b c n1 n2 n3) [x, y, z] m (a + b + t) = z.testBit t) := by
  have k1 := (blen_le x a).2 hx
  have k2 := (blen_le y b).2 hy
  have k3 := (blen_le z c).2 hz
  have hs : ∀ i < (I3 a b c n1 n2 n3).length, ((I3 a b c n1 n2 n3).getD i pt0).bits = plc ((fun i => if i = 0 then 0 else if i = 1 then a else if i = 2 then a + b else a + b + c) i) ((fun i => if i = 0 then a else if i = 1 then b else c) i) ∧ (fun i => if i = 0 then 0 else if i = 1 then a else if i = 2 then a + b else a + b + c) (i + 1) = (fun i => if i = 0 then 0 else if i = 1 then a else if i = 2 then a + b else a + b + c) i + (fun i => if i = 0 then a else if i = 1 then b else c) i ∧ blen ([x, y, z].getD i 0) ≤ (fun i => if i = 0 then a else if i = 1 then b else c) i := by
    refine lt3 (P := fun i => ((I3 a b c n1 n2 n3).getD i pt0).bits = plc ((fun i => if i = 0 then 0 else if i = 1 then a else if i = 2 then a + b else a + b + c) i) ((fun i => if i = 0 then a else if i = 1 then b else c) i) ∧ (fun i => if i = 0 then 0 else if i = 1 then a else if i = 2 then a + b else a + b + c) (i + 1) = (fun i => if i = 0 then 0 else if i = 1 then a else if i = 2 then a + b else a + b + c) i + (fun i => if i = 0 then a else if i = 1 then b else c) i ∧ blen ([x, y, z].getD i 0) ≤ (fun i => if i = 0 then a else if i = 1 then b else c) i) ?_ ?_ ?_
    · exact ⟨rfl, by simp, k1⟩
    · exact ⟨rfl, by simp, k2⟩
    · exact ⟨rfl, by simp, k3⟩
  have key := fun (i t : Nat) (hi : i < 3) => inF_at (I := I3 a b c n1 n2 n3) (xs := [x, y, z]) _ _ (m := m) hs hm (i := i) (t := t) hi
  refine ⟨?_, fun t ht => ?_, fun t ht => ?_, fun t ht => ?_⟩
  · unfold fitsS
    rw [Bool.and_eq_true]
    refine ⟨by simp [I3], ?_⟩
    rw [List.all_eq_true]
    intro i hi
    have hi := List.mem_range.1 hi
    unfold fitAt
    rw [(hs i hi).1, plc_len]
    exact decide_eq_true (hs i hi).2.2
  · have := key 0 t (by omega) ht
    simpa using this
  · have := key 1 t (by omega) ht
    simpa using this
  · have := key 2 t (by omega) ht
    simpa using this
/-! a builder with two words and a bit -/
theorem own_rwt {t : TypeId} {w : World} {g : Nat} {vs : List Value} (h : Own w g t vs) : RwT t w (some ⟨g, 0, none⟩) vs.length vs :=
  ⟨⟨rfl, fun i u hu => ⟨g, 0, rfl, h.lt, by rw [Nat.zero_add, h.cell]; exact hu⟩⟩, fun _ => ⟨g, 0, _, _, rfl, h⟩⟩
theorem lit_res0 {w : World} {g : Nat} (h : Own w g 127 []) : ResT w (some ⟨g, 0, none⟩) 0 0 := ⟨[], own_rwt h, Canon.nil, rfl⟩
theorem canon_one : Canon [1] := ⟨fun x hx => by rw [List.mem_singleton.1 hx]; omega, fun _ => by decide⟩
theorem lit_res1 {w : World} {g : Nat} (h : Own w g 127 [.int .u32 1]) : ResT w (some ⟨g, 0, none⟩) 1 1 := ⟨[1], own_rwt h, canon_one, rfl⟩
theorem Wo.c {w : World} {b off n : Nat} {X : List Int} (h : Wo w (some ⟨b, off, none⟩) n X) {k : Nat} {q : Int} (hq : X[k]? = some q) : w.cell? ⟨b, off + k, none⟩ = some (.int .i64 q) := RwT.cellk h (ivs_at hq)
def N3 (a b c : Nat) : List Nd := ins0 a ++ ins0 b ++ ins0 c
theorem N3_ins (a b c : Nat) : InsG (N3 a b c) := by
  have := ((InsG.nil.more a).more b).more c
  rwa [List.nil_append] at this
theorem N3_len (a b c : Nat) : (N3 a b c).length = a + b + c := by
  unfold N3
  rw [List.length_append, List.length_append, ins0_len, ins0_len, ins0_len]
/-- what layer 8's words tells. -/
def W8 (w : World) (n m : Nat) (en : Ending) (w' : World) : Prop := ∃ p top A1 c1 A2 c2, en = .returned (.tuple #[.pointer (some ⟨p, 0, none⟩), .slice A1 n c1, .slice A2 m c2, .int .i64 ((n + 1 + (m + 1) : Nat) : Int), .bool true]) ∧ Bd w' w.heap.size top p (N3 (n + 1) (m + 1) 1) (I3 (n + 1) (m + 1) 1 ⟨#[120]⟩ ⟨#[121]⟩ ⟨#[99]⟩) [] ∧ Wo w' A1 n (plc 0 n) ∧ Sw A1 n c1 ∧ Wo w' A2 m (plc (n + 1) m) ∧ Sw A2 m c2 ∧ Below w.heap.size w w'
theorem plc_take (a : Nat) {m n : Nat} (h : m ≤ n) : (plc a n).take m = plc a m := by
  unfold plc
  rw [← List.map_take]
  congr 1
  rw [List.take_range, Nat.min_eq_left h]
set_option maxRecDepth 20000 in
set_option maxHeartbeats 4000000 in
theorem words8_as {w : World} (n m : Nat) (hn : n ≤ 1000) (hm : m ≤ 1000) : Calls Try.prog 15 #[.int .i64 (n : Int), .int .i64 (m : Int)] w (W8 w n m) := by
  obtain ⟨n1, hn1⟩ : ∃ n1, n + 1 = n1 := ⟨_, rfl⟩
  obtain ⟨m1, hm1⟩ : ∃ m1, m + 1 = m1 := ⟨_, rfl⟩
  have en : IntKind.i64.wrap ((n : Int) + 1) = (n1 : Int) := by rw [IntKind.wrap_i64]; omega
  have em : IntKind.i64.wrap ((m : Int) + 1) = (m1 : Int) := by rw [IntKind.wrap_i64]; omega
  have en' : (n : Int) + 1 = (n1 : Int) := by omega
  have em' : (m : Int) + 1 = (m1 : Int) := by omega
  have EN := Lib.hid en'
  have EM := Lib.hid em'
  have HN1 := Lib.hid hn1
  have HM1 := Lib.hid hm1
  have hnb : n1 ≤ 1001 := by omega
  have hmb : m1 ≤ 1001 := by omega
  clear en em en' em' hn1 hm1
  go_enter Try.func15, Try.ntmps15
  go_wp2_with fail
  refine (new_b _).mono ?_
  rintro en w2 ⟨p, rfl, h2, b2⟩
  go_wp2_with fail
  rw [EN.out]
  refine (in_as h2 (by simp) _ n1 (by omega) (by simp; omega)).mono ?_
  rintro en w3 ⟨A3, c3, rfl, hx3, sw3, hax3, top3, ht3, h3, f3⟩
  have h3' : Bd w3 w.heap.size top3 p (ins0 n1) [⟨⟨#[120]⟩, plc 0 n1⟩] [] := by simpa using h3
  have hx3' : Wo w3 A3 n1 (plc 0 n1) := hx3
  have BW := Lib.hid (b2.trans f3.bw)
  clear h2 h3 hx3 f3 b2
  go_wp2_with fail
  rw [EM.out]
  refine (in_as h3' (by simp) _ m1 (by omega) (by rw [ins0_len]; omega)).mono ?_
  rintro en w4 ⟨A4, c4, rfl, hx4, sw4, hax4, top4, ht4, h4, f4⟩
  rw [ins0_len] at hx4 h4
  have h4' : Bd w4 w.heap.size top4 p (ins0 n1 ++ ins0 m1) [⟨⟨#[120]⟩, plc 0 n1⟩, ⟨⟨#[121]⟩, plc n1 m1⟩] [] := h4
  have hx34 := hx3'.tk f4.int
  replace BW := Lib.hid (BW.out.trans f4.bw)
  clear h3' h4 hx3' f4
  go_wp2_with fail
  refine (in_as h4' (by simp) _ 1 (by omega) (by rw [List.length_append, ins0_len, ins0_len]; omega)).mono ?_
  rintro en w5 ⟨A5, c5, rfl, hx5, sw5, hax5, top5, ht5, h5, f5⟩
  have hl4 : (ins0 n1 ++ ins0 m1).length = n1 + m1 := by rw [List.length_append, ins0_len, ins0_len]
  rw [hl4] at hx5 h5
  have H5 : Hid (Bd w5 w.heap.size top5 p (N3 n1 m1 1) (I3 n1 m1 1 ⟨#[120]⟩ ⟨#[121]⟩ ⟨#[99]⟩) []) := Lib.hid h5
  have HX3 := Lib.hid (hx34.tk f5.int)
  have HX4 := Lib.hid (hx4.tk f5.int)
  have hx5' : Wo w5 A5 1 (plc (n1 + m1) 1) := hx5
  replace BW := Lib.hid (BW.out.trans f5.bw)
  clear h4' h5 hx34 hx4 hx5 f5 hl4
  obtain ⟨b5, o5, e5⟩ : ∃ b off, A5 = some ⟨b, off, none⟩ := by
    obtain ⟨b, off, e, _⟩ := hx5'.1.2 0 _ rfl
    exact ⟨b, off, e⟩
  subst e5
  have cc : w5.cell? ⟨b5, o5, none⟩ = some (.int .i64 ((n1 + m1 : Nat) : Int)) := hx5'.c (k := 0) rfl
  obtain ⟨q, hq⟩ : ∃ q, n1 + m1 = q := ⟨_, rfl⟩
  rw [hq] at cc
  have HQ := Lib.hid hq
  have n0 : (0 : Int) ≤ (n : Int) := by omega
  have m0 : (0 : Int) ≤ (m : Int) := by omega
  have n2 : (n : Int) ≤ (c3 : Int) := by have := HN1.out; have := sw3.1; omega
  have m2 : (m : Int) ≤ (c4 : Int) := by have := HM1.out; have := sw4.1; omega
  have x1 : ((n1 : Int) != (n : Int) + 1) = false := by rw [EN.out]; simp
  have x2 : ((m1 : Int) != (m : Int) + 1) = false := by rw [EM.out]; simp
  clear hx5' hq hax3 hax4 hax5 ht3 ht4 ht5
  go_wp2_with fail
  go_quiet (fail)
  go_wp2_with fail
  have bq : Below w5.heap.size w5 (w5.drewN nq) := below_drewN (Below.refl _ _) nq
  have hn1 := HN1.out
  have hm1 := HM1.out
  subst hn1 hm1
  refine bodyPost_ret (v := .tuple #[.pointer (some ⟨p, 0, none⟩), .slice A3 n c3, .slice A4 m c4, .int .i64 (q : Int), .bool true]) (by simp [results, Try.results15, go_sem]) rfl ?_
  refine ⟨p, top5, A3, c3, A4, c4, by rw [HQ.out], H5.out.on bq, ?_, ⟨by omega, sw3.2⟩, ?_, ⟨by omega, sw4.2⟩, Below.step BW.out bq⟩
  · have := (HX3.out.take (m := n) (by omega)).on bq
    rwa [plc_take 0 (by omega)] at this
  · have := (HX4.out.take (m := m) (by omega)).on bq
    rwa [plc_take _ (by omega)] at this
/-! layer 8's eval -/
theorem fast_no {An Ai Ao : Option Addr} {nn cn ni ci no co : Nat} {N : List Nd} {I O : List Pt} {w : World} (h : Nt w An nn cn Ai ni ci Ao no co N I O) (hf : (N.all (formedS nn) && (I ++ O).all (bitsS nn)) = false) :
    Calls Try.prog 31 #[.agg #[.slice An nn cn, .slice Ai ni ci, .slice Ao no co]] w fun en w' => en = .returned (.tuple #[.slice none 0 0, .bool false]) ∧ Below w.heap.size w w' := by
  have HF := Lib.hid hf
  clear hf
  go_enter Try.func31, Try.ntmps31
  go_upto_region 1 with fail
  obtain ⟨w1, e_w1⟩ : ∃ w', w.alloc (.cells #[.slice An nn cn, .slice Ai ni ci, .slice Ao no co] 52) = w' := ⟨_, rfl⟩
  have z0 : Bx w1 w.heap.size [.slice An nn cn, .slice Ai ni ci, .slice Ao no co] := e_w1 ▸ Bx.made_k w rfl #[.slice An nn cn, .slice Ai ni ci, .slice Ao no co] 52
  have b1 : Below w.heap.size w w1 := e_w1 ▸ below_lit _ _
  rw [e_w1]
  clear e_w1
  have z0c0 := z0.2 0 _ rfl
  have z0c1 := z0.2 1 _ rfl
  have z0c2 := z0.2 2 _ rfl
  go_wp2_with fail
  refine (rformed_as (h.on b1) false HF.out).mono ?_
  rintro en w2 ⟨rfl, b⟩
  have BW := Lib.hid (Below.step b1 b)
  clear z0c0 z0c1 z0c2 b1 b h z0
  go_wp2_with fail
  first | go_ret2 | go_ret
  exact ⟨rfl, BW.out⟩
theorem eval_no {An Ai Ao : Option Addr} {nn cn ni ci no co : Nat} {N : List Nd} {I O : List Pt} {w : World} (h : Nt w An nn cn Ai ni ci Ao no co N I O) (hf : (N.all (formedS nn) && (I ++ O).all (bitsS nn)) = false) (As : Option Addr) (ms cs : Nat) :
    Calls Try.prog 66 #[.agg #[.slice An nn cn, .slice Ai ni ci, .slice Ao no co], .slice As ms cs] w fun en w' => en = .returned (.tuple #[.slice none 0 0, .bool false]) ∧ Below w.heap.size w w' := by
  have HF := Lib.hid hf
  clear hf
  go_enter Try.func66, Try.ntmps66
  go_upto_region 1 with fail
  obtain ⟨w1, e_w1⟩ : ∃ w', w.alloc (.cells #[.slice An nn cn, .slice Ai ni ci, .slice Ao no co] 52) = w' := ⟨_, rfl⟩
  have b1 : Below w.heap.size w w1 := e_w1 ▸ below_lit _ _
  have z1 : Bx w1 w.heap.size [.slice An nn cn, .slice Ai ni ci, .slice Ao no co] := e_w1 ▸ Bx.made_k w rfl #[.slice An nn cn, .slice Ai ni ci, .slice Ao no co] 52
  rw [e_w1]
  clear e_w1
  have z1c0 := z1.2 0 _ rfl
  have z1c1 := z1.2 1 _ rfl
  have z1c2 := z1.2 2 _ rfl
  go_wp2_with fail
  refine (fast_no (h.on b1) HF.out).mono ?_
  rintro en w2 ⟨rfl, b⟩
  have BW := Lib.hid (Below.step b1 b)
  clear z1c0 z1c1 z1c2 b1 b h z1
  go_wp2_with fail
  first | go_ret2 | go_ret
  exact ⟨rfl, BW.out⟩
theorem arg_blenQ {w : World} {A : Option Addr} {n c x : Nat} (h : Arg w A n c x) : blen x ≤ 32 * n := by
  obtain ⟨xs, h1, h2, h3, h4⟩ := h
  rw [blen_le, ← pw_two, ← h4, ← h1.len]
  exact val_lt xs h1.2
theorem all_congr_mem {α : Type} {L : List α} {f g : α → Bool} (h : ∀ x ∈ L, f x = g x) : L.all f = L.all g := by
  induction L with
  | nil => rfl
  | cons x L ih => rw [List.all_cons, List.all_cons, h x (List.mem_cons_self ..), ih fun y hy => h y (List.mem_cons_of_mem _ hy)]
theorem nub3 {w : World} {g : Nat} {A1 A2 A3 : Option Addr} {n1 c1 x1 n2 c2 x2 n3 c3 x3 : Nat} (o : Own w g 22 [.slice A1 n1 c1, .slice A2 n2 c2, .slice A3 n3 c3]) (h1 : Arg w A1 n1 c1 x1 ∧ n1 ≤ 30000) (h2 : Arg w A2 n2 c2 x2 ∧ n2 ≤ 30000) (h3 : Arg w A3 n3 c3 x3 ∧ n3 ≤ 30000) : NuB 30000 w (some ⟨g, 0, none⟩) 3 [x1, x2, x3] := by
  refine ⟨[⟨A1, n1, c1, x1⟩, ⟨A2, n2, c2, x2⟩, ⟨A3, n3, c3, x3⟩], (own_rwt o).1, rfl, fun r hr => ?_⟩
  simp only [List.mem_cons, List.not_mem_nil, or_false] at hr
  rcases hr with rfl | rfl | rfl
  · exact h1
  · exact h2
  · exact h3
theorem bitsS_pw {n : Nat} {q : Pt} (h : PW n q.bits) : bitsS (n : Int) q = decide (q.bits ≠ []) := by
  unfold bitsS
  have : q.bits.all (placeS (n : Int)) = true := by
    rw [List.all_eq_true]
    exact fun x hx => (h x hx).place
  rw [this, Bool.and_true]
theorem plc_ne {a n : Nat} (h : 0 < n) : plc a n ≠ [] := fun e => by
  have := plc_len a n
  rw [e] at this
  simp at this
  omega
theorem I3_len {a b c : Nat} {n1 n2 n3 : ByteArray} {q : Pt} (h : q ∈ I3 a b c n1 n2 n3) : q.bits.length ≤ a + b + c := by
  unfold I3 at h
  simp only [List.mem_cons, List.not_mem_nil, or_false] at h
  rcases h with rfl | rfl | rfl
  · show (plc 0 a).length ≤ _; rw [plc_len]; omega
  · show (plc a b).length ≤ _; rw [plc_len]; omega
  · show (plc (a + b) c).length ≤ _; rw [plc_len]; omega
theorem all_bits {a b c n : Nat} {n1 n2 n3 : ByteArray} {O : List Pt} (ha : 0 < a) (hb : 0 < b) (hc : 0 < c) (hn : a + b + c ≤ n) (hO : ∀ q ∈ O, PW n q.bits) : (I3 a b c n1 n2 n3 ++ O).all (bitsS (n : Int)) = O.all fun q => decide (q.bits ≠ []) := by
  rw [List.all_append]
  have e1 : (I3 a b c n1 n2 n3).all (bitsS (n : Int)) = true := by
    rw [List.all_eq_true]
    intro q hq
    have hw : ∀ s d, s + d ≤ n → PW n (plc s d) := fun s d h q hq => (plc_pw s d q hq).le h
    unfold I3 at hq
    simp only [List.mem_cons, List.not_mem_nil, or_false] at hq
    rcases hq with rfl | rfl | rfl
    · rw [bitsS_pw (hw 0 a (by omega))]; exact decide_eq_true (plc_ne ha)
    · rw [bitsS_pw (hw a b (by omega))]; exact decide_eq_true (plc_ne hb)
    · rw [bitsS_pw (hw (a + b) c (by omega))]; exact decide_eq_true (plc_ne hc)
  rw [e1, Bool.true_and]
  exact all_congr_mem fun q hq => bitsS_pw (hO q hq)
/-- what eval tells: of ports with bits, or none. -/
def E8 (w : World) (no : Nat) (ok : Bool) (l : List Nat) (en : Ending) (w' : World) : Prop := Below w.heap.size w w' ∧ if ok then ∃ A c, en = .returned (.tuple #[.slice A no c, .bool true]) ∧ NuT 22 w' A no l ∧ Sw A no c else en = .returned (.tuple #[.slice none 0 0, .bool false])
set_option maxRecDepth 20000 in
set_option maxHeartbeats 4000000 in
theorem eval8_as {w : World} {base top p : Nat} {N : List Nd} {O : List Pt} (n m : Nat) (hn : n ≤ 1000) (hm : m ≤ 1000) (n1 n2 n3 : ByteArray) (h : Bd w base top p N (I3 (n + 1) (m + 1) 1 n1 n2 n3) O) (hk : Lays (N3 (n + 1) (m + 1) 1) N) (hN : N.length ≤ 100000) {no : Nat} (hno : O.length = no) (hno2 : no ≤ 100) (hO : ∀ q ∈ O, q.bits.length ≤ 1000 ∧ PW N.length q.bits) {A1 : Option Addr} {k1 c1 x : Nat} (hx : Arg w A1 k1 c1 x) (sx : k1 ≤ 30000) {A2 : Option Addr} {k2 c2 y : Nat} (hy : Arg w A2 k2 c2 y) (sy : k2 ≤ 30000) (c : Bool) :
    Calls Try.prog 22 #[.pointer (some ⟨p, 0, none⟩), .int .i64 (n : Int), .int .i64 (m : Int), .slice A1 k1 c1, .slice A2 k2 c2, .bool c] w (E8 w no (O.all fun q => decide (q.bits ≠ [])) (outW N (I3 (n + 1) (m + 1) 1 n1 n2 n3) O [x % 2 ^ n, y % 2 ^ m, c.toNat])) := by
  have HX := Lib.hid hx
  have HY := Lib.hid hy
  have HB := Lib.hid h
  have HK := Lib.hid hk
  have HNO := Lib.hid hno
  have HO := Lib.hid hO
  have hk0 := hk
  clear hx hy h hk hno hO
  have hI0 := hk0.len
  rw [N3_len] at hI0
  have HLI : Hid ((I3 (n + 1) (m + 1) 1 n1 n2 n3).length = 3) := Lib.hid rfl
  obtain ⟨ok, hok⟩ : ∃ ok, (O.all fun q => decide (q.bits ≠ [])) = ok := ⟨_, rfl⟩
  have HOK : Hid (((I3 (n + 1) (m + 1) 1 n1 n2 n3) ++ O).all (bitsS N.length) = ok) := Lib.hid (by rw [← hok]; exact all_bits (by omega) (by omega) (by omega) hI0 fun q hq => (HO.out q hq).2)
  rw [hok]
  have HBB : Hid (∀ q ∈ I3 (n + 1) (m + 1) 1 n1 n2 n3 ++ O, q.bits.length ≤ 100000) := Lib.hid fun q hq => by
    rcases List.mem_append.1 hq with h | h
    · have := I3_len h
      omega
    · have := (HO.out q h).1
      omega
  clear hok hk0
  go_enter Try.func22, Try.ntmps22
  cases c
  case' false =>
    go_wp2_with fail
    obtain ⟨w1, e_w1⟩ : ∃ w', w.alloc (.cells #[] 127) = w' := ⟨_, rfl⟩
    have b1 : Below w.heap.size w w1 := e_w1 ▸ below_lit _ _
    have r1 : ResT w1 (some ⟨w.heap.size, 0, none⟩) 0 0 := e_w1 ▸ lit_res0 (Own.made w 127 [])
    have s1 : Sw (some ⟨w.heap.size, 0, none⟩) 0 0 := ⟨Nat.le_refl _, by unfold maxLen; omega, fun e => by cases e⟩
    rw [e_w1]
    clear e_w1
    obtain ⟨A0, eA⟩ : ∃ A0, some (⟨w.heap.size, 0, none⟩ : Addr) = A0 := ⟨_, rfl⟩
    rw [eA] at r1 s1 ⊢
    clear eA
    obtain ⟨kk, hkk⟩ : ∃ kk : Nat, kk = 0 := ⟨0, rfl⟩
    have hkb : kk ≤ 1 := by omega
    rw [show Value.slice A0 0 0 = Value.slice A0 kk kk by rw [hkk]]
    rw [← hkk] at s1
    replace r1 : ResT w1 A0 kk 0 := by rw [hkk]; exact r1
    clear hkk
  case' true =>
    go_wp2_with fail
    obtain ⟨w0, e_w0⟩ : ∃ w', w.alloc (.cells #[] 127) = w' := ⟨_, rfl⟩
    have b0 : Below w.heap.size w w0 := e_w0 ▸ below_lit _ _
    have s0 : w0.heap.size = w.heap.size + 1 := e_w0 ▸ size_lit w _ rfl
    rw [e_w0, ← s0]
    clear e_w0 s0
    obtain ⟨w1, e_w1⟩ : ∃ w', w0.alloc (.cells #[.int .u32 1] 127) = w' := ⟨_, rfl⟩
    have b1 : Below w.heap.size w w1 := Below.step b0 (e_w1 ▸ below_lit _ _)
    have r1 : ResT w1 (some ⟨w0.heap.size, 0, none⟩) 1 1 := e_w1 ▸ lit_res1 (Own.made w0 127 [.int .u32 1])
    have s1 : Sw (some ⟨w0.heap.size, 0, none⟩) 1 1 := ⟨Nat.le_refl _, by unfold maxLen; omega, fun e => by cases e⟩
    rw [e_w1]
    clear e_w1 b0
    obtain ⟨A0, eA⟩ : ∃ A0, some (⟨w0.heap.size, 0, none⟩ : Addr) = A0 := ⟨_, rfl⟩
    rw [eA] at r1 s1 ⊢
    clear eA
    obtain ⟨kk, hkk⟩ : ∃ kk : Nat, kk = 1 := ⟨1, rfl⟩
    have hkb : kk ≤ 1 := by omega
    rw [show Value.slice A0 1 1 = Value.slice A0 kk kk by rw [hkk]]
    rw [← hkk] at s1
    replace r1 : ResT w1 A0 kk 1 := by rw [hkk]; exact r1
    clear hkk
  all_goals (
    refine (net_b (HB.out.on b1) rfl HLI.out HNO.out (by omega) (by omega) (by omega) HBB.out).mono ?_
    rintro en w2 ⟨Bn, dn, Bi, di, Bo, do', rfl, m1, swn, m2, swi, m3, swo, b2⟩
    have X2 := HX.out.on (Below.step b1 b2)
    have HY2 := Lib.hid (HY.out.on (Below.step b1 b2))
    have R2 := Lib.hid (r1.on b2)
    have hNt : Nt w2 Bn N.length dn Bi 3 di Bo no do' N (I3 (n + 1) (m + 1) 1 n1 n2 n3) O := ⟨m1, m2, m3, swi, swo, by omega, by omega, fun q hq => by have := HBB.out q hq; omega⟩
    have HNT := Lib.hid hNt
    have B2 := Lib.hid (Below.step b1 b2)
    clear b1 b2 r1 hNt m1 m2 m3
    go_wp2_with fail
    refine (rof_arg7 X2 (by omega)).mono ?_
    rintro en w3 ⟨A3, n3', c3, rfl, hb3, b3⟩
    have s3 : n3' ≤ 1000000 := by rw [hb3.size]; have := arg_blenQ X2; omega
    have B3 := Lib.hid b3
    clear X2 b3
    go_wp2_with fail
    refine (rlow8_as hb3 s3 n (by omega)).mono ?_
    rintro en w4 ⟨A4, n4, c4, rfl, hb4, b4⟩
    have s4 : n4 ≤ 1000 := Nat.le_trans (br_len hb4 (Nat.mod_lt _ (Nat.two_pow_pos n))) hn
    have B4 := Lib.hid (Below.step B3.out b4)
    clear hb3 s3 b4 B3
    go_wp2_with fail
    refine (rparts_tag hb4 (by omega)).mono ?_
    rintro en w5 ⟨A5, n5, c5, rfl, hr5, hn5, ht5, sw5, b5⟩
    have n5b : n5 ≤ 30000 := by rw [← hb4.size] at hn5; omega
    have R5 := Lib.hid (hr5.tg ht5)
    have B5 := Lib.hid (Below.step B4.out b5)
    have Y5 := HY2.out.on B5.out
    clear hb4 b5 hr5 hn5 ht5 B4
    go_wp2_with fail
    refine (rof_arg7 Y5 (by omega)).mono ?_
    rintro en w6 ⟨A6, n6, c6, rfl, hb6, b6⟩
    have s6 : n6 ≤ 1000000 := by rw [hb6.size]; have := arg_blenQ Y5; omega
    have B6 := Lib.hid b6
    clear Y5 b6
    go_wp2_with fail
    refine (rlow8_as hb6 s6 m (by omega)).mono ?_
    rintro en w7 ⟨A7, n7, c7, rfl, hb7, b7⟩
    have s7 : n7 ≤ 1000 := Nat.le_trans (br_len hb7 (Nat.mod_lt _ (Nat.two_pow_pos m))) hm
    have B7 := Lib.hid (Below.step B6.out b7)
    clear hb6 s6 b7 B6
    go_wp2_with fail
    refine (rparts_tag hb7 (by omega)).mono ?_
    rintro en w8 ⟨A8, n8, c8, rfl, hr8, hn8, ht8, sw8, b8⟩
    have n8b : n8 ≤ 30000 := by rw [← hb7.size] at hn8; omega
    have R8 := Lib.hid (hr8.tg ht8)
    have B8 := Lib.hid (Below.step B7.out b8)
    clear hb7 b8 hr8 hn8 ht8 B7
    go_wp2_with fail
    obtain ⟨w9, e_w9⟩ : ∃ w', w8.alloc (.cells #[.slice A5 n5 c5, .slice A8 n8 c8, .slice A0 kk kk] 22) = w' := ⟨_, rfl⟩
    have b9 : Below w8.heap.size w8 w9 := e_w9 ▸ below_lit _ _
    have o9 := e_w9 ▸ Own.made w8 22 [.slice A5 n5 c5, .slice A8 n8 c8, .slice A0 kk kk]
    rw [e_w9]
    clear e_w9
    have B9 := Below.step B8.out b9
    have hnu := nub3 o9 ⟨(R5.out.on B9).arg sw5, n5b⟩ ⟨(R8.out.on b9).arg sw8, n8b⟩ ⟨(R2.out.on (Below.step B5.out B9)).arg s1, by omega⟩
    have hNt := HNT.out.on (Below.step B5.out B9)
    have BW := Lib.hid (Below.step B2.out (Below.step B5.out B9))
    clear o9 b9 B9 B8 B5 R2 R5 R8 B2
    cases ok
    · refine (eval_no hNt (by rw [HOK.out, Bool.and_false]) _ _ _).mono ?_
      rintro en w10 ⟨rfl, b10⟩
      have B10 := Lib.hid (Below.step BW.out b10)
      clear hnu hNt b10
      go_wp2_with fail
      first | go_ret2 | go_ret
      exact ⟨B10.out, rfl⟩
    · obtain ⟨hfit, _⟩ := in3 n1 n2 n3 (a := n + 1) (b := m + 1) (c := 1) (x := x % 2 ^ n) (y := y % 2 ^ m) (m := N.length) (Nat.lt_of_lt_of_le (Nat.mod_lt _ (Nat.two_pow_pos n)) (Nat.pow_le_pow_right (by omega) (by omega))) (Nat.lt_of_lt_of_le (Nat.mod_lt _ (Nat.two_pow_pos m)) (Nat.pow_le_pow_right (by omega) (by omega))) (by first | exact Nat.two_pow_pos 1 | decide) hI0
      refine (eval_as hNt HK.out.gd HOK.out HBB.out hnu ⟨Nat.le_refl _, by unfold maxLen; omega, fun e => by cases e⟩ (by omega) hfit).mono ?_
      rintro en w10 ⟨A, c, rfl, h10, s10, b10⟩
      have B10 := Lib.hid (Below.step BW.out b10)
      have H10 := Lib.hid h10
      clear hnu hNt b10 h10 hfit
      go_wp2_with fail
      first | go_ret2 | go_ret
      exact ⟨B10.out, A, c, rfl, H10.out, s10⟩)
end Go.Proofs.Ytcfmgoilncninaa
