
/-
  vlex: rows of tokens; Lex.
-/
import Derived.Test.YtkoacjnffbfgiaaDoorEe
import Derived.OwnWalk
import Derived.Laws.AppendOwnNone
namespace Go.Proofs.YtkoacjnffbfgiaaDoor
open Go.RowKit
set_option linter.unusedVariables false

theorem add_plain (b off j : Nat) : (⟨b, off, none⟩ : Addr).add j = ⟨b, off + j, none⟩ := by
  unfold Addr.add
  by_cases h : j = 0
  · simp [h]
  · simp [h]
theorem flat_at {α β : Type} (f : α → List β) (s : Nat) (hf : ∀ x, (f x).length = s) : ∀ (L : List α) (k i : Nat), i < s → (L.flatMap f)[k * s + i]? = (L[k]?).bind fun x => (f x)[i]? := by
  intro L
  induction L with
  | nil => intro k i hi; simp
  | cons a L ih =>
    intro k i hi
    rw [List.flatMap_cons]
    cases k with
    | zero => rw [Nat.zero_mul, Nat.zero_add, List.getElem?_append_left (by rw [hf]; exact hi)]; rfl
    | succ k =>
      rw [List.getElem?_append_right (by rw [hf, Nat.succ_mul]; omega), hf, show (k + 1) * s + i - s = k * s + i by rw [Nat.succ_mul]; omega, ih k i hi]
      rfl
theorem flat_len {α β : Type} (f : α → List β) (s : Nat) (hf : ∀ x, (f x).length = s) (L : List α) : (L.flatMap f).length = L.length * s := by
  induction L with
  | nil => simp
  | cons a L ih => rw [List.flatMap_cons, List.length_append, hf, ih, List.length_cons, Nat.succ_mul]; omega
/-- the elements of a slice's type. -/
def Elm (P : Program) (t e : TypeId) (size bytes : Nat) : Prop := P.underlying t = some (.slice e) ∧ ∃ i z, P.info? e = some i ∧ i.zero = some z ∧ i.size = size ∧ i.bytes = bytes ∧ z.cells.size = size ∧ ∀ u ∈ z.cells.toList, u.oneCell' = true
/-- append to a row of the call's own. -/
theorem wpList_app {P : Program} {w : World} {ops : Array Oper} {rest : List Oper} {o : Oper} {a : Act} {Q : Exit → Act → World → Prop} (hgd : o.guard = none) (s x : Operand) (t : TypeId)
    (ho : o.op = .call { callee := .builtin .append, args := #[s, x], argTypes := #[t, t] }) {e : TypeId} {size bytes : Nat} (hE : Elm P t e size bytes) (hsz : 0 < size) (hby : bytes ≤ 64)
    (base : Nat) (v : Value) (n : Nat) (xs : List Value) (hs : a.eval s = v) (hown : w.ownsRow base e size v n xs) {A : Option Addr} {m c : Nat} (news : List Value) (hx : a.eval x = .slice A m c) (hA : A = none → m = 0 ∧ c = 0)
    (hl : news.length = m * size) (hnews : ∀ ad, A = some ad → ∀ j u, news[j]? = some u → w.cell? (ad.add j) = some u) (h1 : ∀ u ∈ news, u.oneCell' = true) (hn : n + m ≤ 1000000) (hbase : base ≤ w.heap.size)
    (h : ∀ v' w', w'.ownsRow base e size v' (n + m) (xs ++ news) → w.grownBy w' v.ownBlock → wpList P ops Q rest (a.put o.dst v') w') : wpList P ops Q (o :: rest) a w := by
  obtain ⟨ht, i, z, hi, hz, h3, h4, h5, _⟩ := hE
  cases A with
  | none =>
    obtain ⟨rfl, rfl⟩ := hA rfl
    obtain rfl : news = [] := List.eq_nil_of_length_eq_zero (by simpa using hl)
    refine wpList_append_own_none hgd s x t ho base e i size ht hi v n xs hs hown hx ?_
    have := h v w (by simpa using hown) ⟨rfl, rfl, rfl, Nat.le_refl _, fun _ _ _ => rfl⟩
    exact this
  | some ad =>
    refine wpList_append_own w hgd s x t ho base e i z size bytes ht hi hz h3 h4 h5 hsz v n xs hs hown ad m c news hx hl (hnews ad rfl) h1 (by unfold maxLen; omega) ?_ hbase fun v' w' g1 g2 _ => h v' w' g1 g2
    have : (n + m) * bytes ≤ 1000000 * 64 := Nat.mul_le_mul hn hby
    omega
/-- a slice's frame: its length within its room; a nil one has none. -/
def Sw (A : Option Addr) (n c : Nat) : Prop := n ≤ c ∧ c ≤ maxLen ∧ (A = none → c = 0)
theorem row_at {w : World} {base : Nat} {e : TypeId} {size : Nat} {v : Value} {n : Nat} {xs : List Value} (h : w.ownsRow base e size v n xs) : ∃ A c, v = .slice A n c ∧ Sw A n c ∧ (∀ b off, A = some ⟨b, off, none⟩ → base ≤ b ∧ off = 0) ∧ ∀ j u, xs[j]? = some u → ∃ b, A = some ⟨b, 0, none⟩ ∧ b < w.heap.size ∧ w.cell? ⟨b, j, none⟩ = some u := by
  rcases h.2 with ⟨rfl, rfl⟩ | ⟨g, cap, cur, rfl, hb, hg, hc, hm, hs, ht⟩
  · exact ⟨none, 0, rfl, ⟨Nat.le_refl _, by unfold maxLen; omega, fun _ => rfl⟩, fun b off e => (by cases e), fun j u hu => by
      have := h.1
      rw [Nat.zero_mul] at this
      rw [List.eq_nil_of_length_eq_zero this] at hu
      simp at hu⟩
  · refine ⟨some ⟨g, 0, none⟩, cap, rfl, ⟨hc, hm, fun e => by cases e⟩, fun b off e => by cases e; exact ⟨hb, rfl⟩, fun j u hu => ⟨g, rfl, (Array.getElem?_eq_some_iff.1 hg).1, ?_⟩⟩
    rw [cell_of_row w g j cur e (0, 0) hg]
    rw [← ht, List.getElem?_take] at hu
    split at hu
    · simpa using hu
    · cases hu
theorem row_on {w w' : World} {base : Nat} {e : TypeId} {size : Nat} {v : Value} {n : Nat} {xs : List Value} (h : w.ownsRow base e size v n xs) (hb : Below w.heap.size w w') : w'.ownsRow base e size v n xs := by
  have hl := h.lt
  refine ⟨h.1, ?_⟩
  rcases h.2 with h1 | ⟨g, cap, cur, rfl, h2, h3, h4⟩
  · exact .inl h1
  · exact .inr ⟨g, cap, cur, rfl, h2, (hb.block g (hl g rfl).2).trans h3, h4⟩
/-- append of one element of many cells. -/
theorem wpList_pushT {P : Program} (w : World) {ops : Array Oper} {rest : List Oper} {o : Oper} {a : Act} {Q : Exit → Act → World → Prop} (hgd : o.guard = none) (s x : Operand) (t : TypeId)
    (ho : o.op = .call { callee := .builtin .append, args := #[s, x], argTypes := #[t, t] }) {e : TypeId} {size bytes : Nat} (hE : Elm P t e size bytes) (hsz : 0 < size) (hby : bytes ≤ 64)
    (base : Nat) (v : Value) (n : Nat) (xs : List Value) (hs : a.eval s = v) (hown : w.ownsRow base e size v n xs) (us : Array Value) (hu : us.size = size) (h1 : ∀ u ∈ us.toList, u.oneCell' = true) (hx : a.eval x = .slice (some ⟨w.heap.size, 0, none⟩) 1 1)
    (hn : n + 1 ≤ 1000000) (hbase : base ≤ w.heap.size)
    (h : ∀ v' w', w'.ownsRow base e size v' (n + 1) (xs ++ us.toList) → Below base w w' → wpList P ops Q rest (a.put o.dst v') w') : wpList P ops Q (o :: rest) a (w.alloc (.cells us e)) := by
  have b1 : Below w.heap.size w (w.alloc (.cells us e)) := (Below.refl _ _).alloc (Nat.le_refl _) _
  have hr1 := row_on hown b1
  refine wpList_app (A := some ⟨w.heap.size, 0, none⟩) (m := 1) (c := 1) hgd s x t ho hE hsz hby base v n xs hs hr1 us.toList hx (fun e => by cases e) (by rw [Nat.one_mul, ← hu]; simp) ?_ h1 hn (Nat.le_trans hbase b1.size) ?_
  · intro ad had j u' hj
    cases had
    rw [add_plain, Nat.zero_add, cell_of_row _ w.heap.size j us e (0, 0) (heap_alloc_new w _)]
    simpa using hj
  · intro v' w' hr hg
    refine h v' w' hr ?_
    exact (b1.mono hbase).grown hg (Nat.le_trans hbase b1.size) fun k hk => (hr1.lt k hk).1
def tkC (t : Tk) : List Value := [.int .i64 (t.k : Int), .string ⟨t.t.toArray⟩, .int .i64 (t.v : Int), .int .i64 (t.l : Int)]
theorem tkC_len (t : Tk) : (tkC t).length = 4 := rfl
/-- a token lies there. -/
def TkAt (w : World) (b o : Nat) (t : Tk) : Prop := b < w.heap.size ∧ w.cell? ⟨b, o, none⟩ = some (.int .i64 (t.k : Int)) ∧ w.cell? ⟨b, o + 1, none⟩ = some (.string ⟨t.t.toArray⟩) ∧ w.cell? ⟨b, o + 2, none⟩ = some (.int .i64 (t.v : Int)) ∧ w.cell? ⟨b, o + 3, none⟩ = some (.int .i64 (t.l : Int))
/-- a slice reads so. -/
def Ts (w : World) (A : Option Addr) (n : Nat) (L : List Tk) : Prop := L.length = n ∧ ∀ k x, L[k]? = some x → ∃ b off, A = some ⟨b, off, none⟩ ∧ TkAt w b (off + k * 4) x
theorem TkAt.on {w w' : World} {b o : Nat} {x : Tk} (h : TkAt w b o x) (hb : Below w.heap.size w w') : TkAt w' b o x :=
  ⟨Nat.lt_of_lt_of_le h.1 hb.size, (hb.cell (p := ⟨b, o, none⟩) h.1).trans h.2.1, (hb.cell (p := ⟨b, o + 1, none⟩) h.1).trans h.2.2.1, (hb.cell (p := ⟨b, o + 2, none⟩) h.1).trans h.2.2.2.1, (hb.cell (p := ⟨b, o + 3, none⟩) h.1).trans h.2.2.2.2⟩
theorem Ts.on {w w' : World} {A : Option Addr} {n : Nat} {L : List Tk} (h : Ts w A n L) (hb : Below w.heap.size w w') : Ts w' A n L :=
  ⟨h.1, fun k x hx => by
    obtain ⟨b, off, h1, h2⟩ := h.2 k x hx
    exact ⟨b, off, h1, h2.on hb⟩⟩
theorem row_ts {w : World} {base : Nat} {e : TypeId} {v : Value} {n : Nat} {R : List Tk} (h : w.ownsRow base e 4 v n (R.flatMap tkC)) : ∃ A c, v = .slice A n c ∧ Sw A n c ∧ Ts w A n R := by
  obtain ⟨A, c, h1, h2, h3, h4⟩ := row_at h
  have hl := h.1
  rw [flat_len tkC 4 tkC_len] at hl
  refine ⟨A, c, h1, h2, by omega, fun k r hr => ?_⟩
  have key : ∀ i u, i < 4 → (tkC r)[i]? = some u → ∃ b, A = some ⟨b, 0, none⟩ ∧ b < w.heap.size ∧ w.cell? ⟨b, k * 4 + i, none⟩ = some u := fun i u hi hu => h4 (k * 4 + i) u (by rw [flat_at tkC 4 tkC_len R k i hi, hr]; exact hu)
  obtain ⟨b, e1, e2, e3⟩ := key 0 _ (by omega) rfl
  obtain ⟨b1, f1, f2, f3⟩ := key 1 _ (by omega) rfl
  obtain ⟨b2, g1, g2, g3⟩ := key 2 _ (by omega) rfl
  obtain ⟨b3, i1, i2, i3⟩ := key 3 _ (by omega) rfl
  rw [e1] at f1 g1 i1
  cases f1
  cases g1
  cases i1
  exact ⟨b, 0, e1, e2, by rw [Nat.zero_add]; exact e3, by rw [Nat.zero_add]; exact f3, by rw [Nat.zero_add]; exact g3, by rw [Nat.zero_add]; exact i3⟩
theorem elm_tok : Elm Tryd.prog 23 32 4 40 := by
  obtain ⟨i, h1, h2, h3, h4⟩ := Go.info_parts (P := Tryd.prog) (e := 32) (z := .agg #[.int .i64 0, .string ⟨#[]⟩, .int .i64 0, .int .i64 0]) (size := 4) (bytes := 40) (by kernel_rfl)
  refine ⟨Tryd.underlying23, i, _, h1, h2, h3, h4, rfl, fun u hu => ?_⟩
  have hu2 : u ∈ (.agg #[.int .i64 0, .string ⟨#[]⟩, .int .i64 0, .int .i64 0] : Value).cells.toList := hu
  simp [Value.cells] at hu2
  rcases hu2 with rfl | rfl | rfl <;> rfl
theorem elm_rtok : Elm Tryd.prog 27 31 4 40 := by
  obtain ⟨i, h1, h2, h3, h4⟩ := Go.info_parts (P := Tryd.prog) (e := 31) (z := .agg #[.int .i64 0, .string ⟨#[]⟩, .int .i64 0, .int .i64 0]) (size := 4) (bytes := 40) (by kernel_rfl)
  refine ⟨Tryd.underlying27, i, _, h1, h2, h3, h4, rfl, fun u hu => ?_⟩
  have hu2 : u ∈ (.agg #[.int .i64 0, .string ⟨#[]⟩, .int .i64 0, .int .i64 0] : Value).cells.toList := hu
  simp [Value.cells] at hu2
  rcases hu2 with rfl | rfl | rfl <;> rfl
theorem one_tok (t : Tk) : ∀ u ∈ tkC t, u.oneCell' = true := by
  intro u h
  unfold tkC at h
  simp at h
  rcases h with rfl | rfl | rfl | rfl <;> rfl
/-- what Lex tells. -/
def LexP (w : World) (R : Except Nat (List Tk)) (e : Ending) (w' : World) : Prop := Below w.heap.size w w' ∧ match R with
  | .error n => e = .returned (.tuple #[.slice none 0 0, .int .i64 (n : Int), .int .i64 2])
  | .ok T => ∃ A n c, e = .returned (.tuple #[.slice A n c, .int .i64 0, .int .i64 0]) ∧ Ts w' A n T ∧ Sw A n c
/-- with these ahead. -/
def appS (acc : List Tk) : Except Nat (List Tk) → Except Nat (List Tk)
  | .error e => .error e
  | .ok T => .ok (acc ++ T)
theorem app_nil (R : Except Nat (List Tk)) : appS [] R = R := by cases R <;> rfl
theorem app_map (acc : List Tk) (t : Tk) (R : Except Nat (List Tk)) : appS acc (R.map (t :: ·)) = appS (acc ++ [t]) R := by
  cases R with
  | error e => rfl
  | ok T => show Except.ok (acc ++ t :: T) = Except.ok (acc ++ [t] ++ T); rw [List.append_assoc]; rfl
theorem drop_at {s : ByteArray} {j : Nat} (h : j < s.size) : s.data.toList.drop j = s[j] :: s.data.toList.drop (j + 1) := by
  have h1 : j < s.data.toList.length := by rw [size_list]; exact h
  rw [List.drop_eq_getElem_cons h1]
  have := at_list h
  rw [List.getElem?_eq_getElem h1] at this
  rw [Option.some.inj this]
end Go.Proofs.YtkoacjnffbfgiaaDoor
