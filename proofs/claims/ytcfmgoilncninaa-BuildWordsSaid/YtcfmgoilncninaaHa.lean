
/-
  Layer 7: values of nodes as lists; a simulator as it lies in memory.
-/
import Derived.Test.YtcfmgoilncninaaNC
import Derived.Test.YtcfmgoilncninaaGC
namespace Go.Proofs.Ytcfmgoilncninaa
open Go.RowKit
set_option linter.unusedVariables false
set_option maxRecDepth 4000

/-! values, by lists -/
def nd0 : Nd := ⟨0, 0, 0, 0⟩
def pt0 : Pt := ⟨⟨#[]⟩, []⟩
def atI (v : List Int) (q : Int) : Int := v.getD q.toNat 0
def bitI (x k : Nat) : Int := ((x / 2 ^ k % 2 : Nat) : Int)
def gvS (k a b c : Int) : Int := if k = 2 then 1 - a else if k = 3 then min a b else if k = 4 then max a b else if k = 5 then (a + b) % 2 else if c = 1 then b else a
def gateS (x : Nd) (v : List Int) : Int := gvS x.k (atI v x.a) (atI v x.b) (atI v x.c)
/-- what the first j places of a port bring in. -/
def setS (bs : List Int) (x : Nat) (v : List Int) : Nat → List Int
  | 0 => v
  | j + 1 => (setS bs x v j).set (bs.getD j 0).toNat (bitI x j)
def insS (I : List Pt) (xs : List Nat) (v : List Int) : Nat → List Int
  | 0 => v
  | i + 1 => setS (I.getD i pt0).bits (xs.getD i 0) (insS I xs v i) (I.getD i pt0).bits.length
def runS (N : List Nd) (G : List Int) (v : List Int) : Nat → List Int
  | 0 => v
  | j + 1 => (runS N G v j).set (G.getD j 0).toNat (gateS (N.getD (G.getD j 0).toNat nd0) (runS N G v j))
def nextS (N : List Nd) (R : List Int) (u v : List Int) : Nat → List Int
  | 0 => v
  | j + 1 => (nextS N R u v j).set (R.getD j 0).toNat (atI u (N.getD (R.getD j 0).toNat nd0).a)
def numS (bs : List Int) (v : List Int) : Nat → Nat
  | 0 => 0
  | k + 1 => numS bs v k + if atI v (bs.getD k 0) = 0 then 0 else 2 ^ k
def startS (x : Nd) : Int := if x.k = 0 then x.a else if x.k = 7 then x.b else 0
def now0 (N : List Nd) : List Int := N.map startS
def valsS (N : List Nd) (I : List Pt) (G : List Int) (v : List Int) (xs : List Nat) : List Int := runS N G (insS I xs v I.length) G.length
def outS (O : List Pt) (u : List Int) : List Nat := O.map fun p => numS p.bits u p.bits.length
def fitAt (I : List Pt) (xs : List Nat) (i : Nat) : Bool := decide (blen (xs.getD i 0) ≤ (I.getD i pt0).bits.length)
def fitsS (I : List Pt) (xs : List Nat) : Bool := decide (xs.length = I.length) && (List.range I.length).all (fitAt I xs)
def v01 (v : List Int) : Prop := ∀ x ∈ v, x = 0 ∨ x = 1
theorem v01.set {v : List Int} (h : v01 v) (k : Nat) {x : Int} (hx : x = 0 ∨ x = 1) : v01 (v.set k x) := fun y hy => by
  rcases List.mem_or_eq_of_mem_set hy with hy | rfl
  · exact h y hy
  · exact hx
theorem v01.at {v : List Int} (h : v01 v) (q : Int) : atI v q = 0 ∨ atI v q = 1 := by
  unfold atI
  rw [List.getD_eq_getElem?_getD]
  cases e : v[q.toNat]? with
  | none => exact .inl rfl
  | some x => exact h x (List.mem_of_getElem? e)
theorem bitI_01 (x k : Nat) : bitI x k = 0 ∨ bitI x k = 1 := by unfold bitI; omega
theorem gvS_01 (k : Int) {a b c : Int} (ha : a = 0 ∨ a = 1) (hb : b = 0 ∨ b = 1) : gvS k a b c = 0 ∨ gvS k a b c = 1 := by
  unfold gvS
  repeat' split
  all_goals omega
theorem setS_len (bs : List Int) (x : Nat) (v : List Int) : ∀ j, (setS bs x v j).length = v.length
  | 0 => rfl
  | j + 1 => by unfold setS; rw [List.length_set, setS_len bs x v j]
theorem setS_01 (bs : List Int) (x : Nat) {v : List Int} (h : v01 v) : ∀ j, v01 (setS bs x v j)
  | 0 => h
  | j + 1 => (setS_01 bs x h j).set _ (bitI_01 _ _)
theorem insS_len (I : List Pt) (xs : List Nat) (v : List Int) : ∀ j, (insS I xs v j).length = v.length
  | 0 => rfl
  | j + 1 => by unfold insS; rw [setS_len, insS_len I xs v j]
theorem insS_01 (I : List Pt) (xs : List Nat) {v : List Int} (h : v01 v) : ∀ j, v01 (insS I xs v j)
  | 0 => h
  | j + 1 => setS_01 _ _ (insS_01 I xs h j) _
theorem runS_len (N : List Nd) (G v : List Int) : ∀ j, (runS N G v j).length = v.length
  | 0 => rfl
  | j + 1 => by unfold runS; rw [List.length_set, runS_len N G v j]
theorem runS_01 (N : List Nd) (G : List Int) {v : List Int} (h : v01 v) : ∀ j, v01 (runS N G v j)
  | 0 => h
  | j + 1 => (runS_01 N G h j).set _ (gvS_01 _ ((runS_01 N G h j).at _) ((runS_01 N G h j).at _))
theorem nextS_len (N : List Nd) (R u v : List Int) : ∀ j, (nextS N R u v j).length = v.length
  | 0 => rfl
  | j + 1 => by unfold nextS; rw [List.length_set, nextS_len N R u v j]
theorem nextS_01 (N : List Nd) (R : List Int) {u v : List Int} (hu : v01 u) (h : v01 v) : ∀ j, v01 (nextS N R u v j)
  | 0 => h
  | j + 1 => (nextS_01 N R hu h j).set _ (hu.at _)
theorem valsS_len (N : List Nd) (I : List Pt) (G v : List Int) (xs : List Nat) : (valsS N I G v xs).length = v.length := by unfold valsS; rw [runS_len, insS_len]
theorem valsS_01 (N : List Nd) (I : List Pt) (G : List Int) {v : List Int} (xs : List Nat) (h : v01 v) : v01 (valsS N I G v xs) := runS_01 _ _ (insS_01 _ _ h _) _
theorem numS_lt (bs v : List Int) : ∀ k, numS bs v k < 2 ^ k
  | 0 => by unfold numS; omega
  | k + 1 => by
    have := numS_lt bs v k
    unfold numS
    rw [Nat.pow_succ]
    split <;> omega
theorem getD_of {α : Type} {L : List α} {k : Nat} {x d : α} (h : L[k]? = some x) : L.getD k d = x := by rw [List.getD_eq_getElem?_getD, h]; rfl
theorem v01_now {N : List Nd} {n : Int} (hf : N.all (formedS n) = true) : v01 (now0 N) := fun x hx => by
  unfold now0 at hx
  obtain ⟨y, hy, rfl⟩ := List.mem_map.1 hx
  have h1 := List.all_eq_true.1 hf y hy
  unfold formedS restS bitS at h1
  simp only [Bool.and_eq_true] at h1
  have h2 := h1.2.2.2
  unfold startS
  by_cases h0 : y.k = 0
  · rw [if_pos h0] at h2 ⊢
    simpa using h2
  · rw [if_neg h0] at h2 ⊢
    by_cases h7 : y.k = 7
    · rw [if_pos h7] at h2 ⊢
      simpa using h2
    · rw [if_neg h7]
      exact .inl rfl

/-! memory -/
def by8 (v : List Int) : List Value := v.map fun x : Int => .int .u8 x
theorem by8_at {v : List Int} {k : Nat} {x : Int} (h : v[k]? = some x) : (by8 v)[k]? = some (.int .u8 x) := by unfold by8; rw [List.getElem?_map, h]; rfl
theorem by8_set (v : List Int) (k : Nat) (x : Int) : (by8 v).set k (.int .u8 x) = by8 (v.set k x) := by unfold by8; rw [List.map_set]
theorem by8_len (v : List Int) : (by8 v).length = v.length := by simp [by8]
/-- a slice reads as these cells, one for each element. -/
def Rw (w : World) (A : Option Addr) (n : Nat) (vs : List Value) : Prop := vs.length = n ∧ ∀ k u, vs[k]? = some u → ∃ b off, A = some ⟨b, off, none⟩ ∧ b < w.heap.size ∧ w.cell? ⟨b, off + k, none⟩ = some u
def AdOk (ok : Nat → Prop) (A : Option Addr) : Prop := ∀ b off, A = some ⟨b, off, none⟩ → ok b
/-- blocks of this kind are as they were. -/
def Kp (ok : Nat → Prop) (w w' : World) : Prop := w.heap.size ≤ w'.heap.size ∧ ∀ b, b < w.heap.size → ok b → w'.heap[b]? = w.heap[b]?
section
variable {ok ok' : Nat → Prop} {w w' : World} {A : Option Addr} {n : Nat}
theorem Rw.on {vs : List Value} (h : Rw w A n vs) (hb : Below w.heap.size w w') : Rw w' A n vs := ⟨h.1, fun k u hu => by
  obtain ⟨b, off, h1, h2, h3⟩ := h.2 k u hu
  exact ⟨b, off, h1, Nat.lt_of_lt_of_le h2 hb.size, (hb.cell (p := ⟨b, off + k, none⟩) h2).trans h3⟩⟩
theorem Rw.at {vs : List Value} (h : Rw w A n vs) {k : Nat} (hk : k < n) : ∃ b off u, A = some ⟨b, off, none⟩ ∧ Hid (vs[k]? = some u) ∧ w.cell? ⟨b, off + k, none⟩ = some u := by
  obtain ⟨u, hu⟩ := look_ex h.1 hk
  obtain ⟨b, off, h1, h2, h3⟩ := h.2 k u hu
  exact ⟨b, off, u, h1, Lib.hid hu, h3⟩
theorem Rw.b8 {v : List Int} (h : Rw w A n (by8 v)) {k : Nat} (hk : k < n) : ∃ b off x, A = some ⟨b, off, none⟩ ∧ Hid (v[k]? = some x) ∧ w.cell? ⟨b, off + k, none⟩ = some (.int .u8 x) := by
  obtain ⟨x, hx⟩ := look_ex ((by8_len v).symm.trans h.1) hk
  obtain ⟨b, off, h1, h2, h3⟩ := h.2 k _ (by8_at hx)
  exact ⟨b, off, x, h1, Lib.hid hx, h3⟩
theorem Kp.cell (h : Kp ok w w') {b o : Nat} (hb : b < w.heap.size) (hk : ok b) : w'.cell? ⟨b, o, none⟩ = w.cell? ⟨b, o, none⟩ := World.cell?_of_block (w := w) (h.2 b hb hk)
theorem Kp.refl (ok : Nat → Prop) (w : World) : Kp ok w w := ⟨Nat.le_refl _, fun _ _ _ => rfl⟩
theorem Kp.trans {w'' : World} (h : Kp ok w w') (k : Kp ok' w' w'') (hk : ∀ b, b < w.heap.size → ok b → ok' b) : Kp ok w w'' :=
  ⟨Nat.le_trans h.1 k.1, fun b hb ho => (k.2 b (Nat.lt_of_lt_of_le hb h.1) (hk b hb ho)).trans (h.2 b hb ho)⟩
theorem Kp.below {B : Nat} (h : Below B w w') (hk : ∀ b, b < w.heap.size → ok b → b < B) : Kp ok w w' := ⟨h.size, fun b hb ho => h.block b (hk b hb ho)⟩
theorem Kp.grown {g : Nat} (h : w.grownBy w' (some g)) (hk : ∀ b, b < w.heap.size → ok b → b ≠ g) : Kp ok w w' := ⟨h.size, fun b hb ho => h.block b hb (fun e => hk b hb ho (by injection e))⟩
theorem Rw.keep {vs : List Value} (h : Rw w A n vs) (ha : AdOk ok A) (hk : Kp ok w w') : Rw w' A n vs := ⟨h.1, fun k u hu => by
  obtain ⟨b, off, h1, h2, h3⟩ := h.2 k u hu
  exact ⟨b, off, h1, Nat.lt_of_lt_of_le h2 hk.1, (hk.cell h2 (ha b off h1)).trans h3⟩⟩
theorem Is.keep {L : List Int} (h : Is w A n L) (ha : AdOk ok A) (hk : Kp ok w w') : Is w' A n L := ⟨h.1, fun k u hu => by
  obtain ⟨b, off, h1, h2, h3⟩ := h.2 k u hu
  exact ⟨b, off, h1, Nat.lt_of_lt_of_le h2 hk.1, (hk.cell h2 (ha b off h1)).trans h3⟩⟩
theorem Ns.keep {L : List Nd} (h : Ns w A n L) (ha : AdOk ok A) (hk : Kp ok w w') : Ns w' A n L := ⟨h.1, fun k u hu => by
  obtain ⟨b, off, h1, h2, h3, h4, h5, h6⟩ := h.2 k u hu
  have ho := ha b off h1
  exact ⟨b, off, h1, Nat.lt_of_lt_of_le h2 hk.1, (hk.cell h2 ho).trans h3, (hk.cell h2 ho).trans h4, (hk.cell h2 ho).trans h5, (hk.cell h2 ho).trans h6⟩⟩
def PsA (ok : Nat → Prop) (w : World) (A : Option Addr) (n : Nat) (L : List Pt) : Prop := L.length = n ∧ ∀ k p, L[k]? = some p → ∃ b off A' m c, A = some ⟨b, off, none⟩ ∧ ok b ∧ b < w.heap.size ∧ w.cell? ⟨b, off + k * 2, none⟩ = some (.string p.name) ∧ w.cell? ⟨b, off + k * 2 + 1, none⟩ = some (.slice A' m c) ∧ (m ≤ c ∧ (A' = none → c = 0)) ∧ c ≤ maxLen ∧ IsB ok w A' m p.bits
theorem PsA.ps {L : List Pt} (h : PsA ok w A n L) : Ps w A n L := ⟨h.1, fun k p hp => by
  obtain ⟨b, off, A', m, c, h1, h2, h3, h4, h5, h6, h7, h8⟩ := h.2 k p hp
  exact ⟨b, off, A', m, c, h1, h3, h4, h5, h6, h7, h8.is⟩⟩
theorem Ps.psA {L : List Pt} (h : Ps w A n L) (hk : ∀ b, b < w.heap.size → ok b) : PsA ok w A n L := ⟨h.1, fun k p hp => by
  obtain ⟨b, off, A', m, c, h1, h3, h4, h5, h6, h7, h8⟩ := h.2 k p hp
  exact ⟨b, off, A', m, c, h1, hk b h3, h3, h4, h5, h6, h7, h8.isB fun b off _ hb => hk b hb⟩⟩
theorem IsB.keep {L : List Int} (h : IsB ok w A n L) (hk : Kp ok w w') : IsB ok w' A n L := ⟨h.1, fun k x hx => by
  obtain ⟨b, off, h1, h2, h3, h4⟩ := h.2 k x hx
  exact ⟨b, off, h1, h2, Nat.lt_of_lt_of_le h3 hk.1, (hk.cell h3 h2).trans h4⟩⟩
theorem PsA.keep {L : List Pt} (h : PsA ok w A n L) (hk : Kp ok w w') : PsA ok w' A n L := ⟨h.1, fun k p hp => by
  obtain ⟨b, off, A', m, c, h1, h2, h3, h4, h5, h6, h7, h8⟩ := h.2 k p hp
  exact ⟨b, off, A', m, c, h1, h2, Nat.lt_of_lt_of_le h3 hk.1, (hk.cell h3 h2).trans h4, (hk.cell h3 h2).trans h5, h6, h7, h8.keep hk⟩⟩
theorem AdOk.none_ : AdOk ok none := fun b off e => by cases e
end
theorem Rw.nil_ {w : World} {A : Option Addr} : Rw w A 0 [] := ⟨rfl, fun k u h => by simp at h⟩
theorem Own.rw {w : World} {g : Nat} {t : TypeId} {cs : List Value} (h : Own w g t cs) : Rw w (some ⟨g, 0, none⟩) cs.length cs := ⟨rfl, fun k u hu => ⟨g, 0, rfl, h.lt, by rw [Nat.zero_add]; exact (h.cell k).trans hu⟩⟩
theorem Own.b8 {w : World} {g : Nat} {v : List Int} {n : Nat} (h : Own w g 5 (by8 v)) (hn : v.length = n) : Rw w (some ⟨g, 0, none⟩) n (by8 v) := by
  have := h.rw
  rwa [by8_len, hn] at this
theorem row_rw {w : World} {base : Nat} {e : TypeId} {v : Value} {n : Nat} {xs : List Value} (h : w.ownsRow base e 1 v n xs) : ∃ A c, v = .slice A n c ∧ Sw A n c ∧ (∀ b off, A = some ⟨b, off, none⟩ → base ≤ b ∧ off = 0) ∧ Rw w A n xs := by
  obtain ⟨A, c, h1, h2, h3, h4⟩ := row_at h
  have hl : xs.length = n := by rw [h.1, Nat.mul_one]
  exact ⟨A, c, h1, h2, h3, hl, fun k u hu => by
    obtain ⟨b, e, hb, hc⟩ := h4 k u hu
    exact ⟨b, 0, e, hb, by rw [Nat.zero_add]; exact hc⟩⟩

/-- a simulator: where it lies, and what stays. -/
structure Si where
  wb : World
  p : Nat
  An : Option Addr
  nn : Nat
  cn : Nat
  Ai : Option Addr
  ni : Nat
  ci : Nat
  Ao : Option Addr
  no : Nat
  co : Nat
  Ag : Option Addr
  ng : Nat
  cg : Nat
  Ar : Option Addr
  nr : Nat
  cr : Nat
  N : List Nd
  I : List Pt
  O : List Pt
  G : List Int
  R : List Int
/-- a gate of the net, those it uses being places. -/
def gateOk (N : List Nd) (q : Int) : Prop := 0 ≤ q ∧ q.toNat < N.length ∧ (N.getD q.toNat nd0).k ≠ 0 ∧ (N.getD q.toNat nd0).k ≠ 1 ∧ (N.getD q.toNat nd0).k ≠ 7
def regOk (N : List Nd) (q : Int) : Prop := 0 ≤ q ∧ q.toNat < N.length ∧ (N.getD q.toNat nd0).k = 7
/-- what holds of a simulator always. -/
structure Si.Ok (B : Nat) (s : Si) : Prop where
  hp : s.p < s.wb.heap.size
  low : B ≤ s.p
  n : Ns s.wb s.An s.nn s.N
  na : AdOk (· ≠ s.p) s.An
  i : PsA (· ≠ s.p) s.wb s.Ai s.ni s.I
  o : PsA (· ≠ s.p) s.wb s.Ao s.no s.O
  g : Is s.wb s.Ag s.ng s.G
  ga : AdOk (· ≠ s.p) s.Ag
  r : Is s.wb s.Ar s.nr s.R
  ra : AdOk (· ≠ s.p) s.Ar
  hn : s.nn ≤ 1000
  hi : s.ni ≤ 1000
  ho : s.no ≤ 1000
  hg : s.ng ≤ 1000
  hr : s.nr ≤ 1000
  hb : ∀ p ∈ s.I ++ s.O, p.bits.length ≤ 100000
  f : s.N.all (formedS s.nn) = true
  pl : ∀ p ∈ s.I ++ s.O, ∀ q ∈ p.bits, 0 ≤ q ∧ q.toNat < s.nn
  gs : ∀ q ∈ s.G, gateOk s.N q
  rs : ∀ q ∈ s.R, regOk s.N q
section
variable {B : Nat} {s : Si} {w w' : World} {g : Nat} {v : List Int}
end
/-- a row of numbers: how its elements lie, and what they are. -/
structure Sn where
  A : Option Addr
  m : Nat
  c : Nat
  x : Nat
def snC (r : Sn) : Value := .slice r.A r.m r.c
/-- numbers come in. -/
def Nu (w : World) (A : Option Addr) (n : Nat) (xs : List Nat) : Prop := ∃ rs : List Sn, Rw w A n (rs.map snC) ∧ rs.map Sn.x = xs ∧ ∀ r ∈ rs, Arg w r.A r.m r.c r.x ∧ r.m ≤ 140737488351232
theorem Nu.on {w w' : World} {A : Option Addr} {n : Nat} {xs : List Nat} (h : Nu w A n xs) (hb : Below w.heap.size w w') : Nu w' A n xs := by
  obtain ⟨rs, h1, h2, h3⟩ := h
  exact ⟨rs, h1.on hb, h2, fun r hr => ⟨(h3 r hr).1.on hb, (h3 r hr).2⟩⟩
theorem Nu.len {w : World} {A : Option Addr} {n : Nat} {xs : List Nat} (h : Nu w A n xs) : xs.length = n := by
  obtain ⟨rs, h1, rfl, h3⟩ := h
  have := h1.1
  simpa using this
theorem Nu.at {w : World} {A : Option Addr} {n : Nat} {xs : List Nat} (h : Nu w A n xs) {k : Nat} (hk : k < n) : ∃ b off A' m c x, A = some ⟨b, off, none⟩ ∧ b < w.heap.size ∧ Hid (xs[k]? = some x) ∧ w.cell? ⟨b, off + k, none⟩ = some (.slice A' m c) ∧ Arg w A' m c x ∧ m ≤ 140737488351232 := by
  obtain ⟨rs, h1, rfl, h3⟩ := h
  obtain ⟨r, hr⟩ := look_ex (by have := h1.1; simpa using this) hk
  obtain ⟨b, off, e, hb, hc⟩ := h1.2 k (snC r) (by rw [List.getElem?_map, hr]; rfl)
  exact ⟨b, off, r.A, r.m, r.c, r.x, e, hb, Lib.hid (by rw [List.getElem?_map, hr]; rfl), hc, h3 r (List.mem_of_getElem? hr)⟩
end Go.Proofs.Ytcfmgoilncninaa
