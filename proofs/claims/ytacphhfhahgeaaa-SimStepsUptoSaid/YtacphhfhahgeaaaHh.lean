
/-
  sim: Peek, Step, New.
-/
import Derived.Test.YtacphhfhahgeaaaHg
namespace Go.Proofs.Ytacphhfhahgeaaa
open Go.RowKit
set_option linter.unusedVariables false
set_option maxRecDepth 4000

set_option maxHeartbeats 1000000 in
theorem peek_as {B : Nat} {s : Si} {w : World} {g : Nat} {v : List Int} (k : s.Ok B) (h : s.At w g v) {A : Option Addr} {n c : Nat} {xs : List Nat} (hx : Nu w A n xs) (hn : n ≤ 140737488351232) (hf : fitsS s.I xs = true) :
    Calls Try.prog 24 #[.pointer (some ⟨s.p, 0, none⟩), .slice A n c] w fun en w' => ∃ A' m c', en = .returned (.tuple #[.slice A' m c', .int .i64 0]) ∧ NuT 55 w' A' m (outS s.O (valsS s.N s.I s.G v xs)) ∧ Sw A' m c' ∧ Below w.heap.size w w' := by
  go_enter Try.func24, Try.ntmps24
  go_wp2_with fail
  refine (fits_as k h hx hn true hf).mono ?_
  rintro en w1 ⟨rfl, b1⟩
  go_wp2_with fail
  refine (values_as k (h.on b1) (hx.on b1) hf).mono ?_
  rintro en w2 ⟨A2, c2, rfl, sw2, hl2, hr2, b2⟩
  go_wp2_with fail
  refine (outs_as k ((h.on b1).on b2) hr2).mono ?_
  rintro en w3 ⟨A3, m3, c3, rfl, hr3, sw3, b3⟩
  go_wp2_with fail
  go_ret2
  exact ⟨A3, m3, c3, rfl, hr3, sw3, Below.step (Below.step b1 b2) b3⟩
theorem peek_no {B : Nat} {s : Si} {w : World} {g : Nat} {v : List Int} (k : s.Ok B) (h : s.At w g v) {A : Option Addr} {n c : Nat} {xs : List Nat} (hx : Nu w A n xs) (hn : n ≤ 140737488351232) (hf : fitsS s.I xs = false) :
    Calls Try.prog 24 #[.pointer (some ⟨s.p, 0, none⟩), .slice A n c] w fun en w' => en = .returned (.tuple #[.slice none 0 0, .int .i64 5]) ∧ Below w.heap.size w w' := by
  go_enter Try.func24, Try.ntmps24
  go_wp2_with fail
  refine (fits_as k h hx hn false hf).mono ?_
  rintro en w1 ⟨rfl, b1⟩
  go_wp2_with fail
  go_ret2
  exact ⟨rfl, b1⟩
theorem step_no {B : Nat} {s : Si} {w : World} {g : Nat} {v : List Int} (k : s.Ok B) (h : s.At w g v) {A : Option Addr} {n c : Nat} {xs : List Nat} (hx : Nu w A n xs) (hn : n ≤ 140737488351232) (hf : fitsS s.I xs = false) :
    Calls Try.prog 23 #[.pointer (some ⟨s.p, 0, none⟩), .slice A n c] w fun en w' => en = .returned (.tuple #[.slice none 0 0, .int .i64 5]) ∧ Below w.heap.size w w' := by
  go_enter Try.func23, Try.ntmps23
  go_wp2_with fail
  refine (fits_as k h hx hn false hf).mono ?_
  rintro en w1 ⟨rfl, b1⟩
  go_wp2_with fail
  go_ret2
  exact ⟨rfl, b1⟩
set_option maxHeartbeats 1000000 in
theorem simStep_as {B : Nat} {s : Si} {w : World} {g : Nat} {v : List Int} (k : s.Ok B) (h : s.At w g v) {A : Option Addr} {n c : Nat} {xs : List Nat} (hx : Nu w A n xs) (hn : n ≤ 140737488351232) (hf : fitsS s.I xs = true) :
    Calls Try.prog 23 #[.pointer (some ⟨s.p, 0, none⟩), .slice A n c] w fun en w' => ∃ A' m c', en = .returned (.tuple #[.slice A' m c', .int .i64 0]) ∧ NuT 55 w' A' m (outS s.O (valsS s.N s.I s.G v xs)) ∧ Sw A' m c' ∧ s.At w' g (nextS s.N s.R (valsS s.N s.I s.G v xs) (valsS s.N s.I s.G v xs) s.R.length) ∧ w.grownBy w' (some g) := by
  have H01 : Hid (v01 (valsS s.N s.I s.G v xs)) := Lib.hid (valsS_01 _ _ _ _ h.bin)
  have hgl := h.now.lt
  go_enter Try.func23, Try.ntmps23
  go_wp2_with fail
  refine (fits_as k h hx hn true hf).mono ?_
  rintro en w1 ⟨rfl, b1⟩
  go_wp2_with fail
  refine (values_as k (h.on b1) (hx.on b1) hf).mono ?_
  rintro en w2 ⟨A2, c2, rfl, sw2, hl2, hr2, b2⟩
  have hne : ∀ b off, A2 = some ⟨b, off, none⟩ → b ≠ g := fun b off e => by
    have := (hl2 b off e).1
    have := b1.size
    omega
  have HNE := Lib.hid hne
  clear hne hl2
  go_wp2_with fail
  refine (clock_as k ((h.on b1).on b2) hr2 HNE.out H01.out).mono ?_
  rintro en w3 ⟨⟨r, rfl⟩, h3, g3⟩
  have hr3 := hr2.far HNE.out g3
  go_wp2_with fail
  refine (outs_as k h3 hr3).mono ?_
  rintro en w4 ⟨A4, m4, c4, rfl, hr4, sw4, b4⟩
  go_wp2_with fail
  go_ret2
  exact ⟨A4, m4, c4, rfl, hr4, sw4, h3.on b4, Gb.trans (Gb.trans (Gb.of _ (Below.step b1 b2)) g3) (Gb.of _ b4)⟩
theorem resetAt_as {B : Nat} {s : Si} {w : World} {g : Nat} {v : List Int} (k : s.Ok B) (h : s.At w g v) :
    Calls Try.prog 20 #[.pointer (some ⟨s.p, 0, none⟩)] w fun en w' => (∃ u, en = .returned u) ∧ ∃ g', s.At w' g' (now0 s.N) ∧ w.grownBy w' (some s.p) := by
  refine (reset_as h.var (h.ns k) k.na k.hn k.f).mono ?_
  rintro en w' ⟨h1, g', h2, h3, h4, h5⟩
  refine ⟨h1, g', ⟨h3, h4, ?_, Nat.le_trans h.kp.1 h2, h.kp.trans (ok' := (· ≠ s.p)) (Kp.grown h5 fun b _ e => e) (fun b _ e => e), v01_now k.f⟩, h5⟩
  unfold now0
  rw [List.length_map]
  exact k.n.1
/-- append(out, x) of one cell: where the row lies then. -/
theorem wpList_push3 {P : Program} (w : World) {ops : Array Oper} {rest : List Oper} {o : Oper} {a : Act} {Q : Exit → Act → World → Prop} (hgd : o.guard = none) (s x : Operand) (t : TypeId)
    (ho : o.op = .call { callee := .builtin .append, args := #[s, x], argTypes := #[t, t] }) {e : TypeId} {bytes : Nat} (hE : Elm P t e 1 bytes) (hby : bytes ≤ 64)
    (base : Nat) (v : Value) (xs : List Value) (hs : a.eval s = v) (hown : Grow w base e v xs) (u : Value) (hu : u.oneCell' = true) (hx : a.eval x = .slice (some ⟨w.heap.size, 0, none⟩) 1 1)
    (hn : xs.length + 1 ≤ 1000000) (hbase : base ≤ w.heap.size)
    (h : ∀ g cap w', Grow w' base e (.slice (some ⟨g, 0, none⟩) (xs.length + 1) cap) (xs ++ [u]) → w.grownBy w' v.ownBlock → (v.ownBlock = some g ∨ w.heap.size ≤ g) → wpList P ops Q rest (a.put o.dst (.slice (some ⟨g, 0, none⟩) (xs.length + 1) cap)) w') : wpList P ops Q (o :: rest) a (w.alloc (.cells #[u] e)) := by
  have b1 : Below w.heap.size w (w.alloc (.cells #[u] e)) := below_lit _ _
  have hz : Bx (w.alloc (.cells #[u] e)) w.heap.size [u] := Bx.made_k w rfl #[u] e
  have hr1 := row_on hown b1
  obtain ⟨ht, i, z, hi, hz0, h3, h4, h5, _⟩ := hE
  refine wpList_append_lies _ hgd s x t ho base e i z 1 bytes ht hi hz0 h3 h4 h5 (by omega) v xs.length xs hs hr1 ⟨w.heap.size, 0, none⟩ 1 1 [u] hx rfl ?_ (by intro u' hu'; rw [List.mem_singleton.1 hu']; exact hu) (by omega) (by unfold maxLen; omega) ?_ (Nat.le_trans hbase b1.size) _ rfl ?_
  · intro j u' hj
    rw [add_plain, Nat.zero_add]
    exact hz.2 j u' hj
  · have : (xs.length + 1) * bytes ≤ 1000000 * 64 := Nat.mul_le_mul hn hby
    omega
  · intro g cap w' hg hG hgl _
    refine h g cap w' (by unfold Grow; rw [List.length_append]; exact hg) (Gb.trans (Gb.of _ b1) hG) ?_
    rcases hgl with e | e
    · exact .inl e
    · right
      rw [e]
      exact b1.size
theorem elm_int7 : Elm Try.prog 34 3 1 8 := elm_int
set_option maxHeartbeats 1000000 in
theorem new_no {An Ai Ao : Option Addr} {nn cn ni ci no co : Nat} {N : List Nd} {I O : List Pt} {w : World} (h : Nt w An nn cn Ai ni ci Ao no co N I O) {d : Option (List Nat)} {e : Int} (hl : levelS N I O = (d, e)) (he : (e != 0) = true) :
    Calls Try.prog 17 #[.agg #[.slice An nn cn, .slice Ai ni ci, .slice Ao no co]] w fun en w' => en = .returned (.tuple #[.pointer none, .int .i64 e]) ∧ Below w.heap.size w w' := by
  have HL := Lib.hid hl
  clear hl
  go_enter Try.func17, Try.ntmps17
  go_upto_region 1 with fail
  obtain ⟨w1, e_w1⟩ : ∃ w', w.alloc (.cells #[.slice An nn cn, .slice Ai ni ci, .slice Ao no co] 25) = w' := ⟨_, rfl⟩
  have z0 : Bx w1 w.heap.size [.slice An nn cn, .slice Ai ni ci, .slice Ao no co] := e_w1 ▸ Bx.made_k w rfl #[.slice An nn cn, .slice Ai ni ci, .slice Ao no co] 25
  have b1 : Below w.heap.size w w1 := e_w1 ▸ below_lit _ _
  rw [e_w1]
  clear e_w1
  have z0c0 := z0.2 0 _ rfl
  have z0c1 := z0.2 1 _ rfl
  have z0c2 := z0.2 2 _ rfl
  go_wp2_with fail
  refine (order_as (h.on b1) HL.out).mono ?_
  rintro en w2 ⟨A2, m2, c2, rfl, hi2, _, b2⟩
  go_wp2_with fail
  go_ret2
  exact ⟨rfl, Below.step b1 b2⟩
/-- a row's block. -/
theorem Grow.own {w : World} {base : Nat} {t : TypeId} {v : Value} {vs : List Value} (h : Grow w base t v vs) : ∀ b, v.ownBlock = some b → base ≤ b ∧ b < w.heap.size := fun b e => h.lt b e
theorem Grow.kept {w w' : World} {base : Nat} {t : TypeId} {v : Value} {vs : List Value} {r : Option Nat} (h : Grow w base t v vs) (hg : w.grownBy w' r) (hne : ∀ b, v.ownBlock = some b → r ≠ some b) : Grow w' base t v vs := by
  unfold Grow at h ⊢
  refine World.ownsRow.kept h hg ?_
  cases e : v.ownBlock with
  | none => exact .inl rfl
  | some b => exact .inr fun e2 => hne b e e2.symm
def gj (N : List Nd) (L : List Nat) (j : Nat) : List Int := nI (gatesS N (L.take j))
def rj (N : List Nd) (L : List Nat) (j : Nat) : List Int := nI (regsS N (L.take j))
theorem gj_in {N : List Nd} {L : List Nat} {j q : Nat} (hq : L[j]? = some q) (h : isGs (N.getD q nd0).k = true) : gj N L (j + 1) = gj N L j ++ [(q : Int)] := by
  rw [List.getD_eq_getElem?_getD] at h
  unfold gj gatesS nI
  rw [List.take_add_one, hq, List.filter_append, List.map_append]
  simp [h]
theorem gj_out {N : List Nd} {L : List Nat} {j q : Nat} (hq : L[j]? = some q) (h : isGs (N.getD q nd0).k = false) : gj N L (j + 1) = gj N L j := by
  rw [List.getD_eq_getElem?_getD] at h
  unfold gj gatesS nI
  rw [List.take_add_one, hq, List.filter_append, List.map_append]
  simp [h]
theorem rj_in {N : List Nd} {L : List Nat} {j q : Nat} (hq : L[j]? = some q) (h : (N.getD q nd0).k = 7) : rj N L (j + 1) = rj N L j ++ [(q : Int)] := by
  rw [List.getD_eq_getElem?_getD] at h
  unfold rj regsS nI
  rw [List.take_add_one, hq, List.filter_append, List.map_append]
  simp [h]
theorem rj_out {N : List Nd} {L : List Nat} {j q : Nat} (hq : L[j]? = some q) (h : (N.getD q nd0).k ≠ 7) : rj N L (j + 1) = rj N L j := by
  rw [List.getD_eq_getElem?_getD] at h
  unfold rj regsS nI
  rw [List.take_add_one, hq, List.filter_append, List.map_append]
  simp [h]
theorem gj_len (N : List Nd) (L : List Nat) (j : Nat) : (ivs (gj N L j)).length ≤ j := by
  rw [ivs_len7]
  unfold gj nI gatesS
  rw [List.length_map]
  exact Nat.le_trans (List.length_filter_le _ _) (by rw [List.length_take]; omega)
theorem rj_len (N : List Nd) (L : List Nat) (j : Nat) : (ivs (rj N L j)).length ≤ j := by
  rw [ivs_len7]
  unfold rj nI regsS
  rw [List.length_map]
  exact Nat.le_trans (List.length_filter_le _ _) (by rw [List.length_take]; omega)
/-- what New has made by now: the variable, and two rows. -/
structure Nw (w3 : World) (p : Nat) (L : List Value) (N : List Nd) (O : List Nat) (j : Nat) (gv rv : Value) (w : World) : Prop where
  var : Own w p 117 (L ++ [gv, rv, .slice none 0 0])
  g : Grow w w3.heap.size 3 gv (ivs (gj N O j))
  r : Grow w w3.heap.size 3 rv (ivs (rj N O j))
  ne : ∀ b, gv.ownBlock = some b → rv.ownBlock ≠ some b
  gb : w3.grownBy w (some p)
theorem Nw.on {w3 w w' : World} {p j : Nat} {L : List Value} {N : List Nd} {O : List Nat} {gv rv : Value} (h : Nw w3 p L N O j gv rv w) (hb : Below w.heap.size w w') : Nw w3 p L N O j gv rv w' :=
  ⟨h.var.below hb h.var.lt, row_on h.g hb, row_on h.r hb, h.ne, Gb.trans h.gb (Gb.of _ hb)⟩
theorem Nw.pushG {w3 w w' : World} {p j g cap n : Nat} {a b c : Value} {N : List Nd} {O : List Nat} {gv rv : Value} {q : Int} (h : Nw w3 p [a, b, c] N O j gv rv w) (hp : p < w3.heap.size) (e1 : gj N O (j + 1) = gj N O j ++ [q]) (e2 : rj N O (j + 1) = rj N O j) (hg : Grow w' w3.heap.size 3 (.slice (some ⟨g, 0, none⟩) n cap) (ivs (gj N O j) ++ [.int .i64 q])) (hG : w.grownBy w' gv.ownBlock) (hl : gv.ownBlock = some g ∨ w.heap.size ≤ g) :
    Nw w3 p [a, b, c] N O (j + 1) (.slice (some ⟨g, 0, none⟩) n cap) rv (w'.setCell ⟨p, 3, none⟩ (.slice (some ⟨g, 0, none⟩) n cap)) := by
  have hgp : ∀ b, gv.ownBlock = some b → b ≠ p := fun b e => by have := (h.g.own b e).1; omega
  have hv := h.var.kept hG (fun e => hgp p e.symm rfl)
  have hg3 := (hg.own g rfl).1
  have hr2 : Grow w' w3.heap.size 3 rv (ivs (rj N O j)) := h.r.kept hG fun b e e2 => h.ne b e2 e
  refine ⟨?_, ?_, ?_, fun b e => ?_, ?_⟩
  · exact hv.put 3 _
  · rw [e1, ← ivs_snoc]
    exact hg.kept (grown_set w' ⟨p, 3, none⟩ _) fun b e e2 => by
      injection e2 with e2
      injection e with e
      have e2 : p = b := e2
      have e : g = b := e
      omega
  · rw [e2]
    exact hr2.kept (grown_set w' ⟨p, 3, none⟩ _) fun b e e2 => by
      injection e2 with e2
      have : p = b := e2
      have := (hr2.own b e).1
      omega
  · have e : g = b := by injection e
    subst e
    rcases hl with e | e
    · exact h.ne g e
    · intro e3
      have := (h.r.own g e3).2
      omega
  · refine Gb.trans ?_ (grown_set w' ⟨p, 3, none⟩ _)
    refine ⟨hG.os.trans h.gb.os, hG.tape.trans h.gb.tape, hG.output.trans h.gb.output, Nat.le_trans h.gb.size hG.size, fun b hb hne => (hG.block b (Nat.lt_of_lt_of_le hb h.gb.size) (fun e => ?_)).trans (h.gb.block b hb hne)⟩
    have := (h.g.own b e.symm).1
    omega
theorem Nw.pushR {w3 w w' : World} {p j g cap n : Nat} {a b c : Value} {N : List Nd} {O : List Nat} {gv rv : Value} {q : Int} (h : Nw w3 p [a, b, c] N O j gv rv w) (hp : p < w3.heap.size) (e1 : rj N O (j + 1) = rj N O j ++ [q]) (e2 : gj N O (j + 1) = gj N O j) (hg : Grow w' w3.heap.size 3 (.slice (some ⟨g, 0, none⟩) n cap) (ivs (rj N O j) ++ [.int .i64 q])) (hG : w.grownBy w' rv.ownBlock) (hl : rv.ownBlock = some g ∨ w.heap.size ≤ g) :
    Nw w3 p [a, b, c] N O (j + 1) gv (.slice (some ⟨g, 0, none⟩) n cap) (w'.setCell ⟨p, 4, none⟩ (.slice (some ⟨g, 0, none⟩) n cap)) := by
  have hgp : ∀ b, rv.ownBlock = some b → b ≠ p := fun b e => by have := (h.r.own b e).1; omega
  have hv := h.var.kept hG (fun e => hgp p e.symm rfl)
  have hg3 := (hg.own g rfl).1
  have hr2 : Grow w' w3.heap.size 3 gv (ivs (gj N O j)) := h.g.kept hG fun b e e2 => h.ne b e e2
  refine ⟨?_, ?_, ?_, fun b e => ?_, ?_⟩
  · exact hv.put 4 _
  · rw [e2]
    exact hr2.kept (grown_set w' ⟨p, 4, none⟩ _) fun b e e2 => by
      injection e2 with e2
      have : p = b := e2
      have := (hr2.own b e).1
      omega
  · rw [e1, ← ivs_snoc]
    exact hg.kept (grown_set w' ⟨p, 4, none⟩ _) fun b e e2 => by
      injection e2 with e2
      injection e with e
      have e2 : p = b := e2
      have e : g = b := e
      omega
  · intro e3
    have e : g = b := by injection e3
    subst e
    rcases hl with e | e
    · exact h.ne g ‹_› e
    · have := (h.g.own g ‹_›).2
      omega
  · refine Gb.trans ?_ (grown_set w' ⟨p, 4, none⟩ _)
    refine ⟨hG.os.trans h.gb.os, hG.tape.trans h.gb.tape, hG.output.trans h.gb.output, Nat.le_trans h.gb.size hG.size, fun b hb hne => (hG.block b (Nat.lt_of_lt_of_le hb h.gb.size) (fun e => ?_)).trans (h.gb.block b hb hne)⟩
    have := (h.r.own b e.symm).1
    omega
theorem gates_ok {N : List Nd} {f : Nat → Nat} {L : List Nat} (h : Od N f L) : ∀ q ∈ nI (gatesS N L), gateOk N q := fun q hq => by
  unfold nI gatesS at hq
  obtain ⟨r, hr, rfl⟩ := List.mem_map.1 hq
  obtain ⟨h1, h2⟩ := List.mem_filter.1 hr
  have h3 := (h.mem r).1 h1
  unfold isGs at h2
  simp only [Bool.and_eq_true, decide_eq_true_eq] at h2
  exact ⟨by omega, by rw [Int.toNat_natCast]; exact h3, by rw [Int.toNat_natCast]; exact h2.1, by rw [Int.toNat_natCast]; exact h2.2.1, by rw [Int.toNat_natCast]; exact h2.2.2⟩
theorem regs_ok {N : List Nd} {f : Nat → Nat} {L : List Nat} (h : Od N f L) : ∀ q ∈ nI (regsS N L), regOk N q := fun q hq => by
  unfold nI regsS at hq
  obtain ⟨r, hr, rfl⟩ := List.mem_map.1 hq
  obtain ⟨h1, h2⟩ := List.mem_filter.1 hr
  have h3 := (h.mem r).1 h1
  exact ⟨by omega, by rw [Int.toNat_natCast]; exact h3, by rw [Int.toNat_natCast]; exact of_decide_eq_true h2⟩
theorem places_ok {n : Nat} {L : List Pt} (h : ∀ p ∈ L, bitsS n p = true) : ∀ p ∈ L, ∀ q ∈ p.bits, 0 ≤ q ∧ q.toNat < n := fun p hp q hq => by
  have h1 := h p hp
  unfold bitsS at h1
  have h2 := List.all_eq_true.1 (Bool.and_eq_true_iff.1 h1).2 q hq
  unfold placeS at h2
  simp at h2
  omega
set_option maxRecDepth 20000 in
set_option maxHeartbeats 4000000 in
/-- NEW. -/
theorem new_as {An Ai Ao : Option Addr} {nn cn ni ci no co : Nat} {N : List Nd} {I O : List Pt} {w : World} (h : Nt w An nn cn Ai ni ci Ao no co N I O) (sn : Sw An nn cn) (hb : ∀ p ∈ I ++ O, p.bits.length ≤ 100000) {dd : List Nat} (hl : levelS N I O = (some dd, 0)) :
    Calls Try.prog 17 #[.agg #[.slice An nn cn, .slice Ai ni ci, .slice Ao no co]] w fun en w' => ∃ (s : Si) (g : Nat), en = .returned (.tuple #[.pointer (some ⟨s.p, 0, none⟩), .int .i64 0]) ∧ s.Ok w.heap.size ∧ s.At w' g (now0 N) ∧ s.nn = nn ∧ s.N = N ∧ s.I = I ∧ s.O = O ∧ s.G = nI (gatesS N (ordU (fun i => dd.getD i 0) dd.length dd.length)) ∧ s.R = nI (regsS N (ordU (fun i => dd.getD i 0) dd.length dd.length)) ∧ Below w.heap.size w w' := by
  have HL := Lib.hid hl
  obtain ⟨_, o2, o3, o4, o5, o6, o7⟩ := od_of hl
  clear hl
  have hLn : (ordU (fun i => dd.getD i 0) dd.length dd.length).length ≤ nn := by
    rw [ordU_len]
    have h1 := Cn_le_n (fun i => decide ((fun i => dd.getD i 0) i < dd.length)) dd.length
    have h2 := h.n.1
    unfold Lt
    omega
  obtain ⟨L, hL⟩ : ∃ L, ordU (fun i => dd.getD i 0) dd.length dd.length = L := ⟨_, rfl⟩
  rw [hL] at o6 o7 hLn ⊢
  have HOD := Lib.hid o6
  have HOO := Lib.hid o7
  have HFM := Lib.hid o3
  have HPL := Lib.hid (places_ok o4)
  have HNN : Hid (N.length = nn) := Lib.hid h.n.1
  have HLQ : Hid (∀ q ∈ L, q < nn) := Lib.hid fun q hq => by rw [← h.n.1]; exact (o6.mem q).1 hq
  have HBB := Lib.hid hb
  have hnn := h.hn
  have hs1000 := h.hs
  clear hL o2 o3 o4 o5 o6 o7 hb
  go_enter Try.func17, Try.ntmps17
  go_upto_region 1 with fail
  obtain ⟨w1, e_w1⟩ : ∃ w', w.alloc (.cells #[.slice An nn cn, .slice Ai ni ci, .slice Ao no co] 25) = w' := ⟨_, rfl⟩
  have z0 : Bx w1 w.heap.size [.slice An nn cn, .slice Ai ni ci, .slice Ao no co] := e_w1 ▸ Bx.made_k w rfl #[.slice An nn cn, .slice Ai ni ci, .slice Ao no co] 25
  have b1 : Below w.heap.size w w1 := e_w1 ▸ below_lit _ _
  rw [e_w1]
  clear e_w1
  have z0c0 := z0.2 0 _ rfl
  have z0c1 := z0.2 1 _ rfl
  have z0c2 := z0.2 2 _ rfl
  go_wp2_with fail
  refine (order_as (h.on b1) HL.out).mono ?_
  rintro en w2 ⟨A2, m2, c2, rfl, hi2, _, b2⟩
  have h2 := (h.on b1).on b2
  have BW2 := Below.step b1 b2
  replace z0 := z0.on b2
  rw [HOO.out] at hi2
  have hm2 : L.length = m2 := by have := hi2.1; unfold nI at this; rwa [List.length_map] at this
  clear z0c0 z0c1 z0c2 b1 b2 h
  have z0c0 := z0.2 0 _ rfl
  have z0c1 := z0.2 1 _ rfl
  have z0c2 := z0.2 2 _ rfl
  go_wp2_with fail
  refine (clone_as h2 sn HBB.out).mono ?_
  rintro en w3 ⟨Bn, dn, Bi, di, Bo, do', sC, rfl, hrow, _, swn, hpi, swi, hpo, swo, b3⟩
  have HAB : Hid (∀ b off, Bn = some ⟨b, off, none⟩ → b < w3.heap.size) := Lib.hid fun b off e => (hrow.lt b (by rw [e]; rfl)).2
  have hNB : Ns w3 Bn nn N := by
    obtain ⟨A', c', e, _, _, r⟩ := row_ns hrow
    cases e
    exact r
  replace z0 := z0.on b3
  replace hi2 := hi2.on b3
  replace h2 := h2.on b3
  have BW3 := Below.step BW2 b3
  have HPI := Lib.hid hpi.ps
  have HPO := Lib.hid hpo.ps
  clear z0c0 z0c1 z0c2 b3 hrow hpi hpo BW2
  go_upto_region 5 with fail
  obtain ⟨w4, e_w4⟩ : ∃ w', w3.alloc (.cells #[.slice Bn nn dn, .slice Bi ni di, .slice Bo no do', .slice none 0 0, .slice none 0 0, .slice none 0 0] 117) = w' := ⟨_, rfl⟩
  have V4 : Own w4 w3.heap.size 117 [.slice Bn nn dn, .slice Bi ni di, .slice Bo no do', .slice none 0 0, .slice none 0 0, .slice none 0 0] := e_w4 ▸ Own.made w3 117 [.slice Bn nn dn, .slice Bi ni di, .slice Bo no do', .slice none 0 0, .slice none 0 0, .slice none 0 0]
  have b4 : Below w3.heap.size w3 w4 := e_w4 ▸ below_lit _ _
  have hs4 : w4.heap.size = w3.heap.size + 1 := e_w4 ▸ size_lit w3 _ rfl
  have HW : Nw w4 w3.heap.size [.slice Bn nn dn, .slice Bi ni di, .slice Bo no do'] N L 0 (.slice none 0 0) (.slice none 0 0) w4 := ⟨V4, World.ownsRow_nil _ _ _ _, World.ownsRow_nil _ _ _ _, fun b e => (by cases e), Gb.refl _ _⟩
  rw [e_w4]
  clear e_w4 V4
  obtain ⟨p, hp⟩ : ∃ p, w3.heap.size = p := ⟨_, rfl⟩
  have HPW := Lib.hid hp
  rw [hp] at hs4 HW b4 ⊢
  have hp4 : p < w4.heap.size := by omega
  have hwp : w.heap.size ≤ p := by rw [← hp]; exact BW3.size
  have HB4 : Hid (Below p w3 w4) := Lib.hid b4
  clear hp hs4 b4
  go_wp2_with fail
  go_loopw [24] (fun iv wr => ∃ (j : Nat) (gv rv : Value), j ≤ m2 ∧ iv = .int .i64 j ∧ Hid (Nw w4 p [.slice Bn nn dn, .slice Bi ni di, .slice Bo no do'] N L j gv rv wr)) (fun iv _ => m2 - (intOf iv).toNat)
  case atStart => exact ⟨0, _, _, Nat.zero_le _, rfl, Lib.hid HW⟩
  case round =>
    clear HW
    obtain ⟨j, gv, rv, hj, rfl, HW⟩ := hrel
    have BR : Below w3.heap.size w3 wr := by
      have h1 := HB4.out
      rw [← HPW.out] at h1
      exact h1.grown HW.out.gb h1.size fun k hk => by injection hk with hk; rw [← hk, HPW.out]; exact Nat.le_refl _
    by_cases hlt : j < m2
    · obtain ⟨b1, o1, q, rfl, HX, q1⟩ := (hi2.on BR).at hlt
      obtain ⟨q, rfl, HQ⟩ : ∃ r : Nat, q = (r : Int) ∧ Hid (L[j]? = some r) := by
        have := HX.out
        unfold nI at this
        rw [List.getElem?_map] at this
        cases e : L[j]? with
        | none => rw [e] at this; cases this
        | some r => rw [e] at this; cases this; exact ⟨r, rfl, Lib.hid rfl⟩
      have hqn := HLQ.out q (List.mem_of_getElem? HQ.out)
      obtain ⟨b2, o2, x1, x2, x3, x4, rfl, HY, n0, n1, n2, n3⟩ := (h2.n.on BR).at hqn
      have i0 : (0 : Int) ≤ (q : Int) := by omega
      have i1 : (q : Int) < (nn : Int) := by omega
      have z1 := z0.on BR
      have z1c0 := z1.2 0 _ rfl
      go_upto_region 9 with fail
      obtain ⟨w5, e_w5⟩ : ∃ w', wr.alloc (.cells #[.int .i64 x1, .int .i64 x2, .int .i64 x3, .int .i64 x4] 50) = w' := ⟨_, rfl⟩
      have y0 : Bx w5 wr.heap.size [.int .i64 x1, .int .i64 x2, .int .i64 x3, .int .i64 x4] := e_w5 ▸ Bx.made_k wr rfl #[.int .i64 x1, .int .i64 x2, .int .i64 x3, .int .i64 x4] 50
      have b5 : Below wr.heap.size wr w5 := e_w5 ▸ below_lit _ _
      rw [e_w5]
      clear e_w5 n0 n1 n2 n3 z1c0 z1 q1
      have y0c0 := y0.2 0 _ rfl
      have y0c1 := y0.2 1 _ rfl
      have y0c2 := y0.2 2 _ rfl
      have y0c3 := y0.2 3 _ rfl
      obtain ⟨v, hv⟩ : ∃ v, isG x1 = v := ⟨_, rfl⟩
      go_wp2_with fail
      refine (isGate_as x1 x2 x3 x4 v hv _).mono ?_
      rintro en w6 ⟨rfl, b6⟩
      have HK : Hid ((N.getD q nd0).k = x1) := Lib.hid (by rw [getD_of HY.out])
      have HV : Hid (isGs x1 = v) := Lib.hid hv
      have hW6 := (HW.out.on b5).on b6
      clear y0c0 y0c1 y0c2 y0c3 hv
      have y1 := y0.on b6
      have hp6 := own6 hW6.var
      have hl1 := gj_len N L j
      have hl2 := rj_len N L j
      have hsz6 := hW6.gb.size
      have HW6 := Lib.hid hW6
      obtain ⟨c0, c1, c2, c3, c4, c5⟩ := hp6
      clear hW6 y0
      cases v
      case true =>
        have HG1 : Hid (gj N L (j + 1) = gj N L j ++ [(q : Int)]) := Lib.hid (gj_in HQ.out (by rw [HK.out]; exact HV.out))
        have HR1 : Hid (rj N L (j + 1) = rj N L j) := Lib.hid (rj_out HQ.out (by rw [HK.out]; have := HV.out; unfold isGs at this; simp at this; exact this.2.2))
        go_wp2_with (at_builtin; refine wpList_push3 _ rfl _ _ 34 rfl elm_int (by omega) w4.heap.size gv _ rfl HW6.out.g (.int .i64 (q : Int)) rfl rfl (by omega) hsz6 ?_; intro g cap w7 hg7 hG7 hl7; have hv7 := HW6.out.var.kept hG7 (fun e => by have := (HW6.out.g.own p e.symm).1; omega); have k3 := hv7.cell 3; have f3 := hv7.free 3)
        go_roundw
        case rel => exact ⟨j + 1, _, _, by omega, by go_num, Lib.hid (HW6.out.pushG hp4 HG1.out HR1.out hg7 hG7 hl7)⟩
        case measure => simp [intOf]; omega
      case false =>
        have HG1 : Hid (gj N L (j + 1) = gj N L j) := Lib.hid (gj_out HQ.out (by rw [HK.out]; exact HV.out))
        have y1c0 := y1.2 0 _ rfl
        by_cases h7 : x1 = 7
        · subst h7
          have HR1 : Hid (rj N L (j + 1) = rj N L j ++ [(q : Int)]) := Lib.hid (rj_in HQ.out HK.out)
          go_wp2_with (at_builtin; refine wpList_push3 _ rfl _ _ 34 rfl elm_int (by omega) w4.heap.size rv _ rfl HW6.out.r (.int .i64 (q : Int)) rfl rfl (by omega) hsz6 ?_; intro g cap w7 hg7 hG7 hl7; have hv7 := HW6.out.var.kept hG7 (fun e => by have := (HW6.out.r.own p e.symm).1; omega); have k4 := hv7.cell 4; have f4 := hv7.free 4)
          go_roundw
          case rel => exact ⟨j + 1, _, _, by omega, by go_num, Lib.hid (HW6.out.pushR hp4 HR1.out HG1.out hg7 hG7 hl7)⟩
          case measure => simp [intOf]; omega
        · have HR1 : Hid (rj N L (j + 1) = rj N L j) := Lib.hid (rj_out HQ.out (by rw [HK.out]; exact h7))
          have h7b : (x1 == 7) = false := by simpa using h7
          clear h7
          go_wp2_with fail
          go_roundw
          case rel => exact ⟨j + 1, gv, rv, by omega, by go_num, Lib.hid ⟨HW6.out.var, HG1.out ▸ HW6.out.g, HR1.out ▸ HW6.out.r, HW6.out.ne, HW6.out.gb⟩⟩
          case measure => simp [intOf]; omega
    · obtain rfl : j = m2 := by omega
      have eL : L.take j = L := List.take_of_length_le (by omega)
      obtain ⟨Ag, cg, rfl, swg, hlg, hrg⟩ := Grow.at HW.out.g (ivs_len7 _)
      obtain ⟨Ar, cr, rfl, swr, hlr, hrr⟩ := Grow.at HW.out.r (ivs_len7 _)
      have eg : gj N L j = nI (gatesS N L) := by unfold gj; rw [eL]
      have er : rj N L j = nI (regsS N L) := by unfold rj; rw [eL]
      have hl1 := gj_len N L j
      have hl2 := rj_len N L j
      rw [ivs_len7] at hl1 hl2
      have HG9 : Hid (Is wr Ag (gj N L j).length (nI (gatesS N L))) := Lib.hid (eg ▸ hrg.is)
      have HR9 : Hid (Is wr Ar (rj N L j).length (nI (regsS N L))) := Lib.hid (er ▸ hrr.is)
      have HN9 : Hid (Ns wr Bn nn N) := Lib.hid (hNB.on BR)
      have HNA : Hid (AdOk (· ≠ p) Bn) := Lib.hid fun b off e => by have := HAB.out b off e; have := HPW.out; omega
      have hfm : N.all (formedS nn) = true := by rw [← HNN.out]; exact HFM.out
      have hvar := HW.out.var
      have hkp : Kp (· ≠ p) w3 wr := Kp.below BR fun b hb _ => hb
      have hne3 : ∀ b, b < w3.heap.size → b ≠ p := fun b hb => by have := HPW.out; omega
      have HIA : Hid (PsA (· ≠ p) wr Bi ni I) := Lib.hid ((HPI.out.psA hne3).keep hkp)
      have HOA : Hid (PsA (· ≠ p) wr Bo no O) := Lib.hid ((HPO.out.psA hne3).keep hkp)
      have HGA : Hid (AdOk (· ≠ p) Ag) := Lib.hid fun b off e => by have := (hlg b off e).1; omega
      have HRA : Hid (AdOk (· ≠ p) Ar) := Lib.hid fun b off e => by have := (hlr b off e).1; omega
      have HP9 : Hid (p < wr.heap.size) := Lib.hid hvar.lt
      have HGB := Lib.hid (BW3.trans (BR.mono BW3.size))
      clear eL eg er swg swr hlg hlr hrg hrr hkp hne3 BR
      go_wp2_with fail
      refine (reset_as hvar HN9.out HNA.out hnn hfm).mono ?_
      rintro en w8 ⟨⟨u, rfl⟩, g8, hg8, hv8, ho8, hG8⟩
      go_wp2_with fail
      go_ret2
      have hlen : (now0 N).length = nn := by unfold now0; rw [List.length_map]; exact HNN.out
      refine ⟨⟨wr, p, Bn, nn, dn, Bi, ni, di, Bo, no, do', Ag, _, cg, Ar, _, cr, N, I, O, nI (gatesS N L), nI (regsS N L)⟩, g8, rfl, ?_, ⟨hv8, ho8, hlen, hg8, Kp.grown hG8 fun b _ e => e, v01_now hfm⟩, rfl, rfl, rfl, rfl, rfl, rfl, ?_⟩
      · exact ⟨HP9.out, hwp, HN9.out, HNA.out, HIA.out, HOA.out, HG9.out, HGA.out, HR9.out, HRA.out, hnn, by dsimp only; omega, by dsimp only; omega, by dsimp only; omega, by dsimp only; omega, HBB.out, hfm, by have := HPL.out; rw [HNN.out] at this; exact this, gates_ok HOD.out, regs_ok HOD.out⟩
      · exact HGB.out.grown hG8 HGB.out.size fun k hk => by injection hk with hk; omega
end Go.Proofs.Ytacphhfhahgeaaa
