/-
  What the proofs of OptSame need: Gaa Gbq Gbc.
-/
import Derived.Test.YtcehklnonhalhaaSPGx
import Derived.Deep.RegionLaw
import Derived.Test.YtcehklnonhalhaaSPGa
set_option linter.unusedVariables false
namespace Go.Proofs.Ytcehklnonhalhaa
open Go.RowKit
set_option maxRecDepth 4000
def AllP (w0 : World) (n : Nat) (L : List Pt) (v : Value) (W : World) : Prop := ∃ A c, v = .slice A n c ∧ Ps W A n L ∧ Sw A n c ∧ Below w0.heap.size w0 W
theorem step_app {P : Program} {ops : Array Oper} {o : Oper} {a : Act} {w : World} {K : Act → World → Prop} {Q : Exit → Act → World → Prop} {E : Prop} (hgd : o.guard = none) (s x : Operand) (t : TypeId)
  (ho : o.op = .call { callee := .builtin .append, args := #[s, x], argTypes := #[t, t] }) {e : TypeId} {size bytes : Nat} (hE : Elm P t e size bytes) (hsz : 0 < size) (hby : bytes ≤ 64)
  (base : Nat) (v : Value) (n : Nat) (xs : List Value) (hs : a.eval s = v) (hown : w.ownsRow base e size v n xs) {A : Option Addr} {m c : Nat} (news : List Value) (hx : a.eval x = .slice A m c) (hA : A = none → m = 0 ∧ c = 0)
  (hl : news.length = m * size) (hnews : ∀ ad, A = some ad → ∀ j u, news[j]? = some u → w.cell? (ad.add j) = some u) (h1 : ∀ u ∈ news, u.oneCell' = true) (hn : n + m ≤ 1000000) (hbase : base ≤ w.heap.size)
  (h : ∀ v' w', w'.ownsRow base e size v' (n + m) (xs ++ news) → w.grownBy w' v.ownBlock → K (a.put o.dst v') w') : if Region.wanted o (yielded ops a.tmps) = true then Oper.wp P o a w K Q else E := by
 obtain ⟨ht, i, z, hi, hz, h3, h4, h5, _⟩ := hE
 have hw : Region.wanted o (yielded ops a.tmps) = true := by simp [Region.wanted, hgd]
 rw [if_pos hw]
 cases A with
 | none =>
  obtain ⟨rfl, rfl⟩ := hA rfl
  obtain rfl : news = [] := List.eq_nil_of_length_eq_zero (by simpa using hl)
  have hrun := run_append_owned_none (P := P) (w := w) base t o.type e i size ht hi v n xs hown
  have hK := h v w (by simpa using hown) ⟨rfl, rfl, rfl, Nat.le_refl _, fun _ _ _ => rfl⟩
  unfold Oper.wp
  simp [execOp, ho, resolve, invoke, builtin, hs, hx, hrun, Result.andThen]
  exact hK
 | some ad =>
  have hb : (n + m) * bytes ≤ 140737488355328 := by
   have : (n + m) * bytes ≤ 1000000 * 64 := Nat.mul_le_mul hn hby
   omega
  exact wp_append_own w s x t ho base e i z size bytes ht hi hz h3 h4 h5 hsz v n xs hs hown ad m c news hx hl (hnews ad rfl) h1 (by unfold maxLen; omega) hb hbase fun v' w' g1 g2 _ => h v' w' g1 g2
set_option maxRecDepth 4000
theorem Bx.t3 {w : World} {s : Nat} {a b c : Value} (h : Bx w s [a, b, c]) : w.cell? ⟨s, 0, none⟩ = some a ∧ w.cell? ⟨s, 1, none⟩ = some b ∧ w.cell? ⟨s, 2, none⟩ = some c := ⟨h.2 0 _ rfl, h.2 1 _ rfl, h.2 2 _ rfl⟩
structure NAt (w : World) (b o : Nat) (x1 x2 x3 x4 : Int) : Prop where
  lt : b < w.heap.size
  c1 : w.cell? ⟨b, o, none⟩ = some (.int .i64 x1)
  c2 : w.cell? ⟨b, o + 1, none⟩ = some (.int .i64 x2)
  c3 : w.cell? ⟨b, o + 2, none⟩ = some (.int .i64 x3)
  c4 : w.cell? ⟨b, o + 3, none⟩ = some (.int .i64 x4)
theorem NAt.on {w w' : World} {b o : Nat} {x1 x2 x3 x4 : Int} (h : NAt w b o x1 x2 x3 x4) (hb : Below w.heap.size w w') : NAt w' b o x1 x2 x3 x4 :=
 ⟨Nat.lt_of_lt_of_le h.lt hb.size, (hb.cell (p := ⟨b, o, none⟩) h.lt).trans h.c1, (hb.cell (p := ⟨b, o + 1, none⟩) h.lt).trans h.c2, (hb.cell (p := ⟨b, o + 2, none⟩) h.lt).trans h.c3, (hb.cell (p := ⟨b, o + 3, none⟩) h.lt).trans h.c4⟩
theorem Ns.nat {w : World} {A : Option Addr} {n : Nat} {L : List Nd} (h : Ns w A n L) {k : Nat} (hk : k < n) : ∃ b off x1 x2 x3 x4, A = some ⟨b, off, none⟩ ∧ Hid (L[k]? = some ⟨x1, x2, x3, x4⟩) ∧ NAt w b (off + k * 4) x1 x2 x3 x4 := by
 obtain ⟨⟨x1, x2, x3, x4⟩, hx⟩ := look_ex h.1 hk
 obtain ⟨b, off, h1, h2, h3, h4, h5, h6⟩ := h.2 k _ hx
 exact ⟨b, off, x1, x2, x3, x4, h1, Lib.hid hx, h2, h3, h4, h5, h6⟩
set_option maxRecDepth 4000
theorem getD_some {lv : List Int} {p : Nat} {v : Int} (h : lv[p]? = some v) : lv.getD p 0 = v := by rw [List.getD_eq_getElem?_getD, h]; rfl
end Go.Proofs.Ytcehklnonhalhaa
