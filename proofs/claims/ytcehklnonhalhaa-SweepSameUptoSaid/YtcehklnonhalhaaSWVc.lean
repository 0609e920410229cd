/-
  What the proofs of SweepTells and SweepCones and SweepSame need: Vc.
-/
import Derived.Test.YtcehklnonhalhaaSWVa
import Derived.Test.YtcehklnonhalhaaSWYj
import Derived.Test.YtcehklnonhalhaaSWYu
import Derived.Maps.Views
import Derived.Maps.Own
import Derived.Maps.OwnOps
import Derived.Maps.OwnSet
import Derived.DeepKeys4
namespace Go.Proofs.Ytcehklnonhalhaa
open Go.RowKit
open Go.Maps (Keyed)
set_option linter.unusedVariables false
set_option maxRecDepth 4000

/-- a node as a map's key. -/
def kN (x : Nd) : Lit := .string (keyBytes [.int .i64 x.k, .int .i64 x.a, .int .i64 x.b, .int .i64 x.c])
def wfN (x : Nd) : Prop := (Lit.int .i64 x.k).wf = true ∧ (Lit.int .i64 x.a).wf = true ∧ (Lit.int .i64 x.b).wf = true ∧ (Lit.int .i64 x.c).wf = true
theorem nd_laid : laidOutB Try.prog = true := by kernel_rfl
theorem nd_row : (43 : TypeId) < Try.prog.types.size := of_decide_eq_true (by kernel_rfl)
theorem nd_wide : (match Try.prog.underlying 43 with | some (.array _ _) | some (.struct _) => true | _ => false) = true := by kernel_rfl
theorem nd_keyed : Keyed Try.prog 43 := Keyed.of_law (deep_law_laid nd_laid (m := 2) (by omega) nd_row (by kernel_rfl) nd_wide)
theorem keyN {x : Nd} (h : wfN x) : keyOf Try.prog 43 (ndA x) = some (kN x) := by
  obtain ⟨k, a, b, c⟩ := x
  obtain ⟨h1, h2, h3, h4⟩ := h
  obtain ⟨n, hn⟩ : ∃ n, Try.prog.types.size = n + 1 := ⟨Try.prog.types.size - 1, by have h : 0 < Try.prog.types.size := of_decide_eq_true (by kernel_rfl); omega⟩
  have hk : Try.prog.keyType 43 = true := by kernel_rfl
  have hf : (Value.agg #[.int .i64 k, .int .i64 a, .int .i64 b, .int .i64 c]).formed Try.prog 43 = true := by
    have hc : Try.prog.cellsOf 43 = 4 := by kernel_rfl
    simp [Value.formed, Try.underlying43, hc]
  have hl : Try.prog.keyLits (Try.prog.types.size + 1) 43 [.int .i64 k, .int .i64 a, .int .i64 b, .int .i64 c] = some [.int .i64 k, .int .i64 a, .int .i64 b, .int .i64 c] := by
    have hc : Try.prog.cellsOf 43 = 4 := by kernel_rfl
    have hi : Try.prog.cellsOf 3 = 1 := by kernel_rfl
    rw [hn]
    simp [Program.keyLits, Try.underlying43, Try.underlying3, hc, hi] at h1 h2 h3 h4 ⊢
    simp [h1, h2, h3, h4]
  unfold keyOf
  rw [Try.underlying43]
  have hf2 : (ndA ⟨k, a, b, c⟩).formed Try.prog 43 = true := hf
  rw [if_pos (by rw [hk, hf2]; rfl)]
  show Option.map _ (Try.prog.keyLits (Try.prog.types.size + 1) 43 [.int .i64 k, .int .i64 a, .int .i64 b, .int .i64 c]) = _
  rw [hl]
  rfl
theorem wfN_of {x : Nd} (h : ∀ v ∈ [x.k, x.a, x.b, x.c], -1000000 ≤ v ∧ v ≤ 1000000) : wfN x := by
  have key : ∀ v : Int, -1000000 ≤ v ∧ v ≤ 1000000 → (Lit.int .i64 v).wf = true := fun v hv => by
    have e1 : IntKind.i64.min = -9223372036854775808 := rfl
    have e2 : IntKind.i64.max = 9223372036854775807 := rfl
    simp [Lit.wf]
    omega
  exact ⟨key _ (h _ (by simp)), key _ (h _ (by simp)), key _ (h _ (by simp)), key _ (h _ (by simp))⟩
theorem ndA_inj {x y : Nd} (h : ndA x = ndA y) : x = y := by
  obtain ⟨a, b, c, d⟩ := x
  obtain ⟨a', b', c', d'⟩ := y
  unfold ndA at h
  injection h with h
  have h := congrArg Array.toList h
  simp at h
  obtain ⟨rfl, rfl, rfl, rfl⟩ := h
  rfl
theorem kN_ne {x y : Nd} (hx : wfN x) (hy : wfN y) (h : y ≠ x) : kN y ≠ kN x := fun e => h (ndA_inj (nd_keyed.inj (keyN hy) (by rw [keyN hx, e])))
/-- the call's own map: of each kind of node the first. -/
def MapN (w : World) (b n : Nat) (D : DataW Unit) : Prop := w.ownsMap Try.prog 43 (plainElem Try.prog 3) b n D
theorem MapN.below {w w' : World} {b n : Nat} {D : DataW Unit} (h : MapN w b n D) (hb : Below w.heap.size w w') : MapN w' b n D := by
  obtain ⟨es, clock, h1, h2⟩ := h
  exact ⟨es, clock, (hb.block b (Array.getElem?_eq_some_iff.1 h1).1).trans h1, h2⟩
structure Dn (F : Nd → Option Nat) (D : DataW Unit) : Prop where
  has : ∀ x, wfN x → Maps.has D (kN x) = (F x).isSome
  at_ : ∀ x, wfN x → D.atKey (kN x) (.lit (.int .i64 0)) = .lit (.int .i64 ((F x).getD 0 : Nat))
theorem Dn.start : Dn (fun _ => none) (.map []) := ⟨fun x _ => rfl, fun x _ => rfl⟩
theorem Dn.put {F : Nd → Option Nat} {D : DataW Unit} (h : Dn F D) (hm : Maps.IsMap D) {x : Nd} (hx : wfN x) (q : Nat) : Dn (putK F x q) (D.put (kN x) (.lit (.int .i64 q))) where
  has := fun y hy => by
    by_cases e : y = x
    · subst e
      rw [Maps.has_put_same hm (by trivial), putK_same]
      rfl
    · rw [Maps.has_put_other (kN_ne hx hy e), putK_other _ _ e]
      exact h.has y hy
  at_ := fun y hy => by
    by_cases e : y = x
    · subst e
      rw [Maps.atKey_put_same hm (by trivial), putK_same]
      rfl
    · rw [Maps.atKey_put_other (kN_ne hx hy e), putK_other _ _ e]
      exact h.at_ y hy
/-- all blocks but these are as they were. -/
def Kx (T : Nat → Prop) (w w' : World) : Prop := Below 0 w w' ∧ ∀ b, b < w.heap.size → ¬ T b → w'.heap[b]? = w.heap[b]?
theorem Kx.size {T : Nat → Prop} {a b : World} (h : Kx T a b) : a.heap.size ≤ b.heap.size := Below.size h.1
theorem Kx.refl (T : Nat → Prop) (w : World) : Kx T w w := ⟨Below.refl _ _, fun _ _ _ => rfl⟩
theorem Kx.step {T : Nat → Prop} {a b c : World} (h : Kx T a b) (k : Below b.heap.size b c) : Kx T a c := ⟨Below.trans h.1 (k.mono (Nat.zero_le _)), fun x hx ht => (k.block x (Nat.lt_of_lt_of_le hx h.size)).trans (h.2 x hx ht)⟩
theorem Kx.trans {T : Nat → Prop} {a b c : World} (h : Kx T a b) (k : Kx T b c) : Kx T a c := ⟨Below.trans h.1 k.1, fun x hx ht => (k.2 x (Nat.lt_of_lt_of_le hx h.size) ht).trans (h.2 x hx ht)⟩
theorem Kx.mono {T T' : Nat → Prop} {a b : World} (h : Kx T a b) (hT : ∀ x, T x → T' x) : Kx T' a b := ⟨h.1, fun x hx ht => h.2 x hx (fun e => ht (hT x e))⟩
theorem Kx.set {T : Nat → Prop} {a b : World} (h : Kx T a b) {g : Nat} (hg : T g) (o : Nat) (u : Value) : Kx T a (b.setCell ⟨g, o, none⟩ u) := ⟨Below.setCell h.1 (p := ⟨g, o, none⟩) (Nat.zero_le _) u, fun x hx ht => (Below.heap_setCell b ⟨g, o, none⟩ u x (fun e => ht (by have e : x = g := e; rw [e]; exact hg))).trans (h.2 x hx ht)⟩
theorem Kx.grown {T : Nat → Prop} {a b c : World} {g : Nat} (h : Kx T a b) (hG : b.grownBy c (some g)) (hg : T g) : Kx T a c := ⟨Below.grown h.1 hG (Nat.zero_le _) (fun _ _ => Nat.zero_le _), fun x hx ht => (hG.block x (Nat.lt_of_lt_of_le hx h.size) (fun e => ht (by injection e with e; rw [e]; exact hg))).trans (h.2 x hx ht)⟩
theorem Kx.below {T : Nat → Prop} {a b : World} (h : Kx T a b) {B : Nat} (hB : B ≤ a.heap.size) (hT : ∀ x, T x → B ≤ x) : Below B a b := ⟨Below.os h.1, Below.tape h.1, Below.output h.1, h.size, fun k hk => h.2 k (Nat.lt_of_lt_of_le hk hB) (fun ht => by have := hT k ht; omega)⟩
/-- the sharer: a variable of its own, rows of nodes and of places, a map. -/
structure Fk (w : World) (base p : Nat) (vn vs : Value) (mb n : Nat) (M : List Nd) (S : List Int) (F : Nd → Option Nat) : Prop where
  ow : Own w p 85 [vn, vs, .map (some mb)]
  rn : w.ownsRow base 43 4 vn M.length (M.flatMap ndC)
  rs : w.ownsRow base 3 1 vs M.length (S.flatMap inC)
  ls : S.length = M.length
  lo : base ≤ p
  mp : ∃ D, MapN w mb n D ∧ Dn F D
  lb : base ≤ mb
section
variable {w w' : World} {base p : Nat} {vn vs : Value} {mb n : Nat} {M : List Nd} {S : List Int} {F : Nd → Option Nat}
theorem Fk.on (h : Fk w base p vn vs mb n M S F) (hb : Below w.heap.size w w') : Fk w' base p vn vs mb n M S F := by
  obtain ⟨D, hm, hd⟩ := h.mp
  exact ⟨h.ow.below hb h.ow.lt, row_on h.rn hb, row_on h.rs hb, h.ls, h.lo, ⟨D, hm.below hb, hd⟩, h.lb⟩
theorem Fk.low {base2 : Nat} (h : Fk w base p vn vs mb n M S F) (hb : base2 ≤ base) : Fk w base2 p vn vs mb n M S F := ⟨h.ow, row_low h.rn hb, row_low h.rs hb, h.ls, Nat.le_trans hb h.lo, h.mp, Nat.le_trans hb h.lb⟩
theorem map_cells {b g : Nat} {cur : Array Value} {T : TypeId} {f : Nat × Nat} {D : DataW Unit} (k : MapN w b n D) (hg : w.heap[g]? = some (.cells cur T f)) : b ≠ g := fun e => by
  obtain ⟨es, clock, hb, _⟩ := k
  rw [e, hg] at hb
  cases hb
theorem map_set {b g : Nat} {cur : Array Value} {T : TypeId} {f : Nat × Nat} {D : DataW Unit} (k : MapN w b n D) (hg : w.heap[g]? = some (.cells cur T f)) (o : Nat) (u : Value) : MapN (w.setCell ⟨g, o, none⟩ u) b n D := World.ownsMap.kept k (grown_set _ _ _) (fun e => map_cells k hg (by injection e))
theorem row_kx {T : Nat → Prop} {e : TypeId} {s k : Nat} {v : Value} {xs : List Value} (h : w.ownsRow base e s v k xs) (hk : Kx T w w') (ht : ∀ b, v.ownBlock = some b → ¬ T b) : w'.ownsRow base e s v k xs := by
  have hl := h.lt
  refine ⟨h.1, ?_⟩
  rcases h.2 with h1 | ⟨g, cap, cur, rfl, h2, h3, h4⟩
  · exact .inl h1
  · exact .inr ⟨g, cap, cur, rfl, h2, (hk.2 g (hl g rfl).2 (ht g rfl)).trans h3, h4⟩
theorem Fk.kx {T : Nat → Prop} (h : Fk w base p vn vs mb n M S F) (hk : Kx T w w') (hp : ¬ T p) (hn : ∀ b, vn.ownBlock = some b → ¬ T b) (hs : ∀ b, vs.ownBlock = some b → ¬ T b) (hm : ¬ T mb) : Fk w' base p vn vs mb n M S F := by
  obtain ⟨D, ⟨es, clock, g1, g2⟩, hd⟩ := h.mp
  exact ⟨(hk.2 p h.ow.lt hp).trans h.ow, row_kx h.rn hk hn, row_kx h.rs hk hs, h.ls, h.lo, ⟨D, ⟨es, clock, (hk.2 mb (Array.getElem?_eq_some_iff.1 g1).1 hm).trans g1, g2⟩, hd⟩, h.lb⟩
end
end Go.Proofs.Ytcehklnonhalhaa
