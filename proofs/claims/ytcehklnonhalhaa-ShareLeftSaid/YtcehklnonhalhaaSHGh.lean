/-
  What the proofs of ShareSame and ShareLeft need: Gh.
-/
import Derived.Test.YtcehklnonhalhaaSHGg
namespace Go.Proofs.Ytcehklnonhalhaa
open Go.RowKit
set_option linter.unusedVariables false
set_option maxRecDepth 4000

theorem grown_set (w : World) (a : Addr) (u : Value) : w.grownBy (w.setCell a u) (some a.block) :=
  ⟨rfl, rfl, rfl, by simp [World.setCell], fun k hk hne => Below.heap_setCell w a u k (fun e => hne (by rw [e]))⟩
theorem Own.kept {w w' : World} {g : Nat} {t : TypeId} {cs : List Value} {row : Option Nat} (h : Own w g t cs) (hg : w.grownBy w' row) (hne : some g ≠ row) : Own w' g t cs := (hg.block g h.lt hne).trans h
theorem grown_alloc (w : World) (o : Obj) (row : Option Nat) : w.grownBy (w.alloc o) row := World.grownBy_alloc w o row
/-- what waits, as cells. -/
def inN (W : List Nat) : List Value := (W.map fun i : Nat => (i : Int)).flatMap inC
theorem inN_snoc (W : List Nat) (p : Nat) : inN (W ++ [p]) = inN W ++ [.int .i64 (p : Int)] := by unfold inN; simp [inC]
theorem inN_at {W : List Nat} {k q : Nat} (h : W[k]? = some q) : (inN W)[k]? = some (.int .i64 (q : Int)) := by
  unfold inN
  have := flat_at inC 1 inC_len (W.map fun i : Nat => (i : Int)) k 0 (by omega)
  rw [Nat.mul_one, Nat.add_zero] at this
  rw [this, List.getElem?_map, h]
  rfl
def ivs (lv : List Int) : List Value := lv.map fun x : Int => .int .i64 x
theorem ivs_at {lv : List Int} {k : Nat} {x : Int} (h : lv[k]? = some x) : (ivs lv)[k]? = some (.int .i64 x) := by unfold ivs; rw [List.getElem?_map, h]; rfl
theorem ivs_set (lv : List Int) (k : Nat) (x : Int) : (ivs lv).set k (.int .i64 x) = ivs (lv.set k x) := by unfold ivs; rw [List.map_set]
/-- the climber: its variable, the levels, the nodes that wait. -/
structure St (w : World) (B g l Bw : Nat) (An : Option Addr) (nn cn n : Nat) (lv : List Int) (A : Option Addr) (c : Nat) (W : List Nat) : Prop where
  var : Own w g 130 [.slice An nn cn, .slice (some ⟨l, 0, none⟩) n n, .slice A W.length c]
  lev : Own w l 3 (ivs lv)
  row : w.ownsRow Bw 3 1 (.slice A W.length c) W.length (inN W)
  hg : B ≤ g
  hl : B ≤ l
  gl : g ≠ l
  gw : g < Bw
  lw : l < Bw
  bw : Bw ≤ w.heap.size
  ln : lv.length = n
theorem St.on {w w' : World} {B g l Bw : Nat} {An : Option Addr} {nn cn n : Nat} {lv : List Int} {A : Option Addr} {c : Nat} {W : List Nat} (h : St w B g l Bw An nn cn n lv A c W) (hb : Below w.heap.size w w') : St w' B g l Bw An nn cn n lv A c W :=
  ⟨h.var.below hb h.var.lt, h.lev.below hb h.lev.lt, by
    refine ⟨h.row.1, ?_⟩
    rcases h.row.2 with h1 | ⟨b, cap, cur, h1, h2, h3, h4⟩
    · exact .inl h1
    · exact .inr ⟨b, cap, cur, h1, h2, (hb.block b (Array.getElem?_eq_some_iff.1 h3).1).trans h3, h4⟩, h.hg, h.hl, h.gl, h.gw, h.lw, Nat.le_trans h.bw hb.size, h.ln⟩
theorem St.ag {w : World} {B g l Bw : Nat} {An : Option Addr} {nn cn n : Nat} {lv : List Int} {A : Option Addr} {c : Nat} {W : List Nat} (h : St w B g l Bw An nn cn n lv A c W) : ∀ b, A = some ⟨b, 0, none⟩ → b ≠ g ∧ b ≠ l := by
  intro b e
  subst e
  rcases h.row.2 with ⟨h1, _⟩ | ⟨b', cap, cur, h1, h2, _⟩
  · cases h1
  · injection h1 with h1
    injection h1 with h1
    injection h1 with h1
    have := h.gw
    have := h.lw
    omega
theorem row_own {w : World} {B : Nat} {e : TypeId} {s : Nat} {A : Option Addr} {n c : Nat} {xs : List Value} (h : w.ownsRow B e s (.slice A n c) n xs) : A = none ∧ n = 0 ∧ c = 0 ∨ ∃ b, A = some ⟨b, 0, none⟩ ∧ B ≤ b ∧ b < w.heap.size := by
  rcases h.2 with ⟨h1, h2⟩ | ⟨b, cap, cur, h1, h2, h3, h4⟩
  · injection h1 with h1 h3 h4
    exact .inl ⟨h1, h2, h4⟩
  · injection h1 with h1 h5 h6
    exact .inr ⟨b, h1, h2, (Array.getElem?_eq_some_iff.1 h3).1⟩
theorem own_ne {w : World} {B : Nat} {e : TypeId} {s : Nat} {A : Option Addr} {n c g : Nat} {xs : List Value} (h : w.ownsRow B e s (.slice A n c) n xs) (hne : ∀ b, A = some ⟨b, 0, none⟩ → b ≠ g) : some g ≠ (Value.slice A n c).ownBlock := by
  rcases row_own h with ⟨rfl, _⟩ | ⟨b, rfl, _⟩
  · intro e; cases e
  · intro e
    injection e with e
    exact hne b rfl e.symm
theorem own_ne2 {w : World} {B : Nat} {e : TypeId} {s : Nat} {A : Option Addr} {n c g : Nat} {xs : List Value} (h : w.ownsRow B e s (.slice A n c) n xs) (hne : ∀ b, A = some ⟨b, 0, none⟩ → b ≠ g) : (Value.slice A n c).ownBlock = none ∨ (Value.slice A n c).ownBlock ≠ some g := .inr fun e => own_ne h hne e.symm
set_option maxHeartbeats 1000000 in
theorem await_as {w : World} {B g l Bw : Nat} {An : Option Addr} {nn cn n : Nat} {lv : List Int} {A : Option Addr} {c : Nat} {W : List Nat} (h : St w B g l Bw An nn cn n lv A c W) (p : Nat) (hp : p < n) (hW : W.length ≤ 600000) :
    Calls Try.prog 103 #[.pointer (some ⟨g, 0, none⟩), .int .i64 (p : Int)] w fun en w' => (∃ u, en = .returned u) ∧ ∃ A' c', St w' B g l Bw An nn cn n (lv.set p (-1)) A' c' (W ++ [p]) ∧ Below B w w' := by
  have hBw : B ≤ w.heap.size := Nat.le_trans h.hg (Nat.le_of_lt h.var.lt)
  have c1 := h.var.cell 1
  have c2 := h.var.cell 2
  simp only [List.getElem?_cons_succ, List.getElem?_cons_zero] at c1 c2
  obtain ⟨x, hx⟩ := look_ex h.ln hp
  have c3 := (h.lev.cell p).trans (ivs_at hx)
  have f3 := h.lev.free p
  have G1 := grown_set w ⟨l, p, none⟩ (.int .i64 (-1))
  obtain ⟨w1, e_w1⟩ : ∃ w1, w.setCell ⟨l, p, none⟩ (.int .i64 (-1)) = w1 := ⟨_, rfl⟩
  have L1 : Own w1 l 3 (ivs (lv.set p (-1))) := by rw [← ivs_set, ← e_w1]; exact h.lev.put p _
  have B1 : Below B w w1 := e_w1 ▸ (Below.refl B w).setCell h.hl _
  rw [e_w1] at G1
  have V1 := h.var.kept G1 (fun e => h.gl (by injection e))
  have R1 := h.row.kept G1 (own_ne2 h.row fun b e => (h.ag b e).2)
  have d2 := V1.cell 2
  simp only [List.getElem?_cons_succ, List.getElem?_cons_zero] at d2
  go_enter Try.func103, Try.ntmps103
  go_upto_region 1 with fail
  clear e_w1 c1 c2 c3 f3
  obtain ⟨w2, e_w2⟩ : ∃ w2, w1.alloc (.cells #[.int .i64 (p : Int)] 3) = w2 := ⟨_, rfl⟩
  have b2 : Below w1.heap.size w1 w2 := e_w2 ▸ below_lit _ _
  have G2 : w1.grownBy w2 none := e_w2 ▸ grown_alloc w1 _ none
  have V2 := V1.kept G2 (by simp)
  have L2 := L1.kept G2 (by simp)
  have R2 : w2.ownsRow Bw 3 1 (.slice A W.length c) W.length (inN W) := e_w2 ▸ R1.alloc _
  have cn2 : ∀ ad : Addr, (some ⟨w1.heap.size, 0, none⟩ : Option Addr) = some ad → ∀ (j : Nat) (u : Value), ([.int .i64 (p : Int)] : List Value)[j]? = some u → w2.cell? (ad.add j) = some u := by
    intro ad e j u hu
    cases e
    rw [n6add_at, ← e_w2, Nat.zero_add, cell_of_row _ w1.heap.size j #[.int .i64 (p : Int)] 3 (0, 0) (heap_alloc_new w1 _)]
    simpa using hu
  have B2 : Below B w w2 := B1.trans (b2.mono (Nat.le_trans hBw B1.size))
  go_wp2_with (at_builtin; refine wpList_app (A := some ⟨w1.heap.size, 0, none⟩) (m := 1) (c := 1) rfl _ _ 39 rfl elm_int (by omega) (by omega) Bw _ _ _ rfl R2 [.int .i64 (p : Int)] rfl (fun e => by cases e) rfl cn2 (by intro u hu; simp at hu; subst hu; rfl) (by omega) (Nat.le_trans h.bw B2.size) ?_; intro v3 w3 R3 G3; obtain ⟨A3, c3, rfl, sw3, hb3, _⟩ := row_at R3; have V3 := V2.kept G3 (own_ne R2 fun b e => (h.ag b e).1); have d3 := V3.cell 2; have f3 := V3.free 2; simp only [List.getElem?_cons_succ, List.getElem?_cons_zero] at d3)
  have V4 := V3.put 2 (.slice A3 (W.length + 1) c3)
  have G4 := grown_set w3 ⟨g, 2, none⟩ (.slice A3 (W.length + 1) c3)
  have L3 := L2.kept G3 (own_ne R2 fun b e => (h.ag b e).2)
  have hag : ∀ b, A3 = some ⟨b, 0, none⟩ → b ≠ g ∧ b ≠ l := by
    intro b e
    have := (hb3 b 0 e).1
    have := h.gw
    have := h.lw
    omega
  refine bodyPost_end (v := .tuple #[]) (by simp [results, Try.results103, go_sem]) rfl ?_
  refine ⟨⟨_, rfl⟩, ⟨A3, c3, ⟨?_, L3.kept G4 (fun e => h.gl (by injection e with e; exact e.symm)), ?_, h.hg, h.hl, h.gl, h.gw, h.lw, ?_, by rw [List.length_set]; exact h.ln⟩⟩, ?_⟩
  · simpa using V4
  · have := R3.kept G4 (own_ne2 R3 fun b e => (hag b e).1)
    rw [inN_snoc]
    simpa using this
  · exact Nat.le_trans h.bw (Nat.le_trans B2.size (Nat.le_trans G3.size G4.size))
  · exact (B2.grown G3 (Nat.le_trans hBw B2.size) (fun k hk => Nat.le_trans h.hg (Nat.le_trans (Nat.le_of_lt h.gw) (R2.lt k hk).1))).setCell h.hg _
end Go.Proofs.Ytcehklnonhalhaa
