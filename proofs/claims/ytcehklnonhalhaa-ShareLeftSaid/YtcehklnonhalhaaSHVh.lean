/-
  What the proofs of ShareSame and ShareLeft need: Vh Vi.
-/
import Derived.Test.YtcehklnonhalhaaSHVa
import Derived.Test.YtcehklnonhalhaaSHVg
import Derived.Test.YtcehklnonhalhaaSHYe
namespace Go.Proofs.Ytcehklnonhalhaa
open Go.RowKit
set_option linter.unusedVariables false
set_option maxRecDepth 4000

set_option maxHeartbeats 2000000 in
theorem rkey_n (k a b c : Int) (e3 : (k == 3) = false) (e4 : (k == 4) = false) (e5 : (k == 5) = false) (w : World) : Calls Try.prog 24 #[.agg #[.int .i64 k, .int .i64 a, .int .i64 b, .int .i64 c]] w fun e w' => e = .returned (.agg #[.int .i64 k, .int .i64 a, .int .i64 b, .int .i64 c]) ∧ Below w.heap.size w w' := by
  go_enter Try.func24, Try.ntmps24
  go_upto_region 1 with fail
  obtain ⟨w1, e1⟩ : ∃ w', (w.alloc (.cells #[.int .i64 k, .int .i64 a, .int .i64 b, .int .i64 c] 43)).alloc (.cells #[.int .i64 0, .int .i64 0, .int .i64 0, .int .i64 0] 43) = w' := ⟨_, rfl⟩
  have z0 : Own w1 w.heap.size 43 [.int .i64 k, .int .i64 a, .int .i64 b, .int .i64 c] := by
    rw [← e1]
    exact (Own.made w 43 [.int .i64 k, .int .i64 a, .int .i64 b, .int .i64 c]).below (below_lit _ _) (by simp)
  have ZR : Own w1 (w.heap.size + 1) 43 [.int .i64 0, .int .i64 0, .int .i64 0, .int .i64 0] := by
    rw [← e1, ← size_lit w (.cells #[.int .i64 k, .int .i64 a, .int .i64 b, .int .i64 c] 43) rfl]
    exact Own.made _ 43 [.int .i64 0, .int .i64 0, .int .i64 0, .int .i64 0]
  have BW : Below w.heap.size w w1 := by rw [← e1]; exact below2 _ _ _
  obtain ⟨s1, hs1⟩ : ∃ s1, w.heap.size + 1 = s1 := ⟨_, rfl⟩
  obtain ⟨s0, hs0⟩ : ∃ s0, w.heap.size = s0 := ⟨_, rfl⟩
  have hle : s0 ≤ s1 := by omega
  have hne : s0 ≠ s1 := by omega
  rw [e1]
  clear e1
  rw [hs1] at ZR ⊢
  rw [hs0] at z0 BW ⊢
  have c0 : _ = some (Value.int .i64 k) := z0.cell 0; have c1 : _ = some (Value.int .i64 a) := z0.cell 1; have c2 : _ = some (Value.int .i64 b) := z0.cell 2; have c3 : _ = some (Value.int .i64 c) := z0.cell 3
  have zr0 : _ = some (Value.int .i64 0) := ZR.cell 0; have zf0 := ZR.free 0; have zr1 : _ = some (Value.int .i64 0) := ZR.cell 1; have zf1 := ZR.free 1; have zr2 : _ = some (Value.int .i64 0) := ZR.cell 2; have zf2 := ZR.free 2; have zr3 : _ = some (Value.int .i64 0) := ZR.cell 3; have zf3 := ZR.free 3
  go_wp2_with fail
  have VR := (((ZR.put 0 (.int .i64 k)).put 1 (.int .i64 a)).put 2 (.int .i64 b)).put 3 (.int .i64 c)
  have p0 : _ = some (Value.int .i64 k) := VR.cell 0; have p1 : _ = some (Value.int .i64 a) := VR.cell 1; have p2 : _ = some (Value.int .i64 b) := VR.cell 2; have p3 : _ = some (Value.int .i64 c) := VR.cell 3
  refine bodyPost_ret (v := .agg #[.int .i64 k, .int .i64 a, .int .i64 b, .int .i64 c]) (by simp [results, Try.results24, go_sem, p0, p1, p2, p3]) rfl ⟨rfl, by (try rw [hs0]); exact ((((BW.setCell (p := ⟨s1, 0, none⟩) hle (.int .i64 k)).setCell (p := ⟨s1, 1, none⟩) hle (.int .i64 a)).setCell (p := ⟨s1, 2, none⟩) hle (.int .i64 b)).setCell (p := ⟨s1, 3, none⟩) hle (.int .i64 c))⟩
set_option maxHeartbeats 2000000 in
theorem rkey_3 (a b c : Int) (hl : ¬ b < a) (hd : decide (b < a) = false) (w : World) : Calls Try.prog 24 #[.agg #[.int .i64 3, .int .i64 a, .int .i64 b, .int .i64 c]] w fun e w' => e = .returned (.agg #[.int .i64 3, .int .i64 a, .int .i64 b, .int .i64 c]) ∧ Below w.heap.size w w' := by
  go_enter Try.func24, Try.ntmps24
  go_upto_region 1 with fail
  obtain ⟨w1, e1⟩ : ∃ w', (w.alloc (.cells #[.int .i64 3, .int .i64 a, .int .i64 b, .int .i64 c] 43)).alloc (.cells #[.int .i64 0, .int .i64 0, .int .i64 0, .int .i64 0] 43) = w' := ⟨_, rfl⟩
  have z0 : Own w1 w.heap.size 43 [.int .i64 3, .int .i64 a, .int .i64 b, .int .i64 c] := by
    rw [← e1]
    exact (Own.made w 43 [.int .i64 3, .int .i64 a, .int .i64 b, .int .i64 c]).below (below_lit _ _) (by simp)
  have ZR : Own w1 (w.heap.size + 1) 43 [.int .i64 0, .int .i64 0, .int .i64 0, .int .i64 0] := by
    rw [← e1, ← size_lit w (.cells #[.int .i64 3, .int .i64 a, .int .i64 b, .int .i64 c] 43) rfl]
    exact Own.made _ 43 [.int .i64 0, .int .i64 0, .int .i64 0, .int .i64 0]
  have BW : Below w.heap.size w w1 := by rw [← e1]; exact below2 _ _ _
  obtain ⟨s1, hs1⟩ : ∃ s1, w.heap.size + 1 = s1 := ⟨_, rfl⟩
  obtain ⟨s0, hs0⟩ : ∃ s0, w.heap.size = s0 := ⟨_, rfl⟩
  have hle : s0 ≤ s1 := by omega
  have hne : s0 ≠ s1 := by omega
  rw [e1]
  clear e1
  rw [hs1] at ZR ⊢
  rw [hs0] at z0 BW ⊢
  have c0 : _ = some (Value.int .i64 3) := z0.cell 0; have c1 : _ = some (Value.int .i64 a) := z0.cell 1; have c2 : _ = some (Value.int .i64 b) := z0.cell 2; have c3 : _ = some (Value.int .i64 c) := z0.cell 3
  have zr0 : _ = some (Value.int .i64 0) := ZR.cell 0; have zf0 := ZR.free 0; have zr1 : _ = some (Value.int .i64 0) := ZR.cell 1; have zf1 := ZR.free 1; have zr2 : _ = some (Value.int .i64 0) := ZR.cell 2; have zf2 := ZR.free 2; have zr3 : _ = some (Value.int .i64 0) := ZR.cell 3; have zf3 := ZR.free 3
  go_wp2_with fail
  have VR := (((ZR.put 0 (.int .i64 3)).put 1 (.int .i64 a)).put 2 (.int .i64 b)).put 3 (.int .i64 c)
  have p0 : _ = some (Value.int .i64 3) := VR.cell 0; have p1 : _ = some (Value.int .i64 a) := VR.cell 1; have p2 : _ = some (Value.int .i64 b) := VR.cell 2; have p3 : _ = some (Value.int .i64 c) := VR.cell 3
  refine bodyPost_ret (v := .agg #[.int .i64 3, .int .i64 a, .int .i64 b, .int .i64 c]) (by simp [results, Try.results24, go_sem, p0, p1, p2, p3]) rfl ⟨rfl, by (try rw [hs0]); exact ((((BW.setCell (p := ⟨s1, 0, none⟩) hle (.int .i64 3)).setCell (p := ⟨s1, 1, none⟩) hle (.int .i64 a)).setCell (p := ⟨s1, 2, none⟩) hle (.int .i64 b)).setCell (p := ⟨s1, 3, none⟩) hle (.int .i64 c))⟩
set_option maxHeartbeats 2000000 in
theorem rkey_4 (a b c : Int) (hl : ¬ b < a) (hd : decide (b < a) = false) (w : World) : Calls Try.prog 24 #[.agg #[.int .i64 4, .int .i64 a, .int .i64 b, .int .i64 c]] w fun e w' => e = .returned (.agg #[.int .i64 4, .int .i64 a, .int .i64 b, .int .i64 c]) ∧ Below w.heap.size w w' := by
  go_enter Try.func24, Try.ntmps24
  go_upto_region 1 with fail
  obtain ⟨w1, e1⟩ : ∃ w', (w.alloc (.cells #[.int .i64 4, .int .i64 a, .int .i64 b, .int .i64 c] 43)).alloc (.cells #[.int .i64 0, .int .i64 0, .int .i64 0, .int .i64 0] 43) = w' := ⟨_, rfl⟩
  have z0 : Own w1 w.heap.size 43 [.int .i64 4, .int .i64 a, .int .i64 b, .int .i64 c] := by
    rw [← e1]
    exact (Own.made w 43 [.int .i64 4, .int .i64 a, .int .i64 b, .int .i64 c]).below (below_lit _ _) (by simp)
  have ZR : Own w1 (w.heap.size + 1) 43 [.int .i64 0, .int .i64 0, .int .i64 0, .int .i64 0] := by
    rw [← e1, ← size_lit w (.cells #[.int .i64 4, .int .i64 a, .int .i64 b, .int .i64 c] 43) rfl]
    exact Own.made _ 43 [.int .i64 0, .int .i64 0, .int .i64 0, .int .i64 0]
  have BW : Below w.heap.size w w1 := by rw [← e1]; exact below2 _ _ _
  obtain ⟨s1, hs1⟩ : ∃ s1, w.heap.size + 1 = s1 := ⟨_, rfl⟩
  obtain ⟨s0, hs0⟩ : ∃ s0, w.heap.size = s0 := ⟨_, rfl⟩
  have hle : s0 ≤ s1 := by omega
  have hne : s0 ≠ s1 := by omega
  rw [e1]
  clear e1
  rw [hs1] at ZR ⊢
  rw [hs0] at z0 BW ⊢
  have c0 : _ = some (Value.int .i64 4) := z0.cell 0; have c1 : _ = some (Value.int .i64 a) := z0.cell 1; have c2 : _ = some (Value.int .i64 b) := z0.cell 2; have c3 : _ = some (Value.int .i64 c) := z0.cell 3
  have zr0 : _ = some (Value.int .i64 0) := ZR.cell 0; have zf0 := ZR.free 0; have zr1 : _ = some (Value.int .i64 0) := ZR.cell 1; have zf1 := ZR.free 1; have zr2 : _ = some (Value.int .i64 0) := ZR.cell 2; have zf2 := ZR.free 2; have zr3 : _ = some (Value.int .i64 0) := ZR.cell 3; have zf3 := ZR.free 3
  go_wp2_with fail
  have VR := (((ZR.put 0 (.int .i64 4)).put 1 (.int .i64 a)).put 2 (.int .i64 b)).put 3 (.int .i64 c)
  have p0 : _ = some (Value.int .i64 4) := VR.cell 0; have p1 : _ = some (Value.int .i64 a) := VR.cell 1; have p2 : _ = some (Value.int .i64 b) := VR.cell 2; have p3 : _ = some (Value.int .i64 c) := VR.cell 3
  refine bodyPost_ret (v := .agg #[.int .i64 4, .int .i64 a, .int .i64 b, .int .i64 c]) (by simp [results, Try.results24, go_sem, p0, p1, p2, p3]) rfl ⟨rfl, by (try rw [hs0]); exact ((((BW.setCell (p := ⟨s1, 0, none⟩) hle (.int .i64 4)).setCell (p := ⟨s1, 1, none⟩) hle (.int .i64 a)).setCell (p := ⟨s1, 2, none⟩) hle (.int .i64 b)).setCell (p := ⟨s1, 3, none⟩) hle (.int .i64 c))⟩
set_option maxHeartbeats 2000000 in
theorem rkey_5 (a b c : Int) (hl : ¬ b < a) (hd : decide (b < a) = false) (w : World) : Calls Try.prog 24 #[.agg #[.int .i64 5, .int .i64 a, .int .i64 b, .int .i64 c]] w fun e w' => e = .returned (.agg #[.int .i64 5, .int .i64 a, .int .i64 b, .int .i64 c]) ∧ Below w.heap.size w w' := by
  go_enter Try.func24, Try.ntmps24
  go_upto_region 1 with fail
  obtain ⟨w1, e1⟩ : ∃ w', (w.alloc (.cells #[.int .i64 5, .int .i64 a, .int .i64 b, .int .i64 c] 43)).alloc (.cells #[.int .i64 0, .int .i64 0, .int .i64 0, .int .i64 0] 43) = w' := ⟨_, rfl⟩
  have z0 : Own w1 w.heap.size 43 [.int .i64 5, .int .i64 a, .int .i64 b, .int .i64 c] := by
    rw [← e1]
    exact (Own.made w 43 [.int .i64 5, .int .i64 a, .int .i64 b, .int .i64 c]).below (below_lit _ _) (by simp)
  have ZR : Own w1 (w.heap.size + 1) 43 [.int .i64 0, .int .i64 0, .int .i64 0, .int .i64 0] := by
    rw [← e1, ← size_lit w (.cells #[.int .i64 5, .int .i64 a, .int .i64 b, .int .i64 c] 43) rfl]
    exact Own.made _ 43 [.int .i64 0, .int .i64 0, .int .i64 0, .int .i64 0]
  have BW : Below w.heap.size w w1 := by rw [← e1]; exact below2 _ _ _
  obtain ⟨s1, hs1⟩ : ∃ s1, w.heap.size + 1 = s1 := ⟨_, rfl⟩
  obtain ⟨s0, hs0⟩ : ∃ s0, w.heap.size = s0 := ⟨_, rfl⟩
  have hle : s0 ≤ s1 := by omega
  have hne : s0 ≠ s1 := by omega
  rw [e1]
  clear e1
  rw [hs1] at ZR ⊢
  rw [hs0] at z0 BW ⊢
  have c0 : _ = some (Value.int .i64 5) := z0.cell 0; have c1 : _ = some (Value.int .i64 a) := z0.cell 1; have c2 : _ = some (Value.int .i64 b) := z0.cell 2; have c3 : _ = some (Value.int .i64 c) := z0.cell 3
  have zr0 : _ = some (Value.int .i64 0) := ZR.cell 0; have zf0 := ZR.free 0; have zr1 : _ = some (Value.int .i64 0) := ZR.cell 1; have zf1 := ZR.free 1; have zr2 : _ = some (Value.int .i64 0) := ZR.cell 2; have zf2 := ZR.free 2; have zr3 : _ = some (Value.int .i64 0) := ZR.cell 3; have zf3 := ZR.free 3
  go_wp2_with fail
  have VR := (((ZR.put 0 (.int .i64 5)).put 1 (.int .i64 a)).put 2 (.int .i64 b)).put 3 (.int .i64 c)
  have p0 : _ = some (Value.int .i64 5) := VR.cell 0; have p1 : _ = some (Value.int .i64 a) := VR.cell 1; have p2 : _ = some (Value.int .i64 b) := VR.cell 2; have p3 : _ = some (Value.int .i64 c) := VR.cell 3
  refine bodyPost_ret (v := .agg #[.int .i64 5, .int .i64 a, .int .i64 b, .int .i64 c]) (by simp [results, Try.results24, go_sem, p0, p1, p2, p3]) rfl ⟨rfl, by (try rw [hs0]); exact ((((BW.setCell (p := ⟨s1, 0, none⟩) hle (.int .i64 5)).setCell (p := ⟨s1, 1, none⟩) hle (.int .i64 a)).setCell (p := ⟨s1, 2, none⟩) hle (.int .i64 b)).setCell (p := ⟨s1, 3, none⟩) hle (.int .i64 c))⟩
theorem rkey_as {x : Nd} (h : keyS x = x) (w : World) : Calls Try.prog 24 #[ndA x] w fun e w' => e = .returned (ndA x) ∧ Below w.heap.size w w' := by
  obtain ⟨k, a, b, c⟩ := x
  unfold keyS at h
  have lt : k = 3 ∨ k = 4 ∨ k = 5 → ¬ b < a ∧ decide (b < a) = false := fun hk => by
    rw [if_pos hk] at h
    injection h with _ h _ _
    have h : min a b = a := h
    have : ¬ b < a := by omega
    exact ⟨this, by simpa using this⟩
  by_cases e3 : k = 3
  · subst e3
    exact rkey_3 a b c (lt (.inl rfl)).1 (lt (.inl rfl)).2 w
  by_cases e4 : k = 4
  · subst e4
    exact rkey_4 a b c (lt (.inr (.inl rfl))).1 (lt (.inr (.inl rfl))).2 w
  by_cases e5 : k = 5
  · subst e5
    exact rkey_5 a b c (lt (.inr (.inr rfl))).1 (lt (.inr (.inr rfl))).2 w
  exact rkey_n k a b c (beq_ff e3) (beq_ff e4) (beq_ff e5) w
end Go.Proofs.Ytcehklnonhalhaa
namespace Go.Proofs.Ytcehklnonhalhaa
open Go.RowKit
open Go.Maps (Keyed)
set_option linter.unusedVariables false
set_option maxRecDepth 4000

/-- the call's own set of nodes. -/
def MapB (w : World) (b n : Nat) (D : DataW Unit) : Prop := w.ownsMap Try.prog 43 (plainElem Try.prog 4) b n D
theorem MapB.below {w w' : World} {b n : Nat} {D : DataW Unit} (h : MapB w b n D) (hb : Below w.heap.size w w') : MapB w' b n D := by
  obtain ⟨es, clock, h1, h2⟩ := h
  exact ⟨es, clock, (hb.block b (Array.getElem?_eq_some_iff.1 h1).1).trans h1, h2⟩
theorem MapB.lt {w : World} {b n : Nat} {D : DataW Unit} (h : MapB w b n D) : b < w.heap.size := by
  obtain ⟨es, clock, h1, h2⟩ := h
  exact (Array.getElem?_eq_some_iff.1 h1).1
theorem mapB_ne {w : World} {B b n m : Nat} {e : TypeId} {s : Nat} {D : DataW Unit} {v : Value} {xs : List Value} (h : w.ownsRow B e s v n xs) (k : MapB w b m D) : some b ≠ v.ownBlock := fun q => by
  rcases h.2 with ⟨e1, _⟩ | ⟨g, cap, cur, e1, _, hg, _⟩
  · rw [e1] at q
    cases q
  · rw [e1] at q
    injection q with q
    obtain ⟨es, clock, hb, _⟩ := k
    rw [q, hg] at hb
    cases hb
/-- no node that was not seen is in the set. -/
def Sk (M : List Nd) (V : List Nat) (D : DataW Unit) : Prop := ∀ y, wfN y → (∀ v ∈ V, ∀ x, M[v]? = some x → ¬ (x.k = 1 ∨ x.k = 7) → x ≠ y) → D.atKey (kN y) (.lit (.bool false)) = .lit (.bool false)
theorem Sk.start {M : List Nd} : Sk M [] (.map []) := fun y _ _ => rfl
/-- what is known of the shared net. -/
structure LkS (nn : Nat) (M : List Nd) (S : List Int) (O : List Pt) : Prop where
  outs : ∀ p ∈ O, ∀ t ∈ p.bits, Gp S nn t
  uses : ∀ q, q < nn → S.getD q 0 = (q : Int) → ∀ x, M[q]? = some x → ∀ y ∈ usesS x, Gp S nn y
  wf : ∀ q, q < nn → S.getD q 0 = (q : Int) → ∀ x, M[q]? = some x → ¬ (x.k = 1 ∨ x.k = 7) → wfN x ∧ keyS x = x
  one : ∀ a b, a < nn → b < nn → S.getD a 0 = (a : Int) → S.getD b 0 = (b : Int) → ∀ x, M[a]? = some x → M[b]? = some x → ¬ (x.k = 1 ∨ x.k = 7) → a = b
theorem lk_of {N : List Nd} {O : List Pt} {pos : Nat → Nat} {i : Nat} {M : List Nd} {S : List Int} {F : Nd → Option Nat} (hp : Pos N pos) (h : SI N pos i M S F) (hall : ∀ q, q < N.length → pos q < i) (hpl : ∀ p ∈ O, ∀ q ∈ p.bits, placeS (N.length : Int) q = true) (hn : N.length ≤ 100000) : LkS N.length (M.map (dffS S)) S (O.map (outF S)) where
  outs := fun p hp t ht => by
    obtain ⟨p0, hp0, rfl⟩ := List.mem_map.1 hp
    unfold outF at ht
    obtain ⟨z, hz, rfl⟩ := List.mem_map.1 ht
    have hz := hpl p0 hp0 z hz
    unfold placeS at hz
    simp at hz
    obtain ⟨m, rfl⟩ := Int.eq_ofNat_of_zero_le hz.1
    obtain ⟨g1, g2⟩ := h.rw.st m (by omega) (hall m (by omega))
    have e : sA S ((m : Nat) : Int) = S.getD m 0 := by unfold sA; rw [Int.toNat_natCast]
    rw [e]
    obtain ⟨k, hk, hkn, _⟩ := g1.nat
    refine ⟨k, hk, hkn, ?_⟩
    unfold sA at g2
    rw [hk, Int.toNat_natCast] at g2
    exact g2
  uses := fun q hq hs x hx y hy => by
    obtain ⟨m, e, hm, hs2⟩ := h.rw.reach hp hall hq hs y (by rw [getD_n9 hx]; exact hy)
    exact ⟨m, e, hm, hs2⟩
  wf := fun q hq hs x hx hk => by
    have e := getD_n9 hx
    obtain ⟨k1, k2⟩ := h.rw.kinds hall hq
    have hio : ¬ isIO (N.getD q nd0) := fun hio => hk (by
      have := k1 hio
      rw [e] at this
      rw [this]
      exact hio)
    have e2 := (k2 hio).2
    rw [e] at e2
    rw [e2]
    exact ⟨ok_wf (h.rw.ok q hq (hall q hq) hio) hn, h.key q hq (hall q hq) hio⟩
  one := fun a b ha hb hsa hsb x hxa hxb hk => by
    have ea := getD_n9 hxa
    have eb := getD_n9 hxb
    have io : ∀ q, q < N.length → (M.map (dffS S)).getD q nd0 = x → ¬ isIO (N.getD q nd0) ∧ x = M.getD q nd0 := fun q hq e => by
      obtain ⟨k1, k2⟩ := h.rw.kinds hall hq
      have hio : ¬ isIO (N.getD q nd0) := fun hio => hk (by
        have := k1 hio
        rw [e] at this
        rw [this]
        exact hio)
      have e2 := (k2 hio).2
      rw [e] at e2
      exact ⟨hio, e2⟩
    obtain ⟨i1, e1⟩ := io a ha ea
    obtain ⟨i2, e2⟩ := io b hb eb
    exact h.left hall ha hb hsa hsb i1 i2 (e1.symm.trans e2)
set_option maxRecDepth 20000 in
set_option maxHeartbeats 16000000 in
theorem shareLeft_as {An Ai Ao : Option Addr} {nn cn ni ci no co : Nat} {N : List Nd} {I O : List Pt} {w : World} (h : NetIn w An nn cn Ai ni ci Ao no co N I O) :
    Calls Try.prog 6 #[.agg #[.slice An nn cn, .slice Ai ni ci, .slice Ao no co]] w fun en w' => en = .returned (.bool true) ∧ Below w.heap.size w w' := by
  go_enter Try.func6, Try.ntmps6
  go_upto_region 1 with fail
  obtain ⟨w1, e_w1⟩ : ∃ w', w.alloc (.cells #[.slice An nn cn, .slice Ai ni ci, .slice Ao no co] 25) = w' := ⟨_, rfl⟩
  have z0 : Bx w1 w.heap.size [.slice An nn cn, .slice Ai ni ci, .slice Ao no co] := e_w1 ▸ Bx.made_k w rfl #[.slice An nn cn, .slice Ai ni ci, .slice Ao no co] 25
  have BW : Below w.heap.size w w1 := e_w1 ▸ below_lit _ _
  rw [e_w1]
  clear e_w1
  replace h := h.on BW
  go_wp2_with fail
  refine (awake10_any _).mono ?_
  rintro en w2 ⟨rfl, b⟩
  replace h := h.on b
  replace z0 := z0.on b
  replace BW := Below.step BW b
  clear b
  obtain ⟨v, hv⟩ : ∃ v, largeS nn ni no I O 60 = v := ⟨_, rfl⟩
  have HV := Lib.hid hv
  clear hv
  have c0 := z0.2 0 _ rfl; have c1 := z0.2 1 _ rfl; have c2 := z0.2 2 _ rfl
  go_wp2_with fail
  refine (h.large v HV.out).mono ?_
  rintro en w3 ⟨rfl, b⟩
  clear c0 c1 c2
  replace h := h.on b
  replace z0 := z0.on b
  replace BW := Below.step BW b
  clear b
  cases v
  case true =>
    go_wp2_with fail
    go_ret
    exact ⟨rfl, BW⟩
  obtain ⟨hn, hn60, hi66, ho66, hbb⟩ := h.nt HV.out
  have HBB : Hid (∀ p ∈ I ++ O, p.bits.length ≤ 100000) := Lib.hid fun p hp => by have := (hbb p hp).1; omega
  have HB4 : Hid (∀ p ∈ O, p.bits.length ≤ 4000) := Lib.hid fun p hp => (hbb p (List.mem_append_right _ hp)).1
  have sn := h.sn
  clear h hbb HV
  obtain ⟨d, e, hl⟩ : ∃ d e, levelS N I O = (d, e) := ⟨_, _, rfl⟩
  have c0 := z0.2 0 _ rfl; have c1 := z0.2 1 _ rfl; have c2 := z0.2 2 _ rfl
  by_cases he : e = 0
  case neg =>
    have d0 : (e != 0) = true := by simpa using he
    have HL := Lib.hid hl
    clear hl he
    go_upto_region 6 with (go_at_call 23; (with_reducible refine (share_no hn HL.out d0).mono ?_); (rintro en w7 ⟨rfl, b⟩; clear c0 c1 c2; replace BW := Below.step BW b; clear b))
    have b : Below w7.heap.size w7 (w7.alloc (.cells #[.slice none 0 0, .slice none 0 0, .slice none 0 0] 25)) := below_lit _ _
    replace BW := Below.step BW b
    clear b
    go_wp2_with fail
    go_ret
    exact ⟨rfl, BW⟩
  subst he
  obtain ⟨dd, rfl⟩ := some_of9 hl
  obtain ⟨L, lx⟩ := lv_x hl
  have LX := Lib.hid lx
  have HLN := Lib.hid hn.n.1
  clear hl lx
  go_upto_region 6 with (go_at_call 23; (with_reducible refine (share_yes hn sn HBB.out LX.out).mono ?_); (rintro en w7 ⟨⟨Bn, dn, Bi, di, Bo, do', M, S, F, rfl, _, hfi, hf, sf⟩, b⟩; clear c0 c1 c2; replace BW := Below.step BW b; clear b))
  have HLF : Hid (LkS nn (M.map (dffS S)) S (O.map (outF S))) := Lib.hid (by rw [← HLN.out]; exact lk_of LX.out.pos hfi (idx_lt LX.out.mem) LX.out.pl (by rw [HLN.out]; omega))
  obtain ⟨w8, e_w8⟩ : ∃ w', w7.alloc (.cells #[.slice Bn nn dn, .slice Bi ni di, .slice Bo no do'] 25) = w' := ⟨_, rfl⟩
  have zf : Bx w8 w7.heap.size [.slice Bn nn dn, .slice Bi ni di, .slice Bo no do'] := e_w8 ▸ Bx.made_k w7 rfl #[.slice Bn nn dn, .slice Bi ni di, .slice Bo no do'] 25
  have b : Below w7.heap.size w7 w8 := e_w8 ▸ below_lit _ _
  rw [e_w8]
  replace hf := hf.on b
  replace BW := Below.step BW b
  obtain ⟨s7, hs7⟩ : ∃ s7, w7.heap.size = s7 := ⟨_, rfl⟩
  rw [hs7] at zf ⊢
  clear e_w8 b hs7 hfi z0 hn
  obtain ⟨M2, hM2⟩ : ∃ M2, M.map (dffS S) = M2 := ⟨_, rfl⟩
  obtain ⟨O2, hO2⟩ : ∃ O2, O.map (outF S) = O2 := ⟨_, rfl⟩
  have HO4 : Hid (∀ p ∈ O2, p.bits.length ≤ 4000) := Lib.hid fun p hp => by
    rw [← hO2] at hp
    obtain ⟨q, hq, rfl⟩ := List.mem_map.1 hp
    unfold outF
    rw [List.length_map]
    exact HB4.out q hq
  rw [hM2, hO2] at HLF hf
  clear hM2 hO2 HB4 LX HLN
  have hmm := @run_makeMap Try.prog
  go_upto_region 11 with fail
  clear hmm
  obtain ⟨wk, e_wk⟩ : ∃ w', w8.alloc (.map #[] 0) = w' := ⟨_, rfl⟩
  have bk : Below w8.heap.size w8 wk := e_wk ▸ below_lit _ _
  obtain ⟨mb, hmb⟩ : ∃ mb, w8.heap.size = mb := ⟨_, rfl⟩
  have hM0 : MapS wk mb 0 (.map []) := by rw [← hmb]; exact e_wk ▸ World.ownsMap_made w8 Try.prog 3 _
  have hmb1 : w8.heap.size ≤ mb := Nat.le_of_eq hmb
  have hmbk : mb < wk.heap.size := hM0.lt
  rw [e_wk]
  obtain ⟨wm, e_wm⟩ : ∃ w', wk.alloc (.map #[] 0) = w' := ⟨_, rfl⟩
  have bkm : Below wk.heap.size wk wm := e_wm ▸ below_lit _ _
  obtain ⟨mb2, hmb2⟩ : ∃ mb2, wk.heap.size = mb2 := ⟨_, rfl⟩
  have hM2 : MapB wm mb2 0 (.map []) := by rw [← hmb2]; exact e_wm ▸ World.ownsMap_made wk Try.prog 43 _
  have hmb12 : mb < mb2 := by omega
  have hsz : wk.heap.size = w8.heap.size + 1 := e_wk ▸ size_lit w8 _ rfl
  rw [hsz, hmb] at hmb2
  rw [e_wm, hmb, hmb2]
  clear hsz e_wk e_wm hmb2 hmb hmbk
  have hM := hM0.below bkm
  have bm : Below w8.heap.size w8 wm := Below.step bk bkm
  have hHM2 := Lib.hid hM2
  have hmw2 : mb2 < wm.heap.size := hM2.lt
  clear bk bkm hM0 hM2
  have hf8 := hf
  have zf8 := zf
  have BW8 := BW
  have bm8 := bm
  replace hf := hf.on bm
  replace zf := zf.on bm
  replace BW := Below.step BW bm
  have hmw : mb < wm.heap.size := hM.lt
  have hHM := Lib.hid hM
  have HLN2 : Hid (M2.length = nn) := Lib.hid hf.n.1
  clear hM bm
  have c2 := zf.2 2 _ rfl
  go_wp2_with fail
  clear c2
  go_loopw [8, 30] (fun tv iv wr => ∃ (vt : Value) (T : List Int) (j : Nat), vt = tv ∧ j ≤ no ∧ iv = .int .i64 j ∧ Hid (wr.ownsRow wm.heap.size 3 1 vt T.length (T.flatMap inC)) ∧ Hid (∀ t ∈ T, Gp S nn t) ∧ T.length ≤ j * 4000 ∧ Hid (MapS wr mb 0 (.map [])) ∧ Hid (MapB wr mb2 0 (.map [])) ∧ Below wm.heap.size wm wr) (fun _ iv _ => no - (intOf iv).toNat)
  case atStart => exact ⟨_, [], 0, rfl, Nat.zero_le _, rfl, Lib.hid (World.ownsRow_nil wm _ _ _), Lib.hid (fun t ht => by cases ht), Nat.zero_le _, hHM, hHM2, Below.refl _ _⟩
  case round =>
    clear hHM hHM2
    obtain ⟨vt, T, j, rfl, hj, rfl, HROW, HGD, hTj, HMP, HMB, BR⟩ := hrel
    by_cases hlt : j < no
    · obtain ⟨⟨nm, bs⟩, hp⟩ := look_ex hf.o.1 hlt
      obtain ⟨b0, off, A', m, c', eA, h2, k1, k2, h5, h6, hi⟩ := (hf.on BR).o.2 j ⟨nm, bs⟩ hp
      have HP := Lib.hid hp
      dsimp only at k1 k2 hi
      subst eA
      have hjn : (j : Int) < (no : Int) := by omega
      have hj0 : (0 : Int) ≤ (j : Int) := by omega
      have hm4 : m ≤ 4000 := by rw [← hi.1]; exact HO4.out _ (List.mem_of_getElem? hp)
      clear hp
      go_upto_region 14 with fail
      obtain ⟨w9, e_w9⟩ : ∃ w', wr.alloc (.cells #[.string nm, .slice A' m c'] 41) = w' := ⟨_, rfl⟩
      have z9 : Bx w9 wr.heap.size [.string nm, .slice A' m c'] := e_w9 ▸ Bx.made_k wr rfl #[.string nm, .slice A' m c'] 41
      have b9 : Below wr.heap.size wr w9 := e_w9 ▸ below_lit _ _
      rw [e_w9]
      have hRO9 := row_on HROW.out b9
      have hMP9 := HMP.out.below b9
      have hMB9 := HMB.out.below b9
      have hi9 := hi.on b9
      have hsr := BR.size
      have BR9 := BR.trans (b9.mono hsr)
      clear e_w9 k1 k2 h2 b9 HROW HMP HMB hi
      have c1 := z9.2 1 _ rfl
      have hbase9 : wm.heap.size ≤ w9.heap.size := BR9.size
      have hTl : T.length ≤ 264000 := by omega
      go_wp2_with (at_builtin; refine wpList_app (A := A') (m := m) (c := c') rfl _ _ 39 rfl elm_int (by omega) (by omega) wm.heap.size _ _ _ rfl hRO9 (bs.flatMap inC) rfl (fun e => ⟨by have := h5.2 e; omega, h5.2 e⟩) (by rw [flat_len inC 1 inC_len, hi9.1]) hi9.cells (one_in _) (by omega) hbase9 ?_; intro v2 w5 hr5 hg5)
      have hM5 := Lib.hid (World.ownsMap.kept hMP9 hg5 (map_ne hRO9 hMP9))
      have hB5 : Hid (MapB w5 mb2 0 (.map [])) := Lib.hid (World.ownsMap.kept hMB9 hg5 (mapB_ne hRO9 hMB9))
      have BR5 := BR9.grown hg5 hbase9 (fun k hk => (hRO9.lt k hk).1)
      have e1 : T.length + m = (T ++ bs).length := by rw [List.length_append, hi9.1]
      rw [← List.flatMap_append, e1] at hr5
      have hr5' := Lib.hid hr5
      have hgd5 : Hid (∀ t ∈ T ++ bs, Gp S nn t) := Lib.hid fun t ht => by
        rcases List.mem_append.1 ht with ht | ht
        · exact HGD.out t ht
        · exact HLF.out.outs _ (List.mem_of_getElem? HP.out) t ht
      have hTb : (T ++ bs).length ≤ (j + 1) * 4000 := by rw [List.length_append, hi9.1]; omega
      clear hr5 e1 hRO9 hMP9 hMB9
      go_roundw
      case rel => exact ⟨v2, T ++ bs, j + 1, rfl, by omega, by go_num, hr5', hgd5, hTb, hM5, hB5, BR5⟩
      case measure => simp [intOf]; omega
    · obtain rfl : j = no := by omega
      have hjn : ¬ (j : Int) < (j : Int) := by omega
      obtain ⟨w6, rfl⟩ : ∃ x, x = wr := ⟨_, rfl⟩
      have B86 := bm8.trans (BR.mono bm8.size)
      have hT0 : T.length ≤ 264000 + 3 * ([] : List Nat).length := by simp; omega
      have hwm8 : w8.heap.size ≤ wm.heap.size := bm8.size
      have hwz : wm.heap.size ≤ w6.heap.size := BR.size
      go_wp2_with fail
      clear BR hTj hf zf BW bm8
      go_loopw [8] (fun tv wr => ∃ (vt : Value) (T : List Int) (V : List Nat) (n : Nat) (D : DataW Unit) (n2 : Nat) (D2 : DataW Unit), vt = tv ∧ Hid (wr.ownsRow wm.heap.size 3 1 vt T.length (T.flatMap inC)) ∧ Hid (∀ t ∈ T, Gp S nn t) ∧ T.length ≤ 264000 + 3 * V.length ∧ Hid (MapS wr mb n D) ∧ n = V.length ∧ Hid (Se V D) ∧ Hid (∀ v ∈ V, v < nn ∧ S.getD v 0 = (v : Int)) ∧ Hid (MapB wr mb2 n2 D2) ∧ n2 ≤ V.length ∧ Hid (Sk M2 V D2) ∧ Below w8.heap.size w8 wr ∧ wm.heap.size ≤ wr.heap.size) (fun tv wr => lenW tv + 4 * (nn - mapSize wr mb))
      case atStart => exact ⟨_, T, [], 0, _, 0, _, rfl, HROW, HGD, hT0, HMP, rfl, Lib.hid Se.start, Lib.hid (fun v hv => by cases hv), HMB, Nat.le_refl _, Lib.hid Sk.start, B86, hwz⟩
      case round =>
        clear HROW HGD HMP HMB B86 hT0
        obtain ⟨vt, T, V, n, D, n2, D2, rfl, HROW, HGD, hTb, HMP, hnV, HSE, HVN, HMB, hn2, HSK, BR, hwr⟩ := hrel
        have hVn : V.length ≤ nn := nodup_le nn V HSE.out.nd fun v hv => (HVN.out v hv).1
        rcases snocI T with rfl | ⟨V0, t, rfl⟩
        · obtain ⟨A6, c6, rfl, sw6, _⟩ := row_at HROW.out
          have e0 : decide ((0 : Int) < (([] : List Int).length : Int)) = false := by simp
          go_wp2_with fail
          go_ret
          exact ⟨rfl, BW8.trans (BR.mono BW8.size)⟩
        · obtain ⟨b6, c6, rfl, hc6, cq, hpop⟩ := row_last HROW.out
          obtain ⟨q, rfl, hq, hsq⟩ := HGD.out t (by simp)
          have HSQ := Lib.hid hsq
          have HPOP := Lib.hid hpop
          have HGD0 : Hid (∀ t ∈ V0, Gp S nn t) := Lib.hid fun t ht => HGD.out t (List.mem_append_left _ ht)
          have hlV : V0.length + 1 ≤ 264000 + 3 * V.length := by rw [List.length_append, List.length_singleton] at hTb; exact hTb
          have q3 : IntKind.i64.wrap (((V0.length : Nat) : Int) + 1 - 1) = (V0.length : Int) := by rw [IntKind.wrap_i64]; omega
          have j2 : (0 : Int) ≤ (V0.length : Int) := by omega
          have j3 : (V0.length : Int) < (V0.length : Int) + 1 := by omega
          have j4 : (V0.length : Int) ≤ (c6 : Int) := by omega
          have hq0 : (0 : Int) ≤ (q : Int) := by omega
          have hqn : (q : Int) < (nn : Int) := by omega
          have e1 : decide ((q : Int) < 0) = false := by simp
          have e2 : decide ((nn : Int) ≤ (q : Int)) = false := by simp; omega
          have e3 : ¬ nn ≤ q := by omega
          have zfr := zf8.on BR
          have cz := zfr.2 0 _ rfl
          have hkey : keyOf Try.prog 3 (.int .i64 (q : Int)) = some (kJ q) := Maps.keyOf_int_mk Try.underlying3 (wf_j64 hq0 (by omega))
          have hat := HSE.out.at_ q
          have hM := HMP.out
          clear hpop hsq hTb HGD
          by_cases hqV : q ∈ V
          · rw [decide_eq_true hqV] at hat
            have HAT := Lib.hid hat
            clear hat
            go_wp2_with (at_lookup; refine wpList_lookup_bool _ rfl _ _ 38 rfl 3 4 (Maps.int_keyed Try.underlying3) Try.underlying38 Try.underlying4 (by kernel_rfl) mb n D rfl hM _ (kJ q) rfl hkey true HAT.out ?_; dsimp only [Act.put]; simp only [List.setIfInBounds_toArray, List.set_cons_succ, List.set_cons_zero])
            go_roundw
            case rel => exact ⟨_, V0, V, n, D, n2, D2, rfl, HPOP, HGD0, by omega, HMP, hnV, HSE, HVN, HMB, hn2, HSK, BR, hwr⟩
            case measure => simp [lenW]
          · rw [decide_eq_false hqV] at hat
            have HAT := Lib.hid hat
            have HQV := Lib.hid hqV
            clear hat hqV
            go_upto_region 22 with (at_lookup; refine wpList_lookup_bool _ rfl _ _ 38 rfl 3 4 (Maps.int_keyed Try.underlying3) Try.underlying38 Try.underlying4 (by kernel_rfl) mb n D rfl hM _ (kJ q) rfl hkey false HAT.out ?_; dsimp only [Act.put]; simp only [List.setIfInBounds_toArray, List.set_cons_succ, List.set_cons_zero])
            have hms : mapSize wr mb = V.length := by rw [hM.size_, HSE.out.size]
            have HMS := Lib.hid hms
            have hnl : n < maxLen := by unfold maxLen; omega
            have hval : plainElem (H := Unit) Try.prog 4 (.bool true) = some (.lit (.bool true), []) := plainElem_bool Try.underlying4 true
            clear cq hms
            go_upto_region 23 with (at_mapUpdate; refine wpList_mapUpdate_own _ rfl _ _ _ 38 rfl 3 4 (Maps.int_keyed Try.underlying3) Try.underlying38 _ mb n D rfl hM hnl _ _ (kJ q) rfl rfl hkey (.lit (.bool true)) [] hval ?_; intro w5 hM5 hG5)
            have hne := map_ne HPOP.out hM
            have HPOP5 := Lib.hid (HPOP.out.kept hG5 (.inr fun e => hne e.symm))
            have HSE5 : Hid (Se (q :: V) (D.put (kJ q) (.lit (.bool true)))) := Lib.hid (HSE.out.put hM.isMap (hM.tidy (Maps.int_keyed Try.underlying3)) HQV.out)
            have hMB5 : MapB w5 mb2 n2 D2 := World.ownsMap.kept HMB.out hG5 (fun e => by injection e with e; omega)
            have HMB5 := Lib.hid hMB5
            have HVN5 : Hid (∀ v ∈ q :: V, v < nn ∧ S.getD v 0 = (v : Int)) := Lib.hid fun v hv => by
              rcases List.mem_cons.1 hv with e | h
              · rw [e]; exact ⟨hq, HSQ.out⟩
              · exact HVN.out v h
            have hV5 : V.length + 1 ≤ nn := by have := nodup_le nn (q :: V) HSE5.out.nd (fun v hv => (HVN5.out v hv).1); simpa using this
            have BR5 := BR.grown hG5 BR.size (fun k hk => by injection hk with hk; omega)
            have hwr5 : wm.heap.size ≤ w5.heap.size := Nat.le_trans hwr hG5.size
            have HM5 : Hid (MapS w5 mb (n + 1) (D.put (kJ q) (.lit (.bool true)))) := Lib.hid hM5
            obtain ⟨bn, off, x1, x2, x3, x4, eA, HX, hA⟩ := (hf8.n.on BR5).nat hq
            have EA := Lib.hid eA
            have cz5 := (zf8.on BR5).2 0 _ rfl
            rw [eA] at cz5
            have a0 := hA.c1; have a1 := hA.c2; have a2 := hA.c3; have a3 := hA.c4
            clear hM BR cz zfr HMP HSE hG5 hne hM5 hMB5 HMB hkey hval HAT HROW eA hwr
            go_upto_region 24 with fail
            obtain ⟨w7, e_w7⟩ : ∃ w', w5.alloc (.cells #[.int .i64 x1, .int .i64 x2, .int .i64 x3, .int .i64 x4] 43) = w' := ⟨_, rfl⟩
            have z11 : Bx w7 w5.heap.size [.int .i64 x1, .int .i64 x2, .int .i64 x3, .int .i64 x4] := e_w7 ▸ Bx.made_k w5 rfl #[.int .i64 x1, .int .i64 x2, .int .i64 x3, .int .i64 x4] 43
            have b7 : Below w5.heap.size w5 w7 := e_w7 ▸ below_lit _ _
            have hb6 : b6 < w5.heap.size := (HPOP5.out.lt b6 rfl).2
            rw [e_w7]
            have HPOP7 := Lib.hid (row_on HPOP5.out b7)
            have HM7 := Lib.hid (HM5.out.below b7)
            have HMB7 := Lib.hid (HMB5.out.below b7)
            have BR7 := BR5.trans (b7.mono BR5.size)
            have hwr7 : wm.heap.size ≤ w7.heap.size := Nat.le_trans hwr5 b7.size
            obtain ⟨s11, hs11⟩ : ∃ s11, w5.heap.size = s11 := ⟨_, rfl⟩
            rw [hs11] at z11 hb6 ⊢
            clear e_w7 hs11 b7 HPOP5 HM5 HMB5 BR5 hwr5 cz5 a0 a1 a2 a3 hA
            have c0 := z11.2 0 _ rfl; have c1 := z11.2 1 _ rfl; have c2 := z11.2 2 _ rfl; have c3 := z11.2 3 _ rfl
            go_wp2_with fail
            refine (rusesW_as x1 x2 x3 x4 _).mono ?_
            rintro en w9 ⟨Au, mu, cu, rfl, hu, hm3, swu, b9⟩
            replace z11 := z11.on b9
            have HPOP9 := row_on HPOP7.out b9
            have hM9 := HM7.out.below b9
            have hMB9 := HMB7.out.below b9
            have BR9 := BR7.trans (b9.mono BR7.size)
            have hwr9 : wm.heap.size ≤ w9.heap.size := Nat.le_trans hwr7 b9.size
            have hs6 : s11 ≠ b6 := by omega
            clear c0 c1 c2 c3 HPOP7 HM7 HMB7 BR7 hwr7 b9
            go_upto_region 25 with (at_builtin; refine wpList_app (A := Au) (m := mu) (c := cu) rfl _ _ 39 rfl elm_int (by omega) (by omega) wm.heap.size _ _ _ rfl HPOP9 ((usesS ⟨x1, x2, x3, x4⟩).flatMap inC) rfl swu.none_ (by rw [flat_len inC 1 inC_len, hu.1]) hu.cells (one_in _) (by omega) hwr9 ?_; intro v2 w10 hr10 hg10)
            have HM10 : Hid (MapS w10 mb (n + 1) (D.put (kJ q) (.lit (.bool true)))) := Lib.hid (World.ownsMap.kept hM9 hg10 (map_ne HPOP9 hM9))
            have HMB10 : Hid (MapB w10 mb2 n2 D2) := Lib.hid (World.ownsMap.kept hMB9 hg10 (mapB_ne HPOP9 hMB9))
            have BR10 := BR9.grown hg10 BR9.size (fun k hk => Nat.le_trans hwm8 (HPOP9.lt k hk).1)
            have z12 := z11.far hg10 hs6
            have e1 : V0.length + mu = (V0 ++ usesS ⟨x1, x2, x3, x4⟩).length := by rw [List.length_append, hu.1]
            have hlen : (V0 ++ usesS ⟨x1, x2, x3, x4⟩).length ≤ V0.length + 3 := by omega
            rw [← List.flatMap_append, e1] at hr10
            have HR10 := Lib.hid hr10
            have HGU : Hid (∀ y ∈ usesS ⟨x1, x2, x3, x4⟩, Gp S nn y) := Lib.hid (HLF.out.uses q hq HSQ.out _ HX.out)
            have HGD10 : Hid (∀ t ∈ V0 ++ usesS ⟨x1, x2, x3, x4⟩, Gp S nn t) := Lib.hid fun t ht => by
              rcases List.mem_append.1 ht with ht | ht
              · exact HGD0.out t ht
              · exact HGU.out t ht
            have hwr10 : wm.heap.size ≤ w10.heap.size := Nat.le_trans hwr9 hg10.size
            have hTb : (V0 ++ usesS ⟨x1, x2, x3, x4⟩).length ≤ 264000 + 3 * (q :: V).length := by simp only [List.length_cons]; omega
            have hn10 : n + 1 = (q :: V).length := by simp [hnV]
            obtain ⟨U, hU⟩ : ∃ U, usesS ⟨x1, x2, x3, x4⟩ = U := ⟨_, rfl⟩
            have HU := Lib.hid hU
            rw [hU] at HR10 HGD10 HGU hlen hTb
            clear hr10 e1 HPOP9 hM9 hMB9 hg10 BR9 z11 hwr9 hu swu hU HGD0 HPOP
            have c0 := z12.2 0 _ rfl
            have fin : ∀ (wl : World) (n2' : Nat) (D2' : DataW Unit), wl.ownsRow wm.heap.size 3 1 v2 (V0 ++ U).length ((V0 ++ U).flatMap inC) → MapS wl mb (n + 1) (D.put (kJ q) (.lit (.bool true))) → MapB wl mb2 n2' D2' → n2' ≤ V.length + 1 → Sk M2 (q :: V) D2' → Below w8.heap.size w8 wl → wm.heap.size ≤ wl.heap.size → (∃ (vt : Value) (T : List Int) (V : List Nat) (n : Nat) (D : DataW Unit) (n2 : Nat) (D2 : DataW Unit), vt = v2 ∧ Hid (wl.ownsRow wm.heap.size 3 1 vt T.length (T.flatMap inC)) ∧ Hid (∀ t ∈ T, Gp S nn t) ∧ T.length ≤ 264000 + 3 * V.length ∧ Hid (MapS wl mb n D) ∧ n = V.length ∧ Hid (Se V D) ∧ Hid (∀ v ∈ V, v < nn ∧ S.getD v 0 = (v : Int)) ∧ Hid (MapB wl mb2 n2 D2) ∧ n2 ≤ V.length ∧ Hid (Sk M2 V D2) ∧ Below w8.heap.size w8 wl ∧ wm.heap.size ≤ wl.heap.size) ∧ lenW v2 + 4 * (nn - mapSize wl mb) < V0.length + 1 + 4 * (nn - mapSize wr mb) := fun wl n2' D2' hr hm hb hn' hsk bl hw => by
              refine ⟨⟨v2, V0 ++ U, q :: V, n + 1, _, n2', D2', rfl, Lib.hid hr, HGD10, hTb, Lib.hid hm, hn10, HSE5, HVN5, Lib.hid hb, by simpa using hn', Lib.hid hsk, bl, hw⟩, ?_⟩
              rw [row_len hr, hm.size_, HSE5.out.size, HMS.out]
              simp only [List.length_cons]
              omega
            have FIN := Lib.hid fin
            have HSK1 : Hid (Sk M2 (q :: V) D2) := Lib.hid fun y hy hk => HSK.out y hy fun v hv => hk v (List.mem_cons_of_mem _ hv)
            clear fin
            by_cases h25 : x1 = 1 ∨ x1 = 7
            case pos =>
              have F := FIN.out w10 n2 D2 HR10.out HM10.out HMB10.out (by omega) HSK1.out BR10 hwr10
              have HF1 := Lib.hid F.1
              have HF2 := Lib.hid F.2
              rcases hx : decide (x1 = 1) with _ | _
              · have hx : x1 ≠ 1 := by simpa using hx
                have e4 : (x1 == 1) = false := beq_ff hx
                have e5 : (x1 == 7) = true := beq_tt (h25.resolve_left hx)
                clear F h25 hx
                go_wp2_with fail
                go_roundw
                case rel => exact HF1.out
                case measure => exact HF2.out
              · have hx : x1 = 1 := by simpa using hx
                have e4 : (x1 == 1) = true := beq_tt hx
                clear F h25 hx
                go_wp2_with fail
                go_roundw
                case rel => exact HF1.out
                case measure => exact HF2.out
            case neg =>
              have e4 : (x1 == 1) = false := beq_ff fun e => h25 (.inl e)
              have e5 : (x1 == 7) = false := beq_ff fun e => h25 (.inr e)
              obtain ⟨hwf, hkx⟩ := HLF.out.wf q hq HSQ.out _ HX.out h25
              have HWF := Lib.hid hwf
              have HKX := Lib.hid hkx
              have HSK2 : Hid (D2.atKey (kN ⟨x1, x2, x3, x4⟩) (.lit (.bool false)) = .lit (.bool false)) := Lib.hid (HSK.out _ hwf fun v hv x hx hio e => by
                subst e
                have h1 := HVN.out v hv
                have := HLF.out.one v q h1.1 hq h1.2 HSQ.out _ hx HX.out h25
                rw [this] at hv
                exact HQV.out hv)
              have HSK3 : Hid (Sk M2 (q :: V) (D2.put (kN ⟨x1, x2, x3, x4⟩) (.lit (.bool true)))) := Lib.hid fun y hy hk => by
                have hne := hk q (List.mem_cons_self ..) _ HX.out h25
                rw [Maps.atKey_put_other (kN_ne HWF.out hy (fun e => hne e.symm))]
                exact HSK1.out y hy hk
              have hkey2 : keyOf Try.prog 43 (ndA ⟨x1, x2, x3, x4⟩) = some (kN ⟨x1, x2, x3, x4⟩) := keyN hwf
              have c1 := z12.2 1 _ rfl; have c2 := z12.2 2 _ rfl; have c3 := z12.2 3 _ rfl
              clear hwf hkx HSK HSK1 h25
              go_wp2_with fail
              refine (rkey_as HKX.out _).mono ?_
              rintro en w11 ⟨rfl, b11⟩
              replace z12 := z12.on b11
              have hRW := row_on HR10.out b11
              have hM := HM10.out.below b11
              have hMB := HMB10.out.below b11
              have BR11 := BR10.trans (b11.mono BR10.size)
              have hwr11 : wm.heap.size ≤ w11.heap.size := Nat.le_trans hwr10 b11.size
              clear c0 c1 c2 c3 b11 e4 e5 HR10 HM10 HMB10 BR10 hwr10
              go_upto_region 28 with (at_lookup; refine wpList_lookup_bool _ rfl _ _ 46 rfl 43 4 nd_keyed Try.underlying46 Try.underlying4 (by kernel_rfl) mb2 n2 D2 rfl hMB _ (kN ⟨x1, x2, x3, x4⟩) rfl hkey2 false HSK2.out ?_; dsimp only [Act.put]; simp only [List.setIfInBounds_toArray, List.set_cons_succ, List.set_cons_zero])
              have c0 := z12.2 0 _ rfl; have c1 := z12.2 1 _ rfl; have c2 := z12.2 2 _ rfl; have c3 := z12.2 3 _ rfl
              go_wp2_with fail
              refine (rkey_as HKX.out _).mono ?_
              rintro en w12 ⟨rfl, b12⟩
              replace hRW := row_on hRW b12
              replace hM := hM.below b12
              replace hMB := hMB.below b12
              replace BR11 := BR11.trans (b12.mono BR11.size)
              replace hwr11 := Nat.le_trans hwr11 b12.size
              have hn2l : n2 < maxLen := by unfold maxLen; omega
              have hval : plainElem (H := Unit) Try.prog 4 (.bool true) = some (.lit (.bool true), []) := plainElem_bool Try.underlying4 true
              clear c0 c1 c2 c3 b12 z12
              go_wp2_with (at_mapUpdate; refine wpList_mapUpdate_own _ rfl _ _ _ 46 rfl 43 4 nd_keyed Try.underlying46 _ mb2 n2 D2 rfl hMB hn2l _ _ (kN ⟨x1, x2, x3, x4⟩) rfl rfl hkey2 (.lit (.bool true)) [] hval ?_; intro w13 hM13 hG13; dsimp only [Act.put])
              have hRW13 := hRW.kept hG13 (.inr fun e => mapB_ne hRW hMB e.symm)
              have hMS13 : MapS w13 mb (n + 1) _ := World.ownsMap.kept hM hG13 (fun e => by injection e with e; omega)
              have BR13 := BR11.grown hG13 BR11.size (fun k hk => by injection hk with hk; omega)
              have F := FIN.out w13 (n2 + 1) _ hRW13 hMS13 hM13 (by omega) HSK3.out BR13 (Nat.le_trans hwr11 hG13.size)
              have HF1 := Lib.hid F.1
              have HF2 := Lib.hid F.2
              clear F hRW13 hMS13 BR13 hM13 hG13 hMB hM hRW
              go_roundw
              case rel => exact HF1.out
              case measure => exact HF2.out
end Go.Proofs.Ytcehklnonhalhaa
