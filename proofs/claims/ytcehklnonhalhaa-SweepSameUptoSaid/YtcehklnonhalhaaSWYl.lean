/-
  What the proofs of SweepTells and SweepCones and SweepSame need: Yl Ym Yn.
-/
import Derived.Test.YtcehklnonhalhaaSWYj
import Derived.Laws.StructEq
import Derived.Test.YtcehklnonhalhaaSWHR
namespace Go.Proofs.Ytcehklnonhalhaa
open Go.RowKit
set_option linter.unusedVariables false
set_option maxRecDepth 4000

/-- three blocks are as they were. -/
def KB3 (a b c : Nat) (w w' : World) : Prop := w'.heap[a]? = w.heap[a]? ∧ w'.heap[b]? = w.heap[b]? ∧ w'.heap[c]? = w.heap[c]?
theorem KB3.ok (a b c : Nat) : LexG.RelOk (KB3 a b c) := ⟨fun _ => ⟨rfl, rfl, rfl⟩, fun _ _ _ h k => ⟨k.1.trans h.1, k.2.1.trans h.2.1, k.2.2.trans h.2.2⟩⟩
instance (a b c : Nat) (w : World) : Nonempty (LexG.Wd (KB3 a b c) w) := ⟨⟨w, rfl, rfl, rfl⟩⟩
theorem KB3.set {a b c : Nat} (w : World) {g : Nat} (ha : a ≠ g) (hb : b ≠ g) (hc : c ≠ g) (o : Nat) (v : Value) : KB3 a b c w (w.setCell ⟨g, o, none⟩ v) := ⟨Below.heap_setCell w ⟨g, o, none⟩ v a ha, Below.heap_setCell w ⟨g, o, none⟩ v b hb, Below.heap_setCell w ⟨g, o, none⟩ v c hc⟩
theorem cell_of_heap {w w' : World} {g : Nat} (h : w'.heap[g]? = w.heap[g]?) (o : Nat) : w'.cell? ⟨g, o, none⟩ = w.cell? ⟨g, o, none⟩ := by
  unfold World.cell?
  simp only [h]
end Go.Proofs.Ytcehklnonhalhaa
namespace Go.Proofs.Ytcehklnonhalhaa
open Go.RowKit
set_option linter.unusedVariables false
set_option maxRecDepth 4000

theorem idx_at : ∀ {L : List Nat} {q : Nat}, q ∈ L → L[L.idxOf q]? = some q
  | [], q, h => by cases h
  | p :: L, q, h => by
    by_cases e : p = q
    · subst e
      rw [List.idxOf_cons, show (p == p) = true from beq_self_eq_true p]
      rfl
    · rw [idx_ne e]
      rcases List.mem_cons.1 h with h | h
      · exact absurd h.symm e
      · exact idx_at h
theorem idx_inj {L : List Nat} {a b : Nat} (ha : a ∈ L) (hb : b ∈ L) (h : L.idxOf a = L.idxOf b) : a = b := by
  have e1 := idx_at ha
  rw [h, idx_at hb] at e1
  injection e1 with e1
  exact e1.symm
/-- a net's places in its order. -/
theorem pos_of {N : List Nd} {I O : List Pt} {dd : List Nat} {e : Int} (hl : levelS N I O = (some dd, e)) : ∃ L : List Nat, ordO (some dd) = nI L ∧ L.Nodup ∧ (∀ i, i ∈ L ↔ i < N.length) ∧ Pos N (fun q => L.idxOf q) := by
  obtain ⟨_, _, hf, _, _, ho, hO⟩ := od_of hl
  have od := ho.odr
  refine ⟨_, hO, od.nd, od.mem, ?_, ?_, hf, ?_⟩
  · intro a b ha hb hab
    exact idx_inj ((od.mem a).2 ha) ((od.mem b).2 hb) hab
  · intro q hq h7 y hy
    have hm : y.toNat ∈ deps N q := by
      unfold deps needS
      rw [if_neg h7]
      exact List.mem_map_of_mem hy
    exact ord_pos od.ord q ((od.mem q).2 hq) _ hm ((od.mem _).2 (deps_lt hf hq hm))
  · refine ⟨[], [], _, odr_sol od hf [] [], refR_01 hf (fun q hq => ?_) (fun x hx => by cases hx) (fun x hx => by cases hx) _ (Nat.le_refl _)⟩
    unfold nI at hq
    obtain ⟨i, hi, rfl⟩ := List.mem_map.1 hq
    rw [Int.toNat_natCast]
    exact (od.mem i).1 hi
/-- what is known of the node that is looked at. -/
theorem FI.look {N : List Nd} {pos : Nat → Nat} {i : Nat} {M : List Nd} {S : List Int} (hp : Pos N pos) (h : FI N pos i M S) {q : Nat} (hq : q < N.length) (hi : pos q = i) : ∃ G : Nd → Prop, G (usesF S (M.getD q nd0)) ∧ ∀ x, G x → (isIO x ∨ Ok (fun y => ∃ m : Nat, y = (m : Int) ∧ m < M.length) x) ∧ (¬ isIO x → ∀ y ∈ usesS x, (nA M y).k = 0 → (nA M y).a = 0 ∨ (nA M y).a = 1) ∧ ((lineL M x (q : Int)).1 ≠ x → G (lineL M x (q : Int)).1 ∧ rk (lineL M x (q : Int)).1 < rk x) := by
  obtain ⟨s, inn, u, hs, h01⟩ := hp.sol
  have hk := h.known hs h01
  have hold := h.old q hq (by omega)
  have hM : ∀ z, Pr N.length pos i z → sA S z = z → (nA M z).k = 2 → Pr N.length pos i (nA M z).a ∧ sA S (nA M z).a = (nA M z).a := by
    intro z hz hf hk
    obtain ⟨m, rfl, hm, hpm⟩ := hz.nat
    unfold nA at hk ⊢
    rw [Int.toNat_natCast] at hk ⊢
    have hio : ¬ isIO (N.getD m nd0) := fun hio => by
      have e := (h.io m hm hpm hio).1
      rw [e] at hk
      unfold isIO at hio
      omega
    have ho := h.ok m hm hpm hio
    have hu : (M.getD m nd0).a ∈ usesS (M.getD m nd0) := by rw [uses_2 hk]; simp
    refine ⟨(ho.uses _ hu).le (by omega), ?_⟩
    unfold sA at hf
    rw [Int.toNat_natCast] at hf
    exact h.fx m hm hpm hf hio _ hu
  refine ⟨fun x => isIO x ∨ (Ok (Pr N.length pos i) x ∧ ∀ y ∈ usesS x, sA S y = y), ?_, fun x hx => ⟨?_, ?_, ?_⟩⟩
  · rw [hold]
    by_cases hio : isIO (N.getD q nd0)
    · left
      have := usesF_k S (N.getD q nd0)
      unfold isIO at *
      rw [this]
      exact hio
    · right
      have ho := hp.at hq hio
      rw [hi] at ho
      have h7 : (N.getD q nd0).k ≠ 7 := fun e => hio (.inr e)
      have hst : ∀ y ∈ usesS (N.getD q nd0), Pr N.length pos i (sA S y) ∧ sA S (sA S y) = sA S y := fun y hy => by
        obtain ⟨m, rfl, hm, hpm⟩ := (ho.uses y hy).nat
        obtain ⟨g1, g2⟩ := h.st m hm hpm
        have e : sA S ((m : Nat) : Int) = S.getD m 0 := by unfold sA; rw [Int.toNat_natCast]
        rw [e]
        exact ⟨g1.le (by omega), g2⟩
      refine ⟨usesF_ok ho fun y hy => (hst y hy).1, fun y hy => ?_⟩
      rw [usesF_uses S _ h7] at hy
      obtain ⟨z, hz, rfl⟩ := List.mem_map.1 hy
      exact (hst z hz).2
  · rcases hx with hx | ⟨hx, _⟩
    · exact .inl hx
    · refine .inr (hx.mono fun y hy => ?_)
      obtain ⟨m, e, hm, _⟩ := hy.nat
      exact ⟨m, e, by rw [h.lm]; exact hm⟩
  · rcases hx with hx | ⟨hx, _⟩
    · exact fun hn => absurd hx hn
    · intro _ y hy h0
      exact (hk.c0 y (hx.uses y hy) h0).2
  · intro hne
    rcases hx with hx | ⟨hx, hF⟩
    · exfalso
      apply hne
      unfold isIO at hx
      unfold lineL
      rw [if_neg (by omega), if_neg (by omega), if_neg (by omega), if_neg (by omega), if_neg (by omega)]
    · have hl := lineL_ok (p := (q : Int)) (F := fun y => sA S y = y) hk hx hF hM h01
      obtain ⟨l1, _, l3⟩ := hl.less hne
      exact ⟨.inr ⟨hl.ok, fun y hy => hF y (l3 y hy)⟩, l1⟩
end Go.Proofs.Ytcehklnonhalhaa
namespace Go.Proofs.Ytcehklnonhalhaa
open Go.RowKit
set_option linter.unusedVariables false
set_option maxRecDepth 4000

theorem field_nodes (Bn Bi Bo : Option Addr) (nn dn ni di no do' : Nat) (w : World) : (Instr.field 25 (.agg #[.slice Bn nn dn, .slice Bi ni di, .slice Bo no do']) 0).run Try.prog w = .ok (.slice Bn nn dn) w := by
  unfold Instr.field
  simp [go_sem, part, asAgg]
/-- places that are made. -/
def zI (n : Nat) : List Int := List.replicate n 0
theorem made_ints (n : Nat) : madeCells #[Value.int .i64 0] (n * 1) = ((zI n).flatMap inC).toArray := by
  apply Array.ext'
  rw [Nat.mul_one]
  unfold madeCells zI
  have e : ∀ n : Nat, (List.replicate n (0 : Int)).flatMap inC = List.replicate n (Value.int .i64 0) := fun n => by
    induction n with
    | zero => rfl
    | succ n ih => rw [List.replicate_succ, List.flatMap_cons, ih, List.replicate_succ]; rfl
  rw [e]
  apply List.ext_getElem
  · simp
  · intro i h1 h2
    simp [Nat.mod_one]
theorem make_ints {n : Nat} (hn : n ≤ 100000) (w : World) : (Instr.makeSlice 39 (.int .i64 (n : Int)) (.int .i64 (n : Int))).run Try.prog w = .ok (.slice (some ⟨w.heap.size, 0, none⟩) n n) (w.alloc (.cells ((zI n).flatMap inC).toArray 3)) := by
  obtain ⟨i, h1, h2, h3, h4⟩ := Go.info_parts (P := Try.prog) (e := 3) (z := .int .i64 0) (size := 1) (bytes := 8) (by kernel_rfl)
  have h := run_make (P := Try.prog) w 39 3 i (.int .i64 0) Try.underlying39 h1 h2 .i64 .i64 (n : Int) (n : Int) (by omega) (by omega) (by rw [h4]; omega) (by omega)
  rw [h, h3, Int.toNat_natCast]
  show Result.ok _ (w.alloc (.cells (madeCells #[Value.int .i64 0] (n * 1)) 3)) = _
  rw [made_ints]
attribute [local go_sem] field_nodes make_ints
theorem Fd.low {w : World} {base base2 p : Nat} {vn vs : Value} {M : List Nd} {S : List Int} (h : Fd w base p vn vs M S) (hb : base2 ≤ base) : Fd w base2 p vn vs M S := ⟨h.ow, row_low h.rn hb, row_low h.rs hb, h.ls, Nat.le_trans hb h.lo⟩
end Go.Proofs.Ytcehklnonhalhaa
