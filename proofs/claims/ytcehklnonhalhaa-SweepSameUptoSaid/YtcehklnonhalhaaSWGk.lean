/-
  What the proofs of SweepTells and SweepCones and SweepSame need: Gk Gl Gm.
-/
import Derived.Test.YtcehklnonhalhaaSWGh
namespace Go.Proofs.Ytcehklnonhalhaa
open Go.RowKit
set_option linter.unusedVariables false
set_option maxRecDepth 4000

set_option maxHeartbeats 1000000 in
theorem levels_wrong {An Ai Ao : Option Addr} {nn cn ni ci no co : Nat} {N : List Nd} {I O : List Pt} {w : World} (h : Nt w An nn cn Ai ni ci Ao no co N I O) (v : Int) (hv : wrongS N I O = v) (d0 : (v != 0) = true) :
    Calls Try.prog 42 #[.agg #[.slice An nn cn, .slice Ai ni ci, .slice Ao no co]]  w (LvX w none v) := by
  have HV := Lib.hid hv
  clear hv
  go_enter Try.func42, Try.ntmps42
  go_upto_region 1 with fail
  obtain ⟨w1, e_w1⟩ : ∃ w', w.alloc (.cells #[.slice An nn cn, .slice Ai ni ci, .slice Ao no co] 25) = w' := ⟨_, rfl⟩
  have b : Below w.heap.size w w1 := e_w1 ▸ below_lit _ _
  have hs_w1 : w1.heap.size = w.heap.size + 1 := e_w1 ▸ size_lit w _ rfl
  have z0 : Bx w1 w.heap.size [.slice An nn cn, .slice Ai ni ci, .slice Ao no co] := e_w1 ▸ Bx.made_k w rfl #[.slice An nn cn, .slice Ai ni ci, .slice Ao no co] 25
  rw [e_w1]
  clear e_w1
  have BW := b
  clear b
  clear hs_w1
  have b0 := BW
  replace h := h.on b0
  clear b0
  have z0c0 := z0.2 0 _ rfl
  have z0c1 := z0.2 1 _ rfl
  have z0c2 := z0.2 2 _ rfl
  go_wp2_with fail
  refine (wrong_as h.n h.i h.o h.si h.so h.hn h.hs h.hb v HV.out).mono ?_
  rintro en w2 ⟨rfl, b⟩
  clear z0c0 z0c1 z0c2
  replace z0 := z0.on b
  replace h := h.on b
  replace BW := Below.step BW b
  clear b
  have z0c0 := z0.2 0 _ rfl
  have z0c1 := z0.2 1 _ rfl
  have z0c2 := z0.2 2 _ rfl
  go_wp2_with fail
  refine bodyPost_ret (v := .tuple #[.slice none 0 0, .int .i64 v]) (by simp [results, Try.results42, go_sem]) rfl ?_
  exact ⟨none, 0, 0, rfl, Is.nil_, Nat.le_refl _, BW⟩
set_option maxHeartbeats 1000000 in
theorem levels_ok {An Ai Ao : Option Addr} {nn cn ni ci no co : Nat} {N : List Nd} {I O : List Pt} {w : World} (h : Nt w An nn cn Ai ni ci Ao no co N I O) (v : Int) (hv : wrongS N I O = v) (d0 : (v != 0) = false) (d : Option (List Nat)) (e : Int) (hl : (match levS N with | some d => (some d, (0 : Int)) | none => (none, 9)) = (d, e)) (hf : N.all (formedS nn) = true) :
    Calls Try.prog 42 #[.agg #[.slice An nn cn, .slice Ai ni ci, .slice Ao no co]]  w (LvX w d e) := by
  have HV := Lib.hid hv
  have HL := Lib.hid hl
  have HF := Lib.hid hf
  clear hv hl hf
  go_enter Try.func42, Try.ntmps42
  go_upto_region 1 with fail
  obtain ⟨w1, e_w1⟩ : ∃ w', w.alloc (.cells #[.slice An nn cn, .slice Ai ni ci, .slice Ao no co] 25) = w' := ⟨_, rfl⟩
  have b : Below w.heap.size w w1 := e_w1 ▸ below_lit _ _
  have hs_w1 : w1.heap.size = w.heap.size + 1 := e_w1 ▸ size_lit w _ rfl
  have z0 : Bx w1 w.heap.size [.slice An nn cn, .slice Ai ni ci, .slice Ao no co] := e_w1 ▸ Bx.made_k w rfl #[.slice An nn cn, .slice Ai ni ci, .slice Ao no co] 25
  rw [e_w1]
  clear e_w1
  have BW := b
  clear b
  clear hs_w1
  have b0 := BW
  replace h := h.on b0
  clear b0
  have z0c0 := z0.2 0 _ rfl
  have z0c1 := z0.2 1 _ rfl
  have z0c2 := z0.2 2 _ rfl
  go_wp2_with fail
  refine (wrong_as h.n h.i h.o h.si h.so h.hn h.hs h.hb v HV.out).mono ?_
  rintro en w2 ⟨rfl, b⟩
  clear z0c0 z0c1 z0c2
  replace z0 := z0.on b
  replace h := h.on b
  replace BW := Below.step BW b
  clear b
  have z0c0 := z0.2 0 _ rfl
  have z0c1 := z0.2 1 _ rfl
  have z0c2 := z0.2 2 _ rfl
  go_wp2_with fail
  refine (climb_as h.n h.hn HF.out).mono ?_
  rintro en w9 (⟨l, dd, rfl, hd, hdl, hi, b⟩ | ⟨rfl, hd, b⟩)
  · have HE : Hid (d = some dd ∧ e = 0) := Lib.hid (by have := HL.out; rw [hd] at this; simp only [Prod.mk.injEq] at this; exact ⟨this.1.symm, this.2.symm⟩)
    obtain ⟨rfl, rfl⟩ := HE.out
    replace BW := Below.step BW b
    go_wp2_with fail
    refine bodyPost_ret (v := .tuple #[.slice (some ⟨l, 0, none⟩) nn nn, .int .i64 0]) (by simp [results, Try.results42, go_sem]) rfl ?_
    exact ⟨_, _, _, rfl, hi, Nat.le_refl _, BW⟩
  · have HE : Hid (d = none ∧ e = 9) := Lib.hid (by have := HL.out; rw [hd] at this; simp only [Prod.mk.injEq] at this; exact ⟨this.1.symm, this.2.symm⟩)
    obtain ⟨rfl, rfl⟩ := HE.out
    replace BW := Below.step BW b
    go_wp2_with fail
    refine bodyPost_ret (v := .tuple #[.slice none 0 0, .int .i64 9]) (by simp [results, Try.results42, go_sem]) rfl ?_
    exact ⟨_, _, _, rfl, Is.nil_, Nat.le_refl _, BW⟩
/-- LEVELS. -/
theorem levels_as {An Ai Ao : Option Addr} {nn cn ni ci no co : Nat} {N : List Nd} {I O : List Pt} {w : World} (h : Nt w An nn cn Ai ni ci Ao no co N I O) {d : Option (List Nat)} {e : Int} (hl : levelS N I O = (d, e)) : Calls Try.prog 42 #[.agg #[.slice An nn cn, .slice Ai ni ci, .slice Ao no co]]  w (LvX w d e) := by
  unfold levelS at hl
  obtain ⟨v, hv⟩ : ∃ v, wrongS N I O = v := ⟨_, rfl⟩
  rw [hv] at hl
  by_cases h0 : v = 0
  · subst h0
    rw [if_neg (by simp)] at hl
    have hf := wrong_form hv
    rw [h.n.1] at hf
    exact levels_ok h 0 hv rfl d e hl hf
  · rw [if_pos h0] at hl
    simp only [Prod.mk.injEq] at hl
    obtain ⟨rfl, rfl⟩ := hl
    exact levels_wrong h v hv (by simpa using h0)
theorem n6ret_int {a b : Int} {k : IntKind} (h : a = b) : Ending.returned (.int k a) = Ending.returned (.int k b) := by rw [h]
set_option maxHeartbeats 1000000 in
/-- CHECK. -/
theorem check_as {An Ai Ao : Option Addr} {nn cn ni ci no co : Nat} {N : List Nd} {I O : List Pt} {w : World} (h : Nt w An nn cn Ai ni ci Ao no co N I O) {d : Option (List Nat)} {e : Int} (hl : levelS N I O = (d, e)) : Calls Try.prog 18 #[.agg #[.slice An nn cn, .slice Ai ni ci, .slice Ao no co]] w fun en w' => en = .returned (.int .i64 e) ∧ Below w.heap.size w w' := by
  have HL := Lib.hid hl
  clear hl
  go_enter Try.func18, Try.ntmps18
  go_upto_region 1 with fail
  obtain ⟨w1, e_w1⟩ : ∃ w', w.alloc (.cells #[.slice An nn cn, .slice Ai ni ci, .slice Ao no co] 25) = w' := ⟨_, rfl⟩
  have b : Below w.heap.size w w1 := e_w1 ▸ below_lit _ _
  have hs_w1 : w1.heap.size = w.heap.size + 1 := e_w1 ▸ size_lit w _ rfl
  have z0 : Bx w1 w.heap.size [.slice An nn cn, .slice Ai ni ci, .slice Ao no co] := e_w1 ▸ Bx.made_k w rfl #[.slice An nn cn, .slice Ai ni ci, .slice Ao no co] 25
  rw [e_w1]
  clear e_w1
  have BW := b
  clear b
  clear hs_w1
  have b0 := BW
  replace h := h.on b0
  clear b0
  have z0c0 := z0.2 0 _ rfl
  have z0c1 := z0.2 1 _ rfl
  have z0c2 := z0.2 2 _ rfl
  go_wp2_with fail
  refine (levels_as h HL.out).mono ?_
  rintro en w9 ⟨A, m, cc, rfl, hi, hm, b⟩
  replace BW := Below.step BW b
  go_wp2_with fail
  go_ret
  exact ⟨rfl, BW⟩
end Go.Proofs.Ytcehklnonhalhaa
namespace Go.Proofs.Ytcehklnonhalhaa
section
variable (f : Nat → Nat) (n : Nat)
/-- the nodes in order: by levels, then by places. -/
def ordU (v : Nat) : List Nat := (List.range v).flatMap fun d => (List.range n).filter fun i => decide (f i = d)
theorem ordU_succ (v : Nat) : ordU f n (v + 1) = ordU f n v ++ (List.range n).filter fun i => decide (f i = v) := by
  unfold ordU
  rw [List.range_succ, List.flatMap_append]
  simp
theorem ordU_mem {v i : Nat} : i ∈ ordU f n v ↔ i < n ∧ f i < v := by
  unfold ordU
  rw [List.mem_flatMap]
  simp only [List.mem_range, List.mem_filter, decide_eq_true_eq]
  constructor
  · rintro ⟨d, h1, h2, h3⟩; exact ⟨h2, by omega⟩
  · rintro ⟨h1, h2⟩; exact ⟨f i, h2, h1, rfl⟩
theorem ordU_nodup (v : Nat) : (ordU f n v).Nodup := by
  induction v with
  | zero => exact List.nodup_nil
  | succ v ih =>
    rw [ordU_succ]
    refine List.nodup_append.2 ⟨ih, List.nodup_range.filter _, fun a ha b hb e => ?_⟩
    subst e
    have h1 := (ordU_mem f n).1 ha
    have h2 := (List.mem_filter.1 hb).2
    simp at h2
    omega
end
end Go.Proofs.Ytcehklnonhalhaa
namespace Go.Proofs.Ytcehklnonhalhaa
open Go.RowKit
set_option linter.unusedVariables false
set_option maxRecDepth 4000

/-- the order of nodes of these levels. -/
def ordS (d : List Nat) : List Int := (ordU (fun i => d.getD i 0) d.length d.length).map fun i : Nat => (i : Int)
def ordO (d : Option (List Nat)) : List Int := match d with | some d => ordS d | none => []
theorem Own.apart {w : World} {g s : Nat} {t : TypeId} {cs : List Value} (h : Own w g t cs) (hs : g ≠ s) (i : Nat) (v : Value) : Own (w.setCell ⟨s, i, none⟩ v) g t cs := (Below.heap_setCell w ⟨s, i, none⟩ v g hs).trans h
end Go.Proofs.Ytcehklnonhalhaa
