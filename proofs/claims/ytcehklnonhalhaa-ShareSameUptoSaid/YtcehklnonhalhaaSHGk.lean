/-
  What the proofs of ShareSame and ShareLeft need: Gk.
-/
import Derived.Test.YtcehklnonhalhaaSHGj
namespace Go.Proofs.Ytcehklnonhalhaa
open Go.RowKit
set_option linter.unusedVariables false
set_option maxRecDepth 4000

set_option maxHeartbeats 1000000 in
theorem levels_wrong {An Ai Ao : Option Addr} {nn cn ni ci no co : Nat} {N : List Nd} {I O : List Pt} {w : World} (h : Nt w An nn cn Ai ni ci Ao no co N I O) (v : Int) (hv : wrongS N I O = v) (d0 : (v != 0) = true) :
    Calls Try.prog 42 #[.agg #[.slice An nn cn, .slice Ai ni ci, .slice Ao no co]]  w (LvX w none v) := by
  have HV := Lib.hid hv
  clear hv
  go_enter Try.func42, Try.ntmps42
  go_upto_region 1 with fail
  obtain ⟨w1, e_w1⟩ : ∃ w', w.alloc (.cells #[.slice An nn cn, .slice Ai ni ci, .slice Ao no co] 25) = w' := ⟨_, rfl⟩
  have b : Below w.heap.size w w1 := e_w1 ▸ below_lit _ _
  have hs_w1 : w1.heap.size = w.heap.size + 1 := e_w1 ▸ size_lit w _ rfl
  have z0 : Bx w1 w.heap.size [.slice An nn cn, .slice Ai ni ci, .slice Ao no co] := e_w1 ▸ Bx.made_k w rfl #[.slice An nn cn, .slice Ai ni ci, .slice Ao no co] 25
  rw [e_w1]
  clear e_w1
  have BW := b
  clear b
  clear hs_w1
  have b0 := BW
  replace h := h.on b0
  clear b0
  have z0c0 := z0.2 0 _ rfl
  have z0c1 := z0.2 1 _ rfl
  have z0c2 := z0.2 2 _ rfl
  go_wp2_with fail
  refine (wrong_as h.n h.i h.o h.si h.so h.hn h.hs h.hb v HV.out).mono ?_
  rintro en w2 ⟨rfl, b⟩
  clear z0c0 z0c1 z0c2
  replace z0 := z0.on b
  replace h := h.on b
  replace BW := Below.step BW b
  clear b
  have z0c0 := z0.2 0 _ rfl
  have z0c1 := z0.2 1 _ rfl
  have z0c2 := z0.2 2 _ rfl
  go_wp2_with fail
  refine bodyPost_ret (v := .tuple #[.slice none 0 0, .int .i64 v]) (by simp [results, Try.results42, go_sem]) rfl ?_
  exact ⟨none, 0, 0, rfl, Is.nil_, Nat.le_refl _, BW⟩
set_option maxHeartbeats 1000000 in
theorem levels_ok {An Ai Ao : Option Addr} {nn cn ni ci no co : Nat} {N : List Nd} {I O : List Pt} {w : World} (h : Nt w An nn cn Ai ni ci Ao no co N I O) (v : Int) (hv : wrongS N I O = v) (d0 : (v != 0) = false) (d : Option (List Nat)) (e : Int) (hl : (match levS N with | some d => (some d, (0 : Int)) | none => (none, 9)) = (d, e)) (hf : N.all (formedS nn) = true) :
    Calls Try.prog 42 #[.agg #[.slice An nn cn, .slice Ai ni ci, .slice Ao no co]]  w (LvX w d e) := by
  have HV := Lib.hid hv
  have HL := Lib.hid hl
  have HF := Lib.hid hf
  clear hv hl hf
  go_enter Try.func42, Try.ntmps42
  go_upto_region 1 with fail
  obtain ⟨w1, e_w1⟩ : ∃ w', w.alloc (.cells #[.slice An nn cn, .slice Ai ni ci, .slice Ao no co] 25) = w' := ⟨_, rfl⟩
  have b : Below w.heap.size w w1 := e_w1 ▸ below_lit _ _
  have hs_w1 : w1.heap.size = w.heap.size + 1 := e_w1 ▸ size_lit w _ rfl
  have z0 : Bx w1 w.heap.size [.slice An nn cn, .slice Ai ni ci, .slice Ao no co] := e_w1 ▸ Bx.made_k w rfl #[.slice An nn cn, .slice Ai ni ci, .slice Ao no co] 25
  rw [e_w1]
  clear e_w1
  have BW := b
  clear b
  clear hs_w1
  have b0 := BW
  replace h := h.on b0
  clear b0
  have z0c0 := z0.2 0 _ rfl
  have z0c1 := z0.2 1 _ rfl
  have z0c2 := z0.2 2 _ rfl
  go_wp2_with fail
  refine (wrong_as h.n h.i h.o h.si h.so h.hn h.hs h.hb v HV.out).mono ?_
  rintro en w2 ⟨rfl, b⟩
  clear z0c0 z0c1 z0c2
  replace z0 := z0.on b
  replace h := h.on b
  replace BW := Below.step BW b
  clear b
  have z0c0 := z0.2 0 _ rfl
  have z0c1 := z0.2 1 _ rfl
  have z0c2 := z0.2 2 _ rfl
  go_wp2_with fail
  refine (climb_as h.n h.hn HF.out).mono ?_
  rintro en w9 (⟨l, dd, rfl, hd, hdl, hi, b⟩ | ⟨rfl, hd, b⟩)
  · have HE : Hid (d = some dd ∧ e = 0) := Lib.hid (by have := HL.out; rw [hd] at this; simp only [Prod.mk.injEq] at this; exact ⟨this.1.symm, this.2.symm⟩)
    obtain ⟨rfl, rfl⟩ := HE.out
    replace BW := Below.step BW b
    go_wp2_with fail
    refine bodyPost_ret (v := .tuple #[.slice (some ⟨l, 0, none⟩) nn nn, .int .i64 0]) (by simp [results, Try.results42, go_sem]) rfl ?_
    exact ⟨_, _, _, rfl, hi, Nat.le_refl _, BW⟩
  · have HE : Hid (d = none ∧ e = 9) := Lib.hid (by have := HL.out; rw [hd] at this; simp only [Prod.mk.injEq] at this; exact ⟨this.1.symm, this.2.symm⟩)
    obtain ⟨rfl, rfl⟩ := HE.out
    replace BW := Below.step BW b
    go_wp2_with fail
    refine bodyPost_ret (v := .tuple #[.slice none 0 0, .int .i64 9]) (by simp [results, Try.results42, go_sem]) rfl ?_
    exact ⟨_, _, _, rfl, Is.nil_, Nat.le_refl _, BW⟩
/-- LEVELS. -/
theorem levels_as {An Ai Ao : Option Addr} {nn cn ni ci no co : Nat} {N : List Nd} {I O : List Pt} {w : World} (h : Nt w An nn cn Ai ni ci Ao no co N I O) {d : Option (List Nat)} {e : Int} (hl : levelS N I O = (d, e)) : Calls Try.prog 42 #[.agg #[.slice An nn cn, .slice Ai ni ci, .slice Ao no co]]  w (LvX w d e) := by
  unfold levelS at hl
  obtain ⟨v, hv⟩ : ∃ v, wrongS N I O = v := ⟨_, rfl⟩
  rw [hv] at hl
  by_cases h0 : v = 0
  · subst h0
    rw [if_neg (by simp)] at hl
    have hf := wrong_form hv
    rw [h.n.1] at hf
    exact levels_ok h 0 hv rfl d e hl hf
  · rw [if_pos h0] at hl
    simp only [Prod.mk.injEq] at hl
    obtain ⟨rfl, rfl⟩ := hl
    exact levels_wrong h v hv (by simpa using h0)
theorem n6ret_int {a b : Int} {k : IntKind} (h : a = b) : Ending.returned (.int k a) = Ending.returned (.int k b) := by rw [h]
def mostS (L : List Int) : Int := L.foldl max 0
set_option maxHeartbeats 1000000 in
theorem greatest_as {A : Option Addr} {n c : Nat} {L : List Int} {w : World} (h : Is w A n L) (hn : n ≤ 1000000) (v : Int) (hv : mostS L = v) : Calls Try.prog 78 #[.slice A n c] w fun en w' => en = .returned (.int .i64 v) ∧ Below w.heap.size w w' := by
  have HV := Lib.hid hv
  clear hv
  go_enter Try.func78, Try.ntmps78
  go_wp2_with fail
  go_loopw [3, 8] (fun a i wr => ∃ j : Nat, j ≤ n ∧ i = .int .i64 j ∧ a = .int .i64 (mostS (L.take j)) ∧ Below w.heap.size w wr) (fun _ i _ => n - (intOf i).toNat)
  case atStart => exact ⟨0, Nat.zero_le _, rfl, rfl, Below.refl _ _⟩
  case round =>
    obtain ⟨j, hj, rfl, rfl, BW⟩ := hrel
    by_cases hlt : j < n
    · obtain ⟨b2, off2, x, rfl, HX, cx⟩ := (h.on BW).at hlt
      have HM : Hid (mostS (L.take (j + 1)) = max (mostS (L.take j)) x) := Lib.hid (by unfold mostS; rw [List.take_add_one, HX.out, List.foldl_append]; rfl)
      go_wp2_with fail
      go_roundw
      case rel => exact ⟨j + 1, by omega, by go_num, by rw [HM.out]; congr 1; split <;> omega, BW⟩
      case measure => simp [intOf]; omega
    · have e : L.take j = L := List.take_of_length_le (by rw [h.1]; omega)
      rw [e]
      go_wp2_with fail
      go_ret
      exact ⟨n6ret_int HV.out, BW⟩
set_option maxHeartbeats 1000000 in
/-- CHECK. -/
theorem check_as {An Ai Ao : Option Addr} {nn cn ni ci no co : Nat} {N : List Nd} {I O : List Pt} {w : World} (h : Nt w An nn cn Ai ni ci Ao no co N I O) {d : Option (List Nat)} {e : Int} (hl : levelS N I O = (d, e)) : Calls Try.prog 18 #[.agg #[.slice An nn cn, .slice Ai ni ci, .slice Ao no co]] w fun en w' => en = .returned (.int .i64 e) ∧ Below w.heap.size w w' := by
  have HL := Lib.hid hl
  clear hl
  go_enter Try.func18, Try.ntmps18
  go_upto_region 1 with fail
  obtain ⟨w1, e_w1⟩ : ∃ w', w.alloc (.cells #[.slice An nn cn, .slice Ai ni ci, .slice Ao no co] 25) = w' := ⟨_, rfl⟩
  have b : Below w.heap.size w w1 := e_w1 ▸ below_lit _ _
  have hs_w1 : w1.heap.size = w.heap.size + 1 := e_w1 ▸ size_lit w _ rfl
  have z0 : Bx w1 w.heap.size [.slice An nn cn, .slice Ai ni ci, .slice Ao no co] := e_w1 ▸ Bx.made_k w rfl #[.slice An nn cn, .slice Ai ni ci, .slice Ao no co] 25
  rw [e_w1]
  clear e_w1
  have BW := b
  clear b
  clear hs_w1
  have b0 := BW
  replace h := h.on b0
  clear b0
  have z0c0 := z0.2 0 _ rfl
  have z0c1 := z0.2 1 _ rfl
  have z0c2 := z0.2 2 _ rfl
  go_wp2_with fail
  refine (levels_as h HL.out).mono ?_
  rintro en w9 ⟨A, m, cc, rfl, hi, hm, b⟩
  replace BW := Below.step BW b
  go_wp2_with fail
  go_ret
  exact ⟨rfl, BW⟩
end Go.Proofs.Ytcehklnonhalhaa
