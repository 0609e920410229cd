
/-
  sim: fits, State, Reset.
-/
import Derived.Test.YtacphhfhahgeaaaHb
import Derived.Deep.QuietTactic
import Derived.BigQuiet
namespace Go.Proofs.Ytacphhfhahgeaaa
open Go.RowKit
set_option linter.unusedVariables false
set_option maxRecDepth 4000

theorem fit_end {I : List Pt} {xs : List Nat} {n : Nat} (hl : xs.length = I.length) (hn : I.length = n) (h : (List.range n).all (fitAt I xs) = true) : fitsS I xs = true := by
  unfold fitsS
  rw [hn, h]
  simp [hl, hn]
theorem fit_no {I : List Pt} {xs : List Nat} {i : Nat} (hi : i < I.length) (h : fitAt I xs i = false) : fitsS I xs = false := by
  unfold fitsS
  rw [Bool.and_eq_false_iff]
  right
  rw [List.all_eq_false]
  exact ⟨i, List.mem_range.2 hi, by rw [h]; decide⟩
theorem fit_succ {I : List Pt} {xs : List Nat} {i : Nat} (h : (List.range i).all (fitAt I xs) = true) (hf : fitAt I xs i = true) : (List.range (i + 1)).all (fitAt I xs) = true := by
  rw [List.range_succ, List.all_append, h]
  simp [hf]
theorem own6 {w : World} {p : Nat} {t : TypeId} {a b c d e f : Value} (h : Own w p t [a, b, c, d, e, f]) : w.cell? ⟨p, 0, none⟩ = some a ∧ w.cell? ⟨p, 1, none⟩ = some b ∧ w.cell? ⟨p, 2, none⟩ = some c ∧ w.cell? ⟨p, 3, none⟩ = some d ∧ w.cell? ⟨p, 4, none⟩ = some e ∧ w.cell? ⟨p, 5, none⟩ = some f := ⟨h.cell 0, h.cell 1, h.cell 2, h.cell 3, h.cell 4, h.cell 5⟩
set_option maxHeartbeats 2000000 in
/-- FITS. -/
theorem fits_as {B : Nat} {s : Si} {w : World} {g : Nat} {v : List Int} (k : s.Ok B) (h : s.At w g v) {A : Option Addr} {n c : Nat} {xs : List Nat} (hx : Nu w A n xs) (hn : n ≤ 140737488351232) (r : Bool) (hr : fitsS s.I xs = r) :
    Calls Try.prog 80 #[.pointer (some ⟨s.p, 0, none⟩), .slice A n c] w fun en w' => en = .returned (.bool r) ∧ Below w.heap.size w w' := by
  have hI := h.is_ k
  have hp := h.var
  have hni := k.hi
  have HB : Hid (∀ q ∈ s.I, q.bits.length ≤ 100000) := Lib.hid fun q hq => k.hb q (List.mem_append_left _ hq)
  have HR := Lib.hid hr
  clear hr h k
  obtain ⟨wb, p, An, nn, cn, Ai, ni, ci, Ao, no, co, Ag, ng, cg, Ar, nr, cr, N, I, O, G, R⟩ := s
  dsimp only at *
  obtain ⟨c0, c1, c2, c3, c4, c5⟩ := own6  hp
  have hl1 := hI.1
  have hl2 := hx.len
  by_cases he : n = ni
  · subst he
    go_enter Try.func80, Try.ntmps80
    go_wp2_with fail
    clear c0 c1 c2 c3 c4 c5
    have HL1 := Lib.hid hl1
    have HL2 := Lib.hid hl2
    clear hl1 hl2 hp
    go_loopw [22] (fun iv wr => ∃ i : Nat, i ≤ n ∧ iv = .int .i64 i ∧ Hid ((List.range i).all (fitAt I xs) = true) ∧ Below w.heap.size w wr) (fun iv _ => n - (intOf iv).toNat)
    case atStart => exact ⟨0, Nat.zero_le _, rfl, Lib.hid rfl, Below.refl _ _⟩
    case round =>
      obtain ⟨i, hi, rfl, HA, BW⟩ := hrel
      by_cases hlt : i < n
      · obtain ⟨b1, o1, nm, A1, m1, d1, bs, rfl, HP, p1, p2, hi1⟩ := (hI.on BW).at hlt
        obtain ⟨b2, o2, A2, m2, d2, x, rfl, hb2, HX, x1, ha, hm2⟩ := (hx.on BW).at hlt
        have hfa : fitAt I xs i = decide (blen x ≤ m1) := by unfold fitAt; rw [getD_of HX.out, getD_of HP.out, ← hi1.1]
        have HL0 := Lib.hid (fun (W : World) (hW : Arg W A2 m2 d2 x) => len_wide hW hm2)
        generalize blen x = l at hfa HL0
        have HFA := Lib.hid hfa
        clear hfa hi1
        go_upto_region 6 with fail
        obtain ⟨w2, e_w2⟩ : ∃ w', wr.alloc (.cells #[.string nm, .slice A1 m1 d1] 94) = w' := ⟨_, rfl⟩
        have z0 : Bx w2 wr.heap.size [.string nm, .slice A1 m1 d1] := e_w2 ▸ Bx.made_k wr rfl #[.string nm, .slice A1 m1 d1] 94
        have b3 : Below wr.heap.size wr w2 := e_w2 ▸ below_lit _ _
        rw [e_w2]
        clear e_w2 p1 p2
        have z0c1 := z0.2 1 _ rfl
        replace x1 := (b3.cell (p := ⟨b2, o2 + i, none⟩) hb2).trans x1
        have ha2 := ha.on b3
        have HL := Lib.hid (fun (q : Nat) => HL0.out _ (ha2.on (below_drewN (Below.refl _ _) q)))
        replace BW := Below.step BW b3
        clear HL0 b3 ha
        by_cases hlm : l ≤ m1
        · have HT : Hid (fitAt I xs i = true) := Lib.hid (by rw [HFA.out]; exact decide_eq_true hlm)
          go_quiet ((go_at_call 135; exact quiet_at (HL.out _) ⟨_, rfl⟩))
          replace BW := Lib.hid fun n => below_drewN BW n
          go_wp2_with fail
          go_roundw
          case rel => exact ⟨i + 1, by omega, by go_num, Lib.hid (fit_succ HA.out HT.out), BW.out _⟩
          case measure => simp [intOf]; omega
        · have HT : Hid (fitsS I xs = false) := Lib.hid (fit_no (by rw [HL1.out]; exact hlt) (by rw [HFA.out]; exact decide_eq_false hlm))
          go_quiet ((go_at_call 135; exact quiet_at (HL.out _) ⟨_, rfl⟩))
          replace BW := Lib.hid fun n => below_drewN BW n
          go_wp2_with fail
          go_ret
          exact ⟨ret_bool (HT.out.symm.trans HR.out), BW.out _⟩
      · obtain rfl : i = n := by omega
        have HT : Hid (fitsS I xs = true) := Lib.hid (fit_end (HL2.out.trans HL1.out.symm) HL1.out HA.out)
        go_wp2_with fail
        go_ret
        exact ⟨ret_bool (HT.out.symm.trans HR.out), BW⟩
  · have he2 : ((n : Int) != (ni : Int)) = true := by rw [bne_iff_ne]; omega
    have hf : fitsS I xs = false := by unfold fitsS; rw [hl1, hl2, decide_eq_false he]; rfl
    rw [hf] at HR
    obtain rfl := HR.out
    go_enter Try.func80, Try.ntmps80
    go_wp2_with fail
    go_ret
    exact ⟨rfl, Below.refl _ _⟩
end Go.Proofs.Ytacphhfhahgeaaa
