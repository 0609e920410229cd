
/-
  sim: Reset, State.
-/
import Derived.Test.YtacphhfhahgeaaaHc
namespace Go.Proofs.Ytacphhfhahgeaaa
open Go.RowKit
set_option linter.unusedVariables false
set_option maxRecDepth 4000

theorem Gb.trans {w w1 w2 : World} {r : Option Nat} (h : w.grownBy w1 r) (k : w1.grownBy w2 r) : w.grownBy w2 r :=
  ⟨k.os.trans h.os, k.tape.trans h.tape, k.output.trans h.output, Nat.le_trans h.size k.size, fun b hb hr => (k.block b (Nat.lt_of_lt_of_le hb h.size) hr).trans (h.block b hb hr)⟩
theorem Gb.below {w w1 w2 : World} {r : Option Nat} {B : Nat} (h : w.grownBy w1 r) (k : Below B w1 w2) (hB : w.heap.size ≤ B) : w.grownBy w2 r :=
  ⟨k.os.trans h.os, k.tape.trans h.tape, k.output.trans h.output, Nat.le_trans h.size k.size, fun b hb hr => (k.block b (Nat.lt_of_lt_of_le hb hB)).trans (h.block b hb hr)⟩
theorem Gb.refl (w : World) (r : Option Nat) : w.grownBy w r := ⟨rfl, rfl, rfl, Nat.le_refl _, fun _ _ _ => rfl⟩
theorem Gb.of {w w1 : World} (r : Option Nat) (b : Below w.heap.size w w1) : w.grownBy w1 r := Gb.below (Gb.refl w r) b (Nat.le_refl _)
/-- what Reset has done behind j nodes. -/
def rstL (N : List Nd) (nn j : Nat) : List Int := now0 (N.take j) ++ List.replicate (nn - j) 0
theorem rst_set {N : List Nd} {nn j : Nat} {x : Nd} (hn : N.length = nn) (hx : N[j]? = some x) : (rstL N nn j).set j (startS x) = rstL N nn (j + 1) := by
  have hj := (List.getElem?_eq_some_iff.1 hx).1
  unfold rstL now0
  rw [List.take_add_one, hx, show nn - j = (nn - (j + 1)) + 1 by omega, List.replicate_succ]
  have hl : (List.map startS (N.take j)).length = j := by simp; omega
  rw [List.set_append_right _ _ (by omega), hl, Nat.sub_self, List.set_cons_zero]
  simp
theorem rst_skip {N : List Nd} {nn j : Nat} {x : Nd} (hn : N.length = nn) (hx : N[j]? = some x) (h0 : startS x = 0) : rstL N nn j = rstL N nn (j + 1) := by
  rw [← rst_set hn hx, h0]
  unfold rstL
  have hj := (List.getElem?_eq_some_iff.1 hx).1
  have hl : (now0 (N.take j)).length = j := by simp [now0]; omega
  rw [List.set_append_right _ _ (by omega), hl, Nat.sub_self, show nn - j = (nn - (j + 1)) + 1 by omega, List.replicate_succ, List.set_cons_zero]
theorem rst_end {N : List Nd} {nn : Nat} (hn : N.length = nn) : rstL N nn nn = now0 N := by unfold rstL; rw [List.take_of_length_le (by omega)]; simp
theorem rst_0 {N : List Nd} {nn : Nat} : by8 (rstL N nn 0) = List.replicate nn (.int .u8 0) := by simp [rstL, now0, by8]
theorem formed_start {N : List Nd} {n : Int} (hf : N.all (formedS n) = true) {j : Nat} {x : Nd} (hx : N[j]? = some x) : startS x = 0 ∨ startS x = 1 := by
  have := v01_now hf (startS x) (List.mem_map.2 ⟨x, List.mem_of_getElem? hx, rfl⟩)
  exact this
theorem u8_info : (Try.prog.info? 5).map (fun i => (i.zero, i.size, i.bytes)) = some (some (.int .u8 0), 1, 1) := by kernel_rfl
theorem wrap_01 {a : Int} (h : a = 0 ∨ a = 1) : IntKind.u8.wrap a = a := by rcases h with rfl | rfl <;> rfl
set_option maxHeartbeats 4000000 in
/-- RESET. -/
theorem reset_as {w : World} {p : Nat} {a1 a2 a3 a4 a5 : Value} {An : Option Addr} {nn cn : Nat} {N : List Nd} (hp : Own w p 117 [.slice An nn cn, a1, a2, a3, a4, a5]) (hN : Ns w An nn N) (hna : AdOk (· ≠ p) An) (hn : nn ≤ 1000) (hf : N.all (formedS nn) = true) :
    Calls Try.prog 20 #[.pointer (some ⟨p, 0, none⟩)] w fun en w' => (∃ u, en = .returned u) ∧ ∃ g, w.heap.size ≤ g ∧ Own w' p 117 [.slice An nn cn, a1, a2, a3, a4, .slice (some ⟨g, 0, none⟩) nn nn] ∧ Own w' g 5 (by8 (now0 N)) ∧ w.grownBy w' (some p) := by
  obtain ⟨c0, c1, c2, c3, c4, c5⟩ := own6  hp
  have HF := Lib.hid hf
  have hpl := hp.lt
  have HLN := Lib.hid hN.1
  clear hf
  go_enter Try.func20, Try.ntmps20
  go_upto_region 1 with (at_make; refine wpList_zeros _ rfl _ _ 27 rfl 5 (.int .u8 0) 1 Try.underlying27 u8_info rfl (by omega) _ nn rfl rfl rfl (by omega) ?_; intro w1 ho b1 hz1; have hp1 := hp.below b1 hp.lt; have f5 := hp1.free 5; have k5 := (own6 hp1).2.2.2.2.2)
  clear c0 c1 c2 c3 c4 c5 k5 f5
  obtain ⟨g, hg⟩ : ∃ g, w.heap.size = g := ⟨_, rfl⟩
  rw [hg] at ho ⊢
  have hpg : p ≠ g := by omega
  have hwg : w.heap.size ≤ g := by omega
  obtain ⟨w2, e_w2⟩ : ∃ w', w1.setCell ⟨p, 5, none⟩ (.slice (some ⟨g, 0, none⟩) nn nn) = w' := ⟨_, rfl⟩
  have hp2 : Own w2 p 117 [.slice An nn cn, a1, a2, a3, a4, .slice (some ⟨g, 0, none⟩) nn nn] := by rw [← e_w2]; exact hp1.put 5 _
  have ho2 : Own w2 g 5 (by8 (rstL N nn 0)) := by rw [← e_w2, rst_0]; exact ho.apart hpg.symm _ _
  have G2 : w.grownBy w2 (some p) := Gb.trans (Gb.of _ b1) (e_w2 ▸ grown_set w1 ⟨p, 5, none⟩ _)
  rw [e_w2]
  clear e_w2 hz1 ho hp1 b1 hg
  obtain ⟨c0, c1, c2, c3, c4, c5⟩ := own6  hp2
  go_wp2_with fail
  clear c0 c1 c2 c3 c4 c5
  go_loopw [20] (fun iv wr => ∃ j : Nat, j ≤ nn ∧ iv = .int .i64 j ∧ Own wr p 117 [.slice An nn cn, a1, a2, a3, a4, .slice (some ⟨g, 0, none⟩) nn nn] ∧ Own wr g 5 (by8 (rstL N nn j)) ∧ w.grownBy wr (some p)) (fun iv _ => nn - (intOf iv).toNat)
  case atStart => exact ⟨0, Nat.zero_le _, rfl, hp2, ho2, G2⟩
  case round =>
    clear hp2 ho2 G2
    obtain ⟨j, hj, rfl, hp2, ho2, GW⟩ := hrel
    by_cases hlt : j < nn
    · obtain ⟨b0, off, x1, x2, x3, x4, eA, HX, n1, n2, n3, n4⟩ := (hN.keep hna (Kp.grown GW fun b _ h => h)).at hlt
      subst eA
      have HS := Lib.hid (formed_start HF.out HX.out)
      have i0 : (0 : Int) ≤ (j : Int) := by omega
      have i1 : (j : Int) < (nn : Int) := by omega
      go_upto_region 4 with fail
      obtain ⟨w4, e_w4⟩ : ∃ w', wr.alloc (.cells #[.int .i64 x1, .int .i64 x2, .int .i64 x3, .int .i64 x4] 50) = w' := ⟨_, rfl⟩
      have z : Bx w4 wr.heap.size [.int .i64 x1, .int .i64 x2, .int .i64 x3, .int .i64 x4] := e_w4 ▸ Bx.made_k wr rfl #[.int .i64 x1, .int .i64 x2, .int .i64 x3, .int .i64 x4] 50
      have b4 : Below wr.heap.size wr w4 := e_w4 ▸ below_lit _ _
      rw [e_w4]
      clear e_w4 n1 n2 n3 n4
      replace hp2 := hp2.below b4 hp2.lt
      replace ho2 := ho2.below b4 ho2.lt
      replace GW := Gb.trans GW (Gb.of _ b4)
      clear b4
      have zc0 := z.2 0 _ rfl
      have zc1 := z.2 1 _ rfl
      have zc2 := z.2 2 _ rfl
      obtain ⟨c0, c1, c2, c3, c4, c5⟩ := own6  hp2
      obtain ⟨y, hy⟩ := look_ex (show (rstL N nn j).length = nn by unfold rstL now0; simp; have := HLN.out; omega) hlt
      have oc := (ho2.cell j).trans (by8_at hy)
      have of := ho2.free j
      clear hy
      by_cases h0 : x1 = 0
      · subst h0
        have hs : startS ⟨0, x2, x3, x4⟩ = x2 := rfl
        have w0 := HS.out
        rw [hs] at w0
        have q0 := wrap_01 w0
        have ho3 := ho2.put j (.int .u8 x2)
        rw [by8_set, ← hs, rst_set HLN.out HX.out] at ho3
        have hp3 := hp2.apart hpg j (.int .u8 x2)
        have G3 := Gb.below GW ((Below.refl w.heap.size _).setCell (p := ⟨g, j, none⟩) hwg (.int .u8 x2)) (Nat.le_refl _)
        clear w0 hs hp2 ho2 GW
        go_wp2_with fail
        go_region
        go_wp2_with fail
        go_roundw
        case rel => exact ⟨j + 1, by omega, by go_num, hp3.below (Below.refl _ _).drew hp3.lt, ho3.below (Below.refl _ _).drew ho3.lt, Gb.below G3 (Below.refl _ _).drew (Nat.le_refl _)⟩
        case measure => simp [intOf]; omega
      · have h0b : (x1 == 0) = false := by simpa using h0
        by_cases h7 : x1 = 7
        · subst h7
          have hs : startS ⟨7, x2, x3, x4⟩ = x3 := rfl
          have w0 := HS.out
          rw [hs] at w0
          have q0 := wrap_01 w0
          have ho3 := ho2.put j (.int .u8 x3)
          rw [by8_set, ← hs, rst_set HLN.out HX.out] at ho3
          have hp3 := hp2.apart hpg j (.int .u8 x3)
          have G3 := Gb.below GW ((Below.refl w.heap.size _).setCell (p := ⟨g, j, none⟩) hwg (.int .u8 x3)) (Nat.le_refl _)
          clear w0 hs hp2 ho2 GW
          go_wp2_with fail
          go_region
          go_wp2_with fail
          go_roundw
          case rel => exact ⟨j + 1, by omega, by go_num, hp3.below (Below.refl _ _).drew hp3.lt, ho3.below (Below.refl _ _).drew ho3.lt, Gb.below G3 (Below.refl _ _).drew (Nat.le_refl _)⟩
          case measure => simp [intOf]; omega
        · have h7b : (x1 == 7) = false := by simpa using h7
          have hs : startS ⟨x1, x2, x3, x4⟩ = 0 := by unfold startS; rw [if_neg h0, if_neg h7]
          rw [rst_skip HLN.out HX.out hs] at ho2
          clear hs h0 h7
          go_wp2_with fail
          go_roundw
          case rel => exact ⟨j + 1, by omega, by go_num, hp2, ho2, GW⟩
          case measure => simp [intOf]; omega
    · obtain rfl : j = nn := by omega
      rw [rst_end HLN.out] at ho2
      go_wp2_with fail
      go_end0
      exact ⟨⟨_, rfl⟩, g, hwg, hp2, ho2, GW⟩
end Go.Proofs.Ytacphhfhahgeaaa
