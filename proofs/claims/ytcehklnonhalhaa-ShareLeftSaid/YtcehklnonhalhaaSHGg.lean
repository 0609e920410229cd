/-
  What the proofs of ShareSame and ShareLeft need: Gg.
-/
import Derived.Test.YtcehklnonhalhaaSHGf
namespace Go.Proofs.Ytcehklnonhalhaa
open Go.RowKit
set_option linter.unusedVariables false
set_option maxRecDepth 4000

/-- a slice is told that reads as these ports. -/
def PsX (w : World) (n : Nat) (L : List Pt) (en : Ending) (w' : World) : Prop := ∃ A c, en = .returned (.slice A n c) ∧ Ps w' A n L ∧ Sw A n c ∧ Below w.heap.size w w'
theorem row_low {w : World} {base base2 : Nat} {e : TypeId} {size : Nat} {v : Value} {n : Nat} {xs : List Value} (h : w.ownsRow base e size v n xs) (hb : base2 ≤ base) : w.ownsRow base2 e size v n xs := by
  refine ⟨h.1, ?_⟩
  rcases h.2 with h1 | ⟨g, cap, cur, h1, h2, h3⟩
  · exact .inl h1
  · exact .inr ⟨g, cap, cur, h1, Nat.le_trans hb h2, h3⟩
theorem grow_as {w : World} (n : Nat) (hn : n ≤ 1000000) : Calls Try.prog 117 #[.slice none 0 0, .int .i64 (n : Int)] w fun en w' => ∃ v, en = .returned v ∧ w'.ownsRow w.heap.size 41 2 v 0 [] ∧ Below w.heap.size w w' := by
  by_cases h0 : n = 0
  · exact grow_none _ (by omega)
  · exact grow_some n (by omega) hn
theorem PsR.on {w w' : World} {A : Option Addr} {n : Nat} {R : List Rp} (h : PsR w A n R) (hb : Below w.heap.size w w') : PsR w' A n R :=
  ⟨h.1, fun k r hr => by
    obtain ⟨b, off, h1, h2, h3, h4⟩ := h.2 k r hr
    exact ⟨b, off, h1, Nat.lt_of_lt_of_le h2 hb.size, (hb.cell (p := ⟨b, off + k * 2, none⟩) h2).trans h3, (hb.cell (p := ⟨b, off + k * 2 + 1, none⟩) h2).trans h4⟩⟩
set_option maxHeartbeats 4000000 in
theorem concat_as {Ai Ao : Option Addr} {ni ci no co s : Nat} {I O : List Pt} {w : World} (hI : Ps w Ai ni I) (hO : Ps w Ao no O) (swI : Sw Ai ni ci) (swO : Sw Ao no co) (hs : ni + no ≤ 1000) (z : Bx w s [.slice Ai ni ci, .slice Ao no co]) :
    Calls Try.prog 96 #[.slice (some ⟨s, 0, none⟩) 2 2] w (PsX w (ni + no) (I ++ O)) := by
  obtain ⟨RI, PsRI, FI⟩ := hI.raw
  obtain ⟨RO, PsRO, FO⟩ := hO.raw
  have RI1 := PsRI.1
  have RO1 := PsRO.1
  have HFI := Lib.hid FI
  have HFO := Lib.hid FO
  clear FI FO hI hO
  obtain ⟨q, hq⟩ : ∃ q, ni + no = q := ⟨_, rfl⟩
  rw [hq]
  have q1 : IntKind.i64.wrap ((ni : Int) + (no : Int)) = (q : Int) := by rw [IntKind.wrap_i64]; omega
  have q0 : IntKind.i64.wrap (ni : Int) = (ni : Int) := by rw [IntKind.wrap_i64]; omega
  go_enter Try.func96, Try.ntmps96
  go_wp2_with fail
  go_loopw [3, 11] (fun a i wr => ∃ j : Nat, j ≤ 2 ∧ i = .int .i64 j ∧ a = .int .i64 (if j = 0 then 0 else if j = 1 then (ni : Int) else (q : Int)) ∧ Below w.heap.size w wr) (fun _ i _ => 2 - (intOf i).toNat)
  case atStart => exact ⟨0, by omega, rfl, rfl, Below.refl _ _⟩
  case round =>
    obtain ⟨j, hj, rfl, rfl, BW⟩ := hrel
    rcases (show j = 0 ∨ j = 1 ∨ j = 2 by omega) with rfl | rfl | rfl
    · have zc := (z.on BW).2 0 _ rfl
      go_wp2_with fail
      go_roundw
      case rel => exact ⟨1, by omega, rfl, by first | rfl | (simp [q0]), BW⟩
      case measure => simp [intOf]
    · have zc := (z.on BW).2 1 _ rfl
      go_wp2_with fail
      go_roundw
      case rel => exact ⟨2, by omega, rfl, by first | rfl | (simp [q1]), BW⟩
      case measure => simp [intOf]
    · go_wp2_with fail
      refine (grow_as q (by omega)).mono ?_
      rintro en w1 ⟨v0, rfl, hrow0, b1⟩
      have BW0 := Below.step BW b1
      replace hrow0 := row_low hrow0 BW.size
      clear BW b1
      go_wp2_with fail
      go_loopw [6, 27] (fun v i wr => ∃ j : Nat, j ≤ 2 ∧ i = .int .i64 j ∧ wr.ownsRow w.heap.size 41 2 v (if j = 0 then 0 else if j = 1 then ni else q) ((if j = 0 then [] else if j = 1 then RI else RI ++ RO).flatMap ptC) ∧ Below w.heap.size w wr) (fun _ i _ => 2 - (intOf i).toNat)
      case atStart => exact ⟨0, by omega, rfl, hrow0, BW0⟩
      case round =>
        clear BW0 hrow0
        obtain ⟨j, hj, rfl, hrow, BW⟩ := hrel
        rename_i v _
        rcases (show j = 0 ∨ j = 1 ∨ j = 2 by omega) with rfl | rfl | rfl
        · have zc := (z.on BW).2 0 _ rfl
          simp only [if_true, List.flatMap_nil] at hrow
          go_wp2_with (at_builtin; refine wpList_app (A := Ai) (m := ni) (c := ci) rfl _ _ 23 rfl elm_port (by omega) (by omega) w.heap.size _ _ _ rfl hrow (RI.flatMap ptC) rfl swI.none_ (by rw [flat_len ptC 2 ptC_len, RI1]) (PsRI.on BW).cells (one_pt _) (by omega) BW.size ?_; intro v2 w2 hrow2 hg)
          have b2 := row_below hrow BW (Nat.le_refl _) hg
          go_roundw
          case rel => exact ⟨1, by omega, rfl, by simpa using hrow2, b2⟩
          case measure => simp [intOf]
        · have zc := (z.on BW).2 1 _ rfl
          simp only [Nat.one_ne_zero, if_false, if_true] at hrow
          go_wp2_with (at_builtin; refine wpList_app (A := Ao) (m := no) (c := co) rfl _ _ 23 rfl elm_port (by omega) (by omega) w.heap.size _ _ _ rfl hrow (RO.flatMap ptC) rfl swO.none_ (by rw [flat_len ptC 2 ptC_len, RO1]) (PsRO.on BW).cells (one_pt _) (by omega) BW.size ?_; intro v2 w2 hrow2 hg)
          have b2 := row_below hrow BW (Nat.le_refl _) hg
          rw [hq] at hrow2
          go_roundw
          case rel => exact ⟨2, by omega, rfl, by simpa [List.flatMap_append] using hrow2, b2⟩
          case measure => simp [intOf]
        · simp only [show ¬ (2 = 0) by decide, show ¬ (2 = 1) by decide, if_false] at hrow
          obtain ⟨A, c, rfl, sw, _, hp⟩ := row_ps hrow
          go_wp2_with fail
          go_ret
          refine ⟨A, c, rfl, hp.ps ((HFI.out.on BW).append (HFO.out.on BW)), sw, BW⟩
/-- the first error of a net but that of rings. -/
def wrongS (N : List Nd) (I O : List Pt) : Int := if 64 < I.length + O.length then 4 else if N.all (formedS N.length) && (I ++ O).all (bitsS N.length) then (if (I ++ O).all (fun p => nameS p.name) then (if dupS (I ++ O) then 8 else if fedS N I then 0 else 10) else 7) else 2
set_option maxHeartbeats 1000000 in
theorem wrong_many {An Ai Ao : Option Addr} {nn cn ni ci no co : Nat} {N : List Nd} {I O : List Pt} {w : World} (hN : Ns w An nn N) (hI : Ps w Ai ni I) (hO : Ps w Ao no O) (swI : Sw Ai ni ci) (swO : Sw Ao no co) (hn : nn ≤ 100000) (hs : ni + no ≤ 1000) (hb : ∀ p ∈ I ++ O, p.bits.length ≤ 1000000) (q : Nat) (hq : ni + no = q) (q1 : IntKind.i64.wrap ((ni : Int) + (no : Int)) = (q : Int)) (e0 : decide (262144 < (nn : Int)) = false) (e1 : decide (64 < (q : Int)) = true) :
    Calls Try.prog 69 #[.agg #[.slice An nn cn, .slice Ai ni ci, .slice Ao no co]] w fun e w' => e = .returned (.int .i64 4) ∧ Below w.heap.size w w' := by
  go_enter Try.func69, Try.ntmps69
  go_wp2_with fail
  go_ret
  exact ⟨rfl, below_lit _ _⟩
set_option maxHeartbeats 1000000 in
theorem wrong_f {An Ai Ao : Option Addr} {nn cn ni ci no co : Nat} {N : List Nd} {I O : List Pt} {w : World} (hN : Ns w An nn N) (hI : Ps w Ai ni I) (hO : Ps w Ao no O) (swI : Sw Ai ni ci) (swO : Sw Ao no co) (hn : nn ≤ 100000) (hs : ni + no ≤ 1000) (hb : ∀ p ∈ I ++ O, p.bits.length ≤ 1000000) (q : Nat) (hq : ni + no = q) (q1 : IntKind.i64.wrap ((ni : Int) + (no : Int)) = (q : Int)) (e0 : decide (262144 < (nn : Int)) = false) (e1 : decide (64 < (q : Int)) = false) (hf : N.all (formedS nn) = false)  :
    Calls Try.prog 69 #[.agg #[.slice An nn cn, .slice Ai ni ci, .slice Ao no co]] w fun e w' => e = .returned (.int .i64 2) ∧ Below w.heap.size w w' := by
  have HF := Lib.hid hf
  have HB := Lib.hid hb
  clear hf hb
  go_enter Try.func69, Try.ntmps69
  go_upto_region 3 with fail
  obtain ⟨w1, e_w1⟩ : ∃ w', w.alloc (.cells #[.slice An nn cn, .slice Ai ni ci, .slice Ao no co] 25) = w' := ⟨_, rfl⟩
  have b : Below w.heap.size w w1 := e_w1 ▸ below_lit _ _
  have hs_w1 : w1.heap.size = w.heap.size + 1 := e_w1 ▸ size_lit w _ rfl
  have z0 : Bx w1 w.heap.size [.slice An nn cn, .slice Ai ni ci, .slice Ao no co] := e_w1 ▸ Bx.made_k w rfl #[.slice An nn cn, .slice Ai ni ci, .slice Ao no co] 25
  rw [e_w1]
  clear e_w1
  have BW := b
  clear b
  clear hs_w1
  have b0 := BW
  replace hN := hN.on b0
  replace hI := hI.on b0
  replace hO := hO.on b0
  clear b0
  have z0c0 := z0.2 0 _ rfl
  have z0c1 := z0.2 1 _ rfl
  have z0c2 := z0.2 2 _ rfl
  go_wp2_with fail
  clear z0c0 z0c1 z0c2
  obtain ⟨w2, e_w2⟩ : ∃ w', w1.alloc (.cells #[.slice Ai ni ci, .slice Ao no co] 23) = w' := ⟨_, rfl⟩
  have b : Below w1.heap.size w1 w2 := e_w2 ▸ below_lit _ _
  have hs_w2 : w2.heap.size = w1.heap.size + 1 := e_w2 ▸ size_lit w1 _ rfl
  have z1 : Bx w2 w1.heap.size [.slice Ai ni ci, .slice Ao no co] := e_w2 ▸ Bx.made_k w1 rfl #[.slice Ai ni ci, .slice Ao no co] 23
  rw [e_w2]
  clear e_w2
  replace z0 := z0.on b
  replace hN := hN.on b
  replace hI := hI.on b
  replace hO := hO.on b
  replace BW := Below.step BW b
  clear b
  clear hs_w2
  refine (concat_as hI hO swI swO (by omega) z1).mono ?_
  rintro en w3 ⟨A, cp, rfl, hp, sw, b⟩
  replace z0 := z0.on b
  replace hN := hN.on b
  replace hI := hI.on b
  replace hO := hO.on b
  replace z1 := z1.on b
  replace BW := Below.step BW b
  clear b
  rw [hq] at hp sw
  clear hO z1
  have z0c0 := z0.2 0 _ rfl
  have z0c1 := z0.2 1 _ rfl
  have z0c2 := z0.2 2 _ rfl
  go_wp2_with fail
  refine (areFormed_as hN (by omega) false HF.out).mono ?_
  rintro en w4 ⟨rfl, b⟩
  clear z0c0 z0c1 z0c2
  replace z0 := z0.on b
  replace hN := hN.on b
  replace hI := hI.on b
  replace hp := hp.on b
  replace BW := Below.step BW b
  clear b
  have z0c0 := z0.2 0 _ rfl
  have z0c1 := z0.2 1 _ rfl
  have z0c2 := z0.2 2 _ rfl
  go_wp2_with fail
  go_ret
  exact ⟨rfl, BW⟩
set_option maxHeartbeats 1000000 in
theorem wrong_b {An Ai Ao : Option Addr} {nn cn ni ci no co : Nat} {N : List Nd} {I O : List Pt} {w : World} (hN : Ns w An nn N) (hI : Ps w Ai ni I) (hO : Ps w Ao no O) (swI : Sw Ai ni ci) (swO : Sw Ao no co) (hn : nn ≤ 100000) (hs : ni + no ≤ 1000) (hb : ∀ p ∈ I ++ O, p.bits.length ≤ 1000000) (q : Nat) (hq : ni + no = q) (q1 : IntKind.i64.wrap ((ni : Int) + (no : Int)) = (q : Int)) (e0 : decide (262144 < (nn : Int)) = false) (e1 : decide (64 < (q : Int)) = false) (hf : N.all (formedS nn) = true) (hbt : (I ++ O).all (bitsS nn) = false)  :
    Calls Try.prog 69 #[.agg #[.slice An nn cn, .slice Ai ni ci, .slice Ao no co]] w fun e w' => e = .returned (.int .i64 2) ∧ Below w.heap.size w w' := by
  have HF := Lib.hid hf
  have HT := Lib.hid hbt
  have HB := Lib.hid hb
  clear hf hbt hb
  go_enter Try.func69, Try.ntmps69
  go_upto_region 3 with fail
  obtain ⟨w1, e_w1⟩ : ∃ w', w.alloc (.cells #[.slice An nn cn, .slice Ai ni ci, .slice Ao no co] 25) = w' := ⟨_, rfl⟩
  have b : Below w.heap.size w w1 := e_w1 ▸ below_lit _ _
  have hs_w1 : w1.heap.size = w.heap.size + 1 := e_w1 ▸ size_lit w _ rfl
  have z0 : Bx w1 w.heap.size [.slice An nn cn, .slice Ai ni ci, .slice Ao no co] := e_w1 ▸ Bx.made_k w rfl #[.slice An nn cn, .slice Ai ni ci, .slice Ao no co] 25
  rw [e_w1]
  clear e_w1
  have BW := b
  clear b
  clear hs_w1
  have b0 := BW
  replace hN := hN.on b0
  replace hI := hI.on b0
  replace hO := hO.on b0
  clear b0
  have z0c0 := z0.2 0 _ rfl
  have z0c1 := z0.2 1 _ rfl
  have z0c2 := z0.2 2 _ rfl
  go_wp2_with fail
  clear z0c0 z0c1 z0c2
  obtain ⟨w2, e_w2⟩ : ∃ w', w1.alloc (.cells #[.slice Ai ni ci, .slice Ao no co] 23) = w' := ⟨_, rfl⟩
  have b : Below w1.heap.size w1 w2 := e_w2 ▸ below_lit _ _
  have hs_w2 : w2.heap.size = w1.heap.size + 1 := e_w2 ▸ size_lit w1 _ rfl
  have z1 : Bx w2 w1.heap.size [.slice Ai ni ci, .slice Ao no co] := e_w2 ▸ Bx.made_k w1 rfl #[.slice Ai ni ci, .slice Ao no co] 23
  rw [e_w2]
  clear e_w2
  replace z0 := z0.on b
  replace hN := hN.on b
  replace hI := hI.on b
  replace hO := hO.on b
  replace BW := Below.step BW b
  clear b
  clear hs_w2
  refine (concat_as hI hO swI swO (by omega) z1).mono ?_
  rintro en w3 ⟨A, cp, rfl, hp, sw, b⟩
  replace z0 := z0.on b
  replace hN := hN.on b
  replace hI := hI.on b
  replace hO := hO.on b
  replace z1 := z1.on b
  replace BW := Below.step BW b
  clear b
  rw [hq] at hp sw
  clear hO z1
  have z0c0 := z0.2 0 _ rfl
  have z0c1 := z0.2 1 _ rfl
  have z0c2 := z0.2 2 _ rfl
  go_wp2_with fail
  refine (areFormed_as hN (by omega) true HF.out).mono ?_
  rintro en w4 ⟨rfl, b⟩
  clear z0c0 z0c1 z0c2
  replace z0 := z0.on b
  replace hN := hN.on b
  replace hI := hI.on b
  replace hp := hp.on b
  replace BW := Below.step BW b
  clear b
  have z0c0 := z0.2 0 _ rfl
  have z0c1 := z0.2 1 _ rfl
  have z0c2 := z0.2 2 _ rfl
  go_wp2_with fail
  refine (haveBits_as hp (by omega) HB.out _ false HT.out).mono ?_
  rintro en w5 ⟨rfl, b⟩
  clear z0c0 z0c1 z0c2
  replace z0 := z0.on b
  replace hN := hN.on b
  replace hI := hI.on b
  replace hp := hp.on b
  replace BW := Below.step BW b
  clear b
  have z0c0 := z0.2 0 _ rfl
  have z0c1 := z0.2 1 _ rfl
  have z0c2 := z0.2 2 _ rfl
  go_wp2_with fail
  go_ret
  exact ⟨rfl, BW⟩
set_option maxHeartbeats 1000000 in
theorem wrong_n {An Ai Ao : Option Addr} {nn cn ni ci no co : Nat} {N : List Nd} {I O : List Pt} {w : World} (hN : Ns w An nn N) (hI : Ps w Ai ni I) (hO : Ps w Ao no O) (swI : Sw Ai ni ci) (swO : Sw Ao no co) (hn : nn ≤ 100000) (hs : ni + no ≤ 1000) (hb : ∀ p ∈ I ++ O, p.bits.length ≤ 1000000) (q : Nat) (hq : ni + no = q) (q1 : IntKind.i64.wrap ((ni : Int) + (no : Int)) = (q : Int)) (e0 : decide (262144 < (nn : Int)) = false) (e1 : decide (64 < (q : Int)) = false) (hf : N.all (formedS nn) = true) (hbt : (I ++ O).all (bitsS nn) = true) (hnm : (I ++ O).all (fun p => nameS p.name) = false)  :
    Calls Try.prog 69 #[.agg #[.slice An nn cn, .slice Ai ni ci, .slice Ao no co]] w fun e w' => e = .returned (.int .i64 7) ∧ Below w.heap.size w w' := by
  have HF := Lib.hid hf
  have HT := Lib.hid hbt
  have HM := Lib.hid hnm
  have HB := Lib.hid hb
  clear hf hbt hnm hb
  go_enter Try.func69, Try.ntmps69
  go_upto_region 3 with fail
  obtain ⟨w1, e_w1⟩ : ∃ w', w.alloc (.cells #[.slice An nn cn, .slice Ai ni ci, .slice Ao no co] 25) = w' := ⟨_, rfl⟩
  have b : Below w.heap.size w w1 := e_w1 ▸ below_lit _ _
  have hs_w1 : w1.heap.size = w.heap.size + 1 := e_w1 ▸ size_lit w _ rfl
  have z0 : Bx w1 w.heap.size [.slice An nn cn, .slice Ai ni ci, .slice Ao no co] := e_w1 ▸ Bx.made_k w rfl #[.slice An nn cn, .slice Ai ni ci, .slice Ao no co] 25
  rw [e_w1]
  clear e_w1
  have BW := b
  clear b
  clear hs_w1
  have b0 := BW
  replace hN := hN.on b0
  replace hI := hI.on b0
  replace hO := hO.on b0
  clear b0
  have z0c0 := z0.2 0 _ rfl
  have z0c1 := z0.2 1 _ rfl
  have z0c2 := z0.2 2 _ rfl
  go_wp2_with fail
  clear z0c0 z0c1 z0c2
  obtain ⟨w2, e_w2⟩ : ∃ w', w1.alloc (.cells #[.slice Ai ni ci, .slice Ao no co] 23) = w' := ⟨_, rfl⟩
  have b : Below w1.heap.size w1 w2 := e_w2 ▸ below_lit _ _
  have hs_w2 : w2.heap.size = w1.heap.size + 1 := e_w2 ▸ size_lit w1 _ rfl
  have z1 : Bx w2 w1.heap.size [.slice Ai ni ci, .slice Ao no co] := e_w2 ▸ Bx.made_k w1 rfl #[.slice Ai ni ci, .slice Ao no co] 23
  rw [e_w2]
  clear e_w2
  replace z0 := z0.on b
  replace hN := hN.on b
  replace hI := hI.on b
  replace hO := hO.on b
  replace BW := Below.step BW b
  clear b
  clear hs_w2
  refine (concat_as hI hO swI swO (by omega) z1).mono ?_
  rintro en w3 ⟨A, cp, rfl, hp, sw, b⟩
  replace z0 := z0.on b
  replace hN := hN.on b
  replace hI := hI.on b
  replace hO := hO.on b
  replace z1 := z1.on b
  replace BW := Below.step BW b
  clear b
  rw [hq] at hp sw
  clear hO z1
  have z0c0 := z0.2 0 _ rfl
  have z0c1 := z0.2 1 _ rfl
  have z0c2 := z0.2 2 _ rfl
  go_wp2_with fail
  refine (areFormed_as hN (by omega) true HF.out).mono ?_
  rintro en w4 ⟨rfl, b⟩
  clear z0c0 z0c1 z0c2
  replace z0 := z0.on b
  replace hN := hN.on b
  replace hI := hI.on b
  replace hp := hp.on b
  replace BW := Below.step BW b
  clear b
  have z0c0 := z0.2 0 _ rfl
  have z0c1 := z0.2 1 _ rfl
  have z0c2 := z0.2 2 _ rfl
  go_wp2_with fail
  refine (haveBits_as hp (by omega) HB.out _ true HT.out).mono ?_
  rintro en w5 ⟨rfl, b⟩
  clear z0c0 z0c1 z0c2
  replace z0 := z0.on b
  replace hN := hN.on b
  replace hI := hI.on b
  replace hp := hp.on b
  replace BW := Below.step BW b
  clear b
  have z0c0 := z0.2 0 _ rfl
  have z0c1 := z0.2 1 _ rfl
  have z0c2 := z0.2 2 _ rfl
  go_wp2_with fail
  refine (haveNames_as hp (by omega) false HM.out).mono ?_
  rintro en w6 ⟨rfl, b⟩
  clear z0c0 z0c1 z0c2
  replace z0 := z0.on b
  replace hN := hN.on b
  replace hI := hI.on b
  replace hp := hp.on b
  replace BW := Below.step BW b
  clear b
  have z0c0 := z0.2 0 _ rfl
  have z0c1 := z0.2 1 _ rfl
  have z0c2 := z0.2 2 _ rfl
  go_wp2_with fail
  go_ret
  exact ⟨rfl, BW⟩
set_option maxHeartbeats 1000000 in
theorem wrong_d {An Ai Ao : Option Addr} {nn cn ni ci no co : Nat} {N : List Nd} {I O : List Pt} {w : World} (hN : Ns w An nn N) (hI : Ps w Ai ni I) (hO : Ps w Ao no O) (swI : Sw Ai ni ci) (swO : Sw Ao no co) (hn : nn ≤ 100000) (hs : ni + no ≤ 1000) (hb : ∀ p ∈ I ++ O, p.bits.length ≤ 1000000) (q : Nat) (hq : ni + no = q) (q1 : IntKind.i64.wrap ((ni : Int) + (no : Int)) = (q : Int)) (e0 : decide (262144 < (nn : Int)) = false) (e1 : decide (64 < (q : Int)) = false) (hf : N.all (formedS nn) = true) (hbt : (I ++ O).all (bitsS nn) = true) (hnm : (I ++ O).all (fun p => nameS p.name) = true) (hd : dupS (I ++ O) = true)  :
    Calls Try.prog 69 #[.agg #[.slice An nn cn, .slice Ai ni ci, .slice Ao no co]] w fun e w' => e = .returned (.int .i64 8) ∧ Below w.heap.size w w' := by
  have HF := Lib.hid hf
  have HT := Lib.hid hbt
  have HM := Lib.hid hnm
  have HD := Lib.hid hd
  have HB := Lib.hid hb
  clear hf hbt hnm hd hb
  go_enter Try.func69, Try.ntmps69
  go_upto_region 3 with fail
  obtain ⟨w1, e_w1⟩ : ∃ w', w.alloc (.cells #[.slice An nn cn, .slice Ai ni ci, .slice Ao no co] 25) = w' := ⟨_, rfl⟩
  have b : Below w.heap.size w w1 := e_w1 ▸ below_lit _ _
  have hs_w1 : w1.heap.size = w.heap.size + 1 := e_w1 ▸ size_lit w _ rfl
  have z0 : Bx w1 w.heap.size [.slice An nn cn, .slice Ai ni ci, .slice Ao no co] := e_w1 ▸ Bx.made_k w rfl #[.slice An nn cn, .slice Ai ni ci, .slice Ao no co] 25
  rw [e_w1]
  clear e_w1
  have BW := b
  clear b
  clear hs_w1
  have b0 := BW
  replace hN := hN.on b0
  replace hI := hI.on b0
  replace hO := hO.on b0
  clear b0
  have z0c0 := z0.2 0 _ rfl
  have z0c1 := z0.2 1 _ rfl
  have z0c2 := z0.2 2 _ rfl
  go_wp2_with fail
  clear z0c0 z0c1 z0c2
  obtain ⟨w2, e_w2⟩ : ∃ w', w1.alloc (.cells #[.slice Ai ni ci, .slice Ao no co] 23) = w' := ⟨_, rfl⟩
  have b : Below w1.heap.size w1 w2 := e_w2 ▸ below_lit _ _
  have hs_w2 : w2.heap.size = w1.heap.size + 1 := e_w2 ▸ size_lit w1 _ rfl
  have z1 : Bx w2 w1.heap.size [.slice Ai ni ci, .slice Ao no co] := e_w2 ▸ Bx.made_k w1 rfl #[.slice Ai ni ci, .slice Ao no co] 23
  rw [e_w2]
  clear e_w2
  replace z0 := z0.on b
  replace hN := hN.on b
  replace hI := hI.on b
  replace hO := hO.on b
  replace BW := Below.step BW b
  clear b
  clear hs_w2
  refine (concat_as hI hO swI swO (by omega) z1).mono ?_
  rintro en w3 ⟨A, cp, rfl, hp, sw, b⟩
  replace z0 := z0.on b
  replace hN := hN.on b
  replace hI := hI.on b
  replace hO := hO.on b
  replace z1 := z1.on b
  replace BW := Below.step BW b
  clear b
  rw [hq] at hp sw
  clear hO z1
  have z0c0 := z0.2 0 _ rfl
  have z0c1 := z0.2 1 _ rfl
  have z0c2 := z0.2 2 _ rfl
  go_wp2_with fail
  refine (areFormed_as hN (by omega) true HF.out).mono ?_
  rintro en w4 ⟨rfl, b⟩
  clear z0c0 z0c1 z0c2
  replace z0 := z0.on b
  replace hN := hN.on b
  replace hI := hI.on b
  replace hp := hp.on b
  replace BW := Below.step BW b
  clear b
  have z0c0 := z0.2 0 _ rfl
  have z0c1 := z0.2 1 _ rfl
  have z0c2 := z0.2 2 _ rfl
  go_wp2_with fail
  refine (haveBits_as hp (by omega) HB.out _ true HT.out).mono ?_
  rintro en w5 ⟨rfl, b⟩
  clear z0c0 z0c1 z0c2
  replace z0 := z0.on b
  replace hN := hN.on b
  replace hI := hI.on b
  replace hp := hp.on b
  replace BW := Below.step BW b
  clear b
  have z0c0 := z0.2 0 _ rfl
  have z0c1 := z0.2 1 _ rfl
  have z0c2 := z0.2 2 _ rfl
  go_wp2_with fail
  refine (haveNames_as hp (by omega) true HM.out).mono ?_
  rintro en w6 ⟨rfl, b⟩
  clear z0c0 z0c1 z0c2
  replace z0 := z0.on b
  replace hN := hN.on b
  replace hI := hI.on b
  replace hp := hp.on b
  replace BW := Below.step BW b
  clear b
  have z0c0 := z0.2 0 _ rfl
  have z0c1 := z0.2 1 _ rfl
  have z0c2 := z0.2 2 _ rfl
  go_wp2_with fail
  refine (haveOneName_as hp (by omega) sw.1 true HD.out).mono ?_
  rintro en w7 ⟨rfl, b⟩
  clear z0c0 z0c1 z0c2
  replace z0 := z0.on b
  replace hN := hN.on b
  replace hI := hI.on b
  replace hp := hp.on b
  replace BW := Below.step BW b
  clear b
  have z0c0 := z0.2 0 _ rfl
  have z0c1 := z0.2 1 _ rfl
  have z0c2 := z0.2 2 _ rfl
  go_wp2_with fail
  go_ret
  exact ⟨rfl, BW⟩
set_option maxHeartbeats 1000000 in
theorem wrong_fed_false {An Ai Ao : Option Addr} {nn cn ni ci no co : Nat} {N : List Nd} {I O : List Pt} {w : World} (hN : Ns w An nn N) (hI : Ps w Ai ni I) (hO : Ps w Ao no O) (swI : Sw Ai ni ci) (swO : Sw Ao no co) (hn : nn ≤ 100000) (hs : ni + no ≤ 1000) (hb : ∀ p ∈ I ++ O, p.bits.length ≤ 1000000) (q : Nat) (hq : ni + no = q) (q1 : IntKind.i64.wrap ((ni : Int) + (no : Int)) = (q : Int)) (e0 : decide (262144 < (nn : Int)) = false) (e1 : decide (64 < (q : Int)) = false) (hf : N.all (formedS nn) = true) (hbt : (I ++ O).all (bitsS nn) = true) (hnm : (I ++ O).all (fun p => nameS p.name) = true) (hd : dupS (I ++ O) = false) (hfd : fedS N I = false)  :
    Calls Try.prog 69 #[.agg #[.slice An nn cn, .slice Ai ni ci, .slice Ao no co]] w fun e w' => e = .returned (.int .i64 10) ∧ Below w.heap.size w w' := by
  have HBI : Hid (∀ p ∈ I, p.bits.length ≤ 1000000) := Lib.hid fun p hp => hb p (List.mem_append_left _ hp)
  have HR : Hid (∀ p ∈ I, ∀ x ∈ p.bits, ∃ q : Nat, x = (q : Int) ∧ q < nn) := Lib.hid fun p hp x hx => by
    have h1 := List.all_eq_true.1 hbt p (List.mem_append_left _ hp)
    unfold bitsS at h1
    have h2 := List.all_eq_true.1 (Bool.and_eq_true_iff.1 h1).2 x hx
    unfold placeS at h2
    obtain ⟨h3, h4⟩ := Bool.and_eq_true_iff.1 h2
    have h3 := of_decide_eq_true h3
    have h4 := of_decide_eq_true h4
    exact ⟨x.toNat, by omega, by omega⟩
  have HF := Lib.hid hf
  have HT := Lib.hid hbt
  have HM := Lib.hid hnm
  have HD := Lib.hid hd
  have HE := Lib.hid hfd
  have HB := Lib.hid hb
  clear hf hbt hnm hd hfd hb
  go_enter Try.func69, Try.ntmps69
  go_upto_region 3 with fail
  obtain ⟨w1, e_w1⟩ : ∃ w', w.alloc (.cells #[.slice An nn cn, .slice Ai ni ci, .slice Ao no co] 25) = w' := ⟨_, rfl⟩
  have b : Below w.heap.size w w1 := e_w1 ▸ below_lit _ _
  have hs_w1 : w1.heap.size = w.heap.size + 1 := e_w1 ▸ size_lit w _ rfl
  have z0 : Bx w1 w.heap.size [.slice An nn cn, .slice Ai ni ci, .slice Ao no co] := e_w1 ▸ Bx.made_k w rfl #[.slice An nn cn, .slice Ai ni ci, .slice Ao no co] 25
  rw [e_w1]
  clear e_w1
  have BW := b
  clear b
  clear hs_w1
  have b0 := BW
  replace hN := hN.on b0
  replace hI := hI.on b0
  replace hO := hO.on b0
  clear b0
  have z0c0 := z0.2 0 _ rfl
  have z0c1 := z0.2 1 _ rfl
  have z0c2 := z0.2 2 _ rfl
  go_wp2_with fail
  clear z0c0 z0c1 z0c2
  obtain ⟨w2, e_w2⟩ : ∃ w', w1.alloc (.cells #[.slice Ai ni ci, .slice Ao no co] 23) = w' := ⟨_, rfl⟩
  have b : Below w1.heap.size w1 w2 := e_w2 ▸ below_lit _ _
  have hs_w2 : w2.heap.size = w1.heap.size + 1 := e_w2 ▸ size_lit w1 _ rfl
  have z1 : Bx w2 w1.heap.size [.slice Ai ni ci, .slice Ao no co] := e_w2 ▸ Bx.made_k w1 rfl #[.slice Ai ni ci, .slice Ao no co] 23
  rw [e_w2]
  clear e_w2
  replace z0 := z0.on b
  replace hN := hN.on b
  replace hI := hI.on b
  replace hO := hO.on b
  replace BW := Below.step BW b
  clear b
  clear hs_w2
  refine (concat_as hI hO swI swO (by omega) z1).mono ?_
  rintro en w3 ⟨A, cp, rfl, hp, sw, b⟩
  replace z0 := z0.on b
  replace hN := hN.on b
  replace hI := hI.on b
  replace hO := hO.on b
  replace z1 := z1.on b
  replace BW := Below.step BW b
  clear b
  rw [hq] at hp sw
  clear hO z1
  have z0c0 := z0.2 0 _ rfl
  have z0c1 := z0.2 1 _ rfl
  have z0c2 := z0.2 2 _ rfl
  go_wp2_with fail
  refine (areFormed_as hN (by omega) true HF.out).mono ?_
  rintro en w4 ⟨rfl, b⟩
  clear z0c0 z0c1 z0c2
  replace z0 := z0.on b
  replace hN := hN.on b
  replace hI := hI.on b
  replace hp := hp.on b
  replace BW := Below.step BW b
  clear b
  have z0c0 := z0.2 0 _ rfl
  have z0c1 := z0.2 1 _ rfl
  have z0c2 := z0.2 2 _ rfl
  go_wp2_with fail
  refine (haveBits_as hp (by omega) HB.out _ true HT.out).mono ?_
  rintro en w5 ⟨rfl, b⟩
  clear z0c0 z0c1 z0c2
  replace z0 := z0.on b
  replace hN := hN.on b
  replace hI := hI.on b
  replace hp := hp.on b
  replace BW := Below.step BW b
  clear b
  have z0c0 := z0.2 0 _ rfl
  have z0c1 := z0.2 1 _ rfl
  have z0c2 := z0.2 2 _ rfl
  go_wp2_with fail
  refine (haveNames_as hp (by omega) true HM.out).mono ?_
  rintro en w6 ⟨rfl, b⟩
  clear z0c0 z0c1 z0c2
  replace z0 := z0.on b
  replace hN := hN.on b
  replace hI := hI.on b
  replace hp := hp.on b
  replace BW := Below.step BW b
  clear b
  have z0c0 := z0.2 0 _ rfl
  have z0c1 := z0.2 1 _ rfl
  have z0c2 := z0.2 2 _ rfl
  go_wp2_with fail
  refine (haveOneName_as hp (by omega) sw.1 false HD.out).mono ?_
  rintro en w7 ⟨rfl, b⟩
  clear z0c0 z0c1 z0c2
  replace z0 := z0.on b
  replace hN := hN.on b
  replace hI := hI.on b
  replace hp := hp.on b
  replace BW := Below.step BW b
  clear b
  have z0c0 := z0.2 0 _ rfl
  have z0c1 := z0.2 1 _ rfl
  have z0c2 := z0.2 2 _ rfl
  go_wp2_with fail
  refine (isFed_as hN hI (by omega) (by omega) HBI.out HR.out false HE.out).mono ?_
  rintro en w8 ⟨rfl, b⟩
  clear z0c0 z0c1 z0c2
  replace z0 := z0.on b
  replace hN := hN.on b
  replace hI := hI.on b
  replace hp := hp.on b
  replace BW := Below.step BW b
  clear b
  have z0c0 := z0.2 0 _ rfl
  have z0c1 := z0.2 1 _ rfl
  have z0c2 := z0.2 2 _ rfl
  go_wp2_with fail
  go_ret
  exact ⟨rfl, BW⟩
set_option maxHeartbeats 1000000 in
theorem wrong_fed_true {An Ai Ao : Option Addr} {nn cn ni ci no co : Nat} {N : List Nd} {I O : List Pt} {w : World} (hN : Ns w An nn N) (hI : Ps w Ai ni I) (hO : Ps w Ao no O) (swI : Sw Ai ni ci) (swO : Sw Ao no co) (hn : nn ≤ 100000) (hs : ni + no ≤ 1000) (hb : ∀ p ∈ I ++ O, p.bits.length ≤ 1000000) (q : Nat) (hq : ni + no = q) (q1 : IntKind.i64.wrap ((ni : Int) + (no : Int)) = (q : Int)) (e0 : decide (262144 < (nn : Int)) = false) (e1 : decide (64 < (q : Int)) = false) (hf : N.all (formedS nn) = true) (hbt : (I ++ O).all (bitsS nn) = true) (hnm : (I ++ O).all (fun p => nameS p.name) = true) (hd : dupS (I ++ O) = false) (hfd : fedS N I = true)  :
    Calls Try.prog 69 #[.agg #[.slice An nn cn, .slice Ai ni ci, .slice Ao no co]] w fun e w' => e = .returned (.int .i64 0) ∧ Below w.heap.size w w' := by
  have HBI : Hid (∀ p ∈ I, p.bits.length ≤ 1000000) := Lib.hid fun p hp => hb p (List.mem_append_left _ hp)
  have HR : Hid (∀ p ∈ I, ∀ x ∈ p.bits, ∃ q : Nat, x = (q : Int) ∧ q < nn) := Lib.hid fun p hp x hx => by
    have h1 := List.all_eq_true.1 hbt p (List.mem_append_left _ hp)
    unfold bitsS at h1
    have h2 := List.all_eq_true.1 (Bool.and_eq_true_iff.1 h1).2 x hx
    unfold placeS at h2
    obtain ⟨h3, h4⟩ := Bool.and_eq_true_iff.1 h2
    have h3 := of_decide_eq_true h3
    have h4 := of_decide_eq_true h4
    exact ⟨x.toNat, by omega, by omega⟩
  have HF := Lib.hid hf
  have HT := Lib.hid hbt
  have HM := Lib.hid hnm
  have HD := Lib.hid hd
  have HE := Lib.hid hfd
  have HB := Lib.hid hb
  clear hf hbt hnm hd hfd hb
  go_enter Try.func69, Try.ntmps69
  go_upto_region 3 with fail
  obtain ⟨w1, e_w1⟩ : ∃ w', w.alloc (.cells #[.slice An nn cn, .slice Ai ni ci, .slice Ao no co] 25) = w' := ⟨_, rfl⟩
  have b : Below w.heap.size w w1 := e_w1 ▸ below_lit _ _
  have hs_w1 : w1.heap.size = w.heap.size + 1 := e_w1 ▸ size_lit w _ rfl
  have z0 : Bx w1 w.heap.size [.slice An nn cn, .slice Ai ni ci, .slice Ao no co] := e_w1 ▸ Bx.made_k w rfl #[.slice An nn cn, .slice Ai ni ci, .slice Ao no co] 25
  rw [e_w1]
  clear e_w1
  have BW := b
  clear b
  clear hs_w1
  have b0 := BW
  replace hN := hN.on b0
  replace hI := hI.on b0
  replace hO := hO.on b0
  clear b0
  have z0c0 := z0.2 0 _ rfl
  have z0c1 := z0.2 1 _ rfl
  have z0c2 := z0.2 2 _ rfl
  go_wp2_with fail
  clear z0c0 z0c1 z0c2
  obtain ⟨w2, e_w2⟩ : ∃ w', w1.alloc (.cells #[.slice Ai ni ci, .slice Ao no co] 23) = w' := ⟨_, rfl⟩
  have b : Below w1.heap.size w1 w2 := e_w2 ▸ below_lit _ _
  have hs_w2 : w2.heap.size = w1.heap.size + 1 := e_w2 ▸ size_lit w1 _ rfl
  have z1 : Bx w2 w1.heap.size [.slice Ai ni ci, .slice Ao no co] := e_w2 ▸ Bx.made_k w1 rfl #[.slice Ai ni ci, .slice Ao no co] 23
  rw [e_w2]
  clear e_w2
  replace z0 := z0.on b
  replace hN := hN.on b
  replace hI := hI.on b
  replace hO := hO.on b
  replace BW := Below.step BW b
  clear b
  clear hs_w2
  refine (concat_as hI hO swI swO (by omega) z1).mono ?_
  rintro en w3 ⟨A, cp, rfl, hp, sw, b⟩
  replace z0 := z0.on b
  replace hN := hN.on b
  replace hI := hI.on b
  replace hO := hO.on b
  replace z1 := z1.on b
  replace BW := Below.step BW b
  clear b
  rw [hq] at hp sw
  clear hO z1
  have z0c0 := z0.2 0 _ rfl
  have z0c1 := z0.2 1 _ rfl
  have z0c2 := z0.2 2 _ rfl
  go_wp2_with fail
  refine (areFormed_as hN (by omega) true HF.out).mono ?_
  rintro en w4 ⟨rfl, b⟩
  clear z0c0 z0c1 z0c2
  replace z0 := z0.on b
  replace hN := hN.on b
  replace hI := hI.on b
  replace hp := hp.on b
  replace BW := Below.step BW b
  clear b
  have z0c0 := z0.2 0 _ rfl
  have z0c1 := z0.2 1 _ rfl
  have z0c2 := z0.2 2 _ rfl
  go_wp2_with fail
  refine (haveBits_as hp (by omega) HB.out _ true HT.out).mono ?_
  rintro en w5 ⟨rfl, b⟩
  clear z0c0 z0c1 z0c2
  replace z0 := z0.on b
  replace hN := hN.on b
  replace hI := hI.on b
  replace hp := hp.on b
  replace BW := Below.step BW b
  clear b
  have z0c0 := z0.2 0 _ rfl
  have z0c1 := z0.2 1 _ rfl
  have z0c2 := z0.2 2 _ rfl
  go_wp2_with fail
  refine (haveNames_as hp (by omega) true HM.out).mono ?_
  rintro en w6 ⟨rfl, b⟩
  clear z0c0 z0c1 z0c2
  replace z0 := z0.on b
  replace hN := hN.on b
  replace hI := hI.on b
  replace hp := hp.on b
  replace BW := Below.step BW b
  clear b
  have z0c0 := z0.2 0 _ rfl
  have z0c1 := z0.2 1 _ rfl
  have z0c2 := z0.2 2 _ rfl
  go_wp2_with fail
  refine (haveOneName_as hp (by omega) sw.1 false HD.out).mono ?_
  rintro en w7 ⟨rfl, b⟩
  clear z0c0 z0c1 z0c2
  replace z0 := z0.on b
  replace hN := hN.on b
  replace hI := hI.on b
  replace hp := hp.on b
  replace BW := Below.step BW b
  clear b
  have z0c0 := z0.2 0 _ rfl
  have z0c1 := z0.2 1 _ rfl
  have z0c2 := z0.2 2 _ rfl
  go_wp2_with fail
  refine (isFed_as hN hI (by omega) (by omega) HBI.out HR.out true HE.out).mono ?_
  rintro en w8 ⟨rfl, b⟩
  clear z0c0 z0c1 z0c2
  replace z0 := z0.on b
  replace hN := hN.on b
  replace hI := hI.on b
  replace hp := hp.on b
  replace BW := Below.step BW b
  clear b
  have z0c0 := z0.2 0 _ rfl
  have z0c1 := z0.2 1 _ rfl
  have z0c2 := z0.2 2 _ rfl
  go_wp2_with fail
  go_ret
  exact ⟨rfl, BW⟩
/-- WRONG. -/
theorem wrong_as {An Ai Ao : Option Addr} {nn cn ni ci no co : Nat} {N : List Nd} {I O : List Pt} {w : World} (hN : Ns w An nn N) (hI : Ps w Ai ni I) (hO : Ps w Ao no O) (swI : Sw Ai ni ci) (swO : Sw Ao no co) (hn : nn ≤ 100000) (hs : ni + no ≤ 1000) (hb : ∀ p ∈ I ++ O, p.bits.length ≤ 1000000) (v : Int) (hv : wrongS N I O = v) :
    Calls Try.prog 69 #[.agg #[.slice An nn cn, .slice Ai ni ci, .slice Ao no co]] w fun e w' => e = .returned (.int .i64 v) ∧ Below w.heap.size w w' := by
  have q1 : IntKind.i64.wrap ((ni : Int) + (no : Int)) = ((ni + no : Nat) : Int) := by rw [IntKind.wrap_i64]; omega
  have e0 : decide (262144 < (nn : Int)) = false := decide_eq_false (by omega)
  unfold wrongS at hv
  rw [hI.1, hO.1, hN.1] at hv
  by_cases h1 : 64 < ni + no
  · rw [if_pos h1] at hv
    subst hv
    exact wrong_many hN hI hO swI swO hn hs hb _ rfl q1 e0 (decide_eq_true (by omega))
  have e1 : decide (64 < ((ni + no : Nat) : Int)) = false := decide_eq_false (by omega)
  rw [if_neg h1] at hv
  cases h2 : N.all (formedS nn)
  · rw [h2] at hv
    subst hv
    exact wrong_f hN hI hO swI swO hn hs hb _ rfl q1 e0 e1 h2
  cases h3 : (I ++ O).all (bitsS nn)
  · rw [h2, h3] at hv
    subst hv
    exact wrong_b hN hI hO swI swO hn hs hb _ rfl q1 e0 e1 h2 h3
  rw [h2, h3] at hv
  simp only [Bool.and_self, if_true] at hv
  cases h4 : (I ++ O).all (fun p => nameS p.name)
  · rw [h4] at hv
    subst hv
    exact wrong_n hN hI hO swI swO hn hs hb _ rfl q1 e0 e1 h2 h3 h4
  rw [h4] at hv
  simp only [if_true] at hv
  cases h5 : dupS (I ++ O)
  · rw [h5] at hv
    simp only [Bool.false_eq_true, if_false] at hv
    cases h6 : fedS N I
    · rw [h6] at hv
      subst hv
      exact wrong_fed_false hN hI hO swI swO hn hs hb _ rfl q1 e0 e1 h2 h3 h4 h5 h6
    · rw [h6] at hv
      subst hv
      exact wrong_fed_true hN hI hO swI swO hn hs hb _ rfl q1 e0 e1 h2 h3 h4 h5 h6
  · rw [h5] at hv
    subst hv
    exact wrong_d hN hI hO swI swO hn hs hb _ rfl q1 e0 e1 h2 h3 h4 h5
end Go.Proofs.Ytcehklnonhalhaa
