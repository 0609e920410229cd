
/-
  ieee's small functions: the error of operands, what is no number, the sign turned.
-/
import Derived.Test.YtpachoeignpcbaaGreatDoorIa
import Derived.Test.YtpachoeignpcbaaGreatDoorKB
namespace Go.Proofs.YtpachoeignpcbaaGreatDoor
open Go.RowKit
set_option linter.unusedVariables false

/-- operands of 64 bits, as cells. -/
def Q64 (L : List Nat) : List Value := L.map fun x : Nat => Value.int .u64 (x : Int)
def OB (w : World) (s : Nat) (L : List Nat) : Prop := Own w s 22 (Q64 L)
section
variable {w w' : World} {s : Nat} {L : List Nat}
theorem OB.on (h : OB w s L) (hb : Below w.heap.size w w') : OB w' s L := Own.below h hb (Own.lt h)
theorem OB.look (h : OB w s L) {k x : Nat} (hk : L[k]? = some x) : w.cell? ⟨s, k, none⟩ = some (.int .u64 (x : Int)) := by
  have := Own.cell h k
  rw [this]
  unfold Q64
  rw [List.getElem?_map, hk]
  rfl
theorem OB.two (w : World) {s : Nat} (hs : w.heap.size = s) (a b : Nat) : OB (w.alloc (.cells #[.int .u64 (a : Int), .int .u64 (b : Int)] 22)) s [a, b] := by
  subst hs; exact Own.made w _ (Q64 [a, b])
theorem OB.three (w : World) {s : Nat} (hs : w.heap.size = s) (a b c : Nat) : OB (w.alloc (.cells #[.int .u64 (a : Int), .int .u64 (b : Int), .int .u64 (c : Int)] 22)) s [a, b, c] := by
  subst hs; exact Own.made w _ (Q64 [a, b, c])
end
theorem all_take {p : Nat → Bool} {L : List Nat} {k x : Nat} (h : (L.take k).all p = true) (hk : L[k]? = some x) (hx : p x = true) : (L.take (k + 1)).all p = true := by
  rw [List.take_add_one, hk, List.all_append, h]
  simp [hx]
theorem all_fails {p : Nat → Bool} {L : List Nat} {k x : Nat} (hk : L[k]? = some x) (hx : p x = false) : L.all p = false := by
  rw [List.all_eq_false]
  exact ⟨x, List.mem_of_getElem? hk, by rw [hx]; decide⟩
theorem look_lt {L : List Nat} {k n : Nat} (hn : L.length = n) (hk : k < n) (hL : ∀ x ∈ L, x < 18446744073709551616) : ∃ x, L[k]? = some x ∧ x < 18446744073709551616 := by
  have h : k < L.length := by omega
  exact ⟨L[k], List.getElem?_eq_getElem h, hL _ (List.getElem_mem h)⟩
theorem wrong_mode {B P W : Nat} (L : List Nat) {s n : Nat} {w : World} (mode : Int) (hm : mode < 0 ∨ 4 < mode) :
    Calls Tryz.prog 17 #[.agg #[.int .i64 (B : Int), .int .i64 (P : Int), .int .i64 (W : Int)], .int .i64 mode, .slice (some ⟨s, 0, none⟩) n n] w fun e w' => e = .returned (.int .i64 1) ∧ Below w.heap.size w w' := by
  by_cases h0 : mode < 0
  · have d1 : decide (mode < 0) = true := decide_eq_true h0
    clear hm h0
    go_enter Tryz.func17, Tryz.ntmps17
    go_wp2
    go_ret
    exact ⟨rfl, below_lit _ _⟩
  · have d1 : decide (mode < 0) = false := decide_eq_false h0
    have d2 : decide (5 ≤ mode) = true := decide_eq_true (by omega)
    clear hm h0
    go_enter Tryz.func17, Tryz.ntmps17
    go_wp2
    go_ret
    exact ⟨rfl, below_lit _ _⟩
set_option maxHeartbeats 1000000 in
theorem wrong_walk {B P W M E H : Nat} {low : Int} (hf : Fm B P W M E H low) (L : List Nat) (hL : ∀ x ∈ L, x < 18446744073709551616) {s n : Nat} (hln : L.length = n) (hn : n ≤ 1000) {w : World} (h : OB w s L) (mode : Int) (d1 : decide (mode < 0) = false) (d2 : decide (5 ≤ mode) = false) (v : Int) (hv : (if L.all (fun b => decide (b < 2 * H)) then 0 else 3) = v) :
    Calls Tryz.prog 17 #[.agg #[.int .i64 (B : Int), .int .i64 (P : Int), .int .i64 (W : Int)], .int .i64 mode, .slice (some ⟨s, 0, none⟩) n n] w fun e w' => e = .returned (.int .i64 v) ∧ Below w.heap.size w w' := by
  have HV := Lib.hid hv
  have HN := Lib.hid hln
  have HL := Lib.hid hL
  clear hv hln hL
  go_enter Tryz.func17, Tryz.ntmps17
  go_wp2_with fail
  obtain ⟨V, hV, z0, BW, sW⟩ := fframe1 w 25 (B : Int) (P : Int) (W : Int)
  rw [hV]
  clear hV sW
  replace h := h.on BW
  go_loopw [17] (fun i wr => ∃ k : Nat, k ≤ n ∧ i = .int .i64 k ∧ (L.take k).all (fun b => decide (b < 2 * H)) = true ∧ Below V.heap.size V wr) (fun i _ => n - (intOf i).toNat)
  case atStart => exact ⟨0, Nat.zero_le _, rfl, rfl, Below.refl _ _⟩
  case round =>
    obtain ⟨k, hk, rfl, ha, bk⟩ := hrel
    have HA := Lib.hid ha
    have z1 := z0.on bk
    have h1 := h.on bk
    have B1 := Below.step BW bk
    clear ha z0 h BW
    by_cases hlt : k < n
    · obtain ⟨x, hx, hx64⟩ := look_lt HN.out hlt HL.out
      have hc := h1.look hx
      have HX := Lib.hid hx
      clear hx
      obtain ⟨zc0, zc1, zc2, zf0, zf1, zf2, zl⟩ := z1.cells
      by_cases hm : x < 2 * H
      · have HM := Lib.hid (fun V => fmay_as hf x hx64 true (decide_eq_true hm) V)
        have HX2 := Lib.hid hm
        clear hm
        go_wp2_with fail
        refine (HM.out _).mono ?_
        rintro en w2 ⟨rfl, b2⟩
        have bk2 := Below.step bk b2
        go_wp2_with fail
        go_roundw
        case rel => exact ⟨k + 1, by omega, by go_num, all_take HA.out HX.out (decide_eq_true HX2.out), bk2⟩
        case measure => simp [intOf]; omega
      · have HM := Lib.hid (fun V => fmay_as hf x hx64 false (decide_eq_false hm) V)
        have HR := Lib.hid (all_fails (p := fun b => decide (b < 2 * H)) HX.out (decide_eq_false hm))
        clear hm
        go_wp2_with fail
        refine (HM.out _).mono ?_
        rintro en w2 ⟨rfl, b2⟩
        have bk2 := Below.step B1 b2
        go_wp2_with fail
        go_ret
        exact ⟨ret_int (by rw [← HV.out, HR.out]; rfl), bk2⟩
    · have HR : Hid (L.all (fun b => decide (b < 2 * H)) = true) := by
        have := HA.out
        rw [List.take_of_length_le (by rw [HN.out]; omega)] at this
        exact Lib.hid this
      go_wp2_with fail
      go_ret
      exact ⟨ret_int (by rw [← HV.out, HR.out]; rfl), B1⟩
/-- the error of operands. -/
theorem wrong_as {B P W M E H : Nat} {low : Int} (hf : Fm B P W M E H low) (L : List Nat) (hL : ∀ x ∈ L, x < 18446744073709551616) {s n : Nat} (hln : L.length = n) (hn : n ≤ 1000) {w : World} (h : OB w s L) (mode : Int) (v : Int) (hv : wrongS H mode L = v) :
    Calls Tryz.prog 17 #[.agg #[.int .i64 (B : Int), .int .i64 (P : Int), .int .i64 (W : Int)], .int .i64 mode, .slice (some ⟨s, 0, none⟩) n n] w fun e w' => e = .returned (.int .i64 v) ∧ Below w.heap.size w w' := by
  unfold wrongS at hv
  by_cases hm : mode < 0 ∨ 4 < mode
  · rw [if_pos hm] at hv
    subst hv
    exact wrong_mode L mode hm
  · rw [if_neg hm] at hv
    exact wrong_walk hf L hL hln hn h mode (decide_eq_false (by omega)) (decide_eq_false (by omega)) v hv
theorem isNone_as {B P W M E H : Nat} {low : Int} (hf : Fm B P W M E H low) (b : Nat) (hb : b < 18446744073709551616) (v : Bool) (hv : nanB M E b = v) (w : World) :
    Calls Tryz.prog 23 #[.agg #[.int .i64 (B : Int), .int .i64 (P : Int), .int .i64 (W : Int)], .int .u64 (b : Int)] w fun e w' => e = .returned (.bool v) ∧ Below w.heap.size w w' := by
  obtain ⟨q, hq⟩ : ∃ q, clsS M E b = q := ⟨_, rfl⟩
  have hbd := cls_bd M E b
  rw [hq] at hbd
  unfold nanB at hv
  rw [hq] at hv
  have HC := Lib.hid (fun V => class_as hf b q hb hq V)
  by_cases h4 : q = 4
  · have d4 : (q == 4) = true := by simp [h4]
    obtain rfl : v = true := by rw [← hv]; simp; omega
    clear hv hq h4
    go_enter Tryz.func23, Tryz.ntmps23
    go_wp2_with fail
    obtain ⟨V, hV, z0, BW, sW⟩ := fframe1 w 25 (B : Int) (P : Int) (W : Int)
    rw [hV]
    clear hV sW
    refine (HC.out _).mono ?_
    rintro en w2 ⟨rfl, b2⟩
    go_wp2_with fail
    go_ret
    exact ⟨rfl, Below.step BW b2⟩
  · have d4 : (q == 4) = false := by simp [h4]
    by_cases h5 : q = 5
    · have d5 : (q == 5) = true := by simp [h5]
      obtain rfl : v = true := by rw [← hv]; simp; omega
      clear hv hq h4 h5
      go_enter Tryz.func23, Tryz.ntmps23
      go_wp2_with fail
      obtain ⟨V, hV, z0, BW, sW⟩ := fframe1 w 25 (B : Int) (P : Int) (W : Int)
      rw [hV]
      clear hV sW
      refine (HC.out _).mono ?_
      rintro en w2 ⟨rfl, b2⟩
      go_wp2_with fail
      go_ret
      exact ⟨rfl, Below.step BW b2⟩
    · have d5 : (q == 5) = false := by simp [h5]
      obtain rfl : v = false := by rw [← hv]; simp; omega
      clear hv hq h4 h5
      go_enter Tryz.func23, Tryz.ntmps23
      go_wp2_with fail
      obtain ⟨V, hV, z0, BW, sW⟩ := fframe1 w 25 (B : Int) (P : Int) (W : Int)
      rw [hV]
      clear hV sW
      refine (HC.out _).mono ?_
      rintro en w2 ⟨rfl, b2⟩
      go_wp2_with fail
      go_ret
      exact ⟨rfl, Below.step BW b2⟩
theorem xor_u64 (a b : Nat) (ha : a < 18446744073709551616) (hb : b < 18446744073709551616) : bits .xor .u64 (a : Int) (b : Int) = ((a ^^^ b : Nat) : Int) := by
  have hx : a ^^^ b < 2 ^ 64 := Nat.xor_lt_two_pow (by omega) (by omega)
  have h1 : ∀ a : Nat, a < 18446744073709551616 → (BitVec.ofInt 64 (a : Int)).toNat = a := fun a ha => by
    rw [BitVec.ofInt_natCast, BitVec.toNat_ofNat]; exact Nat.mod_eq_of_lt (by omega)
  show IntKind.u64.wrap ((BitVec.ofInt 64 (a : Int) ^^^ BitVec.ofInt 64 (b : Int)).toNat : Int) = _
  rw [BitVec.toNat_xor, h1 a ha, h1 b hb, IntKind.wrap_u64]
  omega
theorem take_snoc' {L : List Nat} {k x : Nat} (hk : L[k]? = some x) : L.take (k + 1) = L.take k ++ [x] := by
  rw [List.take_add_one, hk]; rfl
set_option maxHeartbeats 4000000 in
theorem none_as {B P W M E H : Nat} {low : Int} (hf : Fm B P W M E H low) (L : List Nat) (hL : ∀ x ∈ L, x < 18446744073709551616) {s n : Nat} (hln : L.length = n) (hn : n ≤ 1000) {w : World} (h : OB w s L) {r1 : Nat} {r2 : Int} {r3 : Bool} (hr : nonS M E H L = (r1, r2, r3)) :
    Calls Tryz.prog 18 #[.agg #[.int .i64 (B : Int), .int .i64 (P : Int), .int .i64 (W : Int)], .slice (some ⟨s, 0, none⟩) n n] w fun e w' => e = .returned (.tuple #[.int .u64 (r1 : Int), .int .i64 r2, .bool r3]) ∧ Below w.heap.size w w' := by
  have HR := Lib.hid hr
  have HN := Lib.hid hln
  have HL := Lib.hid hL
  clear hr hln hL
  go_enter Tryz.func18, Tryz.ntmps18
  go_wp2_with fail
  obtain ⟨V, hV, z0, BW, sW⟩ := fframe1 w 25 (B : Int) (P : Int) (W : Int)
  rw [hV]
  clear hV sW
  replace h := h.on BW
  go_loopw [7, 8, 9, 14] (fun a f g i wr => ∃ (k f1 : Nat) (f2 : Int) (f3 : Bool), k ≤ n ∧ i = .int .i64 k ∧ a = .int .u64 f1 ∧ f = .int .i64 f2 ∧ g = .bool f3 ∧ nonS M E H (L.take k) = (f1, f2, f3) ∧ Below V.heap.size V wr) (fun _ _ _ i _ => n - (intOf i).toNat)
  case atStart => exact ⟨0, 0, 0, false, Nat.zero_le _, rfl, rfl, rfl, rfl, rfl, Below.refl _ _⟩
  case round =>
    obtain ⟨k, f1, f2, f3, hk, rfl, rfl, rfl, rfl, hs, bk⟩ := hrel
    have HS := Lib.hid hs
    have z1 := z0.on bk
    have h1 := h.on bk
    clear hs z0 h
    by_cases hlt : k < n
    · obtain ⟨x, hx, hx64⟩ := look_lt HN.out hlt HL.out
      have hc := h1.look hx
      have HX := Lib.hid hx
      clear hx
      obtain ⟨q, hq⟩ : ∃ q, clsS M E x = q := ⟨_, rfl⟩
      have HC := Lib.hid (fun V => class_as hf x q hx64 hq V)
      obtain ⟨nb, hnb⟩ : ∃ b, nanB M E x = b := ⟨_, rfl⟩
      obtain ⟨sb, hsb⟩ : ∃ b, sigB M E x = b := ⟨_, rfl⟩
      have hd5 : (q == 5) = sb := by rw [← hsb, ← hq]; unfold sigB; rw [Bool.eq_iff_iff]; simp
      have hns : nb = false → sb = false := by
        rw [← hnb, ← hsb]; unfold nanB sigB; simp; omega
      have HN1 := Lib.hid (fun V => isNone_as hf x hx64 nb hnb V)
      have HQ := Lib.hid (fun V => quieted_as hf x (qtS M H x) hx64 rfl V)
      have HNB := Lib.hid hnb
      have HSB := Lib.hid hsb
      clear hnb hsb hq
      obtain ⟨zc0, zc1, zc2, zf0, zf1, zf2, zl⟩ := z1.cells
      cases nb
      · obtain rfl := hns rfl
        clear hns
        cases f3
        · -- no number: False, found: False, signalling: False
          have d5 : (q == 5) = false := hd5
          have hst : Hid (nonS M E H (L.take (k + 1)) = (f1, f2, false)) := by
            have e := nonS_snoc M E H (L.take k) x
            rw [← take_snoc' HX.out, HS.out] at e
            refine Lib.hid (e.trans ?_)
            unfold nonStep
            simp only [HNB.out, HSB.out]
            rfl
          clear hd5 HSB
          go_wp2_with fail
          refine (HN1.out _).mono ?_
          rintro en w2 ⟨rfl, b2⟩
          replace z1 := z1.on b2
          replace bk := Below.step bk b2
          clear b2 zc0 zc1 zc2 zf0 zf1 zf2 zl
          obtain ⟨zc0, zc1, zc2, zf0, zf1, zf2, zl⟩ := z1.cells
          go_wp2_with fail
          refine (HC.out _).mono ?_
          rintro en w4 ⟨rfl, b2⟩
          replace bk := Below.step bk b2
          go_wp2_with fail
          go_roundw
          case rel => exact ⟨k + 1, _, _, _, by omega, by go_num, rfl, rfl, rfl, hst.out, bk⟩
          case measure => simp [intOf]; omega
        · -- no number: False, found: True, signalling: False
          have d5 : (q == 5) = false := hd5
          have hst : Hid (nonS M E H (L.take (k + 1)) = (f1, f2, true)) := by
            have e := nonS_snoc M E H (L.take k) x
            rw [← take_snoc' HX.out, HS.out] at e
            refine Lib.hid (e.trans ?_)
            unfold nonStep
            simp only [HNB.out, HSB.out]
            rfl
          clear hd5 HSB
          go_wp2_with fail
          refine (HN1.out _).mono ?_
          rintro en w2 ⟨rfl, b2⟩
          replace z1 := z1.on b2
          replace bk := Below.step bk b2
          clear b2 zc0 zc1 zc2 zf0 zf1 zf2 zl
          obtain ⟨zc0, zc1, zc2, zf0, zf1, zf2, zl⟩ := z1.cells
          go_wp2_with fail
          refine (HC.out _).mono ?_
          rintro en w4 ⟨rfl, b2⟩
          replace bk := Below.step bk b2
          go_wp2_with fail
          go_roundw
          case rel => exact ⟨k + 1, _, _, _, by omega, by go_num, rfl, rfl, rfl, hst.out, bk⟩
          case measure => simp [intOf]; omega
      · clear hns
        cases f3 <;> cases sb
        · -- no number: True, found: False, signalling: False
          have d5 : (q == 5) = false := hd5
          have hst : Hid (nonS M E H (L.take (k + 1)) = (qtS M H x, f2, true)) := by
            have e := nonS_snoc M E H (L.take k) x
            rw [← take_snoc' HX.out, HS.out] at e
            refine Lib.hid (e.trans ?_)
            unfold nonStep
            simp only [HNB.out, HSB.out]
            rfl
          clear hd5 HSB
          go_wp2_with fail
          refine (HN1.out _).mono ?_
          rintro en w2 ⟨rfl, b2⟩
          replace z1 := z1.on b2
          replace bk := Below.step bk b2
          clear b2 zc0 zc1 zc2 zf0 zf1 zf2 zl
          obtain ⟨zc0, zc1, zc2, zf0, zf1, zf2, zl⟩ := z1.cells
          go_wp2_with fail
          refine (HQ.out _).mono ?_
          rintro en w3 ⟨rfl, b2⟩
          replace z1 := z1.on b2
          replace bk := Below.step bk b2
          clear b2 zc0 zc1 zc2 zf0 zf1 zf2 zl
          obtain ⟨zc0, zc1, zc2, zf0, zf1, zf2, zl⟩ := z1.cells
          go_wp2_with fail
          refine (HC.out _).mono ?_
          rintro en w4 ⟨rfl, b2⟩
          replace bk := Below.step bk b2
          go_wp2_with fail
          go_roundw
          case rel => exact ⟨k + 1, _, _, _, by omega, by go_num, rfl, rfl, rfl, hst.out, bk⟩
          case measure => simp [intOf]; omega
        · -- no number: True, found: False, signalling: True
          have d5 : (q == 5) = true := hd5
          have hst : Hid (nonS M E H (L.take (k + 1)) = (qtS M H x, 16, true)) := by
            have e := nonS_snoc M E H (L.take k) x
            rw [← take_snoc' HX.out, HS.out] at e
            refine Lib.hid (e.trans ?_)
            unfold nonStep
            simp only [HNB.out, HSB.out]
            rfl
          clear hd5 HSB
          go_wp2_with fail
          refine (HN1.out _).mono ?_
          rintro en w2 ⟨rfl, b2⟩
          replace z1 := z1.on b2
          replace bk := Below.step bk b2
          clear b2 zc0 zc1 zc2 zf0 zf1 zf2 zl
          obtain ⟨zc0, zc1, zc2, zf0, zf1, zf2, zl⟩ := z1.cells
          go_wp2_with fail
          refine (HQ.out _).mono ?_
          rintro en w3 ⟨rfl, b2⟩
          replace z1 := z1.on b2
          replace bk := Below.step bk b2
          clear b2 zc0 zc1 zc2 zf0 zf1 zf2 zl
          obtain ⟨zc0, zc1, zc2, zf0, zf1, zf2, zl⟩ := z1.cells
          go_wp2_with fail
          refine (HC.out _).mono ?_
          rintro en w4 ⟨rfl, b2⟩
          replace bk := Below.step bk b2
          go_wp2_with fail
          go_roundw
          case rel => exact ⟨k + 1, _, _, _, by omega, by go_num, rfl, rfl, rfl, hst.out, bk⟩
          case measure => simp [intOf]; omega
        · -- no number: True, found: True, signalling: False
          have d5 : (q == 5) = false := hd5
          have hst : Hid (nonS M E H (L.take (k + 1)) = (f1, f2, true)) := by
            have e := nonS_snoc M E H (L.take k) x
            rw [← take_snoc' HX.out, HS.out] at e
            refine Lib.hid (e.trans ?_)
            unfold nonStep
            simp only [HNB.out, HSB.out]
            rfl
          clear hd5 HSB
          go_wp2_with fail
          refine (HN1.out _).mono ?_
          rintro en w2 ⟨rfl, b2⟩
          replace z1 := z1.on b2
          replace bk := Below.step bk b2
          clear b2 zc0 zc1 zc2 zf0 zf1 zf2 zl
          obtain ⟨zc0, zc1, zc2, zf0, zf1, zf2, zl⟩ := z1.cells
          go_wp2_with fail
          refine (HC.out _).mono ?_
          rintro en w4 ⟨rfl, b2⟩
          replace bk := Below.step bk b2
          go_wp2_with fail
          go_roundw
          case rel => exact ⟨k + 1, _, _, _, by omega, by go_num, rfl, rfl, rfl, hst.out, bk⟩
          case measure => simp [intOf]; omega
        · -- no number: True, found: True, signalling: True
          have d5 : (q == 5) = true := hd5
          have hst : Hid (nonS M E H (L.take (k + 1)) = (f1, 16, true)) := by
            have e := nonS_snoc M E H (L.take k) x
            rw [← take_snoc' HX.out, HS.out] at e
            refine Lib.hid (e.trans ?_)
            unfold nonStep
            simp only [HNB.out, HSB.out]
            rfl
          clear hd5 HSB
          go_wp2_with fail
          refine (HN1.out _).mono ?_
          rintro en w2 ⟨rfl, b2⟩
          replace z1 := z1.on b2
          replace bk := Below.step bk b2
          clear b2 zc0 zc1 zc2 zf0 zf1 zf2 zl
          obtain ⟨zc0, zc1, zc2, zf0, zf1, zf2, zl⟩ := z1.cells
          go_wp2_with fail
          refine (HC.out _).mono ?_
          rintro en w4 ⟨rfl, b2⟩
          replace bk := Below.step bk b2
          go_wp2_with fail
          go_roundw
          case rel => exact ⟨k + 1, _, _, _, by omega, by go_num, rfl, rfl, rfl, hst.out, bk⟩
          case measure => simp [intOf]; omega
    · have HE : Hid (f1 = r1 ∧ f2 = r2 ∧ f3 = r3) := by
        have := HS.out
        rw [List.take_of_length_le (by rw [HN.out]; omega), HR.out] at this
        simp only [Prod.mk.injEq] at this
        exact Lib.hid ⟨this.1.symm, this.2.1.symm, this.2.2.symm⟩
      obtain ⟨rfl, rfl, rfl⟩ := HE.out
      go_wp2_with fail
      go_ret3
      exact ⟨rfl, Below.step BW bk⟩
end Go.Proofs.YtpachoeignpcbaaGreatDoor
