
/-
  vlex: what may stand behind, numbers' digits, bits, numbers, the first token.
-/
import Derived.Test.YtkoacjnffbfgiaaDoorEc
import Derived.Laws.StructEq
namespace Go.Proofs.YtkoacjnffbfgiaaDoor
open Go.RowKit
set_option linter.unusedVariables false

theorem list_nil {s : ByteArray} (h : s.size = 0) : s.data.toList = [] := List.eq_nil_of_length_eq_zero (by rw [size_list]; exact h)
theorem list_cons {s : ByteArray} (h : 0 < s.size) : ∃ r, s.data.toList = s[0] :: r := by
  have h1 := at_list h
  cases e : s.data.toList with
  | nil => rw [e] at h1; cases h1
  | cons c r => rw [e] at h1; cases h1; exact ⟨r, rfl⟩
theorem eq_list (s : ByteArray) (l : List UInt8) : (s.toList == l) = (s.data.toList == l) := by rw [Lib.toList_data]
theorem tail_list (s : ByteArray) (k : Nat) : (s.extract k s.size).data.toList = s.data.toList.drop k := by
  rw [Lib.extract_data, List.take_of_length_le]
  rw [List.length_drop, size_list]
  omega
theorem head_list (s : ByteArray) (k : Nat) : (s.extract 0 k).data.toList = s.data.toList.take k := by
  rw [Lib.extract_data]
  rfl
theorem isApart_as (s : ByteArray) (v : Bool) (hv : apS s.data.toList = v) (w : World) :
    Calls Tryd.prog 41 #[.string s] w fun e w' => e = .returned (.bool v) ∧ Below w.heap.size w w' := by
  have HV := Lib.hid hv
  clear hv
  go_enter Tryd.func41, Tryd.ntmps41
  by_cases h0 : s.size = 0
  · have HL := Lib.hid (list_nil h0)
    have e0 : (s.toList == []) = true := by rw [eq_list, HL.out]; rfl
    go_wp2_with fail
    go_ret
    exact ⟨ret_bool (by rw [← HV.out, HL.out]; rfl), Below.refl _ _⟩
  · have hp : 0 < s.size := by omega
    have HL := Lib.hid (list_cons hp)
    have e0 : (s.toList == []) = false := by
      obtain ⟨r, hr⟩ := HL.out
      rw [eq_list, hr]
      rfl
    obtain ⟨x1, h1⟩ : ∃ x, goS (s[0].toNat : Int) = x := ⟨_, rfl⟩
    obtain ⟨x2, h2⟩ : ∃ x, ((s[0].toNat : Int) != 39) = x := ⟨_, rfl⟩
    have HE : Hid (apS s.data.toList = (!x1 && x2)) := Lib.hid (by
      obtain ⟨r, hr⟩ := HL.out
      rw [hr]
      show (!by8 goS s[0] && s[0] != 39) = _
      rw [show by8 goS s[0] = x1 from h1, ← h2]
      congr 1
      rw [Bool.eq_iff_iff, bne_iff_ne, bne_iff_ne]
      constructor
      · intro h e
        exact h (UInt8.toNat_inj.1 (by show s[0].toNat = 39; omega))
      · intro h e
        exact h (by rw [e]; rfl))
    have HG := Lib.hid h1
    clear h1 h0
    go_wp2_with fail
    refine (goesOn_as _ x1 HG.out _).mono ?_
    rintro en w1 ⟨rfl, b⟩
    cases x1 <;> cases x2
    all_goals
      go_wp2_with fail
      go_ret
      exact ⟨ret_bool (by rw [← HV.out, HE.out]; rfl), b⟩
theorem isNumber_as (s : ByteArray) (v : Bool) (hv : numS s.data.toList = v) (w : World) :
    Calls Tryd.prog 22 #[.string s] w fun e w' => e = .returned (.bool v) ∧ Below w.heap.size w w' := by
  have HV := Lib.hid hv
  clear hv
  obtain ⟨x1, h1⟩ : ∃ x, ((s.size : Int) == 1) = x := ⟨_, rfl⟩
  obtain ⟨x2, h2⟩ : ∃ x, decide ((1 : Int) < (s.size : Int)) = x := ⟨_, rfl⟩
  obtain ⟨x3, h3⟩ : ∃ x, decide ((s.size : Int) ≤ 7) = x := ⟨_, rfl⟩
  have HE : Hid (∀ x4, (1 < s.size → (s.data.toList.headD 0 != 48) = x4) → numS s.data.toList = (x1 || ((x2 && x3) && x4))) := Lib.hid (by
    intro x4 h4
    unfold numS
    rw [size_list]
    have g1 : (s.size == 1) = x1 := by rw [← h1, Bool.eq_iff_iff, beq_iff_eq, beq_iff_eq]; omega
    have g2 : decide (1 < s.size) = x2 := by rw [← h2, Bool.eq_iff_iff, decide_eq_true_eq, decide_eq_true_eq]; omega
    have g3 : decide (s.size ≤ 7) = x3 := by rw [← h3, Bool.eq_iff_iff, decide_eq_true_eq, decide_eq_true_eq]; omega
    rw [g1, g2, g3]
    cases x2 with
    | false => rfl
    | true => rw [h4 (of_decide_eq_true g2)])
  go_enter Tryd.func22, Tryd.ntmps22
  by_cases hp : 1 < s.size
  · have hp0 : 0 < s.size := by omega
    obtain ⟨x4, h4⟩ : ∃ x, ((s[0].toNat : Int) != 48) = x := ⟨_, rfl⟩
    have HF : Hid (numS s.data.toList = (x1 || ((x2 && x3) && x4))) := Lib.hid (HE.out x4 fun _ => by
      obtain ⟨r, hr⟩ := list_cons hp0
      rw [hr, ← h4]
      show (s[0] != 48) = _
      rw [Bool.eq_iff_iff, bne_iff_ne, bne_iff_ne]
      constructor
      · intro h e
        exact h (UInt8.toNat_inj.1 (by show s[0].toNat = 48; omega))
      · intro h e
        exact h (by rw [e]; rfl))
    clear HE
    have hp1 : (0 : Int) < (s.size : Int) := by omega
    cases x1 <;> cases x2 <;> cases x3 <;> cases x4
    all_goals first
      | (exfalso; simp at h2; omega)
      | (go_wp2_with fail
         go_ret
         exact ⟨ret_bool (by rw [← HV.out, HF.out]; rfl), Below.refl _ _⟩)
  · obtain rfl : x2 = false := by rw [← h2]; exact decide_eq_false (by omega)
    have HF : Hid (numS s.data.toList = (x1 || ((false && x3) && true))) := Lib.hid (HE.out true fun h => absurd h hp)
    clear HE hp
    cases x1
    all_goals
      go_wp2_with fail
      go_ret
      exact ⟨ret_bool (by rw [← HV.out, HF.out]; simp), Below.refl _ _⟩
/-- a token as it is told. -/
def tkA (t : Tk) : Value := .agg #[.int .i64 (t.k : Int), .string ⟨t.t.toArray⟩, .int .i64 (t.v : Int), .int .i64 (t.l : Int)]
def resV : Option Tk → Value
  | none => .tuple #[.agg #[.int .i64 0, .string ⟨#[]⟩, .int .i64 0, .int .i64 0], .bool false]
  | some t => .tuple #[tkA t, .bool true]
/-- a struct that is told lies in a block of the call's own. -/
theorem mk1o (w : World) (M : List Value) (T : TypeId) : ∃ w1, w.alloc (.cells M.toArray T) = w1 ∧ Own w1 w.heap.size T M ∧ Below w.heap.size w w1 ∧ w1.heap.size = w.heap.size + 1 :=
  ⟨_, rfl, Own.made w T M, (Below.refl _ _).alloc (Nat.le_refl _) _, by simp⟩
theorem Own.y8 {w : World} {s : Nat} {t : TypeId} {a b c d : Value} (h : Own w s t [a, b, c, d]) : w.cell? ⟨s, 0, none⟩ = some a ∧ w.frozen? ⟨s, 0, none⟩ = false ∧ w.cell? ⟨s, 1, none⟩ = some b ∧ w.frozen? ⟨s, 1, none⟩ = false ∧ w.cell? ⟨s, 2, none⟩ = some c ∧ w.frozen? ⟨s, 2, none⟩ = false ∧ w.cell? ⟨s, 3, none⟩ = some d ∧ w.frozen? ⟨s, 3, none⟩ = false := ⟨h.cell 0, h.free 0, h.cell 1, h.free 1, h.cell 2, h.free 2, h.cell 3, h.free 3⟩
theorem Own.q4 {w : World} {s : Nat} {t : TypeId} {x y z u : Value} (h : Own w s t [x, y, z, u]) (a b c d : Value) : ((((w.setCell ⟨s, 0, none⟩ a).setCell ⟨s, 1, none⟩ b).setCell ⟨s, 2, none⟩ c).setCell ⟨s, 3, none⟩ d).cell? ⟨s, 0, none⟩ = some a ∧ ((((w.setCell ⟨s, 0, none⟩ a).setCell ⟨s, 1, none⟩ b).setCell ⟨s, 2, none⟩ c).setCell ⟨s, 3, none⟩ d).cell? ⟨s, 1, none⟩ = some b ∧ ((((w.setCell ⟨s, 0, none⟩ a).setCell ⟨s, 1, none⟩ b).setCell ⟨s, 2, none⟩ c).setCell ⟨s, 3, none⟩ d).cell? ⟨s, 2, none⟩ = some c ∧ ((((w.setCell ⟨s, 0, none⟩ a).setCell ⟨s, 1, none⟩ b).setCell ⟨s, 2, none⟩ c).setCell ⟨s, 3, none⟩ d).cell? ⟨s, 3, none⟩ = some d := by
  have V := (((h.put 0 a).put 1 b).put 2 c).put 3 d
  exact ⟨V.cell 0, V.cell 1, V.cell 2, V.cell 3⟩
theorem below_s4 {B : Nat} {w0 w : World} {s : Nat} {a b c d : Value} (h : Below B w0 w) (hs : B ≤ s) : Below B w0 ((((w.setCell ⟨s, 0, none⟩ a).setCell ⟨s, 1, none⟩ b).setCell ⟨s, 2, none⟩ c).setCell ⟨s, 3, none⟩ d) := (((h.setCell (p := ⟨s, 0, none⟩) hs a).setCell (p := ⟨s, 1, none⟩) hs b).setCell (p := ⟨s, 2, none⟩) hs c).setCell (p := ⟨s, 3, none⟩) hs d
theorem str_take (s : ByteArray) (k : Nat) : s.extract 0 k = ⟨(s.data.toList.take k).toArray⟩ := by rw [Lib.extract_eq]; rfl
theorem str_drop (s : ByteArray) (k : Nat) : s.extract k s.size = ⟨(s.data.toList.drop k).toArray⟩ := by
  rw [Lib.extract_eq, List.take_of_length_le]
  rw [List.length_drop, size_list]
  omega
def z4 : List Value := [.int .i64 0, .string ⟨#[]⟩, .int .i64 0, .int .i64 0]
set_option maxHeartbeats 1000000 in
theorem bit_as (s : ByteArray) (o : Option Tk) (ho : bitS s.data.toList = o) (w : World) :
    Calls Tryd.prog 31 #[.string s] w fun e w' => e = .returned (resV o) ∧ Below w.heap.size w w' := by
  have HO := Lib.hid ho
  clear ho
  obtain ⟨x1, h1⟩ : ∃ x, Lib.hasPrefix s.data.toList [49, 39, 98, 48] = x := ⟨_, rfl⟩
  obtain ⟨x2, h2⟩ : ∃ x, Lib.hasPrefix s.data.toList [49, 39, 98, 49] = x := ⟨_, rfl⟩
  obtain ⟨x3, h3⟩ : ∃ x, apS (s.data.toList.drop 4) = x := ⟨_, rfl⟩
  have HE : Hid (bitS s.data.toList = if ((x1 || x2) && x3) = true then some ⟨1, s.data.toList.take 4, (s.data.toList.getD 3 0).toNat - 48, 0⟩ else none) := Lib.hid (by unfold bitS; rw [h1, h2, h3])
  have H1 := Lib.hid h1
  have H2 := Lib.hid h2
  have H3 := Lib.hid h3
  clear h1 h2 h3
  go_enter Tryd.func31, Tryd.ntmps31
  go_upto_region 1 with fail
  obtain ⟨w1, e1, ZR, BW, sw1⟩ := mk1o w [.int .i64 0, .string ⟨#[]⟩, .int .i64 0, .int .i64 0] 32
  rw [e1]
  clear e1 sw1
  obtain ⟨zr0, zf0, zr1, zf1, zr2, zf2, zr3, zf3⟩ := ZR.y8
  have e : Lib.hasPrefix s.data.toList ({ data := #[49, 39, 98, 48] } : ByteArray).data.toList = x1 := H1.out
  have e2 : Lib.hasPrefix s.data.toList ({ data := #[49, 39, 98, 49] } : ByteArray).data.toList = x2 := H2.out
  have hlen : Hid ((x1 || x2) = true → 4 ≤ s.size) := Lib.hid fun h => by
    rw [← size_list]
    cases x1 with
    | true => obtain ⟨r, hr⟩ := pre_ex H1.out; rw [hr]; simp
    | false =>
      have h : x2 = true := h
      subst h
      obtain ⟨r, hr⟩ := pre_ex H2.out
      rw [hr]
      simp
  go_wp2_with fail
  refine (Tryd.strings_HasPrefix s _ _).mono ?_
  rintro en w2 ⟨rfl, rfl⟩
  rw [e]
  cases x1
  case true =>
    have h4 := hlen.out rfl
    have h40 : (4 : Int) ≤ (s.size : Int) := by omega
    have h30 : (3 : Int) < (s.size : Int) := by omega
    have hd : (s[3].toNat : Int) = 48 := by
      obtain ⟨r, hr⟩ := pre_ex H1.out
      have h := at_list (show 3 < s.size by omega)
      rw [hr] at h
      have h : (some 48 : Option UInt8) = some s[3] := h
      rw [← Option.some.inj h]
      rfl
    have HF : Hid (bitS s.data.toList = if x3 = true then some ⟨1, s.data.toList.take 4, 0, 0⟩ else none) := Lib.hid (by
      obtain ⟨r, hr⟩ := pre_ex H1.out
      rw [HE.out]
      cases x3
      · rfl
      · rw [hr]; rfl)
    clear e
    go_wp2_with fail
    refine (isApart_as _ x3 (by rw [tail_list]; exact H3.out) _).mono ?_
    rintro en w4 ⟨rfl, b⟩
    replace ZR := ZR.below b ZR.lt
    replace BW := Below.step BW b
    clear b zr0 zf0 zr1 zf1 zr2 zf2 zr3 zf3
    obtain ⟨zr0, zf0, zr1, zf1, zr2, zf2, zr3, zf3⟩ := ZR.y8
    cases x3
    · go_wp2_with fail
      refine bodyPost_ret (v := resV none) ?_ rfl ⟨by rw [← HO.out, HF.out]; rfl, below_s4 BW (Nat.le_refl _)⟩
      have HV := fun a b c d => ZR.q4 a b c d
      simp [results, Tryd.results31, go_sem, HV, resV]
    · go_wp2_with fail
      have YR := ZR.below ((Below.refl _ _).drew : Below w4.heap.size w4 w4.drew) ZR.lt
      obtain ⟨yr0, yf0, yr1, yf1, yr2, yf2, yr3, yf3⟩ := YR.y8
      go_region
      go_wp2_with fail
      rw [str_take]
      refine bodyPost_ret (v := resV (some ⟨1, s.data.toList.take 4, 0, 0⟩)) ?_ rfl ⟨by rw [← HO.out, HF.out]; rfl, (below_s4 BW (Nat.le_refl _)).drew⟩
      have HV := fun a b c d => ZR.q4 a b c d
      simp [results, Tryd.results31, go_sem, HV, resV, tkA]
  case false =>
    go_wp2_with fail
    refine (Tryd.strings_HasPrefix s _ _).mono ?_
    rintro en w3 ⟨rfl, rfl⟩
    rw [e2]
    cases x2
    case false =>
      go_wp2_with fail
      refine bodyPost_ret (v := resV none) ?_ rfl ⟨by rw [← HO.out, HE.out]; rfl, below_s4 BW (Nat.le_refl _)⟩
      have HV := fun a b c d => ZR.q4 a b c d
      simp [results, Tryd.results31, go_sem, HV, resV]
    have h4 := hlen.out rfl
    have h40 : (4 : Int) ≤ (s.size : Int) := by omega
    have h30 : (3 : Int) < (s.size : Int) := by omega
    have hd : (s[3].toNat : Int) = 49 := by
      obtain ⟨r, hr⟩ := pre_ex H2.out
      have h := at_list (show 3 < s.size by omega)
      rw [hr] at h
      have h : (some 49 : Option UInt8) = some s[3] := h
      rw [← Option.some.inj h]
      rfl
    have HF : Hid (bitS s.data.toList = if x3 = true then some ⟨1, s.data.toList.take 4, 1, 0⟩ else none) := Lib.hid (by
      obtain ⟨r, hr⟩ := pre_ex H2.out
      rw [HE.out]
      cases x3
      · rfl
      · rw [hr]; rfl)
    clear e e2
    go_wp2_with fail
    refine (isApart_as _ x3 (by rw [tail_list]; exact H3.out) _).mono ?_
    rintro en w4 ⟨rfl, b⟩
    replace ZR := ZR.below b ZR.lt
    replace BW := Below.step BW b
    clear b zr0 zf0 zr1 zf1 zr2 zf2 zr3 zf3
    obtain ⟨zr0, zf0, zr1, zf1, zr2, zf2, zr3, zf3⟩ := ZR.y8
    cases x3
    · go_wp2_with fail
      refine bodyPost_ret (v := resV none) ?_ rfl ⟨by rw [← HO.out, HF.out]; rfl, below_s4 BW (Nat.le_refl _)⟩
      have HV := fun a b c d => ZR.q4 a b c d
      simp [results, Tryd.results31, go_sem, HV, resV]
    · go_wp2_with fail
      have YR := ZR.below ((Below.refl _ _).drew : Below w4.heap.size w4 w4.drew) ZR.lt
      obtain ⟨yr0, yf0, yr1, yf1, yr2, yf2, yr3, yf3⟩ := YR.y8
      go_region
      go_wp2_with fail
      rw [str_take]
      refine bodyPost_ret (v := resV (some ⟨1, s.data.toList.take 4, 1, 0⟩)) ?_ rfl ⟨by rw [← HO.out, HF.out]; rfl, (below_s4 BW (Nat.le_refl _)).drew⟩
      have HV := fun a b c d => ZR.q4 a b c d
      simp [results, Tryd.results31, go_sem, HV, resV, tkA]
end Go.Proofs.YtkoacjnffbfgiaaDoor
