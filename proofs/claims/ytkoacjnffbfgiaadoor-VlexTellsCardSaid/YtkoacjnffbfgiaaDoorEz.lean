
/-
  vlex: the walk of VlexTells.
-/
import Derived.Test.YtkoacjnffbfgiaaDoorEr
import Derived.Test.YtkoacjnffbfgiaaDoorLex
namespace Go.Proofs.YtkoacjnffbfgiaaDoor
open Go.RowKit
set_option linter.unusedVariables false

theorem rtok_equal (x1 x3 x4 y1 y3 y4 : Int) (x2 y2 : ByteArray) (w : World) : (Op.equalIn 10000 31 (.agg #[.int .i64 x1, .string x2, .int .i64 x3, .int .i64 x4]) (.agg #[.int .i64 y1, .string y2, .int .i64 y3, .int .i64 y4])).run Tryd.prog w = .ok (sameK x1 x3 x4 y1 y3 y4 x2 y2) w := by
  unfold sameK
  cases e1 : (x1 == y1) <;> cases e2 : (x2.toList == y2.toList) <;> cases e3 : (x3 == y3) <;> cases e4 : (x4 == y4) <;> simp [go_sem, e1, e2, e3, e4]
theorem rtok_neq (x1 x3 x4 y1 y3 y4 : Int) (x2 y2 : ByteArray) (w : World) : (binOp .neq 31 (.agg #[.int .i64 x1, .string x2, .int .i64 x3, .int .i64 x4]) (.agg #[.int .i64 y1, .string y2, .int .i64 y3, .int .i64 y4])).run Tryd.prog w = .ok (.bool (!sameK x1 x3 x4 y1 y3 y4 x2 y2)) w := by
  rw [run_neq_struct, rtok_equal]
  rfl
attribute [local go_sem ↓] rtok_neq
/-- the line and the fault that a reading tells. -/
def lineR : Except Nat (List Tk) → Int
  | .error n => n
  | .ok _ => 0
def errR : Except Nat (List Tk) → Int
  | .error _ => 2
  | .ok _ => 0
/-- what Lex tells, in parts. -/
theorem lexP_parts {w w' : World} {R : Except Nat (List Tk)} {e : Ending} (h : LexP w R e w') : Below w.heap.size w w' ∧ ∃ (A : Option Addr) (n c : Nat) (l1 e1 : Int), e = .returned (.tuple #[.slice A n c, .int .i64 l1, .int .i64 e1]) ∧ (∃ T, Ts w' A n T ∧ (∀ u, R = .ok u → T = u) ∧ (∀ u, R = .error u → T = [])) ∧ l1 = lineR R ∧ e1 = errR R ∧ n ≤ c ∧ c ≤ maxLen := by
  obtain ⟨h1, h2⟩ := h
  refine ⟨h1, ?_⟩
  cases R with
  | error n => exact ⟨none, 0, 0, _, _, h2, ⟨[], ⟨rfl, (fun k x hx => by simp at hx)⟩, (fun u hu => by cases hu), (fun _ _ => rfl)⟩, rfl, rfl, Nat.le_refl _, Nat.zero_le _⟩
  | ok T =>
    obtain ⟨A, n, c, h3, h4, h5⟩ := h2
    exact ⟨A, n, c, _, _, h3, ⟨T, h4, (fun u hu => by cases hu; rfl), (fun _ hu => by cases hu)⟩, rfl, rfl, h5.1, h5.2.1⟩
set_option maxHeartbeats 4000000 in
set_option maxRecDepth 10000 in
theorem vlexTells_as (s : ByteArray) (y : Int) (hy0 : -9223372036854775808 ≤ y) (hy1 : y ≤ 9223372036854775807) (w : World) (ht : Tn w) : Calls Tryd.prog 3 #[.string s, .int .i64 y] w fun e w' => e = .returned (.bool true) ∧ Below w.heap.size w w' := by
  go_enter Tryd.func3, Tryd.ntmps3
  go_wp2_with fail
  refine (awake_any _ ht).mono ?_
  rintro en w1 ⟨rfl, BW⟩
  replace ht := ht.on BW
  by_cases ha : (4096 : Int) < (s.size : Int)
  case pos =>
    go_wp2_with fail
    go_ret
    exact ⟨rfl, BW⟩
  obtain ⟨R, h1⟩ : ∃ R, lexA 1 0 s.data.toList = R := ⟨_, rfl⟩
  have H1 := Lib.hid h1
  clear h1
  have ha2 : s.size ≤ 800000 := by omega
  go_wp2_with fail
  refine (lex_as s (by omega) R H1.out _).mono ?_
  rintro en w2 hP
  obtain ⟨b, A, n, c, l1, e1, rfl, ⟨T, hT, hT1, hT2⟩, hl1, he1, hsw1, hsw2⟩ := lexP_parts hP
  clear hP
  replace BW := Below.step BW b
  replace ht := ht.on b
  clear b
  have HT1 := Lib.hid hT1
  have HT2 := Lib.hid hT2
  have HL1 := Lib.hid hl1
  have HE1 := Lib.hid he1
  clear hT1 hT2 hl1 he1
  go_wp2_with fail
  refine (rlex_as s ha2 R H1.out _).mono ?_
  rintro en w3 hP
  obtain ⟨b, B, n2, c2, l2, e2, rfl, ⟨U, hU, hU1, hU2⟩, hl2, he2, hsx1, hsx2⟩ := lexP_parts hP
  clear hP
  replace BW := Below.step BW b
  replace ht := ht.on b
  replace hT := hT.on b
  clear b
  obtain rfl : l1 = l2 := HL1.out.trans hl2.symm
  obtain rfl : e1 = e2 := HE1.out.trans he2.symm
  obtain rfl : T = U := by
    cases R with
    | error e => rw [HT2.out e rfl, hU2 e rfl]
    | ok V => rw [HT1.out V rfl, hU1 V rfl]
  obtain rfl : n = n2 := hT.1.symm.trans hU.1
  have hnI : (n : Int) ≤ 9223372036854775807 := by unfold maxLen at hsw2; omega
  clear hl2 he2 hU1 hU2 HL1 HE1 HT1 HT2 hsw1 hsw2 hsx1 hsx2
  have HTN := Lib.hid ht
  clear ht
  go_wp2_with fail
  obtain ⟨wo, rfl⟩ : ∃ z, z = w3 := ⟨_, rfl⟩
  go_loopw [50] (fun iv wr => ∃ i : Nat, i ≤ n ∧ iv = .int .i64 i ∧ Below wo.heap.size wo wr) (fun i _ => n - (intOf i).toNat)
  case atStart => exact ⟨0, Nat.zero_le _, rfl, Below.refl _ _⟩
  case round =>
    obtain ⟨i, hi, rfl, BL⟩ := hrel
    by_cases hlt : i < n
    · have hi0 : (0 : Int) ≤ (i : Int) := by omega
      have hi1 : (i : Int) < (n : Int) := by omega
      obtain ⟨x, hx⟩ : ∃ x, T[i]? = some x := ⟨_, List.getElem?_eq_getElem (by rw [hT.1]; exact hlt)⟩
      obtain ⟨b0, off0, eA0, k0, k1, k2, k3, k4⟩ := (hT.on BL).2 i x hx
      obtain ⟨b1, off1, eA1, m0, m1, m2, m3, m4⟩ := (hU.on BL).2 i x hx
      subst eA0
      subst eA1
      obtain ⟨tx, htx⟩ : ∃ z : ByteArray, (⟨x.t.toArray⟩ : ByteArray) = z := ⟨_, rfl⟩
      rw [htx] at k2 m2
      have sk : (!sameK (x.k : Int) (x.v : Int) (x.l : Int) (x.k : Int) (x.v : Int) (x.l : Int) tx tx) = false := by rw [sameK_self]; rfl
      go_upto_region 12 with fail
      try dsimp only [List.append]
      refine region_plan [0, 1, 2, 3, 4, 5, 6, 7, 8] (by kernel_rfl) (by kernel_rfl) (by kernel_rfl) (by kernel_rfl) (by kernel_rfl) ?_
      dsimp only [pick, nth]
      obtain ⟨w9, e9⟩ : ∃ w', wr.drew = w' := ⟨_, rfl⟩
      have b9 : Below wr.heap.size wr w9 := e9 ▸ (Below.refl _ _).drew
      rw [e9]
      have lf0 := fun q : Wd w9 => ((Below.step b9 q.below).cell (p := ⟨b0, off0 + i * 4, none⟩) k0).trans k1
      have lf1 := fun q : Wd w9 => ((Below.step b9 q.below).cell (p := ⟨b0, off0 + i * 4 + 1, none⟩) k0).trans k2
      have lf2 := fun q : Wd w9 => ((Below.step b9 q.below).cell (p := ⟨b0, off0 + i * 4 + 2, none⟩) k0).trans k3
      have lf3 := fun q : Wd w9 => ((Below.step b9 q.below).cell (p := ⟨b0, off0 + i * 4 + 3, none⟩) k0).trans k4
      have lg0 := fun q : Wd w9 => ((Below.step b9 q.below).cell (p := ⟨b1, off1 + i * 4, none⟩) m0).trans m1
      have lg1 := fun q : Wd w9 => ((Below.step b9 q.below).cell (p := ⟨b1, off1 + i * 4 + 1, none⟩) m0).trans m2
      have lg2 := fun q : Wd w9 => ((Below.step b9 q.below).cell (p := ⟨b1, off1 + i * 4 + 2, none⟩) m0).trans m3
      have lg3 := fun q : Wd w9 => ((Below.step b9 q.below).cell (p := ⟨b1, off1 + i * 4 + 3, none⟩) m0).trans m4
      have BLH := Lib.hid BL
      clear e9 k0 k1 k2 k3 k4 m0 m1 m2 m3 m4 hT hU htx hx BL
      refine lex_plain 9 (by kernel_rfl) ?_
      dsimp only [List.take, List.drop]
      repeat go_big_quiet_step (fail)
      refine wpQuiet_nil ?_
      clear lf0 lf1 lf2 lf3 lg0 lg1 lg2 lg3
      refine lex_nil (fun w6 b => ?_)
      have bb := Below.step BLH.out (Below.step b9 b)
      clear b b9
      dsimp only [NoPanic]
      go_wp2_with fail
      go_roundw
      case rel => exact ⟨i + 1, by omega, by go_num, bb⟩
      case measure => simp [intOf]; omega
    · have hge : ¬ (i : Int) < (n : Int) := by omega
      have HTW := HTN.out.on BL
      replace BW := Below.step BW BL
      obtain ⟨o, ho⟩ : ∃ o, nameS s.data.toList = o := ⟨_, rfl⟩
      have HO := Lib.hid ho
      obtain ⟨na, hna⟩ : ∃ z : ByteArray, (⟨(namesS y).toArray⟩ : ByteArray) = z := ⟨_, rfl⟩
      have HNA := Lib.hid hna
      have hse : (na.toList == na.toList) = true := by simp
      clear BL hT hU ho hna hlt hi
      have HTW := Lib.hid HTW
      go_wp2_with fail
      refine (name_as s (by omega) o HO.out _).mono ?_
      rintro en w5 ⟨rfl, b5⟩
      replace BW := Below.step BW b5
      have HTX := Lib.hid (HTW.out.on b5)
      clear b5
      obtain ⟨v1, v2, hv⟩ : ∃ (v1 : Int) (v2 : Bool), nmV o = .tuple #[.int .i64 v1, .bool v2] := by
        cases o with
        | none => exact ⟨_, _, rfl⟩
        | some k => exact ⟨_, _, rfl⟩
      have HV := Lib.hid hv
      rw [hv]
      clear hv
      go_wp2_with fail
      refine (rname_as s (by omega) o HO.out _).mono ?_
      rintro en w6 ⟨rfl, b6⟩
      replace BW := Below.step BW b6
      have HTY := Lib.hid (HTX.out.on b6)
      clear b6
      rw [HV.out]
      go_wp2_with fail
      refine (names_as y hy0 hy1 _ HTY.out).mono ?_
      rintro en w7 ⟨rfl, b7⟩
      replace BW := Below.step BW b7
      clear b7
      rw [HNA.out]
      go_wp2_with fail
      refine (rnames_as y hy1 _).mono ?_
      rintro en w8 ⟨rfl, b8⟩
      replace BW := Below.step BW b8
      clear b8
      rw [HNA.out]
      cases v2
      all_goals
        go_wp2_with fail
        go_ret
        exact ⟨rfl, BW⟩
end Go.Proofs.YtkoacjnffbfgiaaDoor
