
/-
  vlex: the walk of VlexJoined.
-/
import Derived.Test.YtkoacjnffbfgiaaDoorEi
namespace Go.Proofs.YtkoacjnffbfgiaaDoor
open Go.RowKit
set_option linter.unusedVariables false

attribute [local go_sem ↓] tok_eql tok_neq
theorem sameK_self (k v l : Int) (t : ByteArray) : sameK k v l k v l t t = true := by unfold sameK; simp
theorem str_cat (a b : ByteArray) : (a ++ b).data.toList = a.data.toList ++ b.data.toList := by rw [app_str]
theorem size_cat (a b : ByteArray) : (a ++ b).size = a.size + b.size := by rw [← size_list, str_cat, List.length_append, size_list, size_list]
/-- both texts' tokens, or the first fault. -/
def bothS (m : Nat) : Except Nat (List Tk) → Except Nat (List Tk) → Except Nat (List Tk)
  | .error e, _ => .error e
  | .ok _, .error e => .error (m + e)
  | .ok T, .ok U => .ok (T ++ U.map fun t => t.at (m + t.l))
theorem lex_both (a b : List UInt8) : lexA 1 0 (a ++ 10 :: b) = bothS (1 + lines a) (lexA 1 0 a) (lexA 1 0 b) := by
  rw [lex_join b (Nat.zero_le _)]
  cases lexA 1 0 a with
  | error e => rfl
  | ok T =>
    show (lexA (1 + lines a + 1) 0 b).map (T ++ ·) = _
    rw [lex_more]
    cases lexA 1 0 b <;> rfl
theorem lines_take {l : List UInt8} {j : Nat} {c : UInt8} (h : l[j]? = some c) : lines (l.take (j + 1)) = lines (l.take j) + if c = 10 then 1 else 0 := by
  unfold lines
  rw [List.take_add_one, h, List.count_append]
  congr 1
  by_cases e : c = 10
  · subst e; rfl
  · rw [if_neg e, List.count_eq_zero]
    intro hm
    exact e (List.mem_singleton.1 hm).symm
theorem lines_le (l : List UInt8) : lines l ≤ l.length := List.count_le_length
theorem lex_err : ∀ {l : List UInt8} {line k e : Nat}, lexA line k l = .error e → e ≤ line + l.length
  | [], line, k, e, h => by rw [lex_nil_] at h; cases h
  | c :: r, line, k + 1, e, h => by
    have hl : lnS line c ≤ line + 1 := by unfold lnS; split <;> omega
    have := lex_err (l := r) h
    rw [List.length_cons]
    omega
  | c :: r, line, 0, e, h => by
    have hl : lnS line c ≤ line + 1 := by unfold lnS; split <;> omega
    rw [List.length_cons]
    cases hs : by8 spS c with
    | true => rw [lex_space hs] at h; have := lex_err h; omega
    | false =>
      cases hp : Lib.hasPrefix (c :: r) [47, 47] with
      | true => rw [lex_note hs hp] at h; have := lex_err h; omega
      | false =>
        cases hf : fstS (c :: r) with
        | none => rw [lex_bad hs hp hf] at h; cases h; omega
        | some t =>
          rw [lex_tok hf] at h
          cases hr : lexA line (t.t.length - 1) r with
          | error e' => rw [hr] at h; cases h; have := lex_err hr; omega
          | ok T' => rw [hr] at h; cases h
theorem lex_max : ∀ {l : List UInt8} {line k : Nat} {T : List Tk}, lexA line k l = .ok T → ∀ t ∈ T, t.l ≤ line + l.length
  | [], line, k, T, h => by rw [lex_nil_] at h; cases h; exact fun t ht => (by simp at ht)
  | c :: r, line, k + 1, T, h => by
    have hl : lnS line c ≤ line + 1 := by unfold lnS; split <;> omega
    intro t ht
    have := lex_max (l := r) h t ht
    rw [List.length_cons]
    omega
  | c :: r, line, 0, T, h => by
    have hl : lnS line c ≤ line + 1 := by unfold lnS; split <;> omega
    intro t ht
    rw [List.length_cons]
    cases hs : by8 spS c with
    | true => rw [lex_space hs] at h; have := lex_max h t ht; omega
    | false =>
      cases hp : Lib.hasPrefix (c :: r) [47, 47] with
      | true => rw [lex_note hs hp] at h; have := lex_max h t ht; omega
      | false =>
        cases hf : fstS (c :: r) with
        | none => rw [lex_bad hs hp hf] at h; cases h
        | some u =>
          rw [lex_tok hf] at h
          cases hr : lexA line (u.t.length - 1) r with
          | error e' => rw [hr] at h; cases h
          | ok T' =>
            rw [hr] at h
            cases h
            rcases List.mem_cons.1 ht with rfl | ht
            · show line ≤ _; omega
            · have := lex_max hr t ht; omega
set_option maxHeartbeats 4000000 in
set_option maxRecDepth 10000 in
theorem vlexJoined_as (a b : ByteArray) (w : World) (ht : Tn w) : Calls Tryd.prog 6 #[.string a, .string b] w fun e w' => e = .returned (.bool true) ∧ Below w.heap.size w w' := by
  go_enter Tryd.func6, Tryd.ntmps6
  go_wp2_with fail
  refine (awake_any _ ht).mono ?_
  rintro en w1 ⟨rfl, BW⟩
  by_cases ha : (2048 : Int) < (a.size : Int)
  case pos =>
    go_wp2_with fail
    go_ret
    exact ⟨rfl, BW⟩
  by_cases hb : (2048 : Int) < (b.size : Int)
  case pos =>
    go_wp2_with fail
    go_ret
    exact ⟨rfl, BW⟩
  obtain ⟨R1, h1⟩ : ∃ R, lexA 1 0 a.data.toList = R := ⟨_, rfl⟩
  obtain ⟨R2, h2⟩ : ∃ R, lexA 1 0 b.data.toList = R := ⟨_, rfl⟩
  obtain ⟨m, hm⟩ : ∃ m, 1 + lines a.data.toList = m := ⟨_, rfl⟩
  have hmm : m ≤ 3000 := by have := lines_le a.data.toList; rw [size_list] at this; omega
  obtain ⟨x, hx⟩ : ∃ x : ByteArray, a ++ ⟨#[10]⟩ = x := ⟨_, rfl⟩
  obtain ⟨y, hy⟩ : ∃ y : ByteArray, x ++ b = y := ⟨_, rfl⟩
  have h3 : lexA 1 0 y.data.toList = bothS m R1 R2 := by
    rw [← hy, str_cat, ← hx, str_cat, List.append_assoc]
    show lexA 1 0 (a.data.toList ++ 10 :: b.data.toList) = _
    rw [lex_both, h1, h2, hm]
  have hys : y.size ≤ 900000 := by
    rw [← hy, size_cat, ← hx, size_cat]
    have : (⟨#[10]⟩ : ByteArray).size = 1 := rfl
    omega
  have hxs : x.size = a.size + 1 := by rw [← hx, size_cat]; rfl
  have H1 := Lib.hid h1
  have H2 := Lib.hid h2
  have H3 := Lib.hid h3
  have HM := Lib.hid hm
  have HX := Lib.hid hx
  have HY := Lib.hid hy
  clear h1 h2 h3 hm hx hy
  have ha2 : a.size ≤ 900000 := by omega
  have hb2 : b.size ≤ 900000 := by omega
  go_wp2_with fail
  refine (lex_as a ha2 R1 H1.out _).mono ?_
  rintro en w2 ⟨b2, hP1⟩
  replace BW := Below.step BW b2
  have HP1 := Lib.hid hP1
  clear hP1 b2
  obtain ⟨v1, n1, e1, hv1⟩ : ∃ (v : Value) (n1 e1 : Int), en = .returned (.tuple #[v, .int .i64 n1, .int .i64 e1]) := by
    have := HP1.out
    cases R1 with
    | error e => exact ⟨_, _, _, this⟩
    | ok T => obtain ⟨A, n, c, h, _⟩ := this; exact ⟨_, _, _, h⟩
  subst hv1
  go_wp2_with fail
  refine (lex_as b hb2 R2 H2.out _).mono ?_
  rintro en w3 ⟨b3, hP2⟩
  replace BW := Below.step BW b3
  have HP2 := Lib.hid hP2
  have HB3 := Lib.hid b3
  clear hP2 b3
  obtain ⟨v2, n2, e2, hv2⟩ : ∃ (v : Value) (n2 e2 : Int), en = .returned (.tuple #[v, .int .i64 n2, .int .i64 e2]) := by
    have := HP2.out
    cases R2 with
    | error e => exact ⟨_, _, _, this⟩
    | ok T => obtain ⟨A, n, c, h, _⟩ := this; exact ⟨_, _, _, h⟩
  subst hv2
  have hl1 : ¬ (9223372036854775807 : Int) < (a.size : Int) + 1 := by omega
  have hl1' : ¬ 9223372036854775807 < a.size + 1 := by omega
  have hl2 : ¬ 9223372036854775807 < x.size + b.size := by omega
  go_wp2_with fail
  rw [HX.out, HY.out]
  obtain ⟨R3, hR3⟩ : ∃ R, bothS m R1 R2 = R := ⟨_, rfl⟩
  have HR3 := Lib.hid hR3
  refine (lex_as y hys R3 (by rw [← hR3]; exact H3.out) _).mono ?_
  clear hR3
  rintro en w4 ⟨b4, hP3⟩
  replace BW := Below.step BW b4
  have HP3 := Lib.hid hP3
  have HB4 := Lib.hid b4
  clear hP3 b4
  obtain ⟨v3, n3, e3, hv3⟩ : ∃ (v : Value) (n3 e3 : Int), en = .returned (.tuple #[v, .int .i64 n3, .int .i64 e3]) := by
    have := HP3.out
    cases R3 with
    | error e => exact ⟨_, _, _, this⟩
    | ok T => obtain ⟨A, n, c, h, _⟩ := this; exact ⟨_, _, _, h⟩
  subst hv3
  go_wp2_with fail
  go_loopw [14, 15] (fun lv iv wr => ∃ j : Nat, j ≤ a.size ∧ iv = .int .i64 j ∧ lv = .int .i64 ((1 + lines (a.data.toList.take j) : Nat) : Int) ∧ wr = w4) (fun _ i _ => a.size - (intOf i).toNat)
  case atStart => exact ⟨0, Nat.zero_le _, rfl, rfl, rfl⟩
  case round =>
    obtain ⟨j, hj, rfl, rfl, rfl⟩ := hrel
    by_cases hlt : j < a.size
    · have hj0 : (0 : Int) ≤ (j : Int) := by omega
      have hj1 : (j : Int) < (a.size : Int) := by omega
      have HL := Lib.hid (lines_take (at_list hlt))
      obtain ⟨c0, hc0⟩ : ∃ c0, 1 + lines (a.data.toList.take j) = c0 := ⟨_, rfl⟩
      have hc1 : c0 ≤ 4000 := by
        have := lines_le (a.data.toList.take j)
        rw [List.length_take, size_list] at this
        omega
      have HC := Lib.hid hc0
      rw [hc0]
      clear hc0
      by_cases h10 : a[j] = 10
      · have hx1 : ((a[j].toNat : Int) == 10) = true := by rw [h10]; rfl
        obtain ⟨c2, hc3⟩ : ∃ c2, c0 + 1 = c2 := ⟨_, rfl⟩
        have hc2 : (c0 : Int) + 1 = (c2 : Int) := by omega
        have HN : Hid (1 + lines (a.data.toList.take (j + 1)) = c2) := Lib.hid (by rw [HL.out, if_pos h10, ← hc3, ← HC.out]; omega)
        clear hc3
        clear h10
        go_wp2_with fail
        go_roundw
        case rel => exact ⟨j + 1, by omega, by go_num, by rw [HN.out], by first | rfl | trivial⟩
        case measure => simp [intOf]; omega
      · have hx1 : ((a[j].toNat : Int) == 10) = false := by
          rw [beq_eq_false_iff_ne]
          intro e
          exact h10 (UInt8.toNat_inj.1 (by show a[j].toNat = 10; omega))
        have HN : Hid (1 + lines (a.data.toList.take (j + 1)) = c0) := Lib.hid (by rw [HL.out, if_neg h10, ← HC.out]; omega)
        clear h10
        go_wp2_with fail
        go_roundw
        case rel => exact ⟨j + 1, by omega, by go_num, by rw [HN.out], by first | rfl | trivial⟩
        case measure => simp [intOf]; omega
    · have HM2 : Hid (1 + lines (a.data.toList.take j) = m) := Lib.hid (by rw [List.take_of_length_le (by rw [size_list]; omega)]; exact HM.out)
      rw [HM2.out]
      have hge : ¬ (j : Int) < (a.size : Int) := by omega
      clear HM2 hlt hj
      cases R1 with
      | error f1 =>
        have q1 := HP1.out
        have q3 := HP3.out
        rw [← HR3.out] at q3
        cases q1
        cases q3
        go_wp2_with fail
        go_ret
        exact ⟨rfl, BW⟩
      | ok T =>
        obtain ⟨A1, k1, c1, q1, hT, sw1⟩ := HP1.out
        cases q1
        cases R2 with
        | error f2 =>
          have q2 := HP2.out
          have q3 := HP3.out
          rw [← HR3.out] at q3
          have q3 : Ending.returned (.tuple #[v3, .int .i64 n3, .int .i64 e3]) = Ending.returned (.tuple #[.slice none 0 0, .int .i64 ((m + f2 : Nat) : Int), .int .i64 2]) := q3
          cases q2
          obtain ⟨q, hq⟩ : ∃ q, m + f2 = q := ⟨_, rfl⟩
          have hf2 := lex_err H2.out
          rw [size_list] at hf2
          have hq2 : (m : Int) + (f2 : Int) = (q : Int) := by omega
          have hq3 : (q : Int) ≤ 900000 := by omega
          rw [hq] at q3
          cases q3
          clear hq hf2 hl1 hl2 hl1' hys hxs hmm ha hb ha2 hb2
          go_wp2_with fail
          go_ret
          exact ⟨rfl, BW⟩
        | ok U =>
          obtain ⟨A2, k2, c2, q2, hU, sw2⟩ := HP2.out
          cases q2
          have q3 := HP3.out
          rw [← HR3.out] at q3
          obtain ⟨A3, k3, c3, q3, hV, sw3⟩ := q3
          cases q3
          replace hT := (hT.on HB3.out).on HB4.out
          replace hU := hU.on HB4.out
          clear HP1 HP2 HP3 HR3
          have hk1 := hT.1
          have hk2 := hU.1
          have hk3 := hV.1
          rw [List.length_append, List.length_map] at hk3
          have hk : (k1 : Int) + (k2 : Int) = (k3 : Int) := by omega
          have hk0 : (k3 : Int) ≤ 9223372036854775807 := by have := sw3.1; have := sw3.2.1; unfold maxLen at this; omega
          have hkn : k1 + k2 = k3 := by omega
          have HKN := Lib.hid hkn
          have HK1 := Lib.hid hk1
          have HK2 := Lib.hid hk2
          clear hk1 hk2 hk3 hkn
          have HUL : Hid (∀ t ∈ U, m + t.l ≤ 90000) := Lib.hid fun t ht => by
            have := lex_max H2.out t ht
            rw [size_list] at this
            omega
          clear hl1 hl2 hl1' hys hxs hmm ha hb ha2 hb2
          go_wp2_with fail
          obtain ⟨wo, rfl⟩ : ∃ z, z = wr := ⟨_, rfl⟩
          go_loopw [108] (fun iv wr => ∃ i : Nat, i ≤ k3 ∧ iv = .int .i64 i ∧ Below wo.heap.size wo wr) (fun i _ => k3 - (intOf i).toNat)
          case atStart => exact ⟨0, Nat.zero_le _, rfl, Below.refl _ _⟩
          case round =>
            obtain ⟨i, hi, rfl, BL⟩ := hrel
            by_cases hlt : i < k3
            · have hi0 : (0 : Int) ≤ (i : Int) := by omega
              have hi1 : (i : Int) < (k3 : Int) := by omega
              obtain ⟨xt, hxt⟩ : ∃ x, (T ++ U.map fun t => t.at (m + t.l))[i]? = some x := ⟨_, List.getElem?_eq_getElem (by rw [hV.1]; exact hlt)⟩
              obtain ⟨b3, off3, eA3, z0, z1, z2, z3, z4⟩ := (hV.on BL).2 i xt hxt
              subst eA3
              have HXT := Lib.hid hxt
              clear hxt
              obtain ⟨tx, htx⟩ : ∃ z : ByteArray, (⟨xt.t.toArray⟩ : ByteArray) = z := ⟨_, rfl⟩
              rw [htx] at z2
              have HTX := Lib.hid htx
              clear htx
              go_upto_region 23 with fail
              obtain ⟨w5, e5, Z5, b5, s5⟩ := mk1o wr [.int .i64 (xt.k : Int), .string tx, .int .i64 (xt.v : Int), .int .i64 (xt.l : Int)] 32
              rw [e5]
              have S5 := Lib.hid s5
              clear e5 z1 z2 z3 z4 s5
              go_upto_region 24 with fail
              obtain ⟨w6, e6, Z6, b6, s6⟩ := mk1o w5 [.int .i64 0, .string ⟨#[]⟩, .int .i64 0, .int .i64 0] 32
              rw [e6]
              clear e6
              obtain ⟨p5, hp5, hp55⟩ : ∃ p, wr.heap.size = p ∧ p < w6.heap.size := ⟨_, rfl, by have := S5.out; omega⟩
              obtain ⟨p6, hp6, hpp⟩ : ∃ p, w5.heap.size = p ∧ p5 < p := ⟨_, rfl, by have := S5.out; omega⟩
              have hne : p5 ≠ p6 := by omega
              have Z5' := Z5.below b6 Z5.lt
              rw [hp5] at Z5' ⊢
              rw [hp6] at Z6 ⊢
              have BL6 := Below.step (Below.step BL b5) b6
              have hle6 : wo.heap.size ≤ p6 := by have := BL.size; have := S5.out; omega
              have hle5 : wo.heap.size ≤ p5 := by have := BL.size; omega
              clear Z5 hp5 hp6 S5 s6 b5 b6
              obtain ⟨x0, f0, x1, f1, x2, f2, x3, f3⟩ := Z5'.y8
              obtain ⟨y0, g0, y1, g1, y2, g2, y3, g3⟩ := Z6.y8
              by_cases hik : i < k1
              · have hik1 : (i : Int) < (k1 : Int) := by omega
                obtain ⟨b1, off1, eA1, l0, l1, l2, l3, l4⟩ := (hT.on BL6).2 i xt (by
                  have := HXT.out
                  rwa [List.getElem?_append_left (by rw [HK1.out]; exact hik)] at this)
                subst eA1
                rw [HTX.out] at l2
                have sk := sameK_self (xt.k : Int) (xt.v : Int) (xt.l : Int) tx
                clear HKN HK1 HK2 HXT HTX hV hU hT hk hi z0
                have BLF : ∀ v1 v2 v3 v4 : Value, Below wo.heap.size wo ((((w6.setCell ⟨p6, 0, none⟩ v1).setCell ⟨p6, 1, none⟩ v2).setCell ⟨p6, 2, none⟩ v3).setCell ⟨p6, 3, none⟩ v4) := fun _ _ _ _ => below_s4 BL6 hle6
                go_wp2_with fail
                go_roundw
                case rel => exact ⟨i + 1, by omega, by go_num, BLF _ _ _ _⟩
                case measure => simp [intOf]; omega
              · obtain ⟨i2, hi2⟩ : ∃ i2, i - k1 = i2 := ⟨_, rfl⟩
                have hi3 : (i : Int) - (k1 : Int) = (i2 : Int) := by omega
                have hi4 : (0 : Int) ≤ (i2 : Int) := by omega
                have hi6 : (i2 : Int) ≤ 9223372036854775807 := by omega
                have hi5 : (i2 : Int) < (k2 : Int) := by have := HKN.out; omega
                have hik1 : ¬ (i : Int) < (k1 : Int) := by omega
                have hik3 : k1 ≤ i := by omega
                obtain ⟨xu, hxu, hxe⟩ : ∃ u, U[i2]? = some u ∧ xt = u.at (m + u.l) := by
                  have := HXT.out
                  rw [List.getElem?_append_right (by rw [HK1.out]; omega), HK1.out, hi2, List.getElem?_map] at this
                  cases hu : U[i2]? with
                  | none => rw [hu] at this; cases this
                  | some u => rw [hu] at this; exact ⟨u, rfl, (Option.some.inj this).symm⟩
                obtain ⟨b2, off2, eA2, l0, l1, l2, l3, l4⟩ := (hU.on BL6).2 i2 xu hxu
                subst eA2
                have htx2 : (⟨xu.t.toArray⟩ : ByteArray) = tx := by rw [← HTX.out, hxe]; rfl
                have hk5 : xu.k = xt.k := by rw [hxe]; rfl
                have hv5 : xu.v = xt.v := by rw [hxe]; rfl
                have hl5 : (xu.l : Int) + (m : Int) = (xt.l : Int) := by rw [hxe]; show _ = ((m + xu.l : Nat) : Int); omega
                have hlx : (xt.l : Int) ≤ 90000 := by
                  have := HUL.out xu (List.mem_of_getElem? hxu)
                  have e : xt.l = m + xu.l := by rw [hxe]; rfl
                  omega
                rw [htx2] at l2
                rw [hk5] at l1
                rw [hv5] at l3
                have sk := sameK_self (xt.k : Int) (xt.v : Int) (xt.l : Int) tx
                clear HKN HK1 HK2 HXT HTX hV hU hT hk z0 htx2 hk5 hv5 hxe hi2 hxu
                go_upto_region 27 with fail
                obtain ⟨w7, e7⟩ : ∃ w', (((w6.setCell ⟨p6, 0, none⟩ (.int .i64 (xt.k : Int))).setCell ⟨p6, 1, none⟩ (.string tx)).setCell ⟨p6, 2, none⟩ (.int .i64 (xt.v : Int))).setCell ⟨p6, 3, none⟩ (.int .i64 (xu.l : Int)) = w' := ⟨_, rfl⟩
                have Z7 : Own w7 p6 32 [.int .i64 (xt.k : Int), .string tx, .int .i64 (xt.v : Int), .int .i64 (xu.l : Int)] := e7 ▸ (((Z6.put 0 _).put 1 _).put 2 _).put 3 _
                have BL7 : Below wo.heap.size wo w7 := e7 ▸ below_s4 BL6 hle6
                have bq : Below p6 w6 w7 := e7 ▸ below_s4 (Below.refl _ _) (Nat.le_refl _)
                have x0' : w7.cell? ⟨p5, 0, none⟩ = some (.int .i64 (xt.k : Int)) := (bq.cell (p := ⟨p5, 0, none⟩) hpp).trans x0
                have x1' : w7.cell? ⟨p5, 1, none⟩ = some (.string tx) := (bq.cell (p := ⟨p5, 1, none⟩) hpp).trans x1
                have x2' : w7.cell? ⟨p5, 2, none⟩ = some (.int .i64 (xt.v : Int)) := (bq.cell (p := ⟨p5, 2, none⟩) hpp).trans x2
                have x3' : w7.cell? ⟨p5, 3, none⟩ = some (.int .i64 (xt.l : Int)) := (bq.cell (p := ⟨p5, 3, none⟩) hpp).trans x3
                rw [e7]
                clear e7 Z6 x0 x1 x2 x3 f0 f1 f2 f3 y0 y1 y2 y3 g0 g1 g2 g3 l0 l1 l2 l3 l4 BL6 Z5'
                obtain ⟨y0, g0, y1, g1, y2, g2, y3, g3⟩ := Z7.y8
                have BLF : ∀ v5 : Value, Below wo.heap.size wo (w7.setCell ⟨p6, 3, none⟩ v5) := fun _ => BL7.setCell (p := ⟨p6, 3, none⟩) hle6 _
                clear bq
                go_wp2_with fail
                go_roundw
                case rel => exact ⟨i + 1, by omega, by go_num, BLF _⟩
                case measure => simp [intOf]; omega
            · have hge2 : ¬ (i : Int) < (k3 : Int) := by omega
              go_wp2_with fail
              go_ret
              exact ⟨rfl, Below.step BW BL⟩
end Go.Proofs.YtkoacjnffbfgiaaDoor
