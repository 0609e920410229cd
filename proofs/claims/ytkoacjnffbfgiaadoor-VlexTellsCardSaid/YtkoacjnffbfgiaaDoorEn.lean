
/-
  The reference of layer 24: digits and names.
-/
import Derived.Test.YtkoacjnffbfgiaaDoorEm
import Derived.Test.YtkoacjnffbfgiaaDoorEk
import Derived.Test.YtkoacjnffbfgiaaDoorEj
import Derived.Laws.Strings2
namespace Go.Proofs.YtkoacjnffbfgiaaDoor
open Go.RowKit
set_option linter.unusedVariables false

theorem slice_ab (s : ByteArray) (a b : Nat) (h : a ≤ b) (h2 : b ≤ s.size) (w : World) : (Instr.slice 9 (.string s) (some (.int .i64 (a : Int))) (some (.int .i64 (b : Int))) none).run Tryd.prog w = .ok (.string (s.extract a b)) w := by
  have := run_slice_string (P := Tryd.prog) w 9 s .i64 .i64 (a : Int) (b : Int) Tryd.underlying9 (by omega) (by omega) (by omega)
  rw [Int.toNat_natCast, Int.toNat_natCast] at this
  exact this
theorem one_digit (n : Nat) (h : n < 10) : (⟨#[48, 49, 50, 51, 52, 53, 54, 55, 56, 57]⟩ : ByteArray).extract n (n + 1) = ⟨(Lib.decDigits n).toArray⟩ := by
  rw [Lib.decDigits_one h, Lib.extract_eq]
  have : ∀ i : Fin 10, (([48, 49, 50, 51, 52, 53, 54, 55, 56, 57] : List UInt8).drop i.val).take (i.val + 1 - i.val) = [UInt8.ofNat (48 + i.val)] := by decide +kernel
  have := this ⟨n, h⟩
  show (⟨((([48, 49, 50, 51, 52, 53, 54, 55, 56, 57] : List UInt8).drop n).take (n + 1 - n)).toArray⟩ : ByteArray) = _
  rw [this]
theorem digits_le (n : Nat) (h : n ≤ 9223372036854775807) : (Lib.decDigits n).length ≤ 19 := digits_short 18 n (by omega)
set_option maxHeartbeats 1000000 in
theorem rdigits_as : ∀ (n : Nat), n ≤ 9223372036854775807 → ∀ w : World, Calls Tryd.prog 26 #[.int .i64 n] w fun e w' => e = .returned (.string ⟨(Lib.decDigits n).toArray⟩) ∧ Below w.heap.size w w' := by
  intro n
  induction n using Nat.strongRecOn with
  | _ n ih =>
    intro hn w
    have hn0 : (0 : Int) ≤ (n : Int) := by omega
    have hn1 : (n : Int) ≤ 9223372036854775807 := by omega
    by_cases h : n < 10
    · have h10 : (n : Int) < 10 := by omega
      have hD := Lib.hid (one_digit n h)
      go_enter Tryd.func26, Tryd.ntmps26
      obtain ⟨m, hm⟩ : ∃ m, n + 1 = m := ⟨_, rfl⟩
      rw [hm] at hD
      have hmI : (n : Int) + 1 = (m : Int) := by omega
      have hsl := slice_ab ⟨#[48, 49, 50, 51, 52, 53, 54, 55, 56, 57]⟩ n m (by omega) (by show m ≤ 10; omega)
      clear hm
      go_wp2_with fail
      go_ret
      exact ⟨ret_str hD.out, Below.refl _ _⟩
    · have hq := Lib.hid (ih (n / 10) (by omega) (by omega))
      have hr := Lib.hid (ih (n % 10) (by omega) (by omega))
      have hl1 := digits_le (n / 10) (by omega)
      have hl2 := digits_le (n % 10) (by omega)
      have hE : Hid (Lib.decDigits n = Lib.decDigits (n / 10) ++ Lib.decDigits (n % 10)) := Lib.hid (by
        conv => lhs; rw [Lib.decDigits, dif_neg h]
        rw [Lib.decDigits_one (Nat.mod_lt _ (by omega) : n % 10 < 10)])
      obtain ⟨q, hq1⟩ : ∃ q, n / 10 = q := ⟨_, rfl⟩
      obtain ⟨r, hr1⟩ : ∃ r, n % 10 = r := ⟨_, rfl⟩
      rw [hq1] at hq hl1 hE
      rw [hr1] at hr hl2 hE
      have hqI : (n : Int) / 10 = (q : Int) := by omega
      have hrI : (n : Int) % 10 = (r : Int) := by omega
      have hqT : (n : Int).tdiv 10 = (q : Int) := by rw [Int.tdiv_eq_ediv_of_nonneg hn0]; exact hqI
      have hrT : (n : Int).tmod 10 = (r : Int) := by rw [Int.tmod_eq_emod_of_nonneg hn0]; exact hrI
      obtain ⟨x, hx⟩ : ∃ x : ByteArray, (⟨(Lib.decDigits q).toArray⟩ : ByteArray) = x := ⟨_, rfl⟩
      obtain ⟨y, hy⟩ : ∃ y : ByteArray, (⟨(Lib.decDigits r).toArray⟩ : ByteArray) = y := ⟨_, rfl⟩
      have hxs : x.size ≤ 19 := by rw [← hx]; exact hl1
      have hys : y.size ≤ 19 := by rw [← hy]; exact hl2
      have hcat : ¬ 9223372036854775807 < x.size + y.size := by omega
      have hR : Hid (x ++ y = ⟨(Lib.decDigits n).toArray⟩) := Lib.hid (by rw [app_str, ← hx, ← hy, hE.out])
      have hx := Lib.hid hx
      have hy := Lib.hid hy
      have h10 : ¬ (n : Int) < 10 := by omega
      clear hl1 hl2 hq1 hr1 ih
      go_enter Tryd.func26, Tryd.ntmps26
      go_wp2_with fail
      refine (hq.out _).mono ?_
      rintro en w1 ⟨rfl, BW⟩
      rw [hx.out]
      go_wp2_with fail
      refine (hr.out _).mono ?_
      rintro en w2 ⟨rfl, b⟩
      replace BW := Below.step BW b
      rw [hy.out]
      go_wp2_with fail
      go_ret
      exact ⟨ret_str hR.out, BW⟩
theorem rnames_as (i : Int) (h1 : i ≤ 9223372036854775807) (w : World) :
    Calls Tryd.prog 13 #[.int .i64 i] w fun e w' => e = .returned (.string ⟨(namesS i).toArray⟩) ∧ Below w.heap.size w w' := by
  go_enter Tryd.func13, Tryd.ntmps13
  by_cases hi : i < 0
  · go_wp2_with fail
    go_ret
    exact ⟨ret_str (by unfold namesS; rw [if_pos hi]), Below.refl _ _⟩
  · obtain ⟨n, rfl⟩ : ∃ n : Nat, i = (n : Int) := ⟨i.toNat, by omega⟩
    have hi2 : (0 : Int) ≤ (n : Int) := by omega
    have hn : n ≤ 9223372036854775807 := by omega
    have hl := digits_le n hn
    obtain ⟨x, hx⟩ : ∃ x : ByteArray, (⟨(Lib.decDigits n).toArray⟩ : ByteArray) = x := ⟨_, rfl⟩
    have hxs : x.size ≤ 19 := by rw [← hx]; exact hl
    have hcat : ¬ 9223372036854775807 < 1 + x.size := by omega
    have hR : Hid ((⟨#[78]⟩ : ByteArray) ++ x = ⟨(namesS (n : Int)).toArray⟩) := Lib.hid (by rw [app_str, ← hx, names_nat]; rfl)
    have hx := Lib.hid hx
    clear hl
    go_wp2_with fail
    refine (rdigits_as n hn _).mono ?_
    rintro en w1 ⟨rfl, BW⟩
    rw [hx.out]
    go_wp2_with fail
    go_ret
    exact ⟨ret_str hR.out, BW⟩
theorem name_short {l : List UInt8} (h : l.length < 2 ∨ 8 < l.length) : nameS l = none := by
  unfold nameS
  split
  · rename_i d
    rw [List.length_cons] at h
    rw [if_neg]
    rw [Bool.and_eq_true]
    rintro ⟨_, hn⟩
    have := num_iff.1 hn
    omega
  · rfl
theorem name_head {c : UInt8} {r : List UInt8} (h : c ≠ 78) : nameS (c :: r) = none := name_no (pre_head h)
set_option maxHeartbeats 1000000 in
theorem rname_as (s : ByteArray) (hs : s.size ≤ 900000) (o : Option Nat) (ho : nameS s.data.toList = o) (w : World) :
    Calls Tryd.prog 11 #[.string s] w fun e w' => e = .returned (nmV o) ∧ Below w.heap.size w w' := by
  have HO := Lib.hid ho
  clear ho
  go_enter Tryd.func11, Tryd.ntmps11
  by_cases h2 : s.size < 2
  · have h2I : (s.size : Int) < 2 := by omega
    have HN : Hid (nameS s.data.toList = none) := Lib.hid (name_short (.inl (by rw [size_list]; exact h2)))
    go_wp2_with fail
    refine bodyPost_ret (v := nmV none) (by simp [results, Tryd.results11, go_sem, nmV]) rfl ⟨by rw [← HO.out, HN.out], Below.refl _ _⟩
  have h2I : ¬ (s.size : Int) < 2 := by omega
  by_cases h8 : 8 < s.size
  · have h8I : (8 : Int) < (s.size : Int) := by omega
    have HN : Hid (nameS s.data.toList = none) := Lib.hid (name_short (.inr (by rw [size_list]; exact h8)))
    go_wp2_with fail
    refine bodyPost_ret (v := nmV none) (by simp [results, Tryd.results11, go_sem, nmV]) rfl ⟨by rw [← HO.out, HN.out], Below.refl _ _⟩
  have h8I : ¬ (8 : Int) < (s.size : Int) := by omega
  have hp : 0 < s.size := by omega
  have hpI : (0 : Int) < (s.size : Int) := by omega
  obtain ⟨d, hd⟩ := list_cons hp
  by_cases h78 : s[0] = 78
  case neg =>
    have hx : ((s[0].toNat : Int) != 78) = true := by
      rw [bne_iff_ne]
      intro e
      exact h78 (UInt8.toNat_inj.1 (by show s[0].toNat = 78; omega))
    have HN : Hid (nameS s.data.toList = none) := Lib.hid (by rw [hd]; exact name_head h78)
    clear hd h78
    go_wp2_with fail
    refine bodyPost_ret (v := nmV none) (by simp [results, Tryd.results11, go_sem, nmV]) rfl ⟨by rw [← HO.out, HN.out], Below.refl _ _⟩
  have hx : ((s[0].toNat : Int) != 78) = false := by rw [h78]; rfl
  rw [h78] at hd
  have HD := Lib.hid hd
  have HN : Hid (nameS s.data.toList = if (d.all (by8 dgS) && numS d) = true then some (decV d) else none) := Lib.hid (by rw [hd]; rfl)
  have hdl : d.length + 1 = s.size := by rw [← size_list, hd, List.length_cons]
  have HDL := Lib.hid hdl
  clear hd h78 hdl
  go_wp2_with fail
  go_loopw [4, 5] (fun nv iv wr => ∃ (j n : Nat), 1 ≤ j ∧ j ≤ s.size ∧ iv = .int .i64 j ∧ nv = .int .i64 n ∧ Hid ((d.take (j - 1)).all (by8 dgS) = true ∧ decV (d.take (j - 1)) = n) ∧ Below w.heap.size w wr) (fun _ i _ => s.size - (intOf i).toNat)
  case atStart => exact ⟨1, 0, Nat.le_refl _, by omega, rfl, rfl, Lib.hid ⟨rfl, rfl⟩, Below.refl _ _⟩
  case round =>
    obtain ⟨j, n, hj1, hj, rfl, rfl, HI, BW⟩ := hrel
    by_cases hlt : j < s.size
    · have hj0 : (0 : Int) ≤ (j : Int) := by omega
      have hjI : (j : Int) < (s.size : Int) := by omega
      obtain ⟨i, rfl⟩ : ∃ i, j = i + 1 := ⟨j - 1, by omega⟩
      have hat : Hid (d[i]? = some s[i + 1]) := Lib.hid (by
        have := at_list hlt
        rw [HD.out] at this
        simpa using this)
      obtain ⟨x1, h1⟩ : ∃ x, dgS (s[i + 1].toNat : Int) = x := ⟨_, rfl⟩
      have H1 := Lib.hid h1
      have HB : Hid (by8 dgS s[i + 1] = x1) := Lib.hid h1
      clear h1
      have hn7 : n < 10000000 := by
        have h1 := decV_lt HI.out.1
        rw [HI.out.2, List.length_take] at h1
        refine Nat.lt_of_lt_of_le h1 (Nat.le_trans (Nat.pow_le_pow_right (by omega) (?_ : _ ≤ 7)) (by decide))
        have := HDL.out
        omega
      go_wp2_with fail
      refine (rdigit_as _ x1 H1.out _).mono ?_
      rintro en w2 ⟨rfl, b⟩
      replace BW := Below.step BW b
      clear b
      cases x1
      case false =>
        have HM : Hid (nameS s.data.toList = none) := Lib.hid (by
          rw [HN.out, if_neg]
          rw [Bool.and_eq_true, List.all_eq_true]
          rintro ⟨h, _⟩
          have := h _ (List.mem_of_getElem? hat.out)
          rw [HB.out] at this
          cases this)
        go_wp2_with fail
        refine bodyPost_ret (v := nmV none) (by simp [results, Tryd.results11, go_sem, nmV]) rfl ⟨by rw [← HO.out, HM.out], BW⟩
      case true =>
        obtain ⟨_, _, g1, g2⟩ := dg_is HB.out
        obtain ⟨a, ha⟩ : ∃ a, 10 * n = a := ⟨_, rfl⟩
        obtain ⟨b2, hb2⟩ : ∃ b, a + s[i + 1].toNat = b := ⟨_, rfl⟩
        obtain ⟨n2, hn2⟩ : ∃ n2, b2 - 48 = n2 := ⟨_, rfl⟩
        have e1 : (10 : Int) * (n : Int) = (a : Int) := by omega
        have e2 : (a : Int) + (s[i + 1].toNat : Int) = (b2 : Int) := by omega
        have e3 : (b2 : Int) - 48 = (n2 : Int) := by omega
        have hw : (n2 : Int) ≤ 200000000 := by omega
        have HI2 : Hid ((d.take (i + 1 + 1 - 1)).all (by8 dgS) = true ∧ decV (d.take (i + 1 + 1 - 1)) = n2) := Lib.hid (by
          have h1 := HI.out.1
          have h2 := HI.out.2
          rw [Nat.add_sub_cancel] at h1 h2 ⊢
          refine ⟨takeall h1 hat.out HB.out, ?_⟩
          rw [List.take_add_one, hat.out]
          show decV (d.take i ++ [s[i + 1]]) = n2
          rw [decV_app h1 HB.out, h2]
          omega)
        have ha2 : (a : Int) ≤ 200000000 := by omega
        have hb3 : (b2 : Int) ≤ 200000000 := by omega
        clear ha hb2 hn2 hn7 g1 g2
        go_wp2_with fail
        go_roundw
        case rel => exact ⟨i + 1 + 1, n2, by omega, by omega, by go_num, rfl, HI2, BW⟩
        case measure => simp [intOf]; omega
    · have hge : ¬ (j : Int) < (s.size : Int) := by omega
      have HF : Hid (d.all (by8 dgS) = true ∧ decV d = n) := Lib.hid (by
        have := HI.out
        rwa [List.take_of_length_le (by have := HDL.out; omega)] at this)
      have hnI : (n : Int) ≤ 9223372036854775807 := by
        have h1 := decV_lt HF.out.1
        rw [HF.out.2] at h1
        have : n < 10 ^ 7 := Nat.lt_of_lt_of_le h1 (Nat.pow_le_pow_right (by omega) (by have := HDL.out; omega))
        omega
      obtain ⟨x, hx⟩ : ∃ x : ByteArray, (⟨(namesS (n : Int)).toArray⟩ : ByteArray) = x := ⟨_, rfl⟩
      obtain ⟨x5, h5⟩ : ∃ y, (x.toList != s.toList) = y := ⟨_, rfl⟩
      have HE : Hid (nameS s.data.toList = if x5 = true then none else some n) := Lib.hid (by
        have hc := HF.out
        have hxl : x.data.toList = 78 :: Lib.decDigits n := by rw [← hx, names_nat]
        have hdl := HDL.out
        have hd0 : 0 < d.length := by omega
        rw [HN.out, hc.1, Bool.true_and, ← h5, hc.2]
        have key : ((x.toList != s.toList) = true) ↔ ¬ numS d = true := by
          rw [bne_iff_ne, Lib.toList_data, Lib.toList_data, hxl, HD.out, num_iff, ← hc.2, ← digits_iff hc.1 hd0]
          constructor
          · intro h e
            exact h (by rw [e.2.2])
          · intro h e
            exact h ⟨hd0, by omega, (List.cons.inj e).2⟩
        by_cases hn : numS d = true
        · rw [if_pos hn, if_neg (fun e => (key.1 e) hn)]
        · rw [if_neg hn, if_pos (key.2 hn)])
      have h6 : (x.toList == s.toList) = !x5 := by rw [← h5, bne, Bool.not_not]
      have HX := Lib.hid hx
      clear hx
      go_wp2_with fail
      refine (rnames_as (n : Int) hnI _).mono ?_
      rintro en w2 ⟨rfl, b⟩
      replace BW := Below.step BW b
      clear b
      rw [HX.out]
      cases x5
      · go_wp2_with fail
        refine bodyPost_ret (v := nmV (some n)) (by simp [results, Tryd.results11, go_sem, nmV]) rfl ⟨by rw [← HO.out, HE.out]; rfl, BW⟩
      · go_wp2_with fail
        refine bodyPost_ret (v := nmV none) (by simp [results, Tryd.results11, go_sem, nmV]) rfl ⟨by rw [← HO.out, HE.out]; rfl, BW⟩
end Go.Proofs.YtkoacjnffbfgiaaDoor
