
/-
  The reference of layer 24: One, whole.
-/
import Derived.Test.YtkoacjnffbfgiaaDoorEp
import Derived.Deep.CutBlock
namespace Go.Proofs.YtkoacjnffbfgiaaDoor
open Go.RowKit
set_option linter.unusedVariables false

theorem pre_take (l p : List UInt8) (h : p.length ≤ l.length) : Lib.hasPrefix l p = (l.take p.length == p) := by
  rw [← Lib.hasPrefix_of_take, decide_eq_true h, Bool.true_and]
theorem pre_len {l p : List UInt8} (h : Lib.hasPrefix l p = true) : p.length ≤ l.length := by
  obtain ⟨r, rfl⟩ := pre_ex h
  simp
theorem bit_short {l : List UInt8} (h : l.length < 4) : bitS l = none := by
  unfold bitS
  rw [if_neg]
  rw [Bool.and_eq_true, Bool.or_eq_true]
  rintro ⟨h1, _⟩
  rcases h1 with h1 | h1
  · have := pre_len h1
    simp at this
    omega
  · have := pre_len h1
    simp at this
    omega
/-- what a bit's text says. -/
theorem bit_is {l : List UInt8} (h : (bitS l).isSome = true) : ∃ d, bitS l = some ⟨1, l.take 4, d, 0⟩ ∧ 4 ≤ l.length ∧ ((l[3]? = some 48 ∧ d = 0) ∨ (l[3]? = some 49 ∧ d = 1)) := by
  unfold bitS at *
  split at h
  · rename_i hp
    rw [if_pos hp]
    rw [Bool.and_eq_true, Bool.or_eq_true] at hp
    rcases hp.1 with h1 | h1
    · obtain ⟨r, rfl⟩ := pre_ex h1
      exact ⟨0, rfl, by simp, .inl ⟨rfl, rfl⟩⟩
    · obtain ⟨r, rfl⟩ := pre_ex h1
      exact ⟨1, rfl, by simp, .inr ⟨rfl, rfl⟩⟩
  · cases h
set_option maxHeartbeats 4000000 in
set_option maxRecDepth 10000 in
theorem one_dig (s : ByteArray) (a : Nat) (ha : a < s.size) (hs : s.size ≤ 900000) (hd : dgS (s[a].toNat : Int) = true) (w : World) :
    Calls Tryd.prog 19 #[.string s, .int .i64 a] w fun e w' => e = .returned (onV (fstS (s.data.toList.drop a))) ∧ Below w.heap.size w w' := by
  have hc : bgS (s[a].toNat : Int) = false := (dg_is (show by8 dgS s[a] = true from hd)).1
  have HF : Hid (fstS (s.data.toList.drop a) = (bitS (s.data.toList.drop a)).or (nbS (s.data.toList.drop a))) := Lib.hid (by rw [drop_at ha]; exact fst_digit hd)
  have HC := Lib.hid hc
  have HD := Lib.hid hd
  obtain ⟨l, hl⟩ : ∃ l, s.data.toList.drop a = l := ⟨_, rfl⟩
  have HL := Lib.hid hl
  have hll : l.length = s.size - a := by rw [← hl, List.length_drop, size_list]
  rw [hl] at HF ⊢
  have ha0 : (0 : Int) ≤ (a : Int) := by omega
  have ha1 : (a : Int) < (s.size : Int) := by omega
  have hsI : (s.size : Int) ≤ 900000 := by omega
  obtain ⟨bb, hbb⟩ : ∃ b, (bitS l).isSome = b := ⟨_, rfl⟩
  have HB := Lib.hid hbb
  have HLL := Lib.hid hll
  clear hc hd hl hll hbb
  go_enter Tryd.func19, Tryd.ntmps19
  go_upto_region 1 with fail
  obtain ⟨w1, e1, ZR, BW, sw1⟩ := mk1o w [.int .i64 0, .string ⟨#[]⟩, .int .i64 0, .int .i64 0] 31
  rw [e1]
  clear e1 sw1
  go_wp2_with fail
  refine (letter_as _ false HC.out _).mono ?_
  rintro en w2 ⟨rfl, b⟩
  replace ZR := ZR.below b ZR.lt
  replace BW := Below.step BW b
  clear b
  go_wp2_with fail
  refine (rdigit_as _ true HD.out _).mono ?_
  rintro en w3 ⟨rfl, b⟩
  replace ZR := ZR.below b ZR.lt
  replace BW := Below.step BW b
  clear b
  go_upto_region 5 with fail
  obtain ⟨m4, hm4⟩ : ∃ m, a + 4 = m := ⟨_, rfl⟩
  have hm4I : (a : Int) + 4 = (m4 : Int) := by omega
  have HM4 := Lib.hid hm4
  clear hm4
  go_cut [51] (fun v wx => v = .bool bb ∧ Below w3.heap.size w3 wx)
  case first =>
    by_cases h4 : m4 ≤ s.size
    · have h4I : (m4 : Int) ≤ (s.size : Int) := by omega
      have hsl := slice_ab s a m4 (by have := HM4.out; omega) h4
      obtain ⟨d, hd⟩ : ∃ d : ByteArray, s.extract a m4 = d := ⟨_, rfl⟩
      have hdl : Hid (d.data.toList = l.take 4) := Lib.hid (by rw [← hd, ← HM4.out, ext_take, HL.out])
      rw [hd] at hsl
      obtain ⟨x2, h2⟩ : ∃ y, (d.toList == [49, 39, 98, 48]) = y := ⟨_, rfl⟩
      obtain ⟨x3, h3⟩ : ∃ y, (d.toList == [49, 39, 98, 49]) = y := ⟨_, rfl⟩
      obtain ⟨x4, h4'⟩ : ∃ y, apS (s.data.toList.drop m4) = y := ⟨_, rfl⟩
      have H4 := Lib.hid h4'
      have HE : Hid (bb = ((x2 || x3) && x4)) := Lib.hid (by
        have hlen : 4 ≤ l.length := by have := HLL.out; have := HM4.out; omega
        rw [← HB.out]
        unfold bitS
        rw [pre_take l [49, 39, 98, 48] hlen, pre_take l [49, 39, 98, 49] hlen]
        have e4 : l.drop 4 = s.data.toList.drop m4 := by rw [← HL.out, List.drop_drop, ← HM4.out]
        rw [e4, h4', ← h2, ← h3]
        simp only [Lib.toList_data, hdl.out]
        show (if ((l.take 4 == [49, 39, 98, 48] || l.take 4 == [49, 39, 98, 49]) && x4) = true then some (⟨1, l.take 4, (l.getD 3 0).toNat - 48, 0⟩ : Tk) else none).isSome = _
        generalize ((l.take 4 == [49, 39, 98, 48] || l.take 4 == [49, 39, 98, 49]) && x4) = z
        cases z <;> rfl)
      clear hd h4'
      cases x2
      · cases x3
        · go_wp2_with fail
          go_meet
          exact ⟨by rw [HE.out]; rfl, Below.refl _ _⟩
        · go_wp2_with fail
          refine (ends_as s m4 hs x4 H4.out _).mono ?_
          rintro en w4 ⟨rfl, b⟩
          go_wp2_with fail
          go_meet
          exact ⟨by rw [HE.out]; rfl, b⟩
      · go_wp2_with fail
        refine (ends_as s m4 hs x4 H4.out _).mono ?_
        rintro en w4 ⟨rfl, b⟩
        go_wp2_with fail
        go_meet
        exact ⟨by rw [HE.out]; cases x3 <;> rfl, b⟩
    · have h4I : ¬ (m4 : Int) ≤ (s.size : Int) := by omega
      have HE : Hid (bb = false) := Lib.hid (by rw [← HB.out, bit_short (by have := HLL.out; have := HM4.out; omega)]; rfl)
      go_wp2_with fail
      go_meet
      exact ⟨by rw [HE.out], Below.refl _ _⟩
  case rest =>
    obtain ⟨rfl, b⟩ := hcut
    obtain ⟨w4, rfl⟩ : ∃ z, z = wc := ⟨_, rfl⟩
    replace ZR := ZR.below b ZR.lt
    replace BW := Below.step BW b
    clear b
    obtain ⟨zr0, zf0, zr1, zf1, zr2, zf2, zr3, zf3⟩ := ZR.y8
    cases bb
    case true =>
      apply_assumption
      go_step
      obtain ⟨d, hb1, hb2, hb3⟩ := bit_is HB.out
      have hlen := HLL.out
      have hm := HM4.out
      have hsl := slice_ab s a m4 (by omega) (by omega)
      have hX : Hid (s.extract a m4 = ⟨(l.take 4).toArray⟩) := Lib.hid (by rw [← HM4.out, ext_take, HL.out])
      obtain ⟨m3, hm3⟩ : ∃ m, a + 3 = m := ⟨_, rfl⟩
      have hm3I : (a : Int) + 3 = (m3 : Int) := by omega
      have hlt3 : m3 < s.size := by omega
      have hm30 : (0 : Int) ≤ (m3 : Int) := by omega
      have hm31 : (m3 : Int) < (s.size : Int) := by omega
      have hv : (s[m3].toNat : Int) - 48 = (d : Int) := by
        have h := at_list hlt3
        have e : l[3]? = s.data.toList[m3]? := by rw [← HL.out, List.getElem?_drop, hm3]
        rw [e, h] at hb3
        rcases hb3 with ⟨g, rfl⟩ | ⟨g, rfl⟩
        · rw [Option.some.inj g]; rfl
        · rw [Option.some.inj g]; rfl
      have HE : Hid (fstS l = some ⟨1, l.take 4, d, 0⟩) := Lib.hid (by rw [HF.out, hb1]; rfl)
      have hq1 : (s[m3].toNat : Int) ≤ 49 := by
        have h := at_list hlt3
        have e : l[3]? = s.data.toList[m3]? := by rw [← HL.out, List.getElem?_drop, hm3]
        rw [e, h] at hb3
        rcases hb3 with ⟨g, _⟩ | ⟨g, _⟩
        · rw [Option.some.inj g]; decide
        · rw [Option.some.inj g]; decide
      have hdI : (d : Int) ≤ 9 := by omega
      clear hb1 hb2 hb3 hlen hm hm3
      have YR := ZR.below ((Below.refl _ _).drew : Below w4.heap.size w4 w4.drew) ZR.lt
      obtain ⟨yr0, yf0, yr1, yf1, yr2, yf2, yr3, yf3⟩ := YR.y8
      go_wp2_with fail
      go_region
      go_wp2_with fail
      rw [hX.out]
      refine bodyPost_ret (v := onV (some ⟨1, l.take 4, d, 0⟩)) ?_ rfl ⟨by rw [HE.out], (below_s4 BW (Nat.le_refl _)).drew⟩
      have HV := fun a b c d => ZR.q4 a b c d
      simp [results, Tryd.results19, go_sem, HV, onV, tkA]
    case false =>
      apply_assumption
      go_step
      obtain ⟨n, hn⟩ : ∃ n, runS dgS l = n := ⟨_, rfl⟩
      have hnl : n ≤ l.length := by rw [← hn]; exact run_le
      have HR : Hid (runS (ctS false) (s.data.toList.drop a) = n) := Lib.hid (by rw [ct_false, HL.out]; exact hn)
      have hlen := HLL.out
      obtain ⟨m, hm⟩ : ∃ m, a + n = m := ⟨_, rfl⟩
      have hmI : (a : Int) + (n : Int) = (m : Int) := by omega
      have hms : m ≤ s.size := by omega
      have HNB : Hid (fstS l = if (numS (l.take n) && apS (l.drop n)) = true then some ⟨2, l.take n, decV (l.take n), 0⟩ else none) := Lib.hid (by
        have : bitS l = none := by cases h : bitS l with | none => rfl | some u => have := HB.out; rw [h] at this; cases this
        rw [HF.out, this]
        show nbS l = _
        unfold nbS
        rw [hn])
      have hnp : 0 < n := by
        rw [← hn, ← HL.out, drop_at ha, run_cons, if_pos (show by8 dgS s[a] = true from HD.out)]
        omega
      obtain ⟨x4, h4⟩ : ∃ y, apS (s.data.toList.drop m) = y := ⟨_, rfl⟩
      have H4 := Lib.hid h4
      obtain ⟨xx, hxx⟩ : ∃ y, (numS (l.take n) && apS (l.drop n)) = y := ⟨_, rfl⟩
      have HALL : Hid ((l.take n).all (by8 dgS) = true) := Lib.hid (by rw [← hn]; exact run_all)
      obtain ⟨y1, g1⟩ : ∃ y, decide ((7 : Int) < (n : Int)) = y := ⟨_, rfl⟩
      obtain ⟨y2, g2⟩ : ∃ y, decide ((1 : Int) < (n : Int)) = y := ⟨_, rfl⟩
      obtain ⟨y3, g3⟩ : ∃ y, ((s[a].toNat : Int) == 48) = y := ⟨_, rfl⟩
      have HXE : Hid (xx = (!(y1 || (y2 && y3)) && x4)) := Lib.hid (by
        have e4 : l.drop n = s.data.toList.drop m := by rw [← HL.out, List.drop_drop, hm]
        have hlt : (l.take n).length = n := by rw [List.length_take]; omega
        have hhd : (l.take n).headD 0 = s[a] := by
          obtain ⟨k, rfl⟩ : ∃ k, n = k + 1 := ⟨n - 1, by omega⟩
          rw [← HL.out, drop_at ha]
          rfl
        rw [← hxx, e4, h4]
        congr 1
        rw [Bool.eq_iff_iff, num_iff, hlt, hhd, Bool.not_eq_true', Bool.or_eq_false_iff, Bool.and_eq_false_iff, ← g1, ← g2, ← g3, decide_eq_false_iff_not, decide_eq_false_iff_not, beq_eq_false_iff_ne]
        have e8 : (s[a] ≠ 48) ↔ ¬ (s[a].toNat : Int) = 48 := by
          constructor
          · intro h e
            exact h (UInt8.toNat_inj.1 (by show s[a].toNat = 48; omega))
          · intro h e
            exact h (by rw [e]; rfl)
        rw [e8]
        by_cases q : (s[a].toNat : Int) = 48
        · simp only [q, not_true, or_false, ne_eq]
          omega
        · simp only [q, not_false_eq_true, or_true, ne_eq, and_true]
          omega)
      have HXX := Lib.hid hxx
      have HM := Lib.hid hm
      have hms0 : (m : Int) ≤ (s.size : Int) := by omega
      clear hn hnl hlen hm hxx h4
      go_upto_region 8 with (go_at_call 34; refine (count_as s a false (by omega) hs n HR.out _).mono ?_; rintro en w5 ⟨rfl, b⟩)
      replace ZR := ZR.below b ZR.lt
      replace BW := Below.step BW b
      clear b zr0 zf0 zr1 zf1 zr2 zf2 zr3 zf3
      go_cut [84] (fun v wx => v = .bool (!xx) ∧ Below w5.heap.size w5 wx)
      case first =>
        cases y1
        · cases y2
          · go_wp2_with fail
            refine (ends_as s m hs x4 H4.out _).mono ?_
            rintro en w6 ⟨rfl, b⟩
            go_wp2_with fail
            go_meet
            exact ⟨by rw [HXE.out]; cases x4 <;> rfl, b⟩
          · cases y3
            · go_wp2_with fail
              refine (ends_as s m hs x4 H4.out _).mono ?_
              rintro en w6 ⟨rfl, b⟩
              go_wp2_with fail
              go_meet
              exact ⟨by rw [HXE.out]; cases x4 <;> rfl, b⟩
            · go_wp2_with fail
              go_meet
              exact ⟨by rw [HXE.out]; rfl, Below.refl _ _⟩
        · go_wp2_with fail
          go_meet
          exact ⟨by rw [HXE.out]; rfl, Below.refl _ _⟩
      case rest =>
        obtain ⟨rfl, b⟩ := hcut
        obtain ⟨w6, rfl⟩ : ∃ z, z = wc := ⟨_, rfl⟩
        replace ZR := ZR.below b ZR.lt
        replace BW := Below.step BW b
        clear b g1 g2 g3 HXE
        cases xx
        case false =>
          apply_assumption
          go_step
          obtain ⟨zr0, zf0, zr1, zf1, zr2, zf2, zr3, zf3⟩ := ZR.y8
          go_wp2_with fail
          refine bodyPost_ret (v := onV none) ?_ rfl ⟨by rw [HNB.out, HXX.out]; rfl, below_s4 BW (Nat.le_refl _)⟩
          have HV := fun a b c d => ZR.q4 a b c d
          simp [results, Tryd.results19, go_sem, HV, onV]
        case true =>
          have HNM := Lib.hid (Bool.and_eq_true_iff.1 HXX.out).1
          have hn7 : n ≤ 7 := by
            have := (num_iff.1 HNM.out).2.1
            rw [List.length_take] at this
            have := HLL.out
            have := HM.out
            omega
          apply_assumption
          go_step
          go_wp2_with fail
          obtain ⟨wo, rfl⟩ : ∃ z, z = w6 := ⟨_, rfl⟩
          go_loopw [7, 8] (fun vv iv wr => ∃ (q v : Nat), a ≤ q ∧ q ≤ m ∧ iv = .int .i64 q ∧ vv = .int .i64 v ∧ Hid (decV (l.take (q - a)) = v) ∧ Below wo.heap.size wo wr) (fun _ i _ => m - (intOf i).toNat)
          case atStart => exact ⟨a, 0, Nat.le_refl _, by have := HM.out; omega, rfl, rfl, Lib.hid (by rw [Nat.sub_self]; rfl), Below.refl _ _⟩
          case round =>
            obtain ⟨q, v, hqa, hqm, rfl, rfl, HV0, BL⟩ := hrel
            have hlq : (l.take (q - a)).length ≤ 7 := by rw [List.length_take]; have := HM.out; omega
            have hallq : (l.take (q - a)).all (by8 dgS) = true := by
              have h := HALL.out
              have hqn : q - a ≤ n := by have := HM.out; omega
              rw [List.all_eq_true] at h ⊢
              intro y hy
              exact h y (List.mem_of_mem_take (i := q - a) (by rw [List.take_take, Nat.min_eq_left hqn]; exact hy))
            have hv7 : v < 10000000 := by
              have h1 := decV_lt hallq
              rw [HV0.out] at h1
              exact Nat.lt_of_lt_of_le h1 (Nat.le_trans (Nat.pow_le_pow_right (by omega) hlq) (by decide))
            by_cases hlt : q < m
            · have hqs : q < s.size := by omega
              have hq0 : (0 : Int) ≤ (q : Int) := by omega
              have hq1 : (q : Int) < (s.size : Int) := by omega
              have hq2 : (q : Int) < (m : Int) := by omega
              have hat : l[q - a]? = some s[q] := by
                rw [← HL.out, List.getElem?_drop, show a + (q - a) = q by omega]
                exact at_list hqs
              have hdq : by8 dgS s[q] = true := by
                have h := HALL.out
                rw [List.all_eq_true] at h
                refine h _ (List.mem_of_getElem? (i := q - a) ?_)
                rw [List.getElem?_take, if_pos (by have := HM.out; omega)]
                exact hat
              obtain ⟨_, _, g1, g2⟩ := dg_is hdq
              obtain ⟨a1, ha1'⟩ : ∃ z, 10 * v = z := ⟨_, rfl⟩
              obtain ⟨b2, hb2⟩ : ∃ z, a1 + s[q].toNat = z := ⟨_, rfl⟩
              obtain ⟨n2, hn2⟩ : ∃ z, b2 - 48 = z := ⟨_, rfl⟩
              have e1 : (10 : Int) * (v : Int) = (a1 : Int) := by omega
              have e2 : (a1 : Int) + (s[q].toNat : Int) = (b2 : Int) := by omega
              have e3 : (b2 : Int) - 48 = (n2 : Int) := by omega
              have e4 : (a1 : Int) ≤ 200000000 := by omega
              have e5 : (b2 : Int) ≤ 200000000 := by omega
              have e6 : (n2 : Int) ≤ 200000000 := by omega
              have e7 : (s[q].toNat : Int) ≤ 255 := by omega
              have HV1 : Hid (decV (l.take (q + 1 - a)) = n2) := Lib.hid (by
                rw [show q + 1 - a = (q - a) + 1 by omega, List.take_add_one, hat]
                show decV (l.take (q - a) ++ [s[q]]) = n2
                rw [decV_app hallq hdq, HV0.out]
                omega)
              clear ha1' hb2 hn2 hv7 g1 g2 hat hdq hallq hlq
              go_wp2_with fail
              go_roundw
              case rel => exact ⟨q + 1, n2, by omega, by omega, by go_num, rfl, HV1, BL⟩
              case measure => simp [intOf]; omega
            · have hge : ¬ (q : Int) < (m : Int) := by omega
              have hVn : Hid (decV (l.take n) = v) := Lib.hid (by
                have := HV0.out
                rwa [show q - a = n by have := HM.out; omega] at this)
              have hsl := slice_ab s a m (by have := HM.out; omega) hms
              have hX : Hid (s.extract a m = ⟨(l.take n).toArray⟩) := Lib.hid (by rw [← HM.out, ext_take, HL.out])
              have HE : Hid (fstS l = some ⟨2, l.take n, v, 0⟩) := Lib.hid (by rw [HNB.out, HXX.out, hVn.out]; rfl)
              replace ZR := ZR.below BL ZR.lt
              have BF := Below.step BW BL
              obtain ⟨zr0, zf0, zr1, zf1, zr2, zf2, zr3, zf3⟩ := ZR.y8
              clear hallq hv7 hlq
              go_wp2_with fail
              rw [hX.out]
              refine bodyPost_ret (v := onV (some ⟨2, l.take n, v, 0⟩)) ?_ rfl ⟨by rw [HE.out], below_s4 BF (Nat.le_refl _)⟩
              have HV := fun a b c d => ZR.q4 a b c d
              simp [results, Tryd.results19, go_sem, HV, onV, tkA]
/-- ONE. -/
theorem one_as (s : ByteArray) (a : Nat) (ha : a < s.size) (hs : s.size ≤ 900000) (o : Option Tk) (ho : fstS (s.data.toList.drop a) = o) (w : World) :
    Calls Tryd.prog 19 #[.string s, .int .i64 a] w fun e w' => e = .returned (onV o) ∧ Below w.heap.size w w' := by
  subst ho
  cases h1 : bgS (s[a].toNat : Int) with
  | true => exact one_word s a ha hs h1 w
  | false =>
    cases h2 : dgS (s[a].toNat : Int) with
    | true => exact one_dig s a ha hs h2 w
    | false => exact one_other s a ha hs h1 h2 w
end Go.Proofs.YtkoacjnffbfgiaaDoor
