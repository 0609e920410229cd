
/-
  The reference of layer 24: One.
-/
import Derived.Test.YtkoacjnffbfgiaaDoorEn
namespace Go.Proofs.YtkoacjnffbfgiaaDoor
open Go.RowKit
set_option linter.unusedVariables false

theorem fst_word {c : UInt8} {r : List UInt8} (h : by8 bgS c = true) : fstS (c :: r) = some ⟨3, (c :: r).take (runS goS (c :: r)), 0, 0⟩ := by rw [fst_cons, if_pos h]
theorem fst_digit {c : UInt8} {r : List UInt8} (h : by8 dgS c = true) : fstS (c :: r) = (bitS (c :: r)).or (nbS (c :: r)) := by
  rw [fst_cons, if_neg (by rw [(dg_is h).1]; decide), if_neg (by rw [(dg_is h).2.1]; decide)]
theorem fst_sign {c : UInt8} {r : List UInt8} (h1 : by8 bgS c = false) (h : by8 sgS c = true) : fstS (c :: r) = some ⟨4, [c], 0, 0⟩ := by rw [fst_cons, if_neg (by rw [h1]; decide), if_pos h]
theorem fst_other {c : UInt8} {r : List UInt8} (h1 : by8 bgS c = false) (h2 : by8 dgS c = false) (h3 : by8 sgS c = false) : fstS (c :: r) = none := by
  rw [fst_cons, if_neg (by rw [h1]; decide), if_neg (by rw [h3]; decide)]
  have hb : bitS (c :: r) = none := by
    unfold bitS
    rw [if_neg]
    rw [Bool.and_eq_true, Bool.or_eq_true]
    rintro ⟨h, _⟩
    have : c = 49 := by
      rcases h with h | h
      · obtain ⟨q, hq⟩ := pre_ex h
        cases hq
        rfl
      · obtain ⟨q, hq⟩ := pre_ex h
        cases hq
        rfl
    subst this
    exact absurd h2 (by decide)
  have hn : nbS (c :: r) = none := by
    unfold nbS
    have h0 : runS dgS (c :: r) = 0 := by rw [run_cons, h2]; rfl
    rw [h0]
    rfl
  rw [hb, hn]
  rfl
/-- the reference's answer: of no kind, there is none. -/
def onV : Option Tk → Value
  | none => .agg #[.int .i64 0, .string ⟨#[]⟩, .int .i64 0, .int .i64 0]
  | some t => tkA t
theorem ext_take {s : ByteArray} {a n : Nat} : s.extract a (a + n) = ⟨((s.data.toList.drop a).take n).toArray⟩ := by
  rw [Lib.extract_eq, Nat.add_sub_cancel_left]
set_option maxHeartbeats 2000000 in
theorem one_word (s : ByteArray) (a : Nat) (ha : a < s.size) (hs : s.size ≤ 900000) (hc : bgS (s[a].toNat : Int) = true) (w : World) :
    Calls Tryd.prog 19 #[.string s, .int .i64 a] w fun e w' => e = .returned (onV (fstS (s.data.toList.drop a))) ∧ Below w.heap.size w w' := by
  obtain ⟨n, hn⟩ : ∃ n, runS goS (s.data.toList.drop a) = n := ⟨_, rfl⟩
  have hna : a + n ≤ s.size := by
    have := run_le (f := goS) (l := s.data.toList.drop a)
    rw [hn, List.length_drop, size_list] at this
    omega
  have HE : Hid (fstS (s.data.toList.drop a) = some ⟨3, (s.data.toList.drop a).take n, 0, 0⟩) := Lib.hid (by
    rw [← hn, drop_at ha, fst_word (show by8 bgS s[a] = true from hc)])
  have HR : Hid (runS (ctS true) (s.data.toList.drop a) = n) := Lib.hid (by rw [ct_true]; exact hn)
  have HC := Lib.hid hc
  obtain ⟨m, hm⟩ : ∃ m, a + n = m := ⟨_, rfl⟩
  have hmI : (a : Int) + (n : Int) = (m : Int) := by omega
  have hsl := slice_ab s a m (by omega) (by omega)
  have hX : Hid (s.extract a m = ⟨((s.data.toList.drop a).take n).toArray⟩) := Lib.hid (by rw [← hm]; exact ext_take)
  have ha0 : (0 : Int) ≤ (a : Int) := by omega
  have ha1 : (a : Int) < (s.size : Int) := by omega
  clear hn hm hc
  go_enter Tryd.func19, Tryd.ntmps19
  go_upto_region 1 with fail
  obtain ⟨w1, e1, ZR, BW, sw1⟩ := mk1o w [.int .i64 0, .string ⟨#[]⟩, .int .i64 0, .int .i64 0] 31
  rw [e1]
  clear e1 sw1
  go_wp2_with fail
  refine (letter_as _ true HC.out _).mono ?_
  rintro en w2 ⟨rfl, b⟩
  replace ZR := ZR.below b ZR.lt
  replace BW := Below.step BW b
  clear b
  go_wp2_with fail
  refine (count_as s a true (by omega) hs n HR.out _).mono ?_
  rintro en w3 ⟨rfl, b⟩
  replace ZR := ZR.below b ZR.lt
  replace BW := Below.step BW b
  clear b
  obtain ⟨zr0, zf0, zr1, zf1, zr2, zf2, zr3, zf3⟩ := ZR.y8
  go_wp2_with fail
  rw [hX.out]
  refine bodyPost_ret (v := onV (some ⟨3, (s.data.toList.drop a).take n, 0, 0⟩)) ?_ rfl ⟨by rw [HE.out], below_s4 BW (Nat.le_refl _)⟩
  have HV := fun a b c d => ZR.q4 a b c d
  simp [results, Tryd.results19, go_sem, HV, onV, tkA]
set_option maxHeartbeats 4000000 in
theorem one_other (s : ByteArray) (a : Nat) (ha : a < s.size) (hs : s.size ≤ 900000) (hc : bgS (s[a].toNat : Int) = false) (hd : dgS (s[a].toNat : Int) = false) (w : World) :
    Calls Tryd.prog 19 #[.string s, .int .i64 a] w fun e w' => e = .returned (onV (fstS (s.data.toList.drop a))) ∧ Below w.heap.size w w' := by
  obtain ⟨q, hq⟩ : ∃ q, (s[a].toNat : Int) = q := ⟨_, rfl⟩
  have HC := Lib.hid hc
  have HD := Lib.hid hd
  obtain ⟨m, hm⟩ : ∃ m, a + 1 = m := ⟨_, rfl⟩
  have hmI : (a : Int) + 1 = (m : Int) := by omega
  have hsl := slice_ab s a m (by omega) (by omega)
  have hX : Hid (s.extract a m = ⟨[s[a]].toArray⟩) := Lib.hid (by rw [← hm, ext_take, drop_at ha]; rfl)
  have HE : Hid (fstS (s.data.toList.drop a) = if [40, 41, 91, 93, 58, 59, 44, 63, 61].contains q = true then some ⟨4, [s[a]], 0, 0⟩ else none) := Lib.hid (by
    rw [drop_at ha]
    split
    · rename_i h
      rw [← hq] at h
      exact fst_sign hc h
    · rename_i h
      rw [← hq] at h
      exact fst_other hc hd (by rw [Bool.not_eq_true] at h; exact h))
  have ha0 : (0 : Int) ≤ (a : Int) := by omega
  have ha1 : (a : Int) < (s.size : Int) := by omega
  have HQQ := Lib.hid hq
  clear hm hc hd hq
  go_enter Tryd.func19, Tryd.ntmps19
  go_upto_region 1 with fail
  obtain ⟨w1, e1, ZR, BW, sw1⟩ := mk1o w [.int .i64 0, .string ⟨#[]⟩, .int .i64 0, .int .i64 0] 31
  rw [e1]
  clear e1 sw1
  go_wp2_with fail
  refine (letter_as _ false HC.out _).mono ?_
  rintro en w2 ⟨rfl, b⟩
  replace ZR := ZR.below b ZR.lt
  replace BW := Below.step BW b
  clear b
  go_wp2_with fail
  refine (rdigit_as _ false HD.out _).mono ?_
  rintro en w3 ⟨rfl, b⟩
  replace ZR := ZR.below b ZR.lt
  replace BW := Below.step BW b
  clear b
  obtain ⟨zr0, zf0, zr1, zf1, zr2, zf2, zr3, zf3⟩ := ZR.y8
  have HV := Lib.hid fun a b c d => ZR.q4 a b c d
  rw [HQQ.out]
  by_cases hin : [40, 41, 91, 93, 58, 59, 44, 63, 61].contains q = true
  case pos =>
    have HE2 : Hid (fstS (s.data.toList.drop a) = some ⟨4, [s[a]], 0, 0⟩) := Lib.hid (by rw [HE.out, if_pos hin])
    have hin2 : q = 40 ∨ q = 41 ∨ q = 91 ∨ q = 93 ∨ q = 58 ∨ q = 59 ∨ q = 44 ∨ q = 63 ∨ q = 61 := by simpa using hin
    clear hin HE
    rcases hin2 with rfl | rfl | rfl | rfl | rfl | rfl | rfl | rfl | rfl
    all_goals
      go_wp2_with fail
      rw [hX.out]
      refine bodyPost_ret (v := onV (some ⟨4, [s[a]], 0, 0⟩)) ?_ rfl ⟨by rw [HE2.out], below_s4 BW (Nat.le_refl _)⟩
      have HV := HV.out
      simp [results, Tryd.results19, go_sem, HV, onV, tkA]
  case neg =>
    have HE2 : Hid (fstS (s.data.toList.drop a) = none) := Lib.hid (by rw [HE.out, if_neg hin])
    have hin2 : ¬ (q = 40 ∨ q = 41 ∨ q = 91 ∨ q = 93 ∨ q = 58 ∨ q = 59 ∨ q = 44 ∨ q = 63 ∨ q = 61) := by simpa using hin
    simp only [not_or] at hin2
    obtain ⟨i1, i2, i3, i4, i5, i6, i7, i8, i9⟩ := hin2
    have j1 : (q == 40) = false := by simp [i1]
    have j2 : (q == 41) = false := by simp [i2]
    have j3 : (q == 91) = false := by simp [i3]
    have j4 : (q == 93) = false := by simp [i4]
    have j5 : (q == 58) = false := by simp [i5]
    have j6 : (q == 59) = false := by simp [i6]
    have j7 : (q == 44) = false := by simp [i7]
    have j8 : (q == 63) = false := by simp [i8]
    have j9 : (q == 61) = false := by simp [i9]
    clear hin HE
    go_wp2_with fail
    refine bodyPost_ret (v := onV none) ?_ rfl ⟨by rw [HE2.out], below_s4 BW (Nat.le_refl _)⟩
    have HV := HV.out
    simp [results, Tryd.results19, go_sem, HV, onV]
end Go.Proofs.YtkoacjnffbfgiaaDoor
