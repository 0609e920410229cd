
/-
  vlex: a number, and the first token.
-/
import Derived.Test.YtkoacjnffbfgiaaDoorEd
import Derived.Lib.SmallJoins
namespace Go.Proofs.YtkoacjnffbfgiaaDoor
open Go.RowKit
set_option linter.unusedVariables false

theorem below_drewN0 {B : Nat} {a w : World} (h : Below B a w) (n : Nat) : Below B a (w.drewN n) := ⟨h.os, h.tape, h.output, h.size, h.block⟩
set_option maxHeartbeats 1000000 in
theorem number_as (s : ByteArray) (hs : s.size ≤ 1000000) (o : Option Tk) (ho : nbS s.data.toList = o) (w : World) :
    Calls Tryd.prog 32 #[.string s] w fun e w' => e = .returned (resV o) ∧ Below w.heap.size w w' := by
  have HO := Lib.hid ho
  clear ho
  obtain ⟨n, hn⟩ : ∃ n, runS dgS s.data.toList = n := ⟨_, rfl⟩
  have hn1 : n ≤ s.size := by rw [← hn, ← size_list]; exact run_le
  obtain ⟨d, hd⟩ : ∃ d : ByteArray, s.extract 0 n = d := ⟨_, rfl⟩
  have hdl : Hid (d.data.toList = s.data.toList.take n) := Lib.hid (by rw [← hd, head_list])
  have hds : d.size = n := by rw [← size_list, hdl.out, List.length_take, size_list]; omega
  have hda : Hid ((d.data.toList).all (by8 dgS) = true) := Lib.hid (by rw [hdl.out, ← hn]; exact run_all)
  obtain ⟨x1, h1⟩ : ∃ x, numS d.data.toList = x := ⟨_, rfl⟩
  obtain ⟨x2, h2⟩ : ∃ x, apS (s.data.toList.drop n) = x := ⟨_, rfl⟩
  have HE : Hid (nbS s.data.toList = if (x1 && x2) = true then some ⟨2, d.data.toList, decV d.data.toList, 0⟩ else none) := Lib.hid (by unfold nbS; rw [hn, ← hdl.out, h1, h2])
  have H1 := Lib.hid h1
  have H2 := Lib.hid h2
  have HR := Lib.hid hn
  have HD := Lib.hid hd
  have HDS := Lib.hid hds
  clear h1 h2 hn hd hds
  have hn0 : (0 : Int) ≤ (n : Int) := by omega
  have hn2 : (n : Int) ≤ (s.size : Int) := by omega
  go_enter Tryd.func32, Tryd.ntmps32
  go_upto_region 1 with fail
  obtain ⟨w1, e1, ZR, BW, sw1⟩ := mk1o w [.int .i64 0, .string ⟨#[]⟩, .int .i64 0, .int .i64 0] 32
  rw [e1]
  clear e1 sw1
  go_wp2_with fail
  refine (runs_digit s n HR.out hs _).mono ?_
  rintro en w2 ⟨rfl, b⟩
  replace ZR := ZR.below b ZR.lt
  replace BW := Below.step BW b
  clear b
  go_upto_region 2 with fail
  rw [HD.out]
  go_wp2_with fail
  refine (isNumber_as d x1 H1.out _).mono ?_
  rintro en w3 ⟨rfl, b⟩
  replace ZR := ZR.below b ZR.lt
  replace BW := Below.step BW b
  clear b
  obtain ⟨zr0, zf0, zr1, zf1, zr2, zf2, zr3, zf3⟩ := ZR.y8
  cases x1
  · go_wp2_with fail
    refine bodyPost_ret (v := resV none) ?_ rfl ⟨by rw [← HO.out, HE.out] <;> rfl, below_s4 BW (Nat.le_refl _)⟩
    have HV := fun a b c d => ZR.q4 a b c d
    simp [results, Tryd.results32, go_sem, HV, resV]
  · have hds := HDS.out
    have hn3 : (d.size : Int) ≤ (s.size : Int) := by omega
    clear hds
    go_wp2_with fail
    refine (isApart_as _ x2 (by rw [HDS.out, tail_list]; exact H2.out) _).mono ?_
    rintro en w4 ⟨rfl, b⟩
    replace ZR := ZR.below b ZR.lt
    replace BW := Below.step BW b
    clear b zr0 zf0 zr1 zf1 zr2 zf2 zr3 zf3
    obtain ⟨zr0, zf0, zr1, zf1, zr2, zf2, zr3, zf3⟩ := ZR.y8
    cases x2
    · go_wp2_with fail
      refine bodyPost_ret (v := resV none) ?_ rfl ⟨by rw [← HO.out, HE.out] <;> rfl, below_s4 BW (Nat.le_refl _)⟩
      have HV := fun a b c d => ZR.q4 a b c d
      simp [results, Tryd.results32, go_sem, HV, resV]
    · have hnum := num_iff.1 H1.out
      rw [size_list] at hnum
      obtain ⟨hpos, h7, _⟩ := hnum
      go_wp2_with fail
      refine (Tryd.strconv_Atoi d (decV d.data.toList : Int) (by omega) (atoi_num hda.out (by rw [size_list]; exact hpos)) _).mono ?_
      rintro en w5 ⟨rfl, t, hw5⟩
      have b : Below w4.heap.size w4 w5 := by rw [hw5]; exact Go.Joins.below_bytesWorld _ _ _ _ (Nat.le_refl _)
      clear hw5
      replace ZR := ZR.below b ZR.lt
      replace BW := Below.step BW b
      clear b zr0 zf0 zr1 zf1 zr2 zf2 zr3 zf3 hpos h7
      obtain ⟨zr0, zf0, zr1, zf1, zr2, zf2, zr3, zf3⟩ := ZR.y8
      go_wp2_with fail
      refine bodyPost_ret (v := resV (some ⟨2, d.data.toList, decV d.data.toList, 0⟩)) ?_ rfl ⟨by rw [← HO.out, HE.out] <;> rfl, below_s4 BW (Nat.le_refl _)⟩
      have HV := fun a b c d => ZR.q4 a b c d
      simp [results, Tryd.results32, go_sem, HV, resV, tkA]
set_option maxHeartbeats 1000000 in
theorem first_as (s : ByteArray) (hp : 0 < s.size) (hs : s.size ≤ 1000000) (o : Option Tk) (ho : fstS s.data.toList = o) (w : World) :
    Calls Tryd.prog 18 #[.string s] w fun e w' => e = .returned (resV o) ∧ Below w.heap.size w w' := by
  have HO := Lib.hid ho
  clear ho
  obtain ⟨r, hr⟩ := list_cons hp
  obtain ⟨x1, h1⟩ : ∃ x, bgS (s[0].toNat : Int) = x := ⟨_, rfl⟩
  obtain ⟨x2, h2⟩ : ∃ x, decide (0 ≤ Lib.indexByte [40, 41, 91, 93, 58, 59, 44, 63, 61] ((s[0].toNat : Int).toNat.toUInt8)) = x := ⟨_, rfl⟩
  obtain ⟨o3, h3⟩ : ∃ x, bitS s.data.toList = x := ⟨_, rfl⟩
  obtain ⟨o4, h4⟩ : ∃ x, nbS s.data.toList = x := ⟨_, rfl⟩
  obtain ⟨n, hn⟩ : ∃ n, runS goS s.data.toList = n := ⟨_, rfl⟩
  have hn1 : n ≤ s.size := by rw [← hn, ← size_list]; exact run_le
  have HE : Hid (fstS s.data.toList = if x1 = true then some ⟨3, s.data.toList.take n, 0, 0⟩ else if x2 = true then some ⟨4, s.data.toList.take 1, 0, 0⟩ else o3.or o4) := Lib.hid (by
    rw [← hn, ← h3, ← h4, hr, fst_cons, show by8 bgS s[0] = x1 from h1, show by8 sgS s[0] = x2 by
      rw [← h2, show (s[0].toNat : Int).toNat.toUInt8 = s[0] by simp]
      exact sg_index _]
    rfl)
  have H1 := Lib.hid h1
  have H2 := Lib.hid h2
  have H3 := Lib.hid h3
  have H4 := Lib.hid h4
  have HR := Lib.hid hn
  clear h1 h2 h3 h4 hn hr r
  have hn0 : (0 : Int) ≤ (n : Int) := by omega
  have hn2 : (n : Int) ≤ (s.size : Int) := by omega
  have hp0 : (0 : Int) < (s.size : Int) := by omega
  have hp1 : (1 : Int) ≤ (s.size : Int) := by omega
  go_enter Tryd.func18, Tryd.ntmps18
  go_upto_region 1 with fail
  obtain ⟨w1, e1, ZR, BW, sw1⟩ := mk1o w [.int .i64 0, .string ⟨#[]⟩, .int .i64 0, .int .i64 0] 32
  rw [e1]
  clear e1 sw1
  go_wp2_with fail
  refine (begins_as _ x1 H1.out _).mono ?_
  rintro en w2 ⟨rfl, b⟩
  replace ZR := ZR.below b ZR.lt
  replace BW := Below.step BW b
  clear b
  cases x1
  case true =>
    go_wp2_with fail
    refine (runs_go s n HR.out hs _).mono ?_
    rintro en w3 ⟨rfl, b⟩
    replace ZR := ZR.below b ZR.lt
    replace BW := Below.step BW b
    clear b
    obtain ⟨zr0, zf0, zr1, zf1, zr2, zf2, zr3, zf3⟩ := ZR.y8
    go_wp2_with fail
    rw [str_take]
    refine bodyPost_ret (v := resV (some ⟨3, s.data.toList.take n, 0, 0⟩)) ?_ rfl ⟨by rw [← HO.out, HE.out] <;> rfl, below_s4 BW (Nat.le_refl _)⟩
    have HV := fun a b c d => ZR.q4 a b c d
    simp [results, Tryd.results18, go_sem, HV, resV, tkA]
  go_wp2_with fail
  refine (Tryd.strings_IndexByte _ _ _).mono ?_
  rintro en w3 ⟨rfl, rfl⟩
  obtain ⟨q, hq⟩ : ∃ q, Lib.indexByte ({ data := #[40, 41, 91, 93, 58, 59, 44, 63, 61] } : ByteArray).data.toList ((s[0].toNat : Int).toNat.toUInt8) = q := ⟨_, rfl⟩
  have hx2 : decide (0 ≤ q) = x2 := by rw [← hq]; exact H2.out
  rw [hq]
  clear H2 hq
  cases x2
  case true =>
    have hq0 : 0 ≤ q := of_decide_eq_true hx2
    obtain ⟨zr0, zf0, zr1, zf1, zr2, zf2, zr3, zf3⟩ := ZR.y8
    go_wp2_with fail
    rw [str_take]
    refine bodyPost_ret (v := resV (some ⟨4, s.data.toList.take 1, 0, 0⟩)) ?_ rfl ⟨by rw [← HO.out, HE.out] <;> rfl, below_s4 BW (Nat.le_refl _)⟩
    have HV := fun a b c d => ZR.q4 a b c d
    simp [results, Tryd.results18, go_sem, HV, resV, tkA]
  have hq0 : ¬ 0 ≤ q := of_decide_eq_false hx2
  go_wp2_with fail
  refine (bit_as s o3 H3.out _).mono ?_
  rintro en w4 ⟨rfl, b⟩
  replace ZR := ZR.below b ZR.lt
  replace BW := Below.step BW b
  clear b
  cases o3 with
  | none =>
    dsimp only [resV]
    go_upto_region 7 with fail
    obtain ⟨w5, e5, b5, sw5⟩ : ∃ w', w4.alloc (.cells #[.int .i64 0, .string ⟨#[]⟩, .int .i64 0, .int .i64 0] 32) = w' ∧ Below w4.heap.size w4 w' ∧ w'.heap.size = w4.heap.size + 1 := ⟨_, rfl, (Below.refl _ _).alloc (Nat.le_refl _) _, by simp⟩
    rw [e5]
    clear e5 sw5
    replace ZR := ZR.below b5 ZR.lt
    replace BW := Below.step BW b5
    clear b5
    go_wp2_with fail
    refine (number_as s hs o4 H4.out _).mono ?_
    rintro en w6 ⟨rfl, b⟩
    replace ZR := ZR.below b ZR.lt
    replace BW := Below.step BW b
    clear b
    obtain ⟨zr0, zf0, zr1, zf1, zr2, zf2, zr3, zf3⟩ := ZR.y8
    cases o4
    all_goals
      dsimp only [resV, tkA]
      go_wp2_with fail
      refine bodyPost_ret (v := resV _) ?_ rfl ⟨by rw [← HO.out, HE.out] <;> rfl, below_s4 BW (Nat.le_refl _)⟩
      have HV := fun a b c d => ZR.q4 a b c d
      simp [results, Tryd.results18, go_sem, HV, resV, tkA]
  | some u =>
    dsimp only [resV, tkA]
    go_upto_region 7 with fail
    obtain ⟨w5, e5, ZU, b5, sw5⟩ := mk1o w4 [.int .i64 (u.k : Int), .string ⟨u.t.toArray⟩, .int .i64 (u.v : Int), .int .i64 (u.l : Int)] 32
    rw [e5]
    clear e5 sw5
    replace ZR := ZR.below b5 ZR.lt
    replace BW := Below.step BW b5
    clear b5
    obtain ⟨zr0, zf0, zr1, zf1, zr2, zf2, zr3, zf3⟩ := ZR.y8
    obtain ⟨zu0, zg0, zu1, zg1, zu2, zg2, zu3, zg3⟩ := ZU.y8
    go_wp2_with fail
    refine bodyPost_ret (v := resV (some u)) ?_ rfl ⟨by rw [← HO.out, HE.out] <;> rfl, below_s4 BW (Nat.le_refl _)⟩
    have HV := fun a b c d => ZR.q4 a b c d
    simp [results, Tryd.results18, go_sem, HV, resV, tkA]
end Go.Proofs.YtkoacjnffbfgiaaDoor
