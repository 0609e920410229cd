/-
  BuildWords returns true for every four bytes, every two numbers and every bool, and its arguments read afterwards as before. No condition.
  Layer 8: the walk of BuildWords.
  Layer 8: BuildWords over any arguments.
-/
import Derived.Test.YtcfmgoilncninaaQB
import Derived.Test.YtcfmgoilncninaaJB
import Derived.Test.YtcfmgoilncninaaHL
import Derived.Test.YtcfmgoilncninaaRows
import Derived.WalkKit
import Derived.ProofKit
import Derived.OpenShut
import Derived.ShutString
import Derived.ChangeOld
import Derived.SizedLaws
import Derived.Below
namespace Go.Proofs.Ytcfmgoilncninaa
open Go.RowKit
set_option linter.unusedVariables false
set_option maxRecDepth 4000


theorem each8_at {A1 A2 : Option Addr} {n1 c1 n2 c2 x y : Nat} {w : World} {K k M : Int} {m : Nat} (hK : K = k) (hM : M = (m : Int)) (h1 : BR w A1 n1 c1 x) (h2 : BR w A2 n2 c2 y) (s1 : n1 ≤ 1000000) (s2 : n2 ≤ 1000000) (hm : m ≤ 100000) :
    Calls Try.prog 26 #[.int .i64 K, .slice A1 n1 c1, .slice A2 n2 c2, .int .i64 M] w (BitsPost w (opG k x y % 2 ^ m)) := by
  subst hK hM
  exact each8_as h1 h2 s1 s2 _ m hm
theorem is8_true {A1 A2 : Option Addr} {n1 c1 n2 c2 x y : Nat} {w : World} (h1 : Res w A1 n1 x) (h2 : BR w A2 n2 c2 y) (s1 : n1 ≤ 1000000) (s2 : n2 ≤ 1000000) (h : x = y) :
    Calls Try.prog 25 #[.slice A1 n1 c1, .slice A2 n2 c2] w fun en w' => en = .returned (.bool true) ∧ Below w.heap.size w w' := by
  refine (is8_as h1 h2 s1 s2).mono ?_
  rintro en w' ⟨rfl, b⟩
  exact ⟨by rw [decide_eq_true h], b⟩
/-- five numbers, as they lie. -/
theorem open5 {t : TypeId} {w : World} {A : Option Addr} {x0 x1 x2 x3 x4 : Nat} (h : NuT t w A 5 [x0, x1, x2, x3, x4]) : ∃ b o, A = some ⟨b, o, none⟩ ∧
    (∃ B m c, Cl w b o (.slice B m c) ∧ ResT w B m x0 ∧ m ≤ 3200) ∧ (∃ B m c, Cl w b (o + 1) (.slice B m c) ∧ ResT w B m x1 ∧ m ≤ 3200) ∧ (∃ B m c, Cl w b (o + 2) (.slice B m c) ∧ ResT w B m x2 ∧ m ≤ 3200) ∧ (∃ B m c, Cl w b (o + 3) (.slice B m c) ∧ ResT w B m x3 ∧ m ≤ 3200) ∧ (∃ B m c, Cl w b (o + 4) (.slice B m c) ∧ ResT w B m x4 ∧ m ≤ 3200) := by
  obtain ⟨rs, h1, h2, h3⟩ := h
  obtain ⟨r0, r1, r2, r3, r4, rfl⟩ : ∃ r0 r1 r2 r3 r4, rs = [r0, r1, r2, r3, r4] := by
    have hl : rs.length = 5 := by have := congrArg List.length h2; simpa using this
    match rs, hl with
    | [r0, r1, r2, r3, r4], _ => exact ⟨r0, r1, r2, r3, r4, rfl⟩
  obtain ⟨b, o, e, hb, _⟩ := h1.1.2 0 _ rfl
  subst e
  simp only [List.map_cons, List.map_nil, List.cons.injEq, and_true] at h2
  obtain ⟨e0, e1, e2, e3, e4⟩ := h2
  refine ⟨b, o, rfl, ⟨r0.A, r0.m, r0.c, ⟨hb, h1.c0⟩, ?_, ?_⟩, ⟨r1.A, r1.m, r1.c, ⟨hb, h1.c1⟩, ?_, ?_⟩, ⟨r2.A, r2.m, r2.c, ⟨hb, h1.c2⟩, ?_, ?_⟩, ⟨r3.A, r3.m, r3.c, ⟨hb, h1.c3⟩, ?_, ?_⟩, ⟨r4.A, r4.m, r4.c, ⟨hb, h1.cellk (k := 4) rfl⟩, ?_, ?_⟩⟩
  · rw [← e0]; exact (h3 r0 (by simp)).1
  · exact (h3 r0 (by simp)).2.1
  · rw [← e1]; exact (h3 r1 (by simp)).1
  · exact (h3 r1 (by simp)).2.1
  · rw [← e2]; exact (h3 r2 (by simp)).1
  · exact (h3 r2 (by simp)).2.1
  · rw [← e3]; exact (h3 r3 (by simp)).1
  · exact (h3 r3 (by simp)).2.1
  · rw [← e4]; exact (h3 r4 (by simp)).1
  · exact (h3 r4 (by simp)).2.1
theorem ones_val (n : Nat) : bval (List.replicate n true) = 2 ^ n - 1 := by
  induction n with
  | zero => rfl
  | succ n ih =>
    rw [List.replicate_succ]
    unfold bval
    rw [ih, Nat.pow_succ]
    have := Nat.two_pow_pos n
    simp
    omega
theorem ones_bc (n : Nat) : BC (List.replicate n true) := BC.of_low fun h => by
  rw [ones_val, List.length_replicate] at *
  obtain ⟨k, rfl⟩ : ∃ k, n = k + 1 := ⟨n - 1, by omega⟩
  have := Nat.two_pow_pos k
  rw [Nat.pow_succ, Nat.add_sub_cancel]
  omega
theorem len0 {α : Type} {L : List α} (h : 0 < L.length) : decide (L ≠ []) = true := decide_eq_true fun e => by rw [e] at h; exact absurd h (by simp)
theorem ix5_0 (A0 A1 A2 A3 A4 : Option Addr) (n0 c0 n1 c1 n2 c2 n3 c3 n4 c4 : Nat) (w : World) : (Instr.index 34 (.agg #[.slice A0 n0 c0, .slice A1 n1 c1, .slice A2 n2 c2, .slice A3 n3 c3, .slice A4 n4 c4]) (.int .i64 0)).run Try.prog w = .ok (.slice A0 n0 c0) w := by kernel_rfl
theorem ix5_1 (A0 A1 A2 A3 A4 : Option Addr) (n0 c0 n1 c1 n2 c2 n3 c3 n4 c4 : Nat) (w : World) : (Instr.index 34 (.agg #[.slice A0 n0 c0, .slice A1 n1 c1, .slice A2 n2 c2, .slice A3 n3 c3, .slice A4 n4 c4]) (.int .i64 1)).run Try.prog w = .ok (.slice A1 n1 c1) w := by kernel_rfl
theorem ix5_2 (A0 A1 A2 A3 A4 : Option Addr) (n0 c0 n1 c1 n2 c2 n3 c3 n4 c4 : Nat) (w : World) : (Instr.index 34 (.agg #[.slice A0 n0 c0, .slice A1 n1 c1, .slice A2 n2 c2, .slice A3 n3 c3, .slice A4 n4 c4]) (.int .i64 2)).run Try.prog w = .ok (.slice A2 n2 c2) w := by kernel_rfl
theorem ix5_3 (A0 A1 A2 A3 A4 : Option Addr) (n0 c0 n1 c1 n2 c2 n3 c3 n4 c4 : Nat) (w : World) : (Instr.index 34 (.agg #[.slice A0 n0 c0, .slice A1 n1 c1, .slice A2 n2 c2, .slice A3 n3 c3, .slice A4 n4 c4]) (.int .i64 3)).run Try.prog w = .ok (.slice A3 n3 c3) w := by kernel_rfl
theorem ix5_4 (A0 A1 A2 A3 A4 : Option Addr) (n0 c0 n1 c1 n2 c2 n3 c3 n4 c4 : Nat) (w : World) : (Instr.index 34 (.agg #[.slice A0 n0 c0, .slice A1 n1 c1, .slice A2 n2 c2, .slice A3 n3 c3, .slice A4 n4 c4]) (.int .i64 4)).run Try.prog w = .ok (.slice A4 n4 c4) w := by kernel_rfl
/-- what goes out. -/
def OW (a b c d e : List Int) : List Pt := [⟨⟨#[122]⟩, a⟩, ⟨⟨#[122]⟩, b⟩, ⟨⟨#[122]⟩, c⟩, ⟨⟨#[122]⟩, d⟩, ⟨⟨#[122]⟩, e⟩]
set_option maxRecDepth 20000 in
set_option maxHeartbeats 16000000 in
theorem buildWords_as {w : World} (wide wider kind wto : Nat) (hwi : wide ≤ 255) (hwr : wider ≤ 255) (hki : kind ≤ 255) (hto : wto ≤ 255) {A1 : Option Addr} {k1 c1 x : Nat} (hx : Arg w A1 k1 c1 x) (hk1 : k1 ≤ 140737488351232) {A2 : Option Addr} {k2 c2 y : Nat} (hy : Arg w A2 k2 c2 y) (hk2 : k2 ≤ 140737488351232) (c : Bool) :
    Calls Try.prog 3 #[.int .u8 wide, .int .u8 wider, .int .u8 kind, .int .u8 wto, .slice A1 k1 c1, .slice A2 k2 c2, .bool c] w fun en w' => en = .returned (.bool true) ∧ Below w.heap.size w w' := by
  obtain ⟨n, hn, hn40⟩ : ∃ n : Nat, (wide : Int) % 40 = (n : Int) ∧ n < 40 := ⟨wide % 40, by omega, by omega⟩
  obtain ⟨m, hm, hm40⟩ : ∃ n : Nat, (wider : Int) % 40 = (n : Int) ∧ n < 40 := ⟨wider % 40, by omega, by omega⟩
  obtain ⟨kd, hkd⟩ : ∃ kd : Int, (kind : Int) % 8 = kd := ⟨_, rfl⟩
  obtain ⟨d, hd, hd50⟩ : ∃ n : Nat, (wto : Int) % 50 = (n : Int) ∧ n < 50 := ⟨wto % 50, by omega, by omega⟩
  have HN := Lib.hid hn
  have HM := Lib.hid hm
  have HKD := Lib.hid hkd
  have HD := Lib.hid hd
  have HX := Lib.hid hx
  have HY := Lib.hid hy
  clear hn hm hkd hd hx hy
  go_enter Try.func3, Try.ntmps3
  go_wp2_with fail
  refine (awake8_any _).mono ?_
  rintro en w1 ⟨rfl, b1⟩
  by_cases h1 : 20 < k1
  · have i1 : (20 : Int) < (k1 : Int) := by omega
    go_wp2_with fail
    go_ret
    exact ⟨rfl, b1⟩
  have i1 : ¬ (20 : Int) < (k1 : Int) := by omega
  by_cases h2 : 20 < k2
  · have i2 : (20 : Int) < (k2 : Int) := by omega
    go_wp2_with fail
    go_ret
    exact ⟨rfl, b1⟩
  have i2 : ¬ (20 : Int) < (k2 : Int) := by omega
  have B1 := Lib.hid b1
  have W1 := b1.size
  clear b1 h1 h2
  go_wp2_with fail
  rw [HN.out, HM.out]
  refine (words8_as n m (by omega) (by omega)).mono ?_
  rintro en w2 ⟨p, top, P1, d1, P2, d2, rfl, h2, wp2, sp2, wq2, sq2, b2⟩
  have hg0 := N3_ins (n + 1) (m + 1) 1
  have hl0 := N3_len (n + 1) (m + 1) 1
  obtain ⟨N0, hN0⟩ : ∃ N0, N3 (n + 1) (m + 1) 1 = N0 := ⟨_, rfl⟩
  obtain ⟨I, hI⟩ : ∃ I, I3 (n + 1) (m + 1) 1 ⟨#[120]⟩ ⟨#[121]⟩ ⟨#[99]⟩ = I := ⟨_, rfl⟩
  rw [hN0] at hg0 hl0 h2
  rw [hI] at h2
  have HI := Lib.hid hI
  have HG0 := Lib.hid hg0
  have HL0 := Lib.hid hl0
  have HN0 := Lib.hid hN0
  have HPW : Hid (PW N0.length (plc 0 n) ∧ PW N0.length (plc (n + 1) m) ∧ Pq N0.length ((n + 1 + (m + 1) : Nat) : Int)) := Lib.hid ⟨fun q hq => (plc_pw 0 n q hq).le (by omega), fun q hq => (plc_pw (n + 1) m q hq).le (by omega), Pq.nat (by omega)⟩
  have B2 := Lib.hid (Below.step B1.out b2)
  obtain ⟨cc, hcc⟩ : ∃ cc : Int, ((n + 1 + (m + 1) : Nat) : Int) = cc := ⟨_, rfl⟩
  rw [hcc] at HPW ⊢
  have HCC := Lib.hid hcc
  have hl80 : N0.length ≤ 82 := by omega
  obtain ⟨l, hl⟩ : ∃ l, max n m = l := ⟨_, rfl⟩
  have hlb : l ≤ 40 := by omega
  have HL := Lib.hid hl
  have HMX : Hid (max (n : Int) (m : Int) = (l : Int)) := Lib.hid (by omega)
  have hs2 : w1.heap.size ≤ w1.heap.size := Nat.le_refl _
  clear hN0 hI hg0 hl0 hcc hl b2
  go_wp2_with fail
  rw [HKD.out]
  refine (eachB_as h2 HG0.out.1 kd wp2 sp2 HPW.out.1 wq2 sq2 HPW.out.2.1 l HL.out (by omega) (by omega)).mono ?_
  rintro en w3 ⟨E3, e3, Z3, N3, rfl, g3, s3, l3, h3, f3, y3, m3, q3, v3⟩
  have wp3 := wp2.tk f3.int
  have wq3 := wq2.tk f3.int
  have G3 := Lib.hid (g3.wo l3)
  have Y3 := Lib.hid y3
  have V3 := Lib.hid v3
  have Q3 := Lib.hid q3
  have F3 := Lib.hid f3
  have L3 := Lib.hid l3
  have hn3 : N3.length ≤ 82 + 3 * l := by omega
  clear g3 y3 v3 q3 f3 wp2 wq2 h2 l3 m3
  go_wp2_with fail
  refine (nots_as h3 Y3.out.gd wp3 sp2 (Y3.out.pw HPW.out.1) (by omega) (by omega)).mono ?_
  rintro en w4 ⟨E4, e4, Z4, N4, rfl, g4, s4, l4, h4, f4, y4, m4, q4, v4⟩
  have wp4 := wp3.tk f4.int
  have wq4 := wq3.tk f4.int
  have G4 := Lib.hid (g4.wo l4)
  have Y4 := Lib.hid y4
  have YY4 := Lib.hid (Y3.out.trans y4)
  have V4 := Lib.hid v4
  have Q4 := Lib.hid q4
  have F4 := Lib.hid f4
  have L4 := Lib.hid l4
  have hn4 : N4.length ≤ 82 + 3 * l + n := by omega
  clear g4 y4 v4 q4 f4 wp3 wq3 h3 l4 m4
  go_wp2_with fail
  refine (pick_as h4 YY4.out.gd wp4 sp2 (YY4.out.pw HPW.out.1) wq4 sq2 (YY4.out.pw HPW.out.2.1) (YY4.out.pq HPW.out.2.2) l HL.out (by omega) (by omega)).mono ?_
  rintro en w5 ⟨E5, e5, Z5, N5, rfl, g5, s5, l5, h5, f5, y5, m5, q5, v5⟩
  have wp5 := wp4.tk f5.int
  have G5 := Lib.hid (g5.wo l5)
  have Y5 := Lib.hid y5
  have YY5 := Lib.hid (YY4.out.trans y5)
  have V5 := Lib.hid v5
  have Q5 := Lib.hid q5
  have F5 := Lib.hid f5
  have L5 := Lib.hid l5
  have hn5 : N5.length ≤ 82 + 6 * l + n := by omega
  clear g5 y5 v5 q5 f5 wp4 wq4 h4 l5 m5
  go_wp2_with fail
  rw [HD.out]
  refine (pad_as h5 YY5.out.gd wp5 sp2 (YY5.out.pw HPW.out.1) d (by omega) (by omega) (by omega)).mono ?_
  rintro en w6 ⟨E6, e6, Z6, N6, rfl, g6, s6, l6, h6, f6, y6, m6, q6, v6⟩
  have G6 := Lib.hid (g6.wo l6)
  have Y6 := Lib.hid y6
  have YY6 := Lib.hid (YY5.out.trans y6)
  have V6 := Lib.hid v6
  have Q6 := Lib.hid q6
  have F6 := Lib.hid f6
  have L6 := Lib.hid l6
  have hn6 : N6.length ≤ 82 + 6 * l + n + d := by omega
  have B6 := Lib.hid (B2.out.trans ((F3.out.trans (F4.out.trans (F5.out.trans F6.out))).bw.mono W1))
  clear g6 y6 v6 q6 f6 wp5 h5 l6 m6
  go_wp2_with fail
  refine (word_b h6 (x := x) (fun w' f => HX.out.on (B6.out.trans (f.bw.mono W1))) d (by omega) (by omega)).mono ?_
  rintro en w7 ⟨E7, e7, rfl, g7, s7, h7, f7⟩
  obtain ⟨y7, q7⟩ := lay_word YY6.out.gd x d
  have G7 := Lib.hid g7
  have Y7 := Lib.hid y7
  have YY7 := Lib.hid (YY6.out.trans y7)
  have Q7 := Lib.hid q7
  have F7 := Lib.hid f7
  have hn7 : (N6 ++ wordN x d).length ≤ 82 + 6 * l + n + d + d := by rw [List.length_append, wordN_len]; omega
  have B7 := Lib.hid (B6.out.trans (f7.bw.mono W1))
  obtain ⟨N7, hN7⟩ : ∃ N7, N6 ++ wordN x d = N7 := ⟨_, rfl⟩
  rw [hN7] at hn7 h7 Y7 YY7 Q7
  clear g7 y7 q7 f7 h6 hN7
  have x1 : ((l : Int) != max (n : Int) (m : Int)) = false := by rw [HMX.out]; simp
  go_wp2_with fail
  have F0 := Lib.hid (BF.refl w1.heap.size p w7)
  have H0 := Lib.hid h7
  go_loopw [128] (fun iv wr => ∃ (j topj : Nat), j ≤ 5 ∧ iv = .int .i64 j ∧ Hid (Bd wr w1.heap.size topj p N7 I ((OW Z3 Z4 Z5 Z6 (plc N6.length d)).take j)) ∧ Hid (BF w1.heap.size p w7 wr)) (fun iv _ => 5 - (intOf iv).toNat)
  case atStart => exact ⟨0, top, by omega, rfl, H0, F0⟩
  case round =>
    clear H0 F0 h7
    obtain ⟨j, topj, hj, rfl, HB, HF⟩ := hrel
    obtain ⟨wo, rfl⟩ : ∃ x, x = wr := ⟨_, rfl⟩
    rcases (show j = 0 ∨ j = 1 ∨ j = 2 ∨ j = 3 ∨ j = 4 ∨ j = 5 by omega) with rfl | rfl | rfl | rfl | rfl | rfl
    · have hw := (((((G3.out.tk F4.out.int).tk F5.out.int).tk F6.out.int).tk F7.out.int).tk HF.out.int).is
      have ix := ix5_0 E3 E4 E5 E6 E7 l e3 n e4 l e5 d e6 d e7
      go_wp2_with fail
      refine (out_as HB.out (by rw [List.length_take]; omega) _ hw s3 (by omega)).mono ?_
      rintro en w9 ⟨⟨u, rfl⟩, top9, ht9, h9, f9⟩
      have H9 := Lib.hid h9
      have F9 := Lib.hid (HF.out.trans f9)
      clear h9 f9 hw
      go_wp2_with fail
      go_roundw
      case rel => exact ⟨1, top9, by omega, rfl, H9, F9⟩
      case measure => simp [intOf]
    · have hw := ((((G4.out.tk F5.out.int).tk F6.out.int).tk F7.out.int).tk HF.out.int).is
      have ix := ix5_1 E3 E4 E5 E6 E7 l e3 n e4 l e5 d e6 d e7
      go_wp2_with fail
      refine (out_as HB.out (by rw [List.length_take]; omega) _ hw s4 (by omega)).mono ?_
      rintro en w9 ⟨⟨u, rfl⟩, top9, ht9, h9, f9⟩
      have H9 := Lib.hid h9
      have F9 := Lib.hid (HF.out.trans f9)
      clear h9 f9 hw
      go_wp2_with fail
      go_roundw
      case rel => exact ⟨2, top9, by omega, rfl, H9, F9⟩
      case measure => simp [intOf]
    · have hw := (((G5.out.tk F6.out.int).tk F7.out.int).tk HF.out.int).is
      have ix := ix5_2 E3 E4 E5 E6 E7 l e3 n e4 l e5 d e6 d e7
      go_wp2_with fail
      refine (out_as HB.out (by rw [List.length_take]; omega) _ hw s5 (by omega)).mono ?_
      rintro en w9 ⟨⟨u, rfl⟩, top9, ht9, h9, f9⟩
      have H9 := Lib.hid h9
      have F9 := Lib.hid (HF.out.trans f9)
      clear h9 f9 hw
      go_wp2_with fail
      go_roundw
      case rel => exact ⟨3, top9, by omega, rfl, H9, F9⟩
      case measure => simp [intOf]
    · have hw := ((G6.out.tk F7.out.int).tk HF.out.int).is
      have ix := ix5_3 E3 E4 E5 E6 E7 l e3 n e4 l e5 d e6 d e7
      go_wp2_with fail
      refine (out_as HB.out (by rw [List.length_take]; omega) _ hw s6 (by omega)).mono ?_
      rintro en w9 ⟨⟨u, rfl⟩, top9, ht9, h9, f9⟩
      have H9 := Lib.hid h9
      have F9 := Lib.hid (HF.out.trans f9)
      clear h9 f9 hw
      go_wp2_with fail
      go_roundw
      case rel => exact ⟨4, top9, by omega, rfl, H9, F9⟩
      case measure => simp [intOf]
    · have hw := (G7.out.tk HF.out.int).is
      have ix := ix5_4 E3 E4 E5 E6 E7 l e3 n e4 l e5 d e6 d e7
      go_wp2_with fail
      refine (out_as HB.out (by rw [List.length_take]; omega) _ hw s7 (by omega)).mono ?_
      rintro en w9 ⟨⟨u, rfl⟩, top9, ht9, h9, f9⟩
      have H9 := Lib.hid h9
      have F9 := Lib.hid (HF.out.trans f9)
      clear h9 f9 hw
      go_wp2_with fail
      go_roundw
      case rel => exact ⟨5, top9, by omega, rfl, H9, F9⟩
      case measure => simp [intOf]
    · have hB : Bd wo w1.heap.size topj p N7 I (OW Z3 Z4 Z5 Z6 (plc N6.length d)) := HB.out
      have X9 := HX.out.on (B7.out.trans (HF.out.bw.mono W1))
      have Y9 := HY.out.on (B7.out.trans (HF.out.bw.mono W1))
      have B9 := Lib.hid (B7.out.trans (HF.out.bw.mono W1))
      have hOall : ∀ q ∈ OW Z3 Z4 Z5 Z6 (plc N6.length d), q.bits.length ≤ 1000 ∧ PW N7.length q.bits := by
        intro q hq
        unfold OW at hq
        simp only [List.mem_cons, List.not_mem_nil, or_false] at hq
        rcases hq with rfl | rfl | rfl | rfl | rfl
        · exact ⟨by show Z3.length ≤ _; rw [L3.out]; omega, (((Y4.out.trans Y5.out).trans Y6.out).trans Y7.out).pw Q3.out⟩
        · exact ⟨by show Z4.length ≤ _; rw [L4.out]; omega, ((Y5.out.trans Y6.out).trans Y7.out).pw Q4.out⟩
        · exact ⟨by show Z5.length ≤ _; rw [L5.out]; omega, (Y6.out.trans Y7.out).pw Q5.out⟩
        · exact ⟨by show Z6.length ≤ _; rw [L6.out]; omega, Y7.out.pw Q6.out⟩
        · exact ⟨by show (plc N6.length d).length ≤ _; rw [plc_len]; omega, Q7.out.pw⟩
      have HOA := Lib.hid hOall
      have hk7 : Lays (Go.Proofs.Ytcfmgoilncninaa.N3 (n + 1) (m + 1) 1) N7 := by rw [HN0.out]; exact YY7.out
      rw [← HI.out] at hB
      clear hOall
      go_wp2_with fail
      refine (eval8_as n m (by omega) (by omega) _ _ _ hB hk7 (by omega) rfl (by show (5 : Nat) ≤ 100; omega) HOA.out X9 (by omega) Y9 (by omega) c).mono ?_
      rintro en wE ⟨bE, hE⟩
      have BE := Lib.hid (Below.step B9.out bE)
      have HOKE : Hid (((OW Z3 Z4 Z5 Z6 (plc N6.length d)).all fun q => decide (q.bits ≠ [])) = (decide (Z3 ≠ []) && (decide (Z4 ≠ []) && (decide (Z5 ≠ []) && (decide (Z6 ≠ []) && (decide (plc N6.length d ≠ []) && true)))))) := Lib.hid rfl
      by_cases hz : n = 0 ∨ d = 0
      · have hokf : ((OW Z3 Z4 Z5 Z6 (plc N6.length d)).all fun q => decide (q.bits ≠ [])) = false := by
          rw [HOKE.out]
          rcases hz with h | h
          · rw [decide_eq_false (p := Z4 ≠ []) (fun k => k (List.eq_nil_of_length_eq_zero (by rw [L4.out]; exact h)))]
            simp
          · rw [decide_eq_false (p := Z6 ≠ []) (fun k => k (List.eq_nil_of_length_eq_zero (by rw [L6.out]; exact h)))]
            simp
        rw [hokf] at hE
        have hE : en = .returned (.tuple #[.slice none 0 0, .bool false]) := hE
        subst hE
        have hc : (max (n : Int) (m : Int) = 0) ∨ (¬ max (n : Int) (m : Int) = 0 ∧ n = 0) ∨ (¬ max (n : Int) (m : Int) = 0 ∧ ¬ n = 0 ∧ d = 0) := by omega
        have HZ := Lib.hid hz
        clear hz hokf hB hk7 X9 Y9 bE
        rcases hc with h | ⟨h, h2⟩ | ⟨h, h2, h3⟩
        · have t1 : (max (n : Int) (m : Int) == 0) = true := by simp [h]
          clear h
          go_wp2_with fail
          go_ret
          exact ⟨rfl, BE.out⟩
        · have t1 : (max (n : Int) (m : Int) == 0) = false := by simp [h]
          have t2 : ((n : Int) == 0) = true := by simp [h2]
          clear h h2
          go_wp2_with fail
          go_ret
          exact ⟨rfl, BE.out⟩
        · have t1 : (max (n : Int) (m : Int) == 0) = false := by simp [h]
          have t2 : ((n : Int) == 0) = false := by simp [h2]
          have t3 : ((d : Int) == 0) = true := by simp [h3]
          clear h h2 h3
          go_wp2_with fail
          go_ret
          exact ⟨rfl, BE.out⟩
      · have hokt : ((OW Z3 Z4 Z5 Z6 (plc N6.length d)).all fun q => decide (q.bits ≠ [])) = true := by
          have hl0 : 0 < l := by have := HL.out; omega
          have hn0 : 0 < n := by omega
          have hd0 : 0 < d := by omega
          rw [HOKE.out, len0 (by rw [L3.out]; exact hl0), len0 (by rw [L4.out]; exact hn0), len0 (by rw [L5.out]; exact hl0), len0 (by rw [L6.out]; exact hd0), len0 (by rw [plc_len]; exact hd0)]
          rfl
        rw [hokt] at hE
        have hE : ∃ A c', en = .returned (.tuple #[.slice A 5 c', .bool true]) ∧ NuT 22 wE A 5 (outW N7 (I3 (n + 1) (m + 1) 1 ⟨#[120]⟩ ⟨#[121]⟩ ⟨#[99]⟩) (OW Z3 Z4 Z5 Z6 (plc N6.length d)) [x % 2 ^ n, y % 2 ^ m, c.toNat]) ∧ Sw A 5 c' := hE
        obtain ⟨AE, cE, rfl, hnu, swE⟩ := hE
        have XE := Lib.hid (X9.on bE)
        have YE := Lib.hid (Y9.on bE)
        clear hokt hB hk7 X9 Y9 bE hz
        obtain ⟨X, hX⟩ : ∃ X, x % 2 ^ n = X := ⟨_, rfl⟩
        obtain ⟨Y, hY⟩ : ∃ Y, y % 2 ^ m = Y := ⟨_, rfl⟩
        have hXl : X < 2 ^ n := by rw [← hX]; exact Nat.mod_lt _ (Nat.two_pow_pos n)
        have hYl : Y < 2 ^ m := by rw [← hY]; exact Nat.mod_lt _ (Nat.two_pow_pos m)
        rw [hX, hY] at hnu
        have HXX := Lib.hid hX
        have HYY := Lib.hid hY
        have hval : outW N7 (I3 (n + 1) (m + 1) 1 ⟨#[120]⟩ ⟨#[121]⟩ ⟨#[99]⟩) (OW Z3 Z4 Z5 Z6 (plc N6.length d)) [X, Y, c.toNat] = [opG kd X Y, X ^^^ (2 ^ n - 1), if c then Y else X, X % 2 ^ d, x % 2 ^ d] := by
          obtain ⟨_, i1, i2, i3⟩ := in3 ⟨#[120]⟩ ⟨#[121]⟩ ⟨#[99]⟩ (a := n + 1) (b := m + 1) (c := 1) (x := X) (y := Y) (z := c.toNat) (m := N7.length) (Nat.lt_of_lt_of_le hXl (Nat.pow_le_pow_right (by omega) (by omega))) (Nat.lt_of_lt_of_le hYl (Nat.pow_le_pow_right (by omega) (by omega))) (by cases c <;> decide) (by have := YY7.out.len; rw [HL0.out] at this; exact this)
          obtain ⟨f, hf⟩ : ∃ f, inF (I3 (n + 1) (m + 1) 1 ⟨#[120]⟩ ⟨#[121]⟩ ⟨#[99]⟩) [X, Y, c.toNat] N7.length = f := ⟨_, rfl⟩
          rw [hf] at i1 i2 i3
          have w1 : wn f N0 (plc 0 n) = X := by
            rw [HG0.out.num f (by rw [HL0.out]; omega)]
            exact inW_eq hXl fun t ht => by rw [Nat.zero_add]; exact i1 t (by omega)
          have w2 : wn f N0 (plc (n + 1) m) = Y := by
            rw [HG0.out.num f (by rw [HL0.out]; omega)]
            exact inW_eq hYl fun t ht => i2 t (by omega)
          have w3 : bt f N0 cc = c := by
            rw [← HCC.out, HG0.out.2 f _ (by rw [HL0.out]; omega)]
            have := i3 0 (by omega)
            rw [Nat.add_zero] at this
            rw [this]
            cases c <;> rfl
          show [wn _ N7 Z3, wn _ N7 Z4, wn _ N7 Z5, wn _ N7 Z6, wn _ N7 (plc N6.length d)] = _
          rw [hf, (((Y4.out.trans Y5.out).trans Y6.out).trans Y7.out).num Q3.out, V3.out, w1, w2, ((Y5.out.trans Y6.out).trans Y7.out).num Q4.out, V4.out, Y3.out.num HPW.out.1, w1, (Y6.out.trans Y7.out).num Q5.out, V5.out, YY4.out.num HPW.out.2.1, w2, YY4.out.num HPW.out.1, w1, YY4.out.bit HPW.out.2.2, w3, Y7.out.num Q6.out, V6.out, YY5.out.num HPW.out.1, w1]
          rw [Q7.out.num (V := x % 2 ^ d) (Nat.mod_lt _ (Nat.two_pow_pos d)) fun i hi => by rw [Nat.testBit_mod_two_pow]; simp [hi]]
        rw [hval] at hnu
        obtain ⟨bo, oo, hAE, K0, K1, K2, K3, K4⟩ := open5 hnu
        subst hAE
        obtain ⟨O0, p0, d0', k0, r0, z0⟩ := K0
        obtain ⟨O1, p1, d1', k1', r1, z1⟩ := K1
        obtain ⟨O2, p2, d2', k2', r2, z2⟩ := K2
        obtain ⟨O3, p3, d3', k3, r3, z3⟩ := K3
        obtain ⟨O4, p4, d4', k4, r4, z4⟩ := K4
        have BK := Lib.hid (show Cl wE bo oo (.slice O0 p0 d0') ∧ Cl wE bo (oo + 1) (.slice O1 p1 d1') ∧ Cl wE bo (oo + 2) (.slice O2 p2 d2') ∧ Cl wE bo (oo + 3) (.slice O3 p3 d3') ∧ Cl wE bo (oo + 4) (.slice O4 p4 d4') from ⟨k0, k1', k2', k3, k4⟩)
        have RK := Lib.hid (show ResT wE O0 p0 (opG kd X Y) ∧ ResT wE O1 p1 (X ^^^ (2 ^ n - 1)) ∧ ResT wE O2 p2 (if c then Y else X) ∧ ResT wE O3 p3 (X % 2 ^ d) ∧ ResT wE O4 p4 (x % 2 ^ d) from ⟨r0, r1, r2, r3, r4⟩)
        clear k0 k1' k2' k3 k4 r0 r1 r2 r3 r4 hnu hval hX hY
        go_wp2_with fail
        refine (rof_arg7 XE.out (by omega)).mono ?_
        rintro en w10 ⟨A10, n10, c10, rfl, h10, b10⟩
        have s10 : n10 ≤ 1000000 := by rw [h10.size]; have := arg_blenQ XE.out; omega
        have b10' := Lib.hid b10
        clear b10
        go_wp2_with fail
        refine (rlow8_as h10 s10 n (by omega)).mono ?_
        rintro en w11 ⟨Au, nu, cu, rfl, ub, b11⟩
        rw [HXX.out] at ub
        have su : nu ≤ 40 := Nat.le_trans (br_len ub hXl) (by omega)
        have Y11 := YE.out.on (Below.step b10'.out b11)
        have B11 := Lib.hid (Below.step b10'.out b11)
        have UB := Lib.hid ub
        clear h10 s10 ub b11 b10'
        go_wp2_with fail
        refine (rof_arg7 Y11 (by omega)).mono ?_
        rintro en w12 ⟨A12, n12, c12, rfl, h12, b12⟩
        have s12 : n12 ≤ 1000000 := by rw [h12.size]; have := arg_blenQ Y11; omega
        have b12' := Lib.hid b12
        clear b12 Y11
        go_wp2_with fail
        refine (rlow8_as h12 s12 m (by omega)).mono ?_
        rintro en w13 ⟨Av, nv, cv, rfl, vb, b13⟩
        rw [HYY.out] at vb
        have sv : nv ≤ 40 := Nat.le_trans (br_len vb hYl) (by omega)
        have B13' := Lib.hid (Below.step b12'.out b13)
        have VB := Lib.hid vb
        have UB13 := Lib.hid (UB.out.on B13'.out)
        have B13 := Lib.hid (Below.step B11.out B13'.out)
        clear h12 s12 vb b13 b12' B11 B13' UB
        obtain ⟨Ac, nc, cc', CB, SC, hch⟩ : ∃ (Ac : Option Addr) (nc cc' : Nat), Hid (BR w13 Ac nc cc' (if c then Y else X)) ∧ nc ≤ 40 ∧ (if c then Value.slice Av nv cv else .slice Au nu cu) = .slice Ac nc cc' := by
          cases c
          · exact ⟨Au, nu, cu, Lib.hid UB13.out, su, rfl⟩
          · exact ⟨Av, nv, cv, Lib.hid VB.out, sv, rfl⟩
        have HCH := Lib.hid hch
        clear hch
        cases c
        all_goals (
          have hch := HCH.out
          simp only [if_true, if_false, Bool.false_eq_true] at hch
          injection hch with e1 e2 e3
          subst e1 e2 e3
          go_upto_region 27 with fail
          obtain ⟨w14, e_w14⟩ : ∃ w', w13.alloc (.cells #[] 4) = w' := ⟨_, rfl⟩
          have b14 : Below w13.heap.size w13 w14 := e_w14 ▸ below_lit _ _
          have hg14 : Grow w14 w13.heap.size 4 (.slice (some ⟨w13.heap.size, 0, none⟩) 0 0) (Bo (List.replicate 0 true)) := e_w14 ▸ Grow.made w13 _ (Nat.le_refl _)
          rw [e_w14]
          clear e_w14
          go_wp2_with fail
          go_loopw [36, 37] (fun ov iv wr => ∃ j : Nat, j ≤ n ∧ iv = .int .i64 j ∧ (∃ g cap, ov = .slice (some ⟨g, 0, none⟩) j cap) ∧ Hid (Grow wr w13.heap.size 4 ov (Bo (List.replicate j true))) ∧ Hid (Below w13.heap.size w13 wr)) (fun _ iv _ => n - (intOf iv).toNat)
          case atStart => exact ⟨0, Nat.zero_le _, rfl, ⟨_, _, rfl⟩, Lib.hid hg14, Lib.hid b14⟩
          case round =>
            clear hg14 b14
            obtain ⟨j, hj, rfl, ⟨g, cap, rfl⟩, HG, HB⟩ := hrel
            by_cases hlt : j < n
            · have j1 : (j : Int) < (n : Int) := by omega
              have hg := HG.out
              have hsz := HB.out.size
              have hll : (Bo (List.replicate j true)).length + 1 ≤ 1000000 := by rw [Bo_len, List.length_replicate]; omega
              go_wp2_with (at_builtin; refine wpList_push3 _ rfl _ _ 40 rfl elm_bits8 (by omega) w13.heap.size _ _ rfl hg _ rfl rfl hll hsz ?_; intro g7 cap7 w17 hr7 hG7 hw7)
              have B17 : Below w13.heap.size w13 w17 := HB.out.grown hG7 HB.out.size fun k hk => (hg.lt k hk).1
              have hr8 : Hid (Grow w17 w13.heap.size 4 (.slice (some ⟨g7, 0, none⟩) ((Bo (List.replicate j true)).length + 1) cap7) (Bo (List.replicate (j + 1) true))) := Lib.hid (by
                have e : Bo (List.replicate (j + 1) true) = Bo (List.replicate j true) ++ [.bool true] := by rw [List.replicate_succ']; simp [Bo]
                rw [e]
                exact hr7)
              clear hg hr7 hG7 hw7
              go_roundw
              case rel => exact ⟨j + 1, by omega, by go_num, ⟨_, _, by rw [Bo_len, List.length_replicate]⟩, hr8, Lib.hid B17⟩
              case measure => simp [intOf]; omega
            · obtain rfl : j = n := by omega
              obtain ⟨Ao, co, e, hb, h1, h2⟩ := HG.out.bits
              injection e with e1 e2 e3
              subst e1 e3
              clear e2
              rw [Bo_len, List.length_replicate] at hb h1
              have ob : BR wr (some ⟨g, 0, none⟩) j cap (2 ^ j - 1) := ⟨_, hb, h1, h2, ones_bc j, ones_val j⟩
              obtain ⟨wl, rfl⟩ : ∃ x, x = wr := ⟨_, rfl⟩
              have BL : Below w13.heap.size w13 wl := HB.out
              have BE2 : Below wE.heap.size wE wl := Below.step B13.out BL
              obtain ⟨k0, k1', k2', k3, k4⟩ := BK.out
              obtain ⟨r0, r1, r2, r3, r4⟩ := RK.out
              replace k0 := k0.on BE2
              have k1 := k1'.on BE2
              have k2 := k2'.on BE2
              replace k3 := k3.on BE2
              replace k4 := k4.on BE2
              replace r0 := r0.on BE2
              replace r1 := r1.on BE2
              replace r2 := r2.on BE2
              replace r3 := r3.on BE2
              replace r4 := r4.on BE2
              have ub := UB13.out.on BL
              have vb := VB.out.on BL
              have cb := CB.out.on BL
              have xa := XE.out.on BE2
              have BW := Below.step BE.out BE2
              have HE0 : Hid (opG kd X Y = opG kd X Y % 2 ^ l) := Lib.hid (Nat.mod_eq_of_lt (opG_lt kd (Nat.lt_of_lt_of_le hXl (Nat.pow_le_pow_right (by omega) (by have := HL.out; omega))) (Nat.lt_of_lt_of_le hYl (Nat.pow_le_pow_right (by omega) (by have := HL.out; omega))))).symm
              have HE1 : Hid (X ^^^ (2 ^ j - 1) = opG 5 X (2 ^ j - 1) % 2 ^ j) := Lib.hid (by
                unfold opG
                rw [if_neg (by omega), if_neg (by omega)]
                exact (Nat.mod_eq_of_lt (Nat.xor_lt_two_pow hXl (by have := Nat.two_pow_pos j; omega))).symm)
              clear HG HB BK RK UB13 VB CB XE BE BL BE2 k1' k2' hb h1 h2 B13
              go_upto_region 31 with fail
              try dsimp only [List.append]
              refine region_plan [0, 1, 2, 3, 4, 5, 6, 7, 8, 9, 10, 11, 12, 13, 14, 15, 16, 17, 18, 19, 20, 21, 22, 23, 24, 25, 26, 27, 28, 29, 30, 31, 32, 33, 34, 35, 36, 37, 38, 39, 40, 41, 43, 42, 44, 45, 46, 47] (by kernel_rfl) (by kernel_rfl) (by kernel_rfl) (by kernel_rfl) (by kernel_rfl) ?_
              dsimp only [pick, nth]
              replace k0 := k0.on ((Below.refl _ _).drew : Below wl.heap.size wl wl.drew)
              replace k1 := k1.on ((Below.refl _ _).drew : Below wl.heap.size wl wl.drew)
              replace k2 := k2.on ((Below.refl _ _).drew : Below wl.heap.size wl wl.drew)
              replace k3 := k3.on ((Below.refl _ _).drew : Below wl.heap.size wl wl.drew)
              replace k4 := k4.on ((Below.refl _ _).drew : Below wl.heap.size wl wl.drew)
              replace r0 := r0.on ((Below.refl _ _).drew : Below wl.heap.size wl wl.drew)
              replace r1 := r1.on ((Below.refl _ _).drew : Below wl.heap.size wl wl.drew)
              replace r2 := r2.on ((Below.refl _ _).drew : Below wl.heap.size wl wl.drew)
              replace r3 := r3.on ((Below.refl _ _).drew : Below wl.heap.size wl wl.drew)
              replace r4 := r4.on ((Below.refl _ _).drew : Below wl.heap.size wl wl.drew)
              replace ub := ub.on ((Below.refl _ _).drew : Below wl.heap.size wl wl.drew)
              replace vb := vb.on ((Below.refl _ _).drew : Below wl.heap.size wl wl.drew)
              replace cb := cb.on ((Below.refl _ _).drew : Below wl.heap.size wl wl.drew)
              replace ob := ob.on ((Below.refl _ _).drew : Below wl.heap.size wl wl.drew)
              replace xa := xa.on ((Below.refl _ _).drew : Below wl.heap.size wl wl.drew)
              replace BW := Below.step BW ((Below.refl _ _).drew : Below wl.heap.size wl wl.drew)
              obtain ⟨w1, e_w1⟩ : ∃ w', wl.drew = w' := ⟨_, rfl⟩
              rw [e_w1] at k0 k1 k2 k3 k4 r0 r1 r2 r3 r4 ub vb cb ob xa BW ⊢
              clear e_w1
              have lf0 := fun s : Wd w1 => (k0.on s.below).2
              have lf1 := fun s : Wd w1 => (k1.on s.below).2
              have lf2 := fun s : Wd w1 => (k2.on s.below).2
              have lf3 := fun s : Wd w1 => (k3.on s.below).2
              have lf4 := fun s : Wd w1 => (k4.on s.below).2
              refine lex_plain 9 (by kernel_rfl) ?_
              dsimp only [List.take, List.drop]
              repeat go_big_quiet_step (fail)
              refine wpQuiet_nil ?_
              clear lf0 lf1 lf2 lf3 lf4
              refine lex_call (by kernel_rfl) (by kernel_rfl) (fun w2 b K hK => ?_)
              replace k0 := k0.on b
              replace k1 := k1.on b
              replace k2 := k2.on b
              replace k3 := k3.on b
              replace k4 := k4.on b
              replace r0 := r0.on b
              replace r1 := r1.on b
              replace r2 := r2.on b
              replace r3 := r3.on b
              replace r4 := r4.on b
              replace ub := ub.on b
              replace vb := vb.on b
              replace cb := cb.on b
              replace ob := ob.on b
              replace xa := xa.on b
              replace BW := Below.step BW b
              clear b
              go_simp
              refine (each8_at HKD.out HMX.out ub vb (by omega) (by omega) (by omega)).mono ?_
              rintro en w3 ⟨Aa, na, ca, rfl, ba, b⟩
              dsimp only
              refine hK _ _ b ?_
              clear hK K
              replace k0 := k0.on b
              replace k1 := k1.on b
              replace k2 := k2.on b
              replace k3 := k3.on b
              replace k4 := k4.on b
              replace r0 := r0.on b
              replace r1 := r1.on b
              replace r2 := r2.on b
              replace r3 := r3.on b
              replace r4 := r4.on b
              replace ub := ub.on b
              replace vb := vb.on b
              replace cb := cb.on b
              replace ob := ob.on b
              replace xa := xa.on b
              replace BW := Below.step BW b
              clear b
              have sa : na ≤ 1000000 := Nat.le_trans (br_len ba (Nat.mod_lt _ (Nat.two_pow_pos _))) (by omega)
              refine lex_call (by kernel_rfl) (by kernel_rfl) (fun w4 b K hK => ?_)
              replace k0 := k0.on b
              replace k1 := k1.on b
              replace k2 := k2.on b
              replace k3 := k3.on b
              replace k4 := k4.on b
              replace r0 := r0.on b
              replace r1 := r1.on b
              replace r2 := r2.on b
              replace r3 := r3.on b
              replace r4 := r4.on b
              replace ub := ub.on b
              replace vb := vb.on b
              replace cb := cb.on b
              replace ob := ob.on b
              replace xa := xa.on b
              replace ba := ba.on b
              replace BW := Below.step BW b
              clear b
              go_simp
              refine (is8_true r0.res ba (by omega) sa HE0.out).mono ?_
              rintro en w5 ⟨rfl, b⟩
              dsimp only
              refine hK _ _ b ?_
              clear hK K
              replace k0 := k0.on b
              replace k1 := k1.on b
              replace k2 := k2.on b
              replace k3 := k3.on b
              replace k4 := k4.on b
              replace r0 := r0.on b
              replace r1 := r1.on b
              replace r2 := r2.on b
              replace r3 := r3.on b
              replace r4 := r4.on b
              replace ub := ub.on b
              replace vb := vb.on b
              replace cb := cb.on b
              replace ob := ob.on b
              replace xa := xa.on b
              replace ba := ba.on b
              replace BW := Below.step BW b
              clear b
              have lf0 := fun s : Wd w5 => (k0.on s.below).2
              have lf1 := fun s : Wd w5 => (k1.on s.below).2
              have lf2 := fun s : Wd w5 => (k2.on s.below).2
              have lf3 := fun s : Wd w5 => (k3.on s.below).2
              have lf4 := fun s : Wd w5 => (k4.on s.below).2
              refine lex_plain 7 (by kernel_rfl) ?_
              dsimp only [List.take, List.drop]
              repeat go_big_quiet_step (fail)
              refine wpQuiet_nil ?_
              clear lf0 lf1 lf2 lf3 lf4
              refine lex_call (by kernel_rfl) (by kernel_rfl) (fun w6 b K hK => ?_)
              replace k0 := k0.on b
              replace k1 := k1.on b
              replace k2 := k2.on b
              replace k3 := k3.on b
              replace k4 := k4.on b
              replace r0 := r0.on b
              replace r1 := r1.on b
              replace r2 := r2.on b
              replace r3 := r3.on b
              replace r4 := r4.on b
              replace ub := ub.on b
              replace vb := vb.on b
              replace cb := cb.on b
              replace ob := ob.on b
              replace xa := xa.on b
              replace ba := ba.on b
              replace BW := Below.step BW b
              clear b
              go_simp
              refine (each8_as ub ob (by omega) (by omega) 5 j (by omega)).mono ?_
              rintro en w7 ⟨Ab, nb, cb', rfl, bb, b⟩
              dsimp only
              refine hK _ _ b ?_
              clear hK K
              replace k0 := k0.on b
              replace k1 := k1.on b
              replace k2 := k2.on b
              replace k3 := k3.on b
              replace k4 := k4.on b
              replace r0 := r0.on b
              replace r1 := r1.on b
              replace r2 := r2.on b
              replace r3 := r3.on b
              replace r4 := r4.on b
              replace ub := ub.on b
              replace vb := vb.on b
              replace cb := cb.on b
              replace ob := ob.on b
              replace xa := xa.on b
              replace ba := ba.on b
              replace BW := Below.step BW b
              clear b
              have sb : nb ≤ 1000000 := Nat.le_trans (br_len bb (Nat.mod_lt _ (Nat.two_pow_pos _))) (by omega)
              refine lex_call (by kernel_rfl) (by kernel_rfl) (fun w8 b K hK => ?_)
              replace k0 := k0.on b
              replace k1 := k1.on b
              replace k2 := k2.on b
              replace k3 := k3.on b
              replace k4 := k4.on b
              replace r0 := r0.on b
              replace r1 := r1.on b
              replace r2 := r2.on b
              replace r3 := r3.on b
              replace r4 := r4.on b
              replace ub := ub.on b
              replace vb := vb.on b
              replace cb := cb.on b
              replace ob := ob.on b
              replace xa := xa.on b
              replace ba := ba.on b
              replace bb := bb.on b
              replace BW := Below.step BW b
              clear b
              go_simp
              refine (is8_true r1.res bb (by omega) sb HE1.out).mono ?_
              rintro en w9 ⟨rfl, b⟩
              dsimp only
              refine hK _ _ b ?_
              clear hK K
              replace k0 := k0.on b
              replace k1 := k1.on b
              replace k2 := k2.on b
              replace k3 := k3.on b
              replace k4 := k4.on b
              replace r0 := r0.on b
              replace r1 := r1.on b
              replace r2 := r2.on b
              replace r3 := r3.on b
              replace r4 := r4.on b
              replace ub := ub.on b
              replace vb := vb.on b
              replace cb := cb.on b
              replace ob := ob.on b
              replace xa := xa.on b
              replace ba := ba.on b
              replace bb := bb.on b
              replace BW := Below.step BW b
              clear b
              have lf0 := fun s : Wd w9 => (k0.on s.below).2
              have lf1 := fun s : Wd w9 => (k1.on s.below).2
              have lf2 := fun s : Wd w9 => (k2.on s.below).2
              have lf3 := fun s : Wd w9 => (k3.on s.below).2
              have lf4 := fun s : Wd w9 => (k4.on s.below).2
              refine lex_plain 6 (by kernel_rfl) ?_
              dsimp only [List.take, List.drop]
              repeat go_big_quiet_step (fail)
              refine wpQuiet_nil ?_
              clear lf0 lf1 lf2 lf3 lf4
              refine lex_call (by kernel_rfl) (by kernel_rfl) (fun w10 b K hK => ?_)
              replace k0 := k0.on b
              replace k1 := k1.on b
              replace k2 := k2.on b
              replace k3 := k3.on b
              replace k4 := k4.on b
              replace r0 := r0.on b
              replace r1 := r1.on b
              replace r2 := r2.on b
              replace r3 := r3.on b
              replace r4 := r4.on b
              replace ub := ub.on b
              replace vb := vb.on b
              replace cb := cb.on b
              replace ob := ob.on b
              replace xa := xa.on b
              replace ba := ba.on b
              replace bb := bb.on b
              replace BW := Below.step BW b
              clear b
              go_simp
              refine (is8_true r2.res cb (by omega) (by omega) rfl).mono ?_
              rintro en w11 ⟨rfl, b⟩
              dsimp only
              refine hK _ _ b ?_
              clear hK K
              replace k0 := k0.on b
              replace k1 := k1.on b
              replace k2 := k2.on b
              replace k3 := k3.on b
              replace k4 := k4.on b
              replace r0 := r0.on b
              replace r1 := r1.on b
              replace r2 := r2.on b
              replace r3 := r3.on b
              replace r4 := r4.on b
              replace ub := ub.on b
              replace vb := vb.on b
              replace cb := cb.on b
              replace ob := ob.on b
              replace xa := xa.on b
              replace ba := ba.on b
              replace bb := bb.on b
              replace BW := Below.step BW b
              clear b
              have lf0 := fun s : Wd w11 => (k0.on s.below).2
              have lf1 := fun s : Wd w11 => (k1.on s.below).2
              have lf2 := fun s : Wd w11 => (k2.on s.below).2
              have lf3 := fun s : Wd w11 => (k3.on s.below).2
              have lf4 := fun s : Wd w11 => (k4.on s.below).2
              refine lex_plain 7 (by kernel_rfl) ?_
              dsimp only [List.take, List.drop]
              repeat go_big_quiet_step (fail)
              refine wpQuiet_nil ?_
              clear lf0 lf1 lf2 lf3 lf4
              refine lex_call (by kernel_rfl) (by kernel_rfl) (fun w12 b K hK => ?_)
              replace k0 := k0.on b
              replace k1 := k1.on b
              replace k2 := k2.on b
              replace k3 := k3.on b
              replace k4 := k4.on b
              replace r0 := r0.on b
              replace r1 := r1.on b
              replace r2 := r2.on b
              replace r3 := r3.on b
              replace r4 := r4.on b
              replace ub := ub.on b
              replace vb := vb.on b
              replace cb := cb.on b
              replace ob := ob.on b
              replace xa := xa.on b
              replace ba := ba.on b
              replace bb := bb.on b
              replace BW := Below.step BW b
              clear b
              go_simp
              refine (rlow8_as ub (by omega) d (by omega)).mono ?_
              rintro en w13 ⟨Ac, nc, cc', rfl, bc, b⟩
              dsimp only
              refine hK _ _ b ?_
              clear hK K
              replace k0 := k0.on b
              replace k1 := k1.on b
              replace k2 := k2.on b
              replace k3 := k3.on b
              replace k4 := k4.on b
              replace r0 := r0.on b
              replace r1 := r1.on b
              replace r2 := r2.on b
              replace r3 := r3.on b
              replace r4 := r4.on b
              replace ub := ub.on b
              replace vb := vb.on b
              replace cb := cb.on b
              replace ob := ob.on b
              replace xa := xa.on b
              replace ba := ba.on b
              replace bb := bb.on b
              replace BW := Below.step BW b
              clear b
              have sc : nc ≤ 1000000 := Nat.le_trans (br_len bc (Nat.mod_lt _ (Nat.two_pow_pos _))) (by omega)
              refine lex_call (by kernel_rfl) (by kernel_rfl) (fun w14 b K hK => ?_)
              replace k0 := k0.on b
              replace k1 := k1.on b
              replace k2 := k2.on b
              replace k3 := k3.on b
              replace k4 := k4.on b
              replace r0 := r0.on b
              replace r1 := r1.on b
              replace r2 := r2.on b
              replace r3 := r3.on b
              replace r4 := r4.on b
              replace ub := ub.on b
              replace vb := vb.on b
              replace cb := cb.on b
              replace ob := ob.on b
              replace xa := xa.on b
              replace ba := ba.on b
              replace bb := bb.on b
              replace bc := bc.on b
              replace BW := Below.step BW b
              clear b
              go_simp
              refine (is8_true r3.res bc (by omega) sc rfl).mono ?_
              rintro en w15 ⟨rfl, b⟩
              dsimp only
              refine hK _ _ b ?_
              clear hK K
              replace k0 := k0.on b
              replace k1 := k1.on b
              replace k2 := k2.on b
              replace k3 := k3.on b
              replace k4 := k4.on b
              replace r0 := r0.on b
              replace r1 := r1.on b
              replace r2 := r2.on b
              replace r3 := r3.on b
              replace r4 := r4.on b
              replace ub := ub.on b
              replace vb := vb.on b
              replace cb := cb.on b
              replace ob := ob.on b
              replace xa := xa.on b
              replace ba := ba.on b
              replace bb := bb.on b
              replace bc := bc.on b
              replace BW := Below.step BW b
              clear b
              have lf0 := fun s : Wd w15 => (k0.on s.below).2
              have lf1 := fun s : Wd w15 => (k1.on s.below).2
              have lf2 := fun s : Wd w15 => (k2.on s.below).2
              have lf3 := fun s : Wd w15 => (k3.on s.below).2
              have lf4 := fun s : Wd w15 => (k4.on s.below).2
              refine lex_plain 7 (by kernel_rfl) ?_
              dsimp only [List.take, List.drop]
              repeat go_big_quiet_step (fail)
              refine wpQuiet_nil ?_
              clear lf0 lf1 lf2 lf3 lf4
              refine lex_call (by kernel_rfl) (by kernel_rfl) (fun w16 b K hK => ?_)
              replace k0 := k0.on b
              replace k1 := k1.on b
              replace k2 := k2.on b
              replace k3 := k3.on b
              replace k4 := k4.on b
              replace r0 := r0.on b
              replace r1 := r1.on b
              replace r2 := r2.on b
              replace r3 := r3.on b
              replace r4 := r4.on b
              replace ub := ub.on b
              replace vb := vb.on b
              replace cb := cb.on b
              replace ob := ob.on b
              replace xa := xa.on b
              replace ba := ba.on b
              replace bb := bb.on b
              replace bc := bc.on b
              replace BW := Below.step BW b
              clear b
              go_simp
              refine (rof_arg7 xa (by omega)).mono ?_
              rintro en w17 ⟨Ad, nd, cd', rfl, bd, b⟩
              dsimp only
              refine hK _ _ b ?_
              clear hK K
              replace k0 := k0.on b
              replace k1 := k1.on b
              replace k2 := k2.on b
              replace k3 := k3.on b
              replace k4 := k4.on b
              replace r0 := r0.on b
              replace r1 := r1.on b
              replace r2 := r2.on b
              replace r3 := r3.on b
              replace r4 := r4.on b
              replace ub := ub.on b
              replace vb := vb.on b
              replace cb := cb.on b
              replace ob := ob.on b
              replace xa := xa.on b
              replace ba := ba.on b
              replace bb := bb.on b
              replace bc := bc.on b
              replace BW := Below.step BW b
              clear b
              have sd : nd ≤ 1000000 := by rw [bd.size]; have := arg_blenQ xa; omega
              refine lex_call (by kernel_rfl) (by kernel_rfl) (fun w18 b K hK => ?_)
              replace k0 := k0.on b
              replace k1 := k1.on b
              replace k2 := k2.on b
              replace k3 := k3.on b
              replace k4 := k4.on b
              replace r0 := r0.on b
              replace r1 := r1.on b
              replace r2 := r2.on b
              replace r3 := r3.on b
              replace r4 := r4.on b
              replace ub := ub.on b
              replace vb := vb.on b
              replace cb := cb.on b
              replace ob := ob.on b
              replace xa := xa.on b
              replace ba := ba.on b
              replace bb := bb.on b
              replace bc := bc.on b
              replace bd := bd.on b
              replace BW := Below.step BW b
              clear b
              go_simp
              refine (rlow8_as bd sd d (by omega)).mono ?_
              rintro en w19 ⟨Ae, ne, ce', rfl, be, b⟩
              dsimp only
              refine hK _ _ b ?_
              clear hK K
              replace k0 := k0.on b
              replace k1 := k1.on b
              replace k2 := k2.on b
              replace k3 := k3.on b
              replace k4 := k4.on b
              replace r0 := r0.on b
              replace r1 := r1.on b
              replace r2 := r2.on b
              replace r3 := r3.on b
              replace r4 := r4.on b
              replace ub := ub.on b
              replace vb := vb.on b
              replace cb := cb.on b
              replace ob := ob.on b
              replace xa := xa.on b
              replace ba := ba.on b
              replace bb := bb.on b
              replace bc := bc.on b
              replace bd := bd.on b
              replace BW := Below.step BW b
              clear b
              have se : ne ≤ 1000000 := Nat.le_trans (br_len be (Nat.mod_lt _ (Nat.two_pow_pos _))) (by omega)
              refine lex_call (by kernel_rfl) (by kernel_rfl) (fun w20 b K hK => ?_)
              replace k0 := k0.on b
              replace k1 := k1.on b
              replace k2 := k2.on b
              replace k3 := k3.on b
              replace k4 := k4.on b
              replace r0 := r0.on b
              replace r1 := r1.on b
              replace r2 := r2.on b
              replace r3 := r3.on b
              replace r4 := r4.on b
              replace ub := ub.on b
              replace vb := vb.on b
              replace cb := cb.on b
              replace ob := ob.on b
              replace xa := xa.on b
              replace ba := ba.on b
              replace bb := bb.on b
              replace bc := bc.on b
              replace bd := bd.on b
              replace be := be.on b
              replace BW := Below.step BW b
              clear b
              go_simp
              refine (is8_true r4.res be (by omega) se rfl).mono ?_
              rintro en w21 ⟨rfl, b⟩
              dsimp only
              refine hK _ _ b ?_
              clear hK K
              replace k0 := k0.on b
              replace k1 := k1.on b
              replace k2 := k2.on b
              replace k3 := k3.on b
              replace k4 := k4.on b
              replace r0 := r0.on b
              replace r1 := r1.on b
              replace r2 := r2.on b
              replace r3 := r3.on b
              replace r4 := r4.on b
              replace ub := ub.on b
              replace vb := vb.on b
              replace cb := cb.on b
              replace ob := ob.on b
              replace xa := xa.on b
              replace ba := ba.on b
              replace bb := bb.on b
              replace bc := bc.on b
              replace bd := bd.on b
              replace be := be.on b
              replace BW := Below.step BW b
              clear b
              have lf0 := fun s : Wd w21 => (k0.on s.below).2
              have lf1 := fun s : Wd w21 => (k1.on s.below).2
              have lf2 := fun s : Wd w21 => (k2.on s.below).2
              have lf3 := fun s : Wd w21 => (k3.on s.below).2
              have lf4 := fun s : Wd w21 => (k4.on s.below).2
              refine lex_plain 2 (by kernel_rfl) ?_
              dsimp only [List.take, List.drop]
              repeat go_big_quiet_step (fail)
              refine wpQuiet_nil ?_
              clear lf0 lf1 lf2 lf3 lf4
              refine lex_nil (fun w22 b => ?_)
              replace k0 := k0.on b
              replace k1 := k1.on b
              replace k2 := k2.on b
              replace k3 := k3.on b
              replace k4 := k4.on b
              replace r0 := r0.on b
              replace r1 := r1.on b
              replace r2 := r2.on b
              replace r3 := r3.on b
              replace r4 := r4.on b
              replace ub := ub.on b
              replace vb := vb.on b
              replace cb := cb.on b
              replace ob := ob.on b
              replace xa := xa.on b
              replace ba := ba.on b
              replace bb := bb.on b
              replace bc := bc.on b
              replace bd := bd.on b
              replace be := be.on b
              replace BW := Below.step BW b
              clear b
              dsimp only [NoPanic]
              go_wp2_with fail
              go_ret
              exact ⟨rfl, BW⟩)
end Go.Proofs.Ytcfmgoilncninaa

namespace Go.Proofs.Ytcfmgoilncninaa
open Go.RowKit
set_option linter.unusedVariables false
set_option maxRecDepth 4000


open Go.ChangeShapes Go.WideShapes Go.ChangeAt in
theorem open_nat8 {H : Type} {enc : TypeId × Value → H} {w : World} {v : Value} {d : DataW H} {p : List MemPlace} {b0 : Nat} (hv : Value.okWide Try.prog w .any b0 23 v) (h0 : DataW.Trod enc Try.prog w 0 (fun _ => true) true 23 v d p) (hz : ∀ n ∈ d.weights Try.prog 23, n ≤ RB) :
    ∃ A n c x, v = .slice A n c ∧ Arg w A n c x ∧ n ≤ RB := by
  obtain ⟨ao, lo, co, rfl⟩ := okWide_slice Try.underlying23 hv
  obtain ⟨fuel, h⟩ := h0
  have h' : DataW.trod enc Try.prog w 0 (fun _ => true) true fuel 23 [.slice ao lo co] = some (d, p) := by simpa [Value.cells] using h
  obtain ⟨A, n, c, y, e, h1, h2, _⟩ := open_num6 h' hz
  exact ⟨A, n, c, y, e, h1, h2⟩
theorem buildWords_any {w : World} {a b k t : Int} (ha : 0 ≤ a ∧ a ≤ 255) (hb : 0 ≤ b ∧ b ≤ 255) (hk : 0 ≤ k ∧ k ≤ 255) (ht : 0 ≤ t ∧ t ≤ 255) {A1 : Option Addr} {k1 c1 x : Nat} (hx : Arg w A1 k1 c1 x) (hk1 : k1 ≤ 140737488351232) {A2 : Option Addr} {k2 c2 y : Nat} (hy : Arg w A2 k2 c2 y) (hk2 : k2 ≤ 140737488351232) (c : Bool) :
    Calls Try.prog 3 #[.int .u8 a, .int .u8 b, .int .u8 k, .int .u8 t, .slice A1 k1 c1, .slice A2 k2 c2, .bool c] w fun en w' => en = .returned (.bool true) ∧ Below w.heap.size w w' := by
  obtain ⟨a, rfl⟩ := Int.eq_ofNat_of_zero_le ha.1
  obtain ⟨b, rfl⟩ := Int.eq_ofNat_of_zero_le hb.1
  obtain ⟨k, rfl⟩ := Int.eq_ofNat_of_zero_le hk.1
  obtain ⟨t, rfl⟩ := Int.eq_ofNat_of_zero_le ht.1
  exact buildWords_as a b k t (by omega) (by omega) (by omega) (by omega) hx hk1 hy hk2 c
end Go.Proofs.Ytcfmgoilncninaa

namespace Go.Proofs.Ytcfmgoilncninaa.buildWordsDone
open Go.ChangeShapes Go.WideShapes Go.ChangeAt Go.RowKit
open Go.ChangeMaps (open_string shut_string)
set_option linter.unusedVariables false
set_option maxRecDepth 4000

theorem own : ownKnob Try.prog.godebug = none := by kernel_rfl
theorem laidOut : laidOutB Try.prog = true := by kernel_rfl

set_option maxHeartbeats 1600000 in
set_option maxRecDepth 100000 in
theorem lifted (os : Os) (started : os.Started) (H : Type) (enc : TypeId × Value → H) :
    ReturnsInHanded {} Try.checked os 3 .any (Rows.buildWordsSpec.pre6 enc Try.prog Try.f3 Rows.buildWordsRow.domain false) (Rows.buildWordsSpec.post enc Try.prog Try.f3 false true false false) := by
  refine returnsInHanded_of_change_sized (C := Try.checked) own started (by kernel_rfl) Try.func3
    (ChangeSpec.witness6 (enc := enc) (C := Try.checked) false ⟨#[], #[.int .u8 0, .int .u8 0, .int .u8 0, .int .u8 0, .slice none 0 0, .slice none 0 0, .bool false], []⟩ 8 (by kernel_rfl) (by kernel_rfl) (by kernel_rfl) (by kernel_rfl)) ?_
  intro W base args ds gs before hval0 hW _ hsz0 _
  have hval : ∀ (j : Nat) t v, Try.f3.params[j]? = some t → args[j]? = some v → Value.okWide Try.prog W .any base t v := hval0
  have hsz : (DataW.weightsEach Try.prog (Try.f3.params.toList ++ Rows.buildWordsSpec.plain.varTypes Try.prog) (ds ++ gs)).all (· ≤ reachBytes) = true := hsz0
  clear hsz0
  have hW' := hW
  obtain ⟨p, q, hA0, hV, rfl, hfz, hnd⟩ := hW
  have hA : DataW.TrodAll enc Try.prog W 0 (fun _ => true) true Try.f3.params.toList args.toList ds p := hA0
  rw [Try.params3] at hA hval hsz
  obtain ⟨v0, vs0, d0, ds0, p0, q0, hargs, rfl, rfl, h0, r0⟩ := trodAll_cons hA
  obtain ⟨v1, vs1, d1, ds1, p1, q1, rfl, rfl, rfl, h1, r1⟩ := trodAll_cons r0
  obtain ⟨v2, vs2, d2, ds2, p2, q2, rfl, rfl, rfl, h2, r2⟩ := trodAll_cons r1
  obtain ⟨v3, vs3, d3, ds3, p3, q3, rfl, rfl, rfl, h3, r3⟩ := trodAll_cons r2
  obtain ⟨v4, vs4, d4, ds4, p4, q4, rfl, rfl, rfl, h4, r4⟩ := trodAll_cons r3
  obtain ⟨v5, vs5, d5, ds5, p5, q5, rfl, rfl, rfl, h5, r5⟩ := trodAll_cons r4
  obtain ⟨v6, vs6, d6, ds6, p6, q6, rfl, rfl, rfl, h6, r6⟩ := trodAll_cons r5
  obtain ⟨rfl, rfl, rfl⟩ := trodAll_nil r6
  obtain rfl : args = #[v0, v1, v2, v3, v4, v5, v6] := by cases args; simp_all
  obtain ⟨rfl, rfl⟩ := trodVars_none hV
  have k0 := h0
  have lt0 : ∀ x ∈ p0, x.block < W.heap.size := by obtain ⟨m, hm⟩ := k0; exact DataW.trod_lt m _ _ _ hm
  have k1 := h1
  have lt1 : ∀ x ∈ p1, x.block < W.heap.size := by obtain ⟨m, hm⟩ := k1; exact DataW.trod_lt m _ _ _ hm
  have k2 := h2
  have lt2 : ∀ x ∈ p2, x.block < W.heap.size := by obtain ⟨m, hm⟩ := k2; exact DataW.trod_lt m _ _ _ hm
  have k3 := h3
  have lt3 : ∀ x ∈ p3, x.block < W.heap.size := by obtain ⟨m, hm⟩ := k3; exact DataW.trod_lt m _ _ _ hm
  have k4 := h4
  have lt4 : ∀ x ∈ p4, x.block < W.heap.size := by obtain ⟨m, hm⟩ := k4; exact DataW.trod_lt m _ _ _ hm
  have k5 := h5
  have lt5 : ∀ x ∈ p5, x.block < W.heap.size := by obtain ⟨m, hm⟩ := k5; exact DataW.trod_lt m _ _ _ hm
  have k6 := h6
  have lt6 : ∀ x ∈ p6, x.block < W.heap.size := by obtain ⟨m, hm⟩ := k6; exact DataW.trod_lt m _ _ _ hm
  obtain ⟨y0, rfl, rfl, rfl, w0⟩ := open_int Try.underlying5 (hval 0 5 v0 rfl rfl) h0
  obtain ⟨y1, rfl, rfl, rfl, w1⟩ := open_int Try.underlying5 (hval 1 5 v1 rfl rfl) h1
  obtain ⟨y2, rfl, rfl, rfl, w2⟩ := open_int Try.underlying5 (hval 2 5 v2 rfl rfl) h2
  obtain ⟨y3, rfl, rfl, rfl, w3⟩ := open_int Try.underlying5 (hval 3 5 v3 rfl rfl) h3
  obtain ⟨Ax4, nx4, cx4, xx4, rfl, HX4, hx4⟩ := open_nat8 (hval 4 23 v4 rfl rfl) h4 (fun n hn => by
    have := List.all_eq_true.1 hsz n (DataW.weights_mem_each (j := 4) rfl rfl n hn)
    exact of_decide_eq_true this)
  obtain ⟨Ax5, nx5, cx5, xx5, rfl, HX5, hx5⟩ := open_nat8 (hval 5 23 v5 rfl rfl) h5 (fun n hn => by
    have := List.all_eq_true.1 hsz n (DataW.weights_mem_each (j := 5) rfl rfl n hn)
    exact of_decide_eq_true this)
  obtain ⟨bb6, rfl, rfl, rfl⟩ := open_bool Try.underlying4 (hval 6 4 v6 rfl rfl) h6
  clear hA0 hval0
  refine (buildWords_any (u8_wf w0) (u8_wf w1) (u8_wf w2) (u8_wf w3) HX4 hx4 HX5 hx5 bb6).mono fun e W' ⟨he, bel⟩ => ?_
  subst he
  exact ⟨_, rfl, _, _, _, [], _, [], hW', trodAll_mk1 (shut_bool Try.underlying4 _), (trodAll_cons_mk (Below.trod laidOut (by kernel_rfl) (of_decide_eq_true (by kernel_rfl)) k0 bel lt0) (trodAll_cons_mk (Below.trod laidOut (by kernel_rfl) (of_decide_eq_true (by kernel_rfl)) k1 bel lt1) (trodAll_cons_mk (Below.trod laidOut (by kernel_rfl) (of_decide_eq_true (by kernel_rfl)) k2 bel lt2) (trodAll_cons_mk (Below.trod laidOut (by kernel_rfl) (of_decide_eq_true (by kernel_rfl)) k3 bel lt3) (trodAll_cons_mk (Below.trod laidOut (by kernel_rfl) (of_decide_eq_true (by kernel_rfl)) k4 bel lt4) (trodAll_cons_mk (Below.trod laidOut (by kernel_rfl) (of_decide_eq_true (by kernel_rfl)) k5 bel lt5) (trodAll_cons_mk (Below.trod laidOut (by kernel_rfl) (of_decide_eq_true (by kernel_rfl)) k6 bel lt6) trodAll_mk0))))))), rfl, bel.frame _, fun h => by cases h⟩

theorem over : Rows.buildWordsRow.holds Try.pinned (OpenSpec.ofChange Rows.buildWordsSpec) :=
  OpenClaim.holds_of_wide 3 Try.f3 rfl rfl rfl rfl rfl rfl rfl ⟨rfl, rfl, rfl, rfl, rfl⟩ rfl rfl rfl rfl rfl (by kernel_rfl) Try.func3 (by kernel_rfl)
    (of_decide_eq_true (by kernel_rfl)) (by unfold Func.isWrapper; first | (rw [if_pos (by decide +kernel)]; kernel_rfl) | (rw [if_neg (by decide +kernel)]; exact ⟨rfl, rfl⟩))
    (fun os started H enc _ => lifted os started H enc)

/-- THE STATEMENT. -/
theorem proved : Rows.BuildWordsSaid := over
end Go.Proofs.Ytcfmgoilncninaa.buildWordsDone
namespace Go.Proofs.Ytcfmgoilncninaa
theorem buildWords_holds : Rows.BuildWordsSaid := buildWordsDone.proved
#print axioms buildWords_holds
end Go.Proofs.Ytcfmgoilncninaa
