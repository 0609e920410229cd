
/-
  Layer 6: the walk of NetNodes.
-/
import Derived.Test.YtcmdfkmjbfppgaaGcd
import Derived.Test.YtcmdfkmjbfppgaaGs
import Derived.Test.YtcmdfkmjbfppgaaGu
import Derived.Test.YtcmdfkmjbfppgaaGw
import Derived.Test.YtcmdfkmjbfppgaaLex
namespace Go.Proofs.Ytcmdfkmjbfppgaa
open Go.RowKit
set_option linter.unusedVariables false
set_option maxRecDepth 4000

theorem Own.bx {w : World} {g : Nat} {t : TypeId} {cs : List Value} (h : Own w g t cs) : Bx w g cs := ⟨h.lt, fun i u hu => (h.cell i).trans hu⟩
theorem rg8e (F : Nat → Nat) : rg F 8 = [.int .i64 (F 0 : Nat), .int .i64 (F 1 : Nat), .int .i64 (F 2 : Nat), .int .i64 (F 3 : Nat), .int .i64 (F 4 : Nat), .int .i64 (F 5 : Nat), .int .i64 (F 6 : Nat), .int .i64 (F 7 : Nat)] := rfl
theorem Nt.cloned {w : World} {B sg : Nat} {An Ai Ao Cn Ci Co : Option Addr} {nn cn ni ci no co dn di do' : Nat} {N : List Nd} {I O : List Pt} (hrow : w.ownsRow B 38 4 (.slice Cn nn dn) nn (N.flatMap ndC)) (hpi : PsH sg w Ci ni I) (hpo : PsH sg w Co no O) (swi : Sw Ci ni di) (swo : Sw Co no do') (h : Nt w An nn cn Ai ni ci Ao no co N I O) : Nt w Cn nn dn Ci ni di Co no do' N I O := by
  obtain ⟨A', c', q0, _, _, q1⟩ := row_ns hrow
  injection q0 with qa qb qc
  subst qa qc
  exact ⟨q1, hpi.ps, hpo.ps, swi, swo, h.hn, h.hs, h.hb⟩
theorem sameL_self (L : List Pt) : sameL L L = true := by
  unfold sameL
  rw [beq_self_eq_true, Bool.true_and, List.all_eq_true]
  intro i hi
  have hi := List.mem_range.1 hi
  unfold sameAt
  rw [List.getElem?_eq_getElem hi]
  unfold sameP
  simp
theorem sameS_self (N : List Nd) (I O : List Pt) : sameS N N I I O O = true := by
  unfold sameS
  rw [sameL_self, sameL_self]
  simp
set_option maxRecDepth 20000 in
set_option maxHeartbeats 8000000 in
theorem netNodes_as {An Ai Ao Bn Bi Bo : Option Addr} {nn cn ni ci no co mn dn mi di mo do' : Nat} {N N' : List Nd} {I O I' O' : List Pt} {w : World} (k p q r : Int) (s : ByteArray) (ha : NetIn w An nn cn Ai ni ci Ao no co N I O) (hb : NetIn w Bn mn dn Bi mi di Bo mo do' N' I' O') :
    Calls Try.prog 4 #[.agg #[.int .i64 k, .int .i64 p, .int .i64 q, .int .i64 r], .string s, .agg #[.slice An nn cn, .slice Ai ni ci, .slice Ao no co], .agg #[.slice Bn mn dn, .slice Bi mi di, .slice Bo mo do']] w fun en w' => en = .returned (.bool true) ∧ Below w.heap.size w w' := by
  go_enter Try.func4, Try.ntmps4
  go_upto_region 1 with fail
  obtain ⟨w1, e_w1⟩ : ∃ w', w.alloc (.cells #[.int .i64 k, .int .i64 p, .int .i64 q, .int .i64 r] 38) = w' := ⟨_, rfl⟩
  have b : Below w.heap.size w w1 := e_w1 ▸ below_lit _ _
  have hs_w1 : w1.heap.size = w.heap.size + 1 := e_w1 ▸ size_lit w _ rfl
  have zx : Bx w1 w.heap.size [.int .i64 k, .int .i64 p, .int .i64 q, .int .i64 r] := e_w1 ▸ Bx.made_k w rfl #[.int .i64 k, .int .i64 p, .int .i64 q, .int .i64 r] 38
  rw [e_w1]
  clear e_w1
  replace ha := ha.on b
  replace hb := hb.on b
  have BW := b
  clear b
  obtain ⟨w2, e_w2⟩ : ∃ w', w1.alloc (.cells #[.slice An nn cn, .slice Ai ni ci, .slice Ao no co] 25) = w' := ⟨_, rfl⟩
  have b : Below w1.heap.size w1 w2 := e_w2 ▸ below_lit _ _
  have hs_w2 : w2.heap.size = (w.heap.size + 1) + 1 := e_w2 ▸ size_lit w1 _ hs_w1
  have za : Bx w2 (w.heap.size + 1) [.slice An nn cn, .slice Ai ni ci, .slice Ao no co] := e_w2 ▸ Bx.made_k w1 hs_w1 #[.slice An nn cn, .slice Ai ni ci, .slice Ao no co] 25
  rw [e_w2]
  clear e_w2
  replace ha := ha.on b
  replace hb := hb.on b
  replace zx := zx.on b
  replace BW := Below.step BW b
  clear b
  obtain ⟨w3, e_w3⟩ : ∃ w', w2.alloc (.cells #[.slice Bn mn dn, .slice Bi mi di, .slice Bo mo do'] 25) = w' := ⟨_, rfl⟩
  have b : Below w2.heap.size w2 w3 := e_w3 ▸ below_lit _ _
  have hs_w3 : w3.heap.size = ((w.heap.size + 1) + 1) + 1 := e_w3 ▸ size_lit w2 _ hs_w2
  have zb : Bx w3 ((w.heap.size + 1) + 1) [.slice Bn mn dn, .slice Bi mi di, .slice Bo mo do'] := e_w3 ▸ Bx.made_k w2 hs_w2 #[.slice Bn mn dn, .slice Bi mi di, .slice Bo mo do'] 25
  rw [e_w3]
  clear e_w3
  replace ha := ha.on b
  replace hb := hb.on b
  replace zx := zx.on b
  replace za := za.on b
  replace BW := Below.step BW b
  clear b
  clear hs_w1 hs_w2 hs_w3
  obtain ⟨s_zb, h_zb⟩ : ∃ a, ((w.heap.size + 1) + 1) = a := ⟨_, rfl⟩
  rw [h_zb] at zb ⊢
  clear h_zb
  obtain ⟨s_za, h_za⟩ : ∃ a, (w.heap.size + 1) = a := ⟨_, rfl⟩
  rw [h_za] at za ⊢
  clear h_za
  go_wp2_with fail
  refine (awake6_any _).mono ?_
  rintro en w4 ⟨rfl, b⟩
  replace ha := ha.on b
  replace hb := hb.on b
  replace zx := zx.on b
  replace za := za.on b
  replace zb := zb.on b
  replace BW := Below.step BW b
  clear b
  have zac0 := za.2 0 _ rfl
  have zac1 := za.2 1 _ rfl
  have zac2 := za.2 2 _ rfl
  go_wp2_with fail
  obtain ⟨va, hv⟩ : ∃ v, largeS nn ni no I O 60 = v := ⟨_, rfl⟩
  have Hva := Lib.hid hv
  clear hv
  refine (ha.large va Hva.out).mono ?_
  rintro en w5 ⟨rfl, b⟩
  clear zac0 zac1 zac2
  replace ha := ha.on b
  replace hb := hb.on b
  replace zx := zx.on b
  replace za := za.on b
  replace zb := zb.on b
  replace BW := Below.step BW b
  clear b
  cases va
  case true =>
    go_wp2_with fail
    go_ret
    exact ⟨rfl, BW⟩
  obtain ⟨vb, hv⟩ : ∃ v, largeS mn mi mo I' O' 60 = v := ⟨_, rfl⟩
  have Hvb := Lib.hid hv
  clear hv
  have zbc0 := zb.2 0 _ rfl
  have zbc1 := zb.2 1 _ rfl
  have zbc2 := zb.2 2 _ rfl
  go_wp2_with fail
  refine (hb.large vb Hvb.out).mono ?_
  rintro en w6 ⟨rfl, b⟩
  clear zbc0 zbc1 zbc2
  replace ha := ha.on b
  replace hb := hb.on b
  replace zx := zx.on b
  replace za := za.on b
  replace zb := zb.on b
  replace BW := Below.step BW b
  clear b
  cases vb
  case true =>
    go_wp2_with fail
    go_ret
    exact ⟨rfl, BW⟩
  by_cases h200 : (200 : Int) < (s.size : Int)
  case pos =>
    go_wp2_with fail
    go_ret
    exact ⟨rfl, BW⟩
  obtain ⟨hna, hn60, _, _, hbb⟩ := ha.nt Hva.out
  have sn := ha.sn
  have HBB := Lib.hid hbb
  have hnb := (hb.nt Hvb.out).1
  clear ha hb
  clear hbb Hva Hvb
  have hs200 : s.size ≤ 1000000 := by omega
  go_upto_region 6 with fail
  clear h200
  obtain ⟨w7, e_w7⟩ : ∃ w', w6.alloc (.cells #[.int .i64 0, .int .i64 0, .int .i64 0, .int .i64 0, .int .i64 0, .int .i64 0, .int .i64 0, .int .i64 0] 39) = w' := ⟨_, rfl⟩
  have b : Below w6.heap.size w6 w7 := e_w7 ▸ below_lit _ _
  obtain ⟨g, hg⟩ : ∃ g, w6.heap.size = g := ⟨_, rfl⟩
  have ho : Own w7 g 39 (rg (cntS (N.take 0)) 8) := by rw [← hg]; exact e_w7 ▸ Own.made w6 39 [.int .i64 0, .int .i64 0, .int .i64 0, .int .i64 0, .int .i64 0, .int .i64 0, .int .i64 0, .int .i64 0]
  have hgb : w6.heap.size ≤ g := Nat.le_of_eq hg
  rw [e_w7, hg]
  clear e_w7 hg
  have BL := b
  have hnaB := hna; have hnbB := hnb; have zxB := zx; have zaB := za; have zbB := zb; have BWB := BW
  replace zx := zx.on b
  replace za := za.on b
  replace zb := zb.on b
  replace hna := hna.on b
  replace hnb := hnb.on b
  replace BW := Below.step BW b
  clear b
  have zac0 := za.2 0 _ rfl
  have zac1 := za.2 1 _ rfl
  have zac2 := za.2 2 _ rfl
  go_wp2_with fail
  clear zac0 zac1 zac2
  go_loopw [29] (fun i wr => ∃ j : Nat, j ≤ nn ∧ i = .int .i64 j ∧ Own wr g 39 (rg (cntS (N.take j)) 8) ∧ Below w6.heap.size w6 wr) (fun i _ => nn - (intOf i).toNat)
  case atStart => exact ⟨0, Nat.zero_le _, rfl, ho, BL⟩
  case round =>
    clear ho BL hna hnb zx za zb BW
    obtain ⟨j, hj, rfl, ho, BL⟩ := hrel
    by_cases hlt : j < nn
    · obtain ⟨b0, off, x1, x2, x3, x4, eA, HX, n1, n2, n3, n4⟩ := (hnaB.n.on BL).at hlt
      have hj0 : (0 : Int) ≤ (j : Int) := by omega
      have hj1 : (j : Int) < (nn : Int) := by omega
      subst eA
      go_upto_region 9 with fail
      obtain ⟨w4, e_w4⟩ : ∃ w', wr.alloc (.cells #[.int .i64 x1, .int .i64 x2, .int .i64 x3, .int .i64 x4] 38) = w' := ⟨_, rfl⟩
      have z : Bx w4 wr.heap.size [.int .i64 x1, .int .i64 x2, .int .i64 x3, .int .i64 x4] := e_w4 ▸ Bx.made_k wr rfl #[.int .i64 x1, .int .i64 x2, .int .i64 x3, .int .i64 x4] 38
      have b4 : Below wr.heap.size wr w4 := e_w4 ▸ below_lit _ _
      rw [e_w4]
      clear e_w4 n1 n2 n3 n4
      have zc0 := z.2 0 _ rfl
      have ho4 := ho.below b4 ho.lt
      have BL4 := Below.step BL b4
      clear ho BL b4 z
      by_cases hk : 0 ≤ x1 ∧ x1 < 8
      · obtain ⟨u, rfl, hu⟩ : ∃ u : Nat, x1 = (u : Int) ∧ u < 8 := ⟨x1.toNat, by omega, by omega⟩
        clear hk
        obtain ⟨c, hc⟩ : ∃ c, cntS (N.take j) u = c := ⟨_, rfl⟩
        have hcj : c ≤ 1000000 := by
          have h1 := cnt_le (N.take j) u
          rw [hc, List.length_take] at h1
          omega
        obtain ⟨c', hc'⟩ : ∃ c', c + 1 = c' := ⟨_, rfl⟩
        have oc := (ho4.cell u).trans (rg_at _ hu)
        rw [hc] at oc
        have of := ho4.free u
        have e2 : (c : Int) + 1 = (c' : Int) := by omega
        have i0 : (0 : Int) ≤ (u : Int) := by omega
        have i1 : (u : Int) < 8 := by omega
        have ho6 := ho4.put u (.int .i64 (c' : Int))
        rw [rg_set (cntS (N.take j)) (cntS (N.take (j + 1))) (by rw [cnt_succ HX.out, if_pos rfl, hc]; exact hc') (fun v _ hne => by rw [cnt_succ HX.out, if_neg (by simp only []; omega)]; rfl)] at ho6
        have BL6 := BL4.setCell (p := ⟨g, u, none⟩) hgb (.int .i64 (c' : Int))
        clear hc ho4 BL4
        go_wp2_with fail
        go_roundw
        case rel => exact ⟨j + 1, by omega, by go_num, ho6, BL6⟩
        case measure => simp [intOf]; omega
      · have HE : Hid (rg (cntS (N.take j)) 8 = rg (cntS (N.take (j + 1))) 8) := Lib.hid (rg_congr fun u hu => by
          rw [cnt_succ HX.out, if_neg]
          · rfl
          · intro e
            simp only [] at e
            omega)
        rw [HE.out] at ho4
        clear HE
        by_cases h0 : 0 ≤ x1
        · have h8 : ¬ x1 < 8 := by omega
          clear hk
          go_wp2_with fail
          go_roundw
          case rel => exact ⟨j + 1, by omega, by go_num, ho4, BL4⟩
          case measure => simp [intOf]; omega
        · clear hk
          go_wp2_with fail
          go_roundw
          case rel => exact ⟨j + 1, by omega, by go_num, ho4, BL4⟩
          case measure => simp [intOf]; omega
    · obtain rfl : j = nn := by omega
      have hj1 : ¬ (j : Int) < (j : Int) := by omega
      have e : N.take j = N := List.take_of_length_le (by rw [hnaB.n.1]; exact Nat.le_refl _)
      rw [e] at ho
      clear e
      obtain ⟨w9, rfl⟩ : ∃ x, x = wr := ⟨_, rfl⟩
      have zc : Bx w9 g _ := ho.bx
      rw [rg8e] at zc
      have BW := Below.step BWB BL
      have hna := hnaB.on BL
      have hnb := hnbB.on BL
      have zx := zxB.on BL
      have za := zaB.on BL
      have zb := zbB.on BL
      clear hnaB hnbB zxB zaB zbB BWB BL ho
      go_wp2_with fail
      obtain ⟨vn, hvn⟩ : ∃ v, nameS s = v := ⟨_, rfl⟩
      have HVN := Lib.hid hvn
      obtain ⟨vs, hvs⟩ : ∃ v, sameS N N' I I' O O' = v := ⟨_, rfl⟩
      have HVS := Lib.hid hvs
      clear hvn hvs
      try dsimp only [List.append]
      refine region_plan [0, 2, 1, 3, 4, 5, 6, 8, 7, 9, 10, 11, 12, 13, 15, 14, 16, 17, 18, 19, 20, 22, 23, 21, 24, 25, 26, 27, 28, 30, 29, 31, 32, 33] (by kernel_rfl) (by kernel_rfl) (by kernel_rfl) (by kernel_rfl) (by kernel_rfl) ?_
      dsimp only [pick, nth]
      replace hna := hna.on ((Below.refl _ _).drew : Below w9.heap.size w9 w9.drew)
      replace hnb := hnb.on ((Below.refl _ _).drew : Below w9.heap.size w9 w9.drew)
      replace zx := zx.on ((Below.refl _ _).drew : Below w9.heap.size w9 w9.drew)
      replace za := za.on ((Below.refl _ _).drew : Below w9.heap.size w9 w9.drew)
      replace zb := zb.on ((Below.refl _ _).drew : Below w9.heap.size w9 w9.drew)
      replace zc := zc.on ((Below.refl _ _).drew : Below w9.heap.size w9 w9.drew)
      replace BW := Below.step BW ((Below.refl _ _).drew : Below w9.heap.size w9 w9.drew)
      obtain ⟨w21, e_w21⟩ : ∃ w', w9.drew = w' := ⟨_, rfl⟩
      rw [e_w21] at hna hnb zx za zb zc BW ⊢
      clear e_w21
      have lf0 := fun s : Wd w21 => (zx.on s.below).2 0 _ rfl
      have lf1 := fun s : Wd w21 => (zx.on s.below).2 1 _ rfl
      have lf2 := fun s : Wd w21 => (zx.on s.below).2 2 _ rfl
      have lf3 := fun s : Wd w21 => (zx.on s.below).2 3 _ rfl
      have lf4 := fun s : Wd w21 => (za.on s.below).2 0 _ rfl
      have lf5 := fun s : Wd w21 => (za.on s.below).2 1 _ rfl
      have lf6 := fun s : Wd w21 => (za.on s.below).2 2 _ rfl
      have lf7 := fun s : Wd w21 => (zb.on s.below).2 0 _ rfl
      have lf8 := fun s : Wd w21 => (zb.on s.below).2 1 _ rfl
      have lf9 := fun s : Wd w21 => (zb.on s.below).2 2 _ rfl
      have lf10 := fun s : Wd w21 => (zc.on s.below).2 0 _ rfl
      have lf11 := fun s : Wd w21 => (zc.on s.below).2 1 _ rfl
      have lf12 := fun s : Wd w21 => (zc.on s.below).2 2 _ rfl
      have lf13 := fun s : Wd w21 => (zc.on s.below).2 3 _ rfl
      have lf14 := fun s : Wd w21 => (zc.on s.below).2 4 _ rfl
      have lf15 := fun s : Wd w21 => (zc.on s.below).2 5 _ rfl
      have lf16 := fun s : Wd w21 => (zc.on s.below).2 6 _ rfl
      have lf17 := fun s : Wd w21 => (zc.on s.below).2 7 _ rfl
      refine lex_plain 2 (by kernel_rfl) ?_
      dsimp only [List.take, List.drop]
      repeat go_big_quiet_step (fail)
      refine wpQuiet_nil ?_
      clear lf0 lf1 lf2 lf3 lf4 lf5 lf6 lf7 lf8 lf9 lf10 lf11 lf12 lf13 lf14 lf15 lf16 lf17
      refine lex_call (by kernel_rfl) (by kernel_rfl) (fun w22 b K hK => ?_)
      replace hna := hna.on b
      replace hnb := hnb.on b
      replace zx := zx.on b
      replace za := za.on b
      replace zb := zb.on b
      replace zc := zc.on b
      replace BW := Below.step BW b
      clear b
      go_simp
      refine (uses_as k p q r _).mono ?_
      rintro en w23 ⟨A5, m5, c5, rfl, hi5, _, b⟩
      dsimp only
      refine hK _ _ b ?_
      clear hK K
      replace hna := hna.on b
      replace hnb := hnb.on b
      replace zx := zx.on b
      replace za := za.on b
      replace zb := zb.on b
      replace zc := zc.on b
      replace BW := Below.step BW b
      clear b
      have hm5 : m5 ≤ 3 := by rw [← hi5.1, usesS_length]; exact manyS_le k
      refine lex_call (by kernel_rfl) (by kernel_rfl) (fun w24 b K hK => ?_)
      replace hna := hna.on b
      replace hnb := hnb.on b
      replace zx := zx.on b
      replace za := za.on b
      replace zb := zb.on b
      replace zc := zc.on b
      replace hi5 := hi5.on b
      replace BW := Below.step BW b
      clear b
      go_simp
      refine (ruses_as k p q r _).mono ?_
      rintro en w25 ⟨A6, m6, c6, rfl, hi6, hm6, b⟩
      dsimp only
      refine hK _ _ b ?_
      clear hK K
      replace hna := hna.on b
      replace hnb := hnb.on b
      replace zx := zx.on b
      replace za := za.on b
      replace zb := zb.on b
      replace zc := zc.on b
      replace hi5 := hi5.on b
      replace BW := Below.step BW b
      clear b
      refine lex_call (by kernel_rfl) (by kernel_rfl) (fun w26 b K hK => ?_)
      replace hna := hna.on b
      replace hnb := hnb.on b
      replace zx := zx.on b
      replace za := za.on b
      replace zb := zb.on b
      replace zc := zc.on b
      replace hi5 := hi5.on b
      replace hi6 := hi6.on b
      replace BW := Below.step BW b
      clear b
      go_simp
      refine (rints_as hi5 hi6 (by omega) true (by simp)).mono ?_
      rintro en w27 ⟨rfl, b⟩
      dsimp only
      refine hK _ _ b ?_
      clear hK K
      replace hna := hna.on b
      replace hnb := hnb.on b
      replace zx := zx.on b
      replace za := za.on b
      replace zb := zb.on b
      replace zc := zc.on b
      replace hi5 := hi5.on b
      replace hi6 := hi6.on b
      replace BW := Below.step BW b
      clear b
      have lf0 := fun s : Wd w27 => (zx.on s.below).2 0 _ rfl
      have lf1 := fun s : Wd w27 => (zx.on s.below).2 1 _ rfl
      have lf2 := fun s : Wd w27 => (zx.on s.below).2 2 _ rfl
      have lf3 := fun s : Wd w27 => (zx.on s.below).2 3 _ rfl
      have lf4 := fun s : Wd w27 => (za.on s.below).2 0 _ rfl
      have lf5 := fun s : Wd w27 => (za.on s.below).2 1 _ rfl
      have lf6 := fun s : Wd w27 => (za.on s.below).2 2 _ rfl
      have lf7 := fun s : Wd w27 => (zb.on s.below).2 0 _ rfl
      have lf8 := fun s : Wd w27 => (zb.on s.below).2 1 _ rfl
      have lf9 := fun s : Wd w27 => (zb.on s.below).2 2 _ rfl
      have lf10 := fun s : Wd w27 => (zc.on s.below).2 0 _ rfl
      have lf11 := fun s : Wd w27 => (zc.on s.below).2 1 _ rfl
      have lf12 := fun s : Wd w27 => (zc.on s.below).2 2 _ rfl
      have lf13 := fun s : Wd w27 => (zc.on s.below).2 3 _ rfl
      have lf14 := fun s : Wd w27 => (zc.on s.below).2 4 _ rfl
      have lf15 := fun s : Wd w27 => (zc.on s.below).2 5 _ rfl
      have lf16 := fun s : Wd w27 => (zc.on s.below).2 6 _ rfl
      have lf17 := fun s : Wd w27 => (zc.on s.below).2 7 _ rfl
      refine lex_plain 3 (by kernel_rfl) ?_
      dsimp only [List.take, List.drop]
      repeat go_big_quiet_step (fail)
      refine wpQuiet_nil ?_
      clear lf0 lf1 lf2 lf3 lf4 lf5 lf6 lf7 lf8 lf9 lf10 lf11 lf12 lf13 lf14 lf15 lf16 lf17
      refine lex_call (by kernel_rfl) (by kernel_rfl) (fun w28 b K hK => ?_)
      replace hna := hna.on b
      replace hnb := hnb.on b
      replace zx := zx.on b
      replace za := za.on b
      replace zb := zb.on b
      replace zc := zc.on b
      replace hi5 := hi5.on b
      replace hi6 := hi6.on b
      replace BW := Below.step BW b
      clear b
      go_simp
      refine (name_as s vn HVN.out _).mono ?_
      rintro en w29 ⟨rfl, b⟩
      dsimp only
      refine hK _ _ b ?_
      clear hK K
      replace hna := hna.on b
      replace hnb := hnb.on b
      replace zx := zx.on b
      replace za := za.on b
      replace zb := zb.on b
      replace zc := zc.on b
      replace hi5 := hi5.on b
      replace hi6 := hi6.on b
      replace BW := Below.step BW b
      clear b
      refine lex_call (by kernel_rfl) (by kernel_rfl) (fun w30 b K hK => ?_)
      replace hna := hna.on b
      replace hnb := hnb.on b
      replace zx := zx.on b
      replace za := za.on b
      replace zb := zb.on b
      replace zc := zc.on b
      replace hi5 := hi5.on b
      replace hi6 := hi6.on b
      replace BW := Below.step BW b
      clear b
      go_simp
      refine (rname_as s vn HVN.out hs200 _).mono ?_
      rintro en w31 ⟨rfl, b⟩
      dsimp only
      refine hK _ _ b ?_
      clear hK K
      replace hna := hna.on b
      replace hnb := hnb.on b
      replace zx := zx.on b
      replace za := za.on b
      replace zb := zb.on b
      replace zc := zc.on b
      replace hi5 := hi5.on b
      replace hi6 := hi6.on b
      replace BW := Below.step BW b
      clear b
      have hvv : (vn == vn) = true := by simp
      have lf0 := fun s : Wd w31 => (zx.on s.below).2 0 _ rfl
      have lf1 := fun s : Wd w31 => (zx.on s.below).2 1 _ rfl
      have lf2 := fun s : Wd w31 => (zx.on s.below).2 2 _ rfl
      have lf3 := fun s : Wd w31 => (zx.on s.below).2 3 _ rfl
      have lf4 := fun s : Wd w31 => (za.on s.below).2 0 _ rfl
      have lf5 := fun s : Wd w31 => (za.on s.below).2 1 _ rfl
      have lf6 := fun s : Wd w31 => (za.on s.below).2 2 _ rfl
      have lf7 := fun s : Wd w31 => (zb.on s.below).2 0 _ rfl
      have lf8 := fun s : Wd w31 => (zb.on s.below).2 1 _ rfl
      have lf9 := fun s : Wd w31 => (zb.on s.below).2 2 _ rfl
      have lf10 := fun s : Wd w31 => (zc.on s.below).2 0 _ rfl
      have lf11 := fun s : Wd w31 => (zc.on s.below).2 1 _ rfl
      have lf12 := fun s : Wd w31 => (zc.on s.below).2 2 _ rfl
      have lf13 := fun s : Wd w31 => (zc.on s.below).2 3 _ rfl
      have lf14 := fun s : Wd w31 => (zc.on s.below).2 4 _ rfl
      have lf15 := fun s : Wd w31 => (zc.on s.below).2 5 _ rfl
      have lf16 := fun s : Wd w31 => (zc.on s.below).2 6 _ rfl
      have lf17 := fun s : Wd w31 => (zc.on s.below).2 7 _ rfl
      refine lex_plain 5 (by kernel_rfl) ?_
      dsimp only [List.take, List.drop]
      repeat go_big_quiet_step (fail)
      refine wpQuiet_nil ?_
      clear lf0 lf1 lf2 lf3 lf4 lf5 lf6 lf7 lf8 lf9 lf10 lf11 lf12 lf13 lf14 lf15 lf16 lf17
      refine lex_call (by kernel_rfl) (by kernel_rfl) (fun w32 b K hK => ?_)
      replace hna := hna.on b
      replace hnb := hnb.on b
      replace zx := zx.on b
      replace za := za.on b
      replace zb := zb.on b
      replace zc := zc.on b
      replace hi5 := hi5.on b
      replace hi6 := hi6.on b
      replace BW := Below.step BW b
      clear b
      go_simp
      refine (counts_as hna).mono ?_
      rintro en w33 ⟨rfl, b⟩
      dsimp only
      refine hK _ _ b ?_
      clear hK K
      replace hna := hna.on b
      replace hnb := hnb.on b
      replace zx := zx.on b
      replace za := za.on b
      replace zb := zb.on b
      replace zc := zc.on b
      replace hi5 := hi5.on b
      replace hi6 := hi6.on b
      replace BW := Below.step BW b
      clear b
      have lf0 := fun s : Wd w33 => (zx.on s.below).2 0 _ rfl
      have lf1 := fun s : Wd w33 => (zx.on s.below).2 1 _ rfl
      have lf2 := fun s : Wd w33 => (zx.on s.below).2 2 _ rfl
      have lf3 := fun s : Wd w33 => (zx.on s.below).2 3 _ rfl
      have lf4 := fun s : Wd w33 => (za.on s.below).2 0 _ rfl
      have lf5 := fun s : Wd w33 => (za.on s.below).2 1 _ rfl
      have lf6 := fun s : Wd w33 => (za.on s.below).2 2 _ rfl
      have lf7 := fun s : Wd w33 => (zb.on s.below).2 0 _ rfl
      have lf8 := fun s : Wd w33 => (zb.on s.below).2 1 _ rfl
      have lf9 := fun s : Wd w33 => (zb.on s.below).2 2 _ rfl
      have lf10 := fun s : Wd w33 => (zc.on s.below).2 0 _ rfl
      have lf11 := fun s : Wd w33 => (zc.on s.below).2 1 _ rfl
      have lf12 := fun s : Wd w33 => (zc.on s.below).2 2 _ rfl
      have lf13 := fun s : Wd w33 => (zc.on s.below).2 3 _ rfl
      have lf14 := fun s : Wd w33 => (zc.on s.below).2 4 _ rfl
      have lf15 := fun s : Wd w33 => (zc.on s.below).2 5 _ rfl
      have lf16 := fun s : Wd w33 => (zc.on s.below).2 6 _ rfl
      have lf17 := fun s : Wd w33 => (zc.on s.below).2 7 _ rfl
      refine lex_plain 7 (by kernel_rfl) ?_
      dsimp only [List.take, List.drop]
      repeat go_big_quiet_step (fail)
      refine wpQuiet_nil ?_
      clear lf0 lf1 lf2 lf3 lf4 lf5 lf6 lf7 lf8 lf9 lf10 lf11 lf12 lf13 lf14 lf15 lf16 lf17
      refine lex_call (by kernel_rfl) (by kernel_rfl) (fun w34 b K hK => ?_)
      replace hna := hna.on b
      replace hnb := hnb.on b
      replace zx := zx.on b
      replace za := za.on b
      replace zb := zb.on b
      replace zc := zc.on b
      replace hi5 := hi5.on b
      replace hi6 := hi6.on b
      replace BW := Below.step BW b
      clear b
      go_simp
      refine (same_as hna hnb vs HVS.out).mono ?_
      rintro en w35 ⟨rfl, b⟩
      dsimp only
      refine hK _ _ b ?_
      clear hK K
      replace hna := hna.on b
      replace hnb := hnb.on b
      replace zx := zx.on b
      replace za := za.on b
      replace zb := zb.on b
      replace zc := zc.on b
      replace hi5 := hi5.on b
      replace hi6 := hi6.on b
      replace BW := Below.step BW b
      clear b
      refine lex_call (by kernel_rfl) (by kernel_rfl) (fun w36 b K hK => ?_)
      replace hna := hna.on b
      replace hnb := hnb.on b
      replace zx := zx.on b
      replace za := za.on b
      replace zb := zb.on b
      replace zc := zc.on b
      replace hi5 := hi5.on b
      replace hi6 := hi6.on b
      replace BW := Below.step BW b
      clear b
      go_simp
      refine (rsame_as hna hnb vs HVS.out).mono ?_
      rintro en w37 ⟨rfl, b⟩
      dsimp only
      refine hK _ _ b ?_
      clear hK K
      replace hna := hna.on b
      replace hnb := hnb.on b
      replace zx := zx.on b
      replace za := za.on b
      replace zb := zb.on b
      replace zc := zc.on b
      replace hi5 := hi5.on b
      replace hi6 := hi6.on b
      replace BW := Below.step BW b
      clear b
      have hvv2 : (vs == vs) = true := by simp
      have lf0 := fun s : Wd w37 => (zx.on s.below).2 0 _ rfl
      have lf1 := fun s : Wd w37 => (zx.on s.below).2 1 _ rfl
      have lf2 := fun s : Wd w37 => (zx.on s.below).2 2 _ rfl
      have lf3 := fun s : Wd w37 => (zx.on s.below).2 3 _ rfl
      have lf4 := fun s : Wd w37 => (za.on s.below).2 0 _ rfl
      have lf5 := fun s : Wd w37 => (za.on s.below).2 1 _ rfl
      have lf6 := fun s : Wd w37 => (za.on s.below).2 2 _ rfl
      have lf7 := fun s : Wd w37 => (zb.on s.below).2 0 _ rfl
      have lf8 := fun s : Wd w37 => (zb.on s.below).2 1 _ rfl
      have lf9 := fun s : Wd w37 => (zb.on s.below).2 2 _ rfl
      have lf10 := fun s : Wd w37 => (zc.on s.below).2 0 _ rfl
      have lf11 := fun s : Wd w37 => (zc.on s.below).2 1 _ rfl
      have lf12 := fun s : Wd w37 => (zc.on s.below).2 2 _ rfl
      have lf13 := fun s : Wd w37 => (zc.on s.below).2 3 _ rfl
      have lf14 := fun s : Wd w37 => (zc.on s.below).2 4 _ rfl
      have lf15 := fun s : Wd w37 => (zc.on s.below).2 5 _ rfl
      have lf16 := fun s : Wd w37 => (zc.on s.below).2 6 _ rfl
      have lf17 := fun s : Wd w37 => (zc.on s.below).2 7 _ rfl
      refine lex_plain 5 (by kernel_rfl) ?_
      dsimp only [List.take, List.drop]
      repeat go_big_quiet_step (fail)
      refine wpQuiet_nil ?_
      clear lf0 lf1 lf2 lf3 lf4 lf5 lf6 lf7 lf8 lf9 lf10 lf11 lf12 lf13 lf14 lf15 lf16 lf17
      refine lex_call (by kernel_rfl) (by kernel_rfl) (fun w38 b K hK => ?_)
      replace hna := hna.on b
      replace hnb := hnb.on b
      replace zx := zx.on b
      replace za := za.on b
      replace zb := zb.on b
      replace zc := zc.on b
      replace hi5 := hi5.on b
      replace hi6 := hi6.on b
      replace BW := Below.step BW b
      clear b
      go_simp
      refine (clone_as hna sn (fun p hp => by have := (HBB.out p hp).1; omega)).mono ?_
      rintro en w39 ⟨Cn, en', Ci, ei, Co, eo, sg, rfl, hrow, hgs, swn, hpi, swi, hpo, swo, b⟩
      dsimp only
      refine hK _ _ b ?_
      clear hK K
      replace hna := hna.on b
      replace hnb := hnb.on b
      replace zx := zx.on b
      replace za := za.on b
      replace zb := zb.on b
      replace zc := zc.on b
      replace hi5 := hi5.on b
      replace hi6 := hi6.on b
      replace BW := Below.step BW b
      clear b
      have hcl := Nt.cloned hrow hpi hpo swi swo hna
      refine lex_call (by kernel_rfl) (by kernel_rfl) (fun w40 b K hK => ?_)
      replace hna := hna.on b
      replace hnb := hnb.on b
      replace zx := zx.on b
      replace za := za.on b
      replace zb := zb.on b
      replace zc := zc.on b
      replace hi5 := hi5.on b
      replace hi6 := hi6.on b
      replace hcl := hcl.on b
      replace BW := Below.step BW b
      clear b
      go_simp
      refine (rsame_as hcl hna true (sameS_self N I O)).mono ?_
      rintro en w41 ⟨rfl, b⟩
      dsimp only
      refine hK _ _ b ?_
      clear hK K
      replace hna := hna.on b
      replace hnb := hnb.on b
      replace zx := zx.on b
      replace za := za.on b
      replace zb := zb.on b
      replace zc := zc.on b
      replace hi5 := hi5.on b
      replace hi6 := hi6.on b
      replace hcl := hcl.on b
      replace BW := Below.step BW b
      clear b
      have lf0 := fun s : Wd w41 => (zx.on s.below).2 0 _ rfl
      have lf1 := fun s : Wd w41 => (zx.on s.below).2 1 _ rfl
      have lf2 := fun s : Wd w41 => (zx.on s.below).2 2 _ rfl
      have lf3 := fun s : Wd w41 => (zx.on s.below).2 3 _ rfl
      have lf4 := fun s : Wd w41 => (za.on s.below).2 0 _ rfl
      have lf5 := fun s : Wd w41 => (za.on s.below).2 1 _ rfl
      have lf6 := fun s : Wd w41 => (za.on s.below).2 2 _ rfl
      have lf7 := fun s : Wd w41 => (zb.on s.below).2 0 _ rfl
      have lf8 := fun s : Wd w41 => (zb.on s.below).2 1 _ rfl
      have lf9 := fun s : Wd w41 => (zb.on s.below).2 2 _ rfl
      have lf10 := fun s : Wd w41 => (zc.on s.below).2 0 _ rfl
      have lf11 := fun s : Wd w41 => (zc.on s.below).2 1 _ rfl
      have lf12 := fun s : Wd w41 => (zc.on s.below).2 2 _ rfl
      have lf13 := fun s : Wd w41 => (zc.on s.below).2 3 _ rfl
      have lf14 := fun s : Wd w41 => (zc.on s.below).2 4 _ rfl
      have lf15 := fun s : Wd w41 => (zc.on s.below).2 5 _ rfl
      have lf16 := fun s : Wd w41 => (zc.on s.below).2 6 _ rfl
      have lf17 := fun s : Wd w41 => (zc.on s.below).2 7 _ rfl
      refine lex_plain 2 (by kernel_rfl) ?_
      dsimp only [List.take, List.drop]
      repeat go_big_quiet_step (fail)
      refine wpQuiet_nil ?_
      clear lf0 lf1 lf2 lf3 lf4 lf5 lf6 lf7 lf8 lf9 lf10 lf11 lf12 lf13 lf14 lf15 lf16 lf17
      refine lex_nil (fun w42 b => ?_)
      replace hna := hna.on b
      replace hnb := hnb.on b
      replace zx := zx.on b
      replace za := za.on b
      replace zb := zb.on b
      replace zc := zc.on b
      replace hi5 := hi5.on b
      replace hi6 := hi6.on b
      replace hcl := hcl.on b
      replace BW := Below.step BW b
      clear b
      dsimp only [NoPanic]
      go_wp2_with fail
      go_ret
      exact ⟨rfl, BW⟩
end Go.Proofs.Ytcmdfkmjbfppgaa
