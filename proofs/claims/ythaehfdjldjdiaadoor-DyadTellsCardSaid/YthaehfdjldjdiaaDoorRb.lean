
/-
  The reference's told, at, Top; the law's is.
-/
import Derived.Test.YthaehfdjldjdiaaDoorRa
namespace Go.Proofs.YthaehfdjldjdiaaDoor
open Go.RowKit
set_option linter.unusedVariables false

theorem BR.le {w : World} {A : Option Addr} {n c x k : Nat} (h : BR w A n c x) (hk : blen x ≤ k) : n ≤ k := by rw [h.size]; exact hk

set_option maxHeartbeats 1000000 in
theorem rtold_as {A : Option Addr} {n c x : Nat} {neg : Bool} {e : Int} {w : World} {rn : Bool} {rx : Nat} {re err : Int} (h : BR w A n c x) (hn : n ≤ 100000) (he : -1000000 ≤ e) (he2 : e ≤ 1000000) (hr : tld (D.pl ⟨neg, x, e⟩) = (⟨rn, rx, re⟩, err)) :
    Calls Tryd.prog 38 #[.agg #[.bool neg, .slice A n c, .int .i64 e]] w (RDx w rn rx re err) := by
  have hbl : blen (D.pl ⟨neg, x, e⟩).x ≤ n := by rw [h.size]; exact pl_blen _
  obtain ⟨⟨dn, dx, de⟩, hd⟩ : ∃ d, D.pl ⟨neg, x, e⟩ = d := ⟨_, rfl⟩
  rw [hd] at hr hbl
  simp only at hbl
  obtain ⟨m, hm⟩ : ∃ b, D.may ⟨dn, dx, de⟩ = b := ⟨_, rfl⟩
  have HM := Lib.hid hm
  have HD := Lib.hid hd
  have HR := Lib.hid hr
  clear hm hd hr
  go_enter Tryd.func38, Tryd.ntmps38
  go_wp2_with fail
  obtain ⟨W, hW, z0, z1, BW, sW⟩ := frame2 w 34 34 neg A n c e false none 0 0 0
  rw [hW]
  clear hW
  refine (rplain_any (h.on BW) hn he he2 HD.out).mono ?_
  rintro en w1 ⟨A1, n1, c1, rfl, r1, b⟩
  have z1 := z1.on b
  have BW := Below.step BW b
  clear b z0
  have hn1 := r1.le hbl
  go_wp2_with fail
  obtain ⟨w2, e2⟩ : ∃ w', w1.alloc (dob dn A1 n1 c1 de 34) = w' := ⟨_, rfl⟩
  have b : Below w1.heap.size w1 w2 := e2 ▸ below_lit _ _
  have z2 : DB w2 w1.heap.size 34 dn A1 n1 c1 de := e2 ▸ DB.made w1 rfl 34 dn A1 n1 c1 de
  rw [e2]
  have z1 := z1.on b
  have r1 := r1.on b
  have BW := Below.step BW b
  clear b e2
  refine (rmay_any m r1 (by omega) HM.out).mono ?_
  rintro en w3 ⟨rfl, b⟩
  have z1 := z1.on b
  have z2 := z2.on b
  have r1 := r1.on b
  have BW := Below.step BW b
  clear b
  obtain ⟨p0, p1, p2, g0, g1, g2, _⟩ := z1.cells
  obtain ⟨q0, q1, q2, i0, i1, i2, _⟩ := z2.cells
  cases m
  · have hr := HR.out
    rw [tld_over HM.out] at hr
    injection hr with hr he'
    injection hr with i1' i2' i3'
    subst i1' i2' i3' he'
    go_wp2_with fail
    refine bodyPost_ret (v := .tuple #[.agg #[.bool false, .slice none 0 0, .int .i64 0], .int .i64 6]) (by simp [results, Tryd.results38, go_sem, p0, p1, p2]) rfl ?_
    exact ⟨none, 0, 0, rfl, BR.none_ _, below_put3 BW (by omega) _ _ _⟩
  · have hr := HR.out
    rw [tld_ok HM.out] at hr
    injection hr with hr he'
    injection hr with i1' i2' i3'
    subst i1' i2' i3' he'
    go_wp2_with fail
    refine bodyPost_ret (v := .tuple #[.agg #[.bool dn, .slice A1 n1 c1, .int .i64 de], .int .i64 0]) (by simp [results, Tryd.results38, go_sem, p0, p1, p2]) rfl ?_
    exact ⟨A1, n1, c1, rfl, z1.br tR r1 _ _ _, below_put3 BW (by omega) _ _ _⟩

theorem at_any {A : Option Addr} {n c x i : Nat} {neg : Bool} {e m : Int} {w : World} (h : BR w A n c x) (hn : n ≤ 100000) (e1 : -100000 ≤ e) (e2 : e ≤ 100000) (m1 : -100000 ≤ m) (m2 : m ≤ 100000) (hi : Hid (max (e - m) 0 = (i : Int))) :
    Calls Tryd.prog 39 #[.agg #[.bool neg, .slice A n c, .int .i64 e], .int .i64 m] w (BitsPost w (x * 2 ^ i)) := by
  have hi' : max (e - m) 0 = (i : Int) := hi.out
  have hi3 : i ≤ 200000 := by omega
  go_enter Tryd.func39, Tryd.ntmps39
  go_wp2_with fail
  refine (rleft_fit (h.on (below_lit _ _)) (by omega) i (by omega)).mono ?_
  rintro en w1 ⟨A1, n1, c1, rfl, r1, b⟩
  go_wp2_with fail
  go_ret
  exact ⟨A1, n1, c1, rfl, r1, Below.step (below_lit _ _) b⟩

set_option maxHeartbeats 1000000 in
theorem rtop_as {A : Option Addr} {n c x : Nat} {neg : Bool} {e : Int} {w : World} {q err : Int} (h : BR w A n c x) (hn : n ≤ 100000) (hr : topS ⟨neg, x, e⟩ = (q, err)) :
    Calls Tryd.prog 23 #[.agg #[.bool neg, .slice A n c, .int .i64 e]] w fun en w' => en = .returned (.tuple #[.int .i64 q, .int .i64 err]) ∧ Below w.heap.size w w' := by
  obtain ⟨m, hm⟩ : ∃ b, D.may ⟨neg, x, e⟩ = b := ⟨_, rfl⟩
  have HM := Lib.hid hm
  have hsz := h.size
  unfold topS at hr
  rw [hm] at hr
  cases m
  · rw [if_neg (by decide)] at hr
    injection hr with h1 h2
    subst h1 h2
    clear hm hsz
    go_enter Tryd.func23, Tryd.ntmps23
    go_wp2_with fail
    obtain ⟨W, hW, z0, BW, sW⟩ := frame1 w 34 neg A n c e
    rw [hW]
    clear hW
    refine (rmay_any false (h.on BW) (by omega) HM.out).mono ?_
    rintro en w1 ⟨rfl, b⟩
    have BW := Below.step BW b
    clear b
    go_wp2_with fail
    go_ret2
    exact ⟨rfl, BW⟩
  · rw [if_pos rfl] at hr
    obtain ⟨m0, m1, m2⟩ := (D.may_iff _).1 HM.out
    simp only at m0 m1 m2
    by_cases h0 : x = 0
    · subst h0
      obtain rfl : n = 0 := hsz
      rw [if_pos rfl] at hr
      injection hr with h1 h2
      subst h1 h2
      clear hm
      go_enter Tryd.func23, Tryd.ntmps23
      go_wp2_with fail
      obtain ⟨W, hW, z0, BW, sW⟩ := frame1 w 34 neg A 0 c e
      rw [hW]
      clear hW
      refine (rmay_any true (h.on BW) (by omega) HM.out).mono ?_
      rintro en w1 ⟨rfl, b⟩
      have BW := Below.step BW b
      obtain ⟨p0, p1, p2, g0, g1, g2, _⟩ := (z0.on b).cells
      clear b
      go_wp2_with fail
      go_ret2
      exact ⟨rfl, BW⟩
    · rw [if_neg h0] at hr
      injection hr with h1 h2
      simp only at h1
      rw [← hsz] at h1 m0
      subst h1 h2
      have hnz : ((n : Int) == 0) = false := by
        have := (blen_pos h0).2
        simp; omega
      clear hm hsz
      go_enter Tryd.func23, Tryd.ntmps23
      go_wp2_with fail
      obtain ⟨W, hW, z0, BW, sW⟩ := frame1 w 34 neg A n c e
      rw [hW]
      clear hW
      refine (rmay_any true (h.on BW) (by omega) HM.out).mono ?_
      rintro en w1 ⟨rfl, b⟩
      have BW := Below.step BW b
      obtain ⟨p0, p1, p2, g0, g1, g2, _⟩ := (z0.on b).cells
      clear b
      go_wp2_with fail
      go_ret2
      exact ⟨ret2_int (by omega) rfl, BW⟩

/-- is: the same number, told twice. -/
theorem is_any {A1 A2 : Option Addr} {n1 c1 n2 c2 x : Nat} {neg : Bool} {e err : Int} {w : World} (h1 : Res w A1 n1 x) (h2 : BR w A2 n2 c2 x) (s1 : n1 ≤ 100000) (s2 : n2 ≤ 100000) :
    Calls Tryd.prog 17 #[.agg #[.bool neg, .slice A1 n1 c1, .int .i64 e], .int .i64 err, .agg #[.bool neg, .slice A2 n2 c2, .int .i64 e], .int .i64 err] w fun en w' => en = .returned (.bool true) ∧ Below w.heap.size w w' := by
  go_enter Tryd.func17, Tryd.ntmps17
  go_wp2_with fail
  obtain ⟨W, hW, z0, z1, BW, sW⟩ := frame2 w 25 34 neg A1 n1 c1 e neg A2 n2 c2 e
  rw [hW]
  clear hW
  have HS : Hid (∀ w', DB w' w.heap.size 25 neg A1 n1 c1 e ∧ DB w' (w.heap.size + 1) 34 neg A2 n2 c2 e → w'.cell? ⟨w.heap.size, 0, none⟩ = some (.bool neg) ∧ w'.cell? ⟨w.heap.size, 1, none⟩ = some (.slice A1 n1 c1) ∧ w'.cell? ⟨w.heap.size, 2, none⟩ = some (.int .i64 e) ∧
      w'.cell? ⟨w.heap.size + 1, 0, none⟩ = some (.bool neg) ∧ w'.cell? ⟨w.heap.size + 1, 1, none⟩ = some (.slice A2 n2 c2) ∧ w'.cell? ⟨w.heap.size + 1, 2, none⟩ = some (.int .i64 e)) := fun w' h => ⟨h.1.cells.1, h.1.cells.2.1, h.1.cells.2.2.1, h.2.cells.1, h.2.cells.2.1, h.2.cells.2.2.1⟩
  have kb : DB W.drew w.heap.size 25 neg A1 n1 c1 e ∧ DB W.drew (w.heap.size + 1) 34 neg A2 n2 c2 e := ⟨z0.on ((Below.refl _ _).drew), z1.on ((Below.refl _ _).drew)⟩
  have HB := Lib.hid (Below.step BW ((Below.refl _ _).drew))
  have hbl := h2.size
  have HBL := Lib.hid hbl
  clear z0 z1 BW hbl
  go_region_held3 (fun w' => w'.cell? ⟨w.heap.size, 0, none⟩ = some (.bool neg) ∧ w'.cell? ⟨w.heap.size, 1, none⟩ = some (.slice A1 n1 c1) ∧ w'.cell? ⟨w.heap.size, 2, none⟩ = some (.int .i64 e) ∧
      w'.cell? ⟨w.heap.size + 1, 0, none⟩ = some (.bool neg) ∧ w'.cell? ⟨w.heap.size + 1, 1, none⟩ = some (.slice A2 n2 c2) ∧ w'.cell? ⟨w.heap.size + 1, 2, none⟩ = some (.int .i64 e))
    ((refine HS.out _ ?_; with_reducible assumption))
    (first
      | (go_at_call 47
         refine (rparts_any (h2.on HB.out) (by omega)).mono ?_
         rintro en w3 ⟨A3, n3, c3, rfl, r3, l3, b3⟩
         have kb := And.intro (kb.1.on b3) (kb.2.on b3)
         have HB := Lib.hid (Below.step HB.out b3)
         have R3 := Lib.hid r3
         have l3 : n3 ≤ 100000 := by rw [← HBL.out] at l3; omega
         clear r3 b3)
      | (go_at_call 30
         refine (same_res (h1.on HB.out) R3.out (by omega) (by omega)).mono ?_
         rintro en w4 ⟨rfl, b4⟩
         have kb := And.intro (kb.1.on b4) (kb.2.on b4)
         have HB := Lib.hid (Below.step HB.out b4)
         clear b4))
  go_wp2_with fail
  go_ret
  exact ⟨rfl, HB.out⟩
end Go.Proofs.YthaehfdjldjdiaaDoor
