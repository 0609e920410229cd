/-
  The reference's Of, May, Turned, Plain, told; the law's own, large.
  The reference's told, at, Top; the law's is.
-/
import Derived.Test.YtpachoeignpcbaaGreatDoorDE
namespace Go.Proofs.YtpachoeignpcbaaGreatDoor
open Go.RowKit
set_option linter.unusedVariables false

theorem BS.put {w : World} {A : Option Addr} {n : Nat} {bs : List Bool} (h : BS w A n bs) {s : Nat} {t : TypeId} {cs : List Value} (ho : Own w s t cs) (ht : t ≠ 4) (i : Nat) (v : Value) : BS (w.setCell ⟨s, i, none⟩ v) A n bs := by
  refine ⟨⟨h.1.1, fun j u hu => ?_⟩, h.2.put s i v⟩
  obtain ⟨b, off, e, hb, hc⟩ := h.1.2 j u hu
  refine ⟨b, off, e, by rw [size_setCell]; exact hb, ?_⟩
  rw [World.cell?_setCell_other]
  · exact hc
  · intro e2
    have hn : 0 < n := by
      rcases Nat.eq_zero_or_pos n with h0 | h0
      · have := h.1.1
        rw [h0] at this
        rw [List.eq_nil_of_length_eq_zero this] at hu
        simp at hu
      · exact h0
    obtain ⟨b', off', cs', f', e3, hc'⟩ := h.2 hn
    rw [e] at e3
    injection e3 with e3
    injection e3 with e4 e5
    injection e2 with e6 e7
    have hst : s = b' := e6.trans e4
    unfold Own at ho
    rw [hst, hc'] at ho
    injection ho with ho
    injection ho with _ ho
    exact ht ho.symm
theorem Box.br {w : World} {s : Nat} {t : TypeId} {a b c : Value} (h : Box w s t a b c) (ht : t ≠ 4) {A : Option Addr} {n k x : Nat} (hr : BR w A n k x) (a' b' c' : Value) : BR (put3 w s a' b' c') A n k x := by
  obtain ⟨bs, h1, h2⟩ := hr
  exact ⟨bs, ((h1.put h.1 ht 0 a').put (h.1.put 0 a') ht 1 b').put ((h.1.put 0 a').put 1 b') ht 2 c', h2⟩
theorem Box.drew_other {w : World} {s g : Nat} {t : TypeId} {a b c : Value} (h : Box w g t a b c) (hs : s ≠ g) (a' b' c' : Value) : Box (put3 w s a' b' c').drew g t a b c := (h.other hs a' b' c').on ((Below.refl _ _).drew)
theorem BR.none_ (w : World) : BR w none 0 0 0 := ⟨[], BS.nil_, Nat.le_refl _, by unfold maxLen; omega, BC.nil, rfl⟩
theorem tR : 71 ≠ 4 := by decide

def RPx (w : World) (rn : Bool) (rx : Nat) (re : Int) (e : Ending) (w' : World) : Prop := ∃ A n c, e = .returned (.agg #[.bool rn, .slice A n c, .int .i64 re]) ∧ BR w' A n c rx ∧ Below w.heap.size w w'
def RDx (w : World) (rn : Bool) (rx : Nat) (re err : Int) (e : Ending) (w' : World) : Prop := ∃ A n c, e = .returned (.tuple #[.agg #[.bool rn, .slice A n c, .int .i64 re], .int .i64 err]) ∧ BR w' A n c rx ∧ Below w.heap.size w w'

theorem rmay_any {A : Option Addr} {n c x : Nat} {neg : Bool} {e : Int} {w : World} (b : Bool) (h : BR w A n c x) (hn : n ≤ 1000000) (hb : D.may ⟨neg, x, e⟩ = b) :
    Calls Tryz.prog 59 #[.agg #[.bool neg, .slice A n c, .int .i64 e]] w fun en w' => en = .returned (.bool b) ∧ Below w.heap.size w w' := by
  have HB : Hid ((decide (n ≤ 4096) && (decide (-8192 ≤ e) && decide (e ≤ 8192))) = b) := by
    show _ = b
    rw [← hb, h.size]; rfl
  clear hb h
  by_cases h1 : n ≤ 4096
  · by_cases h2 : -8192 ≤ e
    · by_cases h3 : e ≤ 8192
      · obtain rfl : b = true := by rw [← HB.out]; simp [h1, h2, h3]
        have d1 : decide ((n : Int) ≤ 4096) = true := decide_eq_true (by omega)
        have d2 : decide (-8192 ≤ e) = true := decide_eq_true h2
        have d3 : decide (e ≤ 8192) = true := decide_eq_true h3
        go_enter Tryz.func59, Tryz.ntmps59
        go_wp2_with fail
        go_ret
        exact ⟨ret_bool (by first | rfl | simp [h1, h2, h3]), below_lit _ _⟩
      · obtain rfl : b = false := by rw [← HB.out]; simp [h3]
        have d1 : decide ((n : Int) ≤ 4096) = true := decide_eq_true (by omega)
        have d2 : decide (-8192 ≤ e) = true := decide_eq_true h2
        have d3 : decide (e ≤ 8192) = false := decide_eq_false h3
        go_enter Tryz.func59, Tryz.ntmps59
        go_wp2_with fail
        go_ret
        exact ⟨ret_bool (by first | rfl | simp [h3]), below_lit _ _⟩
    · obtain rfl : b = false := by rw [← HB.out]; simp [h2]
      have d1 : decide ((n : Int) ≤ 4096) = true := decide_eq_true (by omega)
      have d2 : decide (-8192 ≤ e) = false := decide_eq_false h2
      go_enter Tryz.func59, Tryz.ntmps59
      go_wp2_with fail
      go_ret
      exact ⟨ret_bool (by first | rfl | simp [h2]), below_lit _ _⟩
  · obtain rfl : b = false := by rw [← HB.out]; simp [h1]
    have d1 : decide ((n : Int) ≤ 4096) = false := decide_eq_false (by omega)
    go_enter Tryz.func59, Tryz.ntmps59
    go_wp2_with fail
    go_ret
    exact ⟨ret_bool (by first | rfl | (simp; omega)), below_lit _ _⟩

theorem rzeros_as {A : Option Addr} {n c x : Nat} {w : World} (k : Nat) (h : BR w A n c x) (hn : n ≤ 1000000) (hk : Ctz x k) :
    Calls Tryz.prog 97 #[.slice A n c] w fun e w' => e = .returned (.int .i64 (k : Int)) ∧ w = w' := by
  refine (rzeros_any h hn).mono ?_
  rintro e w' ⟨z, rfl, _, hz, _, rfl⟩
  rw [(hz hk.1).unique hk]
  exact ⟨rfl, rfl⟩
set_option maxHeartbeats 1000000 in
theorem rplain_any {A : Option Addr} {n c x : Nat} {neg : Bool} {e : Int} {w : World} {dn : Bool} {dx : Nat} {de : Int} (h : BR w A n c x) (hn : n ≤ 100000) (he : -1000000 ≤ e) (he2 : e ≤ 1000000) (hd : D.pl ⟨neg, x, e⟩ = ⟨dn, dx, de⟩) :
    Calls Tryz.prog 56 #[.agg #[.bool neg, .slice A n c, .int .i64 e]] w (RPx w dn dx de) := by
  have HD := Lib.hid hd
  clear hd
  have hsz := h.size
  by_cases h0 : x = 0
  · subst h0
    obtain rfl : n = 0 := hsz
    have := HD.out
    rw [D.pl_zero (d := ⟨neg, 0, e⟩) rfl] at this
    injection this with i1 i2 i3
    subst i1 i2 i3
    clear HD
    go_enter Tryz.func56, Tryz.ntmps56
    go_wp2_with fail
    refine bodyPost_ret (v := .agg #[.bool false, .slice none 0 0, .int .i64 0]) (by simp [results, Tryz.results56, go_sem]) rfl ?_
    exact ⟨none, 0, 0, rfl, BR.none_ _, Below.step (below_lit _ _) (below_lit _ _)⟩
  · have := HD.out
    rw [D.pl_pos (d := ⟨neg, x, e⟩) h0] at this
    injection this with i1 i2 i3
    subst i1 i2 i3
    simp only
    have htz := (tz_blen h0).1
    rw [← hsz] at htz
    have HZ := Lib.hid (tz_ctz x h0)
    generalize tz x = k at *
    obtain ⟨bs, h1, h2, h3, h4, h5⟩ := id h
    have h3' := h3
    unfold maxLen at h3'
    obtain ⟨bb, off, _, hA, _⟩ := h1.look (k := 0) (by omega)
    subst hA
    have hdr : BR w (some ⟨bb, off + k, none⟩) (n - k) (c - k) (x / 2 ^ k) := by
      obtain ⟨A', hd, hA1, hA2⟩ := BS.drop h1 h2 (k := k) (by omega)
      obtain ⟨l1, l2⟩ := h4.drop k
      have := hA2 (by omega)
      rw [Option.map_some, add_at] at this
      subst this
      exact ⟨_, hd, by omega, by omega, l1, by rw [l2, h5]⟩
    have HDR := Lib.hid hdr
    clear hdr h1 h4 h5 HD hsz
    have hnz : ((n : Int) == 0) = false := by simp; omega
    go_enter Tryz.func56, Tryz.ntmps56
    go_wp2_with fail
    obtain ⟨W, hW, z0, z1, BW, sW⟩ := frame2 w 71 71 neg (some ⟨bb, off, none⟩) n c e false none 0 0 0
    rw [hW]
    clear hW
    refine (rzeros_as k (h.on BW) (by omega) HZ.out).mono ?_
    rintro en w' ⟨rfl, rfl⟩
    go_wp2_with fail
    have HS : Hid (∀ w', DB w' w.heap.size 71 neg (some ⟨bb, off, none⟩) n c e → w'.cell? ⟨w.heap.size, 0, none⟩ = some (.bool neg) ∧ w'.cell? ⟨w.heap.size, 1, none⟩ = some (.slice (some ⟨bb, off, none⟩) n c) ∧ w'.cell? ⟨w.heap.size, 2, none⟩ = some (.int .i64 e)) := fun w' h => ⟨h.cells.1, h.cells.2.1, h.cells.2.2.1⟩
    have ka : DB W.drew w.heap.size 71 neg (some ⟨bb, off, none⟩) n c e := z0.on ((Below.refl _ _).drew)
    have HBW := Lib.hid BW
    have KZ := Lib.hid z1
    obtain ⟨p0, p1, p2, g0, g1, g2, _⟩ := z1.cells
    have q1 : IntKind.i64.wrap (e + (k : Int)) = e + (k : Int) := IntWalk.i64_in _ (by omega)
    have i1 : (0 : Int) ≤ (k : Int) := by omega
    have i2 : (k : Int) ≤ (n : Int) := by omega
    have i3 : (n : Int) ≤ (c : Int) := by omega
    have i4 : ¬ c = k := by omega
    clear z1 BW
    go_region_held3 (fun w' => w'.cell? ⟨w.heap.size, 0, none⟩ = some (.bool neg) ∧ w'.cell? ⟨w.heap.size, 1, none⟩ = some (.slice (some ⟨bb, off, none⟩) n c) ∧ w'.cell? ⟨w.heap.size, 2, none⟩ = some (.int .i64 e))
      ((refine HS.out _ ?_; first | (with_reducible assumption) | ((with_reducible refine Box.drew_other ?_ ?_ _ _ _) <;> first | (with_reducible assumption) | omega)))
      (fail)
    go_wp2_with fail
    refine bodyPost_ret (v := .agg #[.bool neg, .slice (some ⟨bb, off + k, none⟩) (n - k) (c - k), .int .i64 (e + k)]) (by simp [results, Tryz.results56, go_sem, p0, p1, p2]) rfl ?_
    refine ⟨_, _, _, rfl, ?_, (below_put3 HBW.out (by omega) _ _ _).drew⟩
    exact (KZ.out.br tR (HDR.out.on HBW.out) _ _ _).on ((Below.refl _ _).drew)
end Go.Proofs.YtpachoeignpcbaaGreatDoor

namespace Go.Proofs.YtpachoeignpcbaaGreatDoor
open Go.RowKit
set_option linter.unusedVariables false

theorem BR.le {w : World} {A : Option Addr} {n c x k : Nat} (h : BR w A n c x) (hk : blen x ≤ k) : n ≤ k := by rw [h.size]; exact hk

set_option maxHeartbeats 1000000 in
theorem rtold_as {A : Option Addr} {n c x : Nat} {neg : Bool} {e : Int} {w : World} {rn : Bool} {rx : Nat} {re err : Int} (h : BR w A n c x) (hn : n ≤ 100000) (he : -1000000 ≤ e) (he2 : e ≤ 1000000) (hr : tld (D.pl ⟨neg, x, e⟩) = (⟨rn, rx, re⟩, err)) :
    Calls Tryz.prog 60 #[.agg #[.bool neg, .slice A n c, .int .i64 e]] w (RDx w rn rx re err) := by
  have hbl : blen (D.pl ⟨neg, x, e⟩).x ≤ n := by rw [h.size]; exact pl_blen _
  obtain ⟨⟨dn, dx, de⟩, hd⟩ : ∃ d, D.pl ⟨neg, x, e⟩ = d := ⟨_, rfl⟩
  rw [hd] at hr hbl
  simp only at hbl
  obtain ⟨m, hm⟩ : ∃ b, D.may ⟨dn, dx, de⟩ = b := ⟨_, rfl⟩
  have HM := Lib.hid hm
  have HD := Lib.hid hd
  have HR := Lib.hid hr
  clear hm hd hr
  go_enter Tryz.func60, Tryz.ntmps60
  go_wp2_with fail
  obtain ⟨W, hW, z0, z1, BW, sW⟩ := frame2 w 71 71 neg A n c e false none 0 0 0
  rw [hW]
  clear hW
  refine (rplain_any (h.on BW) hn he he2 HD.out).mono ?_
  rintro en w1 ⟨A1, n1, c1, rfl, r1, b⟩
  have z1 := z1.on b
  have BW := Below.step BW b
  clear b z0
  have hn1 := r1.le hbl
  go_wp2_with fail
  obtain ⟨w2, e2⟩ : ∃ w', w1.alloc (dob dn A1 n1 c1 de 71) = w' := ⟨_, rfl⟩
  have b : Below w1.heap.size w1 w2 := e2 ▸ below_lit _ _
  have z2 : DB w2 w1.heap.size 71 dn A1 n1 c1 de := e2 ▸ DB.made w1 rfl 71 dn A1 n1 c1 de
  rw [e2]
  have z1 := z1.on b
  have r1 := r1.on b
  have BW := Below.step BW b
  clear b e2
  refine (rmay_any m r1 (by omega) HM.out).mono ?_
  rintro en w3 ⟨rfl, b⟩
  have z1 := z1.on b
  have z2 := z2.on b
  have r1 := r1.on b
  have BW := Below.step BW b
  clear b
  obtain ⟨p0, p1, p2, g0, g1, g2, _⟩ := z1.cells
  obtain ⟨q0, q1, q2, i0, i1, i2, _⟩ := z2.cells
  cases m
  · have hr := HR.out
    rw [tld_over HM.out] at hr
    injection hr with hr he'
    injection hr with i1' i2' i3'
    subst i1' i2' i3' he'
    go_wp2_with fail
    refine bodyPost_ret (v := .tuple #[.agg #[.bool false, .slice none 0 0, .int .i64 0], .int .i64 6]) (by simp [results, Tryz.results60, go_sem, p0, p1, p2]) rfl ?_
    exact ⟨none, 0, 0, rfl, BR.none_ _, below_put3 BW (by omega) _ _ _⟩
  · have hr := HR.out
    rw [tld_ok HM.out] at hr
    injection hr with hr he'
    injection hr with i1' i2' i3'
    subst i1' i2' i3' he'
    go_wp2_with fail
    refine bodyPost_ret (v := .tuple #[.agg #[.bool dn, .slice A1 n1 c1, .int .i64 de], .int .i64 0]) (by simp [results, Tryz.results60, go_sem, p0, p1, p2]) rfl ?_
    exact ⟨A1, n1, c1, rfl, z1.br tR r1 _ _ _, below_put3 BW (by omega) _ _ _⟩

theorem at_any {A : Option Addr} {n c x i : Nat} {neg : Bool} {e m : Int} {w : World} (h : BR w A n c x) (hn : n ≤ 100000) (e1 : -100000 ≤ e) (e2 : e ≤ 100000) (m1 : -100000 ≤ m) (m2 : m ≤ 100000) (hi : Hid (max (e - m) 0 = (i : Int))) :
    Calls Tryz.prog 62 #[.agg #[.bool neg, .slice A n c, .int .i64 e], .int .i64 m] w (BitsPost w (x * 2 ^ i)) := by
  have hi' : max (e - m) 0 = (i : Int) := hi.out
  have hi3 : i ≤ 200000 := by omega
  go_enter Tryz.func62, Tryz.ntmps62
  go_wp2_with fail
  refine (rleft_fit (h.on (below_lit _ _)) (by omega) i (by omega)).mono ?_
  rintro en w1 ⟨A1, n1, c1, rfl, r1, b⟩
  go_wp2_with fail
  go_ret
  exact ⟨A1, n1, c1, rfl, r1, Below.step (below_lit _ _) b⟩

set_option maxHeartbeats 1000000 in
theorem rtop_as {A : Option Addr} {n c x : Nat} {neg : Bool} {e : Int} {w : World} {q err : Int} (h : BR w A n c x) (hn : n ≤ 100000) (hr : topS ⟨neg, x, e⟩ = (q, err)) :
    Calls Tryz.prog 128 #[.agg #[.bool neg, .slice A n c, .int .i64 e]] w fun en w' => en = .returned (.tuple #[.int .i64 q, .int .i64 err]) ∧ Below w.heap.size w w' := by
  obtain ⟨m, hm⟩ : ∃ b, D.may ⟨neg, x, e⟩ = b := ⟨_, rfl⟩
  have HM := Lib.hid hm
  have hsz := h.size
  unfold topS at hr
  rw [hm] at hr
  cases m
  · rw [if_neg (by decide)] at hr
    injection hr with h1 h2
    subst h1 h2
    clear hm hsz
    go_enter Tryz.func128, Tryz.ntmps128
    go_wp2_with fail
    obtain ⟨W, hW, z0, BW, sW⟩ := frame1 w 71 neg A n c e
    rw [hW]
    clear hW
    refine (rmay_any false (h.on BW) (by omega) HM.out).mono ?_
    rintro en w1 ⟨rfl, b⟩
    have BW := Below.step BW b
    clear b
    go_wp2_with fail
    go_ret2
    exact ⟨rfl, BW⟩
  · rw [if_pos rfl] at hr
    obtain ⟨m0, m1, m2⟩ := (D.may_iff _).1 HM.out
    simp only at m0 m1 m2
    by_cases h0 : x = 0
    · subst h0
      obtain rfl : n = 0 := hsz
      rw [if_pos rfl] at hr
      injection hr with h1 h2
      subst h1 h2
      clear hm
      go_enter Tryz.func128, Tryz.ntmps128
      go_wp2_with fail
      obtain ⟨W, hW, z0, BW, sW⟩ := frame1 w 71 neg A 0 c e
      rw [hW]
      clear hW
      refine (rmay_any true (h.on BW) (by omega) HM.out).mono ?_
      rintro en w1 ⟨rfl, b⟩
      have BW := Below.step BW b
      obtain ⟨p0, p1, p2, g0, g1, g2, _⟩ := (z0.on b).cells
      clear b
      go_wp2_with fail
      go_ret2
      exact ⟨rfl, BW⟩
    · rw [if_neg h0] at hr
      injection hr with h1 h2
      simp only at h1
      rw [← hsz] at h1 m0
      subst h1 h2
      have hnz : ((n : Int) == 0) = false := by
        have := (blen_pos h0).2
        simp; omega
      clear hm hsz
      go_enter Tryz.func128, Tryz.ntmps128
      go_wp2_with fail
      obtain ⟨W, hW, z0, BW, sW⟩ := frame1 w 71 neg A n c e
      rw [hW]
      clear hW
      refine (rmay_any true (h.on BW) (by omega) HM.out).mono ?_
      rintro en w1 ⟨rfl, b⟩
      have BW := Below.step BW b
      obtain ⟨p0, p1, p2, g0, g1, g2, _⟩ := (z0.on b).cells
      clear b
      go_wp2_with fail
      go_ret2
      exact ⟨ret2_int (by omega) rfl, BW⟩

end Go.Proofs.YtpachoeignpcbaaGreatDoor
