
/-
  What the laws IeeeRest and IeeeNear make of sums: what a product lost, and a difference of numbers that are near one another, are exact: nothing of a program.
-/
import Derived.Test.YtpachoeignpcbaaDoorIj
namespace Go.Proofs.YtpachoeignpcbaaDoor
open Go.RowKit
set_option linter.unusedVariables false

theorem D.add_congr {a b b' : D} (ha : -40000 ≤ a.e) (hb : -40000 ≤ b.e) (hb' : -40000 ≤ b'.e) (h : b.vl = b'.vl) : a.add b = a.add b' :=
  D.add_of ha hb' (D.add_low (m := -40000) ha hb (by omega)) (D.add_plain _ _) (by rw [D.add_vl ha hb, h])
section
variable {B P W M E H : Nat} {low : Int}
/-- a multiple of a place, of few digits, is a number of the format. -/
theorem mul_repr (hf : Fm B P W M E H low) {n s : Nat} (hn : n < 2 * M) (hs : low + 40000 ≤ (s : Int)) : valU M low (flC P M low (n * 2 ^ s)) = n * 2 ^ s := by
  obtain ⟨b1, b2, b3, b4, b5, b6, b7, b8, b9, b10, b11, b12, b13, b14, b15⟩ := hf.bd
  rw [(flC_spec hf _).1]
  have hbn : blen n ≤ P := (blen_le n P).2 (by
    have := hf.pP
    rw [show P = P - 1 + 1 by omega, Nat.pow_succ, this]; omega)
  obtain ⟨t, ht⟩ : ∃ t, (cellP P low (n * 2 ^ s) + 40000).toNat = t := ⟨_, rfl⟩
  rw [ht]
  have hts : t ≤ s ∨ n = 0 := by
    by_cases h0 : n = 0
    · exact .inr h0
    · left
      have h2 := blen_shift h0 s
      rw [← ht]
      unfold cellP
      omega
  rcases hts with hts | hts
  · rw [show s = (s - t) + t by omega, Nat.pow_add, ← Nat.mul_assoc, Nat.mul_div_cancel _ (Nat.two_pow_pos t)]
  · rw [hts, Nat.zero_mul, Nat.zero_div, Nat.zero_mul]
/-- what is a number of the format is rounded to it, without flags. -/
theorem round_repr (hf : Fm B P W M E H low) {mode : Int} (hm : 0 ≤ mode ∧ mode ≤ 4) {d : D} (hd : mayR d = true) (h0 : d.x ≠ 0) {c : Nat} (hc : c < M * E) (hv : d.vl.natAbs = valU M low c) (s : Bool) : roundS P M E H low mode d s = (sgn H d.neg c, 0, 0) := by
  unfold roundS
  rw [if_neg (by omega), hd, if_pos rfl, if_neg h0, hv, rC_val hf, if_pos hc]
  unfold flgS
  rw [fl_val hf, if_pos rfl]
/-- what has bits is rounded to them. -/
theorem put_exact (hf : Fm B P W M E H low) {mode : Int} (hm : 0 ≤ mode ∧ mode ≤ 4) {d : D} (hp : d.plain) (he : -40000 ≤ d.e) (hd : mayR d = true) (h0 : d.x ≠ 0) {v : Nat} (hput : putS P M E H low d = (v, 0)) (s : Bool) : roundS P M E H low mode d s = (v, 0, 0) := by
  obtain ⟨b1, b2, b3, b4, b5, b6, b7, b8, b9, b10, b11, b12, b13, b14, b15⟩ := hf.bd
  have hplc := plc_cell (P := P) (low := low) h0 he
  have hmay := (mayR_bd hd h0).1
  have hput2 := hput
  unfold putS at hput
  rw [hmay, if_pos rfl, if_neg h0, pl_plain' hp] at hput
  by_cases hk : d.e < plcS P low d ∨ low + (E : Int) - 2 < plcS P low d
  · rw [if_pos hk] at hput
    simp at hput
  · rw [hplc] at hk
    obtain ⟨t, ht⟩ : ∃ t, cellP P low d.vl.natAbs = t := ⟨_, rfl⟩
    have hfl := flq hf d.vl.natAbs
    obtain ⟨f1, f2⟩ := flC_spec hf d.vl.natAbs
    have hlow : low ≤ t := by rw [← ht]; unfold cellP; omega
    rw [ht] at hk hfl f1
    have hA : d.vl.natAbs = d.x * 2 ^ (d.e - t).toNat * 2 ^ (t + 40000).toNat := by
      rw [D.vl_natAbs, Nat.mul_assoc, ← Nat.pow_add]
      congr 2
      omega
    have hq : d.vl.natAbs / 2 ^ (t + 40000).toNat * 2 ^ (t + 40000).toNat = d.vl.natAbs := by
      rw [hA, Nat.mul_div_cancel _ (Nat.two_pow_pos _)]
    rw [hq] at f1
    have hc : flC P M low d.vl.natAbs < M * E := by
      unfold flC
      rw [ht]
      have h1 : (t - low).toNat ≤ E - 2 := by omega
      have h2 : (t - low).toNat * M ≤ (E - 2) * M := Nat.mul_le_mul_right _ h1
      have h3 : (E - 2) * M + 2 * M = M * E := by rw [← Nat.add_mul, Nat.mul_comm]; congr 1; omega
      have h4 := hfl.1
      omega
    have h1 := round_repr hf hm hd h0 hc f1.symm s
    have h2 := put_mul hf hp he h0 hc f1.symm
    rw [hput2] at h2
    simp only [Prod.mk.injEq, and_true] at h2
    rw [h1, ← h2]
/-- the sign of what a product is rounded to. -/
theorem mul_sign (hf : Fm B P W M E H low) (a b : Nat) (ha : a < 2 * H) (hb : b < 2 * H) (ca : clsS M E a ≤ 2) (cb : clsS M E b ≤ 2) (h0 : (D.mul (valS M E H low a).1 (valS M E H low b).1).x ≠ 0) : (D.mul (valS M E H low a).1 (valS M E H low b).1).neg = (ngB H a != ngB H b) := by
  rw [val_fin hf ha ca, val_fin hf hb cb] at h0 ⊢
  simp only at h0 ⊢
  have key : ∀ (s : Bool) (n : Nat) (e : Int), (D.pl ⟨s, n, e⟩).x ≠ 0 → (D.pl ⟨s, n, e⟩).neg = s := fun s n e h => by
    by_cases hn : n = 0
    · rw [D.pl_zero (d := ⟨s, n, e⟩) hn] at h
      exact absurd rfl h
    · rw [D.pl_pos (d := ⟨s, n, e⟩) hn]
  unfold D.mul at h0 ⊢
  rw [key _ _ _ h0]
  have hx : (D.pl ⟨ngB H a, valN M E a, valP M E low a⟩).x ≠ 0 ∧ (D.pl ⟨ngB H b, valN M E b, valP M E low b⟩).x ≠ 0 := by
    constructor
    · intro hx
      rw [hx, Nat.zero_mul] at h0
      rw [D.pl_zero rfl] at h0
      exact h0 rfl
    · intro hx
      rw [hx, Nat.mul_zero] at h0
      rw [D.pl_zero rfl] at h0
      exact h0 rfl
  rw [key _ _ _ hx.1, key _ _ _ hx.2]
/-- WHAT A PRODUCT LOST IS TOLD BY ONE MORE STEP. -/
theorem rest_told (hf : Fm B P W M E H low) {a b : Nat} (ha : a < 2 * H) (hb : b < 2 * H) (ca : clsS M E a ≤ 2) (cb : clsS M E b ≤ 2) {p : Nat} {fl e : Int} (hp : mulI P M E H low 0 a b = (p, fl, e)) (cp : clsS M E p ≤ 2) :
    e = 0 ∧ p < 2 * H ∧ ∃ R : D, addS (D.mul (valS M E H low a).1 (valS M E H low b).1) (valS M E H low p).1.turn = (R, 0) ∧ blen R.x ≤ 4096 ∧
      ∀ (mode : Int), 0 ≤ mode ∧ mode ≤ 4 → ∀ v, putS P M E H low R = (v, 0) → fmaI P M E H low mode a b (trnS H p) = (if R.x = 0 then sgn H (decide (mode = 2)) 0 else v, 0, 0) := by
  have na : nanB M E a = false := by unfold nanB; exact decide_eq_false (by omega)
  have nb : nanB M E b = false := by unfold nanB; exact decide_eq_false (by omega)
  have ia : infB M E a = false := by unfold infB; exact decide_eq_false (by omega)
  have ib : infB M E b = false := by unfold infB; exact decide_eq_false (by omega)
  have hvn : vainB M E a b = false := by unfold vainB; rw [ia, ib]; simp
  have hm0 : (0 : Int) ≤ 0 ∧ (0 : Int) ≤ 4 := by omega
  rw [mulI_num P M E H low hm0 ha hb na nb, hvn, if_neg (by decide)] at hp
  have hpT : prodT (tmS M E H low a) (tmS M E H low b) = ⟨ngB H a != ngB H b, false, D.mul (valS M E H low a).1 (valS M E H low b).1⟩ := by
    unfold prodT tmS
    simp only [ia, ib, Bool.or_self]
  rw [hpT] at hp
  obtain ⟨m1, m2, m3, m4, m5, m6⟩ := val_mul hf a b
  have hsg := mul_sign hf a b ha hb ca cb
  obtain ⟨md, hmd⟩ : ∃ d, D.mul (valS M E H low a).1 (valS M E H low b).1 = d := ⟨_, rfl⟩
  have hp' : roundS P M E H low 0 md (ngB H a != ngB H b) = (p, fl, e) := by
    rw [hmd] at hp
    unfold bitsS at hp
    simpa using hp
  rw [hmd] at m3 m4 m6 hsg hpT
  obtain ⟨g, k, fl', q1, q2, q3, q4⟩ := round_out hf hm0 m3 (ngB H a != ngB H b)
  rw [hp'] at q2
  simp only [Prod.mk.injEq] at q2
  obtain ⟨rfl, rfl, rfl⟩ := q2
  obtain ⟨c1, c2, c3⟩ := sgn_le hf g q1
  have hg : g = (ngB H a != ngB H b) := by
    rw [q4]
    split
    · rfl
    · rename_i h; exact hsg h
  obtain ⟨t1, t2, t3, t4, t5⟩ := sgn_turn hf c2
  have hvt := val_turn hf c2
  have hfm := val_fma hf a b (trnS H (sgn H g k))
  obtain ⟨p1, p2, p3, p4, p5⟩ := val_in hf (sgn H g k)
  obtain ⟨u1, u2, u3, u4, u5⟩ := val_in hf (trnS H (sgn H g k))
  rw [hmd] at hfm ⊢
  have hturn : md.add (valS M E H low (sgn H g k)).1.turn = md.add (valS M E H low (trnS H (sgn H g k))).1 :=
    D.add_congr (by omega) (by show -40000 ≤ (valS M E H low (sgn H g k)).1.e; omega) (by omega) (by rw [D.turn_vl, hvt])
  have hadd : addS md (valS M E H low (sgn H g k)).1.turn = addS md (valS M E H low (trnS H (sgn H g k))).1 := by
    rw [addS_ok m4 (by rw [D.turn_may]; exact p1), addS_ok m4 u1, hturn]
  refine ⟨rfl, c2, _, by rw [hadd]; exact hfm.1, hfm.2.1, fun mode hm v hv => ?_⟩
  have nt : nanB M E (trnS H (sgn H g k)) = false := by unfold nanB; exact decide_eq_false (by omega)
  have it : infB M E (trnS H (sgn H g k)) = false := by unfold infB; exact decide_eq_false (by omega)
  obtain ⟨R, hR⟩ : ∃ R, md.add (valS M E H low (trnS H (sgn H g k))).1 = R := ⟨_, rfl⟩
  have hRp := D.add_plain md (valS M E H low (trnS H (sgn H g k))).1
  rw [hR] at hfm hv hRp ⊢
  have hfma : fmaI P M E H low mode a b (trnS H (sgn H g k)) = roundS P M E H low mode R (ntS mode (ngB H a != ngB H b) (!g)) := by
    unfold fmaI
    rw [wrongS_is hm (by intro x hx; simp only [List.mem_cons, List.not_mem_nil, or_false] at hx; rcases hx with rfl | rfl | rfl <;> assumption), if_neg (by simp)]
    have hno : (nonS M E H [a, b, trnS H (sgn H g k)]).2.2 = false := by unfold nonS nonStep; simp [na, nb, nt]
    rw [hno, hvn, hpT]
    unfold sumT bitsS tmS
    simp only [Bool.false_and, Bool.false_eq_true, if_false]
    rw [it, t3, c3, hR]
    simp
  rw [hfma]
  by_cases hx : R.x = 0
  · rw [if_pos hx, roundS_zero hm hfm.2.2.1 hx]
    unfold ntS
    rw [hg, if_neg (by cases (ngB H a != ngB H b) <;> decide)]
  · rw [if_neg hx]
    exact put_exact hf hm hRp (by omega) hfm.2.2.1 hx hv _
/-- sizes that are near one another differ by a number of the format. -/
theorem near_repr (hf : Fm B P W M E H low) {i j : Nat} (hij : j ≤ i) (h : valU M low i ≤ 2 * valU M low j) : ∃ c, c ≤ j ∧ valU M low i - valU M low j = valU M low c := by
  obtain ⟨b1, b2, b3, b4, b5, b6, b7, b8, b9, b10, b11, b12, b13, b14, b15⟩ := hf.bd
  have hM : 0 < M := by omega
  obtain ⟨u, hu⟩ : ∃ u, (low + ((max (j / M) 1 : Nat) : Int) - 1 + 40000).toNat = u := ⟨_, rfl⟩
  obtain ⟨v, hv⟩ : ∃ v, (low + ((max (i / M) 1 : Nat) : Int) - 1 + 40000).toNat = v := ⟨_, rfl⟩
  have hdm : j / M ≤ i / M := Nat.div_le_div_right hij
  have huv : u ≤ v := by rw [← hu, ← hv]; omega
  have hul : low + 40000 ≤ (u : Int) := by rw [← hu]; omega
  obtain ⟨n, hn, hnj⟩ : ∃ n, n < 2 * M ∧ valU M low j = n * 2 ^ u := by
    have h1 : j % M < M := Nat.mod_lt _ hM
    unfold valU wid
    rw [hu]
    refine ⟨_, ?_, rfl⟩
    split <;> omega
  obtain ⟨m, hmi⟩ : ∃ m, valU M low i = m * 2 ^ u := by
    unfold valU wid
    rw [hv, show v = (v - u) + u by omega, Nat.pow_add, ← Nat.mul_assoc]
    exact ⟨_, rfl⟩
  have hle := (valU_mono hf (a := j) (b := i)).2.2 hij
  rw [hnj, hmi] at h hle ⊢
  have hp := Nat.two_pow_pos u
  have h1 : n ≤ m := Nat.le_of_mul_le_mul_right hle hp
  have h2 : m ≤ 2 * n := by
    rw [← Nat.mul_assoc] at h
    exact Nat.le_of_mul_le_mul_right h hp
  rw [← Nat.sub_mul]
  have h3 := mul_repr hf (n := m - n) (s := u) (by omega) hul
  refine ⟨flC P M low ((m - n) * 2 ^ u), ?_, h3.symm⟩
  rw [← (valU_mono hf).2, h3, hnj]
  exact Nat.mul_le_mul_right _ (by omega)
/-- the size of finite bits. -/
theorem val_size (hf : Fm B P W M E H low) {a : Nat} (ha : a < 2 * H) (ca : clsS M E a ≤ 2) : ∃ c, c < M * E ∧ (valS M E H low a).1.vl = (if ngB H a then -(valU M low c : Int) else (valU M low c : Int)) ∧ (valS M E H low a).1.x * 2 ^ ((valS M E H low a).1.e + 40000).toNat = valU M low c := by
  obtain ⟨s1, s2, s3, s4⟩ := bits_sgn hf a ha
  have hc : a % H < M * E := finite_lt hf _ s2 (by rw [s3]; exact (cls_fin hf a).1 ca)
  have hva := val_abs hf (ngB H a) (a % H) hc
  have e : sgn H (ngB H a) (a % H) = a := s1.symm
  rw [e] at hva
  refine ⟨a % H, hc, by rw [hva.1]; exact hva.2, ?_⟩
  rw [← D.vl_natAbs, hva.1]
  simp only
  rw [hva.2]
  cases ngB H a <;> simp
/-- A DIFFERENCE OF NUMBERS THAT ARE NEAR ONE ANOTHER IS EXACT. -/
theorem near_told (hf : Fm B P W M E H low) {a b : Nat} (ha : a < 2 * H) (hb : b < 2 * H) (ca : clsS M E a ≤ 2) (cb : clsS M E b ≤ 2) (hs : ngB H a = ngB H b) {mode : Int} (hm : 0 ≤ mode ∧ mode ≤ 4)
    (h1 : (valS M E H low b).1.vl.natAbs ≤ 2 * (valS M E H low a).1.vl.natAbs) (h2 : (valS M E H low a).1.vl.natAbs ≤ 2 * (valS M E H low b).1.vl.natAbs) : ∃ t, subI P M E H low mode a b = (t, 0, 0) := by
  have na : nanB M E a = false := by unfold nanB; exact decide_eq_false (by omega)
  have nb : nanB M E b = false := by unfold nanB; exact decide_eq_false (by omega)
  have ia : infB M E a = false := by unfold infB; exact decide_eq_false (by omega)
  obtain ⟨t1, t2, t3, t4, t5⟩ := sgn_turn hf hb
  have nt : nanB M E (trnS H b) = false := by unfold nanB; exact decide_eq_false (by omega)
  have it : infB M E (trnS H b) = false := by unfold infB; exact decide_eq_false (by omega)
  unfold subI
  rw [nb, decide_eq_true hb]
  simp only [Bool.not_false, Bool.and_self, if_true]
  rw [addI_num P M E H low hm ha t1 na nt]
  obtain ⟨a1, a2, a3, a4⟩ := val_add hf a (trnS H b)
  have va := val_in hf a
  have vt := val_in hf (trnS H b)
  have hvl := D.add_vl (a := (valS M E H low a).1) (b := (valS M E H low (trnS H b)).1) (by omega) (by omega)
  rw [val_turn hf hb] at hvl
  obtain ⟨i, hi, hva, _⟩ := val_size hf ha ca
  obtain ⟨j, hj, hvb, _⟩ := val_size hf hb cb
  have key : ∃ c, c < M * E ∧ (D.add (valS M E H low a).1 (valS M E H low (trnS H b)).1).vl.natAbs = valU M low c := by
    rw [hvl, hva, hvb, hs]
    rw [hva, hvb, hs] at h1 h2
    have hz : ∀ x y : Nat, ((if ngB H b then -(x : Int) else (x : Int)) + -(if ngB H b then -(y : Int) else (y : Int))).natAbs = (if y ≤ x then x - y else y - x) := by
      intro x y
      cases ngB H b
      · simp only [Bool.false_eq_true, if_false]; split <;> omega
      · simp only [if_true]; split <;> omega
    have hab : ∀ x : Nat, (if ngB H b then -(x : Int) else (x : Int)).natAbs = x := by
      intro x; cases ngB H b <;> simp
    rw [hab, hab] at h1 h2
    rw [hz]
    by_cases hle : valU M low j ≤ valU M low i
    · rw [if_pos hle]
      obtain ⟨c, c1, c2⟩ := near_repr hf ((valU_mono hf).2.1 hle) h2
      exact ⟨c, by omega, c2⟩
    · rw [if_neg hle]
      obtain ⟨c, c1, c2⟩ := near_repr hf ((valU_mono hf (a := i) (b := j)).2.1 (by omega)) h1
      exact ⟨c, by omega, c2⟩
  obtain ⟨c, hc, hv⟩ := key
  have hT : sumT P M E H low mode (tmS M E H low a) (tmS M E H low (trnS H b)) = roundS P M E H low mode (D.add (valS M E H low a).1 (valS M E H low (trnS H b)).1) (ntS mode (ngB H a) (ngB H (trnS H b))) := by
    unfold sumT bitsS tmS
    simp only [ia, it, Bool.false_and, Bool.false_eq_true, if_false]
  rw [hT]
  by_cases hx : (D.add (valS M E H low a).1 (valS M E H low (trnS H b)).1).x = 0
  · exact ⟨_, roundS_zero hm a3 hx _⟩
  · exact ⟨_, round_repr hf hm a3 hx hc hv _⟩
end
end Go.Proofs.YtpachoeignpcbaaDoor
