
/-
  The reference of layer 5 tells what ieee tells: Fma, Add, Sub, Mul.
-/
import Derived.Test.YtpachoeignpcbaaGreatDoorIr
import Derived.Test.YtpachoeignpcbaaGreatDoorIv
import Derived.Test.YtpachoeignpcbaaGreatDoorIw
namespace Go.Proofs.YtpachoeignpcbaaGreatDoor
open Go.RowKit
set_option linter.unusedVariables false

theorem nonS_fst (M E H a b c : Nat) : nonS M E H [a, b, c] = ((fstS M E H [a, b, c]).1, if sgsS M E [a, b, c] then 16 else 0, (fstS M E H [a, b, c]).2) := by
  unfold nonS nonStep fstS sgsS
  simp only [List.foldl_cons, List.foldl_nil, List.any_cons, List.any_nil, List.find?_cons, Bool.or_false]
  cases nanB M E a <;> cases nanB M E b <;> cases nanB M E c <;> cases sigB M E a <;> cases sigB M E b <;> cases sigB M E c <;> rfl
theorem add_ne {p w : D} {s : Bool} (hp : -40000 ≤ p.e) (hw : -40000 ≤ w.e) (h1 : p.x ≠ 0 → p.neg = s) (h2 : w.x ≠ 0 → w.neg = s) (h : p.x ≠ 0 ∨ w.x ≠ 0) : (D.add p w).x ≠ 0 := by
  intro h0
  have hv := D.add_vl hp hw
  rw [D.vl_zero.2 h0] at hv
  have a1 := D.vl_neg (d := p)
  have a2 := D.vl_neg (d := w)
  have b1 := D.vl_zero (d := p)
  have b2 := D.vl_zero (d := w)
  cases s
  · have c1 : ¬ p.vl < 0 := fun h => by
      obtain ⟨e1, e2⟩ := a1.1 h
      rw [h1 e2] at e1
      cases e1
    have c2 : ¬ w.vl < 0 := fun h => by
      obtain ⟨e1, e2⟩ := a2.1 h
      rw [h2 e2] at e1
      cases e1
    rcases h with h | h
    · exact h (b1.1 (by omega))
    · exact h (b2.1 (by omega))
  · have c1 : p.x ≠ 0 → p.vl < 0 := fun h => a1.2 ⟨h1 h, h⟩
    have c2 : w.x ≠ 0 → w.vl < 0 := fun h => a2.2 ⟨h2 h, h⟩
    by_cases g1 : p.x = 0
    · by_cases g2 : w.x = 0
      · rcases h with h | h <;> contradiction
      · have := b1.2 g1
        have := c2 g2
        omega
    · have := c1 g1
      by_cases g2 : w.x = 0
      · have := b2.2 g2
        omega
      · have := c2 g2
        omega
theorem roundS_ng {P M E H : Nat} {low : Int} {mode : Int} {d : D} (h0 : d.x ≠ 0) (s t : Bool) : roundS P M E H low mode d s = roundS P M E H low mode d t := by
  unfold roundS
  rw [if_neg h0, if_neg h0]
theorem D.pl_neg {d : D} (h : d.pl.x ≠ 0) : d.pl.neg = d.neg := by
  by_cases h0 : d.x = 0
  · rw [D.pl_zero h0] at h
    exact absurd rfl h
  · rw [D.pl_pos h0]
theorem val_neg {M E H : Nat} {low : Int} {b : Nat} (h : (valS M E H low b).1.x ≠ 0) : (valS M E H low b).1.neg = ngB H b := by
  unfold valS at h ⊢
  split
  · rename_i h1
    rw [if_pos h1] at h
    split
    · rename_i h2
      rw [if_pos h2] at h
      exact absurd rfl h
    · rename_i h2
      rw [if_neg h2] at h
      exact D.pl_neg h
  · rename_i h1
    rw [if_neg h1] at h
    exact absurd rfl h
theorem mul_neg {M E H : Nat} {low : Int} {a b : Nat} (h : (D.mul (valS M E H low a).1 (valS M E H low b).1).x ≠ 0) : (D.mul (valS M E H low a).1 (valS M E H low b).1).neg = (ngB H a != ngB H b) := by
  have h1 : (valS M E H low a).1.x ≠ 0 ∧ (valS M E H low b).1.x ≠ 0 := by
    unfold D.mul at h
    constructor <;> intro h0 <;> refine h ?_
    · rw [D.pl_zero (by show (valS M E H low a).1.x * (valS M E H low b).1.x = 0; rw [h0, Nat.zero_mul])]
    · rw [D.pl_zero (by show (valS M E H low a).1.x * (valS M E H low b).1.x = 0; rw [h0, Nat.mul_zero])]
  unfold D.mul at h ⊢
  rw [D.pl_neg h]
  show ((valS M E H low a).1.neg != (valS M E H low b).1.neg) = _
  rw [val_neg h1.1, val_neg h1.2]
theorem beq_t {q k : Int} (h : q = k) : (q == k) = true := by simp [h]
theorem beq_f {q k : Int} (h : q ≠ k) : (q == k) = false := by simp [h]
theorem fst_none {M E H a b c r : Nat} (h : fstS M E H [a, b, c] = (r, false)) : (nanB M E a || (nanB M E b || nanB M E c)) = false := by
  unfold fstS at h
  split at h
  · simp at h
  · rename_i h1
    simpa using h1
theorem val_pair {B P W M E H : Nat} {low : Int} (hf : Fm B P W M E H low) {b : Nat} (hb : b < 2 * H) (hc : clsS M E b ≤ 2) {d : D} (h : (valS M E H low b).1 = d) : valS M E H low b = (d, 0) := by
  have h1 := val_fin hf hb hc
  rw [← h, h1]
theorem beq_dec {m : Int} : (m == 2) = decide (m = 2) := by rw [Bool.eq_iff_iff]; simp
/-- THE REFERENCE'S FMA: what it tells. -/
theorem rfma_as {B P W M E H : Nat} {low : Int} (hf : Fm B P W M E H low) (mode : Int) (ba bb bc : Nat) (hba : ba < 18446744073709551616) (hbb : bb < 18446744073709551616) (hbc : bc < 18446744073709551616) {w : World} {v : Nat} {fl err : Int} (hr : fmaI P M E H low mode ba bb bc = (v, fl, err)) :
    Calls Tryz.prog 14 #[.agg #[.int .i64 (B : Int), .int .i64 (P : Int), .int .i64 (W : Int)], .int .i64 mode, .int .u64 (ba : Int), .int .u64 (bb : Int), .int .u64 (bc : Int)] w (ToX w v fl err) := by
  unfold fmaI at hr
  obtain ⟨q, hq⟩ : ∃ q, wrongS H mode [ba, bb, bc] = q := ⟨_, rfl⟩
  rw [nonS_fst, hq] at hr
  obtain ⟨⟨r1, r2⟩, hn⟩ : ∃ r, fstS M E H [ba, bb, bc] = r := ⟨_, rfl⟩
  obtain ⟨sg, hsg⟩ : ∃ s, sgsS M E [ba, bb, bc] = s := ⟨_, rfl⟩
  rw [hn, hsg] at hr
  simp only at hr
  by_cases h0 : q = 0
  · have dq : (q != 0) = false := by simpa using h0
    rw [if_neg (by simpa using h0)] at hr
    have hlt := (wrongS_ok (by rw [hq, h0] : wrongS H mode [ba, bb, bc] = 0)).2
    obtain ⟨qa, hqa⟩ : ∃ q, clsS M E ba = q := ⟨_, rfl⟩
    obtain ⟨qb, hqb⟩ : ∃ q, clsS M E bb = q := ⟨_, rfl⟩
    obtain ⟨qc, hqc⟩ : ∃ q, clsS M E bc = q := ⟨_, rfl⟩
    have ba5 := cls_bd M E ba
    have bb5 := cls_bd M E bb
    have bc5 := cls_bd M E bc
    rw [hqa] at ba5
    rw [hqb] at bb5
    rw [hqc] at bc5
    by_cases a3 : qa = 3
    · by_cases b0 : qb = 0
      · have vb : vainB M E ba bb = true := by unfold vainB infB zerB; rw [hqa, hqb]; simp; omega
        rw [vb] at hr
        cases r2
        · simp only [Bool.false_eq_true, if_false, if_true] at hr
          simp only [Prod.mk.injEq] at hr
          obtain ⟨hv, rfl, rfl⟩ := hr
          exact rfma_vain1 hf mode ba bb bc hba hbb hbc q hq dq hqa hqb hqc (beq_t a3) (beq_t b0) hn rfl rfl rfl v hv
        · simp only [if_true] at hr
          simp only [Prod.mk.injEq] at hr
          obtain ⟨rfl, rfl, rfl⟩ := hr
          exact rfma_none1 hf mode ba bb bc hba hbb hbc q hq dq hqa hqb hqc (beq_t a3) (beq_t b0) hn
      · have vb : vainB M E ba bb = false := by unfold vainB infB zerB; rw [hqa, hqb]; simp; omega
        rw [vb] at hr
        cases r2
        · simp only [Bool.false_eq_true, if_false] at hr
          have inf1 : (infB M E ba || infB M E bb) = true := by unfold infB; rw [hqa, hqb]; simp; omega
          unfold sumT bitsS prodT tmS at hr
          simp only [inf1, Bool.true_and, if_true] at hr
          by_cases c3 : qc = 3
          · have infc : infB M E bc = true := by unfold infB; rw [hqc]; exact decide_eq_true c3
            rw [infc] at hr
            simp only [Bool.true_and] at hr
            by_cases eg : (ngB H bc != (ngB H ba != ngB H bb)) = true
            · rw [bneB_comm, if_pos eg] at hr
              simp only [Prod.mk.injEq] at hr
              obtain ⟨hv, rfl, rfl⟩ := hr
              exact rfma_bad2 hf mode ba bb bc hba hbb hbc q hq dq hqa hqb hqc (beq_t a3) (beq_f b0) (beq_f (by omega)) hn rfl rfl rfl (beq_t c3) eg v hv
            · rw [bneB_comm, if_neg eg] at hr
              simp only [Prod.mk.injEq] at hr
              obtain ⟨hv, rfl, rfl⟩ := hr
              exact rfma_inf2t hf mode ba bb bc hba hbb hbc q hq dq hqa hqb hqc (beq_t a3) (beq_f b0) (beq_f (by omega)) hn rfl rfl rfl (beq_t c3) (Bool.eq_false_iff.2 eg) v hv
          · have infc : infB M E bc = false := by unfold infB; rw [hqc]; exact decide_eq_false c3
            rw [infc] at hr
            simp only [Bool.false_and, Bool.false_eq_true, if_false, Prod.mk.injEq] at hr
            obtain ⟨hv, rfl, rfl⟩ := hr
            exact rfma_inf2f hf mode ba bb bc hba hbb hbc q hq dq hqa hqb hqc (beq_t a3) (beq_f b0) (beq_f (by omega)) hn rfl rfl rfl (beq_f c3) v hv
        · simp only [if_true] at hr
          simp only [Bool.false_eq_true, if_false, Prod.mk.injEq] at hr
          obtain ⟨rfl, hfl, rfl⟩ := hr
          cases sg
          · simp only [Bool.false_eq_true, if_false] at hfl
            subst hfl
            exact rfma_none2f hf mode ba bb bc hba hbb hbc q hq dq hqa hqb hqc (beq_t a3) (beq_f b0) (beq_f (by omega)) hn hsg
          · simp only [if_true] at hfl
            subst hfl
            exact rfma_none2t hf mode ba bb bc hba hbb hbc q hq dq hqa hqb hqc (beq_t a3) (beq_f b0) (beq_f (by omega)) hn hsg
    · by_cases a0 : qa = 0
      · by_cases b3 : qb = 3
        · have vb : vainB M E ba bb = true := by unfold vainB infB zerB; rw [hqa, hqb]; simp; omega
          rw [vb] at hr
          cases r2
          · simp only [Bool.false_eq_true, if_false, if_true] at hr
            simp only [Prod.mk.injEq] at hr
            obtain ⟨hv, rfl, rfl⟩ := hr
            exact rfma_vain3 hf mode ba bb bc hba hbb hbc q hq dq hqa hqb hqc (beq_f a3) (beq_t a0) (beq_t b3) hn rfl rfl rfl v hv
          · simp only [if_true] at hr
            simp only [Prod.mk.injEq] at hr
            obtain ⟨rfl, rfl, rfl⟩ := hr
            exact rfma_none3 hf mode ba bb bc hba hbb hbc q hq dq hqa hqb hqc (beq_f a3) (beq_t a0) (beq_t b3) hn
        · have vb : vainB M E ba bb = false := by unfold vainB infB zerB; rw [hqa, hqb]; simp; omega
          rw [vb] at hr
          cases r2
          · simp only [Bool.false_eq_true, if_false] at hr
            have inf1 : (infB M E ba || infB M E bb) = false := by unfold infB; rw [hqa, hqb]; simp; omega
            unfold sumT bitsS prodT tmS at hr
            simp only [inf1, Bool.false_and, Bool.false_eq_true, if_false] at hr
            by_cases c3 : qc = 3
            · have infc : infB M E bc = true := by unfold infB; rw [hqc]; exact decide_eq_true c3
              rw [infc] at hr
              simp only [if_true, Prod.mk.injEq] at hr
              obtain ⟨hv, rfl, rfl⟩ := hr
              rw [inf_bits hf (hlt bc (by simp)) (by rw [hqc, c3])] at hv
              subst hv
              exact rfma_add4 hf mode ba bb bc hba hbb hbc q hq dq hqa hqb hqc (beq_f a3) (beq_t a0) (beq_f b3) hn rfl rfl rfl (beq_t c3)
            · have infc : infB M E bc = false := by unfold infB; rw [hqc]; exact decide_eq_false c3
              rw [infc] at hr
              simp only [Bool.false_eq_true, if_false] at hr
              have nan3 : qa < 4 ∧ qb < 4 ∧ qc < 4 := by
                have := fst_none hn
                unfold nanB at this
                rw [hqa, hqb, hqc] at this
                simp at this
                omega
              obtain ⟨un, ux, ue, hu⟩ : ∃ n x e, (valS M E H low ba).1 = ⟨n, x, e⟩ := ⟨_, _, _, rfl⟩
              obtain ⟨vn, vx, ve, hv⟩ : ∃ n x e, (valS M E H low bb).1 = ⟨n, x, e⟩ := ⟨_, _, _, rfl⟩
              obtain ⟨wn, wx, we, hx⟩ : ∃ n x e, (valS M E H low bc).1 = ⟨n, x, e⟩ := ⟨_, _, _, rfl⟩
              have hu' := val_pair hf (hlt ba (by simp)) (show clsS M E ba ≤ 2 by rw [hqa]; omega) hu
              have hv' := val_pair hf (hlt bb (by simp)) (show clsS M E bb ≤ 2 by rw [hqb]; omega) hv
              have hx' := val_pair hf (hlt bc (by simp)) (show clsS M E bc ≤ 2 by rw [hqc]; omega) hx
              obtain ⟨m1, m2, m3, m4, m5, m6⟩ := val_mul hf ba bb
              obtain ⟨s1, s2, s3, s4⟩ := val_fma hf ba bb bc
              have lu := (val_in hf ba).2.2.2.2
              have lv := (val_in hf bb).2.2.2.2
              obtain ⟨_, _, we1, _, lw⟩ := val_in hf bc
              have hne := add_ne (s := (ngB H ba != ngB H bb)) (p := D.mul (valS M E H low ba).1 (valS M E H low bb).1) (w := (valS M E H low bc).1) (by omega) (by omega) mul_neg
              have hwn := val_neg (M := M) (E := E) (H := H) (low := low) (b := bc)
              obtain ⟨pn, px, pe, hp⟩ : ∃ n x e, D.mul (valS M E H low ba).1 (valS M E H low bb).1 = ⟨n, x, e⟩ := ⟨_, _, _, rfl⟩
              obtain ⟨sn, sx, se, hs⟩ : ∃ n x e, D.add (D.mul (valS M E H low ba).1 (valS M E H low bb).1) (valS M E H low bc).1 = ⟨n, x, e⟩ := ⟨_, _, _, rfl⟩
              rw [hs] at hr hne s1 s2
              rw [hp] at hne s1 m1 m2
              rw [hu, hv] at m1
              rw [hx] at hne s1 hwn lw
              rw [hu] at lu
              rw [hv] at lv
              simp only at hne s2 m2 hwn lu lv lw hr
              obtain ⟨gc, hgc⟩ : ∃ g, ngB H bc = g := ⟨_, rfl⟩
              by_cases hp0 : px = 0
              · by_cases hw0 : wx = 0
                · by_cases eg : ngB H bc = (ngB H ba != ngB H bb)
                  · refine rfma_mmD hf mode ba bb bc hba hbb hbc q hq dq hqa hqb hqc (beq_f a3) (beq_f b3) hn rfl rfl rfl (beq_f c3) hu' hv' hx' m1 s1 (by omega) (by omega) (by omega) (by omega) (by omega) hp0 hw0 (beq_iff_eq.2 eg) ?_
                    rw [← hr]
                    unfold ntS
                    rw [if_pos eg.symm]
                    rfl
                  · refine rfma_mmC hf mode ba bb bc hba hbb hbc q hq dq hqa hqb hqc (beq_f a3) (beq_f b3) hn rfl rfl rfl (beq_f c3) hu' hv' hx' m1 s1 (by omega) (by omega) (by omega) (by omega) (by omega) hp0 hw0 (beq_eq_false_iff_ne.2 eg) ?_
                    rw [← hr]
                    unfold ntS
                    rw [if_neg (fun h => eg h.symm)]
                    rw [beq_dec]
                · refine rfma_mmB hf mode ba bb bc hba hbb hbc q hq dq hqa hqb hqc (beq_f a3) (beq_f b3) hn rfl rfl rfl (beq_f c3) hu' hv' hx' m1 s1 (by omega) (by omega) (by omega) (by omega) (by omega) hp0 hw0 ?_
                  rw [← hr]
                  by_cases eg : ngB H bc = (ngB H ba != ngB H bb)
                  · exact roundS_ng (hne (fun h => (hwn h).trans eg) (.inr hw0)) _ _
                  · unfold ntS
                    rw [if_neg (fun h => eg h.symm), beq_dec]
              · refine rfma_mmA hf mode ba bb bc hba hbb hbc q hq dq hqa hqb hqc (beq_f a3) (beq_f b3) hn rfl rfl rfl (beq_f c3) hu' hv' hx' m1 s1 (by omega) (by omega) (by omega) (by omega) (by omega) hp0 ?_
                rw [← hr]
                by_cases eg : ngB H bc = (ngB H ba != ngB H bb)
                · exact roundS_ng (hne (fun h => (hwn h).trans eg) (.inl hp0)) _ _
                · unfold ntS
                  rw [if_neg (fun h => eg h.symm), beq_dec]
          · simp only [if_true] at hr
            simp only [Bool.false_eq_true, if_false, Prod.mk.injEq] at hr
            obtain ⟨rfl, hfl, rfl⟩ := hr
            cases sg
            · simp only [Bool.false_eq_true, if_false] at hfl
              subst hfl
              exact rfma_none4f hf mode ba bb bc hba hbb hbc q hq dq hqa hqb hqc (beq_f a3) (beq_t a0) (beq_f b3) hn hsg
            · simp only [if_true] at hfl
              subst hfl
              exact rfma_none4t hf mode ba bb bc hba hbb hbc q hq dq hqa hqb hqc (beq_f a3) (beq_t a0) (beq_f b3) hn hsg
      · by_cases b3 : qb = 3
        · have vb : vainB M E ba bb = false := by unfold vainB infB zerB; rw [hqa, hqb]; simp; omega
          rw [vb] at hr
          cases r2
          · simp only [Bool.false_eq_true, if_false] at hr
            have inf1 : (infB M E ba || infB M E bb) = true := by unfold infB; rw [hqa, hqb]; simp; omega
            unfold sumT bitsS prodT tmS at hr
            simp only [inf1, Bool.true_and, if_true] at hr
            by_cases c3 : qc = 3
            · have infc : infB M E bc = true := by unfold infB; rw [hqc]; exact decide_eq_true c3
              rw [infc] at hr
              simp only [Bool.true_and] at hr
              by_cases eg : (ngB H bc != (ngB H ba != ngB H bb)) = true
              · rw [bneB_comm, if_pos eg] at hr
                simp only [Prod.mk.injEq] at hr
                obtain ⟨hv, rfl, rfl⟩ := hr
                exact rfma_bad5 hf mode ba bb bc hba hbb hbc q hq dq hqa hqb hqc (beq_f a3) (beq_f a0) (beq_t b3) hn rfl rfl rfl (beq_t c3) eg v hv
              · rw [bneB_comm, if_neg eg] at hr
                simp only [Prod.mk.injEq] at hr
                obtain ⟨hv, rfl, rfl⟩ := hr
                exact rfma_inf5t hf mode ba bb bc hba hbb hbc q hq dq hqa hqb hqc (beq_f a3) (beq_f a0) (beq_t b3) hn rfl rfl rfl (beq_t c3) (Bool.eq_false_iff.2 eg) v hv
            · have infc : infB M E bc = false := by unfold infB; rw [hqc]; exact decide_eq_false c3
              rw [infc] at hr
              simp only [Bool.false_and, Bool.false_eq_true, if_false, Prod.mk.injEq] at hr
              obtain ⟨hv, rfl, rfl⟩ := hr
              exact rfma_inf5f hf mode ba bb bc hba hbb hbc q hq dq hqa hqb hqc (beq_f a3) (beq_f a0) (beq_t b3) hn rfl rfl rfl (beq_f c3) v hv
          · simp only [if_true] at hr
            simp only [Bool.false_eq_true, if_false, Prod.mk.injEq] at hr
            obtain ⟨rfl, hfl, rfl⟩ := hr
            cases sg
            · simp only [Bool.false_eq_true, if_false] at hfl
              subst hfl
              exact rfma_none5f hf mode ba bb bc hba hbb hbc q hq dq hqa hqb hqc (beq_f a3) (beq_f a0) (beq_t b3) hn hsg
            · simp only [if_true] at hfl
              subst hfl
              exact rfma_none5t hf mode ba bb bc hba hbb hbc q hq dq hqa hqb hqc (beq_f a3) (beq_f a0) (beq_t b3) hn hsg
        · have vb : vainB M E ba bb = false := by unfold vainB infB zerB; rw [hqa, hqb]; simp; omega
          rw [vb] at hr
          cases r2
          · simp only [Bool.false_eq_true, if_false] at hr
            have inf1 : (infB M E ba || infB M E bb) = false := by unfold infB; rw [hqa, hqb]; simp; omega
            unfold sumT bitsS prodT tmS at hr
            simp only [inf1, Bool.false_and, Bool.false_eq_true, if_false] at hr
            by_cases c3 : qc = 3
            · have infc : infB M E bc = true := by unfold infB; rw [hqc]; exact decide_eq_true c3
              rw [infc] at hr
              simp only [if_true, Prod.mk.injEq] at hr
              obtain ⟨hv, rfl, rfl⟩ := hr
              rw [inf_bits hf (hlt bc (by simp)) (by rw [hqc, c3])] at hv
              subst hv
              exact rfma_add6 hf mode ba bb bc hba hbb hbc q hq dq hqa hqb hqc (beq_f a3) (beq_f a0) (beq_f b3) hn rfl rfl rfl (beq_t c3)
            · have infc : infB M E bc = false := by unfold infB; rw [hqc]; exact decide_eq_false c3
              rw [infc] at hr
              simp only [Bool.false_eq_true, if_false] at hr
              have nan3 : qa < 4 ∧ qb < 4 ∧ qc < 4 := by
                have := fst_none hn
                unfold nanB at this
                rw [hqa, hqb, hqc] at this
                simp at this
                omega
              obtain ⟨un, ux, ue, hu⟩ : ∃ n x e, (valS M E H low ba).1 = ⟨n, x, e⟩ := ⟨_, _, _, rfl⟩
              obtain ⟨vn, vx, ve, hv⟩ : ∃ n x e, (valS M E H low bb).1 = ⟨n, x, e⟩ := ⟨_, _, _, rfl⟩
              obtain ⟨wn, wx, we, hx⟩ : ∃ n x e, (valS M E H low bc).1 = ⟨n, x, e⟩ := ⟨_, _, _, rfl⟩
              have hu' := val_pair hf (hlt ba (by simp)) (show clsS M E ba ≤ 2 by rw [hqa]; omega) hu
              have hv' := val_pair hf (hlt bb (by simp)) (show clsS M E bb ≤ 2 by rw [hqb]; omega) hv
              have hx' := val_pair hf (hlt bc (by simp)) (show clsS M E bc ≤ 2 by rw [hqc]; omega) hx
              obtain ⟨m1, m2, m3, m4, m5, m6⟩ := val_mul hf ba bb
              obtain ⟨s1, s2, s3, s4⟩ := val_fma hf ba bb bc
              have lu := (val_in hf ba).2.2.2.2
              have lv := (val_in hf bb).2.2.2.2
              obtain ⟨_, _, we1, _, lw⟩ := val_in hf bc
              have hne := add_ne (s := (ngB H ba != ngB H bb)) (p := D.mul (valS M E H low ba).1 (valS M E H low bb).1) (w := (valS M E H low bc).1) (by omega) (by omega) mul_neg
              have hwn := val_neg (M := M) (E := E) (H := H) (low := low) (b := bc)
              obtain ⟨pn, px, pe, hp⟩ : ∃ n x e, D.mul (valS M E H low ba).1 (valS M E H low bb).1 = ⟨n, x, e⟩ := ⟨_, _, _, rfl⟩
              obtain ⟨sn, sx, se, hs⟩ : ∃ n x e, D.add (D.mul (valS M E H low ba).1 (valS M E H low bb).1) (valS M E H low bc).1 = ⟨n, x, e⟩ := ⟨_, _, _, rfl⟩
              rw [hs] at hr hne s1 s2
              rw [hp] at hne s1 m1 m2
              rw [hu, hv] at m1
              rw [hx] at hne s1 hwn lw
              rw [hu] at lu
              rw [hv] at lv
              simp only at hne s2 m2 hwn lu lv lw hr
              obtain ⟨gc, hgc⟩ : ∃ g, ngB H bc = g := ⟨_, rfl⟩
              by_cases hp0 : px = 0
              · by_cases hw0 : wx = 0
                · by_cases eg : ngB H bc = (ngB H ba != ngB H bb)
                  · refine rfma_mmD hf mode ba bb bc hba hbb hbc q hq dq hqa hqb hqc (beq_f a3) (beq_f b3) hn rfl rfl rfl (beq_f c3) hu' hv' hx' m1 s1 (by omega) (by omega) (by omega) (by omega) (by omega) hp0 hw0 (beq_iff_eq.2 eg) ?_
                    rw [← hr]
                    unfold ntS
                    rw [if_pos eg.symm]
                    rfl
                  · refine rfma_mmC hf mode ba bb bc hba hbb hbc q hq dq hqa hqb hqc (beq_f a3) (beq_f b3) hn rfl rfl rfl (beq_f c3) hu' hv' hx' m1 s1 (by omega) (by omega) (by omega) (by omega) (by omega) hp0 hw0 (beq_eq_false_iff_ne.2 eg) ?_
                    rw [← hr]
                    unfold ntS
                    rw [if_neg (fun h => eg h.symm)]
                    rw [beq_dec]
                · refine rfma_mmB hf mode ba bb bc hba hbb hbc q hq dq hqa hqb hqc (beq_f a3) (beq_f b3) hn rfl rfl rfl (beq_f c3) hu' hv' hx' m1 s1 (by omega) (by omega) (by omega) (by omega) (by omega) hp0 hw0 ?_
                  rw [← hr]
                  by_cases eg : ngB H bc = (ngB H ba != ngB H bb)
                  · exact roundS_ng (hne (fun h => (hwn h).trans eg) (.inr hw0)) _ _
                  · unfold ntS
                    rw [if_neg (fun h => eg h.symm), beq_dec]
              · refine rfma_mmA hf mode ba bb bc hba hbb hbc q hq dq hqa hqb hqc (beq_f a3) (beq_f b3) hn rfl rfl rfl (beq_f c3) hu' hv' hx' m1 s1 (by omega) (by omega) (by omega) (by omega) (by omega) hp0 ?_
                rw [← hr]
                by_cases eg : ngB H bc = (ngB H ba != ngB H bb)
                · exact roundS_ng (hne (fun h => (hwn h).trans eg) (.inl hp0)) _ _
                · unfold ntS
                  rw [if_neg (fun h => eg h.symm), beq_dec]
          · simp only [if_true] at hr
            simp only [Bool.false_eq_true, if_false, Prod.mk.injEq] at hr
            obtain ⟨rfl, hfl, rfl⟩ := hr
            cases sg
            · simp only [Bool.false_eq_true, if_false] at hfl
              subst hfl
              exact rfma_none6f hf mode ba bb bc hba hbb hbc q hq dq hqa hqb hqc (beq_f a3) (beq_f a0) (beq_f b3) hn hsg
            · simp only [if_true] at hfl
              subst hfl
              exact rfma_none6t hf mode ba bb bc hba hbb hbc q hq dq hqa hqb hqc (beq_f a3) (beq_f a0) (beq_f b3) hn hsg
  · have dq : (q != 0) = true := by simpa using h0
    rw [if_pos h0] at hr
    simp only [Prod.mk.injEq] at hr
    obtain ⟨rfl, rfl, rfl⟩ := hr
    exact rfma_wrong hf mode ba bb bc hba hbb hbc q hq dq
theorem radd5_as {B P W M E H : Nat} {low : Int} (hf : Fm B P W M E H low) (mode : Int) (ba bb : Nat) (hba : ba < 18446744073709551616) (hbb : bb < 18446744073709551616) {w : World} {v : Nat} {fl err : Int} (hr : addI P M E H low mode ba bb = (v, fl, err)) :
    Calls Tryz.prog 8 #[.agg #[.int .i64 (B : Int), .int .i64 (P : Int), .int .i64 (W : Int)], .int .i64 mode, .int .u64 (ba : Int), .int .u64 (bb : Int)] w (ToX w v fl err) := by
  have hb := hf.bd
  rw [← fma_one hf] at hr
  have ho := (one_is hf).2.2.1
  obtain ⟨o, hoe⟩ : ∃ o, oneS P M low = o := ⟨_, rfl⟩
  rw [hoe] at hr ho
  replace ho : o < 18446744073709551616 := by omega
  have HO := Lib.hid hoe
  have HR := Lib.hid hr
  clear hr hoe hb
  go_enter Tryz.func8, Tryz.ntmps8
  go_wp2_with fail
  obtain ⟨V, hV, z4, BW, sW⟩ := fframe1 w 29 (B : Int) (P : Int) (W : Int)
  rw [hV]
  clear hV
  clear sW
  replace z4 := z4.on ((Below.refl _ _).drew : Below V.heap.size V V.drew)
  replace BW := Lib.hid (Below.step BW ((Below.refl _ _).drew : Below V.heap.size V V.drew))
  go_region_held3 (fun w' => w'.cell? ⟨w.heap.size, 0, none⟩ = some (.int .i64 (B : Int)) ∧ w'.cell? ⟨w.heap.size, 1, none⟩ = some (.int .i64 (P : Int)) ∧ w'.cell? ⟨w.heap.size, 2, none⟩ = some (.int .i64 (W : Int)))
    ((first | (with_reducible exact ⟨z4.cells.1, z4.cells.2.1, z4.cells.2.2.1⟩)))
    (first
      | (go_at_call 21
         (with_reducible refine (rone_as hf o HO.out _).mono ?_)
         rintro en w1 ⟨rfl, b⟩
         replace z4 := z4.on b
         replace BW := Lib.hid (Below.step BW.out b)
         clear b)
      | (go_at_call 14
         (with_reducible refine (rfma_as hf mode ba o bb hba ho hbb HR.out).mono ?_)
         rintro en w2 ⟨rfl, b⟩
         replace z4 := z4.on b
         replace BW := Lib.hid (Below.step BW.out b)
         clear b))
  all_goals replace BW := BW.out
  go_wp2_with fail
  refine bodyPost_ret (v := .tuple #[.int .u64 (v : Int), .int .i64 fl, .int .i64 err]) (by simp [results, Tryz.results8, go_sem]) rfl ⟨rfl, BW⟩
theorem rmul5_as {B P W M E H : Nat} {low : Int} (hf : Fm B P W M E H low) (mode : Int) (ba bb : Nat) (hba : ba < 18446744073709551616) (hbb : bb < 18446744073709551616) {w : World} {v : Nat} {fl err : Int} (hr : mulI P M E H low mode ba bb = (v, fl, err)) :
    Calls Tryz.prog 12 #[.agg #[.int .i64 (B : Int), .int .i64 (P : Int), .int .i64 (W : Int)], .int .i64 mode, .int .u64 (ba : Int), .int .u64 (bb : Int)] w (ToX w v fl err) := by
  have hb := hf.bd
  rw [← fma_zero hf] at hr
  have hz := (zero_is hf (ngB H ba != ngB H bb)).2.2.1
  obtain ⟨ga, hga⟩ : ∃ g, ngB H ba = g := ⟨_, rfl⟩
  obtain ⟨gb, hgb⟩ : ∃ g, ngB H bb = g := ⟨_, rfl⟩
  rw [hga, hgb] at hr hz
  obtain ⟨z, hze⟩ : ∃ z, sgn H (ga != gb) 0 = z := ⟨_, rfl⟩
  rw [hze] at hr hz
  replace hz : z < 18446744073709551616 := by omega
  have HNA := Lib.hid hga
  have HNB := Lib.hid hgb
  have HZ : Hid (sgn H (!(ga == gb)) 0 = z) := Lib.hid hze
  have HR := Lib.hid hr
  clear hr hze hga hgb hb
  go_enter Tryz.func12, Tryz.ntmps12
  go_wp2_with fail
  obtain ⟨V, hV, z4, BW, sW⟩ := fframe1 w 29 (B : Int) (P : Int) (W : Int)
  rw [hV]
  clear hV
  clear sW
  replace z4 := z4.on ((Below.refl _ _).drew : Below V.heap.size V V.drew)
  replace BW := Lib.hid (Below.step BW ((Below.refl _ _).drew : Below V.heap.size V V.drew))
  go_region_held3 (fun w' => w'.cell? ⟨w.heap.size, 0, none⟩ = some (.int .i64 (B : Int)) ∧ w'.cell? ⟨w.heap.size, 1, none⟩ = some (.int .i64 (P : Int)) ∧ w'.cell? ⟨w.heap.size, 2, none⟩ = some (.int .i64 (W : Int)))
    ((first | (with_reducible exact ⟨z4.cells.1, z4.cells.2.1, z4.cells.2.2.1⟩)))
    (first
      | (go_at_call 31
         (with_reducible refine (rneg_as5 hf ba hba _ HNA.out _).mono ?_)
         rintro en w1 ⟨rfl, b⟩
         replace z4 := z4.on b
         replace BW := Lib.hid (Below.step BW.out b)
         clear b)
      | (go_at_call 31
         (with_reducible refine (rneg_as5 hf bb hbb _ HNB.out _).mono ?_)
         rintro en w1 ⟨rfl, b⟩
         replace z4 := z4.on b
         replace BW := Lib.hid (Below.step BW.out b)
         clear b)
      | (go_at_call 30
         (with_reducible refine (build_none hf (!(ga == gb)) z HZ.out _).mono ?_)
         rintro en w1 ⟨rfl, b⟩
         replace z4 := z4.on b
         replace BW := Lib.hid (Below.step BW.out b)
         clear b)
      | (go_at_call 14
         (with_reducible refine (rfma_as hf mode ba bb z hba hbb hz HR.out).mono ?_)
         rintro en w1 ⟨rfl, b⟩
         replace z4 := z4.on b
         replace BW := Lib.hid (Below.step BW.out b)
         clear b))
  all_goals replace BW := BW.out
  all_goals (go_wp2_with fail; refine bodyPost_ret (v := .tuple #[.int .u64 (v : Int), .int .i64 fl, .int .i64 err]) (by simp [results, Tryz.results12, go_sem]) rfl ⟨rfl, BW⟩)
theorem rsub5_wrong {B P W M E H : Nat} {low : Int} (hf : Fm B P W M E H low) (mode : Int) (ba bb : Nat) (hba : ba < 18446744073709551616) (hbb : bb < 18446744073709551616) {w : World} (q : Int) (hq : wrongS H mode [ba, bb] = q) (d : (q == 0) = false) {v : Nat} {fl err : Int} (hr : addI P M E H low mode ba bb = (v, fl, err)) :
    Calls Tryz.prog 10 #[.agg #[.int .i64 (B : Int), .int .i64 (P : Int), .int .i64 (W : Int)], .int .i64 mode, .int .u64 (ba : Int), .int .u64 (bb : Int)] w (ToX w v fl err) := by
  have HL : Hid (∀ x ∈ [ba, bb], x < 18446744073709551616) := Lib.hid (by intro x hx; simp only [List.mem_cons, List.not_mem_nil, or_false] at hx; omega)
  have HW := Lib.hid hq
  clear hq
  have HR := Lib.hid hr
  clear hr
  go_enter Tryz.func10, Tryz.ntmps10
  go_wp2_with fail
  obtain ⟨V, hV, z4, BW, sW⟩ := fframe1 w 29 (B : Int) (P : Int) (W : Int)
  rw [hV]
  clear hV
  obtain ⟨w1, e_w1⟩ : ∃ w', V.alloc (.cells #[.int .u64 (ba : Int), .int .u64 (bb : Int)] 22) = w' := ⟨_, rfl⟩
  have b : Below V.heap.size V w1 := e_w1 ▸ below_lit _ _
  have hs_w1 : w1.heap.size = (w.heap.size + 1) + 1 := e_w1 ▸ size_lit V _ sW
  have ob : OB w1 (w.heap.size + 1) [ba, bb] := e_w1 ▸ OB.two V sW ba bb
  rw [e_w1]
  clear e_w1
  replace z4 := z4.on b
  replace BW := Below.step BW b
  clear b
  clear hs_w1
  clear sW
  refine (rwrong_as hf [ba, bb] HL.out (n := 2) rfl (by omega) ob mode q HW.out).mono ?_
  rintro en w2 ⟨rfl, b⟩
  replace z4 := z4.on b
  replace ob := ob.on b
  replace BW := Below.step BW b
  clear b
  clear ob
  obtain ⟨z4c0, z4c1, z4c2, z4f0, z4f1, z4f2, z4l⟩ := z4.cells
  go_wp2_with fail
  refine (radd5_as hf mode ba bb hba hbb HR.out).mono ?_
  rintro en w3 ⟨rfl, b⟩
  clear z4c0 z4c1 z4c2 z4f0 z4f1 z4f2 z4l
  replace z4 := z4.on b
  replace BW := Below.step BW b
  clear b
  go_wp2_with fail
  refine bodyPost_ret (v := .tuple #[.int .u64 (v : Int), .int .i64 fl, .int .i64 err]) (by simp [results, Tryz.results10, go_sem]) rfl ⟨rfl, BW⟩
theorem rsub5_nan {B P W M E H : Nat} {low : Int} (hf : Fm B P W M E H low) (mode : Int) (ba bb : Nat) (hba : ba < 18446744073709551616) (hbb : bb < 18446744073709551616) {w : World} (q : Int) (hq : wrongS H mode [ba, bb] = q) (d : (q == 0) = true) (c : Int) (hc : clsS M E bb = c) (d4 : decide (c < 4) = false) {v : Nat} {fl err : Int} (hr : addI P M E H low mode ba bb = (v, fl, err)) :
    Calls Tryz.prog 10 #[.agg #[.int .i64 (B : Int), .int .i64 (P : Int), .int .i64 (W : Int)], .int .i64 mode, .int .u64 (ba : Int), .int .u64 (bb : Int)] w (ToX w v fl err) := by
  have HL : Hid (∀ x ∈ [ba, bb], x < 18446744073709551616) := Lib.hid (by intro x hx; simp only [List.mem_cons, List.not_mem_nil, or_false] at hx; omega)
  have HW := Lib.hid hq
  clear hq
  have HC := Lib.hid hc
  clear hc
  have HR := Lib.hid hr
  clear hr
  go_enter Tryz.func10, Tryz.ntmps10
  go_wp2_with fail
  obtain ⟨V, hV, z4, BW, sW⟩ := fframe1 w 29 (B : Int) (P : Int) (W : Int)
  rw [hV]
  clear hV
  obtain ⟨w1, e_w1⟩ : ∃ w', V.alloc (.cells #[.int .u64 (ba : Int), .int .u64 (bb : Int)] 22) = w' := ⟨_, rfl⟩
  have b : Below V.heap.size V w1 := e_w1 ▸ below_lit _ _
  have hs_w1 : w1.heap.size = (w.heap.size + 1) + 1 := e_w1 ▸ size_lit V _ sW
  have ob : OB w1 (w.heap.size + 1) [ba, bb] := e_w1 ▸ OB.two V sW ba bb
  rw [e_w1]
  clear e_w1
  replace z4 := z4.on b
  replace BW := Below.step BW b
  clear b
  clear hs_w1
  clear sW
  refine (rwrong_as hf [ba, bb] HL.out (n := 2) rfl (by omega) ob mode q HW.out).mono ?_
  rintro en w2 ⟨rfl, b⟩
  replace z4 := z4.on b
  replace ob := ob.on b
  replace BW := Below.step BW b
  clear b
  clear ob
  obtain ⟨z4c0, z4c1, z4c2, z4f0, z4f1, z4f2, z4l⟩ := z4.cells
  go_wp2_with fail
  refine (rclass_as hf bb c hbb HC.out _).mono ?_
  rintro en w3 ⟨rfl, b⟩
  clear z4c0 z4c1 z4c2 z4f0 z4f1 z4f2 z4l
  replace z4 := z4.on b
  replace BW := Below.step BW b
  clear b
  obtain ⟨z4c0, z4c1, z4c2, z4f0, z4f1, z4f2, z4l⟩ := z4.cells
  go_wp2_with fail
  refine (radd5_as hf mode ba bb hba hbb HR.out).mono ?_
  rintro en w4 ⟨rfl, b⟩
  clear z4c0 z4c1 z4c2 z4f0 z4f1 z4f2 z4l
  replace z4 := z4.on b
  replace BW := Below.step BW b
  clear b
  go_wp2_with fail
  refine bodyPost_ret (v := .tuple #[.int .u64 (v : Int), .int .i64 fl, .int .i64 err]) (by simp [results, Tryz.results10, go_sem]) rfl ⟨rfl, BW⟩
theorem rsub5_turn {B P W M E H : Nat} {low : Int} (hf : Fm B P W M E H low) (mode : Int) (ba bb : Nat) (hba : ba < 18446744073709551616) (hbb : bb < 18446744073709551616) {w : World} (q : Int) (hq : wrongS H mode [ba, bb] = q) (d : (q == 0) = true) (c : Int) (hc : clsS M E bb = c) (d4 : decide (c < 4) = true) (bt : Nat) (ht : trnS H bb = bt) (hbt : bt < 18446744073709551616) {v : Nat} {fl err : Int} (hr : addI P M E H low mode ba bt = (v, fl, err)) :
    Calls Tryz.prog 10 #[.agg #[.int .i64 (B : Int), .int .i64 (P : Int), .int .i64 (W : Int)], .int .i64 mode, .int .u64 (ba : Int), .int .u64 (bb : Int)] w (ToX w v fl err) := by
  have HL : Hid (∀ x ∈ [ba, bb], x < 18446744073709551616) := Lib.hid (by intro x hx; simp only [List.mem_cons, List.not_mem_nil, or_false] at hx; omega)
  have HW := Lib.hid hq
  clear hq
  have HC := Lib.hid hc
  have HT := Lib.hid ht
  clear hc ht
  have HR := Lib.hid hr
  clear hr
  go_enter Tryz.func10, Tryz.ntmps10
  go_wp2_with fail
  obtain ⟨V, hV, z4, BW, sW⟩ := fframe1 w 29 (B : Int) (P : Int) (W : Int)
  rw [hV]
  clear hV
  obtain ⟨w1, e_w1⟩ : ∃ w', V.alloc (.cells #[.int .u64 (ba : Int), .int .u64 (bb : Int)] 22) = w' := ⟨_, rfl⟩
  have b : Below V.heap.size V w1 := e_w1 ▸ below_lit _ _
  have hs_w1 : w1.heap.size = (w.heap.size + 1) + 1 := e_w1 ▸ size_lit V _ sW
  have ob : OB w1 (w.heap.size + 1) [ba, bb] := e_w1 ▸ OB.two V sW ba bb
  rw [e_w1]
  clear e_w1
  replace z4 := z4.on b
  replace BW := Below.step BW b
  clear b
  clear hs_w1
  clear sW
  refine (rwrong_as hf [ba, bb] HL.out (n := 2) rfl (by omega) ob mode q HW.out).mono ?_
  rintro en w2 ⟨rfl, b⟩
  replace z4 := z4.on b
  replace ob := ob.on b
  replace BW := Below.step BW b
  clear b
  clear ob
  obtain ⟨z4c0, z4c1, z4c2, z4f0, z4f1, z4f2, z4l⟩ := z4.cells
  go_wp2_with fail
  refine (rclass_as hf bb c hbb HC.out _).mono ?_
  rintro en w3 ⟨rfl, b⟩
  clear z4c0 z4c1 z4c2 z4f0 z4f1 z4f2 z4l
  replace z4 := z4.on b
  replace BW := Below.step BW b
  clear b
  obtain ⟨z4c0, z4c1, z4c2, z4f0, z4f1, z4f2, z4l⟩ := z4.cells
  go_upto_region 3 with fail
  clear z4c0 z4c1 z4c2 z4f0 z4f1 z4f2 z4l
  replace z4 := z4.on ((Below.refl _ _).drew : Below w3.heap.size w3 w3.drew)
  replace BW := Lib.hid (Below.step BW ((Below.refl _ _).drew : Below w3.heap.size w3 w3.drew))
  go_region_held3 (fun w' => w'.cell? ⟨w.heap.size, 0, none⟩ = some (.int .i64 (B : Int)) ∧ w'.cell? ⟨w.heap.size, 1, none⟩ = some (.int .i64 (P : Int)) ∧ w'.cell? ⟨w.heap.size, 2, none⟩ = some (.int .i64 (W : Int)))
    ((first | (with_reducible exact ⟨z4.cells.1, z4.cells.2.1, z4.cells.2.2.1⟩)))
    (first
      | (go_at_call 16
         (with_reducible refine (rturned_as5 hf bb hbb bt HT.out _).mono ?_)
         rintro en w4 ⟨rfl, b⟩
         replace z4 := z4.on b
         replace BW := Lib.hid (Below.step BW.out b)
         clear b)
      | (go_at_call 8
         (with_reducible refine (radd5_as hf mode ba bt hba hbt HR.out).mono ?_)
         rintro en w5 ⟨rfl, b⟩
         replace z4 := z4.on b
         replace BW := Lib.hid (Below.step BW.out b)
         clear b))
  all_goals replace BW := BW.out
  go_wp2_with fail
  refine bodyPost_ret (v := .tuple #[.int .u64 (v : Int), .int .i64 fl, .int .i64 err]) (by simp [results, Tryz.results10, go_sem]) rfl ⟨rfl, BW⟩
theorem rsub5_as {B P W M E H : Nat} {low : Int} (hf : Fm B P W M E H low) (mode : Int) (ba bb : Nat) (hba : ba < 18446744073709551616) (hbb : bb < 18446744073709551616) {w : World} {v : Nat} {fl err : Int} (hr : subI P M E H low mode ba bb = (v, fl, err)) :
    Calls Tryz.prog 10 #[.agg #[.int .i64 (B : Int), .int .i64 (P : Int), .int .i64 (W : Int)], .int .i64 mode, .int .u64 (ba : Int), .int .u64 (bb : Int)] w (ToX w v fl err) := by
  have hb := hf.bd
  unfold subI at hr
  obtain ⟨q, hq⟩ : ∃ q, wrongS H mode [ba, bb] = q := ⟨_, rfl⟩
  obtain ⟨c, hc⟩ : ∃ q, clsS M E bb = q := ⟨_, rfl⟩
  have htl := trnS_lt hf bb
  by_cases h0 : q = 0
  · obtain ⟨hm, hlt⟩ := wrongS_ok (by rw [hq, h0] : wrongS H mode [ba, bb] = 0)
    have h2 := hlt bb (by simp)
    rw [decide_eq_true h2] at hr
    by_cases hn : c < 4
    · have : nanB M E bb = false := by unfold nanB; rw [hc]; exact decide_eq_false (by omega)
      rw [this] at hr
      exact rsub5_turn hf mode ba bb hba hbb q hq (beq_t h0) c hc (decide_eq_true hn) _ rfl (by omega) hr
    · have : nanB M E bb = true := by unfold nanB; rw [hc]; exact decide_eq_true (by omega)
      rw [this] at hr
      exact rsub5_nan hf mode ba bb hba hbb q hq (beq_t h0) c hc (decide_eq_false hn) hr
  · refine rsub5_wrong hf mode ba bb hba hbb q hq (beq_f h0) ?_
    rw [← hr]
    split
    · rename_i hx
      have h2 : bb < 2 * H := by simp at hx; exact hx.1
      unfold addI
      have hw : wrongS H mode [ba, trnS H bb] = wrongS H mode [ba, bb] := by
        unfold wrongS
        simp only [List.all_cons, List.all_nil, Bool.and_true]
        rw [decide_eq_true h2, decide_eq_true htl]
      rw [hw, hq, if_pos h0, if_pos h0]
    · rfl
end Go.Proofs.YtpachoeignpcbaaGreatDoor
