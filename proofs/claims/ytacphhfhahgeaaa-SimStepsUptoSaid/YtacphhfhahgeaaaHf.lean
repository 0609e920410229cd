
/-
  sim: values.
-/
import Derived.Test.YtacphhfhahgeaaaHe
namespace Go.Proofs.Ytacphhfhahgeaaa
open Go.RowKit
set_option linter.unusedVariables false
set_option maxRecDepth 4000

/-- the values as they are being found. -/
structure Vx (w0 : World) (sV : Nat) (A : Option Addr) (n c : Nat) (vv : List Int) (w : World) : Prop where
  bw : Below w0.heap.size w0 w
  z : Bx w sV [.slice A n c]
  row : w.ownsRow w0.heap.size 5 1 (.slice A n c) n (by8 vv)
  ne : ∀ b off, A = some ⟨b, off, none⟩ → b ≠ sV
section
variable {w0 w w' : World} {sV n c : Nat} {A : Option Addr} {vv : List Int}
theorem Vx.on (h : Vx w0 sV A n c vv w) (hb : Below w.heap.size w w') : Vx w0 sV A n c vv w' := ⟨Below.step h.bw hb, h.z.on hb, row_on h.row hb, h.ne⟩
theorem Vx.len (h : Vx w0 sV A n c vv w) : vv.length = n := by have := h.row.1; rwa [Nat.mul_one, by8_len] at this
theorem Vx.sw (h : Vx w0 sV A n c vv w) : Sw A n c := by
  obtain ⟨A', c', e, s, _⟩ := row_rw h.row
  cases e
  exact s
theorem Vx.rw_ (h : Vx w0 sV A n c vv w) : Rw w A n (by8 vv) ∧ ∀ b off, A = some ⟨b, off, none⟩ → w0.heap.size ≤ b ∧ off = 0 := by
  obtain ⟨A', c', e, s, h1, h2⟩ := row_rw h.row
  cases e
  exact ⟨h2, h1⟩
theorem Vx.at (h : Vx w0 sV A n c vv w) {q : Nat} (hq : q < n) : ∃ gg, A = some ⟨gg, 0, none⟩ ∧ w0.heap.size ≤ gg ∧ gg ≠ sV := by
  obtain ⟨h1, h2⟩ := h.rw_
  obtain ⟨b, off, x, e, _⟩ := h1.b8 hq
  obtain ⟨h3, h4⟩ := h2 b off e
  subst h4
  exact ⟨b, e, h3, h.ne b 0 e⟩
theorem Vx.put {gg : Nat} (h : Vx w0 sV (some ⟨gg, 0, none⟩) n c vv w) (q : Nat) (y : Int) : Vx w0 sV (some ⟨gg, 0, none⟩) n c (vv.set q y) (w.setCell ⟨gg, q, none⟩ (.int .u8 y)) := by
  have h1 := (h.rw_.2 gg 0 rfl).1
  have h2 := h.ne gg 0 rfl
  have hs := (h.row.stored q (.int .u8 y)).1
  rw [by8_set] at hs
  exact ⟨h.bw.setCell h1 _, h.z.apart h2.symm q _, hs, h.ne⟩
theorem Vx.drew (h : Vx w0 sV A n c vv w) : Vx w0 sV A n c vv w.drew := h.on (Below.refl _ _).drew
/-- what a drawn store reads. -/
theorem Vx.s {gg : Nat} (h : Vx w0 sV (some ⟨gg, 0, none⟩) n c vv w) {q : Nat} (hq : q < n) : w.cell? ⟨sV, 0, none⟩ = some (.slice (some ⟨gg, 0, none⟩) n c) ∧ w.cell? ⟨gg, q, none⟩ = some (valAt w gg q) ∧ w.frozen? ⟨gg, q, none⟩ = false := by
  refine ⟨h.z.2 0 _ rfl, ?_, h.row.frozenAt q⟩
  obtain ⟨b, off, x, e, _, hc⟩ := h.rw_.1.b8 hq
  cases e
  rw [Nat.zero_add] at hc
  exact valAt_of hc
end
theorem set_in (I : List Pt) (xs : List Nat) (v : List Int) (i : Nat) {p : Pt} {x : Nat} (hp : I[i]? = some p) (hx : xs[i]? = some x) : setS p.bits x (insS I xs v i) p.bits.length = insS I xs v (i + 1) := by
  rw [insS, getD_of hp, getD_of hx]
set_option maxRecDepth 20000 in
set_option maxHeartbeats 8000000 in
/-- VALUES. -/
theorem values_as {B : Nat} {s : Si} {w : World} {g : Nat} {v : List Int} (k : s.Ok B) (h : s.At w g v) {A : Option Addr} {n c : Nat} {xs : List Nat} (hx : Nu w A n xs) (hf : fitsS s.I xs = true) :
    Calls Try.prog 81 #[.pointer (some ⟨s.p, 0, none⟩), .slice A n c] w fun en w' => ∃ A' c', en = .returned (.slice A' s.nn c') ∧ Sw A' s.nn c' ∧ (∀ b off, A' = some ⟨b, off, none⟩ → w.heap.size ≤ b ∧ off = 0) ∧ Rw w' A' s.nn (by8 (valsS s.N s.I s.G v xs)) ∧ Below w.heap.size w w' := by
  have hI := h.is_ k
  have hN := h.ns k
  have hG := h.gs k
  have hp := h.var
  have hni := k.hi
  have hnn := k.hn
  have hng := k.hg
  have hv := h.now.b8 h.len
  have hplt := h.var.lt
  have HV01 := Lib.hid h.bin
  have HF := Lib.hid k.f
  have HB : Hid (∀ q ∈ s.I, q.bits.length ≤ 100000) := Lib.hid fun q hq => k.hb q (List.mem_append_left _ hq)
  have HP : Hid (∀ p ∈ s.I, ∀ q ∈ p.bits, ∃ r : Nat, q = (r : Int) ∧ r < s.nn) := Lib.hid fun p hp q hq => by
    obtain ⟨h1, h2⟩ := k.pl p (List.mem_append_left _ hp) q hq
    exact ⟨q.toNat, by omega, h2⟩
  have HG : Hid (∀ q ∈ s.G, gateOk s.N q) := Lib.hid k.gs
  have HL : Hid (xs.length = s.I.length) := Lib.hid (by unfold fitsS at hf; simp only [Bool.and_eq_true, decide_eq_true_eq] at hf; exact hf.1)
  clear h k hf
  obtain ⟨wb, p, An, nn, cn, Ai, ni, ci, Ao, no, co, Ag, ng, cg, Ar, nr, cr, N, I, O, G, R⟩ := s
  dsimp only at *
  have hl1 := hI.1
  have hl2 := hx.len
  obtain rfl : n = ni := by rw [← hl1, ← hl2]; exact HL.out
  obtain ⟨c0, c1, c2, c3, c4, c5⟩ := own6  hp
  go_enter Try.func81, Try.ntmps81
  go_wp2_with fail
  refine (cloneB_as hv ⟨Nat.le_refl _, by unfold maxLen; omega, fun e => by cases e⟩ (by omega)).mono ?_
  rintro en w1 ⟨vo, rfl, hrow, b1⟩
  obtain ⟨A', c', rfl, sw', hlow, _⟩ := row_rw hrow
  have hne : ∀ b off, A' = some ⟨b, off, none⟩ → b ≠ w1.heap.size := fun b off e => by
    have := (hrow.lt b (by rw [e]; rfl)).2
    omega
  clear c0 c1 c2 c3 c4 c5
  go_upto_region 2 with fail
  obtain ⟨w2, e_w2⟩ : ∃ w', w1.alloc (.cells #[.slice A' nn c'] 27) = w' := ⟨_, rfl⟩
  have hV : Vx w w1.heap.size A' nn c' (insS I xs v 0) w2 := e_w2 ▸ ⟨b1.alloc b1.size _, Bx.made_k w1 rfl #[.slice A' nn c'] 27, row_on hrow (below_lit _ _), hne⟩
  obtain ⟨sV, hsV⟩ : ∃ sV, w1.heap.size = sV := ⟨_, rfl⟩
  rw [e_w2]
  rw [hsV] at hV ⊢
  have hp2 := hp.below hV.bw hp.lt
  clear e_w2 hsV hne hrow b1 hlow
  obtain ⟨c0, c1, c2, c3, c4, c5⟩ := own6  hp2
  go_wp2_with fail
  clear c0 c1 c2 c3 c4 c5 hp2
  have HL1 := Lib.hid hl1
  have HL2 := Lib.hid hl2
  clear hl1 hl2
  go_loopw [24] (fun iv wr => ∃ i : Nat, i ≤ n ∧ iv = .int .i64 i ∧ Vx w sV A' nn c' (insS I xs v i) wr) (fun iv _ => n - (intOf iv).toNat)
  case atStart => exact ⟨0, Nat.zero_le _, rfl, hV⟩
  case round =>
    clear hV
    obtain ⟨i, hi, rfl, hV⟩ := hrel
    by_cases hlt : i < n
    · have BW := hV.bw
      obtain ⟨b1, o1, nm, A1, m1, d1, bs, rfl, hb1, HX, p1, p2, hi1⟩ := hI.at0 hlt
      replace p1 := (BW.cell (p := ⟨b1, o1 + i * 2, none⟩) hb1).trans p1
      replace p2 := (BW.cell (p := ⟨b1, o1 + i * 2 + 1, none⟩) hb1).trans p2
      obtain ⟨b2, o2, A2, m2, d2, x, rfl, hb2, HY, x1, ha, hm2⟩ := hx.at hlt
      have HM1 : Hid (bs.length = m1) := Lib.hid hi1.1
      have hm1 : m1 ≤ 100000 := by rw [← hi1.1]; exact HB.out _ (List.mem_of_getElem? HX.out)
      have HQ : Hid (∀ q ∈ bs, ∃ r : Nat, q = (r : Int) ∧ r < nn) := Lib.hid (HP.out _ (List.mem_of_getElem? HX.out))
      have HST := Lib.hid (set_in I xs v i HX.out HY.out)
      go_upto_region 5 with fail
      obtain ⟨w4, e_w4⟩ : ∃ w', wr.alloc (.cells #[.string nm, .slice A1 m1 d1] 94) = w' := ⟨_, rfl⟩
      have z0 : Bx w4 wr.heap.size [.string nm, .slice A1 m1 d1] := e_w4 ▸ Bx.made_k wr rfl #[.string nm, .slice A1 m1 d1] 94
      have b4 : Below wr.heap.size wr w4 := e_w4 ▸ below_lit _ _
      rw [e_w4]
      clear e_w4 p1 p2
      have hV4 := hV.on b4
      have z0c1 := z0.2 1 _ rfl
      go_wp2_with fail
      obtain ⟨wo, rfl⟩ : ∃ x, x = wr := ⟨_, rfl⟩
      clear z0c1 z0 hV BW
      go_loopw [32] (fun kv wr => ∃ j : Nat, j ≤ m1 ∧ kv = .int .i64 j ∧ Vx w sV A' nn c' (setS bs x (insS I xs v i) j) wr) (fun kv _ => m1 - (intOf kv).toNat)
      case atStart => exact ⟨0, Nat.zero_le _, rfl, hV4⟩
      case round =>
        clear hV4
        obtain ⟨j, hj, rfl, hV⟩ := hrel
        have BW := hV.bw
        by_cases hlj : j < m1
        · have hi2 : Is wr A1 m1 bs := hi1.on BW
          obtain ⟨b3, o3, q, rfl, HR, q1⟩ := hi2.at hlj
          obtain ⟨q, rfl, hqn⟩ := HQ.out q (List.mem_of_getElem? HR.out)
          obtain ⟨gg, rfl, hgw, hgs⟩ := hV.at hqn
          have i0 : (0 : Int) ≤ (q : Int) := by omega
          have i1 : (q : Int) < (nn : Int) := by omega
          have j0 : (0 : Int) ≤ (i : Int) := by omega
          have j1 : (i : Int) < (n : Int) := by omega
          obtain ⟨y, hy⟩ : ∃ y, bitI x j = y := ⟨_, rfl⟩
          have hst : (setS bs x (insS I xs v i) j).set q y = setS bs x (insS I xs v i) (j + 1) := by
            rw [setS, getD_of HR.out, hy, Int.toNat_natCast]
          have HBT : Hid (∀ W, Below w.heap.size w W → Calls Try.prog 97 #[.slice A2 m2 d2, .int .i64 (j : Int)] W fun e w' => e = .returned (.int .i64 y) ∧ W = w') := Lib.hid fun W hW => by
            have := bit_any (ha.on hW) (j : Int) (by omega) (by omega)
            rw [Int.toNat_natCast] at this
            rw [← hy]
            exact this
          have q8 : IntKind.u8.wrap y = y := by rcases (hy ▸ bitI_01 x j : y = 0 ∨ y = 1) with e | e <;> rw [e] <;> rfl
          have HS : ∀ {vv : List Int} {W : World}, Vx w sV (some ⟨gg, 0, none⟩) nn c' vv W → W.cell? ⟨sV, 0, none⟩ = some (.slice (some ⟨gg, 0, none⟩) nn c') ∧ W.cell? ⟨b2, o2 + i, none⟩ = some (.slice A2 m2 d2) ∧ W.cell? ⟨gg, q, none⟩ = some (valAt W gg q) ∧ W.frozen? ⟨gg, q, none⟩ = false := fun hW => by
            obtain ⟨s1, s2, s3⟩ := hW.s hqn
            exact ⟨s1, (hW.bw.cell (p := ⟨b2, o2 + i, none⟩) hb2).trans x1, s2, s3⟩
          have HST1 := Lib.hid hst
          clear hst hy hi2
          go_upto_region 8 with fail
          replace hV := hV.drew
          have HVH := Lib.hid hV
          clear q1
          go_region_held3 (fun w' => w'.cell? ⟨sV, 0, none⟩ = some (.slice (some ⟨gg, 0, none⟩) nn c') ∧ w'.cell? ⟨b2, o2 + i, none⟩ = some (.slice A2 m2 d2) ∧ w'.cell? ⟨gg, q, none⟩ = some (valAt w' gg q) ∧ w'.frozen? ⟨gg, q, none⟩ = false)
            ((first | with_reducible exact HS HVH.out | exact HS (HVH.out.put q y)))
            (first
              | (go_at_call 97
                 (with_reducible refine (HBT.out _ HVH.out.bw).mono ?_)
                 rintro en w5 ⟨rfl, rfl⟩))
          all_goals go_wp2_with fail
          all_goals go_roundw
          case rel => exact ⟨j + 1, by omega, by go_num, HST1.out ▸ hV.put q y⟩
          case measure => simp [intOf]; omega
        · obtain rfl : j = m1 := by omega
          have e9 : setS bs x (insS I xs v i) j = insS I xs v (i + 1) := by rw [← HST.out, HM1.out]
          rw [e9] at hV
          clear e9
          go_wp2_with fail
          go_roundw
          case rel => exact ⟨i + 1, by omega, by go_num, hV⟩
          case measure => simp [intOf]; omega
    · obtain rfl : i = n := by omega
      have BW := hV.bw
      have hp2 := hp.below BW hp.lt
      have hV0 : Vx w sV A' nn c' (runS N G (insS I xs v i) 0) wr := hV
      have H01 : Hid (v01 (insS I xs v i)) := Lib.hid (insS_01 _ _ HV01.out _)
      have HN1 : Hid (insS I xs v I.length = insS I xs v i) := Lib.hid (by rw [HL1.out])
      obtain ⟨v1, hv1⟩ : ∃ v1, insS I xs v i = v1 := ⟨_, rfl⟩
      rw [hv1] at hV0 H01 HN1
      clear hV hv1
      have HG1 := Lib.hid hG.1
      obtain ⟨c0, c1, c2, c3, c4, c5⟩ := own6  hp2
      go_wp2_with fail
      clear c0 c1 c2 c3 c4 c5 hp2 BW
      obtain ⟨wo, rfl⟩ : ∃ x, x = wr := ⟨_, rfl⟩
      go_loopw [55] (fun jv wr => ∃ j : Nat, j ≤ ng ∧ jv = .int .i64 j ∧ Vx w sV A' nn c' (runS N G v1 j) wr) (fun jv _ => ng - (intOf jv).toNat)
      case atStart => exact ⟨0, Nat.zero_le _, rfl, hV0⟩
      case round =>
        clear hV0
        obtain ⟨j, hj, rfl, hV⟩ := hrel
        by_cases hlj : j < ng
        · have BW := hV.bw
          obtain ⟨b3, o3, q, rfl, HR, q1⟩ := (hG.on BW).at hlj
          obtain ⟨hq0, hqn, hk0, hk1, hk7⟩ := HG.out q (List.mem_of_getElem? HR.out)
          obtain ⟨q, rfl⟩ := Int.eq_ofNat_of_zero_le hq0
          rw [Int.toNat_natCast] at hqn hk0 hk1 hk7
          rw [hN.1] at hqn
          obtain ⟨bn, on, x1, x2, x3, x4, eN, HX, n0, n1, n2, n3⟩ := hN.at hqn
          have hnb : bn < w.heap.size := (hN.2 q _ HX.out).elim fun b hb => hb.elim fun off hb => by
            have := hb.1.symm.trans eN
            cases this
            exact hb.2.1
          subst eN
          rw [getD_of HX.out] at hk0 hk1 hk7
          obtain ⟨gg, rfl, hgw, hgs⟩ := hV.at hqn
          have i0 : (0 : Int) ≤ (q : Int) := by omega
          have i1 : (q : Int) < (nn : Int) := by omega
          have HIG : Hid (isGs x1 = true) := Lib.hid (isGs_of hk0 hk1 hk7)
          clear hk0 hk1 hk7 hq0
          obtain ⟨y, hy⟩ : ∃ y, gateS ⟨x1, x2, x3, x4⟩ (runS N G v1 j) = y := ⟨_, rfl⟩
          have HST1 : Hid ((runS N G v1 j).set q y = runS N G v1 (j + 1)) := Lib.hid (by rw [runS, getD_of HR.out, Int.toNat_natCast, getD_of HX.out, hy])
          have HFX : Hid (formedS nn ⟨x1, x2, x3, x4⟩ = true) := Lib.hid (List.all_eq_true.1 HF.out _ (List.mem_of_getElem? HX.out))
          have HVL : Hid (∀ W, Vx w sV (some ⟨gg, 0, none⟩) nn c' (runS N G v1 j) W → Calls Try.prog 138 #[.agg #[.int .i64 x1, .int .i64 x2, .int .i64 x3, .int .i64 x4], .func (.func 137) #[] #[.pointer (some ⟨sV, 0, none⟩)]] W fun en w' => en = .returned (.int .u8 y) ∧ Below W.heap.size W w') := Lib.hid fun W hW =>
            value_as (x := ⟨x1, x2, x3, x4⟩) hW.z.1 (hW.z.2 0 _ rfl) hW.rw_.1 (runS_01 N G H01.out j) HFX.out HIG.out hy
          have hp0 := (own6 hp).1
          have HS : ∀ {vv : List Int} {W : World}, Vx w sV (some ⟨gg, 0, none⟩) nn c' vv W → W.cell? ⟨p, 0, none⟩ = some (.slice (some ⟨bn, on, none⟩) nn cn) ∧ W.cell? ⟨bn, on + q * 4, none⟩ = some (.int .i64 x1) ∧ W.cell? ⟨bn, on + q * 4 + 1, none⟩ = some (.int .i64 x2) ∧ W.cell? ⟨bn, on + q * 4 + 2, none⟩ = some (.int .i64 x3) ∧ W.cell? ⟨bn, on + q * 4 + 3, none⟩ = some (.int .i64 x4) ∧ W.cell? ⟨sV, 0, none⟩ = some (.slice (some ⟨gg, 0, none⟩) nn c') ∧ W.cell? ⟨gg, q, none⟩ = some (valAt W gg q) ∧ W.frozen? ⟨gg, q, none⟩ = false := fun hW => by
            obtain ⟨s1, s2, s3⟩ := hW.s hqn
            exact ⟨(hW.bw.cell (p := ⟨p, 0, none⟩) hplt).trans hp0, (hW.bw.cell (p := ⟨bn, on + q * 4, none⟩) hnb).trans n0, (hW.bw.cell (p := ⟨bn, on + q * 4 + 1, none⟩) hnb).trans n1, (hW.bw.cell (p := ⟨bn, on + q * 4 + 2, none⟩) hnb).trans n2, (hW.bw.cell (p := ⟨bn, on + q * 4 + 3, none⟩) hnb).trans n3, s1, s2, s3⟩
          clear hy hp0 n0 n1 n2 n3 BW
          go_upto_region 15 with fail
          replace hV := hV.drew
          have HVH := Lib.hid hV
          clear q1 hV
          go_region_held3 (fun w' => w'.cell? ⟨p, 0, none⟩ = some (.slice (some ⟨bn, on, none⟩) nn cn) ∧ w'.cell? ⟨bn, on + q * 4, none⟩ = some (.int .i64 x1) ∧ w'.cell? ⟨bn, on + q * 4 + 1, none⟩ = some (.int .i64 x2) ∧ w'.cell? ⟨bn, on + q * 4 + 2, none⟩ = some (.int .i64 x3) ∧ w'.cell? ⟨bn, on + q * 4 + 3, none⟩ = some (.int .i64 x4) ∧ w'.cell? ⟨sV, 0, none⟩ = some (.slice (some ⟨gg, 0, none⟩) nn c') ∧ w'.cell? ⟨gg, q, none⟩ = some (valAt w' gg q) ∧ w'.frozen? ⟨gg, q, none⟩ = false)
            ((first | with_reducible exact HS HVH.out | exact HS (HVH.out.put q y)))
            (first
              | (go_at_call 138
                 (with_reducible refine (HVL.out _ HVH.out).mono ?_)
                 rintro en w5 ⟨rfl, b⟩
                 replace HVH := Lib.hid (HVH.out.on b)
                 clear b))
          all_goals go_wp2_with fail
          all_goals go_roundw
          case rel => exact ⟨j + 1, by omega, by go_num, HST1.out ▸ HVH.out.put q y⟩
          case measure => simp [intOf]; omega
        · obtain rfl : j = ng := by omega
          have zc := hV.z.2 0 _ rfl
          obtain ⟨r1, r2⟩ := hV.rw_
          have HRR : Hid (Rw wr A' nn (by8 (valsS N I G v xs))) := Lib.hid (by unfold valsS; rw [HG1.out, HN1.out]; exact r1)
          have sw := hV.sw
          have BW := hV.bw
          have HR2 := Lib.hid r2
          clear hV r1 r2
          go_wp2_with fail
          go_ret
          exact ⟨A', c', rfl, sw, HR2.out, HRR.out, BW⟩
end Go.Proofs.Ytacphhfhahgeaaa
