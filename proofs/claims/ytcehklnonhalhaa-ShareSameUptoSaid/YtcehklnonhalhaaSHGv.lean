/-
  What the proofs of ShareSame and ShareLeft need: Gv.
-/
import Derived.Test.YtcehklnonhalhaaSHGu
namespace Go.Proofs.Ytcehklnonhalhaa
open Go.RowKit
set_option linter.unusedVariables false
set_option maxRecDepth 4000

/-- bits and letters of the first k ports. -/
def sumS (L : List Pt) (k : Nat) : Nat := ((L.take k).map fun p => p.bits.length + p.name.size).sum
theorem sum_succ {L : List Pt} {k : Nat} {p : Pt} (h : L[k]? = some p) : sumS L (k + 1) = sumS L k + (p.bits.length + p.name.size) := by
  unfold sumS
  rw [List.take_add_one, h]
  simp
theorem sum_le (L : List Pt) (B : Nat) (h : ∀ p ∈ L, p.bits.length ≤ B ∧ p.name.size ≤ B) (k : Nat) : sumS L k ≤ k * (2 * B) := by
  induction k with
  | zero => simp [sumS]
  | succ k ih =>
    cases hk : L[k]? with
    | none =>
      have : sumS L (k + 1) = sumS L k := by unfold sumS; rw [List.take_add_one, hk]; simp
      rw [this, Nat.succ_mul]
      omega
    | some p =>
      rw [sum_succ hk, Nat.succ_mul]
      have := h p (List.mem_of_getElem? hk)
      omega
theorem sum_all {L : List Pt} {j k : Nat} (h : L.length ≤ j) (hk : L.length ≤ k) : sumS L j = sumS L k := by
  unfold sumS
  rw [List.take_of_length_le h, List.take_of_length_le hk]
theorem mem_sum : ∀ (L : List Nat) (x : Nat), x ∈ L → x ≤ L.sum := by
  intro L
  induction L with
  | nil => intro x h; cases h
  | cons y L ih =>
    intro x h
    rw [List.sum_cons]
    rcases List.mem_cons.1 h with rfl | h
    · omega
    · have := ih x h
      omega
theorem sum_mem {L : List Pt} {p : Pt} (h : p ∈ L) {k : Nat} (hk : L.length ≤ k) : p.bits.length + p.name.size ≤ sumS L k := by
  unfold sumS
  rw [List.take_of_length_le hk]
  have : p.bits.length + p.name.size ∈ L.map fun p => p.bits.length + p.name.size := List.mem_map.2 ⟨p, h, rfl⟩
  exact mem_sum _ _ this
def largeS (nn ni no : Nat) (I O : List Pt) (M : Nat) : Bool := decide ((M : Int) < (nn : Int)) || (decide (66 < ni) || (decide (66 < no) || decide (4000 < sumS I 70 + sumS O 70)))
/-- a net that isn't large. -/
theorem large_no {nn ni no : Nat} {I O : List Pt} {M : Nat} (h : largeS nn ni no I O M = false) (hi : I.length = ni) (ho : O.length = no) : nn ≤ M ∧ ni ≤ 66 ∧ no ≤ 66 ∧ ∀ p ∈ I ++ O, p.bits.length ≤ 4000 ∧ p.name.size ≤ 4000 := by
  unfold largeS at h
  simp only [Bool.or_eq_false_iff, decide_eq_false_iff_not] at h
  obtain ⟨h1, h2, h3, h4⟩ := h
  refine ⟨by omega, by omega, by omega, fun p hp => ?_⟩
  rcases List.mem_append.1 hp with hp | hp
  · have := sum_mem hp (show I.length ≤ 70 by omega)
    omega
  · have := sum_mem hp (show O.length ≤ 70 by omega)
    omega
set_option maxHeartbeats 8000000 in
/-- THE REFERENCE'S LARGE. -/
theorem rlarge_as {An Ai Ao : Option Addr} {nn cn ni ci no co : Nat} {I O : List Pt} {w : World} (hI : Ps w Ai ni I) (hO : Ps w Ao no O) (hn : nn ≤ 140737488351232) (hni : ni ≤ 140737488351232) (hno : no ≤ 140737488351232)
    (hbI : ∀ p ∈ I, p.bits.length ≤ 140737488351232 ∧ p.name.size ≤ 140737488351232) (hbO : ∀ p ∈ O, p.bits.length ≤ 140737488351232 ∧ p.name.size ≤ 140737488351232) (M : Nat) (hM : M ≤ 1000) (v : Bool) (hv : largeS nn ni no I O M = v) :
    Calls Try.prog 20 #[.agg #[.slice An nn cn, .slice Ai ni ci, .slice Ao no co], .int .i64 M] w fun e w' => e = .returned (.bool v) ∧ Below w.heap.size w w' := by
  have HV := Lib.hid hv
  have HBI := Lib.hid hbI
  have HBO := Lib.hid hbO
  clear hv hbI hbO
  go_enter Try.func20, Try.ntmps20
  go_upto_region 1 with fail
  obtain ⟨w1, e_w1⟩ : ∃ w', w.alloc (.cells #[.slice An nn cn, .slice Ai ni ci, .slice Ao no co] 25) = w' := ⟨_, rfl⟩
  have z0 : Bx w1 w.heap.size [.slice An nn cn, .slice Ai ni ci, .slice Ao no co] := e_w1 ▸ Bx.made_k w rfl #[.slice An nn cn, .slice Ai ni ci, .slice Ao no co] 25
  have BW : Below w.heap.size w w1 := e_w1 ▸ below_lit _ _
  rw [e_w1]
  clear e_w1
  replace hI := hI.on BW
  replace hO := hO.on BW
  go_wp2_with fail
  go_loopw [5, 6] (fun c i wr => ∃ j cc : Nat, j ≤ ni ∧ j ≤ 70 ∧ i = .int .i64 j ∧ c = .int .i64 cc ∧ cc = 0 + sumS I j ∧ Below w1.heap.size w1 wr) (fun _ i _ => ni - (intOf i).toNat)
  case atStart => exact ⟨0, 0, Nat.zero_le _, Nat.zero_le _, rfl, rfl, by simp [sumS], Below.refl _ _⟩
  case round =>
    obtain ⟨j, cc, hj, hj7, rfl, rfl, hcc, BR⟩ := hrel
    have HC := Lib.hid hcc
    have hcb : cc ≤ 0 + j * 281474976702464 := by
      have := sum_le I 140737488351232 HBI.out j
      omega
    clear hcc
    have z0c1 := (z0.on BR).2 1 _ rfl
    by_cases hlt : j < ni
    · by_cases h70 : j < 70
      · obtain ⟨b0, off, nm, A', m, c', bs, eA, hbw, HX, k1, k2, hi⟩ := (hI.on BR).at0 hlt
        subst eA
        obtain ⟨sz, hsz⟩ : ∃ sz, nm.size = sz := ⟨_, rfl⟩
        have HS := Lib.hid (sum_succ HX.out)
        have HM := Lib.hid (HBI.out _ (List.mem_of_getElem? HX.out))
        have hm : m ≤ 140737488351232 := by rw [← hi.1]; exact HM.out.1
        have hs : sz ≤ 140737488351232 := by rw [← hsz]; exact HM.out.2
        have HMb := Lib.hid hi.1
        have HZ := Lib.hid hsz
        obtain ⟨q, hq⟩ : ∃ q, m + sz = q := ⟨_, rfl⟩
        obtain ⟨t, ht⟩ : ∃ t, cc + q = t := ⟨_, rfl⟩
        have HT : Hid (t = 0 + sumS I (j + 1)) := Lib.hid (by rw [HS.out, ← ht, HC.out, ← hq, ← hsz, ← hi.1]; show 0 + sumS I j + (bs.length + nm.size) = 0 + (sumS I j + (bs.length + nm.size)); omega)
        have e1 : (m : Int) + (sz : Int) = (q : Int) := by omega
        have e2 : (cc : Int) + (q : Int) = (t : Int) := by omega
        have hjn : (j : Int) < (ni : Int) := by omega
        have hj0 : (0 : Int) ≤ (j : Int) := by omega
        have hj70 : (j : Int) < 70 := by omega
        have hqb : q ≤ 281474976702464 := by omega
        have htb : t ≤ 60000000000000000 := by omega
        clear hi HS HM HC hq ht
        go_wp2_with fail
        go_region
        go_wp2_with fail
        go_roundw
        case rel => exact ⟨j + 1, t, by omega, by omega, by go_num, rfl, HT.out, BR.drew⟩
        case measure => simp [intOf]; omega
      · have HE : Hid (cc = 0 + sumS I 70) := Lib.hid (by rw [HC.out, show j = 70 by omega])
        have hjn : (j : Int) < (ni : Int) := by omega
        have hj70 : ¬ (j : Int) < 70 := by omega
        clear HC
        go_wp2_with fail
        obtain ⟨cc0, hcc0⟩ : ∃ x, cc = x := ⟨_, rfl⟩
        rw [hcc0] at hcb ⊢
        have HC1 : Hid (cc0 = sumS I 70) := Lib.hid (by have := HE.out; omega)
        clear hcc0
        obtain ⟨w7, rfl⟩ : ∃ x, x = wr := ⟨_, rfl⟩
        have hc1b : cc0 ≤ 19703248369172480 := by
          have := sum_le I 140737488351232 HBI.out 70
          have := HC1.out
          omega
        replace hO := hO.on BR
        replace z0 := z0.on BR
        have B8 := Below.step BW BR
        clear BR z0c1 HE
        go_loopw [5, 7] (fun c i wr => ∃ j cc : Nat, j ≤ no ∧ j ≤ 70 ∧ i = .int .i64 j ∧ c = .int .i64 cc ∧ cc = cc0 + sumS O j ∧ Below w7.heap.size w7 wr) (fun _ i _ => no - (intOf i).toNat)
        case atStart => exact ⟨0, cc0, Nat.zero_le _, Nat.zero_le _, rfl, rfl, by simp [sumS], Below.refl _ _⟩
        case round =>
          obtain ⟨j, cc, hj, hj7, rfl, rfl, hcc, BR⟩ := hrel
          have HC := Lib.hid hcc
          have hcb : cc ≤ cc0 + j * 281474976702464 := by
            have := sum_le O 140737488351232 HBO.out j
            omega
          clear hcc
          have z0c1 := (z0.on BR).2 2 _ rfl
          by_cases hlt : j < no
          · by_cases h70 : j < 70
            · obtain ⟨b0, off, nm, A', m, c', bs, eA, hbw, HX, k1, k2, hi⟩ := (hO.on BR).at0 hlt
              subst eA
              obtain ⟨sz, hsz⟩ : ∃ sz, nm.size = sz := ⟨_, rfl⟩
              have HS := Lib.hid (sum_succ HX.out)
              have HM := Lib.hid (HBO.out _ (List.mem_of_getElem? HX.out))
              have hm : m ≤ 140737488351232 := by rw [← hi.1]; exact HM.out.1
              have hs : sz ≤ 140737488351232 := by rw [← hsz]; exact HM.out.2
              have HMb := Lib.hid hi.1
              have HZ := Lib.hid hsz
              obtain ⟨q, hq⟩ : ∃ q, m + sz = q := ⟨_, rfl⟩
              obtain ⟨t, ht⟩ : ∃ t, cc + q = t := ⟨_, rfl⟩
              have HT : Hid (t = cc0 + sumS O (j + 1)) := Lib.hid (by rw [HS.out, ← ht, HC.out, ← hq, ← hsz, ← hi.1]; show cc0 + sumS O j + (bs.length + nm.size) = cc0 + (sumS O j + (bs.length + nm.size)); omega)
              have e1 : (m : Int) + (sz : Int) = (q : Int) := by omega
              have e2 : (cc : Int) + (q : Int) = (t : Int) := by omega
              have hjn : (j : Int) < (no : Int) := by omega
              have hj0 : (0 : Int) ≤ (j : Int) := by omega
              have hj70 : (j : Int) < 70 := by omega
              have hqb : q ≤ 281474976702464 := by omega
              have htb : t ≤ 60000000000000000 := by omega
              clear hi HS HM HC hq ht
              go_wp2_with fail
              go_region
              go_wp2_with fail
              go_roundw
              case rel => exact ⟨j + 1, t, by omega, by omega, by go_num, rfl, HT.out, BR.drew⟩
              case measure => simp [intOf]; omega
            · have HE : Hid (cc = cc0 + sumS O 70) := Lib.hid (by rw [HC.out, show j = 70 by omega])
              have hjn : (j : Int) < (no : Int) := by omega
              have hj70 : ¬ (j : Int) < 70 := by omega
              clear HC

              have z0c0 := (z0.on BR).2 0 _ rfl
              have z0c1' := (z0.on BR).2 1 _ rfl
              have B9 := Below.step B8 BR
              have HW : Hid (v = largeS nn ni no I O M) := Lib.hid HV.out.symm
              have HE3 : Hid (cc = sumS I 70 + sumS O 70) := Lib.hid (by rw [HE.out, HC1.out])
              by_cases g0 : (M : Int) < (nn : Int)
              case pos =>
                first
                  | (exfalso; omega)
                  | (have HF : Hid (v = true) := Lib.hid (by rw [HW.out]; have := HE3.out; unfold largeS; simp; omega)
                     go_wp2_with fail
                     go_ret
                     exact ⟨ret_bool HF.out.symm, B9⟩)
              by_cases g1 : (66 : Int) < (ni : Int)
              case pos =>
                first
                  | (exfalso; omega)
                  | (have HF : Hid (v = true) := Lib.hid (by rw [HW.out]; have := HE3.out; unfold largeS; simp; omega)
                     go_wp2_with fail
                     go_ret
                     exact ⟨ret_bool HF.out.symm, B9⟩)
              by_cases g2 : (66 : Int) < (no : Int)
              case pos =>
                first
                  | (exfalso; omega)
                  | (have HF : Hid (v = true) := Lib.hid (by rw [HW.out]; have := HE3.out; unfold largeS; simp; omega)
                     go_wp2_with fail
                     go_ret
                     exact ⟨ret_bool HF.out.symm, B9⟩)
              by_cases g3 : (4000 : Int) < (cc : Int)
              case pos =>
                first
                  | (exfalso; omega)
                  | (have HF : Hid (v = true) := Lib.hid (by rw [HW.out]; have := HE3.out; unfold largeS; simp; omega)
                     go_wp2_with fail
                     go_ret
                     exact ⟨ret_bool HF.out.symm, B9⟩)
              first
                | (exfalso; omega)
                | (have HF : Hid (v = false) := Lib.hid (by rw [HW.out]; have := HE3.out; unfold largeS; simp; omega)
                   go_wp2_with fail
                   go_ret
                   exact ⟨ret_bool HF.out.symm, B9⟩)
          · have HE : Hid (cc = cc0 + sumS O 70) := Lib.hid (by
              have hl := hO.1
              rw [HC.out, sum_all (L := O) (by omega) (show O.length ≤ 70 by omega)])
            have hjn : ¬ (j : Int) < (no : Int) := by omega
            clear HC

            have z0c0 := (z0.on BR).2 0 _ rfl
            have z0c1' := (z0.on BR).2 1 _ rfl
            have B9 := Below.step B8 BR
            have HW : Hid (v = largeS nn ni no I O M) := Lib.hid HV.out.symm
            have HE3 : Hid (cc = sumS I 70 + sumS O 70) := Lib.hid (by rw [HE.out, HC1.out])
            by_cases g0 : (M : Int) < (nn : Int)
            case pos =>
              first
                | (exfalso; omega)
                | (have HF : Hid (v = true) := Lib.hid (by rw [HW.out]; have := HE3.out; unfold largeS; simp; omega)
                   go_wp2_with fail
                   go_ret
                   exact ⟨ret_bool HF.out.symm, B9⟩)
            by_cases g1 : (66 : Int) < (ni : Int)
            case pos =>
              first
                | (exfalso; omega)
                | (have HF : Hid (v = true) := Lib.hid (by rw [HW.out]; have := HE3.out; unfold largeS; simp; omega)
                   go_wp2_with fail
                   go_ret
                   exact ⟨ret_bool HF.out.symm, B9⟩)
            by_cases g2 : (66 : Int) < (no : Int)
            case pos =>
              first
                | (exfalso; omega)
                | (have HF : Hid (v = true) := Lib.hid (by rw [HW.out]; have := HE3.out; unfold largeS; simp; omega)
                   go_wp2_with fail
                   go_ret
                   exact ⟨ret_bool HF.out.symm, B9⟩)
            by_cases g3 : (4000 : Int) < (cc : Int)
            case pos =>
              first
                | (exfalso; omega)
                | (have HF : Hid (v = true) := Lib.hid (by rw [HW.out]; have := HE3.out; unfold largeS; simp; omega)
                   go_wp2_with fail
                   go_ret
                   exact ⟨ret_bool HF.out.symm, B9⟩)
            first
              | (exfalso; omega)
              | (have HF : Hid (v = false) := Lib.hid (by rw [HW.out]; have := HE3.out; unfold largeS; simp; omega)
                 go_wp2_with fail
                 go_ret
                 exact ⟨ret_bool HF.out.symm, B9⟩)
    · have HE : Hid (cc = 0 + sumS I 70) := Lib.hid (by
        have hl := hI.1
        rw [HC.out, sum_all (L := I) (by omega) (show I.length ≤ 70 by omega)])
      have hjn : ¬ (j : Int) < (ni : Int) := by omega
      clear HC
      go_wp2_with fail
      obtain ⟨cc0, hcc0⟩ : ∃ x, cc = x := ⟨_, rfl⟩
      rw [hcc0] at hcb ⊢
      have HC1 : Hid (cc0 = sumS I 70) := Lib.hid (by have := HE.out; omega)
      clear hcc0
      obtain ⟨w7, rfl⟩ : ∃ x, x = wr := ⟨_, rfl⟩
      have hc1b : cc0 ≤ 19703248369172480 := by
        have := sum_le I 140737488351232 HBI.out 70
        have := HC1.out
        omega
      replace hO := hO.on BR
      replace z0 := z0.on BR
      have B8 := Below.step BW BR
      clear BR z0c1 HE
      go_loopw [5, 7] (fun c i wr => ∃ j cc : Nat, j ≤ no ∧ j ≤ 70 ∧ i = .int .i64 j ∧ c = .int .i64 cc ∧ cc = cc0 + sumS O j ∧ Below w7.heap.size w7 wr) (fun _ i _ => no - (intOf i).toNat)
      case atStart => exact ⟨0, cc0, Nat.zero_le _, Nat.zero_le _, rfl, rfl, by simp [sumS], Below.refl _ _⟩
      case round =>
        obtain ⟨j, cc, hj, hj7, rfl, rfl, hcc, BR⟩ := hrel
        have HC := Lib.hid hcc
        have hcb : cc ≤ cc0 + j * 281474976702464 := by
          have := sum_le O 140737488351232 HBO.out j
          omega
        clear hcc
        have z0c1 := (z0.on BR).2 2 _ rfl
        by_cases hlt : j < no
        · by_cases h70 : j < 70
          · obtain ⟨b0, off, nm, A', m, c', bs, eA, hbw, HX, k1, k2, hi⟩ := (hO.on BR).at0 hlt
            subst eA
            obtain ⟨sz, hsz⟩ : ∃ sz, nm.size = sz := ⟨_, rfl⟩
            have HS := Lib.hid (sum_succ HX.out)
            have HM := Lib.hid (HBO.out _ (List.mem_of_getElem? HX.out))
            have hm : m ≤ 140737488351232 := by rw [← hi.1]; exact HM.out.1
            have hs : sz ≤ 140737488351232 := by rw [← hsz]; exact HM.out.2
            have HMb := Lib.hid hi.1
            have HZ := Lib.hid hsz
            obtain ⟨q, hq⟩ : ∃ q, m + sz = q := ⟨_, rfl⟩
            obtain ⟨t, ht⟩ : ∃ t, cc + q = t := ⟨_, rfl⟩
            have HT : Hid (t = cc0 + sumS O (j + 1)) := Lib.hid (by rw [HS.out, ← ht, HC.out, ← hq, ← hsz, ← hi.1]; show cc0 + sumS O j + (bs.length + nm.size) = cc0 + (sumS O j + (bs.length + nm.size)); omega)
            have e1 : (m : Int) + (sz : Int) = (q : Int) := by omega
            have e2 : (cc : Int) + (q : Int) = (t : Int) := by omega
            have hjn : (j : Int) < (no : Int) := by omega
            have hj0 : (0 : Int) ≤ (j : Int) := by omega
            have hj70 : (j : Int) < 70 := by omega
            have hqb : q ≤ 281474976702464 := by omega
            have htb : t ≤ 60000000000000000 := by omega
            clear hi HS HM HC hq ht
            go_wp2_with fail
            go_region
            go_wp2_with fail
            go_roundw
            case rel => exact ⟨j + 1, t, by omega, by omega, by go_num, rfl, HT.out, BR.drew⟩
            case measure => simp [intOf]; omega
          · have HE : Hid (cc = cc0 + sumS O 70) := Lib.hid (by rw [HC.out, show j = 70 by omega])
            have hjn : (j : Int) < (no : Int) := by omega
            have hj70 : ¬ (j : Int) < 70 := by omega
            clear HC

            have z0c0 := (z0.on BR).2 0 _ rfl
            have z0c1' := (z0.on BR).2 1 _ rfl
            have B9 := Below.step B8 BR
            have HW : Hid (v = largeS nn ni no I O M) := Lib.hid HV.out.symm
            have HE3 : Hid (cc = sumS I 70 + sumS O 70) := Lib.hid (by rw [HE.out, HC1.out])
            by_cases g0 : (M : Int) < (nn : Int)
            case pos =>
              first
                | (exfalso; omega)
                | (have HF : Hid (v = true) := Lib.hid (by rw [HW.out]; have := HE3.out; unfold largeS; simp; omega)
                   go_wp2_with fail
                   go_ret
                   exact ⟨ret_bool HF.out.symm, B9⟩)
            by_cases g1 : (66 : Int) < (ni : Int)
            case pos =>
              first
                | (exfalso; omega)
                | (have HF : Hid (v = true) := Lib.hid (by rw [HW.out]; have := HE3.out; unfold largeS; simp; omega)
                   go_wp2_with fail
                   go_ret
                   exact ⟨ret_bool HF.out.symm, B9⟩)
            by_cases g2 : (66 : Int) < (no : Int)
            case pos =>
              first
                | (exfalso; omega)
                | (have HF : Hid (v = true) := Lib.hid (by rw [HW.out]; have := HE3.out; unfold largeS; simp; omega)
                   go_wp2_with fail
                   go_ret
                   exact ⟨ret_bool HF.out.symm, B9⟩)
            by_cases g3 : (4000 : Int) < (cc : Int)
            case pos =>
              first
                | (exfalso; omega)
                | (have HF : Hid (v = true) := Lib.hid (by rw [HW.out]; have := HE3.out; unfold largeS; simp; omega)
                   go_wp2_with fail
                   go_ret
                   exact ⟨ret_bool HF.out.symm, B9⟩)
            first
              | (exfalso; omega)
              | (have HF : Hid (v = false) := Lib.hid (by rw [HW.out]; have := HE3.out; unfold largeS; simp; omega)
                 go_wp2_with fail
                 go_ret
                 exact ⟨ret_bool HF.out.symm, B9⟩)
        · have HE : Hid (cc = cc0 + sumS O 70) := Lib.hid (by
            have hl := hO.1
            rw [HC.out, sum_all (L := O) (by omega) (show O.length ≤ 70 by omega)])
          have hjn : ¬ (j : Int) < (no : Int) := by omega
          clear HC

          have z0c0 := (z0.on BR).2 0 _ rfl
          have z0c1' := (z0.on BR).2 1 _ rfl
          have B9 := Below.step B8 BR
          have HW : Hid (v = largeS nn ni no I O M) := Lib.hid HV.out.symm
          have HE3 : Hid (cc = sumS I 70 + sumS O 70) := Lib.hid (by rw [HE.out, HC1.out])
          by_cases g0 : (M : Int) < (nn : Int)
          case pos =>
            first
              | (exfalso; omega)
              | (have HF : Hid (v = true) := Lib.hid (by rw [HW.out]; have := HE3.out; unfold largeS; simp; omega)
                 go_wp2_with fail
                 go_ret
                 exact ⟨ret_bool HF.out.symm, B9⟩)
          by_cases g1 : (66 : Int) < (ni : Int)
          case pos =>
            first
              | (exfalso; omega)
              | (have HF : Hid (v = true) := Lib.hid (by rw [HW.out]; have := HE3.out; unfold largeS; simp; omega)
                 go_wp2_with fail
                 go_ret
                 exact ⟨ret_bool HF.out.symm, B9⟩)
          by_cases g2 : (66 : Int) < (no : Int)
          case pos =>
            first
              | (exfalso; omega)
              | (have HF : Hid (v = true) := Lib.hid (by rw [HW.out]; have := HE3.out; unfold largeS; simp; omega)
                 go_wp2_with fail
                 go_ret
                 exact ⟨ret_bool HF.out.symm, B9⟩)
          by_cases g3 : (4000 : Int) < (cc : Int)
          case pos =>
            first
              | (exfalso; omega)
              | (have HF : Hid (v = true) := Lib.hid (by rw [HW.out]; have := HE3.out; unfold largeS; simp; omega)
                 go_wp2_with fail
                 go_ret
                 exact ⟨ret_bool HF.out.symm, B9⟩)
          first
            | (exfalso; omega)
            | (have HF : Hid (v = false) := Lib.hid (by rw [HW.out]; have := HE3.out; unfold largeS; simp; omega)
               go_wp2_with fail
               go_ret
               exact ⟨ret_bool HF.out.symm, B9⟩)
end Go.Proofs.Ytcehklnonhalhaa
