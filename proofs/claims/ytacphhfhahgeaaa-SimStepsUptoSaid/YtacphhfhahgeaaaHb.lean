
/-
  sim: isGate, number.
-/
import Derived.Test.YtacphhfhahgeaaaHa
namespace Go.Proofs.Ytacphhfhahgeaaa
open Go.RowKit
set_option linter.unusedVariables false
set_option maxRecDepth 4000

theorem isGate_0 (k a b c : Int) (w : World) (e0 : (k != 0) = false) :
    Calls Try.prog 78 #[.agg #[.int .i64 k, .int .i64 a, .int .i64 b, .int .i64 c]] w fun en w' => en = .returned (.bool false) ∧ Below w.heap.size w w' := by
  go_enter Try.func78, Try.ntmps78
  go_wp2_with fail
  go_ret
  exact ⟨rfl, below1 _ _⟩
theorem isGate_1 (k a b c : Int) (w : World) (e0 : (k != 0) = true) (e1 : (k != 1) = false) :
    Calls Try.prog 78 #[.agg #[.int .i64 k, .int .i64 a, .int .i64 b, .int .i64 c]] w fun en w' => en = .returned (.bool false) ∧ Below w.heap.size w w' := by
  go_enter Try.func78, Try.ntmps78
  go_wp2_with fail
  go_ret
  exact ⟨rfl, below1 _ _⟩
theorem isGate_7 (k a b c : Int) (w : World) (e0 : (k != 0) = true) (e1 : (k != 1) = true) (e7 : (k != 7) = false) :
    Calls Try.prog 78 #[.agg #[.int .i64 k, .int .i64 a, .int .i64 b, .int .i64 c]] w fun en w' => en = .returned (.bool false) ∧ Below w.heap.size w w' := by
  go_enter Try.func78, Try.ntmps78
  go_wp2_with fail
  go_ret
  exact ⟨rfl, below1 _ _⟩
theorem isGate_g (k a b c : Int) (w : World) (e0 : (k != 0) = true) (e1 : (k != 1) = true) (e7 : (k != 7) = true) :
    Calls Try.prog 78 #[.agg #[.int .i64 k, .int .i64 a, .int .i64 b, .int .i64 c]] w fun en w' => en = .returned (.bool true) ∧ Below w.heap.size w w' := by
  go_enter Try.func78, Try.ntmps78
  go_wp2_with fail
  go_ret
  exact ⟨rfl, below1 _ _⟩
theorem len_wide {A : Option Addr} {n c x : Nat} {w : World} (h : Arg w A n c x) (hs : n ≤ 140737488351232) :
    Calls Try.prog 135 #[.slice A n c] w fun e w' => e = .returned (.int .i64 (blen x : Nat)) ∧ w = w' := by
  go_enter Try.func135, Try.ntmps135
  go_wp2_with fail
  refine (cutN h).mono ?_
  rintro e w' ⟨m, rfl, ⟨xs, hr, hcn, hv⟩, hm, rfl⟩
  have HL := Lib.hid hr.len
  have HV := Lib.hid hv
  clear hv
  by_cases h0 : m = 0
  · subst h0
    have hx : x = 0 := by
      rw [← HV.out, List.eq_nil_of_length_eq_zero HL.out]; rfl
    subst hx
    go_wp2_with fail
    go_ret
    exact ⟨rfl, rfl⟩
  · obtain ⟨b, off, t, rfl, hb, HX, hlt, hcell⟩ := hr.look (k := m - 1) (by omega)
    have hz : ((m : Int) == 0) = false := by simp; omega
    have hbl : blen x = (m - 1) * 32 + blen t := by
      have h1 := blen_val hcn (by rw [HL.out]; omega)
      rw [HV.out, HL.out, HX.out] at h1
      exact h1
    have HB := Lib.hid hbl
    have ht := (blen_le t 32).2 (by omega)
    clear hbl
    have H32 := Lib.hid (len32_any t w hlt)
    rw [bitLen_blen t (by omega)] at H32
    go_wp2_with (go_at_call 160; refine (H32.out).mono ?_; rintro e w' ⟨rfl, rfl⟩)
    go_ret
    exact ⟨ret_int (by rw [HB.out]; omega), rfl⟩

def isG (k : Int) : Bool := decide (k ≠ 0) && (decide (k ≠ 1) && decide (k ≠ 7))
theorem isGate_as (k a b c : Int) (v : Bool) (hv : isG k = v) (w : World) :
    Calls Try.prog 78 #[.agg #[.int .i64 k, .int .i64 a, .int .i64 b, .int .i64 c]] w fun en w' => en = .returned (.bool v) ∧ Below w.heap.size w w' := by
  unfold isG at hv
  by_cases h0 : k = 0
  · subst h0
    subst hv
    exact isGate_0 0 a b c w rfl
  by_cases h1 : k = 1
  · subst h1
    subst hv
    exact isGate_1 1 a b c w rfl rfl
  by_cases h7 : k = 7
  · subst h7
    subst hv
    exact isGate_7 7 a b c w rfl rfl rfl
  rw [decide_eq_true h0, decide_eq_true h1, decide_eq_true h7] at hv
  subst hv
  exact isGate_g k a b c w (by simpa using h0) (by simpa using h1) (by simpa using h7)
theorem u_zero (xs : List Nat) : U xs ++ [Value.int .u32 0] = U (xs ++ [0]) := by simp [U]
theorem own_of_row {w : World} {base : Nat} {e : TypeId} {g n c : Nat} {xs : List Value} (h : w.ownsRow base e 1 (.slice (some ⟨g, 0, none⟩) n c) n xs) : base ≤ g ∧ g < w.heap.size := by
  rcases h.2 with ⟨h1, _⟩ | ⟨g', cap, cur, h1, h2, h3, _⟩
  · cases h1
  · injection h1 with h1
    injection h1 with h1
    injection h1 with h1
    subst h1
    exact ⟨h2, (Array.getElem?_eq_some_iff.1 h3).1⟩
/-- one bit more. -/
theorem num_step {xs : List Nat} {k q j : Nat} (hc : Canon xs) (hv : val xs < 2 ^ k) (hq : k / 32 = q) (hj : xs.length + j = q + 1) (d : Nat) (hd : (xs ++ List.replicate j 0).getD q 0 = d) :
    d < 2 ^ (k % 32) ∧ d ||| 2 ^ (k % 32) = d + 2 ^ (k % 32) ∧ Canon ((xs ++ List.replicate j 0).set q (d + 2 ^ (k % 32))) ∧ val ((xs ++ List.replicate j 0).set q (d + 2 ^ (k % 32))) = val xs + 2 ^ k := by
  have hdg : Dg (xs ++ List.replicate j 0) := hc.1.append (Dg.replicate j)
  have hval : val (xs ++ List.replicate j 0) = val xs := by rw [val_append, val_replicate, Nat.mul_zero, Nat.add_zero]
  have hk : 2 ^ k = 4294967296 ^ q * 2 ^ (k % 32) := by
    rw [show (4294967296 : Nat) = 2 ^ 32 by decide, ← Nat.pow_mul, ← Nat.pow_add]
    congr 1
    omega
  have hlen : (xs ++ List.replicate j 0).length = q + 1 := by simp [hj]
  have h1 : d < 2 ^ (k % 32) := by
    rw [← hd, ← val_at _ hdg q, hval]
    refine Nat.lt_of_le_of_lt (Nat.mod_le _ _) ?_
    refine (Nat.div_lt_iff_lt_mul (Nat.pow_pos (by decide))).2 ?_
    rw [Nat.mul_comm, ← hk]
    exact hv
  have hr : k % 32 < 32 := Nat.mod_lt _ (by decide)
  have h2 : d + 2 ^ (k % 32) < 4294967296 := by
    have : 2 ^ (k % 32) ≤ 2 ^ 31 := Nat.pow_le_pow_right (by decide) (by omega)
    have e : (2 : Nat) ^ 31 = 2147483648 := by decide
    omega
  have h3 : d ||| 2 ^ (k % 32) = d + 2 ^ (k % 32) := by
    have := (or_low d 1 (k % 32) hr h1).1
    rw [Nat.one_mul, Nat.mod_eq_of_lt (by omega)] at this
    exact this
  refine ⟨h1, h3, ⟨hdg.set _ h2, fun _ => ?_⟩, ?_⟩
  · rw [List.length_set, hlen, Nat.add_sub_cancel, List.getD_eq_getElem?_getD, List.getElem?_set_self (by omega)]
    show d + 2 ^ (k % 32) ≠ 0
    have := Nat.pow_pos (n := k % 32) (show 0 < 2 by decide)
    omega
  · have := val_set (xs ++ List.replicate j 0) q (d + 2 ^ (k % 32)) (by omega)
    rw [hd, hval, Nat.mul_add, ← hk] at this
    omega
theorem num_len {xs : List Nat} {k q : Nat} (hc : Canon xs) (hv : val xs < 2 ^ k) (hq : k / 32 = q) : xs.length ≤ q + 1 := by
  refine hc.len_le (Nat.lt_of_lt_of_le hv ?_)
  rw [show (4294967296 : Nat) = 2 ^ 32 by decide, ← Nat.pow_mul]
  exact Nat.pow_le_pow_right (by decide) (by omega)
def lenV : Value → Nat | .slice _ n _ => n | _ => 0
theorem Grow.at {w : World} {base : Nat} {t : TypeId} {v : Value} {vs : List Value} {n : Nat} (h : Grow w base t v vs) (hn : vs.length = n) : ∃ A c, v = .slice A n c ∧ Sw A n c ∧ (∀ b off, A = some ⟨b, off, none⟩ → base ≤ b ∧ off = 0) ∧ Rw w A n vs := by
  subst hn
  exact row_rw h
set_option maxHeartbeats 2000000 in
/-- NUMBER. -/
theorem number_as {Ab A : Option Addr} {nb cb n c : Nat} {bs v : List Int} {w : World} (hb : Is w Ab nb bs) (hv : Rw w A n (by8 v)) (hbn : nb ≤ 100000) (hr : ∀ q ∈ bs, 0 ≤ q ∧ q.toNat < n) :
    Calls Try.prog 139 #[.slice Ab nb cb, .slice A n c] w fun en w' => ∃ A' m c', en = .returned (.slice A' m c') ∧ Res w' A' m (numS bs v nb) ∧ Sw A' m c' ∧ m ≤ 3200 ∧ (∀ b off, A' = some ⟨b, off, none⟩ → w.heap.size ≤ b) ∧ Tg w' A' m 111 ∧ Below w.heap.size w w' := by
  have HR := Lib.hid hr
  clear hr
  go_enter Try.func139, Try.ntmps139
  go_wp2_with fail
  go_loopw [5, 10] (fun sv iv wr => ∃ (k : Nat) (xs : List Nat), k ≤ nb ∧ iv = .int .i64 k ∧ Grow wr w.heap.size 111 sv (U xs) ∧ Hid (Canon xs ∧ val xs = numS bs v k) ∧ Below w.heap.size w wr) (fun _ iv _ => nb - (intOf iv).toNat)
  case atStart => exact ⟨0, [], Nat.zero_le _, rfl, World.ownsRow_nil w _ _ _, Lib.hid ⟨Canon.nil, rfl⟩, Below.refl _ _⟩
  case round =>
    obtain ⟨k, xs, hk, rfl, hg, HX, BW⟩ := hrel
    by_cases hlt : k < nb
    · obtain ⟨b1, o1, q, rfl, HQ, q1⟩ := (hb.on BW).at hlt
      obtain ⟨q, rfl, hqn⟩ : ∃ p : Nat, q = (p : Int) ∧ p < n := by
        obtain ⟨h1, h2⟩ := HR.out q (List.mem_of_getElem? HQ.out)
        exact ⟨q.toNat, by omega, h2⟩
      obtain ⟨b2, o2, y, rfl, HY, y1⟩ := (hv.on BW).b8 hqn
      have i0 : (0 : Int) ≤ (q : Int) := by omega
      have i1 : (q : Int) < (n : Int) := by omega
      have HA : Hid (atI v (bs.getD k 0) = y) := Lib.hid (by rw [getD_of HQ.out]; exact getD_of (by simpa using HY.out))
      by_cases hy : y = 0
      · subst hy
        have HN : Hid (numS bs v (k + 1) = numS bs v k) := Lib.hid (by unfold numS; rw [HA.out, if_pos rfl, Nat.add_zero]; cases k <;> rfl)
        go_wp2_with fail
        go_roundw
        case rel => exact ⟨k + 1, xs, by omega, by go_num, hg, Lib.hid ⟨HX.out.1, HX.out.2.trans HN.out.symm⟩, BW⟩
        case measure => simp [intOf]; omega
      · have hy0 : (y == 0) = false := by simpa using hy
        have HN : Hid (numS bs v (k + 1) = numS bs v k + 2 ^ k) := Lib.hid (by rw [numS, HA.out, if_neg hy])
        clear hy
        obtain ⟨qq, hqq⟩ : ∃ qq, k / 32 = qq := ⟨_, rfl⟩
        have hvl : Hid (val xs < 2 ^ k) := Lib.hid (by rw [HX.out.2]; exact numS_lt bs v k)
        have hln := num_len HX.out.1 hvl.out hqq
        have eq1 : (k : Int) / 32 = (qq : Int) := by omega
        have hq3 : qq ≤ 3199 := by omega
        have HQQ := Lib.hid hqq
        clear hqq
        go_wp2_with fail
        obtain ⟨wo, rfl⟩ : ∃ x, x = wr := ⟨_, rfl⟩
        go_loopw [5] (fun sv wr => ∃ j : Nat, xs.length + j ≤ qq + 1 ∧ Grow wr w.heap.size 111 sv (U (xs ++ List.replicate j 0)) ∧ Below w.heap.size w wr) (fun sv _ => qq + 1 - lenV sv)
        case atStart => exact ⟨0, by omega, by simpa using hg, BW⟩
        case round =>
          clear hg BW
          obtain ⟨j, hj, hg, BW⟩ := hrel
          have hLL : (U (xs ++ List.replicate j 0)).length = xs.length + j := by simp [U]
          obtain ⟨m, hm⟩ : ∃ m, xs.length + j = m := ⟨_, rfl⟩
          rw [hm] at hj hLL
          obtain ⟨A5, c5, rfl, sw5, hl5, hr5⟩ := hg.at hLL
          have HM := Lib.hid hm
          have HG := Lib.hid hg
          have hrow : wr.ownsRow w.heap.size 111 1 (.slice A5 m c5) m (U (xs ++ List.replicate j 0)) := hLL ▸ hg
          have HROW := Lib.hid hrow
          have hsz := BW.size
          clear hm hLL hg hrow
          by_cases hlm : m ≤ qq
          · go_wp2_with (at_builtin; refine wpList_push _ rfl _ _ 55 rfl w.heap.size 111 (.int .u32 0) 4 Try.underlying55 u32_info rfl (by omega) _ _ rfl HG.out _ rfl rfl (by rw [U_len]; simp; have := HM.out; omega) hsz ?_; intro v' w1 hg1 hb1)
            go_roundw
            case rel =>
              rw [u_zero, List.append_assoc, ← List.replicate_succ'] at hg1
              exact ⟨j + 1, by have := HM.out; omega, hg1, BW.trans hb1⟩
            case measure =>
              rw [u_zero, List.append_assoc, ← List.replicate_succ'] at hg1
              obtain ⟨A6, c6, rfl, _⟩ := hg1.at rfl
              simp [lenV, U]
              have := HM.out
              omega
          · obtain rfl : m = qq + 1 := by omega
            obtain ⟨d, hd⟩ : ∃ d, (xs ++ List.replicate j 0).getD qq 0 = d := ⟨_, rfl⟩
            obtain ⟨n1, n2, n3, n4⟩ := num_step HX.out.1 hvl.out HQQ.out HM.out d hd
            obtain ⟨g, o5, u5, eA, HU, cu⟩ := hr5.at (show qq < qq + 1 by omega)
            obtain rfl : o5 = 0 := (hl5 g o5 eA).2
            subst eA
            rw [Nat.zero_add] at cu
            obtain rfl : u5 = .int .u32 (d : Int) := by
              have := HU.out
              rw [U_at] at this
              rw [List.getD_eq_getElem?_getD] at hd
              cases e : (xs ++ List.replicate j 0)[qq]? with
              | none => rw [e] at this; cases this
              | some z => rw [e] at this hd; cases this; cases hd; rfl
            have hwg := (hl5 g 0 rfl).1
            obtain ⟨r, hr⟩ : ∃ r, k % 32 = r := ⟨_, rfl⟩
            rw [hr] at n1 n2 n3 n4
            have hr3 : r < 32 := by omega
            have er : (k : Int) % 32 = (r : Int) := by omega
            have hrow := HROW.out
            have of := hrow.frozenAt qq
            have hP : Hid (∃ P : Nat, 2 ^ r = P ∧ P < 4294967296) := Lib.hid ⟨_, rfl, by have : 2 ^ r ≤ 2 ^ 31 := Nat.pow_le_pow_right (by decide) (by omega); exact Nat.lt_of_le_of_lt this (by decide)⟩
            obtain ⟨P, eP, hP3⟩ := hP.out
            rw [eP] at n1 n2 n3 n4
            have q1 : IntKind.u32.wrap (2 ^ r) = (P : Int) := by rw [IntKind.wrap_u32, ← eP, show ((2 : Int) ^ r) = ((2 ^ r : Nat) : Int) by push_cast; rfl, eP]; omega
            have q2 := or_u32 d P (by omega) hP3
            rw [n2] at q2
            have eP2 := Lib.hid eP
            clear n2 hr eP hP n1
            have hS := hrow.stored qq (.int .u32 ((d + P : Nat) : Int))
            have j0 : (0 : Int) ≤ (qq : Int) := by omega
            have j1 : (qq : Int) < ((qq + 1 : Nat) : Int) := by omega
            have j2 : ¬ (((qq + 1 : Nat) : Int) ≤ (qq : Int)) := by omega
            have r0 : (0 : Int) ≤ (r : Int) := by omega
            clear hrow sw5 hl5
            go_wp2_with fail
            go_region
            go_wp2_with fail
            go_roundw
            case rel =>
              have hS1 := hS.1
              rw [U_set] at hS1
              have hq1 : (U ((xs ++ List.replicate j 0).set qq (d + P))).length = qq + 1 := by rw [U_len, List.length_set, List.length_append, List.length_replicate]; exact HM.out
              refine ⟨k + 1, _, by omega, by go_num, ?_, Lib.hid ⟨n3, by rw [n4, HX.out.2, HN.out]⟩, (BW.setCell (p := ⟨g, qq, none⟩) hwg _).drew⟩
              unfold Grow
              rw [hq1]
              exact row_on hS1 (Below.refl _ _).drew
            case measure => simp [intOf]; omega
    · obtain rfl : k = nb := by omega
      go_wp2_with fail
      go_ret
      obtain ⟨A', c', rfl, sw, hlow, hrw⟩ := Grow.at hg (U_len xs)
      have htg : Tg wr A' xs.length 111 := hg.tag
      refine ⟨A', xs.length, c', rfl, ⟨xs, ⟨⟨U_len xs, fun i u hu => ?_⟩, HX.out.1.1⟩, HX.out.1, HX.out.2⟩, sw, ?_, fun b off e => (hlow b off e).1, htg, BW⟩
      · obtain ⟨b, off, h1, h2, h3⟩ := hrw.2 i u hu
        exact ⟨b, off, h1, h2, h3⟩
      · have := num_len HX.out.1 (by rw [HX.out.2]; exact numS_lt bs v k) rfl
        omega
end Go.Proofs.Ytacphhfhahgeaaa
