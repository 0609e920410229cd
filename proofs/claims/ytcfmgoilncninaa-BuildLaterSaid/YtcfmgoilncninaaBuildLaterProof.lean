/-
  BuildLater returns true for every two bytes and every row of numbers, and its arguments read afterwards as before. No condition.
  Layer 8: the walk of BuildLater.
  Layer 8: BuildLater over any arguments.
-/
import Derived.Test.YtcfmgoilncninaaJB
import Derived.Test.YtcfmgoilncninaaHk
import Derived.Test.YtcfmgoilncninaaHL
import Derived.Test.YtcfmgoilncninaaRows
import Derived.WalkKit
import Derived.ProofKit
import Derived.OpenShut
import Derived.ShutString
import Derived.ChangeOld
import Derived.SizedLaws
import Derived.Below
namespace Go.Proofs.Ytcfmgoilncninaa
open Go.RowKit
set_option linter.unusedVariables false
set_option maxRecDepth 4000

theorem u8_mod {a m : Nat} (ha : a ≤ 255) (h0 : 0 < m) (hm : m ≤ 255) : IntKind.u8.wrap ((a : Int).tmod (m : Int)) = ((a % m : Nat) : Int) := by
  have e : (a : Int).tmod (m : Int) = ((a % m : Nat) : Int) := by
    rw [Int.tmod_eq_emod_of_nonneg (by omega)]
    exact (Int.natCast_emod a m).symm
  have : a % m ≤ a := Nat.mod_le a m
  rw [e, IntKind.wrap_u8]
  omega
theorem regW_place {n k : Nat} (hn : 0 < n) : ∀ q ∈ regW (plc 0 n) n k n, ∃ r : Nat, q = (r : Int) ∧ r < n + n * k := by
  intro q hq
  unfold regW at hq
  obtain ⟨i, hi, rfl⟩ := List.mem_map.1 hq
  have hi := List.mem_range.1 hi
  rw [plc_at hi, Nat.zero_add]
  unfold regO
  by_cases h0 : k = 0
  · rw [if_pos h0]
    exact ⟨i, rfl, by omega⟩
  · rw [if_neg h0]
    refine ⟨n + i * k + (k - 1), rfl, ?_⟩
    have := place_lt (n := n) (k := k) (i := i) (j := k - 1) hi (by omega)
    omega
theorem plc_place {n k : Nat} : ∀ q ∈ plc 0 n, ∃ r : Nat, q = (r : Int) ∧ r < n + n * k := by
  intro q hq
  unfold plc at hq
  obtain ⟨i, hi, rfl⟩ := List.mem_map.1 hq
  have hi := List.mem_range.1 hi
  exact ⟨0 + i, rfl, by omega⟩
theorem bits_of {m : Nat} {p : Pt} (hl : 0 < p.bits.length) (h : ∀ q ∈ p.bits, ∃ r : Nat, q = (r : Int) ∧ r < m) : bitsS m p = true := by
  unfold bitsS
  rw [Bool.and_eq_true]
  refine ⟨by simpa using fun e => by rw [e] at hl; exact absurd hl (by simp), ?_⟩
  rw [List.all_eq_true]
  intro q hq
  obtain ⟨r, rfl, hr⟩ := h q hq
  unfold placeS
  simp
  omega
theorem arg_blen8 {w : World} {A : Option Addr} {n c x : Nat} (h : Arg w A n c x) : blen x ≤ 32 * n := by
  obtain ⟨xs, h1, h2, h3, h4⟩ := h
  rw [blen_le, ← pw_two, ← h4, ← h1.len]
  exact val_lt xs h1.2
theorem blen_self (x : Nat) : x < 2 ^ blen x := (blen_le x (blen x)).1 (Nat.le_refl _)
theorem blen_mul (x y : Nat) : blen (x * y) ≤ blen x + blen y := by
  rw [blen_le, Nat.pow_add]
  exact Nat.mul_lt_mul'' (blen_self x) (blen_self y)
theorem blen_add (x y : Nat) : blen (x + y) ≤ blen x + blen y + 1 := by
  rw [blen_le, Nat.pow_succ]
  have h1 : x < 2 ^ (blen x + blen y) := Nat.lt_of_lt_of_le (blen_self x) (Nat.pow_le_pow_right (by omega) (by omega))
  have h2 : y < 2 ^ (blen x + blen y) := Nat.lt_of_lt_of_le (blen_self y) (Nat.pow_le_pow_right (by omega) (by omega))
  omega
theorem wpList_push2h {P : Program} (w : World) {ops : Array Oper} {rest : List Oper} {o : Oper} {a : Act} {Q : Exit → Act → World → Prop} (hgd : o.guard = none) (s x : Operand) (t : TypeId)
    (ho : o.op = .call { callee := .builtin .append, args := #[s, x], argTypes := #[t, t] }) {e : TypeId} {bytes : Nat} (hE : Elm P t e 1 bytes) (hby : bytes ≤ 64)
    (base : Nat) (v : Value) (xs : List Value) (hs : a.eval s = v) (hown : Grow w base e v xs) (u : Value) (hu : u.oneCell' = true) (H : Nat) (hH : w.heap.size = H) (hx : a.eval x = .slice (some ⟨H, 0, none⟩) 1 1)
    (hn : xs.length + 1 ≤ 1000000) (hbase : base ≤ w.heap.size)
    (h : ∀ v' w', Grow w' base e v' (xs ++ [u]) → Below base w w' → (∀ t', t' ≠ e → TK t' w w') → wpList P ops Q rest (a.put o.dst v') w') : wpList P ops Q (o :: rest) a (w.alloc (.cells #[u] e)) := by
  subst hH
  exact wpList_push2 w hgd s x t ho hE hby base v xs hs hown u hu hx hn hbase h
def vsL (rs : List Sn) (n j : Nat) : List Nat := (rs.take j).map fun r => r.x % 2 ^ n
theorem vsL_succ {rs : List Sn} {n j : Nat} {r : Sn} (h : rs[j]? = some r) : vsL rs n (j + 1) = vsL rs n j ++ [r.x % 2 ^ n] := by
  unfold vsL
  rw [List.take_add_one, h]
  simp
theorem lu_ne8 : (127 : TypeId) ≠ 36 ∧ (22 : TypeId) ≠ 36 := by decide
theorem nub_T {t : TypeId} {w : World} {A : Option Addr} {n : Nat} {xs : List Nat} (h : NuT t w A n xs) : NuB 30000 w A n xs := by
  obtain ⟨rs, h1, h2, h3⟩ := h
  exact ⟨rs, h1.1, h2, fun r hr => ⟨(h3 r hr).1.arg (h3 r hr).2.2, by have := (h3 r hr).2.1; omega⟩⟩
theorem vsL_len {rs : List Sn} {n j : Nat} (h : j ≤ rs.length) : (vsL rs n j).length = j := by
  unfold vsL
  rw [List.length_map, List.length_take]
  omega
theorem vsL_lt (rs : List Sn) (n j : Nat) : ∀ v ∈ vsL rs n j, v < 2 ^ n := by
  intro v hv
  unfold vsL at hv
  obtain ⟨r, _, rfl⟩ := List.mem_map.1 hv
  exact Nat.mod_lt _ (Nat.two_pow_pos n)
theorem NuT.one {t : TypeId} {w : World} {A : Option Addr} {n x : Nat} (h : NuT t w A n [x]) : n = 1 ∧ ∃ b off A' m c, A = some ⟨b, off, none⟩ ∧ b < w.heap.size ∧ w.cell? ⟨b, off, none⟩ = some (.slice A' m c) ∧ ResT w A' m x ∧ m ≤ 3200 := by
  obtain ⟨rs, h1, h2, h3⟩ := h
  have hn : (rs.map snC).length = n := h1.1.1
  have hl : rs.length = 1 := by rw [← List.length_map (f := Sn.x), h2]; rfl
  obtain ⟨r, rfl⟩ := List.length_eq_one_iff.1 hl
  obtain ⟨b, off, e, hb, hc⟩ := h1.1.2 0 _ rfl
  obtain ⟨k1, k2, _⟩ := h3 r (List.mem_singleton.2 rfl)
  injection h2 with h2 _
  rw [← h2]
  exact ⟨by rw [← hn]; rfl, b, off, r.A, r.m, r.c, e, hb, by simpa [snC] using hc, k1, k2⟩
theorem ResT.on8 {w w' : World} {A : Option Addr} {n x : Nat} (h : ResT w A n x) (hb : Below w.heap.size w w') : ResT w' A n x := h.tk (TK.below hb)
def IL (n : Nat) : List Pt := [⟨⟨#[120]⟩, plc 0 n⟩]
def OL (n k : Nat) : List Pt := [⟨⟨#[122]⟩, regW (plc 0 n) n k n⟩]
set_option maxRecDepth 20000 in
set_option maxHeartbeats 16000000 in
theorem buildLater_as {w : World} (wide times : Nat) (hw : wide ≤ 255) (htm : times ≤ 255) {As : Option Addr} {ns cs : Nat} {rs : List Sn} (hs : Rw w As ns (rs.map snC)) (hr : ∀ r ∈ rs, Arg w r.A r.m r.c r.x ∧ r.m ≤ 140737488351232) (hns : ns ≤ 140737488351232) :
    Calls Try.prog 4 #[.int .u8 wide, .int .u8 times, .slice As ns cs] w fun en w' => en = .returned (.bool true) ∧ Below w.heap.size w w' := by
  obtain ⟨n, hn, hn1, hn20⟩ : ∃ n : Nat, (wide : Int) % 20 + 1 = (n : Int) ∧ 1 ≤ n ∧ n ≤ 20 := ⟨wide % 20 + 1, by omega, by omega, by omega⟩
  obtain ⟨k, hk, hk6⟩ : ∃ k : Nat, (times : Int) % 6 = (k : Int) ∧ k < 6 := ⟨times % 6, by omega, by omega⟩
  have HN0 := Lib.hid hn
  have HK0 := Lib.hid hk
  have HR := Lib.hid hr
  clear hn hk hr
  go_enter Try.func4, Try.ntmps4
  go_wp2_with fail
  refine (awake8_any _).mono ?_
  rintro en w1 ⟨rfl, b1⟩
  go_wp2_with fail
  refine (new_b _).mono ?_
  rintro en w2 ⟨p, rfl, h2, b2⟩
  rw [HN0.out, HK0.out]
  clear HN0 HK0 hw htm
  have BW := b1.trans (b2.mono b1.size)
  go_wp2_with fail
  refine (in_as h2 (by simp) _ n (by omega) (by simp; omega)).mono ?_
  rintro en w3 ⟨A3, c3, rfl, hx3, sw3, hax3, top3, ht3, h3, f3⟩
  have h3' : Bd w3 w1.heap.size top3 p (ins0 n) [⟨⟨#[120]⟩, plc 0 n⟩] [] := by simpa using h3
  have hx3' : Wo w3 A3 n (plc 0 n) := hx3
  replace BW := BW.trans (f3.bw.mono b1.size)
  clear h2 h3 hx3 f3 b2
  go_wp2_with fail
  obtain ⟨m, hm⟩ : ∃ m, n + n * k = m := ⟨_, rfl⟩
  have hkn : n * k ≤ 120 := Nat.le_trans (Nat.mul_le_mul hn20 (show k ≤ 6 by omega)) (by omega)
  refine (regs_as h3' hx3'.is sw3 (by omega) (by rw [ins0_len]; omega)).mono ?_
  rintro en w4 ⟨A4, c4, rfl, hw4, sw4, h4, f4⟩
  rw [ins0_len] at hw4 h4
  have h4' : Bd w4 w1.heap.size top3 p (laterN n k) [⟨⟨#[120]⟩, plc 0 n⟩] [] := h4
  replace BW := BW.trans (f4.bw.mono b1.size)
  clear h3' hx3' h4 f4
  go_wp2_with fail
  refine (out_as h4' (by simp) _ hw4.is sw4 (by omega)).mono ?_
  rintro en w5 ⟨⟨u5, rfl⟩, top5, ht5, h5, f5⟩
  have h5' : Bd w5 w1.heap.size top5 p (laterN n k) (IL n) (OL n k) := h5
  replace BW := BW.trans (f5.bw.mono b1.size)
  clear h4' h5 f5 hw4
  go_wp2_with fail
  refine (net_b h5' (nn := m) (ni := 1) (no := 1) ((later_len n k).trans hm) rfl rfl (by omega) (by omega) (by omega) (by
    intro q hq
    simp only [IL, OL, List.singleton_append, List.mem_cons, List.not_mem_nil, or_false] at hq
    rcases hq with rfl | rfl
    · show (plc 0 n).length ≤ 100000
      rw [plc_len]; omega
    · show (regW (plc 0 n) n k n).length ≤ 100000
      rw [regW_len]; omega)).mono ?_
  rintro en w6 ⟨Bn, dn, Bi, di, Bo, do', rfl, n1, swn, n2, swi, n3, swo, b6⟩
  replace BW := Below.step BW b6
  clear h5' b6 sw4
  have HPI : Hid (∀ q ∈ plc 0 n, ∃ r : Nat, q = (r : Int) ∧ r < m) := Lib.hid (by rw [← hm]; exact plc_place)
  have HPO : Hid (∀ q ∈ regW (plc 0 n) n k n, ∃ r : Nat, q = (r : Int) ∧ r < m) := Lib.hid (by rw [← hm]; exact regW_place (by omega))
  have HLN : Hid ((laterN n k).length = m) := Lib.hid ((later_len n k).trans hm)
  have HFM : Hid ((laterN n k).all (formedS m) = true) := Lib.hid (by rw [← HLN.out]; exact (later_bk n k).formed)
  have hm140 : m ≤ 140 := by omega
  have HPQ : Hid (∀ p ∈ IL n ++ OL n k, p.bits.length ≤ 100 ∧ 0 < p.bits.length ∧ ∀ q ∈ p.bits, ∃ r : Nat, q = (r : Int) ∧ r < m) := Lib.hid (by
    intro p hp
    simp only [IL, OL, List.singleton_append, List.mem_cons, List.not_mem_nil, or_false] at hp
    rcases hp with rfl | rfl
    · exact ⟨by show (plc 0 n).length ≤ 100; rw [plc_len]; omega, by show 0 < (plc 0 n).length; rw [plc_len]; omega, HPI.out⟩
    · exact ⟨by show (regW (plc 0 n) n k n).length ≤ 100; rw [regW_len]; omega, by show 0 < (regW (plc 0 n) n k n).length; rw [regW_len]; omega, HPO.out⟩)
  clear hm hkn
  go_upto_region 8 with fail
  obtain ⟨w7, e_w7⟩ : ∃ w', w6.alloc (.cells #[.slice Bn m dn, .slice Bi 1 di, .slice Bo 1 do'] 52) = w' := ⟨_, rfl⟩
  have b7 : Below w6.heap.size w6 w7 := e_w7 ▸ below_lit _ _
  have z7 : Bx w7 w6.heap.size [.slice Bn m dn, .slice Bi 1 di, .slice Bo 1 do'] := e_w7 ▸ Bx.made_k w6 rfl #[.slice Bn m dn, .slice Bi 1 di, .slice Bo 1 do'] 52
  rw [e_w7]
  clear e_w7
  have hNt : Nt w7 Bn m dn Bi 1 di Bo 1 do' (laterN n k) (IL n) (OL n k) := ⟨n1.on b7, n2.on b7, n3.on b7, swi, swo, by omega, by omega, fun p hp => by have := (HPQ.out p hp).1; omega⟩
  replace BW := Below.step BW b7
  clear n1 n2 n3 b7
  have z7c0 := z7.2 0 _ rfl
  have z7c1 := z7.2 1 _ rfl
  have z7c2 := z7.2 2 _ rfl
  obtain ⟨f, hfa⟩ := (later_bk n k).all
  have HFA := Lib.hid hfa
  clear hfa
  have HBT : Hid ((IL n ++ OL n k).all (bitsS m) = true) := Lib.hid (by
    rw [List.all_eq_true]
    intro p hp
    obtain ⟨_, h2, h3⟩ := HPQ.out p hp
    exact bits_of h2 h3)
  go_wp2_with fail
  refine (fast_as hNt HFM.out HBT.out HFA.out).mono ?_
  rintro en w8 ⟨Af, cf, L, rfl, hiL, swL, hOd, b8⟩
  have HOD := Lib.hid hOd
  have hLm : L.length ≤ 100000 := by have := hOd.len; rw [HLN.out] at this; omega
  replace BW := Below.step BW b8
  replace z7 := z7.on b8
  have hNt8 := hNt.on b8
  clear hNt b8 z7c0 z7c1 z7c2 hOd
  go_wp2_with fail
  have HS0 := Lib.hid hs
  have HBW8 := Lib.hid BW
  clear hs BW
  go_loopw [14, 15] (fun sv iv wr => ∃ (j : Nat) (rr : List Sm), j ≤ ns ∧ j ≤ 20 ∧ iv = .int .i64 j ∧ Hid (Grow wr w8.heap.size 36 sv (rr.map smC)) ∧ Hid (rr.length = j) ∧ Hid (rr.map Sm.xs = (vsL rs n j).map fun v => [v]) ∧ Hid (∀ r ∈ rr, NuT 22 wr r.A r.m r.xs ∧ Sw r.A r.m r.c) ∧ Hid (Below w8.heap.size w8 wr)) (fun _ iv _ => 20 - (intOf iv).toNat)
  case atStart => exact ⟨0, [], Nat.zero_le _, by omega, rfl, Lib.hid (World.ownsRow_nil w8 _ _ _), Lib.hid rfl, Lib.hid rfl, Lib.hid (fun r hr => by cases hr), Lib.hid (Below.refl _ _)⟩
  case round =>
    obtain ⟨j, rr, hj, hj20, rfl, HG, HL, HX, HRR, HB⟩ := hrel
    by_cases hlt : j < ns ∧ j < 20
    · obtain ⟨hl1, hl2⟩ := hlt
      have i1 : (j : Int) < (ns : Int) := by omega
      have i2 : (j : Int) < 20 := by omega
      have i0 : (0 : Int) ≤ (j : Int) := by omega
      have BW : Below w.heap.size w wr := Below.step HBW8.out HB.out
      obtain ⟨r, hr⟩ := look_ex (by have := HS0.out.1; rwa [List.length_map] at this) hl1
      obtain ⟨bs, os, es, hbs, cs1⟩ := HS0.out.2 j (snC r) (by rw [List.getElem?_map, hr]; rfl)
      obtain ⟨hra, hrm⟩ := HR.out r (List.mem_of_getElem? hr)
      have HRJ := Lib.hid hr
      have HRA := Lib.hid (hra.on BW)
      have q1 := (BW.cell (p := ⟨bs, os + j, none⟩) hbs).trans cs1
      subst es
      unfold snC at q1
      clear hr hra cs1
      by_cases h20 : 20 < r.m
      · have i3 : (20 : Int) < (r.m : Int) := by omega
        go_wp2_with fail
        go_ret
        exact ⟨rfl, BW⟩
      · have i3 : ¬ (20 : Int) < (r.m : Int) := by omega
        have hbl := arg_blen8 HRA.out
        go_wp2_with fail
        refine (rof_arg7 HRA.out (by omega)).mono ?_
        rintro en w9 ⟨A9, n9, c9, rfl, hb9, b9⟩
        have hn9 : n9 ≤ 1000000 := by rw [hb9.size]; omega
        go_wp2_with fail
        refine (rlow8_as hb9 hn9 n (by omega)).mono ?_
        rintro en w10 ⟨A10, n10, c10, rfl, hb10, b10⟩
        have hn10 : n10 ≤ 1000000 := by
          rw [hb10.size]
          have : blen (r.x % 2 ^ n) ≤ n := (blen_le _ n).2 (Nat.mod_lt _ (Nat.two_pow_pos n))
          omega
        go_wp2_with fail
        refine (rparts_tag hb10 hn10).mono ?_
        rintro en w11 ⟨A11, n11, c11, rfl, hr11, hn11, ht11, sw11, b11⟩
        have hn3 : n11 ≤ 3200 := by
          have : blen (r.x % 2 ^ n) ≤ n := (blen_le _ n).2 (Nat.mod_lt _ (Nat.two_pow_pos n))
          omega
        have hv11 : ResT w11 A11 n11 (r.x % 2 ^ n) := hr11.tg ht11
        have B8 : Below w8.heap.size w8 w11 := Below.step (Below.step (Below.step HB.out b9) b10) b11
        have BX := Below.step (Below.step b9 b10) b11
        clear hbl hn9 hn10 hb9 hb10 hr11 hn11 ht11 b9 b10 b11 q1
        have b12 : Below w11.heap.size w11 (w11.alloc (.cells #[.slice A11 n11 c11] 22)) := below_lit _ _
        have o12 : Own (w11.alloc (.cells #[.slice A11 n11 c11] 22)) w11.heap.size 22 [.slice A11 n11 c11] := Own.made w11 22 [.slice A11 n11 c11]
        have g12 : Grow (w11.alloc (.cells #[.slice A11 n11 c11] 22)) w8.heap.size 36 _ (rr.map smC) := row_on HG.out (Below.step BX b12)
        have hs12 : (w11.alloc (.cells #[.slice A11 n11 c11] 22)).heap.size = w11.heap.size + 1 := size_lit w11 _ rfl
        have hz12 : w8.heap.size ≤ (w11.alloc (.cells #[.slice A11 n11 c11] 22)).heap.size := Nat.le_trans B8.size b12.size
        have hll : (rr.map smC).length + 1 ≤ 1000000 := by rw [List.length_map, HL.out]; omega
        go_wp2_with (at_builtin; go_loud (refine wpList_push2h _ rfl _ _ 56 rfl elm_outs (by omega) w8.heap.size _ _ rfl g12 _ rfl _ hs12 rfl hll hz12 ?_); intro v' w13 hr13 hb13 hk13)
        have B13 := (Below.step B8 b12).trans hb13
        have nu13 : NuT 22 w13 (some ⟨w11.heap.size, 0, none⟩) 1 [r.x % 2 ^ n] := by
          refine ⟨[⟨A11, n11, c11, r.x % 2 ^ n⟩], ⟨⟨rfl, fun i u hu => ?_⟩, fun _ => ⟨w11.heap.size, 0, _, _, rfl, own_tk o12 (hk13 _ lu_ne8.2)⟩⟩, rfl, fun s hs => ?_⟩
          · have o13 := own_tk o12 (hk13 _ lu_ne8.2)
            exact ⟨w11.heap.size, 0, rfl, o13.lt, by rw [Nat.zero_add, o13.cell]; exact hu⟩
          · rw [List.mem_singleton.1 hs]
            exact ⟨(hv11.on b12).tk (hk13 _ lu_ne8.1), hn3, sw11⟩
        go_roundw
        case rel =>
          refine ⟨j + 1, rr ++ [⟨some ⟨w11.heap.size, 0, none⟩, 1, 1, [r.x % 2 ^ n]⟩], by omega, by omega, by go_num, Lib.hid (by rw [List.map_append]; exact hr13), Lib.hid (by rw [List.length_append, HL.out]; rfl), Lib.hid ?_, Lib.hid fun s hs => ?_, Lib.hid B13⟩
          · rw [List.map_append, HX.out, vsL_succ HRJ.out, List.map_append]
            rfl
          · rcases List.mem_append.1 hs with hs | hs
            · exact ⟨((HRR.out s hs).1.on (Below.step BX b12)).tk (hk13 _ lu_ne8.2) (hk13 _ lu_ne8.1), (HRR.out s hs).2⟩
            · rw [List.mem_singleton.1 hs]
              exact ⟨nu13, Sw.one _ 1 (by omega)⟩
        case measure => simp [intOf]; omega
    · obtain ⟨A14, c14, rfl, sw14, hlo14, hrw14⟩ := Grow.at HG.out (n := j) (by rw [List.length_map]; exact HL.out)
      have hrl : rs.length = ns := by have := HS0.out.1; rwa [List.length_map] at this
      obtain ⟨vs, hvs⟩ : ∃ vs, vsL rs n j = vs := ⟨_, rfl⟩
      have HVL : Hid (vs.length = j) := Lib.hid (by rw [← hvs]; exact vsL_len (by omega))
      have HVT : Hid (∀ v ∈ vs, v < 2 ^ n) := Lib.hid (by rw [← hvs]; exact vsL_lt rs n j)
      have HX2 : Hid (rr.map Sm.xs = vs.map fun v => [v]) := Lib.hid (by rw [← hvs]; exact HX.out)
      have HNB : Hid (NnB 30000 wr A14 j (vs.map fun v => [v])) := Lib.hid ⟨rr, hrw14, HX2.out, fun r hr => ⟨nub_T (HRR.out r hr).1, (HRR.out r hr).2⟩⟩
      have HW14 := Lib.hid hrw14
      have HRX : Hid (rrunX (laterN n k) (IL n) (OL n k) (nI L) (vs.map fun v => [v]) = ((List.range j).map fun t => [outT k vs t], 0)) := Lib.hid (by
        have := later_run (nm := ⟨#[120]⟩) (nm2 := ⟨#[122]⟩) HOD.out HVT.out
        rw [HVL.out] at this
        exact this)
      have BW : Below w.heap.size w wr := Below.step HBW8.out HB.out
      have hNt9 := hNt8.on HB.out
      have z9 := z7.on HB.out
      have z9c0 := z9.2 0 _ rfl
      have z9c1 := z9.2 1 _ rfl
      have z9c2 := z9.2 2 _ rfl
      have hiL9 := hiL.on HB.out
      obtain ⟨w9, rfl⟩ : ∃ x, x = wr := ⟨_, rfl⟩
      have hc : ¬ j < ns ∨ (j < ns ∧ ¬ j < 20) := by omega
      clear hvs HG HB HX hrw14 hlt hrl hlo14
      rcases hc with hc | ⟨hc1, hc2⟩
      case' inl => have i1 : ¬ (j : Int) < (ns : Int) := by omega
      case' inr =>
        have i1 : (j : Int) < (ns : Int) := by omega
        have i2 : ¬ (j : Int) < 20 := by omega
      all_goals (
        go_wp2_with fail
        refine (rthrough_as hNt9.n hNt9.i hNt9.o (by omega) (by omega) (by omega) (fun p hp => by have := (HPQ.out p hp).1; omega) (fun p hp => (HPQ.out p hp).2.2) HFM.out hiL9 hLm (fun q hq => by
          unfold nI at hq
          obtain ⟨r, hr, rfl⟩ := List.mem_map.1 hq
          exact ⟨r, rfl, by rw [← HLN.out]; exact (HOD.out.mem r).1 hr⟩) HNB.out (by omega) HRX.out).mono ?_
        rintro en w15 ⟨Ao, mo, co, rfl, hout, swo', b15⟩
        have hmo : mo = j := by
          have := hout.len
          rw [List.length_map, List.length_range] at this
          exact this.symm
        subst hmo
        have HOU := Lib.hid hout
        have HB15 := Lib.hid b15
        have HBW := Lib.hid (Below.step BW b15)
        clear hout b15 z9c0 z9c1 z9c2 z9 hNt9 hiL9
        go_wp2_with fail
        go_loopw [93] (fun iv wx => ∃ t : Nat, t ≤ mo ∧ iv = .int .i64 t ∧ Hid (Below w15.heap.size w15 wx)) (fun iv _ => mo - (intOf iv).toNat)
        case atStart => exact ⟨0, Nat.zero_le _, rfl, Lib.hid (Below.refl _ _)⟩
        case round =>
          obtain ⟨t, ht, rfl, HBX⟩ := hrel
          by_cases hlt : t < mo
          · have t0 : (0 : Int) ≤ (t : Int) := by omega
            have t1 : (t : Int) < (mo : Int) := by omega
            obtain ⟨bo, oo, A1, m1, c1, xs, rfl, hbo, HXO, qo, hnu, _⟩ := HOU.out.at hlt
            have hxs : xs = [outT k vs t] := by
              have := HXO.out
              rw [List.getElem?_map, List.getElem?_range hlt] at this
              injection this with this
              exact this.symm
            subst hxs
            obtain ⟨rfl, b1', o1', A2, m2, c2, rfl, hb1', q2, hr2, hm2⟩ := hnu.one
            go_upto_region 25 with fail
            obtain ⟨wl, e_wl⟩ : ∃ w', wr.alloc (.cells #[] 127) = w' := ⟨_, rfl⟩
            have bl : Below wr.heap.size wr wl := e_wl ▸ below_lit _ _
            have zl : Res wl (some ⟨wr.heap.size, 0, none⟩) 0 0 := ⟨[], ⟨⟨rfl, fun i u hu => by simp [U] at hu⟩, Dg.nil⟩, ⟨Dg.nil, fun h => by simp at h⟩, rfl⟩
            rw [e_wl]
            clear e_wl
            have BL := Below.step HBX.out bl
            have qo' := (BL.cell (p := ⟨bo, oo + t, none⟩) hbo).trans qo
            have q2' := (BL.cell (p := ⟨b1', o1', none⟩) hb1').trans q2
            have hres := (hr2.on8 BL).res
            clear qo q2
            by_cases hkt : k ≤ t
            · have HKT : Hid (outT k vs t = vs.getD (t - k) 0) := Lib.hid (by unfold outT; rw [if_pos hkt])
              obtain ⟨d, hd⟩ : ∃ d, t - k = d := ⟨_, rfl⟩
              have hdm : d < mo := by omega
              have hdi : (t : Int) - (k : Int) = (d : Int) := by omega
              have d0 : (0 : Int) ≤ (d : Int) := by omega
              have d1 : (d : Int) < (mo : Int) := by omega
              have k1 : (k : Int) ≤ (t : Int) := by omega
              obtain ⟨r, hr⟩ : ∃ r, rr[d]? = some r := look_ex HL.out hdm
              obtain ⟨bA, oA, u, rfl, hu, cu⟩ := HW14.out.at hdm
              have hue : u = smC r := by
                have := hu.out
                rw [List.getElem?_map, hr] at this
                injection this with this
                exact this.symm
              subst hue
              have hbA : bA < w9.heap.size := by
                obtain ⟨b', o', e, h1, _⟩ := HW14.out.2 d _ hu.out
                cases e
                exact h1
              have hxr : r.xs = [vs.getD d 0] := by
                have h1 : (rr.map Sm.xs)[d]? = some r.xs := by rw [List.getElem?_map, hr]; rfl
                rw [HX2.out, List.getElem?_map] at h1
                have hdv : d < vs.length := by rw [HVL.out]; exact hdm
                rw [List.getElem?_eq_getElem hdv] at h1
                injection h1 with h1
                rw [List.getD_eq_getElem?_getD, List.getElem?_eq_getElem hdv]
                exact h1.symm
              have hnr := (HRR.out r (List.mem_of_getElem? hr)).1
              rw [hxr] at hnr
              obtain ⟨hrm1, b4, o4, A4', m4, c4', e4, hb4, q4, hr4, hm4⟩ := hnr.one
              have B9 : Below w9.heap.size w9 wl := Below.step HB15.out BL
              have cu' := (B9.cell (p := ⟨bA, oA + d, none⟩) hbA).trans cu
              unfold smC at cu'
              rw [hrm1, e4] at cu'
              have q4' := (B9.cell (p := ⟨b4, o4, none⟩) hb4).trans q4
              have hres4 : Res wl A4' m4 (outT k vs t) := by
                rw [HKT.out, hd]
                exact (hr4.on8 B9).res
              clear hr hu cu q4 hnr hr4 e4 hxr hrm1 zl
              go_wp2_with fail
              refine (same_res hres hres4 (by omega) (by omega)).mono ?_
              rintro en w17 ⟨rfl, b17⟩
              go_wp2_with fail
              go_roundw
              case rel => exact ⟨t + 1, by omega, by go_num, Lib.hid (Below.step BL b17)⟩
              case measure => simp [intOf]; omega
            · have k1 : ¬ (k : Int) ≤ (t : Int) := by omega
              have hres4 : Res wl (some ⟨wr.heap.size, 0, none⟩) 0 (outT k vs t) := by
                have e : outT k vs t = 0 := by unfold outT; rw [if_neg hkt]
                rw [e]
                exact zl
              clear zl
              go_wp2_with fail
              refine (same_res hres hres4 (by omega) (by omega)).mono ?_
              rintro en w17 ⟨rfl, b17⟩
              go_wp2_with fail
              go_roundw
              case rel => exact ⟨t + 1, by omega, by go_num, Lib.hid (Below.step BL b17)⟩
              case measure => simp [intOf]; omega
          · obtain rfl : t = mo := by omega
            go_wp2_with fail
            go_ret
            exact ⟨rfl, Below.step HBW.out HBX.out⟩)
end Go.Proofs.Ytcfmgoilncninaa

namespace Go.Proofs.Ytcfmgoilncninaa
open Go.RowKit
set_option linter.unusedVariables false
set_option maxRecDepth 4000

open Go.ChangeShapes Go.WideShapes Go.ChangeAt in
theorem open_row8 {H : Type} {enc : TypeId × Value → H} {w : World} {v : Value} {d : DataW H} {p : List MemPlace} {b0 : Nat} (hv : Value.okWide Try.prog w .any b0 46 v) (h0 : DataW.Trod enc Try.prog w 0 (fun _ => true) true 46 v d p) (hz : ∀ n ∈ d.weights Try.prog 46, n ≤ RB) :
    ∃ A n c xs, v = .slice A n c ∧ Nu w A n xs ∧ n ≤ RB ∧ Sw A n c := by
  obtain ⟨ao, lo, co, rfl⟩ := okWide_slice Try.underlying46 hv
  obtain ⟨fuel, h⟩ := h0
  have h' : DataW.trod enc Try.prog w 0 (fun _ => true) true fuel 46 [.slice ao lo co] = some (d, p) := by simpa [Value.cells] using h
  exact open_row6 h' hz
theorem buildLater_any {w : World} {y z : Int} (hy : 0 ≤ y ∧ y ≤ 255) (hz : 0 ≤ z ∧ z ≤ 255) {A : Option Addr} {n c : Nat} {xs : List Nat} (h : Nu w A n xs) (hn : n ≤ 140737488351232) :
    Calls Try.prog 4 #[.int .u8 y, .int .u8 z, .slice A n c] w fun en w' => en = .returned (.bool true) ∧ Below w.heap.size w w' := by
  obtain ⟨a, rfl⟩ := Int.eq_ofNat_of_zero_le hy.1
  obtain ⟨b, rfl⟩ := Int.eq_ofNat_of_zero_le hz.1
  obtain ⟨rs, r1, _, r3⟩ := h
  exact buildLater_as a b (by omega) (by omega) r1 r3 hn
end Go.Proofs.Ytcfmgoilncninaa

namespace Go.Proofs.Ytcfmgoilncninaa.buildLaterDone
open Go.ChangeShapes Go.WideShapes Go.ChangeAt Go.RowKit
open Go.ChangeMaps (open_string shut_string)
set_option linter.unusedVariables false
set_option maxRecDepth 4000

theorem own : ownKnob Try.prog.godebug = none := by kernel_rfl
theorem laidOut : laidOutB Try.prog = true := by kernel_rfl

set_option maxHeartbeats 1600000 in
set_option maxRecDepth 100000 in
theorem lifted (os : Os) (started : os.Started) (H : Type) (enc : TypeId × Value → H) :
    ReturnsInHanded {} Try.checked os 4 .any (Rows.buildLaterSpec.pre6 enc Try.prog Try.f4 Rows.buildLaterRow.domain false) (Rows.buildLaterSpec.post enc Try.prog Try.f4 false true false false) := by
  refine returnsInHanded_of_change_sized (C := Try.checked) own started (by kernel_rfl) Try.func4
    (ChangeSpec.witness6 (enc := enc) (C := Try.checked) false ⟨#[], #[.int .u8 0, .int .u8 0, .slice none 0 0], []⟩ 8 (by kernel_rfl) (by kernel_rfl) (by kernel_rfl) (by kernel_rfl)) ?_
  intro W base args ds gs before hval0 hW _ hsz0 _
  have hval : ∀ (j : Nat) t v, Try.f4.params[j]? = some t → args[j]? = some v → Value.okWide Try.prog W .any base t v := hval0
  have hsz : (DataW.weightsEach Try.prog (Try.f4.params.toList ++ Rows.buildLaterSpec.plain.varTypes Try.prog) (ds ++ gs)).all (· ≤ reachBytes) = true := hsz0
  clear hsz0
  have hW' := hW
  obtain ⟨p, q, hA0, hV, rfl, hfz, hnd⟩ := hW
  have hA : DataW.TrodAll enc Try.prog W 0 (fun _ => true) true Try.f4.params.toList args.toList ds p := hA0
  rw [Try.params4] at hA hval hsz
  obtain ⟨v0, vs0, d0, ds0, p0, q0, hargs, rfl, rfl, h0, r0⟩ := trodAll_cons hA
  obtain ⟨v1, vs1, d1, ds1, p1, q1, rfl, rfl, rfl, h1, r1⟩ := trodAll_cons r0
  obtain ⟨v2, vs2, d2, ds2, p2, q2, rfl, rfl, rfl, h2, r2⟩ := trodAll_cons r1
  obtain ⟨rfl, rfl, rfl⟩ := trodAll_nil r2
  obtain rfl : args = #[v0, v1, v2] := by cases args; simp_all
  obtain ⟨rfl, rfl⟩ := trodVars_none hV
  have k0 := h0
  have lt0 : ∀ x ∈ p0, x.block < W.heap.size := by obtain ⟨m, hm⟩ := k0; exact DataW.trod_lt m _ _ _ hm
  have k1 := h1
  have lt1 : ∀ x ∈ p1, x.block < W.heap.size := by obtain ⟨m, hm⟩ := k1; exact DataW.trod_lt m _ _ _ hm
  have k2 := h2
  have lt2 : ∀ x ∈ p2, x.block < W.heap.size := by obtain ⟨m, hm⟩ := k2; exact DataW.trod_lt m _ _ _ hm
  obtain ⟨y0, rfl, rfl, rfl, w0⟩ := open_int Try.underlying5 (hval 0 5 v0 rfl rfl) h0
  obtain ⟨y1, rfl, rfl, rfl, w1⟩ := open_int Try.underlying5 (hval 1 5 v1 rfl rfl) h1
  obtain ⟨Ar2, nr2, cr2, xs2, rfl, HR2, hr2, sr2⟩ := open_row8 (hval 2 46 v2 rfl rfl) h2 (fun n hn => by
    have := List.all_eq_true.1 hsz n (DataW.weights_mem_each (j := 2) rfl rfl n hn)
    exact of_decide_eq_true this)
  clear hA0 hval0
  refine (buildLater_any (u8_wf w0) (u8_wf w1) HR2 hr2).mono fun e W' ⟨he, bel⟩ => ?_
  subst he
  exact ⟨_, rfl, _, _, _, [], _, [], hW', trodAll_mk1 (shut_bool Try.underlying4 _), (trodAll_cons_mk (Below.trod laidOut (by kernel_rfl) (of_decide_eq_true (by kernel_rfl)) k0 bel lt0) (trodAll_cons_mk (Below.trod laidOut (by kernel_rfl) (of_decide_eq_true (by kernel_rfl)) k1 bel lt1) (trodAll_cons_mk (Below.trod laidOut (by kernel_rfl) (of_decide_eq_true (by kernel_rfl)) k2 bel lt2) trodAll_mk0))), rfl, bel.frame _, fun h => by cases h⟩

theorem over : Rows.buildLaterRow.holds Try.pinned (OpenSpec.ofChange Rows.buildLaterSpec) :=
  OpenClaim.holds_of_wide 4 Try.f4 rfl rfl rfl rfl rfl rfl rfl ⟨rfl, rfl, rfl, rfl, rfl⟩ rfl rfl rfl rfl rfl (by kernel_rfl) Try.func4 (by kernel_rfl)
    (of_decide_eq_true (by kernel_rfl)) (by unfold Func.isWrapper; first | (rw [if_pos (by decide +kernel)]; kernel_rfl) | (rw [if_neg (by decide +kernel)]; exact ⟨rfl, rfl⟩))
    (fun os started H enc _ => lifted os started H enc)

/-- THE STATEMENT. -/
theorem proved : Rows.BuildLaterSaid := over
end Go.Proofs.Ytcfmgoilncninaa.buildLaterDone
namespace Go.Proofs.Ytcfmgoilncninaa
theorem buildLater_holds : Rows.BuildLaterSaid := buildLaterDone.proved
#print axioms buildLater_holds
end Go.Proofs.Ytcfmgoilncninaa
