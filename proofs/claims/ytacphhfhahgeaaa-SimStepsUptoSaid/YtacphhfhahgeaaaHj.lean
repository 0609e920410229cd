
/-
  Layer 7: the laws' Parts and large; the reference's Same.
-/
import Derived.Test.YtacphhfhahgeaaaHi
import Derived.Deep.QuietTactic
import Derived.BigQuiet
namespace Go.Proofs.Ytacphhfhahgeaaa
open Go.RowKit
set_option linter.unusedVariables false
set_option maxRecDepth 4000

theorem elm_parts : Elm Try.prog 40 54 1 24 := by
  obtain ⟨i, h1, h2, h3, h4⟩ := Go.info_parts (P := Try.prog) (e := 54) (z := .slice none 0 0) (size := 1) (bytes := 24) (by kernel_rfl)
  refine ⟨Try.underlying40, i, _, h1, h2, h3, h4, rfl, fun u hu => ?_⟩
  have hu2 : u ∈ (.slice none 0 0 : Value).cells.toList := hu
  simp [Value.cells] at hu2
  subst hu2
  rfl
set_option maxHeartbeats 1000000 in
theorem parts_raw {A : Option Addr} {n c : Nat} {rs : List Sn} {w : World} (h : Rw w A n (rs.map snC)) (hn : n ≤ 100000) :
    Calls Try.prog 22 #[.slice A n c] w fun en w' => ∃ A' c', en = .returned (.slice A' n c') ∧ RwT 54 w' A' n (rs.map snC) ∧ Sw A' n c' ∧ Below w.heap.size w w' := by
  have hln : rs.length = n := by have := h.1; rwa [List.length_map] at this
  have HLN := Lib.hid hln
  clear hln
  go_enter Try.func22, Try.ntmps22
  go_wp2_with fail
  go_loopw [3, 8] (fun sv iv wr => ∃ j : Nat, j ≤ n ∧ iv = .int .i64 j ∧ Grow wr w.heap.size 54 sv ((rs.take j).map snC) ∧ Below w.heap.size w wr) (fun _ iv _ => n - (intOf iv).toNat)
  case atStart => exact ⟨0, Nat.zero_le _, rfl, Grow.made w _ (Nat.le_refl _), (Below.refl _ _).alloc (Nat.le_refl _) _⟩
  case round =>
    obtain ⟨j, hj, rfl, hg, BW⟩ := hrel
    by_cases hlt : j < n
    · obtain ⟨⟨A1, m1, d1, x1⟩, hr⟩ := look_ex HLN.out hlt
      obtain ⟨b1, o1, e1, _, q1⟩ := (h.on BW).2 j (.slice A1 m1 d1) (by rw [List.getElem?_map, hr]; rfl)
      subst e1
      have HX := Lib.hid hr
      have i0 : (0 : Int) ≤ (j : Int) := by omega
      have i1 : (j : Int) < (n : Int) := by omega
      have hsz := BW.size
      have hll : ((rs.take j).map snC).length + 1 ≤ 1000000 := by rw [List.length_map, List.length_take]; omega
      clear hr
      go_wp2_with (at_builtin; refine wpList_push2 _ rfl _ _ 40 rfl elm_parts (by omega) w.heap.size _ _ rfl hg (.slice A1 m1 d1) rfl rfl hll hsz ?_; intro v' w1 hg1 hb1 _)
      go_roundw
      case rel =>
        refine ⟨j + 1, by omega, by go_num, ?_, BW.trans hb1⟩
        rw [List.take_add_one, HX.out, List.map_append]
        exact hg1
      case measure => simp [intOf]; omega
    · obtain rfl : j = n := by omega
      rw [List.take_of_length_le (by rw [HLN.out]; exact Nat.le_refl _)] at hg
      obtain ⟨A', c', rfl, sw, hl, hr⟩ := Grow.at (n := j) hg (by rw [List.length_map]; exact HLN.out)
      have htg := hg.tag
      clear hg
      go_wp2_with fail
      go_ret
      exact ⟨A', c', rfl, ⟨hr, htg⟩, sw, BW⟩
/-- PARTS of what is told. -/
theorem parts_as {t : TypeId} {A : Option Addr} {n c : Nat} {xs : List Nat} {w : World} (h : NuT t w A n xs) (hn : n ≤ 100000) :
    Calls Try.prog 22 #[.slice A n c] w fun en w' => ∃ A' c', en = .returned (.slice A' n c') ∧ NuT 54 w' A' n xs ∧ Sw A' n c' ∧ Below w.heap.size w w' := by
  obtain ⟨rs, h1, h2, h3⟩ := h
  refine (parts_raw h1.1 hn).mono ?_
  rintro en w' ⟨A', c', rfl, g1, g2, b⟩
  exact ⟨A', c', rfl, ⟨rs, g1, h2, fun r hr => ⟨(h3 r hr).1.tk (TK.below b), (h3 r hr).2⟩⟩, g2, b⟩
theorem NuT.at {t : TypeId} {w : World} {A : Option Addr} {n : Nat} {xs : List Nat} (h : NuT t w A n xs) {k : Nat} (hk : k < n) : ∃ b off A' m c x, A = some ⟨b, off, none⟩ ∧ Hid (xs[k]? = some x) ∧ w.cell? ⟨b, off + k, none⟩ = some (.slice A' m c) ∧ ResT w A' m x ∧ m ≤ 3200 := by
  obtain ⟨rs, h1, rfl, h3⟩ := h
  obtain ⟨r, hr⟩ := look_ex (by have := h1.1.1; simpa using this) hk
  obtain ⟨b, off, e, hb, hc⟩ := h1.1.2 k (snC r) (by rw [List.getElem?_map, hr]; rfl)
  have g := h3 r (List.mem_of_getElem? hr)
  exact ⟨b, off, r.A, r.m, r.c, r.x, e, Lib.hid (by rw [List.getElem?_map, hr]; rfl), hc, g.1, g.2.1⟩
theorem drewN_more (w : World) (a b : Nat) : (w.drewN a).drewN b = w.drewN (a + b) := World.drewN_drewN ..
set_option maxHeartbeats 1000000 in
/-- SAME. -/
theorem same7_eq {t1 t2 : TypeId} {A1 A2 : Option Addr} {n c1 c2 : Nat} {xs : List Nat} {w : World} (h1 : NuT t1 w A1 n xs) (h2 : NuT t2 w A2 n xs) (hn : n ≤ 100000) :
    Calls Try.prog 26 #[.slice A1 n c1, .slice A2 n c2] w fun en w' => en = .returned (.bool true) ∧ Below w.heap.size w w' := by
  go_enter Try.func26, Try.ntmps26
  go_wp2_with fail
  go_loopw [5] (fun iv wr => ∃ i : Nat, i ≤ n ∧ iv = .int .i64 i ∧ Below w.heap.size w wr) (fun iv _ => n - (intOf iv).toNat)
  case atStart => exact ⟨0, Nat.zero_le _, rfl, Below.refl _ _⟩
  case round =>
    obtain ⟨i, hi, rfl, BW⟩ := hrel
    by_cases hlt : i < n
    · obtain ⟨b1, o1, B1, m1, d1, x1, rfl, HX1, q1, r1, hm1⟩ := (h1.on BW).at hlt
      obtain ⟨b2, o2, B2, m2, d2, x2, rfl, HX2, q2, r2, hm2⟩ := (h2.on BW).at hlt
      obtain rfl : x1 = x2 := by have := HX1.out.symm.trans HX2.out; injection this
      have HQ : Hid (∀ q, Calls Try.prog 51 #[.slice B1 m1 d1, .slice B2 m2 d2] (wr.drewN q) fun e w'' => e = .returned (.bool true) ∧ ∃ m, w'' = wr.drewN m) := Lib.hid fun q => by
        obtain ⟨xs1, s1, k1, v1⟩ := (r1.tk (TK.below (below_drewN (Below.refl _ _) q))).res
        obtain ⟨xs2, s2, k2, v2⟩ := (r2.tk (TK.below (below_drewN (Below.refl _ _) q))).res
        refine (same_any s1 s2 (by omega) (by omega)).mono ?_
        rintro e w'' ⟨d, rfl, rfl⟩
        exact ⟨by rw [decide_eq_true (canon_unique xs1 xs2 k1 k2 (by rw [v1, v2]))], _, drewN_more _ _ _⟩
      have i0 : (0 : Int) ≤ (i : Int) := by omega
      have i1 : (i : Int) < (n : Int) := by omega
      go_upto_region 6 with fail
      go_quiet ((go_at_call 51; exact HQ.out _))
      replace BW := Lib.hid fun n => below_drewN BW n
      go_wp2_with fail
      go_roundw
      case rel => exact ⟨i + 1, by omega, by go_num, BW.out _⟩
      case measure => simp [intOf]; omega
    · obtain rfl : i = n := by omega
      go_wp2_with fail
      go_ret
      exact ⟨rfl, BW⟩
set_option maxHeartbeats 2000000 in
/-- LARGE. -/
theorem large7_as {An Ai Ao : Option Addr} {nn cn ni ci no co : Nat} {N : List Nd} {I O : List Pt} {w : World} (h : NetIn w An nn cn Ai ni ci Ao no co N I O) {As : Option Addr} {ns cs : Nat} {xss : List (List Nat)} (hs : Nn w As ns xss) (hns : ns ≤ 140737488351232) :
    Calls Try.prog 16 #[.agg #[.slice An nn cn, .slice Ai ni ci, .slice Ao no co], .slice As ns cs] w fun en w' => ∃ v, en = .returned (.bool v) ∧ (v = false → largeS nn ni no I O 60 = false ∧ ns ≤ 20) ∧ Below w.heap.size w w' := by
  go_enter Try.func16, Try.ntmps16
  go_upto_region 1 with fail
  obtain ⟨w1, e_w1⟩ : ∃ w', w.alloc (.cells #[.slice An nn cn, .slice Ai ni ci, .slice Ao no co] 25) = w' := ⟨_, rfl⟩
  have z0 : Bx w1 w.heap.size [.slice An nn cn, .slice Ai ni ci, .slice Ao no co] := e_w1 ▸ Bx.made_k w rfl #[.slice An nn cn, .slice Ai ni ci, .slice Ao no co] 25
  have b1 : Below w.heap.size w w1 := e_w1 ▸ below_lit _ _
  rw [e_w1]
  clear e_w1
  go_wp2_with fail
  go_loopw [5, 10] (fun cv iv wr => ∃ (i : Nat) (c : Int), i ≤ ns ∧ iv = .int .i64 i ∧ cv = .int .i64 c ∧ Below w1.heap.size w1 wr) (fun _ iv _ => ns - (intOf iv).toNat)
  case atStart => exact ⟨0, 0, Nat.zero_le _, rfl, rfl, Below.refl _ _⟩
  case round =>
    obtain ⟨i, c, hi, rfl, rfl, BR⟩ := hrel
    have BW := Below.step b1 BR
    by_cases hlt : i < ns
    · obtain ⟨b2, o2, A2, m2, d2, xs, rfl, hb2, HX, q2, hx, hm2, sw2⟩ := (hs.on BW).at hlt
      have i0 : (0 : Int) ≤ (i : Int) := by omega
      have i1 : (i : Int) < (ns : Int) := by omega
      go_wp2_with fail
      obtain ⟨wo, rfl⟩ : ∃ x, x = wr := ⟨_, rfl⟩
      go_loopw [5, 18] (fun cv kv wr => ∃ (k : Nat) (c : Int), k ≤ m2 ∧ kv = .int .i64 k ∧ cv = .int .i64 c ∧ wr = wo) (fun _ kv _ => m2 - (intOf kv).toNat)
      case atStart => exact ⟨0, _, Nat.zero_le _, rfl, rfl, rfl⟩
      case round =>
        obtain ⟨k, c, hk, rfl, rfl, rfl⟩ := hrel
        by_cases hlk : k < m2
        · obtain ⟨b3, o3, A3, m3, d3, x3, rfl, hb3, HX3, q3, ha3, hm3⟩ := hx.at hlk
          have k0 : (0 : Int) ≤ (k : Int) := by omega
          have k1 : (k : Int) < (m2 : Int) := by omega
          have e1 : IntKind.i64.wrap ((m3 : Int) + 1) = (m3 : Int) + 1 := by rw [IntKind.wrap_i64]; omega
          have e2 : IntKind.i64.wrap ((k : Int) + 1) = (k : Int) + 1 := by rw [IntKind.wrap_i64]; omega
          obtain ⟨c', hc'⟩ : ∃ c', IntKind.i64.wrap (c + ((m3 : Int) + 1)) = c' := ⟨_, rfl⟩
          go_wp2_with fail
          go_roundw
          case rel => exact ⟨k + 1, c', by omega, by go_num, by simp⟩
          case measure => simp [intOf]; omega
        · obtain rfl : k = m2 := by omega
          have e2 : IntKind.i64.wrap ((i : Int) + 1) = (i : Int) + 1 := by rw [IntKind.wrap_i64]; omega
          go_wp2_with fail
          go_roundw
          case rel => exact ⟨i + 1, c, by omega, by go_num, rfl, BR⟩
          case measure => simp [intOf]; omega
    · obtain rfl : i = ns := by omega
      obtain ⟨v, hv⟩ : ∃ v, largeS nn ni no I O 60 = v := ⟨_, rfl⟩
      have HV := Lib.hid hv
      have z1 := z0.on BR
      have z1c0 := z1.2 0 _ rfl
      have z1c1 := z1.2 1 _ rfl
      have z1c2 := z1.2 2 _ rfl
      clear hv
      go_wp2_with fail
      refine ((h.on BW).large v HV.out).mono ?_
      rintro en w3 ⟨rfl, b3⟩
      have BW3 := Below.step BW b3
      clear z1c0 z1c1 z1c2
      cases v
      case true =>
        go_wp2_with fail
        go_ret
        exact ⟨true, rfl, fun e => (by cases e), BW3⟩
      case false =>
        by_cases h20 : 20 < i
        · have e20 : decide ((20 : Int) < (i : Int)) = true := by simp; omega
          go_wp2_with fail
          go_ret
          exact ⟨true, rfl, fun e => (by cases e), BW3⟩
        · have e20 : decide ((20 : Int) < (i : Int)) = false := by simp; omega
          obtain ⟨u, hu⟩ : ∃ u, decide ((1000 : Int) < c) = u := ⟨_, rfl⟩
          go_wp2_with fail
          go_ret
          exact ⟨u, rfl, fun e => ⟨HV.out, by omega⟩, BW3⟩
end Go.Proofs.Ytacphhfhahgeaaa
