/-
  What the proofs of ShareSame and ShareLeft need: Gi.
-/
import Derived.Test.YtcehklnonhalhaaSHGh
namespace Go.Proofs.Ytcehklnonhalhaa
open Go.RowKit
set_option linter.unusedVariables false
set_option maxRecDepth 4000

theorem over_take (f : Nat → Nat) {L : List Int} {j : Nat} {x : Int} (h : L[j]? = some x) : overS f ((L.take (j + 1)).map Int.toNat) = max (overS f ((L.take j).map Int.toNat)) (f x.toNat + 1) := by
  unfold overS
  rw [List.take_add_one, h, List.map_append, List.foldl_append]
  rfl
theorem St.c0 {w : World} {B g l Bw : Nat} {An : Option Addr} {nn cn n : Nat} {lv : List Int} {A : Option Addr} {c : Nat} {W : List Nat} (h : St w B g l Bw An nn cn n lv A c W) : w.cell? ⟨g, 0, none⟩ = some (.slice An nn cn) ∧ w.cell? ⟨g, 1, none⟩ = some (.slice (some ⟨l, 0, none⟩) n n) ∧ w.cell? ⟨g, 2, none⟩ = some (.slice A W.length c) := by
  have c0 := h.var.cell 0
  have c1 := h.var.cell 1
  have c2 := h.var.cell 2
  simp only [List.getElem?_cons_succ, List.getElem?_cons_zero] at c0 c1 c2
  exact ⟨c0, c1, c2⟩
/-- the last one that waits. -/
theorem St.last {w : World} {B g l Bw : Nat} {An : Option Addr} {nn cn n : Nat} {lv : List Int} {A : Option Addr} {c : Nat} {W : List Nat} {q : Nat} (h : St w B g l Bw An nn cn n lv A c (W ++ [q])) : ∃ bA, A = some ⟨bA, 0, none⟩ ∧ w.cell? ⟨bA, W.length, none⟩ = some (.int .i64 (q : Int)) ∧ W.length + 1 ≤ c := by
  obtain ⟨A', c', e, sw, _, hc⟩ := row_at h.row
  injection e with e1 e2 e3
  subst e1 e3
  obtain ⟨b, e4, e5, e6⟩ := hc W.length (.int .i64 (q : Int)) (inN_at (by simp))
  exact ⟨b, e4, e6, by have := sw.1; simpa using this⟩
theorem row_pop {w : World} {Bw bA c : Nat} {W : List Nat} {q : Nat} (h : w.ownsRow Bw 3 1 (.slice (some ⟨bA, 0, none⟩) (W ++ [q]).length c) (W ++ [q]).length (inN (W ++ [q]))) : w.ownsRow Bw 3 1 (.slice (some ⟨bA, 0, none⟩) W.length c) W.length (inN W) := by
  have hl : (inN W).length = W.length := by unfold inN; rw [flat_len inC 1 inC_len]; simp
  refine ⟨by rw [hl, Nat.mul_one], .inr ?_⟩
  rcases h.2 with ⟨h1, _⟩ | ⟨b, cap, cur, h1, h2, h3, h4, h5, h6, h7⟩
  · cases h1
  · injection h1 with h1 h8 h9
    subst h9
    refine ⟨b, c, cur, by rw [h1], h2, h3, by simp at h4; omega, h5, h6, ?_⟩
    have := congrArg (List.take (W.length * 1)) h7
    rw [List.take_take, inN_snoc, List.take_left' (by rw [hl, Nat.mul_one])] at this
    rw [← this]
    congr 1
    simp
theorem St.hBw {w : World} {B g l Bw : Nat} {An : Option Addr} {nn cn n : Nat} {lv : List Int} {A : Option Addr} {c : Nat} {W : List Nat} (h : St w B g l Bw An nn cn n lv A c W) : B ≤ w.heap.size := Nat.le_trans h.hg (Nat.le_of_lt h.var.lt)
set_option maxHeartbeats 4000000 in
theorem step_n {w : World} {B g l Bw : Nat} {An : Option Addr} {nn cn : Nat} {lv : List Int} {A : Option Addr} {c : Nat} {W : List Nat} {q : Nat} {N : List Nd} (h : St w B g l Bw An nn cn nn lv A c (W ++ [q])) (hN : Ns w An nn N) (hn : nn ≤ 100000) (hC : Climb N lv (W ++ [q])) (hW : W.length ≤ 500000) {k p r s : Int} (hx : N[q]? = some ⟨k, p, r, s⟩) (m : Nat) (hm : manyS k = m) (hk7 : k ≠ 7) (hf : ∀ x ∈ usesS ⟨k, p, r, s⟩, ∃ q : Nat, x = (q : Int) ∧ q < nn) :
    Calls Try.prog 104 #[.pointer (some ⟨g, 0, none⟩)] w fun en w' => (∃ b, en = .returned (.bool b) ∧ (b = false → ∀ f, ¬ All N f) ∧ (b = true → ∃ (lv' : List Int) (A' : Option Addr) (c' : Nat) (W' : List Nat), St w' B g l Bw An nn cn nn lv' A' c' W' ∧ Climb N lv' W' ∧ leftC lv' W' < leftC lv (W ++ [q]) ∧ W'.length ≤ W.length + 2 ∧ ∀ i : Nat, lv'[i]? = some (-2) → lv[i]? = some (-2))) ∧ Below B w w' := by
  obtain ⟨mm, hmm⟩ : ∃ mm, mm = m := ⟨_, rfl⟩
  subst hmm
  have HM := Lib.hid hm
  have hm3 : mm ≤ 3 := hm ▸ manyS_le k
  have hal : (mm : Int) ≤ 3 := by omega
  have e7 := beq_ff hk7
  have HK7 := Lib.hid hk7
  obtain ⟨L, hL0⟩ : ∃ L, usesS ⟨k, p, r, s⟩ = L := ⟨_, rfl⟩
  have HL0 := Lib.hid hL0
  have HLN : Hid (L.length = mm) := Lib.hid (by rw [← hL0, usesS_length]; exact hm)
  have HL3 : ∀ (j : Nat) (x : Int), j < mm → L[j]? = some x → [Value.int .i64 p, .int .i64 r, .int .i64 s][j]? = some (.int .i64 x) := fun j x h1 h2 => take_at j x (by rw [hm]; exact h1) (by rw [hL0]; exact h2)
  have HFM : Hid (∀ x ∈ L, ∃ q : Nat, x = (q : Int) ∧ q < nn) := Lib.hid (by rw [← hL0]; exact hf)
  clear hm hk7 hf hL0
  have hqn : q < nn := by rw [← hN.1]; exact (List.getElem?_eq_some_iff.1 hx).1
  have hlen : (W ++ [q]).length = W.length + 1 := by simp
  have q3 : IntKind.i64.wrap (((W.length : Nat) : Int) + 1 - 1) = (W.length : Int) := by rw [IntKind.wrap_i64]; omega
  have i1 : (0 : Int) ≤ (W.length : Int) := by omega
  have i2 : (W.length : Int) < (W.length : Int) + 1 := by omega
  obtain ⟨bA, rfl, wl, hcap⟩ := h.last
  obtain ⟨v0, v1, v2⟩ := h.c0
  rw [hlen] at v2
  obtain ⟨bn, offn, rfl, n0b, n0, n1, n2, n3⟩ := hN.2 q _ hx
  have HC := Lib.hid hC
  have HX := Lib.hid hx
  have HNN := Lib.hid hN.1
  clear hC
  go_enter Try.func104, Try.ntmps104
  go_upto_region 2 with fail
  go_cut [4, 5] (fun a b wx => a = .int .i64 0 ∧ b = .pointer (some ⟨w.heap.size, 0, none⟩) ∧ wx = (w.alloc (.cells #[.int .i64 k, .int .i64 p, .int .i64 r, .int .i64 s] 43)).drew)
  case first =>
    have HS : ∀ w', Below w.heap.size w w' → w'.cell? ⟨g, 0, none⟩ = some (.slice (some ⟨bn, offn, none⟩) nn cn) ∧ w'.cell? ⟨g, 2, none⟩ = some (.slice (some ⟨bA, 0, none⟩) (W.length + 1) c) ∧ w'.cell? ⟨bA, W.length, none⟩ = some (.int .i64 (q : Int)) ∧ w'.cell? ⟨bn, offn + q * 4, none⟩ = some (.int .i64 k) ∧ w'.cell? ⟨bn, offn + q * 4 + 1, none⟩ = some (.int .i64 p) ∧ w'.cell? ⟨bn, offn + q * 4 + 2, none⟩ = some (.int .i64 r) ∧ w'.cell? ⟨bn, offn + q * 4 + 3, none⟩ = some (.int .i64 s) := fun w' hb => by
      have g1 := (h.on hb).c0
      rw [hlen] at g1
      obtain ⟨bA', e, wl', _⟩ := (h.on hb).last
      cases e
      obtain ⟨bn', offn', e, m0b, m0, m1, m2, m3⟩ := (hN.on hb).2 q _ hx
      cases e
      exact ⟨g1.1, g1.2.2, wl', m0, m1, m2, m3⟩
    clear v0 v1 v2 wl n0 n1 n2 n3
    go_region_held3 (fun w' => w'.cell? ⟨g, 0, none⟩ = some (.slice (some ⟨bn, offn, none⟩) nn cn) ∧ w'.cell? ⟨g, 2, none⟩ = some (.slice (some ⟨bA, 0, none⟩) (W.length + 1) c) ∧ w'.cell? ⟨bA, W.length, none⟩ = some (.int .i64 (q : Int)) ∧ w'.cell? ⟨bn, offn + q * 4, none⟩ = some (.int .i64 k) ∧ w'.cell? ⟨bn, offn + q * 4 + 1, none⟩ = some (.int .i64 p) ∧ w'.cell? ⟨bn, offn + q * 4 + 2, none⟩ = some (.int .i64 r) ∧ w'.cell? ⟨bn, offn + q * 4 + 3, none⟩ = some (.int .i64 s))
      ((refine HS _ ?_; first | exact (Below.refl _ _).drew | exact ((Below.refl _ _).alloc (Nat.le_refl _) _).drew))
      (fail)
    all_goals go_wp2_with fail
    all_goals go_meet
    all_goals exact ⟨rfl, rfl, rfl⟩
  case rest =>
    obtain ⟨rfl, rfl, rfl⟩ := hcut
    obtain ⟨w1, e_w1⟩ : ∃ w', (w.alloc (.cells #[.int .i64 k, .int .i64 p, .int .i64 r, .int .i64 s] 43)).drew = w' := ⟨_, rfl⟩
    have b1 : Below w.heap.size w w1 := e_w1 ▸ (below_lit _ _).drew
    have z5 : Bx w1 w.heap.size [.int .i64 k, .int .i64 p, .int .i64 r, .int .i64 s] := e_w1 ▸ (Bx.made_k w rfl #[.int .i64 k, .int .i64 p, .int .i64 r, .int .i64 s] 43).on ((Below.refl _ _).drew)
    rw [e_w1]
    clear e_w1 v0 v1 v2 wl n0 n1 n2 n3 n0b
    have z5c0 := z5.2 0 _ rfl
    have z5c1 := z5.2 1 _ rfl
    have z5c2 := z5.2 2 _ rfl
    have z5c3 := z5.2 3 _ rfl
    go_wp2_with fail
    refine (used_as k p r s mm HM.out _).mono ?_
    rintro en w2 ⟨rfl, b⟩
    replace z5 := z5.on b
    have BW := Below.step b1 b
    clear b b1 z5c0 z5c1 z5c2 z5c3
    go_upto_region 4 with fail
    obtain ⟨w3, e_w3⟩ : ∃ w', w2.alloc (.cells #[.int .i64 p, .int .i64 r, .int .i64 s] 137) = w' := ⟨_, rfl⟩
    have z6 : Bx w3 w2.heap.size [.int .i64 p, .int .i64 r, .int .i64 s] := e_w3 ▸ Bx.made_k w2 rfl #[.int .i64 p, .int .i64 r, .int .i64 s] 137
    have b3 : Below w2.heap.size w2 w3 := e_w3 ▸ below_lit _ _
    rw [e_w3]
    clear e_w3
    replace z5 := z5.on b3
    replace BW := Below.step BW b3
    clear b3
    have z5c0 := z5.2 0 _ rfl
    go_wp2_with fail
    go_loopw [4, 41] (fun a i wr => ∃ j : Nat, j ≤ mm ∧ i = .int .i64 j ∧ a = .int .i64 ((overS (Fn lv) ((L.take j).map Int.toNat) : Nat) : Int) ∧ (∀ y ∈ L.take j, Kn lv y.toNat) ∧ Below w3.heap.size w3 wr) (fun _ i _ => mm - (intOf i).toNat)
    case atStart => exact ⟨0, Nat.zero_le _, rfl, rfl, fun y hy => by simp at hy, Below.refl _ _⟩
    case round =>
      clear z5c0
      obtain ⟨j, hj, rfl, rfl, hk, BR⟩ := hrel
      have HK := Lib.hid hk
      clear hk
      have BX := Below.step BW BR
      have h3 := h.on BX
      by_cases hlt : j < mm
      · obtain ⟨x, hxj⟩ := look_ex HLN.out hlt
        have z6c := (z6.on BR).2 j (.int .i64 x) (HL3 j x hlt hxj)
        obtain ⟨pj, ep, hpj⟩ := HFM.out x (List.mem_of_getElem? hxj)
        subst ep
        have HXJ := Lib.hid hxj
        clear hxj
        obtain ⟨y, hy⟩ := look_ex h3.ln hpj
        have cl := (h3.lev.cell pj).trans (ivs_at hy)
        obtain ⟨_, v1, _⟩ := h3.c0
        have HLD : Hid (Leads N q pj) := Lib.hid ⟨_, HX.out, by
          unfold needS
          rw [if_neg HK7.out]
          have := List.mem_map_of_mem (f := Int.toNat) (List.mem_of_getElem? HXJ.out)
          simpa [HL0.out] using this⟩
        rcases HC.out.val pj y hy with rfl | rfl | h0
        · go_wp2_with fail
          refine (await_as h3 pj hpj (by rw [hlen]; omega)).mono ?_
          rintro en w4 ⟨⟨u, rfl⟩, A', c', h4, b4⟩
          go_wp2_with fail
          go_ret
          refine ⟨⟨true, rfl, fun e => (by cases e), fun _ => ⟨_, A', c', _, h4, HC.out.await hy (fun V q' e => ?_), left_await hy, by simp, fun i hi => ?_⟩⟩, (BX.mono h.hBw).trans b4⟩
          · obtain ⟨_, e2⟩ := List.append_inj' e rfl
            injection e2 with e2 _
            subst e2
            exact HLD.out
          · rw [set_at (List.getElem?_eq_some_iff.1 hy).1] at hi
            split at hi
            · injection hi with hi; omega
            · exact hi
        · go_wp2_with fail
          go_ret
          exact ⟨⟨false, rfl, fun _ => HC.out.ring HLD.out hy, fun e => (by cases e)⟩, BX.mono h.hBw⟩
        · obtain ⟨d, rfl⟩ := Int.eq_ofNat_of_zero_le h0
          have hkd : Kn lv pj := ⟨d, hy⟩
          have hd : d < nn := by
            have := lvd_lt HC.out.lvd hkd
            rw [Fn_at hy, HNN.out] at this
            exact this
          have qd : IntKind.i64.wrap ((d : Int) + 1) = (d : Int) + 1 := by rw [IntKind.wrap_i64]; omega
          have e1 : ((d : Int) == -1) = false := by simp only [beq_eq_false_iff_ne, ne_eq]; omega
          have e2 : ((d : Int) == -2) = false := by simp only [beq_eq_false_iff_ne, ne_eq]; omega
          have HFD := Lib.hid (Fn_at hy)
          go_wp2_with fail
          go_roundw
          case rel =>
            refine ⟨j + 1, by omega, by go_num, ?_, fun y hy2 => ?_, BR⟩
            · rw [over_take (Fn lv) HXJ.out, Int.toNat_natCast, HFD.out]
              simp only [List.map_take]
              congr 1
              split <;> omega
            · rw [List.take_add_one, HXJ.out] at hy2
              rcases List.mem_append.1 hy2 with h5 | h5
              · exact HK.out y h5
              · simp at h5
                subst h5
                simpa using hkd
          case measure => simp [intOf]; omega
      · have e9 : L.take j = L := List.take_of_length_le (by rw [HLN.out]; omega)
        rw [e9]
        have HK2 : Hid (∀ y ∈ needS ⟨k, p, r, s⟩, Kn lv y) := Lib.hid fun y hy2 => by
          have := HK.out
          rw [e9] at this
          unfold needS at hy2
          rw [if_neg HK7.out] at hy2
          rw [HL0.out] at hy2; obtain ⟨z, h5, rfl⟩ := List.mem_map.1 hy2; exact this z h5
        obtain ⟨D, hD⟩ : ∃ D, overS (Fn lv) (L.map Int.toNat) = D := ⟨_, rfl⟩
        have HD : Hid (D = overS (Fn lv) (needS ⟨k, p, r, s⟩)) := Lib.hid (by
          unfold needS
          rw [if_neg HK7.out]
          rw [HL0.out]; exact hD.symm)
        rw [hD]
        clear e9 hD
        have hy := (HC.out.wait q).2 (by simp)
        obtain ⟨_, v1, v2⟩ := h3.c0
        obtain ⟨bA', eb, wl, _⟩ := h3.last
        cases eb
        rw [hlen] at v2
        have cl := (h3.lev.cell q).trans (ivs_at hy)
        have fl := h3.lev.free q
        go_upto_region 18 with fail
        obtain ⟨w5, e_w5⟩ : ∃ x, wr.setCell ⟨l, q, none⟩ (.int .i64 (D : Int)) = x := ⟨_, rfl⟩
        have G5 : wr.grownBy w5 (some l) := e_w5 ▸ grown_set wr ⟨l, q, none⟩ (.int .i64 (D : Int))
        have L5 : Own w5 l 3 (ivs (lv.set q (D : Int))) := by rw [← ivs_set, ← e_w5]; exact h3.lev.put q _
        have V5 := h3.var.kept G5 (fun e => h.gl (by injection e))
        have R5 := h3.row.kept G5 (own_ne2 h3.row fun b e => (h3.ag b e).2)
        have B5 : Below B w w5 := (BX.mono h.hBw).trans (e_w5 ▸ (Below.refl B wr).setCell h.hl _)
        have HS : ∀ x, x = wr ∨ x = w5 → x.drew.cell? ⟨g, 1, none⟩ = some (.slice (some ⟨l, 0, none⟩) nn nn) ∧ x.drew.cell? ⟨g, 2, none⟩ = some (.slice (some ⟨bA, 0, none⟩) (W.length + 1) c) ∧ x.drew.cell? ⟨bA, W.length, none⟩ = some (.int .i64 (q : Int)) := fun x hx => by
          rcases hx with rfl | rfl
          · exact ⟨v1, v2, wl⟩
          · have c1 := V5.cell 1
            have c2 := V5.cell 2
            simp only [List.getElem?_cons_succ, List.getElem?_cons_zero] at c1 c2
            rw [hlen] at c2
            obtain ⟨A', c', e, sw, _, hc⟩ := row_at R5
            injection e with e1 e2 e3
            obtain ⟨b, e4, e5, e6⟩ := hc W.length (.int .i64 (q : Int)) (inN_at (by simp))
            rw [← e1] at e4
            cases e4
            exact ⟨c1, c2, e6⟩
        clear v1 v2 wl
        go_region_held3 (fun w' => w'.cell? ⟨g, 1, none⟩ = some (.slice (some ⟨l, 0, none⟩) nn nn) ∧ w'.cell? ⟨g, 2, none⟩ = some (.slice (some ⟨bA, 0, none⟩) (W.length + 1) c) ∧ w'.cell? ⟨bA, W.length, none⟩ = some (.int .i64 (q : Int)))
          ((first | exact HS _ (.inl rfl) | exact HS _ (.inr rfl) | exact HS _ (.inr e_w5)))
          (fail)
        obtain ⟨w6, e_w6⟩ : ∃ x, w5.drew = x := ⟨_, rfl⟩
        have B6 : Below B w w6 := e_w6 ▸ B5.drew
        have V6 : Own w6 g 130 [.slice (some ⟨bn, offn, none⟩) nn cn, .slice (some ⟨l, 0, none⟩) nn nn, .slice (some ⟨bA, 0, none⟩) (W ++ [q]).length c] := by subst e_w6; exact V5
        have L6 : Own w6 l 3 (ivs (lv.set q (D : Int))) := by subst e_w6; exact L5
        have R6 : w6.ownsRow Bw 3 1 (.slice (some ⟨bA, 0, none⟩) (W ++ [q]).length c) (W ++ [q]).length (inN (W ++ [q])) := by subst e_w6; exact R5
        have S6 : Bw ≤ w6.heap.size := by subst e_w6; exact Nat.le_trans h3.bw G5.size
        rw [e_w6]
        clear e_w6 e_w5 HS cl fl
        have d2 := V6.cell 2
        have f2 := V6.free 2
        simp only [List.getElem?_cons_succ, List.getElem?_cons_zero] at d2
        rw [hlen] at d2 V6
        have hcc : (W.length : Int) ≤ (c : Int) := by omega
        go_wp2_with fail
        have V7 := V6.put 2 (.slice (some ⟨bA, 0, none⟩) W.length c)
        have G7 := grown_set w6 ⟨g, 2, none⟩ (.slice (some ⟨bA, 0, none⟩) W.length c)
        have R7 := row_pop R6
        have hag : ∀ b, (some ⟨bA, 0, none⟩ : Option Addr) = some ⟨b, 0, none⟩ → b ≠ g := fun b e => (h3.ag b e).1
        go_ret
        refine ⟨⟨true, rfl, fun e => (by cases e), fun _ => ⟨_, _, c, W, ⟨?_, L6.kept G7 (fun e => h.gl (by injection e with e; exact e.symm)), R7.kept G7 (own_ne2 R7 hag), h.hg, h.hl, h.gl, h.gw, h.lw, Nat.le_trans S6 G7.size, by rw [List.length_set]; exact h3.ln⟩, HC.out.done HX.out HK2.out HD.out, left_done hy, by omega, fun i hi => ?_⟩⟩, B6.setCell h.hg _⟩
        · simpa using V7
        · rw [set_at (List.getElem?_eq_some_iff.1 hy).1] at hi
          split at hi
          · injection hi with hi; omega
          · exact hi
set_option maxHeartbeats 4000000 in
theorem step_7 {w : World} {B g l Bw : Nat} {An : Option Addr} {nn cn : Nat} {lv : List Int} {A : Option Addr} {c : Nat} {W : List Nat} {q : Nat} {N : List Nd} (h : St w B g l Bw An nn cn nn lv A c (W ++ [q])) (hN : Ns w An nn N) (hn : nn ≤ 100000) (hC : Climb N lv (W ++ [q])) (hW : W.length ≤ 500000) {k p r s : Int} (hx : N[q]? = some ⟨k, p, r, s⟩) (hk7 : k = 7) :
    Calls Try.prog 104 #[.pointer (some ⟨g, 0, none⟩)] w fun en w' => (∃ b, en = .returned (.bool b) ∧ (b = false → ∀ f, ¬ All N f) ∧ (b = true → ∃ (lv' : List Int) (A' : Option Addr) (c' : Nat) (W' : List Nat), St w' B g l Bw An nn cn nn lv' A' c' W' ∧ Climb N lv' W' ∧ leftC lv' W' < leftC lv (W ++ [q]) ∧ W'.length ≤ W.length + 2 ∧ ∀ i : Nat, lv'[i]? = some (-2) → lv[i]? = some (-2))) ∧ Below B w w' := by
  obtain ⟨mm, hm⟩ : ∃ mm, manyS k = mm := ⟨_, rfl⟩
  have HM := Lib.hid hm
  have e7 := beq_tt hk7
  have HK7 := Lib.hid hk7
  obtain ⟨L, hL0⟩ : ∃ L : List Int, L = [] := ⟨_, rfl⟩
  have HL0 := Lib.hid hL0
  have HLN : Hid (L.length = 0) := Lib.hid (by rw [hL0]; rfl)
  clear hm hk7 hL0
  have hqn : q < nn := by rw [← hN.1]; exact (List.getElem?_eq_some_iff.1 hx).1
  have hlen : (W ++ [q]).length = W.length + 1 := by simp
  have q3 : IntKind.i64.wrap (((W.length : Nat) : Int) + 1 - 1) = (W.length : Int) := by rw [IntKind.wrap_i64]; omega
  have i1 : (0 : Int) ≤ (W.length : Int) := by omega
  have i2 : (W.length : Int) < (W.length : Int) + 1 := by omega
  obtain ⟨bA, rfl, wl, hcap⟩ := h.last
  obtain ⟨v0, v1, v2⟩ := h.c0
  rw [hlen] at v2
  obtain ⟨bn, offn, rfl, n0b, n0, n1, n2, n3⟩ := hN.2 q _ hx
  have HC := Lib.hid hC
  have HX := Lib.hid hx
  have HNN := Lib.hid hN.1
  clear hC
  go_enter Try.func104, Try.ntmps104
  go_upto_region 2 with fail
  go_cut [4, 5] (fun a b wx => a = .int .i64 0 ∧ b = .pointer (some ⟨w.heap.size, 0, none⟩) ∧ wx = (w.alloc (.cells #[.int .i64 k, .int .i64 p, .int .i64 r, .int .i64 s] 43)).drew)
  case first =>
    have HS : ∀ w', Below w.heap.size w w' → w'.cell? ⟨g, 0, none⟩ = some (.slice (some ⟨bn, offn, none⟩) nn cn) ∧ w'.cell? ⟨g, 2, none⟩ = some (.slice (some ⟨bA, 0, none⟩) (W.length + 1) c) ∧ w'.cell? ⟨bA, W.length, none⟩ = some (.int .i64 (q : Int)) ∧ w'.cell? ⟨bn, offn + q * 4, none⟩ = some (.int .i64 k) ∧ w'.cell? ⟨bn, offn + q * 4 + 1, none⟩ = some (.int .i64 p) ∧ w'.cell? ⟨bn, offn + q * 4 + 2, none⟩ = some (.int .i64 r) ∧ w'.cell? ⟨bn, offn + q * 4 + 3, none⟩ = some (.int .i64 s) := fun w' hb => by
      have g1 := (h.on hb).c0
      rw [hlen] at g1
      obtain ⟨bA', e, wl', _⟩ := (h.on hb).last
      cases e
      obtain ⟨bn', offn', e, m0b, m0, m1, m2, m3⟩ := (hN.on hb).2 q _ hx
      cases e
      exact ⟨g1.1, g1.2.2, wl', m0, m1, m2, m3⟩
    clear v0 v1 v2 wl n0 n1 n2 n3
    go_region_held3 (fun w' => w'.cell? ⟨g, 0, none⟩ = some (.slice (some ⟨bn, offn, none⟩) nn cn) ∧ w'.cell? ⟨g, 2, none⟩ = some (.slice (some ⟨bA, 0, none⟩) (W.length + 1) c) ∧ w'.cell? ⟨bA, W.length, none⟩ = some (.int .i64 (q : Int)) ∧ w'.cell? ⟨bn, offn + q * 4, none⟩ = some (.int .i64 k) ∧ w'.cell? ⟨bn, offn + q * 4 + 1, none⟩ = some (.int .i64 p) ∧ w'.cell? ⟨bn, offn + q * 4 + 2, none⟩ = some (.int .i64 r) ∧ w'.cell? ⟨bn, offn + q * 4 + 3, none⟩ = some (.int .i64 s))
      ((refine HS _ ?_; first | exact (Below.refl _ _).drew | exact ((Below.refl _ _).alloc (Nat.le_refl _) _).drew))
      (fail)
    all_goals go_wp2_with fail
    all_goals go_meet
    all_goals exact ⟨rfl, rfl, rfl⟩
  case rest =>
    obtain ⟨rfl, rfl, rfl⟩ := hcut
    obtain ⟨w1, e_w1⟩ : ∃ w', (w.alloc (.cells #[.int .i64 k, .int .i64 p, .int .i64 r, .int .i64 s] 43)).drew = w' := ⟨_, rfl⟩
    have b1 : Below w.heap.size w w1 := e_w1 ▸ (below_lit _ _).drew
    have z5 : Bx w1 w.heap.size [.int .i64 k, .int .i64 p, .int .i64 r, .int .i64 s] := e_w1 ▸ (Bx.made_k w rfl #[.int .i64 k, .int .i64 p, .int .i64 r, .int .i64 s] 43).on ((Below.refl _ _).drew)
    rw [e_w1]
    clear e_w1 v0 v1 v2 wl n0 n1 n2 n3 n0b
    have z5c0 := z5.2 0 _ rfl
    have z5c1 := z5.2 1 _ rfl
    have z5c2 := z5.2 2 _ rfl
    have z5c3 := z5.2 3 _ rfl
    go_wp2_with fail
    refine (used_as k p r s mm HM.out _).mono ?_
    rintro en w2 ⟨rfl, b⟩
    replace z5 := z5.on b
    have BW := Below.step b1 b
    clear b b1 z5c0 z5c1 z5c2 z5c3
    go_upto_region 4 with fail
    obtain ⟨w3, e_w3⟩ : ∃ w', w2.alloc (.cells #[.int .i64 p, .int .i64 r, .int .i64 s] 137) = w' := ⟨_, rfl⟩
    have z6 : Bx w3 w2.heap.size [.int .i64 p, .int .i64 r, .int .i64 s] := e_w3 ▸ Bx.made_k w2 rfl #[.int .i64 p, .int .i64 r, .int .i64 s] 137
    have b3 : Below w2.heap.size w2 w3 := e_w3 ▸ below_lit _ _
    rw [e_w3]
    clear e_w3
    replace z5 := z5.on b3
    replace BW := Below.step BW b3
    clear b3
    have z5c0 := z5.2 0 _ rfl
    go_wp2_with fail
    go_loopw [4, 41] (fun a i wr => ∃ j : Nat, j ≤ 0 ∧ i = .int .i64 j ∧ a = .int .i64 ((overS (Fn lv) ((L.take j).map Int.toNat) : Nat) : Int) ∧ (∀ y ∈ L.take j, Kn lv y.toNat) ∧ Below w3.heap.size w3 wr) (fun _ i _ => 0 - (intOf i).toNat)
    case atStart => exact ⟨0, Nat.zero_le _, rfl, rfl, fun y hy => by simp at hy, Below.refl _ _⟩
    case round =>
      clear z5c0
      obtain ⟨j, hj, rfl, rfl, hk, BR⟩ := hrel
      have HK := Lib.hid hk
      clear hk
      have BX := Below.step BW BR
      have h3 := h.on BX
      by_cases hlt : j < 0
      · exact absurd hlt (by omega)
      · have e9 : L.take j = L := List.take_of_length_le (by rw [HLN.out]; omega)
        rw [e9]
        have HK2 : Hid (∀ y ∈ needS ⟨k, p, r, s⟩, Kn lv y) := Lib.hid fun y hy2 => by
          have := HK.out
          rw [e9] at this
          unfold needS at hy2
          rw [if_pos HK7.out] at hy2
          cases hy2
        obtain ⟨D, hD⟩ : ∃ D, overS (Fn lv) (L.map Int.toNat) = D := ⟨_, rfl⟩
        have HD : Hid (D = overS (Fn lv) (needS ⟨k, p, r, s⟩)) := Lib.hid (by
          unfold needS
          rw [if_pos HK7.out]
          rw [← hD, HL0.out]; rfl)
        rw [hD]
        clear e9 hD
        have hy := (HC.out.wait q).2 (by simp)
        obtain ⟨_, v1, v2⟩ := h3.c0
        obtain ⟨bA', eb, wl, _⟩ := h3.last
        cases eb
        rw [hlen] at v2
        have cl := (h3.lev.cell q).trans (ivs_at hy)
        have fl := h3.lev.free q
        go_upto_region 18 with fail
        obtain ⟨w5, e_w5⟩ : ∃ x, wr.setCell ⟨l, q, none⟩ (.int .i64 (D : Int)) = x := ⟨_, rfl⟩
        have G5 : wr.grownBy w5 (some l) := e_w5 ▸ grown_set wr ⟨l, q, none⟩ (.int .i64 (D : Int))
        have L5 : Own w5 l 3 (ivs (lv.set q (D : Int))) := by rw [← ivs_set, ← e_w5]; exact h3.lev.put q _
        have V5 := h3.var.kept G5 (fun e => h.gl (by injection e))
        have R5 := h3.row.kept G5 (own_ne2 h3.row fun b e => (h3.ag b e).2)
        have B5 : Below B w w5 := (BX.mono h.hBw).trans (e_w5 ▸ (Below.refl B wr).setCell h.hl _)
        have HS : ∀ x, x = wr ∨ x = w5 → x.drew.cell? ⟨g, 1, none⟩ = some (.slice (some ⟨l, 0, none⟩) nn nn) ∧ x.drew.cell? ⟨g, 2, none⟩ = some (.slice (some ⟨bA, 0, none⟩) (W.length + 1) c) ∧ x.drew.cell? ⟨bA, W.length, none⟩ = some (.int .i64 (q : Int)) := fun x hx => by
          rcases hx with rfl | rfl
          · exact ⟨v1, v2, wl⟩
          · have c1 := V5.cell 1
            have c2 := V5.cell 2
            simp only [List.getElem?_cons_succ, List.getElem?_cons_zero] at c1 c2
            rw [hlen] at c2
            obtain ⟨A', c', e, sw, _, hc⟩ := row_at R5
            injection e with e1 e2 e3
            obtain ⟨b, e4, e5, e6⟩ := hc W.length (.int .i64 (q : Int)) (inN_at (by simp))
            rw [← e1] at e4
            cases e4
            exact ⟨c1, c2, e6⟩
        clear v1 v2 wl
        go_region_held3 (fun w' => w'.cell? ⟨g, 1, none⟩ = some (.slice (some ⟨l, 0, none⟩) nn nn) ∧ w'.cell? ⟨g, 2, none⟩ = some (.slice (some ⟨bA, 0, none⟩) (W.length + 1) c) ∧ w'.cell? ⟨bA, W.length, none⟩ = some (.int .i64 (q : Int)))
          ((first | exact HS _ (.inl rfl) | exact HS _ (.inr rfl) | exact HS _ (.inr e_w5)))
          (fail)
        obtain ⟨w6, e_w6⟩ : ∃ x, w5.drew = x := ⟨_, rfl⟩
        have B6 : Below B w w6 := e_w6 ▸ B5.drew
        have V6 : Own w6 g 130 [.slice (some ⟨bn, offn, none⟩) nn cn, .slice (some ⟨l, 0, none⟩) nn nn, .slice (some ⟨bA, 0, none⟩) (W ++ [q]).length c] := by subst e_w6; exact V5
        have L6 : Own w6 l 3 (ivs (lv.set q (D : Int))) := by subst e_w6; exact L5
        have R6 : w6.ownsRow Bw 3 1 (.slice (some ⟨bA, 0, none⟩) (W ++ [q]).length c) (W ++ [q]).length (inN (W ++ [q])) := by subst e_w6; exact R5
        have S6 : Bw ≤ w6.heap.size := by subst e_w6; exact Nat.le_trans h3.bw G5.size
        rw [e_w6]
        clear e_w6 e_w5 HS cl fl
        have d2 := V6.cell 2
        have f2 := V6.free 2
        simp only [List.getElem?_cons_succ, List.getElem?_cons_zero] at d2
        rw [hlen] at d2 V6
        have hcc : (W.length : Int) ≤ (c : Int) := by omega
        go_wp2_with fail
        have V7 := V6.put 2 (.slice (some ⟨bA, 0, none⟩) W.length c)
        have G7 := grown_set w6 ⟨g, 2, none⟩ (.slice (some ⟨bA, 0, none⟩) W.length c)
        have R7 := row_pop R6
        have hag : ∀ b, (some ⟨bA, 0, none⟩ : Option Addr) = some ⟨b, 0, none⟩ → b ≠ g := fun b e => (h3.ag b e).1
        go_ret
        refine ⟨⟨true, rfl, fun e => (by cases e), fun _ => ⟨_, _, c, W, ⟨?_, L6.kept G7 (fun e => h.gl (by injection e with e; exact e.symm)), R7.kept G7 (own_ne2 R7 hag), h.hg, h.hl, h.gl, h.gw, h.lw, Nat.le_trans S6 G7.size, by rw [List.length_set]; exact h3.ln⟩, HC.out.done HX.out HK2.out HD.out, left_done hy, by omega, fun i hi => ?_⟩⟩, B6.setCell h.hg _⟩
        · simpa using V7
        · rw [set_at (List.getElem?_eq_some_iff.1 hy).1] at hi
          split at hi
          · injection hi with hi; omega
          · exact hi
/-- ONE STEP. -/
theorem step_as {w : World} {B g l Bw : Nat} {An : Option Addr} {nn cn : Nat} {lv : List Int} {A : Option Addr} {c : Nat} {W : List Nat} {q : Nat} {N : List Nd} (h : St w B g l Bw An nn cn nn lv A c (W ++ [q])) (hN : Ns w An nn N) (hn : nn ≤ 100000) (hC : Climb N lv (W ++ [q])) (hW : W.length ≤ 500000) (hf : N.all (formedS nn) = true) :
    Calls Try.prog 104 #[.pointer (some ⟨g, 0, none⟩)] w fun en w' => (∃ b, en = .returned (.bool b) ∧ (b = false → ∀ f, ¬ All N f) ∧ (b = true → ∃ (lv' : List Int) (A' : Option Addr) (c' : Nat) (W' : List Nat), St w' B g l Bw An nn cn nn lv' A' c' W' ∧ Climb N lv' W' ∧ leftC lv' W' < leftC lv (W ++ [q]) ∧ W'.length ≤ W.length + 2 ∧ ∀ i : Nat, lv'[i]? = some (-2) → lv[i]? = some (-2))) ∧ Below B w w' := by
  have hq : q < N.length := by
    have := (List.getElem?_eq_some_iff.1 ((hC.wait q).2 (by simp))).1
    rw [hC.len] at this
    exact this
  obtain ⟨⟨k, p, r, s⟩, hx⟩ : ∃ x, N[q]? = some x := ⟨N[q], List.getElem?_eq_getElem hq⟩
  by_cases hk : k = 7
  · exact step_7 h hN hn hC hW hx hk
  · refine step_n h hN hn hC hW hx _ rfl hk fun x hxm => ?_
    have h1 := List.all_eq_true.1 hf _ (List.mem_of_getElem? hx)
    unfold formedS at h1
    have h2 := (Bool.and_eq_true_iff.1 (Bool.and_eq_true_iff.1 (Bool.and_eq_true_iff.1 h1).2).2).1
    have h3 := List.all_eq_true.1 h2 x hxm
    unfold placeS at h3
    obtain ⟨h4, h5⟩ := Bool.and_eq_true_iff.1 h3
    have h4 := of_decide_eq_true h4
    have h5 := of_decide_eq_true h5
    exact ⟨x.toNat, by omega, by omega⟩
end Go.Proofs.Ytcehklnonhalhaa
