
/-
  vlex: the walk of VlexBack.
-/
import Derived.Test.YtkoacjnffbfgiaaDoorElm
import Derived.Test.YtkoacjnffbfgiaaDoorLex
import Derived.Deep.CutBlock
import Derived.Lib.OthersKept
namespace Go.Proofs.YtkoacjnffbfgiaaDoor
open Go.RowKit
set_option linter.unusedVariables false

attribute [local go_sem ↓] tok_eql tok_neq
/-- two boxes made, in either order. -/
theorem own2 (w : World) (L M : List Value) (T : TypeId) : Own ((w.alloc (.cells L.toArray T)).alloc (.cells M.toArray T)).drew w.heap.size T L ∧ Own ((w.alloc (.cells L.toArray T)).alloc (.cells M.toArray T)).drew (w.heap.size + 1) T M ∧ Below w.heap.size w ((w.alloc (.cells L.toArray T)).alloc (.cells M.toArray T)).drew := by
  have h1 := Own.made w T L
  have h2 := Own.made (w.alloc (.cells L.toArray T)) T M
  have hs : (w.alloc (.cells L.toArray T)).heap.size = w.heap.size + 1 := by simp
  have b2 : Below (w.alloc (.cells L.toArray T)).heap.size (w.alloc (.cells L.toArray T)) ((w.alloc (.cells L.toArray T)).alloc (.cells M.toArray T)) := (Below.refl _ _).alloc (Nat.le_refl _) _
  rw [hs] at h2
  exact ⟨(h1.below b2 h1.lt).below (Below.refl _ _).drew (h1.below b2 h1.lt).lt, h2.below (Below.refl _ _).drew h2.lt, (Below.step ((Below.refl _ _).alloc (Nat.le_refl _) _) b2).drew⟩
theorem Own.apart {w : World} {g s : Nat} {t : TypeId} {cs : List Value} (h : Own w g t cs) (hs : g ≠ s) (i : Nat) (v : Value) : Own (w.setCell ⟨s, i, none⟩ v) g t cs := (Below.heap_setCell w ⟨s, i, none⟩ v g hs).trans h
/-- a cell's value, whatever it is. -/
def valAt (w : World) (s i : Nat) : Value := (w.cell? ⟨s, i, none⟩).getD (.bool false)
theorem valAt_of {w : World} {s i : Nat} {v : Value} (h : w.cell? ⟨s, i, none⟩ = some v) : w.cell? ⟨s, i, none⟩ = some (valAt w s i) := by unfold valAt; rw [h]; rfl
/-- two boxes of the round's own, whatever their last cells hold. -/
def Gw (wr : World) (p q : Nat) (T : TypeId) (K X V : Value) (w : World) : Prop := Below wr.heap.size wr w ∧ (∃ v, Own w p T [K, X, V, v]) ∧ ∃ v, Own w q T [K, X, V, v]
theorem Gw.drew {wr : World} {p q : Nat} {T : TypeId} {K X V : Value} {w : World} (h : Gw wr p q T K X V w) : Gw wr p q T K X V w.drew := by
  obtain ⟨h1, ⟨v, h2⟩, u, h3⟩ := h
  exact ⟨h1.drew, ⟨v, h2.below (Below.refl _ _).drew h2.lt⟩, u, h3.below (Below.refl _ _).drew h3.lt⟩
theorem Gw.sp {wr : World} {p q : Nat} {T : TypeId} {K X V : Value} {w : World} (hne : p ≠ q) (hp : wr.heap.size ≤ p) (z : Value) (h : Gw wr p q T K X V w) : Gw wr p q T K X V (w.setCell ⟨p, 3, none⟩ z) := by
  obtain ⟨h1, ⟨v, h2⟩, u, h3⟩ := h
  exact ⟨h1.setCell (p := ⟨p, 3, none⟩) hp z, ⟨z, h2.put 3 z⟩, u, h3.apart (fun e => hne e.symm) 3 z⟩
theorem Gw.sq {wr : World} {p q : Nat} {T : TypeId} {K X V : Value} {w : World} (hne : p ≠ q) (hq : wr.heap.size ≤ q) (z : Value) (h : Gw wr p q T K X V w) : Gw wr p q T K X V (w.setCell ⟨q, 3, none⟩ z) := by
  obtain ⟨h1, ⟨v, h2⟩, u, h3⟩ := h
  exact ⟨h1.setCell (p := ⟨q, 3, none⟩) hq z, ⟨v, h2.apart hne 3 z⟩, z, h3.put 3 z⟩
theorem sorted_at {T : List Tk} (h : T.Pairwise fun s t => s.l ≤ t.l) {i : Nat} {x y : Tk} (hx : T[i]? = some x) (hy : T[i + 1]? = some y) : x.l ≤ y.l := by
  obtain ⟨h1, e1⟩ := List.getElem?_eq_some_iff.1 hx
  obtain ⟨h2, e2⟩ := List.getElem?_eq_some_iff.1 hy
  have := (List.pairwise_iff_getElem.1 h) i (i + 1) h1 h2 (Nat.lt_succ_self _)
  rw [e1, e2] at this
  exact this
set_option maxHeartbeats 8000000 in
set_option maxRecDepth 10000 in
theorem vlexBack_as (s c : ByteArray) (w : World) (ht : Tn w) : Calls Tryd.prog 4 #[.string s, .string c] w fun e w' => e = .returned (.bool true) ∧ Below w.heap.size w w' := by
  go_enter Tryd.func4, Tryd.ntmps4
  go_wp2_with fail
  refine (awake_any _ ht).mono ?_
  rintro en w1 ⟨rfl, BW⟩
  by_cases ha : (4096 : Int) < (s.size : Int)
  case pos =>
    go_wp2_with fail
    go_ret
    exact ⟨rfl, BW⟩
  by_cases hb : (100 : Int) < (c.size : Int)
  case pos =>
    go_wp2_with fail
    go_ret
    exact ⟨rfl, BW⟩
  obtain ⟨R, h1⟩ : ∃ R, lexA 1 0 s.data.toList = R := ⟨_, rfl⟩
  have H1 := Lib.hid h1
  clear h1
  have ha2 : s.size ≤ 900000 := by omega
  go_wp2_with fail
  refine (lex_as s ha2 R H1.out _).mono ?_
  rintro en w2 ⟨b2, hP1⟩
  replace BW := Below.step BW b2
  clear b2
  cases R with
  | error e =>
    have hP1 : en = .returned (.tuple #[.slice none 0 0, .int .i64 (e : Int), .int .i64 2]) := hP1
    subst hP1
    have he := (lex_lines.1 : ∀ e, _) e H1.out
    have he2 : (1 : Int) ≤ (e : Int) := by omega
    go_wp2_with fail
    go_ret
    exact ⟨rfl, BW⟩
  | ok T =>
    obtain ⟨A, k, cc, hen, hT, sw⟩ := hP1
    subst hen
    have hcs : c.size ≤ 100 := by omega
    have hcI : (c.size : Int) ≤ 100 := by omega
    go_upto_block 0 with fail
    go_cut [1] (fun v wx => ∃ m : ByteArray, v = .string m ∧ Hid (∀ x ∈ m.data.toList, x ≠ 10) ∧ m.size ≤ 100 ∧ Below w2.heap.size w2 wx)
    case first =>
      go_wp2_with fail
      go_loopw [1] (fun v1 wr => ∃ pos, v1 = .string c ∧ wr.heap[w2.heap.size]? = some (.stringIter c pos) ∧ pos ≤ c.size ∧ Hid (NoL c pos) ∧ Below w2.heap.size w2 wr) (fun _ wr => c.size - wr.iterPos w2.heap.size)
      case atStart => exact ⟨0, rfl, World.iter_heap w2 c 0, Nat.zero_le _, Lib.hid (fun x hx => by simp at hx), (Below.refl _ _).alloc (Nat.le_refl _) _⟩
      case round =>
        obtain ⟨pos, rfl, hit, hpc, HNL, BL⟩ := hrel
        have hsz : w2.heap.size < wr.heap.size := (Array.getElem?_eq_some_iff.1 hit).1
        by_cases hp : pos < c.size
        · have hnx : ∀ ty, (Instr.next (.pointer (some ⟨w2.heap.size, 0, none⟩)) true ty).run Tryd.prog wr = _ := fun ty => Lib.run_next_any_at wr w2.heap.size c pos ty hit hp
          have hit2 := Lib.iterAt_heap wr w2.heap.size c pos (pos + (Utf8.decode c pos).2) hit
          have BL2 := Lib.below_iterAt BL (k := w2.heap.size) (Nat.le_refl _) c (pos + (Utf8.decode c pos).2)
          have hwd := decode_pos c pos hp
          have hwe := decode_end c pos hp
          have hm0 : wr.iterPos w2.heap.size = pos := by simp [World.iterPos, hit]
          have hp0 : (0 : Int) ≤ (pos : Int) := by omega
          have hp1 : (pos : Int) < (c.size : Int) := by omega
          by_cases h10 : c[pos] = 10
          · have hx1 : ((c[pos].toNat : Int) == 10) = true := by rw [h10]; rfl
            have hp2 : (pos : Int) ≤ (c.size : Int) := by omega
            clear hwd hwe hit hit2 hm0
            go_wp2_with fail
            go_meet
            exact ⟨_, rfl, Lib.hid (by rw [head_list]; exact HNL.out), by rw [← size_list, head_list, List.length_take, size_list]; omega, BL2⟩
          · have hx1 : ((c[pos].toNat : Int) == 10) = false := by
              rw [beq_eq_false_iff_ne]
              intro e
              exact h10 (UInt8.toNat_inj.1 (by show c[pos].toNat = 10; omega))
            have HN2 := Lib.hid (HNL.out.step hp h10)
            go_wp2_with fail
            go_roundw
            case rel => exact ⟨_, rfl, hit2, hwe, HN2, BL2⟩
            case measure =>
              simp only [World.iterPos, hit, hit2]
              omega
        · have hnx : ∀ ty, (Instr.next (.pointer (some ⟨w2.heap.size, 0, none⟩)) true ty).run Tryd.prog wr = _ := fun ty => Lib.run_next_end_at wr w2.heap.size c pos ty hit hp
          have HNF : Hid (∀ x ∈ c.data.toList, x ≠ 10) := Lib.hid (by
            have := HNL.out
            unfold NoL at this
            rwa [List.take_of_length_le (by rw [size_list]; omega)] at this)
          go_wp2_with fail
          go_meet
          exact ⟨_, rfl, HNF, hcs, BL⟩
    case rest =>
      obtain ⟨m, rfl, HM, hm, b⟩ := hcut
      apply_assumption
      go_step
      replace hT := hT.on b
      replace BW := Below.step BW b
      have hkl := hT.1
      have HOK := Lib.hid (lex_ok H1.out)
      have HSUM : Hid (sumL T ≤ 4096) := Lib.hid (by
        have := (lex_sum H1.out).1
        rw [size_list] at this
        omega)
      have hk : k ≤ 4096 := by have := len_sum HOK.out; have := HSUM.out; omega
      have HKL := Lib.hid hkl
      clear b hkl
      obtain ⟨w4, rfl⟩ : ∃ z, z = wc := ⟨_, rfl⟩
      go_wp2_with fail
      go_loopw [9, 10, 61] (fun fv tv iv wr => ∃ (j : Nat) (f t : ByteArray), j ≤ k ∧ iv = .int .i64 j ∧ fv = .string f ∧ tv = .string t ∧ Hid (f.data.toList = flatS (T.take j)) ∧ Hid (t.data.toList = tallS m.data.toList (T.take j)) ∧ Below w4.heap.size w4 wr) (fun _ _ i _ => k - (intOf i).toNat)
      case atStart => exact ⟨0, _, _, Nat.zero_le _, rfl, rfl, rfl, Lib.hid rfl, Lib.hid rfl, Below.refl _ _⟩
      case round =>
        obtain ⟨j, f, t, hj, rfl, rfl, rfl, HF, HT, BL⟩ := hrel
        have hf : f.size ≤ 9000 := by
          rw [← size_list, HF.out, flat_size, List.length_take]
          have := sum_take T j
          have := HSUM.out
          omega
        have ht2 : t.size ≤ 500000 := by
          rw [← size_list, HT.out, tall_size, List.length_take, size_list]
          have h1 := sum_take T j
          have h2 := HSUM.out
          have h3 : min j T.length * (m.size + 3) ≤ 4096 * 103 := Nat.mul_le_mul (by omega) (by omega)
          omega
        by_cases hlt : j < k
        · have hj0 : (0 : Int) ≤ (j : Int) := by omega
          have hj1 : (j : Int) < (k : Int) := by omega
          obtain ⟨x, hx⟩ : ∃ x, T[j]? = some x := ⟨_, List.getElem?_eq_getElem (by rw [HKL.out]; exact hlt)⟩
          obtain ⟨b3, off3, eA3, z0, z1, z2, z3, z4⟩ := (hT.on BL).2 j x hx
          subst eA3
          have HXX := Lib.hid hx
          clear hx
          obtain ⟨tx, htx⟩ : ∃ z : ByteArray, (⟨x.t.toArray⟩ : ByteArray) = z := ⟨_, rfl⟩
          have HTX : Hid (tx.data.toList = x.t) := Lib.hid (by rw [← htx])
          have hts : tx.size ≤ 4096 := by
            rw [← size_list, HTX.out]
            have h1 := sum_take T (j + 1)
            have h2 := HSUM.out
            rw [List.take_add_one, HXX.out] at h1
            have h3 : sumL (T.take j ++ (some x).toList) = sumL (T.take j) + x.t.length := by unfold sumL; simp
            omega
          rw [htx] at z2
          clear htx
          go_upto_region 17 with fail
          obtain ⟨w5, e5, Z5, b5, s5⟩ := mk1o wr [.int .i64 (x.k : Int), .string tx, .int .i64 (x.v : Int), .int .i64 (x.l : Int)] 32
          rw [e5]
          clear e5 z1 z2 z3 z4 s5
          have BL5 := Below.step BL b5
          obtain ⟨x0, f0, x1, f1, x2, f2, x3, f3⟩ := Z5.y8
          clear b5
          have n1 : ¬ 9223372036854775807 < tx.size + 1 := by omega
          have n2 : ¬ 9223372036854775807 < f.size + (tx.size + 1) := by omega
          have n3 : ¬ 9223372036854775807 < tx.size + 2 := by omega
          have n4 : ¬ 9223372036854775807 < tx.size + 2 + m.size := by omega
          have n5 : ¬ 9223372036854775807 < tx.size + 2 + m.size + 1 := by omega
          have n6 : ¬ 9223372036854775807 < t.size + (tx.size + 2 + m.size + 1) := by omega
          have HF2 : Hid ((f ++ (tx ++ ⟨#[32]⟩)).data.toList = flatS (T.take (j + 1))) := Lib.hid (by
            rw [str_cat, str_cat, HF.out, HTX.out, flat_snoc HXX.out])
          have HT2 : Hid ((t ++ (tx ++ ⟨#[47, 47]⟩ ++ m ++ ⟨#[10]⟩)).data.toList = tallS m.data.toList (T.take (j + 1))) := Lib.hid (by
            rw [str_cat, str_cat, str_cat, str_cat, HT.out, HTX.out, tall_snoc HXX.out]
            simp)
          go_wp2_with fail
          go_roundw
          case rel => exact ⟨j + 1, _, _, by omega, by go_num, rfl, rfl, HF2, HT2, BL5⟩
          case measure => simp [intOf]; omega
        · have hge : ¬ (j : Int) < (k : Int) := by omega
          have hjk : T.take j = T := List.take_of_length_le (by rw [HKL.out]; omega)
          have HF2 : Hid (lexA 1 0 f.data.toList = .ok (T.map (·.at 1))) := Lib.hid (by rw [HF.out, hjk]; exact lex_flat 1 HOK.out)
          have HT2 : Hid (lexA 1 0 t.data.toList = .ok (tallT 1 T)) := Lib.hid (by rw [HT.out, hjk]; exact lex_tall HM.out 1 HOK.out)
          clear hjk HF HT hlt hj
          go_wp2_with fail
          refine (lex_as f (by omega) _ HF2.out _).mono ?_
          rintro en w5 ⟨b5, A5, k5, c5, hen, hT5, sw5⟩
          subst hen
          have BL5 := Below.step BL b5
          clear b5
          go_wp2_with fail
          refine (lex_as t (by omega) _ HT2.out _).mono ?_
          rintro en w6 ⟨b6, A6, k6, c6, hen, hT6, sw6⟩
          subst hen
          replace hT5 := hT5.on b6
          have BL6 := Below.step BL5 b6
          replace hT := hT.on BL6
          have BW6 := Below.step BW BL6
          have hk5 : k = k5 := by rw [← hT5.1, List.length_map, HKL.out]
          have hk6 : k = k6 := by rw [← hT6.1, tall_len, HKL.out]
          subst hk5
          subst hk6
          clear b6 BL5 BL6 BL BW hf ht2 HF2 HT2 hm ha hb ha2 hcs hcI
          go_wp2_with fail
          obtain ⟨wo, rfl⟩ : ∃ z, z = w6 := ⟨_, rfl⟩
          go_loopw [113] (fun iv wr => ∃ i : Nat, i ≤ k ∧ iv = .int .i64 i ∧ Below wo.heap.size wo wr) (fun i _ => k - (intOf i).toNat)
          case atStart => exact ⟨0, Nat.zero_le _, rfl, Below.refl _ _⟩
          case round =>
            obtain ⟨i, hi, rfl, BL⟩ := hrel
            by_cases hlt : i < k
            · have hi0 : (0 : Int) ≤ (i : Int) := by omega
              have hi1 : (i : Int) < (k : Int) := by omega
              obtain ⟨x, hx⟩ : ∃ x, T[i]? = some x := ⟨_, List.getElem?_eq_getElem (by rw [HKL.out]; exact hlt)⟩
              obtain ⟨b0, off0, eA0, l0, l1, l2, l3, l4⟩ := (hT.on BL).2 i x hx
              obtain ⟨b1, off1, eA1, m0, m1, m2, m3, m4⟩ := (hT5.on BL).2 i (x.at 1) (by rw [List.getElem?_map, hx]; rfl)
              obtain ⟨i1, hi2⟩ : ∃ i1, 1 + i = i1 := ⟨_, rfl⟩
              have hi3 : (i : Int) + 1 = (i1 : Int) := by omega
              obtain ⟨b2, off2, eA2, n0, n1, n2, n3, n4⟩ := (hT6.on BL).2 i (x.at i1) (by rw [← hi2]; exact tall_at T 1 i hx)
              subst eA0
              subst eA1
              subst eA2
              obtain ⟨tx, htx⟩ : ∃ z : ByteArray, (⟨x.t.toArray⟩ : ByteArray) = z := ⟨_, rfl⟩
              have HQ : ∀ w', Below wr.heap.size wr w' → (w'.cell? ⟨b1, off1 + i * 4, none⟩ = some (.int .i64 (x.k : Int)) ∧ w'.cell? ⟨b1, off1 + i * 4 + 1, none⟩ = some (.string tx) ∧ w'.cell? ⟨b1, off1 + i * 4 + 2, none⟩ = some (.int .i64 (x.v : Int)) ∧ w'.cell? ⟨b1, off1 + i * 4 + 3, none⟩ = some (.int .i64 1)) ∧ (w'.cell? ⟨b2, off2 + i * 4, none⟩ = some (.int .i64 (x.k : Int)) ∧ w'.cell? ⟨b2, off2 + i * 4 + 1, none⟩ = some (.string tx) ∧ w'.cell? ⟨b2, off2 + i * 4 + 2, none⟩ = some (.int .i64 (x.v : Int)) ∧ w'.cell? ⟨b2, off2 + i * 4 + 3, none⟩ = some (.int .i64 (i1 : Int))) := fun w' hb => by
                rw [← htx]
                exact ⟨⟨(hb.cell (p := ⟨b1, off1 + i * 4, none⟩) m0).trans m1, (hb.cell (p := ⟨b1, off1 + i * 4 + 1, none⟩) m0).trans m2, (hb.cell (p := ⟨b1, off1 + i * 4 + 2, none⟩) m0).trans m3, (hb.cell (p := ⟨b1, off1 + i * 4 + 3, none⟩) m0).trans m4⟩, ⟨(hb.cell (p := ⟨b2, off2 + i * 4, none⟩) n0).trans n1, (hb.cell (p := ⟨b2, off2 + i * 4 + 1, none⟩) n0).trans n2, (hb.cell (p := ⟨b2, off2 + i * 4 + 2, none⟩) n0).trans n3, (hb.cell (p := ⟨b2, off2 + i * 4 + 3, none⟩) n0).trans n4⟩⟩
              have HL : Hid (∀ w', Below wr.heap.size wr w' → (w'.cell? ⟨b0, off0 + i * 4, none⟩ = some (.int .i64 (x.k : Int)) ∧ w'.cell? ⟨b0, off0 + i * 4 + 1, none⟩ = some (.string tx) ∧ w'.cell? ⟨b0, off0 + i * 4 + 2, none⟩ = some (.int .i64 (x.v : Int)) ∧ w'.cell? ⟨b0, off0 + i * 4 + 3, none⟩ = some (.int .i64 (x.l : Int)))) := Lib.hid fun w' hb => by
                rw [← htx]
                exact ⟨(hb.cell (p := ⟨b0, off0 + i * 4, none⟩) l0).trans l1, (hb.cell (p := ⟨b0, off0 + i * 4 + 1, none⟩) l0).trans l2, (hb.cell (p := ⟨b0, off0 + i * 4 + 2, none⟩) l0).trans l3, (hb.cell (p := ⟨b0, off0 + i * 4 + 3, none⟩) l0).trans l4⟩
              have HQ := Lib.hid HQ
              have HXX := Lib.hid hx
              have BLH := Lib.hid BL
              have hle : Hid (wo.heap.size ≤ wr.heap.size) := Lib.hid BL.size
              clear l0 l1 l2 l3 l4 m0 m1 m2 m3 m4 n0 n1 n2 n3 n4 htx hx BL
              go_upto_region 27 with fail
              go_cut [20, 21] (fun v20 v21 wx => ∃ p q : Nat, v20 = .pointer (some ⟨p, 0, none⟩) ∧ v21 = .pointer (some ⟨q, 0, none⟩) ∧ Hid (p ≠ q ∧ wr.heap.size ≤ p ∧ wr.heap.size ≤ q ∧ Own wx p 32 [.int .i64 (x.k : Int), .string tx, .int .i64 (x.v : Int), .int .i64 1] ∧ Own wx q 32 [.int .i64 (x.k : Int), .string tx, .int .i64 (x.v : Int), .int .i64 (i1 : Int)] ∧ Below wr.heap.size wr wx))
              case first =>
                go_region_held3 (fun w' => (w'.cell? ⟨b1, off1 + i * 4, none⟩ = some (.int .i64 (x.k : Int)) ∧ w'.cell? ⟨b1, off1 + i * 4 + 1, none⟩ = some (.string tx) ∧ w'.cell? ⟨b1, off1 + i * 4 + 2, none⟩ = some (.int .i64 (x.v : Int)) ∧ w'.cell? ⟨b1, off1 + i * 4 + 3, none⟩ = some (.int .i64 1)) ∧ (w'.cell? ⟨b2, off2 + i * 4, none⟩ = some (.int .i64 (x.k : Int)) ∧ w'.cell? ⟨b2, off2 + i * 4 + 1, none⟩ = some (.string tx) ∧ w'.cell? ⟨b2, off2 + i * 4 + 2, none⟩ = some (.int .i64 (x.v : Int)) ∧ w'.cell? ⟨b2, off2 + i * 4 + 3, none⟩ = some (.int .i64 (i1 : Int))))
                  ((refine HQ.out _ ?_; repeat (first | exact Below.refl _ _ | refine Below.drew ?_ | refine Below.alloc ?_ (by simp <;> omega) _ | refine Below.setCell ?_ (by simp <;> omega) _)))
                  (fail)
                all_goals go_wp2_with fail
                all_goals go_meet
                · exact ⟨_, _, rfl, rfl, Lib.hid ⟨by omega, by omega, by omega, (own2 wr [_, _, _, _] [_, _, _, _] _).1, (own2 wr [_, _, _, _] [_, _, _, _] _).2.1, (own2 wr [_, _, _, _] [_, _, _, _] _).2.2⟩⟩
                · exact ⟨_, _, rfl, rfl, Lib.hid ⟨by omega, by omega, by omega, (own2 wr [_, _, _, _] [_, _, _, _] _).2.1, (own2 wr [_, _, _, _] [_, _, _, _] _).1, (own2 wr [_, _, _, _] [_, _, _, _] _).2.2⟩⟩
              case rest =>
                obtain ⟨p, q, rfl, rfl, HO⟩ := hcut
                apply_assumption
                go_step
                obtain ⟨w7, rfl⟩ : ∃ z, z = wc := ⟨_, rfl⟩
                clear hi2
                have HX3 : Hid (∀ w', Below w7.heap.size w7 w' → w'.cell? ⟨p, 3, none⟩ = some (.int .i64 1) ∧ w'.cell? ⟨q, 3, none⟩ = some (.int .i64 (i1 : Int)) ∧ w'.cell? ⟨b0, off0 + i * 4 + 3, none⟩ = some (.int .i64 (x.l : Int))) := Lib.hid fun w' hb => by
                  obtain ⟨h1, h2, h3, hp, hq, hb7⟩ := HO.out
                  exact ⟨(hp.below hb hp.lt).cell 3, (hq.below hb hq.lt).cell 3, (HL.out _ (Below.step hb7 hb)).2.2.2⟩
                have hiw : (i : Int) ≤ 90000 := by omega
                have hkI : (k : Int) ≤ 90000 := by omega
                have gw : wrap64 ((i : Int) + 1) = (i1 : Int) := by rw [hi3]; unfold wrap64; omega
                have g1 : ((i1 : Int) != (i : Int) + 1) = false := by rw [hi3]; simp
                have g2 : ((i1 : Int) != (i1 : Int)) = false := by simp
                have g3 : (!((i1 : Int) == (i : Int) + 1)) = false := by rw [hi3]; simp
                have g4 : ((i1 : Int) == (i : Int) + 1) = true := by rw [hi3]; simp
                go_upto_region 28 with fail
                go_cut [151] (fun v wx => v = .bool false ∧ Below w7.heap.size w7 wx)
                case first =>
                  by_cases hi4 : i = 0
                  case pos =>
                    have hi5 : ¬ (0 : Int) < (i : Int) := by omega
                    have hi6 : decide ((0 : Int) < (i : Int)) = false := decide_eq_false hi5
                    have hi7 : decide (0 < i) = false := decide_eq_false (by omega)
                    have hi8 : ¬ 0 < i := by omega
                    have g5 : ((i1 : Int) != 1) = false := by rw [← hi3, hi4]; rfl
                    clear hi4
                    try dsimp only [List.append]
                    refine region_plan [0, 1, 2, 3, 4, 5, 6, 7, 8, 9, 10, 11, 12, 13, 14, 15, 16, 17, 18, 19, 20, 21, 22, 23, 24, 25, 26, 27] (by kernel_rfl) (by kernel_rfl) (by kernel_rfl) (by kernel_rfl) (by kernel_rfl) ?_
                    dsimp only [pick, nth]
                    obtain ⟨w9, e9⟩ : ∃ w', w7.drew = w' := ⟨_, rfl⟩
                    have b9 : Below w7.heap.size w7 w9 := e9 ▸ (Below.refl _ _).drew
                    rw [e9]
                    have lf0 := fun s : Wd w9 => (HX3.out _ (Below.step b9 s.below)).1
                    have lf1 := fun s : Wd w9 => (HX3.out _ (Below.step b9 s.below)).2.1
                    have lf2 := fun s : Wd w9 => (HX3.out _ (Below.step b9 s.below)).2.2
                    clear e9
                    refine lex_plain 28 (by kernel_rfl) ?_
                    dsimp only [List.take, List.drop]
                    repeat go_big_quiet_step (fail)
                    refine wpQuiet_nil ?_
                    clear lf0 lf1 lf2
                    refine lex_nil (fun w6 b => ?_)
                    have bb := Below.step b9 b
                    clear b b9
                    dsimp only [NoPanic]
                    go_wp2_with fail
                    go_meet
                    exact ⟨rfl, bb⟩
                  case neg =>
                    obtain ⟨j2, hj2⟩ : ∃ j2, i = j2 + 1 := ⟨i - 1, by omega⟩
                    have hj3 : (i : Int) - 1 = (j2 : Int) := by omega
                    have hj4 : (0 : Int) ≤ (j2 : Int) := by omega
                    have hj5 : (j2 : Int) < (k : Int) := by omega
                    have hi5 : (0 : Int) < (i : Int) := by omega
                    have hi6 : decide ((0 : Int) < (i : Int)) = true := decide_eq_true hi5
                    have hi7 : decide (0 < i) = true := decide_eq_true (by omega)
                    have hi8 : 0 < i := by omega
                    have hw2 : wrap64 ((i : Int) - 1) = (j2 : Int) := by rw [hj3]; unfold wrap64; omega
                    obtain ⟨xj, hxj⟩ : ∃ x, T[j2]? = some x := ⟨_, List.getElem?_eq_getElem (by rw [HKL.out]; omega)⟩
                    have hord : xj.l ≤ x.l := sorted_at (lex_lines.2 T H1.out).2 hxj (by rw [← hj2]; exact HXX.out)
                    have ho2 : ¬ (x.l : Int) < (xj.l : Int) := by omega
                    have ho3 : decide ((x.l : Int) < (xj.l : Int)) = false := decide_eq_false ho2
                    have ho4 : ¬ x.l < xj.l := by omega
                    have ho5 : decide (x.l < xj.l) = false := decide_eq_false ho4
                    have HX4 : Hid (∀ w', Below w7.heap.size w7 w' → w'.cell? ⟨b0, off0 + j2 * 4 + 3, none⟩ = some (.int .i64 (xj.l : Int))) := Lib.hid fun w' hb => by
                      obtain ⟨h1, h2, h3, hp, hq, hb7⟩ := HO.out
                      obtain ⟨b3, off3, eA3, y0, y1, y2, y3, y4⟩ := (hT.on (Below.step (Below.step BLH.out hb7) hb)).2 j2 xj hxj
                      cases eA3
                      exact y4
                    clear hj2 hxj hord hi4
                    try dsimp only [List.append]
                    refine region_plan [0, 1, 2, 3, 4, 5, 6, 7, 8, 9, 10, 11, 12, 13, 14, 15, 16, 17, 18, 19, 20, 21, 22, 23, 24, 25, 26, 27] (by kernel_rfl) (by kernel_rfl) (by kernel_rfl) (by kernel_rfl) (by kernel_rfl) ?_
                    dsimp only [pick, nth]
                    obtain ⟨w9, e9⟩ : ∃ w', w7.drew = w' := ⟨_, rfl⟩
                    have b9 : Below w7.heap.size w7 w9 := e9 ▸ (Below.refl _ _).drew
                    rw [e9]
                    have lf0 := fun s : Wd w9 => (HX3.out _ (Below.step b9 s.below)).1
                    have lf1 := fun s : Wd w9 => (HX3.out _ (Below.step b9 s.below)).2.1
                    have lf2 := fun s : Wd w9 => (HX3.out _ (Below.step b9 s.below)).2.2
                    have lf3 := fun s : Wd w9 => HX4.out _ (Below.step b9 s.below)
                    clear e9
                    refine lex_plain 28 (by kernel_rfl) ?_
                    dsimp only [List.take, List.drop]
                    repeat go_big_quiet_step (fail)
                    refine wpQuiet_nil ?_
                    clear lf0 lf1 lf2 lf3
                    refine lex_nil (fun w6 b => ?_)
                    have bb := Below.step b9 b
                    clear b b9
                    dsimp only [NoPanic]
                    go_wp2_with fail
                    go_meet
                    exact ⟨rfl, bb⟩
                case rest =>
                  obtain ⟨rfl, hb8⟩ := hcut
                  apply_assumption
                  go_step
                  obtain ⟨w8, rfl⟩ : ∃ z, z = wc := ⟨_, rfl⟩
                  obtain ⟨hne, hlp, hlq, hop, hoq, hb7⟩ := HO.out
                  replace hop := hop.below hb8 hop.lt
                  replace hoq := hoq.below hb8 hoq.lt
                  have HG : Hid (Gw wr p q 32 (.int .i64 (x.k : Int)) (.string tx) (.int .i64 (x.v : Int)) w8) := Lib.hid ⟨Below.step hb7 hb8, ⟨_, hop⟩, _, hoq⟩
                  have HF30 : Hid (∀ w', Gw wr p q 32 (.int .i64 (x.k : Int)) (.string tx) (.int .i64 (x.v : Int)) w' → w'.cell? ⟨b0, off0 + i * 4 + 3, none⟩ = some (.int .i64 (x.l : Int)) ∧ w'.cell? ⟨p, 3, none⟩ = some (valAt w' p 3) ∧ w'.frozen? ⟨p, 3, none⟩ = false ∧ w'.cell? ⟨q, 3, none⟩ = some (valAt w' q 3) ∧ w'.frozen? ⟨q, 3, none⟩ = false) := Lib.hid fun w' h => by
                    obtain ⟨h1, ⟨v, h2⟩, u, h3⟩ := h
                    exact ⟨(HL.out _ h1).2.2.2, valAt_of (h2.cell 3), h2.free 3, valAt_of (h3.cell 3), h3.free 3⟩
                  have HOP := Lib.hid hop
                  have HOQ := Lib.hid hoq
                  have HB8 := Lib.hid (Below.step hb7 hb8)
                  have HNE := Lib.hid hne
                  have HLP := Lib.hid hlp
                  have HLQ := Lib.hid hlq
                  clear hne hlp hlq hop hoq hb7 hb8 HX3 gw g1 g2 g3 g4
                  go_upto_region 30 with fail
                  go_cut [] (fun wx => Hid (Own wx p 32 [.int .i64 (x.k : Int), .string tx, .int .i64 (x.v : Int), .int .i64 (x.l : Int)] ∧ Own wx q 32 [.int .i64 (x.k : Int), .string tx, .int .i64 (x.v : Int), .int .i64 (x.l : Int)] ∧ Below wr.heap.size wr wx))
                  case first =>
                    go_region_held3 (fun w' => w'.cell? ⟨b0, off0 + i * 4 + 3, none⟩ = some (.int .i64 (x.l : Int)) ∧ w'.cell? ⟨p, 3, none⟩ = some (valAt w' p 3) ∧ w'.frozen? ⟨p, 3, none⟩ = false ∧ w'.cell? ⟨q, 3, none⟩ = some (valAt w' q 3) ∧ w'.frozen? ⟨q, 3, none⟩ = false)
                      ((refine HF30.out _ ?_; repeat (first | exact HG.out | refine Gw.drew ?_ | refine Gw.sp HNE.out HLP.out _ ?_ | refine Gw.sq HNE.out HLQ.out _ ?_)))
                      (fail)
                    all_goals go_wp2_with fail
                    all_goals go_meet
                    have hop := ((HOP.out.put 3 (.int .i64 (x.l : Int))).apart HNE.out 3 (.int .i64 (x.l : Int)))
                    have hoq := ((HOQ.out.apart (fun e => HNE.out e.symm) 3 (.int .i64 (x.l : Int))).put 3 (.int .i64 (x.l : Int)))
                    exact Lib.hid ⟨hop.below (Below.refl _ _).drew hop.lt, hoq.below (Below.refl _ _).drew hoq.lt, ((HB8.out.setCell (p := ⟨p, 3, none⟩) HLP.out _).setCell (p := ⟨q, 3, none⟩) HLQ.out _).drew⟩
                  case rest =>
                    apply_assumption
                    go_step
                    obtain ⟨w10, rfl⟩ : ∃ z, z = wc := ⟨_, rfl⟩
                    have HF31 : Hid (∀ w', Below w10.heap.size w10 w' → ((w'.cell? ⟨p, 0, none⟩ = some (.int .i64 (x.k : Int)) ∧ w'.cell? ⟨p, 1, none⟩ = some (.string tx) ∧ w'.cell? ⟨p, 2, none⟩ = some (.int .i64 (x.v : Int)) ∧ w'.cell? ⟨p, 3, none⟩ = some (.int .i64 (x.l : Int))) ∧ (w'.cell? ⟨q, 0, none⟩ = some (.int .i64 (x.k : Int)) ∧ w'.cell? ⟨q, 1, none⟩ = some (.string tx) ∧ w'.cell? ⟨q, 2, none⟩ = some (.int .i64 (x.v : Int)) ∧ w'.cell? ⟨q, 3, none⟩ = some (.int .i64 (x.l : Int)))) ∧ (w'.cell? ⟨b0, off0 + i * 4, none⟩ = some (.int .i64 (x.k : Int)) ∧ w'.cell? ⟨b0, off0 + i * 4 + 1, none⟩ = some (.string tx) ∧ w'.cell? ⟨b0, off0 + i * 4 + 2, none⟩ = some (.int .i64 (x.v : Int)) ∧ w'.cell? ⟨b0, off0 + i * 4 + 3, none⟩ = some (.int .i64 (x.l : Int)))) := Lib.hid fun w' hb => by
                      obtain ⟨h1, h2, h3⟩ := hcut.out
                      have e1 := h1.below hb h1.lt
                      have e2 := h2.below hb h2.lt
                      exact ⟨⟨⟨e1.cell 0, e1.cell 1, e1.cell 2, e1.cell 3⟩, ⟨e2.cell 0, e2.cell 1, e2.cell 2, e2.cell 3⟩⟩, HL.out _ (Below.step h3 hb)⟩
                    have BLF := Lib.hid (Below.step BLH.out hcut.out.2.2)
                    have sk : (!sameK (x.k : Int) (x.v : Int) (x.l : Int) (x.k : Int) (x.v : Int) (x.l : Int) tx tx) = false := by rw [sameK_self]; rfl
                    go_upto_region 31 with fail
                    try dsimp only [List.append]
                    refine region_plan [0, 1, 2, 3, 4, 5, 6, 7, 8, 9, 10, 11, 12, 13] (by kernel_rfl) (by kernel_rfl) (by kernel_rfl) (by kernel_rfl) (by kernel_rfl) ?_
                    dsimp only [pick, nth]
                    obtain ⟨w9, e9⟩ : ∃ w', w10.drew = w' := ⟨_, rfl⟩
                    have b9 : Below w10.heap.size w10 w9 := e9 ▸ (Below.refl _ _).drew
                    rw [e9]
                    have lf0 := fun s : Wd w9 => (HF31.out _ (Below.step b9 s.below)).1.1.1
                    have lf1 := fun s : Wd w9 => (HF31.out _ (Below.step b9 s.below)).1.1.2.1
                    have lf2 := fun s : Wd w9 => (HF31.out _ (Below.step b9 s.below)).1.1.2.2.1
                    have lf3 := fun s : Wd w9 => (HF31.out _ (Below.step b9 s.below)).1.1.2.2.2
                    have lg0 := fun s : Wd w9 => (HF31.out _ (Below.step b9 s.below)).1.2.1
                    have lg1 := fun s : Wd w9 => (HF31.out _ (Below.step b9 s.below)).1.2.2.1
                    have lg2 := fun s : Wd w9 => (HF31.out _ (Below.step b9 s.below)).1.2.2.2.1
                    have lg3 := fun s : Wd w9 => (HF31.out _ (Below.step b9 s.below)).1.2.2.2.2
                    have lh0 := fun s : Wd w9 => (HF31.out _ (Below.step b9 s.below)).2.1
                    have lh1 := fun s : Wd w9 => (HF31.out _ (Below.step b9 s.below)).2.2.1
                    have lh2 := fun s : Wd w9 => (HF31.out _ (Below.step b9 s.below)).2.2.2.1
                    have lh3 := fun s : Wd w9 => (HF31.out _ (Below.step b9 s.below)).2.2.2.2
                    clear e9
                    refine lex_plain 14 (by kernel_rfl) ?_
                    dsimp only [List.take, List.drop]
                    repeat go_big_quiet_step (fail)
                    refine wpQuiet_nil ?_
                    clear lf0 lf1 lf2 lf3 lg0 lg1 lg2 lg3 lh0 lh1 lh2 lh3
                    refine lex_nil (fun w6 b => ?_)
                    have bb := Below.step BLF.out (Below.step b9 b)
                    clear b b9
                    dsimp only [NoPanic]
                    go_wp2_with fail
                    go_roundw
                    case rel => exact ⟨i + 1, by omega, by go_num, bb⟩
                    case measure => simp [intOf]; omega
            · have hge2 : ¬ (i : Int) < (k : Int) := by omega
              go_wp2_with fail
              go_ret
              exact ⟨rfl, Below.step BW6 BL⟩
end Go.Proofs.YtkoacjnffbfgiaaDoor
