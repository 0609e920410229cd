/-
  What the proofs of ShareSame and ShareLeft need: Gj.
-/
import Derived.Test.YtcehklnonhalhaaSHGi
import Derived.Laws.CopyOwn
import Derived.Deep.RegionLaw
namespace Go.Proofs.Ytcehklnonhalhaa
open Go.RowKit
set_option linter.unusedVariables false
set_option maxRecDepth 4000

theorem and_u64' (a b : Nat) (ha : a < 18446744073709551616) (hb : b < 18446744073709551616) : bits .and .u64 (a : Int) (b : Int) = ((a &&& b : Nat) : Int) := by
  have hx : a &&& b < 2 ^ 64 := Nat.and_lt_two_pow a (by omega)
  have h1 : ∀ a : Nat, a < 18446744073709551616 → (BitVec.ofInt 64 (a : Int)).toNat = a := fun a ha => by
    rw [BitVec.ofInt_natCast, BitVec.toNat_ofNat]; exact Nat.mod_eq_of_lt (by omega)
  show IntKind.u64.wrap ((BitVec.ofInt 64 (a : Int) &&& BitVec.ofInt 64 (b : Int)).toNat : Int) = _
  rw [BitVec.toNat_and, h1 a ha, h1 b hb, IntKind.wrap_u64]
  omega
theorem mul64_one (n : Nat) (hn : n ≤ 1000000) (w : World) : Calls Try.prog 135 #[.int .u64 1, .int .u64 (n : Int)] w fun e w' => e = .returned (.tuple #[.int .u64 0, .int .u64 (n : Int)]) ∧ w = w' := by
  have h2 : bits .and .u64 (n : Int) 4294967295 = (n : Int) := by
    have := and_u64' n 4294967295 (by omega) (by omega)
    have e : n &&& 4294967295 = n := by
      have := Nat.and_two_pow_sub_one_eq_mod n 32
      rw [show (2 ^ 32 - 1 : Nat) = 4294967295 by decide] at this
      rw [this]
      omega
    rw [e] at this
    exact this
  have h1 : bits .and .u64 1 4294967295 = 1 := by decide
  have h7 : bits .and .u64 0 4294967295 = 0 := by decide
  have h3 : (n : Int) / 4294967296 = 0 := by omega
  have h4 : IntKind.u64.wrap (n : Int) = (n : Int) := by rw [IntKind.wrap_u64]; omega
  go_enter Try.func135, Try.ntmps135
  go_wp2_with fail
  go_ret2
  exact ⟨rfl, rfl⟩
theorem mul_one' (n : Nat) (hn : n ≤ 1000000) (w : World) : Calls Try.prog 121 #[.int .u64 1, .int .u64 (n : Int)] w fun e w' => e = .returned (.tuple #[.int .u64 0, .int .u64 (n : Int)]) ∧ w = w' := by
  go_enter Try.func121, Try.ntmps121
  go_wp2_with fail
  refine (mul64_one n hn _).mono ?_
  rintro e w' ⟨rfl, rfl⟩
  go_wp2_with fail
  go_ret2
  exact ⟨rfl, rfl⟩
theorem int_info : (Try.prog.info? 3).map (fun i => (i.zero, i.size, i.bytes)) = some (some (.int .i64 0), 1, 8) := by kernel_rfl
theorem int_size : (Try.prog.info? 3).map (·.size) = some 1 := by kernel_rfl
/-- a row whose first k cells are filled. -/
def filled (k n : Nat) : List Value := List.replicate k (.int .i64 (-2)) ++ List.replicate (n - k) (.int .i64 0)
theorem filled_len {k n : Nat} (h : k ≤ n) : (filled k n).length = n := by unfold filled; simp; omega
theorem filled_at {k n j : Nat} (h : j < k) : (filled k n)[j]? = some (.int .i64 (-2)) := by
  unfold filled
  rw [List.getElem?_append_left (by simpa using h), List.getElem?_replicate, if_pos h]
theorem splice_filled {k n m : Nat} (h : k + m ≤ n) : splice (filled k n) k (List.replicate m (.int .i64 (-2))) = filled (k + m) n := by
  unfold splice filled
  rw [List.take_left' (by simp), List.length_replicate, List.drop_append, List.drop_eq_nil_of_le (by simp), List.length_replicate, List.nil_append, List.drop_replicate, ← List.append_assoc, List.replicate_append_replicate]
  congr 2
  omega
set_option maxHeartbeats 400000 in
theorem repeat_as (n : Nat) (hn : n ≤ 100000) {s : Nat} {w : World} (z : Bx w s [.int .i64 (-2)]) :
    Calls Try.prog 102 #[.slice (some ⟨s, 0, none⟩) 1 1, .int .i64 (n : Int)] w fun en w' => ∃ l, en = .returned (.slice (some ⟨l, 0, none⟩) n n) ∧ w.heap.size ≤ l ∧ Own w' l 3 (ivs (List.replicate n (-2))) ∧ Below w.heap.size w w' := by
  have d1 : decide ((n : Int) < 0) = false := decide_eq_false (by omega)
  have d2 : decide (9223372036854775807 < (n : Int)) = false := decide_eq_false (by omega)
  have q1 : IntKind.u64.wrap (n : Int) = (n : Int) := by rw [IntKind.wrap_u64]; omega
  have q2 : IntKind.i64.wrap (n : Int) = (n : Int) := by rw [IntKind.wrap_i64]; omega
  go_enter Try.func102, Try.ntmps102
  go_wp2_with fail
  refine (mul_one' n (by omega) _).mono ?_
  rintro e w1 ⟨rfl, rfl⟩
  go_upto_region 7 with (at_make; refine n6wpList_zeros _ rfl _ _ 39 rfl 3 (.int .i64 0) 8 Try.underlying39 int_info rfl (by omega) _ n rfl rfl rfl (by omega) ?_; intro w1 ho b1 hz1)
  obtain ⟨g, hg⟩ : ∃ g, w.heap.size = g := ⟨_, rfl⟩
  have hwg : w.heap.size ≤ g := by omega
  rw [hg] at ho ⊢
  have z1 := z.on b1
  have ho0 : Own w1 g 3 (filled 0 n) := by unfold filled; simpa using ho
  obtain ⟨k0, hk0⟩ : ∃ k, Nat.min 1 n = k := ⟨_, rfl⟩
  have hk1 : k0 ≤ n ∧ (k0 = 0 → n = 0) ∧ k0 ≤ 1 := by
    have : Nat.min 1 n = min 1 n := rfl
    omega
  have hsrc : 0 < (List.replicate k0 (Value.int .i64 (-2))).length → (some ⟨g, 0, none⟩ : Option Addr) = some ⟨g, 0, none⟩ ∧ ∃ ad, (some ⟨s, 0, none⟩ : Option Addr) = some ad ∧ ∀ (j : Nat) (v : Value), (List.replicate k0 (Value.int .i64 (-2)))[j]? = some v → w1.cell? (ad.add j) = some v := fun _ => ⟨rfl, _, rfl, fun j v hv => by
    rw [List.getElem?_replicate] at hv
    split at hv
    · rename_i hj
      obtain rfl : j = 0 := by omega
      cases hv
      rw [n6add_at]
      exact z1.2 0 _ rfl
    · cases hv⟩
  go_wp2_with (refine wpList_copy_splice rfl (.tmp 31) (.tmp 32) 39 39 rfl 3 Try.underlying39 int_size _ _ _ _ _ _ rfl rfl g 0 (filled 0 n) 3 ho0 (List.replicate k0 (.int .i64 (-2))) (by rw [List.length_replicate]; exact hk0.symm) hsrc (by rw [filled_len (by omega), List.length_replicate]; omega) (by intro v hv; rw [(List.mem_replicate.1 hv).2]; rfl) w.heap.size w b1 hwg ?_; intro w2 hg2 b2)
  have ho2 : Own w2 g 3 (filled k0 n) := by
    have := hg2.out
    rw [splice_filled (by omega)] at this
    unfold Own
    simpa using this
  clear hg2 ho ho0 hsrc z1 b1 hz1 hg
  go_loopw [8] (fun i wr => ∃ k : Nat, k ≤ n ∧ (k = 0 → n = 0) ∧ i = .int .i64 k ∧ Own wr g 3 (filled k n) ∧ Below w.heap.size w wr) (fun i _ => n - (intOf i).toNat)
  case atStart => exact ⟨k0, hk1.1, hk1.2.1, rfl, ho2, b2⟩
  case round =>
    clear ho2 b2
    obtain ⟨k, hk, hkz, rfl, ho, BW⟩ := hrel
    by_cases hlt : k < n
    · obtain ⟨m, hm⟩ : ∃ m, Nat.min k (n - k) = m := ⟨_, rfl⟩
      have hm2 : 0 < m ∧ k + m ≤ n ∧ m ≤ k := by
        have : Nat.min k (n - k) = min k (n - k) := rfl
        omega
      have i0 : (0 : Int) ≤ (k : Int) := by omega
      have i1 : (k : Int) ≤ (n : Int) := by omega
      have i2 : ¬ n = k := by omega
      have q3 : IntKind.i64.wrap ((k : Int) + (m : Int)) = (k : Int) + (m : Int) := by rw [IntKind.wrap_i64]; omega
      have hsrc : 0 < (List.replicate m (Value.int .i64 (-2))).length → (some ⟨g, k, none⟩ : Option Addr) = some ⟨g, k, none⟩ ∧ ∃ ad, (some ⟨g, 0, none⟩ : Option Addr) = some ad ∧ ∀ (j : Nat) (v : Value), (List.replicate m (Value.int .i64 (-2)))[j]? = some v → wr.drew.cell? (ad.add j) = some v := fun _ => ⟨rfl, _, rfl, fun j v hv => by
        rw [List.getElem?_replicate] at hv
        split at hv
        · rename_i hj
          cases hv
          rw [n6add_at, Nat.zero_add]
          exact (ho.cell j).trans (filled_at (by omega))
        · cases hv⟩
      go_upto_region 9 with fail
      go_region_law (refine step_copy_splice rfl (.tmp 41) (.tmp 44) 39 39 rfl 3 Try.underlying39 int_size (some ⟨g, k, none⟩) (some ⟨g, 0, none⟩) (n - k) (n - k) k n (by kernel_rfl) (by kernel_rfl) g k (filled k n) 3 ho (List.replicate m (.int .i64 (-2))) (by rw [List.length_replicate]; exact hm.symm) hsrc (by rw [filled_len (by omega), List.length_replicate]; omega) (by intro v hv; rw [(List.mem_replicate.1 hv).2]; rfl) w.heap.size w BW.drew hwg ?_; intro w4 hg4 hb4)
      have ho4 : Own w4 g 3 (filled (k + m) n) := by
        have := hg4.out
        rw [splice_filled (by omega)] at this
        unfold Own
        simpa using this
      go_wp2_with fail
      go_roundw
      case rel => exact ⟨k + m, by omega, by omega, by omega, ho4⟩
      case measure => simp [intOf]; omega
    · obtain rfl : k = n := by omega
      go_wp2_with fail
      go_ret
      refine ⟨g, rfl, hwg, ?_, BW⟩
      have : filled k k = ivs (List.replicate k (-2)) := by unfold filled ivs; simp
      rw [← this]
      exact ho
theorem snoc_cases (W : List Nat) : W = [] ∨ ∃ V q, W = V ++ [q] := by
  rcases List.eq_nil_or_concat W with h | ⟨V, q, h⟩
  · exact .inl h
  · exact .inr ⟨V, q, by rw [h, List.concat_eq_append]⟩
def isM2 : Value → Bool
  | .int _ x => decide (x = -2)
  | _ => false
/-- what is left to do, as the memory has it. -/
def leftW (l g : Nat) (w : World) : Nat := 2 * (match w.heap[l]? with | some (.cells cs _ _) => cs.toList.countP isM2 | _ => 0) + (match w.cell? ⟨g, 2, none⟩ with | some (.slice _ n _) => n | _ => 0)
theorem count_ivs (lv : List Int) : (ivs lv).countP isM2 = lv.count (-2) := by
  unfold ivs
  rw [List.countP_map]
  unfold List.count
  refine List.countP_congr fun x _ => ?_
  simp [isM2]
theorem leftW_is {w : World} {B g l Bw : Nat} {An : Option Addr} {nn cn n : Nat} {lv : List Int} {A : Option Addr} {c : Nat} {W : List Nat} (h : St w B g l Bw An nn cn n lv A c W) : leftW l g w = leftC lv W := by
  obtain ⟨_, _, c2⟩ := h.c0
  have hl : w.heap[l]? = some (.cells (ivs lv).toArray 3 (0, 0)) := h.lev
  unfold leftW leftC
  rw [c2, hl]
  simp only []
  rw [count_ivs]
/-- what climb tells: levels, if all nodes have one. -/
def ClX (w : World) (n : Nat) (N : List Nd) (en : Ending) (w' : World) : Prop := (∃ l d, en = .returned (.tuple #[.slice (some ⟨l, 0, none⟩) n n, .bool true]) ∧ levS N = some d ∧ d.length = n ∧ Is w' (some ⟨l, 0, none⟩) n (d.map fun x : Nat => (x : Int)) ∧ Below w.heap.size w w') ∨ (en = .returned (.tuple #[.slice none 0 0, .bool false]) ∧ levS N = none ∧ Below w.heap.size w w')
set_option maxHeartbeats 4000000 in
theorem climb_as {An : Option Addr} {nn cn : Nat} {N : List Nd} {w : World} (hN : Ns w An nn N) (hn : nn ≤ 100000) (hf : N.all (formedS nn) = true) :
    Calls Try.prog 70 #[.slice An nn cn] w (ClX w nn N) := by
  have HN := Lib.hid hN
  have HF := Lib.hid hf
  have HLN := Lib.hid hN.1
  clear hN hf
  go_enter Try.func70, Try.ntmps70
  go_wp2_with fail
  obtain ⟨w0, e_w0⟩ : ∃ w', w.alloc (.cells #[.int .i64 (-2)] 3) = w' := ⟨_, rfl⟩
  have z0 : Bx w0 w.heap.size [.int .i64 (-2)] := e_w0 ▸ Bx.made_k w rfl #[.int .i64 (-2)] 3
  have b0 : Below w.heap.size w w0 := e_w0 ▸ below_lit _ _
  rw [e_w0]
  clear e_w0
  refine (repeat_as nn hn z0).mono ?_
  rintro en w1 ⟨l, rfl, hl, ho, b1⟩
  have B1 := Below.step b0 b1
  have hl1 := Own.lt ho
  go_upto_region 2 with fail
  obtain ⟨w2, e_w2⟩ : ∃ w', w1.alloc (.cells #[.slice An nn cn, .slice (some ⟨l, 0, none⟩) nn nn, .slice none 0 0] 130) = w' := ⟨_, rfl⟩
  have b2 : Below w1.heap.size w1 w2 := e_w2 ▸ below_lit _ _
  have V2 : Own w2 w1.heap.size 130 [.slice An nn cn, .slice (some ⟨l, 0, none⟩) nn nn, .slice none 0 0] := e_w2 ▸ Own.made w1 130 [.slice An nn cn, .slice (some ⟨l, 0, none⟩) nn nn, .slice none 0 0]
  have hz2 : w2.heap.size = w1.heap.size + 1 := by rw [← e_w2]; simp
  rw [e_w2]
  clear e_w2
  obtain ⟨g, hg⟩ : ∃ g, w1.heap.size = g := ⟨_, rfl⟩
  have hwl : w.heap.size ≤ l := Nat.le_trans b0.size hl
  have hwg : w.heap.size ≤ g := hg ▸ B1.size
  have BW := Below.step B1 b2
  have S2 : St w2 w.heap.size g l (g + 1) An nn cn nn (List.replicate nn (-2)) none 0 [] := ⟨hg ▸ V2, ho.below b2 hl1, World.ownsRow_nil w2 _ _ _, hwg, hwl, by omega, by omega, by omega, by omega, by simp⟩
  have C2 : Climb N (List.replicate nn (-2)) [] := by rw [← HLN.out]; exact Climb.start N
  rw [hg]
  clear b0 b1 B1 b2 V2 ho hl hl1 hz2 hg z0
  go_wp2_with fail
  go_loopw [14] (fun i wr => ∃ j : Nat, j ≤ nn ∧ i = .int .i64 j ∧ ∃ (lv : List Int) (A : Option Addr) (c : Nat), St wr w.heap.size g l (g + 1) An nn cn nn lv A c [] ∧ Climb N lv [] ∧ (∀ i < j, lv[i]? ≠ some (-2)) ∧ leftC lv [] ≤ 2 * nn ∧ Below w.heap.size w wr) (fun i _ => nn - (intOf i).toNat)
  case atStart => exact ⟨0, Nat.zero_le _, rfl, _, _, _, S2, C2, fun i hi => absurd hi (by omega), by unfold leftC; simp, BW⟩
  case round =>
    clear S2 C2 BW
    obtain ⟨j, hj, rfl, lv, A, c, S, C, hd, hlc, BW⟩ := hrel
    have HC := Lib.hid C
    have HD := Lib.hid hd
    clear C hd
    by_cases hlt : j < nn
    · obtain ⟨_, v1, v2⟩ := S.c0
      obtain ⟨y, hy⟩ := look_ex S.ln hlt
      have cl := (S.lev.cell j).trans (ivs_at hy)
      have hjn : ((j : Nat) : Int) < (nn : Int) := by omega
      have key : ∀ (wr : World) (lv : List Int) (A : Option Addr) (c : Nat) (W : List Nat), St wr w.heap.size g l (g + 1) An nn cn nn lv A c W → Climb N lv W → (∀ i < j + 1, lv[i]? ≠ some (-2)) → leftC lv W ≤ 2 * nn → Below w.heap.size w wr → True := fun _ _ _ _ _ _ _ _ _ _ => trivial
      clear key
      by_cases h2 : y = -2
      · have e2 : (y == -2) = true := by simp [h2]
        subst h2
        go_wp2_with fail
        refine (await_as S j hlt (by simp)).mono ?_
        rintro en w4 ⟨⟨u, rfl⟩, A', c', S4, b4⟩
        have C4 := HC.out.await hy (fun V q e => by simp at e)
        have D4 : Hid (∀ i < j + 1, (lv.set j (-1))[i]? ≠ some (-2)) := Lib.hid fun i hi => by
          rw [set_at (List.getElem?_eq_some_iff.1 hy).1]
          split
          · intro e; injection e with e; omega
          · exact HD.out i (by omega)
        have L4 := left_await (W := []) hy
        have hlc4 : leftC (lv.set j (-1)) ([] ++ [j]) ≤ 2 * nn := by omega
        replace BW := BW.trans b4
        clear S v1 v2 cl b4 L4
        go_wp2_with fail
        go_loopw [25] (fun _ wr => ∃ (lv : List Int) (A : Option Addr) (c : Nat) (W : List Nat), St wr w.heap.size g l (g + 1) An nn cn nn lv A c W ∧ Climb N lv W ∧ (∀ i < j + 1, lv[i]? ≠ some (-2)) ∧ leftC lv W ≤ 2 * nn ∧ Below w.heap.size w wr) (fun _ wr => leftW l g wr)
        case atStart => exact ⟨_, _, _, _, S4, C4, D4.out, hlc4, BW⟩
        case round =>
          clear S4 C4 D4 BW HC HD hlc hlc4
          obtain ⟨lv, A, c, W, S, C, hd, hlc, BW⟩ := hrel
          have HC := Lib.hid C
          have HD := Lib.hid hd
          clear C hd
          obtain ⟨_, v1, v2⟩ := S.c0
          rcases snoc_cases W with rfl | ⟨V, q, rfl⟩
          · go_wp2_with fail
            go_roundw
            case rel => exact ⟨j + 1, by omega, by go_num, _, _, _, S, HC.out, HD.out, hlc, BW⟩
            case measure => simp [intOf]; omega
          · have hwl : V.length ≤ 500000 := by
              have : leftC lv (V ++ [q]) = 2 * lv.count (-2) + (V ++ [q]).length := rfl
              rw [List.length_append] at this
              omega
            have g0 : (0 : Int) < ((V ++ [q]).length : Int) := by rw [List.length_append, List.length_singleton]; omega
            have g1 : decide (0 < (V ++ [q]).length) = true := by simp
            go_wp2_with fail
            refine (step_as S (HN.out.on BW) hn HC.out hwl HF.out).mono ?_
            rintro en w5 ⟨⟨b, rfl, hb0, hb1⟩, b5⟩
            cases b
            · have h1 := hb0 rfl
              go_wp2_with fail
              refine bodyPost_ret (v := .tuple #[.slice none 0 0, .bool false]) (by simp [results, Try.results70, go_sem]) rfl ?_
              exact .inr ⟨rfl, levS_none h1, BW.trans b5⟩
            · obtain ⟨lv', A', c', W', S', C', hlt', hwl', hd'⟩ := hb1 rfl
              have ML : leftW l g w5 < leftW l g wr := by rw [leftW_is S', leftW_is S]; exact hlt'
              go_wp2_with fail
              go_roundw
              case rel => exact ⟨_, _, _, _, S', C', fun i hi e => HD.out i hi (hd' i e), by omega, BW.trans b5⟩
              case measure => exact ML
      · have e2 : (y == -2) = false := by simp [h2]
        have D4 : Hid (∀ i < j + 1, lv[i]? ≠ some (-2)) := Lib.hid fun i hi => by
          by_cases e : i = j
          · rw [e, hy]; intro e3; injection e3 with e3; exact h2 e3
          · exact HD.out i (by omega)
        have C4 := HC.out
        have S4 := S
        have hlc4 := hlc
        go_wp2_with fail
        clear S v1 v2 cl
        go_loopw [25] (fun _ wr => ∃ (lv : List Int) (A : Option Addr) (c : Nat) (W : List Nat), St wr w.heap.size g l (g + 1) An nn cn nn lv A c W ∧ Climb N lv W ∧ (∀ i < j + 1, lv[i]? ≠ some (-2)) ∧ leftC lv W ≤ 2 * nn ∧ Below w.heap.size w wr) (fun _ wr => leftW l g wr)
        case atStart => exact ⟨_, _, _, _, S4, C4, D4.out, hlc4, BW⟩
        case round =>
          clear S4 C4 D4 BW HC HD hlc hlc4
          obtain ⟨lv, A, c, W, S, C, hd, hlc, BW⟩ := hrel
          have HC := Lib.hid C
          have HD := Lib.hid hd
          clear C hd
          obtain ⟨_, v1, v2⟩ := S.c0
          rcases snoc_cases W with rfl | ⟨V, q, rfl⟩
          · go_wp2_with fail
            go_roundw
            case rel => exact ⟨j + 1, by omega, by go_num, _, _, _, S, HC.out, HD.out, hlc, BW⟩
            case measure => simp [intOf]; omega
          · have hwl : V.length ≤ 500000 := by
              have : leftC lv (V ++ [q]) = 2 * lv.count (-2) + (V ++ [q]).length := rfl
              rw [List.length_append] at this
              omega
            have g0 : (0 : Int) < ((V ++ [q]).length : Int) := by rw [List.length_append, List.length_singleton]; omega
            have g1 : decide (0 < (V ++ [q]).length) = true := by simp
            go_wp2_with fail
            refine (step_as S (HN.out.on BW) hn HC.out hwl HF.out).mono ?_
            rintro en w5 ⟨⟨b, rfl, hb0, hb1⟩, b5⟩
            cases b
            · have h1 := hb0 rfl
              go_wp2_with fail
              refine bodyPost_ret (v := .tuple #[.slice none 0 0, .bool false]) (by simp [results, Try.results70, go_sem]) rfl ?_
              exact .inr ⟨rfl, levS_none h1, BW.trans b5⟩
            · obtain ⟨lv', A', c', W', S', C', hlt', hwl', hd'⟩ := hb1 rfl
              have ML : leftW l g w5 < leftW l g wr := by rw [leftW_is S', leftW_is S]; exact hlt'
              go_wp2_with fail
              go_roundw
              case rel => exact ⟨_, _, _, _, S', C', fun i hi e => HD.out i hi (hd' i e), by omega, BW.trans b5⟩
              case measure => exact ML
    · obtain rfl : j = nn := by omega
      obtain ⟨hall, hpos⟩ := HC.out.all (fun i hi => HD.out i (by rw [HLN.out] at hi; exact hi))
      obtain ⟨_, v1, _⟩ := S.c0
      go_wp2_with fail
      refine bodyPost_ret (v := .tuple #[.slice (some ⟨l, 0, none⟩) j j, .bool true]) (by simp [results, Try.results70, go_sem]) rfl ?_
      refine .inl ⟨l, _, rfl, hall, by rw [List.length_map]; exact S.ln, ?_, BW⟩
      have e : (lv.map Int.toNat).map (fun x : Nat => (x : Int)) = lv := by
        rw [List.map_map]
        conv => rhs; rw [← List.map_id lv]
        refine List.map_congr_left fun x hx => ?_
        have := hpos x hx
        simp only [Function.comp]
        show ((x.toNat : Nat) : Int) = x
        omega
      rw [e]
      refine ⟨S.ln, fun k x hx => ⟨l, 0, rfl, S.lev.lt, ?_⟩⟩
      rw [Nat.zero_add]
      exact (S.lev.cell k).trans (ivs_at hx)
/-- a net lies so. -/
structure Nt (w : World) (An : Option Addr) (nn cn : Nat) (Ai : Option Addr) (ni ci : Nat) (Ao : Option Addr) (no co : Nat) (N : List Nd) (I O : List Pt) : Prop where
  n : Ns w An nn N
  i : Ps w Ai ni I
  o : Ps w Ao no O
  si : Sw Ai ni ci
  so : Sw Ao no co
  hn : nn ≤ 100000
  hs : ni + no ≤ 1000
  hb : ∀ p ∈ I ++ O, p.bits.length ≤ 1000000
theorem Nt.on {w w' : World} {An Ai Ao : Option Addr} {nn cn ni ci no co : Nat} {N : List Nd} {I O : List Pt} (h : Nt w An nn cn Ai ni ci Ao no co N I O) (hb : Below w.heap.size w w') : Nt w' An nn cn Ai ni ci Ao no co N I O :=
  ⟨h.n.on hb, h.i.on hb, h.o.on hb, h.si, h.so, h.hn, h.hs, h.hb⟩
/-- the levels of a net, or why there are none. -/
noncomputable def levelS (N : List Nd) (I O : List Pt) : Option (List Nat) × Int := if wrongS N I O ≠ 0 then (none, wrongS N I O) else match levS N with | some d => (some d, 0) | none => (none, 9)
def ints (d : Option (List Nat)) : List Int := (d.getD []).map fun x : Nat => (x : Int)
/-- levels are told. -/
def LvX (w : World) (d : Option (List Nat)) (e : Int) (en : Ending) (w' : World) : Prop := ∃ A m c, en = .returned (.tuple #[.slice A m c, .int .i64 e]) ∧ Is w' A m (ints d) ∧ m ≤ c ∧ Below w.heap.size w w'
theorem wrong_form {N : List Nd} {I O : List Pt} (h : wrongS N I O = 0) : N.all (formedS N.length) = true := by
  unfold wrongS at h
  split at h
  · cases h
  · split at h
    · rename_i h2
      exact (Bool.and_eq_true_iff.1 h2).1
    · cases h
end Go.Proofs.Ytcehklnonhalhaa
