
/-
  The reference's Word, Of: lists of bits that grow.
-/
import Derived.Test.YthaehfdjldjdiaaDoorRefb
import Derived.Test.YthaehfdjldjdiaaDoorLaws
namespace Go.Proofs.YthaehfdjldjdiaaDoor
open Go.RowKit
set_option linter.unusedVariables false

/-- the slice value v is the call's own (or nil) and holds the cells xs. -/
def Grow (w : World) (base : Nat) (t : TypeId) (v : Value) (xs : List Value) : Prop := w.ownsRow base t 1 v xs.length xs

theorem Grow.form {w : World} {base : Nat} {t : TypeId} {v : Value} {xs : List Value} (h : Grow w base t v xs) : ∃ A c, v = .slice A xs.length c ∧ Sl w w.heap.size A xs.length xs ∧ xs.length ≤ c ∧ c ≤ maxLen := by
  rcases h.2 with ⟨rfl, hn⟩ | ⟨g, cap, cur, rfl, hb, hg, h1, h2, h3, h4⟩
  · have : xs = [] := List.eq_nil_of_length_eq_zero hn
    subst this
    exact ⟨none, 0, rfl, Sl.nil_, Nat.le_refl _, by unfold maxLen; omega⟩
  · refine ⟨some ⟨g, 0, none⟩, cap, rfl, ⟨rfl, fun i u hu => ⟨g, 0, rfl, (Array.getElem?_eq_some_iff.1 hg).1, ?_⟩⟩, h1, h2⟩
    rw [Nat.zero_add, cell_of_row w g i cur t (0, 0) hg]
    rw [← h4, List.getElem?_take] at hu
    split at hu
    · simpa using hu
    · cases hu
theorem Grow.tag {w : World} {base n c : Nat} {t : TypeId} {A : Option Addr} {xs : List Value} (h : Grow w base t (.slice A n c) xs) : Tg w A n t := fun h0 => by
  rcases h.2 with ⟨hv, hn⟩ | ⟨g, cap, cur, hv, hb, hg, h1, h2, h3, h4⟩
  · injection hv with _ e; omega
  · injection hv with e
    exact ⟨g, 0, cur, _, e, hg⟩
theorem Grow.bits {w : World} {base : Nat} {v : Value} {bs : List Bool} (h : Grow w base 4 v (Bo bs)) : ∃ A c, v = .slice A (Bo bs).length c ∧ BS w A (Bo bs).length bs ∧ (Bo bs).length ≤ c ∧ c ≤ maxLen := by
  obtain ⟨A, c, hv, hs, h1, h2⟩ := h.form
  subst hv
  exact ⟨A, c, rfl, ⟨hs, h.tag⟩, h1, h2⟩
theorem Grow.made (w : World) {base : Nat} (t : TypeId) (hb : base ≤ w.heap.size) : Grow (w.alloc (.cells #[] t)) base t (.slice (some ⟨w.heap.size, 0, none⟩) 0 0) [] :=
  World.ownsRow_lit w #[] 0 hb (by unfold maxLen; omega) rfl

/-- append(out, x), one element of one cell. -/
theorem wpList_push {P : Program} (w : World) {ops : Array Oper} {rest : List Oper} {o : Oper} {a : Act} {Q : Exit → Act → World → Prop} (hgd : o.guard = none) (s x : Operand) (t : TypeId)
    (ho : o.op = .call { callee := .builtin .append, args := #[s, x], argTypes := #[t, t] })
    (base : Nat) (e : TypeId) (z : Value) (by_ : Nat) (ht : P.underlying t = some (.slice e)) (h2 : (P.info? e).map (fun i => (i.zero, i.size, i.bytes)) = some (some z, 1, by_)) (hz : z.cells.size = 1) (hby : by_ ≤ 64)
    (v : Value) (xs : List Value) (hs : a.eval s = v) (hown : Grow w base e v xs) (u : Value) (hu : u.oneCell' = true) (hx : a.eval x = .slice (some ⟨w.heap.size, 0, none⟩) 1 1)
    (hlen : xs.length ≤ 3000000) (hbase : base ≤ w.heap.size)
    (h : ∀ v' w', Grow w' base e v' (xs ++ [u]) → Below base w w' → wpList P ops Q rest (a.put o.dst v') w') : wpList P ops Q (o :: rest) a (w.alloc (.cells #[u] e)) := by
  obtain ⟨i, hi, i1, i2, i3⟩ := info_parts h2
  refine wpList_append_own _ hgd s x t ho base e i z 1 by_ ht hi i1 i2 i3 hz (by omega) v xs.length xs hs (World.ownsRow.alloc hown _) ⟨w.heap.size, 0, none⟩ 1 1 [u] hx rfl ?_ ?_ ?_ ?_ ?_ ?_
  · intro j u' hj
    match j, hj with
    | 0, hj =>
      simp at hj
      subst hj
      simp [Addr.add]
  · intro u' hu'
    simp at hu'
    subst hu'
    exact hu
  · unfold maxLen; omega
  · have : (xs.length + 1) * by_ ≤ 3000001 * 64 := Nat.mul_le_mul (by omega) hby
    omega
  · simp; omega
  · intro v' w' hown' hg _
    refine h v' w' ?_ ?_
    · unfold Grow
      rw [List.length_append]
      exact hown'
    · refine (Below.refl base w).alloc hbase _ |>.grown hg (by simp; omega) (fun k hk => ?_)
      exact (World.ownsRow.lt hown k hk).1

theorem bool_info : (Tryd.prog.info? 4).map (fun i => (i.zero, i.size, i.bytes)) = some (some (.bool false), 1, 1) := by kernel_rfl

/-- a function that answers bits. -/
def BitsPost (w : World) (x : Nat) (e : Ending) (w' : World) : Prop := ∃ A n c, e = .returned (.slice A n c) ∧ BR w' A n c x ∧ Below w.heap.size w w'

theorem bit_odd (n : Nat) : (((n : Int) % 2) == 1) = decide (n % 2 = 1) := by
  rw [Bool.eq_iff_iff]; simp; omega

set_option maxHeartbeats 1000000 in
theorem rword_any (n0 : Nat) (hn0 : n0 < 18446744073709551616) (w : World) :
    Calls Tryd.prog 28 #[.int .u64 n0] w (BitsPost w n0) := by
  go_enter Tryd.func28, Tryd.ntmps28
  go_wp2_with fail
  go_loopw [0, 3] (fun t v wr => ∃ (k n : Nat) (bs : List Bool), k ≤ 64 ∧ n = n0 / 2 ^ k ∧ t = .int .u64 n ∧ bs.length = k ∧ bval bs = n0 % 2 ^ k ∧ (0 < k → 2 ^ (k - 1) ≤ n0) ∧ Grow wr w.heap.size 4 v (Bo bs) ∧ Below w.heap.size w wr) (fun t _ _ => (intOf t).toNat)
  case atStart => exact ⟨0, n0, [], by omega, by simp, rfl, rfl, by simp [bval, Nat.mod_one], by omega, Grow.made w _ (Nat.le_refl _), (Below.refl _ _).alloc (Nat.le_refl _) _⟩
  case round =>
    obtain ⟨k, n, bs, hk, hn, rfl, hl, hs, h2, hgr, hb⟩ := hrel
    have HN := Lib.hid hn
    have HL := Lib.hid hl
    have HS := Lib.hid hs
    have H2 := Lib.hid h2
    have HG := Lib.hid hgr
    have hsz := hb.size
    clear hn hl hs h2 hgr
    have hnl : n < 18446744073709551616 := by rw [HN.out]; exact Nat.lt_of_le_of_lt (Nat.div_le_self _ _) hn0
    by_cases h0 : n = 0
    · subst h0
      go_wp2_with fail
      obtain ⟨A, c, hv, hsl, hc1, hc2⟩ := HG.out.bits
      rw [hv]
      go_ret
      have hx : n0 < 2 ^ k := by
        have := HN.out
        rcases Nat.lt_or_ge n0 (2 ^ k) with h | h
        · exact h
        · have := Nat.div_pos h (Nat.two_pow_pos k); omega
      have hs := HS.out
      rw [Nat.mod_eq_of_lt hx] at hs
      refine ⟨A, _, c, rfl, ⟨bs, hsl, hc1, hc2, BC.of_low (fun hp => ?_), hs⟩, hb⟩
      rw [HL.out] at hp ⊢
      rw [hs]
      exact H2.out hp
    · have hp : (0 : Int) < (n : Int) := by omega
      have hk64 : k < 64 := by
        rcases Nat.lt_or_ge k 64 with h | h
        · exact h
        · have h1 : k = 64 := by omega
          have := HN.out
          rw [h1, Nat.div_eq_of_lt (by omega)] at this
          exact (h0 this).elim
      go_wp2_with (at_builtin; refine wpList_push _ rfl _ _ 32 rfl w.heap.size 4 (.bool false) 1 Tryd.underlying32 bool_info rfl (by omega) _ _ rfl HG.out _ rfl rfl (by rw [Bo_len, HL.out]; omega) hsz ?_; intro v' w1 hg1 hb1)
      go_roundw
      case rel =>
        have hn := HN.out
        refine ⟨k + 1, n / 2, bs ++ [decide (n % 2 = 1)], by omega, by rw [div_succ, ← hn], by go_num, by rw [List.length_append, HL.out]; rfl, ?_, fun _ => ?_, ?_, hb.trans hb1⟩
        · rw [bval_snoc, HS.out, HL.out, mod_succ, ← hn, decide_toNat]
        · simp only [Nat.add_sub_cancel]
          rcases Nat.lt_or_ge n0 (2 ^ k) with h | h
          · rw [Nat.div_eq_of_lt h] at hn; exact (h0 hn).elim
          · exact h
        · rw [← Bo_snoc, ← bit_odd]; exact hg1
      case measure => simp [intOf]; omega

set_option maxHeartbeats 1000000 in
theorem rof_any {A : Option Addr} {n c : Nat} {xs : List Nat} {w : World} (h : NR w w.heap.size A n xs) (hn : n ≤ 30000) :
    Calls Tryd.prog 68 #[.slice A n c] w (BitsPost w (val xs)) := by
  have HNL := Lib.hid h.len
  go_enter Tryd.func68, Tryd.ntmps68
  go_wp2_with fail
  go_loopw [3, 4] (fun v iv wr => ∃ (i : Nat) (bs : List Bool), i ≤ n ∧ iv = .int .i64 i ∧ bs.length = 32 * i ∧ bval bs = val (xs.take i) ∧ Grow wr w.heap.size 4 v (Bo bs) ∧ Below w.heap.size w wr) (fun _ iv _ => n - (intOf iv).toNat)
  case atStart => exact ⟨0, [], by omega, rfl, rfl, by simp [bval, val], Grow.made w _ (Nat.le_refl _), (Below.refl _ _).alloc (Nat.le_refl _) _⟩
  case round =>
    obtain ⟨i, bs, hi, rfl, hl, hs, hgr, hb⟩ := hrel
    have HL := Lib.hid hl
    have HS := Lib.hid hs
    have HG := Lib.hid hgr
    clear hl hs hgr
    by_cases hlt : i < n
    · obtain ⟨b, off, x, hA, hbb, HX, hlx, hcell⟩ := (h.below hb).look hlt
      subst hA
      go_wp2_with fail
      obtain ⟨wo, rfl⟩ : ∃ wo : World, wo = wr := ⟨_, rfl⟩
      go_loopw [3, 5, 6] (fun v t kv wr => ∃ (k y : Nat) (bs : List Bool), k ≤ 32 ∧ kv = .int .i64 k ∧ y = x / 2 ^ k ∧ t = .int .u32 y ∧ OfInv xs bs i k x ∧ Grow wr w.heap.size 4 v (Bo bs) ∧ Below w.heap.size w wr) (fun _ _ kv _ => 32 - (intOf kv).toNat)
      case atStart => exact ⟨0, x, bs, by omega, rfl, by simp, rfl, OfInv.zero xs i x bs HL.out HS.out, HG.out, hb⟩
      case round =>
        obtain ⟨k, y, cs, hk, rfl, hy, rfl, hinv, hgr, hb2⟩ := hrel
        have HY := Lib.hid hy
        have HI := Lib.hid hinv
        have HG2 := Lib.hid hgr
        have hsz := hb2.size
        have hyl : y < 4294967296 := by rw [hy]; exact Nat.lt_of_le_of_lt (Nat.div_le_self _ _) hlx
        clear hy hinv hgr
        by_cases hk32 : k < 32
        · go_wp2_with (at_builtin; refine wpList_push _ rfl _ _ 32 rfl w.heap.size 4 (.bool false) 1 Tryd.underlying32 bool_info rfl (by omega) _ _ rfl HG2.out _ rfl rfl (by rw [Bo_len, HI.out.len]; omega) hsz ?_; intro v' w1 hg1 hb1)
          go_roundw
          case rel =>
            refine ⟨k + 1, y / 2, cs ++ [decide (y % 2 = 1)], by omega, by go_num, by rw [div_succ, ← HY.out], by go_num, HI.out.step _ (by rw [decide_toNat, HY.out]), ?_, hb2.trans hb1⟩
            rw [← Bo_snoc, ← bit_odd]; exact hg1
          case measure => simp [intOf]; omega
        · obtain rfl : k = 32 := by omega
          go_wp2_with fail
          go_roundw
          case rel =>
            obtain ⟨l1, l2⟩ := HI.out.last HX.out hlx
            exact ⟨i + 1, cs, by omega, by go_num, l1, l2, HG2.out, hb2⟩
          case measure => simp [intOf]; omega
    · obtain rfl : i = n := by omega
      go_wp2_with fail
      obtain ⟨A', c', hv, hsl, hc1, hc2⟩ := HG.out.bits
      rw [hv]
      have hs := HS.out
      rw [List.take_of_length_le (by rw [HNL.out]; omega)] at hs
      refine (rcutN (bs := bs) hsl hc1 hc2 hs).mono ?_
      rintro e w' ⟨m, rfl, hr, hm, rfl⟩
      clear hv
      go_wp2_with fail
      go_ret
      exact ⟨_, m, _, rfl, hr, hb⟩
end Go.Proofs.YthaehfdjldjdiaaDoor
