
/-
  The reference's Sub, Left, Right.
-/
import Derived.Test.YthaehfdjldjdiaaDoorRefd
namespace Go.Proofs.YthaehfdjldjdiaaDoor
open Go.RowKit
set_option linter.unusedVariables false

set_option maxHeartbeats 2000000 in
theorem rsub_any {A1 A2 : Option Addr} {n1 c1 n2 c2 x y : Nat} {w : World} (h1 : BR w A1 n1 c1 x) (h2 : BR w A2 n2 c2 y) (s1 : n1 ≤ 1000000) (s2 : n2 ≤ 1000000) (hle : y ≤ x) :
    Calls Tryd.prog 42 #[.slice A1 n1 c1, .slice A2 n2 c2] w (BitsPost w (x - y)) := by
  have S1 := Lib.hid h1.size
  obtain ⟨xs, r1, _, _, _, v1⟩ := h1
  obtain ⟨ys, r2, _, _, _, v2⟩ := h2
  have V1 := Lib.hid v1
  have V2 := Lib.hid v2
  clear v1 v2
  go_enter Tryd.func42, Tryd.ntmps42
  go_wp2_with fail
  go_loopw [5, 6, 7] (fun v cv iv wr => ∃ (k : Nat) (cy : Bool) (bs : List Bool), k ≤ n1 ∧ iv = .int .i64 k ∧ cv = .bool cy ∧ BSubInv x y bs k cy ∧ Grow wr w.heap.size 4 v (Bo bs) ∧ Below w.heap.size w wr) (fun _ _ iv _ => n1 - (intOf iv).toNat)
  case atStart => exact ⟨0, false, [], by omega, rfl, rfl, BSubInv.zero x y, Grow.made w _ (Nat.le_refl _), (Below.refl _ _).alloc (Nat.le_refl _) _⟩
  case round =>
    obtain ⟨k, cy, bs, hk, rfl, rfl, hinv, hgr, hb⟩ := hrel
    have HI := Lib.hid hinv
    have HG := Lib.hid hgr
    have hsz := hb.size
    clear hinv hgr
    by_cases hlt : k < n1
    · obtain ⟨bb, off, a, hA, hbb, HX, hcell⟩ := (r1.on hb).look hlt
      subst hA
      obtain ⟨b, eb⟩ : ∃ b, ys.getD k false = b := ⟨_, rfl⟩
      have C2 := Lib.hid (rbit_any (c := c2) (r2.on hb) (by omega) (k : Int) b (by show _ = _; rw [bitAt_nat, eb]))
      have B1 := Lib.hid (bval_bit xs k a HX.out)
      have B2 := Lib.hid (bval_bit ys k b eb)
      rw [V1.out] at B1
      rw [V2.out] at B2
      clear eb
      cases a <;> cases b <;> cases cy
      all_goals
        go_wp2_with fail
        refine (C2.out).mono ?_
        rintro e w' ⟨rfl, rfl⟩
        go_wp2_with (at_builtin; refine wpList_push _ rfl _ _ 32 rfl w.heap.size 4 (.bool false) 1 Tryd.underlying32 bool_info rfl (by omega) _ _ rfl HG.out _ rfl rfl (by rw [Bo_len, HI.out.len]; omega) hsz ?_; intro v' w1 hg1 hb1)
        go_roundw
        case rel =>
          rw [Bo_snoc] at hg1
          exact ⟨k + 1, _, _, by omega, by go_num, rfl, HI.out.step _ _ B1.out B2.out, hg1, hb.trans hb1⟩
        case measure => simp [intOf]; omega
    · obtain rfl : k = n1 := by omega
      go_wp2_with fail
      obtain ⟨A', c', hv, hsl, hc1, hc2⟩ := HG.out.bits
      rw [hv]
      have hz1 := S1.out
      refine (rcutN (bs := bs) hsl hc1 hc2 (HI.out.last (by omega) hle)).mono ?_
      rintro e w' ⟨m, rfl, hr, hm, rfl⟩
      clear hv hz1
      go_wp2_with fail
      go_ret
      exact ⟨_, m, _, rfl, hr, hb⟩

theorem Bo_zeros (n : Nat) : List.replicate n (Value.bool false) = Bo (List.replicate n false) := by simp [Bo]
theorem Own.grow {w : World} {base g : Nat} {t : TypeId} {cs : List Value} (h : Own w g t cs) (hb : base ≤ g) (hm : cs.length ≤ maxLen) : Grow w base t (.slice (some ⟨g, 0, none⟩) cs.length cs.length) cs :=
  ⟨by simp, .inr ⟨g, cs.length, cs.toArray, rfl, hb, h, Nat.le_refl _, hm, by simp, by simp⟩⟩

theorem grow_zeros {w : World} {g i : Nat} {t : TypeId} (h : Own w g t (List.replicate i (Value.bool false))) (hi : i ≤ 1000000) : Grow w g t (.slice (some ⟨g, 0, none⟩) i i) (Bo (List.replicate i false)) := by
  have := h.grow (Nat.le_refl g) (by rw [List.length_replicate]; unfold maxLen; omega)
  rw [List.length_replicate, Bo_zeros] at this
  exact this
theorem add_at (b off j : Nat) : (⟨b, off, none⟩ : Addr).add j = ⟨b, off + j, none⟩ := by
  unfold Addr.add
  split
  · rename_i e; subst e; rfl
  · rfl
/-- append(out, src...), the source being at an address. -/
theorem wpList_join {P : Program} (w : World) {ops : Array Oper} {rest : List Oper} {o : Oper} {a : Act} {Q : Exit → Act → World → Prop} (hgd : o.guard = none) (s x : Operand) (t : TypeId)
    (ho : o.op = .call { callee := .builtin .append, args := #[s, x], argTypes := #[t, t] })
    (base : Nat) (e : TypeId) (z : Value) (by_ : Nat) (ht : P.underlying t = some (.slice e)) (h2 : (P.info? e).map (fun i => (i.zero, i.size, i.bytes)) = some (some z, 1, by_)) (hz : z.cells.size = 1) (hby : by_ ≤ 64)
    (v : Value) (xs : List Value) (hs : a.eval s = v) (hown : Grow w base e v xs) (B b off m c : Nat) (ys : List Value) (hx : a.eval x = .slice (some ⟨b, off, none⟩) m c) (hy : Sl w B (some ⟨b, off, none⟩) m ys)
    (hu : ∀ u ∈ ys, u.oneCell' = true) (hlen : xs.length + m ≤ 3000000) (hbase : base ≤ w.heap.size)
    (h : ∀ v' w', Grow w' base e v' (xs ++ ys) → Below base w w' → wpList P ops Q rest (a.put o.dst v') w') : wpList P ops Q (o :: rest) a w := by
  obtain ⟨i, hi, i1, i2, i3⟩ := info_parts h2
  refine wpList_append_own _ hgd s x t ho base e i z 1 by_ ht hi i1 i2 i3 hz (by omega) v xs.length xs hs hown ⟨b, off, none⟩ m c ys hx (by rw [hy.1, Nat.mul_one]) ?_ hu ?_ ?_ hbase ?_
  · intro j u hj
    obtain ⟨b', off', he, _, hc⟩ := hy.2 j u hj
    injection he with he
    injection he with e1 e2
    subst e1 e2
    rw [add_at]
    exact hc
  · unfold maxLen; omega
  · have : (xs.length + m) * by_ ≤ 3000000 * 64 := Nat.mul_le_mul (by omega) hby
    omega
  · intro v' w' hown' hg _
    refine h v' w' ?_ ?_
    · unfold Grow
      rw [List.length_append, hy.1]
      exact hown'
    · exact (Below.refl base w).grown hg hbase (fun k hk => (World.ownsRow.lt hown k hk).1)
theorem Bo_one (bs : List Bool) : ∀ u ∈ Bo bs, u.oneCell' = true := by
  intro u hu
  obtain ⟨b, _, rfl⟩ := List.mem_map.1 hu
  rfl
theorem Bo_append (as_ bs : List Bool) : Bo as_ ++ Bo bs = Bo (as_ ++ bs) := by simp [Bo]

theorem rleft_none {A : Option Addr} {n c : Nat} {w : World} (h : BR w A n c 0) (i : Int) :
    Calls Tryd.prog 65 #[.slice A n c, .int .i64 i] w (BitsPost w 0) := by
  obtain rfl : n = 0 := h.size
  go_enter Tryd.func65, Tryd.ntmps65
  go_wp2_with fail
  go_ret
  exact ⟨A, 0, c, rfl, h, Below.refl _ _⟩

set_option maxHeartbeats 1000000 in
theorem rleft_any {A : Option Addr} {n c x : Nat} {w : World} (h : BR w A n c x) (hx : x ≠ 0) (hn : n ≤ 1000000) (i : Nat) (hi : i ≤ 1000000) :
    Calls Tryd.prog 65 #[.slice A n c, .int .i64 i] w (BitsPost w (x * 2 ^ i)) := by
  have S1 := h.size
  have hz : ((n : Int) == 0) = false := by
    rw [S1]
    have := (blen_pos hx).2
    simp; omega
  have hn0 : 0 < n := by rw [S1]; exact (blen_pos hx).2
  obtain ⟨bs, hr, hc1, hc2, hbc, hv⟩ := h
  have HV := Lib.hid hv
  have HBL := Lib.hid hr.len
  clear hv S1
  obtain ⟨bb, off, a0, hA, hbb, _, _⟩ := hr.look hn0
  subst hA
  go_enter Tryd.func65, Tryd.ntmps65
  go_wp2_with (first
    | (at_make; refine wpList_zeros _ rfl _ _ 32 rfl 4 (.bool false) 1 Tryd.underlying32 bool_info rfl (by omega) _ i rfl rfl (by omega) (by omega) ?_; intro w1 ho hb1 hz1; have hr1 := (hr.on hb1).1; have hgw : Grow w1 w.heap.size 4 (.slice (some ⟨w.heap.size, 0, none⟩) i i) (Bo (List.replicate i false)) := grow_zeros ho hi; have hlt1 := hb1.size)
    | (at_builtin; refine wpList_join _ rfl _ _ 32 rfl w.heap.size 4 (.bool false) 1 Tryd.underlying32 bool_info rfl (by omega) _ _ rfl hgw _ bb off n c _ rfl hr1 (Bo_one _) (by rw [Bo_len, List.length_replicate]; omega) hlt1 ?_; intro v' w2 hg2 hb2))
  rw [Bo_append] at hg2
  obtain ⟨A', c', hv, hsl, hc1', hc2'⟩ := hg2.bits
  rw [hv]
  go_ret
  obtain ⟨l1, l2⟩ := hbc.left (by intro e; rw [e] at HBL; have := HBL.out; simp at this; omega) i
  rw [HV.out] at l2
  exact ⟨A', _, c', rfl, ⟨_, hsl, hc1', hc2', l1, l2⟩, hb1.trans hb2⟩
end Go.Proofs.YthaehfdjldjdiaaDoor
