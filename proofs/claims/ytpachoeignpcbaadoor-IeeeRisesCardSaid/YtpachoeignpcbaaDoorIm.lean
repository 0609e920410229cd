
/-
  The laws' finite (a list of numbers, made by append) and wide.
-/
import Derived.Test.YtpachoeignpcbaaDoorIi
import Derived.Laws.AppendOwn
import Derived.LoopN
namespace Go.Proofs.YtpachoeignpcbaaDoor
open Go.RowKit
set_option linter.unusedVariables false

/-- a row of numbers of the call's own: n of them, as cells; no cell of its block is a part of 32 bits. -/
def DR (w : World) (base : Nat) (e : TypeId) (v : Value) (n : Nat) (xs : List Value) : Prop :=
  xs.length = n * 3 ∧ ((v = .slice none 0 0 ∧ n = 0) ∨
    ∃ g cap cur, v = .slice (some ⟨g, 0, none⟩) n cap ∧ base ≤ g ∧ w.heap[g]? = some (.cells cur e (0, 0)) ∧ n ≤ cap ∧ cap ≤ maxLen ∧ cur.size = cap * 3 ∧ cur.toList.take (n * 3) = xs ∧ ∀ u ∈ cur.toList, NotU u)
theorem DR.nil_ (w : World) (base : Nat) (e : TypeId) : DR w base e (.slice none 0 0) 0 [] := ⟨rfl, .inl ⟨rfl, rfl⟩⟩
theorem DR.block {w : World} {base : Nat} {e : TypeId} {v : Value} {n : Nat} {xs : List Value} (h : DR w base e v n xs) : ∀ k, v.ownBlock = some k → base ≤ k ∧ k < w.heap.size := by
  intro k hk
  rcases h.2 with ⟨rfl, _⟩ | ⟨g, cap, cur, rfl, hb, hg, _⟩
  · cases hk
  · injection hk with hk
    subst hk
    exact ⟨hb, (Array.getElem?_eq_some_iff.1 hg).1⟩
theorem DR.on {w w' : World} {base : Nat} {e : TypeId} {v : Value} {n : Nat} {xs : List Value} (h : DR w base e v n xs) (hb : Below w.heap.size w w') : DR w' base e v n xs := by
  refine ⟨h.1, ?_⟩
  rcases h.2 with h1 | ⟨g, cap, cur, h1, h2, h3, h4⟩
  · exact .inl h1
  · exact .inr ⟨g, cap, cur, h1, h2, (hb.block g (Array.getElem?_eq_some_iff.1 h3).1).trans h3, h4⟩
/-- a number's parts don't lie in the row's block. -/
theorem Res.apart {w w' : World} {base : Nat} {e : TypeId} {v : Value} {n : Nat} {xs : List Value} (hd : DR w base e v n xs) (hg : w.grownBy w' v.ownBlock) {A : Option Addr} {k x : Nat} (h : Res w A k x) : Res w' A k x := by
  obtain ⟨ds, h1, h2, h3⟩ := h
  refine ⟨ds, ⟨⟨h1.1.1, fun i u hu => ?_⟩, h1.2⟩, h2, h3⟩
  obtain ⟨b, off, e1, hb, hc⟩ := h1.1.2 i u hu
  have hlt : b < w'.heap.size := Nat.lt_of_lt_of_le hb hg.size
  refine ⟨b, off, e1, hlt, hg.cell hc ?_⟩
  intro hq
  rcases hd.2 with ⟨rfl, _⟩ | ⟨g, cap, cur, rfl, _, hgg, _, _, _, _, hN⟩
  · cases hq
  · injection hq with hq
    simp only at hq
    subst hq
    rw [cell_of_row w b (off + i) cur e (0, 0) hgg] at hc
    have hm : u ∈ cur.toList := by
      have := List.mem_of_getElem? (l := cur.toList) (i := off + i) (a := u) (by simpa using hc)
      exact this
    rw [U_at] at hu
    cases hx : ds[i]? with
    | none => rw [hx] at hu; cases hu
    | some y =>
      rw [hx] at hu
      injection hu with hu
      exact hN u hm _ hu.symm
theorem zero_mem {z : Array Value} {n : Nat} {u : Value} (h : u ∈ (Builtin.zeroCells z n).toList) : u ∈ z.toList := by
  unfold Builtin.zeroCells at h
  simp at h
  obtain ⟨j, hj, rfl⟩ := h
  have hz : 0 < z.size := Nat.pos_of_ne_zero (fun e => by rw [e, Nat.mul_zero] at hj; omega)
  rw [getElem!_pos z _ (Nat.mod_lt _ hz)]
  simp
/-- what an append of one number makes. -/
theorem run_push3 {P : Program} (w : World) (base : Nat) (t ty e : TypeId) (i : TypeInfo) (z : Value) (by_ : Nat) (ht : P.underlying t = some (.slice e)) (hi : P.info? e = some i) (hz : i.zero = some z) (hs : i.size = 3) (hb : i.bytes = by_) (hzs : z.cells.size = 3) (hby : by_ ≤ 64)
    (hzn : ∀ u ∈ z.cells.toList, NotU u) (v : Value) (n : Nat) (xs : List Value) (hown : DR w base e v n xs) (ad : Addr) (u0 u1 u2 : Value) (c : Nat) (hnews : ∀ j u, [u0, u1, u2][j]? = some u → w.cell? (ad.add j) = some u) (h1 : ∀ u ∈ [u0, u1, u2], u.oneCell' = true) (hN : ∀ u ∈ [u0, u1, u2], NotU u) (hxs : ∀ u ∈ xs, NotU u)
    (hn : n ≤ 1000) (hbase : base ≤ w.heap.size) :
    ∃ v' w', (Builtin.append_ #[t, t] ty #[v, .slice (some ad) 1 c]).run P w = .ok v' w' ∧ DR w' base e v' (n + 1) (xs ++ [u0, u1, u2]) ∧ w.grownBy w' v.ownBlock := by
  subst hb
  have hl : [u0, u1, u2].length = 1 * i.size := by rw [hs]; rfl
  have hlen : (xs ++ [u0, u1, u2]).length = (n + 1) * 3 := by rw [List.length_append, hown.1, Nat.add_mul]; rfl
  have made : ∀ (old : Nat) (row : Option Nat), DR (w.drew.alloc (.cells (xs.toArray ++ [u0, u1, u2].toArray ++ Builtin.zeroCells z.cells (grownCap w (n + 1) old e - (n + 1))) e)) base e (.slice (some ⟨w.heap.size, 0, none⟩) (n + 1) (grownCap w (n + 1) old e)) (n + 1) (xs ++ [u0, u1, u2]) ∧
      w.grownBy (w.drew.alloc (.cells (xs.toArray ++ [u0, u1, u2].toArray ++ Builtin.zeroCells z.cells (grownCap w (n + 1) old e - (n + 1))) e)) row := by
    intro old row
    have g1 := grownCap_ge w (n + 1) old e
    have g2 := grownCap_le_maxLen w (n + 1) old e (by unfold maxLen; omega)
    refine ⟨⟨hlen, .inr ⟨w.heap.size, _, _, rfl, hbase, heap_alloc_new w.drew _, g1, g2, ?_, ?_, ?_⟩⟩, ⟨rfl, rfl, rfl, by simp, fun k hk _ => heap_alloc_old w.drew _ hk⟩⟩
    · simp only [Array.size_append, List.size_toArray, size_zeroCells, hzs, hown.1, List.length_cons, List.length_nil]
      omega
    · simp only [Array.toList_append, List.append_assoc]
      rw [← List.append_assoc, ← hlen]
      exact List.take_left
    · intro u hu
      simp only [Array.toList_append, List.mem_append] at hu
      rcases hu with (hu | hu) | hu
      · exact hxs u hu
      · exact hN u hu
      · exact hzn u (zero_mem hu)
  rcases hown.2 with ⟨rfl, rfl⟩ | ⟨g, cap, cur, rfl, hbg, hg, hnc, hcm, hcs, htake, hcu⟩
  · obtain rfl : xs = [] := List.eq_nil_of_length_eq_zero (by simpa using hown.1)
    have hr := run_append_nil (P := P) w t ty e i z ht hi hz ad 1 c [u0, u1, u2] hl hnews (by omega) (by omega) (by omega)
    obtain ⟨m1, m2⟩ := made 0 (Value.ownBlock (.slice none 0 0))
    simp only [Nat.zero_add, List.nil_append, Array.empty_append] at m1 m2 ⊢
    exact ⟨_, _, hr, m1, m2⟩
  · by_cases hroom : n + 1 ≤ cap
    · have hfit : n * i.size + [u0, u1, u2].length ≤ cur.size := by rw [hs, hcs]; simp only [List.length_cons, List.length_nil]; omega
      have hr := run_append_room (P := P) w t ty e i ht hi g n cap cur hg ad 1 c [u0, u1, u2] hl hnews h1 hroom hfit
      rw [hs] at hr
      refine ⟨_, _, hr, ⟨hlen, .inr ⟨g, cap, _, rfl, hbg, setRow_heap w g cur _ e _ hg, hroom, hcm, ?_, ?_, ?_⟩⟩, ⟨rfl, rfl, rfl, by simp, fun k _ hk => setRow_other w g k _ (fun e => hk (by rw [e]; rfl))⟩⟩
      · simp only [List.size_toArray, List.length_append, List.length_take, List.length_drop, Array.length_toList, List.length_cons, List.length_nil]
        omega
      · rw [htake, ← hlen]
        exact List.take_left
      · intro u hu
        simp only [List.mem_append] at hu
        rcases hu with (hu | hu) | hu
        · exact hcu u (List.mem_of_mem_take hu)
        · exact hN u hu
        · exact hcu u (List.mem_of_mem_drop hu)
    · have holds : ∀ j u, xs[j]? = some u → w.cell? ((⟨g, 0, none⟩ : Addr).add j) = some u := by
        intro j u hu
        have hadd : (⟨g, 0, none⟩ : Addr).add j = ⟨g, j, none⟩ := by unfold Addr.add; split <;> simp_all
        rw [hadd, cell_of_row w g j cur e (0, 0) hg]
        rw [← htake, List.getElem?_take] at hu
        split at hu
        · simpa using hu
        · cases hu
      have hr := run_append_grow (P := P) w t ty e i z ht hi hz ⟨g, 0, none⟩ n cap xs (by rw [hs]; exact hown.1) holds ad 1 c [u0, u1, u2] hl hnews (by omega) (by omega) (growslice_fits (by omega) (by
        have : (n + 1) * i.bytes ≤ 1001 * 64 := Nat.mul_le_mul (by omega) hby
        omega))
      obtain ⟨m1, m2⟩ := made cap (Value.ownBlock (.slice (some ⟨g, 0, none⟩) n cap))
      exact ⟨_, _, hr, m1, m2⟩
/-- append(out, v), v a number. -/
theorem wpList_push3 {P : Program} (w : World) {ops : Array Oper} {rest : List Oper} {o : Oper} {a : Act} {Q : Exit → Act → World → Prop} (hgd : o.guard = none) (s x : Operand) (t : TypeId)
    (ho : o.op = .call { callee := .builtin .append, args := #[s, x], argTypes := #[t, t] })
    (base : Nat) (e : TypeId) (z : Value) (by_ : Nat) (ht : P.underlying t = some (.slice e)) (h2 : (P.info? e).map (fun i => (i.zero, i.size, i.bytes)) = some (some z, 3, by_)) (hz : z.cells.size = 3) (hby : by_ ≤ 64) (hzn : ∀ u ∈ z.cells.toList, NotU u)
    (v : Value) (n : Nat) (xs : List Value) (hs : a.eval s = v) (hown : DR w base e v n xs) (u0 u1 u2 : Value) (h1 : ∀ u ∈ [u0, u1, u2], u.oneCell' = true) (hN : ∀ u ∈ [u0, u1, u2], NotU u) (hxs : ∀ u ∈ xs, NotU u) (hx : a.eval x = .slice (some ⟨w.heap.size, 0, none⟩) 1 1)
    (hlen : n ≤ 1000) (hbase : base ≤ w.heap.size)
    (h : ∀ v' w', DR w' base e v' (n + 1) (xs ++ [u0, u1, u2]) → Below base w w' → (∀ A k y, Res w A k y → Res w' A k y) → wpList P ops Q rest (a.put o.dst v') w') : wpList P ops Q (o :: rest) a (w.alloc (.cells #[u0, u1, u2] e)) := by
  obtain ⟨i, hi, i1, i2, i3⟩ := info_parts h2
  obtain ⟨v', w', hr, k1, k2⟩ := run_push3 (P := P) (w.alloc (.cells #[u0, u1, u2] e)) base t o.type e i z by_ ht hi i1 i2 i3 hz hby hzn v n xs (hown.on (below_lit _ _)) ⟨w.heap.size, 0, none⟩ u0 u1 u2 1 (by
    intro j u hj
    match j, hj with
    | 0, hj => simp at hj; subst hj; simp [Addr.add]
    | 1, hj => simp at hj; subst hj; simp [Addr.add]
    | 2, hj => simp at hj; subst hj; simp [Addr.add]) h1 hN hxs hlen (by simp; omega)
  have hR : ∀ A k y, Res w A k y → Res w' A k y := fun A k y hy => Res.apart (hown.on (below_lit _ _)) k2 (hy.on (below_lit _ _))
  have hB : Below base w w' := (Below.refl base w).alloc hbase _ |>.grown k2 (by simp; omega) (fun k hk => (hown.block k hk).1)
  refine wpList_plain hgd fun _ hK => ?_
  unfold Oper.wp execOp
  simp only [ho, resolve, invoke, builtin, Sem.run_bind, Sem.run_pure, Result.andThen_ok, List.map_toArray, List.map_cons, List.map_nil, hs, hx, hr]
  exact hK _ _ (h v' w' k1 hB hR)
theorem dyad_info : (Tryd.prog.info? 39).map (fun i => (i.zero, i.size, i.bytes)) = some (some (.agg #[.bool false, .slice none 0 0, .int .i64 0]), 3, 40) := by kernel_rfl
theorem dyad_notU : ∀ u ∈ (Value.agg #[.bool false, .slice none 0 0, .int .i64 0]).cells.toList, NotU u := by
  intro u hu
  simp [Value.cells] at hu
  rcases hu with rfl | rfl | rfl
  · exact notU_bool _
  · exact notU_slice _ _ _
  · exact notU_int _
/-- a number's cells. -/
def dcs (n : Bool) (A : Option Addr) (l c : Nat) (e : Int) : List Value := [.bool n, .slice A l c, .int .i64 e]
theorem dcs_notU (n : Bool) (A : Option Addr) (l c : Nat) (e : Int) : ∀ u ∈ dcs n A l c e, NotU u := by
  intro u hu
  simp [dcs] at hu
  rcases hu with rfl | rfl | rfl
  · exact notU_bool _
  · exact notU_slice _ _ _
  · exact notU_int _
theorem dcs_one (n : Bool) (A : Option Addr) (l c : Nat) (e : Int) : ∀ u ∈ dcs n A l c e, u.oneCell' = true := by
  intro u hu
  simp [dcs] at hu
  rcases hu with rfl | rfl | rfl <;> rfl
theorem app_notU {a b : List Value} (ha : ∀ u ∈ a, NotU u) (hb : ∀ u ∈ b, NotU u) : ∀ u ∈ a ++ b, NotU u := fun u hu => by
  rcases List.mem_append.1 hu with h | h
  · exact ha u h
  · exact hb u h
theorem Tab.below_ {w w' : World} (h : Tab w) (hb : Below w.heap.size w w') : Tab w' := h.on hb
/-- what finite tells of 2 finite operands: a row of the call's own. -/
def FnX2 (w : World) (n0 : Bool) (x0 : Nat) (e0 : Int) (n1 : Bool) (x1 : Nat) (e1 : Int) (en : Ending) (w' : World) : Prop :=
  ∃ g cap cur V0 v0 V1 v1, en = .returned (.tuple #[.slice (some ⟨g, 0, none⟩) 2 cap, .bool true]) ∧ w'.heap[g]? = some (.cells cur 39 (0, 0)) ∧ cur.toList.take 6 = [.bool n0, .slice V0 v0 v0, .int .i64 e0, .bool n1, .slice V1 v1 v1, .int .i64 e1] ∧ 2 ≤ cap ∧ cap ≤ maxLen ∧ w.heap.size ≤ g ∧ Res w' V0 v0 x0 ∧ Res w' V1 v1 x1 ∧ Below w.heap.size w w'
theorem FnX.mk2 {w V w' : World} {v : Value} {n0 : Bool} {x0 v0 : Nat} {V0 : Option Addr} {e0 : Int} {n1 : Bool} {x1 v1 : Nat} {V1 : Option Addr} {e1 : Int} (hd : DR w' V.heap.size 39 v (0 + 1 + 1) ([] ++ [.bool n0, .slice V0 v0 v0, .int .i64 e0] ++ [.bool n1, .slice V1 v1 v1, .int .i64 e1])) (r0 : Res w' V0 v0 x0) (r1 : Res w' V1 v1 x1) (hb : Below w.heap.size w w') (hV : w.heap.size ≤ V.heap.size) : FnX2 w n0 x0 e0 n1 x1 e1 (.returned (.tuple #[v, .bool true])) w' := by
  rcases hd.2 with ⟨_, h0⟩ | ⟨g, cap, cur, rfl, h1, h2, h3, h4, h5, h6, h7⟩
  · omega
  · exact ⟨g, cap, cur, V0, v0, V1, v1, rfl, h2, h6, h3, h4, by omega, r0, r1, hb⟩
set_option maxHeartbeats 4000000 in
theorem fin2_0 {B P W M E H : Nat} {low : Int} (hf : Fm B P W M E H low) (ba bb : Nat) (hba : ba < 18446744073709551616) (hbb : bb < 18446744073709551616) {s : Nat} {w : World} (ho : OB w s [ba, bb]) (hT : Tab w)  {er : Int} (hv0 : valS M E H low ba = (⟨false, 0, 0⟩, er)) (d1 : (er != 0) = true) :
    Calls Tryd.prog 30 #[.agg #[.int .i64 (B : Int), .int .i64 (P : Int), .int .i64 (W : Int)], .slice (some ⟨s, 0, none⟩) 2 2] w fun en w' => en = .returned (.tuple #[.slice none 0 0, .bool false]) ∧ Below w.heap.size w w' := by
  have HV0 := Lib.hid hv0
  clear hv0
  go_enter Tryd.func30, Tryd.ntmps30
  go_wp2_with fail
  obtain ⟨V, hV, z2, BW, sW⟩ := fframe1 w 25 (B : Int) (P : Int) (W : Int)
  rw [hV]
  clear hV sW
  replace hT := hT.on BW
  replace ho := ho.on BW
  refine wp_loop_rounds 3 ?_
  have KV := BW
  have BV : Below V.heap.size V V := Below.refl _ _
  have d0 : DR V V.heap.size 39 (.slice none 0 0) 0 [] := DR.nil_ _ _ _
  have xu0 : ∀ u ∈ ([] : List Value), NotU u := by intro u hu; cases hu
  rw [rounds_succ]
  have zf := Box.below z2 BV z2.1.lt
  have hTk := Tab.below_ hT BV
  have hok := Own.below ho BV (Own.lt ho)
  obtain ⟨zc0, zc1, zc2, zf0, zf1, zf2, zl⟩ := zf.cells
  have hcell : V.cell? ⟨s, 0, none⟩ = some (.int .u64 (ba : Int)) := OB.look hok (k := 0) rfl
  go_wp2_with fail
  refine (value_as hf ba hba hTk HV0.out).mono ?_
  rintro en w1 ⟨V_r0, v_r0, rfl, r0, b⟩
  have hz := BV.size
  replace BV : Below V.heap.size V w1 := BV.trans (b.mono BV.size)
  replace d0 := DR.on d0 b
  clear hz b zc0 zc1 zc2 zf0 zf1 zf2 zl zf hTk hok hcell
  go_upto_region 6 with fail
  obtain ⟨w2, e_w2⟩ : ∃ w', w1.alloc (dob false V_r0 v_r0 v_r0 0 39) = w' := ⟨_, rfl⟩
  have b : Below w1.heap.size w1 w2 := e_w2 ▸ below_lit _ _
  have zv : DB w2 w1.heap.size 39 false V_r0 v_r0 v_r0 0 := e_w2 ▸ DB.made w1 rfl 39 false V_r0 v_r0 v_r0 0
  rw [e_w2]
  clear e_w2
  replace BV : Below V.heap.size V w2 := BV.trans (b.mono BV.size)
  replace d0 := DR.on d0 b
  replace r0 := r0.on b
  clear b
  obtain ⟨vc0, vc1, vc2, vf0, vf1, vf2, vl⟩ := zv.cells
  go_wp2_with fail
  go_ret2
  exact ⟨rfl, Below.step KV BV⟩
set_option maxHeartbeats 4000000 in
theorem fin2_1 {B P W M E H : Nat} {low : Int} (hf : Fm B P W M E H low) (ba bb : Nat) (hba : ba < 18446744073709551616) (hbb : bb < 18446744073709551616) {s : Nat} {w : World} (ho : OB w s [ba, bb]) (hT : Tab w) {n0 : Bool} {x0 : Nat} {e0 : Int} (hv0 : valS M E H low ba = (⟨n0, x0, e0⟩, 0)) {er : Int} (hv1 : valS M E H low bb = (⟨false, 0, 0⟩, er)) (d1 : (er != 0) = true) :
    Calls Tryd.prog 30 #[.agg #[.int .i64 (B : Int), .int .i64 (P : Int), .int .i64 (W : Int)], .slice (some ⟨s, 0, none⟩) 2 2] w fun en w' => en = .returned (.tuple #[.slice none 0 0, .bool false]) ∧ Below w.heap.size w w' := by
  have HV0 := Lib.hid hv0
  have HV1 := Lib.hid hv1
  clear hv0 hv1
  go_enter Tryd.func30, Tryd.ntmps30
  go_wp2_with fail
  obtain ⟨V, hV, z2, BW, sW⟩ := fframe1 w 25 (B : Int) (P : Int) (W : Int)
  rw [hV]
  clear hV sW
  replace hT := hT.on BW
  replace ho := ho.on BW
  refine wp_loop_rounds 3 ?_
  have KV := BW
  have BV : Below V.heap.size V V := Below.refl _ _
  have d0 : DR V V.heap.size 39 (.slice none 0 0) 0 [] := DR.nil_ _ _ _
  have xu0 : ∀ u ∈ ([] : List Value), NotU u := by intro u hu; cases hu
  rw [rounds_succ]
  have zf := Box.below z2 BV z2.1.lt
  have hTk := Tab.below_ hT BV
  have hok := Own.below ho BV (Own.lt ho)
  obtain ⟨zc0, zc1, zc2, zf0, zf1, zf2, zl⟩ := zf.cells
  have hcell : V.cell? ⟨s, 0, none⟩ = some (.int .u64 (ba : Int)) := OB.look hok (k := 0) rfl
  go_wp2_with fail
  refine (value_as hf ba hba hTk HV0.out).mono ?_
  rintro en w1 ⟨V_r0, v_r0, rfl, r0, b⟩
  have hz := BV.size
  replace BV : Below V.heap.size V w1 := BV.trans (b.mono BV.size)
  replace d0 := DR.on d0 b
  clear hz b zc0 zc1 zc2 zf0 zf1 zf2 zl zf hTk hok hcell
  go_upto_region 6 with fail
  obtain ⟨w2, e_w2⟩ : ∃ w', w1.alloc (dob n0 V_r0 v_r0 v_r0 e0 39) = w' := ⟨_, rfl⟩
  have b : Below w1.heap.size w1 w2 := e_w2 ▸ below_lit _ _
  have zv : DB w2 w1.heap.size 39 n0 V_r0 v_r0 v_r0 e0 := e_w2 ▸ DB.made w1 rfl 39 n0 V_r0 v_r0 v_r0 e0
  rw [e_w2]
  clear e_w2
  replace BV : Below V.heap.size V w2 := BV.trans (b.mono BV.size)
  replace d0 := DR.on d0 b
  replace r0 := r0.on b
  clear b
  obtain ⟨vc0, vc1, vc2, vf0, vf1, vf2, vl⟩ := zv.cells
  have hbs := BV.size
  go_wp2_with (at_builtin; refine wpList_push3 w2 rfl _ _ 52 rfl V.heap.size 39 (.agg #[.bool false, .slice none 0 0, .int .i64 0]) 40 Tryd.underlying52 dyad_info rfl (by omega) dyad_notU (.slice none 0 0) 0 _ rfl d0 _ _ _ (dcs_one n0 V_r0 v_r0 v_r0 e0) (dcs_notU n0 V_r0 v_r0 v_r0 e0) xu0 rfl (by omega) hbs ?_; intro q0 w3 d1 b hR)
  replace BV : Below V.heap.size V w3 := BV.trans (b.mono (Nat.le_refl _))
  replace r0 := hR _ _ _ r0
  have xu1 := app_notU xu0 (dcs_notU n0 V_r0 v_r0 v_r0 e0)
  clear hR b vc0 vc1 vc2 vf0 vf1 vf2 vl zv d0 hbs
  rw [rounds_succ]
  have zf := Box.below z2 BV z2.1.lt
  have hTk := Tab.below_ hT BV
  have hok := Own.below ho BV (Own.lt ho)
  obtain ⟨zc0, zc1, zc2, zf0, zf1, zf2, zl⟩ := zf.cells
  have hcell : w3.cell? ⟨s, 1, none⟩ = some (.int .u64 (bb : Int)) := OB.look hok (k := 1) rfl
  go_wp2_with fail
  refine (value_as hf bb hbb hTk HV1.out).mono ?_
  rintro en w4 ⟨V_r1, v_r1, rfl, r1, b⟩
  have hz := BV.size
  replace BV : Below V.heap.size V w4 := BV.trans (b.mono BV.size)
  replace d1 := DR.on d1 b
  replace r0 := r0.on b
  clear hz b zc0 zc1 zc2 zf0 zf1 zf2 zl zf hTk hok hcell
  go_upto_region 6 with fail
  obtain ⟨w5, e_w5⟩ : ∃ w', w4.alloc (dob false V_r1 v_r1 v_r1 0 39) = w' := ⟨_, rfl⟩
  have b : Below w4.heap.size w4 w5 := e_w5 ▸ below_lit _ _
  have zv : DB w5 w4.heap.size 39 false V_r1 v_r1 v_r1 0 := e_w5 ▸ DB.made w4 rfl 39 false V_r1 v_r1 v_r1 0
  rw [e_w5]
  clear e_w5
  replace BV : Below V.heap.size V w5 := BV.trans (b.mono BV.size)
  replace d1 := DR.on d1 b
  replace r0 := r0.on b
  replace r1 := r1.on b
  clear b
  obtain ⟨vc0, vc1, vc2, vf0, vf1, vf2, vl⟩ := zv.cells
  go_wp2_with fail
  go_ret2
  exact ⟨rfl, Below.step KV BV⟩
set_option maxHeartbeats 4000000 in
theorem fin2_ok {B P W M E H : Nat} {low : Int} (hf : Fm B P W M E H low) (ba bb : Nat) (hba : ba < 18446744073709551616) (hbb : bb < 18446744073709551616) {s : Nat} {w : World} (ho : OB w s [ba, bb]) (hT : Tab w) {n0 : Bool} {x0 : Nat} {e0 : Int} (hv0 : valS M E H low ba = (⟨n0, x0, e0⟩, 0)) {n1 : Bool} {x1 : Nat} {e1 : Int} (hv1 : valS M E H low bb = (⟨n1, x1, e1⟩, 0)) :
    Calls Tryd.prog 30 #[.agg #[.int .i64 (B : Int), .int .i64 (P : Int), .int .i64 (W : Int)], .slice (some ⟨s, 0, none⟩) 2 2] w (FnX2 w n0 x0 e0 n1 x1 e1) := by
  have HV0 := Lib.hid hv0
  have HV1 := Lib.hid hv1
  clear hv0 hv1
  go_enter Tryd.func30, Tryd.ntmps30
  go_wp2_with fail
  obtain ⟨V, hV, z2, BW, sW⟩ := fframe1 w 25 (B : Int) (P : Int) (W : Int)
  rw [hV]
  clear hV sW
  replace hT := hT.on BW
  replace ho := ho.on BW
  refine wp_loop_rounds 3 ?_
  have KV := BW
  have BV : Below V.heap.size V V := Below.refl _ _
  have d0 : DR V V.heap.size 39 (.slice none 0 0) 0 [] := DR.nil_ _ _ _
  have xu0 : ∀ u ∈ ([] : List Value), NotU u := by intro u hu; cases hu
  rw [rounds_succ]
  have zf := Box.below z2 BV z2.1.lt
  have hTk := Tab.below_ hT BV
  have hok := Own.below ho BV (Own.lt ho)
  obtain ⟨zc0, zc1, zc2, zf0, zf1, zf2, zl⟩ := zf.cells
  have hcell : V.cell? ⟨s, 0, none⟩ = some (.int .u64 (ba : Int)) := OB.look hok (k := 0) rfl
  go_wp2_with fail
  refine (value_as hf ba hba hTk HV0.out).mono ?_
  rintro en w1 ⟨V_r0, v_r0, rfl, r0, b⟩
  have hz := BV.size
  replace BV : Below V.heap.size V w1 := BV.trans (b.mono BV.size)
  replace d0 := DR.on d0 b
  clear hz b zc0 zc1 zc2 zf0 zf1 zf2 zl zf hTk hok hcell
  go_upto_region 6 with fail
  obtain ⟨w2, e_w2⟩ : ∃ w', w1.alloc (dob n0 V_r0 v_r0 v_r0 e0 39) = w' := ⟨_, rfl⟩
  have b : Below w1.heap.size w1 w2 := e_w2 ▸ below_lit _ _
  have zv : DB w2 w1.heap.size 39 n0 V_r0 v_r0 v_r0 e0 := e_w2 ▸ DB.made w1 rfl 39 n0 V_r0 v_r0 v_r0 e0
  rw [e_w2]
  clear e_w2
  replace BV : Below V.heap.size V w2 := BV.trans (b.mono BV.size)
  replace d0 := DR.on d0 b
  replace r0 := r0.on b
  clear b
  obtain ⟨vc0, vc1, vc2, vf0, vf1, vf2, vl⟩ := zv.cells
  have hbs := BV.size
  go_wp2_with (at_builtin; refine wpList_push3 w2 rfl _ _ 52 rfl V.heap.size 39 (.agg #[.bool false, .slice none 0 0, .int .i64 0]) 40 Tryd.underlying52 dyad_info rfl (by omega) dyad_notU (.slice none 0 0) 0 _ rfl d0 _ _ _ (dcs_one n0 V_r0 v_r0 v_r0 e0) (dcs_notU n0 V_r0 v_r0 v_r0 e0) xu0 rfl (by omega) hbs ?_; intro q0 w3 d1 b hR)
  replace BV : Below V.heap.size V w3 := BV.trans (b.mono (Nat.le_refl _))
  replace r0 := hR _ _ _ r0
  have xu1 := app_notU xu0 (dcs_notU n0 V_r0 v_r0 v_r0 e0)
  clear hR b vc0 vc1 vc2 vf0 vf1 vf2 vl zv d0 hbs
  rw [rounds_succ]
  have zf := Box.below z2 BV z2.1.lt
  have hTk := Tab.below_ hT BV
  have hok := Own.below ho BV (Own.lt ho)
  obtain ⟨zc0, zc1, zc2, zf0, zf1, zf2, zl⟩ := zf.cells
  have hcell : w3.cell? ⟨s, 1, none⟩ = some (.int .u64 (bb : Int)) := OB.look hok (k := 1) rfl
  go_wp2_with fail
  refine (value_as hf bb hbb hTk HV1.out).mono ?_
  rintro en w4 ⟨V_r1, v_r1, rfl, r1, b⟩
  have hz := BV.size
  replace BV : Below V.heap.size V w4 := BV.trans (b.mono BV.size)
  replace d1 := DR.on d1 b
  replace r0 := r0.on b
  clear hz b zc0 zc1 zc2 zf0 zf1 zf2 zl zf hTk hok hcell
  go_upto_region 6 with fail
  obtain ⟨w5, e_w5⟩ : ∃ w', w4.alloc (dob n1 V_r1 v_r1 v_r1 e1 39) = w' := ⟨_, rfl⟩
  have b : Below w4.heap.size w4 w5 := e_w5 ▸ below_lit _ _
  have zv : DB w5 w4.heap.size 39 n1 V_r1 v_r1 v_r1 e1 := e_w5 ▸ DB.made w4 rfl 39 n1 V_r1 v_r1 v_r1 e1
  rw [e_w5]
  clear e_w5
  replace BV : Below V.heap.size V w5 := BV.trans (b.mono BV.size)
  replace d1 := DR.on d1 b
  replace r0 := r0.on b
  replace r1 := r1.on b
  clear b
  obtain ⟨vc0, vc1, vc2, vf0, vf1, vf2, vl⟩ := zv.cells
  have hbs := BV.size
  go_wp2_with (at_builtin; refine wpList_push3 w5 rfl _ _ 52 rfl V.heap.size 39 (.agg #[.bool false, .slice none 0 0, .int .i64 0]) 40 Tryd.underlying52 dyad_info rfl (by omega) dyad_notU q0 1 _ rfl d1 _ _ _ (dcs_one n1 V_r1 v_r1 v_r1 e1) (dcs_notU n1 V_r1 v_r1 v_r1 e1) xu1 rfl (by omega) hbs ?_; intro q1 w6 d2 b hR)
  replace BV : Below V.heap.size V w6 := BV.trans (b.mono (Nat.le_refl _))
  replace r0 := hR _ _ _ r0
  replace r1 := hR _ _ _ r1
  have xu2 := app_notU xu1 (dcs_notU n1 V_r1 v_r1 v_r1 e1)
  clear hR b vc0 vc1 vc2 vf0 vf1 vf2 vl zv d1 hbs
  rw [rounds_succ]
  go_wp2_with fail
  go_ret2
  exact FnX.mk2 d2 r0 r1 (Below.step KV BV) KV.size
/-- what finite tells of 3 finite operands: a row of the call's own. -/
def FnX3 (w : World) (n0 : Bool) (x0 : Nat) (e0 : Int) (n1 : Bool) (x1 : Nat) (e1 : Int) (n2 : Bool) (x2 : Nat) (e2 : Int) (en : Ending) (w' : World) : Prop :=
  ∃ g cap cur V0 v0 V1 v1 V2 v2, en = .returned (.tuple #[.slice (some ⟨g, 0, none⟩) 3 cap, .bool true]) ∧ w'.heap[g]? = some (.cells cur 39 (0, 0)) ∧ cur.toList.take 9 = [.bool n0, .slice V0 v0 v0, .int .i64 e0, .bool n1, .slice V1 v1 v1, .int .i64 e1, .bool n2, .slice V2 v2 v2, .int .i64 e2] ∧ 3 ≤ cap ∧ cap ≤ maxLen ∧ w.heap.size ≤ g ∧ Res w' V0 v0 x0 ∧ Res w' V1 v1 x1 ∧ Res w' V2 v2 x2 ∧ Below w.heap.size w w'
theorem FnX.mk3 {w V w' : World} {v : Value} {n0 : Bool} {x0 v0 : Nat} {V0 : Option Addr} {e0 : Int} {n1 : Bool} {x1 v1 : Nat} {V1 : Option Addr} {e1 : Int} {n2 : Bool} {x2 v2 : Nat} {V2 : Option Addr} {e2 : Int} (hd : DR w' V.heap.size 39 v (0 + 1 + 1 + 1) ([] ++ [.bool n0, .slice V0 v0 v0, .int .i64 e0] ++ [.bool n1, .slice V1 v1 v1, .int .i64 e1] ++ [.bool n2, .slice V2 v2 v2, .int .i64 e2])) (r0 : Res w' V0 v0 x0) (r1 : Res w' V1 v1 x1) (r2 : Res w' V2 v2 x2) (hb : Below w.heap.size w w') (hV : w.heap.size ≤ V.heap.size) : FnX3 w n0 x0 e0 n1 x1 e1 n2 x2 e2 (.returned (.tuple #[v, .bool true])) w' := by
  rcases hd.2 with ⟨_, h0⟩ | ⟨g, cap, cur, rfl, h1, h2, h3, h4, h5, h6, h7⟩
  · omega
  · exact ⟨g, cap, cur, V0, v0, V1, v1, V2, v2, rfl, h2, h6, h3, h4, by omega, r0, r1, r2, hb⟩
set_option maxHeartbeats 4000000 in
theorem fin3_0 {B P W M E H : Nat} {low : Int} (hf : Fm B P W M E H low) (ba bb bc : Nat) (hba : ba < 18446744073709551616) (hbb : bb < 18446744073709551616) (hbc : bc < 18446744073709551616) {s : Nat} {w : World} (ho : OB w s [ba, bb, bc]) (hT : Tab w)  {er : Int} (hv0 : valS M E H low ba = (⟨false, 0, 0⟩, er)) (d1 : (er != 0) = true) :
    Calls Tryd.prog 30 #[.agg #[.int .i64 (B : Int), .int .i64 (P : Int), .int .i64 (W : Int)], .slice (some ⟨s, 0, none⟩) 3 3] w fun en w' => en = .returned (.tuple #[.slice none 0 0, .bool false]) ∧ Below w.heap.size w w' := by
  have HV0 := Lib.hid hv0
  clear hv0
  go_enter Tryd.func30, Tryd.ntmps30
  go_wp2_with fail
  obtain ⟨V, hV, z2, BW, sW⟩ := fframe1 w 25 (B : Int) (P : Int) (W : Int)
  rw [hV]
  clear hV sW
  replace hT := hT.on BW
  replace ho := ho.on BW
  refine wp_loop_rounds 4 ?_
  have KV := BW
  have BV : Below V.heap.size V V := Below.refl _ _
  have d0 : DR V V.heap.size 39 (.slice none 0 0) 0 [] := DR.nil_ _ _ _
  have xu0 : ∀ u ∈ ([] : List Value), NotU u := by intro u hu; cases hu
  rw [rounds_succ]
  have zf := Box.below z2 BV z2.1.lt
  have hTk := Tab.below_ hT BV
  have hok := Own.below ho BV (Own.lt ho)
  obtain ⟨zc0, zc1, zc2, zf0, zf1, zf2, zl⟩ := zf.cells
  have hcell : V.cell? ⟨s, 0, none⟩ = some (.int .u64 (ba : Int)) := OB.look hok (k := 0) rfl
  go_wp2_with fail
  refine (value_as hf ba hba hTk HV0.out).mono ?_
  rintro en w1 ⟨V_r0, v_r0, rfl, r0, b⟩
  have hz := BV.size
  replace BV : Below V.heap.size V w1 := BV.trans (b.mono BV.size)
  replace d0 := DR.on d0 b
  clear hz b zc0 zc1 zc2 zf0 zf1 zf2 zl zf hTk hok hcell
  go_upto_region 6 with fail
  obtain ⟨w2, e_w2⟩ : ∃ w', w1.alloc (dob false V_r0 v_r0 v_r0 0 39) = w' := ⟨_, rfl⟩
  have b : Below w1.heap.size w1 w2 := e_w2 ▸ below_lit _ _
  have zv : DB w2 w1.heap.size 39 false V_r0 v_r0 v_r0 0 := e_w2 ▸ DB.made w1 rfl 39 false V_r0 v_r0 v_r0 0
  rw [e_w2]
  clear e_w2
  replace BV : Below V.heap.size V w2 := BV.trans (b.mono BV.size)
  replace d0 := DR.on d0 b
  replace r0 := r0.on b
  clear b
  obtain ⟨vc0, vc1, vc2, vf0, vf1, vf2, vl⟩ := zv.cells
  go_wp2_with fail
  go_ret2
  exact ⟨rfl, Below.step KV BV⟩
set_option maxHeartbeats 4000000 in
theorem fin3_1 {B P W M E H : Nat} {low : Int} (hf : Fm B P W M E H low) (ba bb bc : Nat) (hba : ba < 18446744073709551616) (hbb : bb < 18446744073709551616) (hbc : bc < 18446744073709551616) {s : Nat} {w : World} (ho : OB w s [ba, bb, bc]) (hT : Tab w) {n0 : Bool} {x0 : Nat} {e0 : Int} (hv0 : valS M E H low ba = (⟨n0, x0, e0⟩, 0)) {er : Int} (hv1 : valS M E H low bb = (⟨false, 0, 0⟩, er)) (d1 : (er != 0) = true) :
    Calls Tryd.prog 30 #[.agg #[.int .i64 (B : Int), .int .i64 (P : Int), .int .i64 (W : Int)], .slice (some ⟨s, 0, none⟩) 3 3] w fun en w' => en = .returned (.tuple #[.slice none 0 0, .bool false]) ∧ Below w.heap.size w w' := by
  have HV0 := Lib.hid hv0
  have HV1 := Lib.hid hv1
  clear hv0 hv1
  go_enter Tryd.func30, Tryd.ntmps30
  go_wp2_with fail
  obtain ⟨V, hV, z2, BW, sW⟩ := fframe1 w 25 (B : Int) (P : Int) (W : Int)
  rw [hV]
  clear hV sW
  replace hT := hT.on BW
  replace ho := ho.on BW
  refine wp_loop_rounds 4 ?_
  have KV := BW
  have BV : Below V.heap.size V V := Below.refl _ _
  have d0 : DR V V.heap.size 39 (.slice none 0 0) 0 [] := DR.nil_ _ _ _
  have xu0 : ∀ u ∈ ([] : List Value), NotU u := by intro u hu; cases hu
  rw [rounds_succ]
  have zf := Box.below z2 BV z2.1.lt
  have hTk := Tab.below_ hT BV
  have hok := Own.below ho BV (Own.lt ho)
  obtain ⟨zc0, zc1, zc2, zf0, zf1, zf2, zl⟩ := zf.cells
  have hcell : V.cell? ⟨s, 0, none⟩ = some (.int .u64 (ba : Int)) := OB.look hok (k := 0) rfl
  go_wp2_with fail
  refine (value_as hf ba hba hTk HV0.out).mono ?_
  rintro en w1 ⟨V_r0, v_r0, rfl, r0, b⟩
  have hz := BV.size
  replace BV : Below V.heap.size V w1 := BV.trans (b.mono BV.size)
  replace d0 := DR.on d0 b
  clear hz b zc0 zc1 zc2 zf0 zf1 zf2 zl zf hTk hok hcell
  go_upto_region 6 with fail
  obtain ⟨w2, e_w2⟩ : ∃ w', w1.alloc (dob n0 V_r0 v_r0 v_r0 e0 39) = w' := ⟨_, rfl⟩
  have b : Below w1.heap.size w1 w2 := e_w2 ▸ below_lit _ _
  have zv : DB w2 w1.heap.size 39 n0 V_r0 v_r0 v_r0 e0 := e_w2 ▸ DB.made w1 rfl 39 n0 V_r0 v_r0 v_r0 e0
  rw [e_w2]
  clear e_w2
  replace BV : Below V.heap.size V w2 := BV.trans (b.mono BV.size)
  replace d0 := DR.on d0 b
  replace r0 := r0.on b
  clear b
  obtain ⟨vc0, vc1, vc2, vf0, vf1, vf2, vl⟩ := zv.cells
  have hbs := BV.size
  go_wp2_with (at_builtin; refine wpList_push3 w2 rfl _ _ 52 rfl V.heap.size 39 (.agg #[.bool false, .slice none 0 0, .int .i64 0]) 40 Tryd.underlying52 dyad_info rfl (by omega) dyad_notU (.slice none 0 0) 0 _ rfl d0 _ _ _ (dcs_one n0 V_r0 v_r0 v_r0 e0) (dcs_notU n0 V_r0 v_r0 v_r0 e0) xu0 rfl (by omega) hbs ?_; intro q0 w3 d1 b hR)
  replace BV : Below V.heap.size V w3 := BV.trans (b.mono (Nat.le_refl _))
  replace r0 := hR _ _ _ r0
  have xu1 := app_notU xu0 (dcs_notU n0 V_r0 v_r0 v_r0 e0)
  clear hR b vc0 vc1 vc2 vf0 vf1 vf2 vl zv d0 hbs
  rw [rounds_succ]
  have zf := Box.below z2 BV z2.1.lt
  have hTk := Tab.below_ hT BV
  have hok := Own.below ho BV (Own.lt ho)
  obtain ⟨zc0, zc1, zc2, zf0, zf1, zf2, zl⟩ := zf.cells
  have hcell : w3.cell? ⟨s, 1, none⟩ = some (.int .u64 (bb : Int)) := OB.look hok (k := 1) rfl
  go_wp2_with fail
  refine (value_as hf bb hbb hTk HV1.out).mono ?_
  rintro en w4 ⟨V_r1, v_r1, rfl, r1, b⟩
  have hz := BV.size
  replace BV : Below V.heap.size V w4 := BV.trans (b.mono BV.size)
  replace d1 := DR.on d1 b
  replace r0 := r0.on b
  clear hz b zc0 zc1 zc2 zf0 zf1 zf2 zl zf hTk hok hcell
  go_upto_region 6 with fail
  obtain ⟨w5, e_w5⟩ : ∃ w', w4.alloc (dob false V_r1 v_r1 v_r1 0 39) = w' := ⟨_, rfl⟩
  have b : Below w4.heap.size w4 w5 := e_w5 ▸ below_lit _ _
  have zv : DB w5 w4.heap.size 39 false V_r1 v_r1 v_r1 0 := e_w5 ▸ DB.made w4 rfl 39 false V_r1 v_r1 v_r1 0
  rw [e_w5]
  clear e_w5
  replace BV : Below V.heap.size V w5 := BV.trans (b.mono BV.size)
  replace d1 := DR.on d1 b
  replace r0 := r0.on b
  replace r1 := r1.on b
  clear b
  obtain ⟨vc0, vc1, vc2, vf0, vf1, vf2, vl⟩ := zv.cells
  go_wp2_with fail
  go_ret2
  exact ⟨rfl, Below.step KV BV⟩
set_option maxHeartbeats 4000000 in
theorem fin3_2 {B P W M E H : Nat} {low : Int} (hf : Fm B P W M E H low) (ba bb bc : Nat) (hba : ba < 18446744073709551616) (hbb : bb < 18446744073709551616) (hbc : bc < 18446744073709551616) {s : Nat} {w : World} (ho : OB w s [ba, bb, bc]) (hT : Tab w) {n0 : Bool} {x0 : Nat} {e0 : Int} (hv0 : valS M E H low ba = (⟨n0, x0, e0⟩, 0)) {n1 : Bool} {x1 : Nat} {e1 : Int} (hv1 : valS M E H low bb = (⟨n1, x1, e1⟩, 0)) {er : Int} (hv2 : valS M E H low bc = (⟨false, 0, 0⟩, er)) (d1 : (er != 0) = true) :
    Calls Tryd.prog 30 #[.agg #[.int .i64 (B : Int), .int .i64 (P : Int), .int .i64 (W : Int)], .slice (some ⟨s, 0, none⟩) 3 3] w fun en w' => en = .returned (.tuple #[.slice none 0 0, .bool false]) ∧ Below w.heap.size w w' := by
  have HV0 := Lib.hid hv0
  have HV1 := Lib.hid hv1
  have HV2 := Lib.hid hv2
  clear hv0 hv1 hv2
  go_enter Tryd.func30, Tryd.ntmps30
  go_wp2_with fail
  obtain ⟨V, hV, z2, BW, sW⟩ := fframe1 w 25 (B : Int) (P : Int) (W : Int)
  rw [hV]
  clear hV sW
  replace hT := hT.on BW
  replace ho := ho.on BW
  refine wp_loop_rounds 4 ?_
  have KV := BW
  have BV : Below V.heap.size V V := Below.refl _ _
  have d0 : DR V V.heap.size 39 (.slice none 0 0) 0 [] := DR.nil_ _ _ _
  have xu0 : ∀ u ∈ ([] : List Value), NotU u := by intro u hu; cases hu
  rw [rounds_succ]
  have zf := Box.below z2 BV z2.1.lt
  have hTk := Tab.below_ hT BV
  have hok := Own.below ho BV (Own.lt ho)
  obtain ⟨zc0, zc1, zc2, zf0, zf1, zf2, zl⟩ := zf.cells
  have hcell : V.cell? ⟨s, 0, none⟩ = some (.int .u64 (ba : Int)) := OB.look hok (k := 0) rfl
  go_wp2_with fail
  refine (value_as hf ba hba hTk HV0.out).mono ?_
  rintro en w1 ⟨V_r0, v_r0, rfl, r0, b⟩
  have hz := BV.size
  replace BV : Below V.heap.size V w1 := BV.trans (b.mono BV.size)
  replace d0 := DR.on d0 b
  clear hz b zc0 zc1 zc2 zf0 zf1 zf2 zl zf hTk hok hcell
  go_upto_region 6 with fail
  obtain ⟨w2, e_w2⟩ : ∃ w', w1.alloc (dob n0 V_r0 v_r0 v_r0 e0 39) = w' := ⟨_, rfl⟩
  have b : Below w1.heap.size w1 w2 := e_w2 ▸ below_lit _ _
  have zv : DB w2 w1.heap.size 39 n0 V_r0 v_r0 v_r0 e0 := e_w2 ▸ DB.made w1 rfl 39 n0 V_r0 v_r0 v_r0 e0
  rw [e_w2]
  clear e_w2
  replace BV : Below V.heap.size V w2 := BV.trans (b.mono BV.size)
  replace d0 := DR.on d0 b
  replace r0 := r0.on b
  clear b
  obtain ⟨vc0, vc1, vc2, vf0, vf1, vf2, vl⟩ := zv.cells
  have hbs := BV.size
  go_wp2_with (at_builtin; refine wpList_push3 w2 rfl _ _ 52 rfl V.heap.size 39 (.agg #[.bool false, .slice none 0 0, .int .i64 0]) 40 Tryd.underlying52 dyad_info rfl (by omega) dyad_notU (.slice none 0 0) 0 _ rfl d0 _ _ _ (dcs_one n0 V_r0 v_r0 v_r0 e0) (dcs_notU n0 V_r0 v_r0 v_r0 e0) xu0 rfl (by omega) hbs ?_; intro q0 w3 d1 b hR)
  replace BV : Below V.heap.size V w3 := BV.trans (b.mono (Nat.le_refl _))
  replace r0 := hR _ _ _ r0
  have xu1 := app_notU xu0 (dcs_notU n0 V_r0 v_r0 v_r0 e0)
  clear hR b vc0 vc1 vc2 vf0 vf1 vf2 vl zv d0 hbs
  rw [rounds_succ]
  have zf := Box.below z2 BV z2.1.lt
  have hTk := Tab.below_ hT BV
  have hok := Own.below ho BV (Own.lt ho)
  obtain ⟨zc0, zc1, zc2, zf0, zf1, zf2, zl⟩ := zf.cells
  have hcell : w3.cell? ⟨s, 1, none⟩ = some (.int .u64 (bb : Int)) := OB.look hok (k := 1) rfl
  go_wp2_with fail
  refine (value_as hf bb hbb hTk HV1.out).mono ?_
  rintro en w4 ⟨V_r1, v_r1, rfl, r1, b⟩
  have hz := BV.size
  replace BV : Below V.heap.size V w4 := BV.trans (b.mono BV.size)
  replace d1 := DR.on d1 b
  replace r0 := r0.on b
  clear hz b zc0 zc1 zc2 zf0 zf1 zf2 zl zf hTk hok hcell
  go_upto_region 6 with fail
  obtain ⟨w5, e_w5⟩ : ∃ w', w4.alloc (dob n1 V_r1 v_r1 v_r1 e1 39) = w' := ⟨_, rfl⟩
  have b : Below w4.heap.size w4 w5 := e_w5 ▸ below_lit _ _
  have zv : DB w5 w4.heap.size 39 n1 V_r1 v_r1 v_r1 e1 := e_w5 ▸ DB.made w4 rfl 39 n1 V_r1 v_r1 v_r1 e1
  rw [e_w5]
  clear e_w5
  replace BV : Below V.heap.size V w5 := BV.trans (b.mono BV.size)
  replace d1 := DR.on d1 b
  replace r0 := r0.on b
  replace r1 := r1.on b
  clear b
  obtain ⟨vc0, vc1, vc2, vf0, vf1, vf2, vl⟩ := zv.cells
  have hbs := BV.size
  go_wp2_with (at_builtin; refine wpList_push3 w5 rfl _ _ 52 rfl V.heap.size 39 (.agg #[.bool false, .slice none 0 0, .int .i64 0]) 40 Tryd.underlying52 dyad_info rfl (by omega) dyad_notU q0 1 _ rfl d1 _ _ _ (dcs_one n1 V_r1 v_r1 v_r1 e1) (dcs_notU n1 V_r1 v_r1 v_r1 e1) xu1 rfl (by omega) hbs ?_; intro q1 w6 d2 b hR)
  replace BV : Below V.heap.size V w6 := BV.trans (b.mono (Nat.le_refl _))
  replace r0 := hR _ _ _ r0
  replace r1 := hR _ _ _ r1
  have xu2 := app_notU xu1 (dcs_notU n1 V_r1 v_r1 v_r1 e1)
  clear hR b vc0 vc1 vc2 vf0 vf1 vf2 vl zv d1 hbs
  rw [rounds_succ]
  have zf := Box.below z2 BV z2.1.lt
  have hTk := Tab.below_ hT BV
  have hok := Own.below ho BV (Own.lt ho)
  obtain ⟨zc0, zc1, zc2, zf0, zf1, zf2, zl⟩ := zf.cells
  have hcell : w6.cell? ⟨s, 2, none⟩ = some (.int .u64 (bc : Int)) := OB.look hok (k := 2) rfl
  go_wp2_with fail
  refine (value_as hf bc hbc hTk HV2.out).mono ?_
  rintro en w7 ⟨V_r2, v_r2, rfl, r2, b⟩
  have hz := BV.size
  replace BV : Below V.heap.size V w7 := BV.trans (b.mono BV.size)
  replace d2 := DR.on d2 b
  replace r0 := r0.on b
  replace r1 := r1.on b
  clear hz b zc0 zc1 zc2 zf0 zf1 zf2 zl zf hTk hok hcell
  go_upto_region 6 with fail
  obtain ⟨w8, e_w8⟩ : ∃ w', w7.alloc (dob false V_r2 v_r2 v_r2 0 39) = w' := ⟨_, rfl⟩
  have b : Below w7.heap.size w7 w8 := e_w8 ▸ below_lit _ _
  have zv : DB w8 w7.heap.size 39 false V_r2 v_r2 v_r2 0 := e_w8 ▸ DB.made w7 rfl 39 false V_r2 v_r2 v_r2 0
  rw [e_w8]
  clear e_w8
  replace BV : Below V.heap.size V w8 := BV.trans (b.mono BV.size)
  replace d2 := DR.on d2 b
  replace r0 := r0.on b
  replace r1 := r1.on b
  replace r2 := r2.on b
  clear b
  obtain ⟨vc0, vc1, vc2, vf0, vf1, vf2, vl⟩ := zv.cells
  go_wp2_with fail
  go_ret2
  exact ⟨rfl, Below.step KV BV⟩
set_option maxHeartbeats 4000000 in
theorem fin3_ok {B P W M E H : Nat} {low : Int} (hf : Fm B P W M E H low) (ba bb bc : Nat) (hba : ba < 18446744073709551616) (hbb : bb < 18446744073709551616) (hbc : bc < 18446744073709551616) {s : Nat} {w : World} (ho : OB w s [ba, bb, bc]) (hT : Tab w) {n0 : Bool} {x0 : Nat} {e0 : Int} (hv0 : valS M E H low ba = (⟨n0, x0, e0⟩, 0)) {n1 : Bool} {x1 : Nat} {e1 : Int} (hv1 : valS M E H low bb = (⟨n1, x1, e1⟩, 0)) {n2 : Bool} {x2 : Nat} {e2 : Int} (hv2 : valS M E H low bc = (⟨n2, x2, e2⟩, 0)) :
    Calls Tryd.prog 30 #[.agg #[.int .i64 (B : Int), .int .i64 (P : Int), .int .i64 (W : Int)], .slice (some ⟨s, 0, none⟩) 3 3] w (FnX3 w n0 x0 e0 n1 x1 e1 n2 x2 e2) := by
  have HV0 := Lib.hid hv0
  have HV1 := Lib.hid hv1
  have HV2 := Lib.hid hv2
  clear hv0 hv1 hv2
  go_enter Tryd.func30, Tryd.ntmps30
  go_wp2_with fail
  obtain ⟨V, hV, z2, BW, sW⟩ := fframe1 w 25 (B : Int) (P : Int) (W : Int)
  rw [hV]
  clear hV sW
  replace hT := hT.on BW
  replace ho := ho.on BW
  refine wp_loop_rounds 4 ?_
  have KV := BW
  have BV : Below V.heap.size V V := Below.refl _ _
  have d0 : DR V V.heap.size 39 (.slice none 0 0) 0 [] := DR.nil_ _ _ _
  have xu0 : ∀ u ∈ ([] : List Value), NotU u := by intro u hu; cases hu
  rw [rounds_succ]
  have zf := Box.below z2 BV z2.1.lt
  have hTk := Tab.below_ hT BV
  have hok := Own.below ho BV (Own.lt ho)
  obtain ⟨zc0, zc1, zc2, zf0, zf1, zf2, zl⟩ := zf.cells
  have hcell : V.cell? ⟨s, 0, none⟩ = some (.int .u64 (ba : Int)) := OB.look hok (k := 0) rfl
  go_wp2_with fail
  refine (value_as hf ba hba hTk HV0.out).mono ?_
  rintro en w1 ⟨V_r0, v_r0, rfl, r0, b⟩
  have hz := BV.size
  replace BV : Below V.heap.size V w1 := BV.trans (b.mono BV.size)
  replace d0 := DR.on d0 b
  clear hz b zc0 zc1 zc2 zf0 zf1 zf2 zl zf hTk hok hcell
  go_upto_region 6 with fail
  obtain ⟨w2, e_w2⟩ : ∃ w', w1.alloc (dob n0 V_r0 v_r0 v_r0 e0 39) = w' := ⟨_, rfl⟩
  have b : Below w1.heap.size w1 w2 := e_w2 ▸ below_lit _ _
  have zv : DB w2 w1.heap.size 39 n0 V_r0 v_r0 v_r0 e0 := e_w2 ▸ DB.made w1 rfl 39 n0 V_r0 v_r0 v_r0 e0
  rw [e_w2]
  clear e_w2
  replace BV : Below V.heap.size V w2 := BV.trans (b.mono BV.size)
  replace d0 := DR.on d0 b
  replace r0 := r0.on b
  clear b
  obtain ⟨vc0, vc1, vc2, vf0, vf1, vf2, vl⟩ := zv.cells
  have hbs := BV.size
  go_wp2_with (at_builtin; refine wpList_push3 w2 rfl _ _ 52 rfl V.heap.size 39 (.agg #[.bool false, .slice none 0 0, .int .i64 0]) 40 Tryd.underlying52 dyad_info rfl (by omega) dyad_notU (.slice none 0 0) 0 _ rfl d0 _ _ _ (dcs_one n0 V_r0 v_r0 v_r0 e0) (dcs_notU n0 V_r0 v_r0 v_r0 e0) xu0 rfl (by omega) hbs ?_; intro q0 w3 d1 b hR)
  replace BV : Below V.heap.size V w3 := BV.trans (b.mono (Nat.le_refl _))
  replace r0 := hR _ _ _ r0
  have xu1 := app_notU xu0 (dcs_notU n0 V_r0 v_r0 v_r0 e0)
  clear hR b vc0 vc1 vc2 vf0 vf1 vf2 vl zv d0 hbs
  rw [rounds_succ]
  have zf := Box.below z2 BV z2.1.lt
  have hTk := Tab.below_ hT BV
  have hok := Own.below ho BV (Own.lt ho)
  obtain ⟨zc0, zc1, zc2, zf0, zf1, zf2, zl⟩ := zf.cells
  have hcell : w3.cell? ⟨s, 1, none⟩ = some (.int .u64 (bb : Int)) := OB.look hok (k := 1) rfl
  go_wp2_with fail
  refine (value_as hf bb hbb hTk HV1.out).mono ?_
  rintro en w4 ⟨V_r1, v_r1, rfl, r1, b⟩
  have hz := BV.size
  replace BV : Below V.heap.size V w4 := BV.trans (b.mono BV.size)
  replace d1 := DR.on d1 b
  replace r0 := r0.on b
  clear hz b zc0 zc1 zc2 zf0 zf1 zf2 zl zf hTk hok hcell
  go_upto_region 6 with fail
  obtain ⟨w5, e_w5⟩ : ∃ w', w4.alloc (dob n1 V_r1 v_r1 v_r1 e1 39) = w' := ⟨_, rfl⟩
  have b : Below w4.heap.size w4 w5 := e_w5 ▸ below_lit _ _
  have zv : DB w5 w4.heap.size 39 n1 V_r1 v_r1 v_r1 e1 := e_w5 ▸ DB.made w4 rfl 39 n1 V_r1 v_r1 v_r1 e1
  rw [e_w5]
  clear e_w5
  replace BV : Below V.heap.size V w5 := BV.trans (b.mono BV.size)
  replace d1 := DR.on d1 b
  replace r0 := r0.on b
  replace r1 := r1.on b
  clear b
  obtain ⟨vc0, vc1, vc2, vf0, vf1, vf2, vl⟩ := zv.cells
  have hbs := BV.size
  go_wp2_with (at_builtin; refine wpList_push3 w5 rfl _ _ 52 rfl V.heap.size 39 (.agg #[.bool false, .slice none 0 0, .int .i64 0]) 40 Tryd.underlying52 dyad_info rfl (by omega) dyad_notU q0 1 _ rfl d1 _ _ _ (dcs_one n1 V_r1 v_r1 v_r1 e1) (dcs_notU n1 V_r1 v_r1 v_r1 e1) xu1 rfl (by omega) hbs ?_; intro q1 w6 d2 b hR)
  replace BV : Below V.heap.size V w6 := BV.trans (b.mono (Nat.le_refl _))
  replace r0 := hR _ _ _ r0
  replace r1 := hR _ _ _ r1
  have xu2 := app_notU xu1 (dcs_notU n1 V_r1 v_r1 v_r1 e1)
  clear hR b vc0 vc1 vc2 vf0 vf1 vf2 vl zv d1 hbs
  rw [rounds_succ]
  have zf := Box.below z2 BV z2.1.lt
  have hTk := Tab.below_ hT BV
  have hok := Own.below ho BV (Own.lt ho)
  obtain ⟨zc0, zc1, zc2, zf0, zf1, zf2, zl⟩ := zf.cells
  have hcell : w6.cell? ⟨s, 2, none⟩ = some (.int .u64 (bc : Int)) := OB.look hok (k := 2) rfl
  go_wp2_with fail
  refine (value_as hf bc hbc hTk HV2.out).mono ?_
  rintro en w7 ⟨V_r2, v_r2, rfl, r2, b⟩
  have hz := BV.size
  replace BV : Below V.heap.size V w7 := BV.trans (b.mono BV.size)
  replace d2 := DR.on d2 b
  replace r0 := r0.on b
  replace r1 := r1.on b
  clear hz b zc0 zc1 zc2 zf0 zf1 zf2 zl zf hTk hok hcell
  go_upto_region 6 with fail
  obtain ⟨w8, e_w8⟩ : ∃ w', w7.alloc (dob n2 V_r2 v_r2 v_r2 e2 39) = w' := ⟨_, rfl⟩
  have b : Below w7.heap.size w7 w8 := e_w8 ▸ below_lit _ _
  have zv : DB w8 w7.heap.size 39 n2 V_r2 v_r2 v_r2 e2 := e_w8 ▸ DB.made w7 rfl 39 n2 V_r2 v_r2 v_r2 e2
  rw [e_w8]
  clear e_w8
  replace BV : Below V.heap.size V w8 := BV.trans (b.mono BV.size)
  replace d2 := DR.on d2 b
  replace r0 := r0.on b
  replace r1 := r1.on b
  replace r2 := r2.on b
  clear b
  obtain ⟨vc0, vc1, vc2, vf0, vf1, vf2, vl⟩ := zv.cells
  have hbs := BV.size
  go_wp2_with (at_builtin; refine wpList_push3 w8 rfl _ _ 52 rfl V.heap.size 39 (.agg #[.bool false, .slice none 0 0, .int .i64 0]) 40 Tryd.underlying52 dyad_info rfl (by omega) dyad_notU q1 2 _ rfl d2 _ _ _ (dcs_one n2 V_r2 v_r2 v_r2 e2) (dcs_notU n2 V_r2 v_r2 v_r2 e2) xu2 rfl (by omega) hbs ?_; intro q2 w9 d3 b hR)
  replace BV : Below V.heap.size V w9 := BV.trans (b.mono (Nat.le_refl _))
  replace r0 := hR _ _ _ r0
  replace r1 := hR _ _ _ r1
  replace r2 := hR _ _ _ r2
  have xu3 := app_notU xu2 (dcs_notU n2 V_r2 v_r2 v_r2 e2)
  clear hR b vc0 vc1 vc2 vf0 vf1 vf2 vl zv d2 hbs
  rw [rounds_succ]
  go_wp2_with fail
  go_ret2
  exact FnX.mk3 d3 r0 r1 r2 (Below.step KV BV) KV.size
end Go.Proofs.YtpachoeignpcbaaDoor
