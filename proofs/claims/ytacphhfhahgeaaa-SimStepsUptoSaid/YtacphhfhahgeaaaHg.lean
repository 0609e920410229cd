
/-
  sim: State, outs, clock.
-/
import Derived.Test.YtacphhfhahgeaaaHf
import Derived.Laws.CopyOwn
namespace Go.Proofs.Ytacphhfhahgeaaa
open Go.RowKit
set_option linter.unusedVariables false
set_option maxRecDepth 4000

theorem i64_info7 : (Try.prog.info? 3).map (fun i => (i.zero, i.size, i.bytes)) = some (some (.int .i64 0), 1, 8) := by kernel_rfl
theorem ivs_snoc (L : List Int) (x : Int) : ivs L ++ [Value.int .i64 x] = ivs (L ++ [x]) := by simp [ivs]
theorem ivs_len7 (L : List Int) : (ivs L).length = L.length := by simp [ivs]
theorem Rw.is {w : World} {A : Option Addr} {n : Nat} {L : List Int} (h : Rw w A n (ivs L)) : Is w A n L := ⟨by rw [← ivs_len7]; exact h.1, fun k x hx => h.2 k _ (by unfold ivs; rw [List.getElem?_map, hx]; rfl)⟩
theorem wrap_01' {a : Int} (h : a = 0 ∨ a = 1) : IntKind.i64.wrap a = a := by rcases h with rfl | rfl <;> rfl
def stV (R v : List Int) : List Int := R.map (atI v)
set_option maxHeartbeats 2000000 in
/-- STATE. -/
theorem state_as {B : Nat} {s : Si} {w : World} {g : Nat} {v : List Int} (k : s.Ok B) (h : s.At w g v) :
    Calls Try.prog 30 #[.pointer (some ⟨s.p, 0, none⟩)] w fun en w' => ∃ A m c, en = .returned (.slice A m c) ∧ Is w' A m (stV s.R v) ∧ Sw A m c ∧ (∀ b off, A = some ⟨b, off, none⟩ → w.heap.size ≤ b) ∧ Below w.heap.size w w' := by
  have hR := h.rs k
  have hp := h.var
  have hv := h.now.b8 h.len
  have H01 := Lib.hid h.bin
  have hnr := k.hr
  have HQ : Hid (∀ q ∈ s.R, ∃ r : Nat, q = (r : Int) ∧ r < s.nn) := Lib.hid fun q hq => by
    obtain ⟨h1, h2, _⟩ := k.rs q hq
    have := k.n.1
    exact ⟨q.toNat, by omega, by omega⟩
  clear h k
  obtain ⟨wb, p, An, nn, cn, Ai, ni, ci, Ao, no, co, Ag, ng, cg, Ar, nr, cr, N, I, O, G, R⟩ := s
  dsimp only at *
  obtain ⟨c0, c1, c2, c3, c4, c5⟩ := own6  hp
  have hplt := hp.lt
  go_enter Try.func30, Try.ntmps30
  go_wp2_with fail
  go_loopw [3, 11] (fun sv iv wr => ∃ j : Nat, j ≤ nr ∧ iv = .int .i64 j ∧ Grow wr w.heap.size 3 sv (ivs (stV (R.take j) v)) ∧ Below w.heap.size w wr) (fun _ iv _ => nr - (intOf iv).toNat)
  case atStart => exact ⟨0, Nat.zero_le _, rfl, World.ownsRow_nil w _ _ _, Below.refl _ _⟩
  case round =>
    obtain ⟨j, hj, rfl, hg, BW⟩ := hrel
    by_cases hlt : j < nr
    · obtain ⟨b1, o1, q, rfl, HX, q1⟩ := (hR.on BW).at hlt
      obtain ⟨q, rfl, hqn⟩ := HQ.out q (List.mem_of_getElem? HX.out)
      obtain ⟨b2, o2, y, e2, HY, y1⟩ := (hv.on BW).b8 hqn
      cases e2
      rw [Nat.zero_add] at y1
      have i0 : (0 : Int) ≤ (q : Int) := by omega
      have i1 : (q : Int) < (nn : Int) := by omega
      have hy : y = 0 ∨ y = 1 := H01.out y (List.mem_of_getElem? HY.out)
      have qy := wrap_01' hy
      have HA : Hid (stV (R.take (j + 1)) v = stV (R.take j) v ++ [y]) := Lib.hid (by
        unfold stV
        rw [List.take_add_one, HX.out, List.map_append]
        congr 1
        simp only [Option.toList_some, List.map_cons, List.map_nil, List.cons.injEq, and_true]
        unfold atI
        rw [Int.toNat_natCast]
        exact getD_of HY.out)
      replace c5 := (BW.cell (p := ⟨p, 5, none⟩) hplt).trans c5
      have hsz := BW.size
      have hll : (ivs (stV (R.take j) v)).length ≤ 3000000 := by rw [ivs_len7]; unfold stV; rw [List.length_map, List.length_take]; omega
      clear hy c0 c1 c2 c3 c4
      go_wp2_with (at_builtin; refine wpList_push _ rfl _ _ 34 rfl w.heap.size 3 (.int .i64 0) 8 Try.underlying34 i64_info7 rfl (by omega) _ _ rfl hg _ rfl rfl hll hsz ?_; intro v' w1 hg1 hb1)
      go_roundw
      case rel =>
        rw [ivs_snoc, ← HA.out] at hg1
        exact ⟨j + 1, by omega, by go_num, hg1, BW.trans hb1⟩
      case measure => simp [intOf]; omega
    · obtain rfl : j = nr := by omega
      rw [List.take_of_length_le (by rw [hR.1]; exact Nat.le_refl _)] at hg
      obtain ⟨A', c', rfl, sw, hl, hr⟩ := Grow.at hg rfl
      clear c0 c1 c2 c3 c4 c5
      go_wp2_with fail
      go_ret
      rw [ivs_len7] at sw hr ⊢
      exact ⟨A', _, c', rfl, hr.is, sw, fun b off e => (hl b off e).1, BW⟩

/-! what is told lies in blocks of its types, and so stays -/
/-- blocks of this type are as they were. -/
def TK (t : TypeId) (w w' : World) : Prop := ∀ (b : Nat) cs f, w.heap[b]? = some (.cells cs t f) → w'.heap[b]? = w.heap[b]?
theorem TK.below {t : TypeId} {w w' : World} (hb : Below w.heap.size w w') : TK t w w' := fun b cs f h => hb.block b (Array.getElem?_eq_some_iff.1 h).1
theorem TK.trans {t : TypeId} {w w' w'' : World} (h : TK t w w') (k : TK t w' w'') : TK t w w'' := fun b cs f e => (k b cs f ((h b cs f e).trans e)).trans (h b cs f e)
theorem TK.grown {t t' : TypeId} {w w' : World} {g : Nat} {cs : List Value} (hg : w.grownBy w' (some g)) (ho : Own w g t' cs) (ht : t ≠ t') : TK t w w' := fun b cs f e => hg.block b (Array.getElem?_eq_some_iff.1 e).1 (fun eq => by
  injection eq with eq
  subst eq
  unfold Own at ho
  rw [ho] at e
  injection e with e
  injection e with _ e _
  exact ht e.symm)
theorem TK.row {t t' : TypeId} {w w' : World} {base size n : Nat} {v : Value} {xs : List Value} (hr : w.ownsRow base t' size v n xs) (hg : w.grownBy w' v.ownBlock) (ht : t ≠ t') : TK t w w' := fun b cs f e => hg.block b (Array.getElem?_eq_some_iff.1 e).1 (fun eq => by
  rcases hr.2 with ⟨rfl, _⟩ | ⟨g, cap, cur, rfl, _, h2, _⟩
  · cases eq
  · injection eq with eq
    subst eq
    rw [h2] at e
    injection e with e
    injection e with _ e _
    exact ht e.symm)
def RwT (t : TypeId) (w : World) (A : Option Addr) (n : Nat) (vs : List Value) : Prop := Rw w A n vs ∧ Tg w A n t
def ResT (w : World) (A : Option Addr) (m x : Nat) : Prop := ∃ ds, RwT 111 w A m (U ds) ∧ Canon ds ∧ val ds = x
def NuT (t : TypeId) (w : World) (A : Option Addr) (n : Nat) (xs : List Nat) : Prop := ∃ rs : List Sn, RwT t w A n (rs.map snC) ∧ rs.map Sn.x = xs ∧ ∀ r ∈ rs, ResT w r.A r.m r.x ∧ r.m ≤ 3200 ∧ Sw r.A r.m r.c
section
variable {t : TypeId} {w w' : World} {A : Option Addr} {n x : Nat} {vs : List Value} {xs : List Nat}
theorem RwT.tk (h : RwT t w A n vs) (hk : TK t w w') : RwT t w' A n vs := by
  refine ⟨⟨h.1.1, fun k u hu => ?_⟩, fun h0 => ?_⟩
  · obtain ⟨b, off, h1, h2, h3⟩ := h.1.2 k u hu
    have hkn : k < n := by have := (List.getElem?_eq_some_iff.1 hu).1; rwa [h.1.1] at this
    obtain ⟨b', off', cs, f, e, hc⟩ := h.2 (by omega)
    have e2 := h1.symm.trans e
    cases e2
    have hb := hk b cs f hc
    refine ⟨b, off, h1, ?_, (World.cell?_of_block hb).trans h3⟩
    exact (Array.getElem?_eq_some_iff.1 (hb.trans hc)).1
  · obtain ⟨b, off, cs, f, e, hc⟩ := h.2 h0
    exact ⟨b, off, cs, f, e, (hk b cs f hc).trans hc⟩
theorem ResT.tk (h : ResT w A n x) (hk : TK 111 w w') : ResT w' A n x := by
  obtain ⟨ds, h1, h2⟩ := h
  exact ⟨ds, h1.tk hk, h2⟩
theorem ResT.res (h : ResT w A n x) : Res w A n x := by
  obtain ⟨ds, h1, h2, h3⟩ := h
  exact ⟨ds, ⟨h1.1, h2.1⟩, h2, h3⟩
theorem Res.tg (h : Res w A n x) (ht : Tg w A n 111) : ResT w A n x := by
  obtain ⟨ds, h1, h2, h3⟩ := h
  exact ⟨ds, ⟨h1.1, ht⟩, h2, h3⟩
theorem NuT.tk (h : NuT t w A n xs) (hk : TK t w w') (hu : TK 111 w w') : NuT t w' A n xs := by
  obtain ⟨rs, h1, h2, h3⟩ := h
  exact ⟨rs, h1.tk hk, h2, fun r hr => ⟨(h3 r hr).1.tk hu, (h3 r hr).2⟩⟩
theorem NuT.on (h : NuT t w A n xs) (hb : Below w.heap.size w w') : NuT t w' A n xs := h.tk (TK.below hb) (TK.below hb)
theorem NuT.len (h : NuT t w A n xs) : xs.length = n := by
  obtain ⟨rs, h1, rfl, h3⟩ := h
  have := h1.1.1
  simpa using this
/-- a row of numbers comes in. -/
theorem NuT.nu (h : NuT t w A n xs) : Nu w A n xs := by
  obtain ⟨rs, h1, h2, h3⟩ := h
  exact ⟨rs, h1.1, h2, fun r hr => by
    obtain ⟨g1, g2, g3⟩ := h3 r hr
    obtain ⟨ds, e1, e2, e3⟩ := g1.res
    exact ⟨⟨ds, e1, g3.1, g3.2.1, e3⟩, by omega⟩⟩
end
/-- append(out, x) of one cell: what is of other types stays. -/
theorem wpList_push2 {P : Program} (w : World) {ops : Array Oper} {rest : List Oper} {o : Oper} {a : Act} {Q : Exit → Act → World → Prop} (hgd : o.guard = none) (s x : Operand) (t : TypeId)
    (ho : o.op = .call { callee := .builtin .append, args := #[s, x], argTypes := #[t, t] }) {e : TypeId} {bytes : Nat} (hE : Elm P t e 1 bytes) (hby : bytes ≤ 64)
    (base : Nat) (v : Value) (xs : List Value) (hs : a.eval s = v) (hown : Grow w base e v xs) (u : Value) (hu : u.oneCell' = true) (hx : a.eval x = .slice (some ⟨w.heap.size, 0, none⟩) 1 1)
    (hn : xs.length + 1 ≤ 1000000) (hbase : base ≤ w.heap.size)
    (h : ∀ v' w', Grow w' base e v' (xs ++ [u]) → Below base w w' → (∀ t', t' ≠ e → TK t' w w') → wpList P ops Q rest (a.put o.dst v') w') : wpList P ops Q (o :: rest) a (w.alloc (.cells #[u] e)) := by
  have b1 : Below w.heap.size w (w.alloc (.cells #[u] e)) := below_lit _ _
  have hz : Bx (w.alloc (.cells #[u] e)) w.heap.size [u] := Bx.made_k w rfl #[u] e
  have hr1 := row_on hown b1
  refine wpList_app (A := some ⟨w.heap.size, 0, none⟩) (m := 1) (c := 1) hgd s x t ho hE (by omega) hby base v xs.length xs hs hr1 [u] hx (fun e => by cases e) rfl ?_ (by intro u' hu'; rw [List.mem_singleton.1 hu']; exact hu) hn (Nat.le_trans hbase b1.size) ?_
  · intro ad had j u' hj
    cases had
    rw [add_plain, Nat.zero_add]
    exact hz.2 j u' hj
  · intro v' w' hg hG
    refine h v' w' (by unfold Grow; rw [List.length_append]; exact hg) ?_ fun t' ht => (TK.below b1).trans (TK.row hr1 hG ht)
    exact (b1.mono hbase).grown hG (Nat.le_trans hbase b1.size) fun k hk => (hr1.lt k hk).1
theorem elm_nat : Elm Try.prog 42 55 1 24 := by
  obtain ⟨i, h1, h2, h3, h4⟩ := Go.info_parts (P := Try.prog) (e := 55) (z := .slice none 0 0) (size := 1) (bytes := 24) (by kernel_rfl)
  refine ⟨Try.underlying42, i, _, h1, h2, h3, h4, rfl, fun u hu => ?_⟩
  have hu2 : u ∈ (.slice none 0 0 : Value).cells.toList := hu
  simp [Value.cells] at hu2
  subst hu2
  rfl
theorem nat_ne : (111 : TypeId) ≠ 55 := by decide
set_option maxHeartbeats 2000000 in
/-- OUTS. -/
theorem outs_as {B : Nat} {s : Si} {w : World} {g : Nat} {v : List Int} (k : s.Ok B) (h : s.At w g v) {A : Option Addr} {c : Nat} {u : List Int} (hu : Rw w A s.nn (by8 u)) :
    Calls Try.prog 83 #[.pointer (some ⟨s.p, 0, none⟩), .slice A s.nn c] w fun en w' => ∃ A' m c', en = .returned (.slice A' m c') ∧ NuT 55 w' A' m (outS s.O u) ∧ Sw A' m c' ∧ Below w.heap.size w w' := by
  have hO := h.os k
  have hp := h.var
  have hno := k.ho
  have HB : Hid (∀ q ∈ s.O, q.bits.length ≤ 100000) := Lib.hid fun q hq => k.hb q (List.mem_append_right _ hq)
  have HP : Hid (∀ p ∈ s.O, ∀ q ∈ p.bits, 0 ≤ q ∧ q.toNat < s.nn) := Lib.hid fun p hp q hq => k.pl p (List.mem_append_right _ hp) q hq
  clear h k
  obtain ⟨wb, p, An, nn, cn, Ai, ni, ci, Ao, no, co, Ag, ng, cg, Ar, nr, cr, N, I, O, G, R⟩ := s
  dsimp only at *
  obtain ⟨c0, c1, c2, c3, c4, c5⟩ := own6  hp
  go_enter Try.func83, Try.ntmps83
  go_wp2_with fail
  clear c0 c1 c2 c3 c4 c5
  go_loopw [5, 14] (fun sv iv wr => ∃ (j : Nat) (rs : List Sn), j ≤ no ∧ iv = .int .i64 j ∧ Grow wr w.heap.size 55 sv (rs.map snC) ∧ Hid (rs.length = j) ∧ Hid (rs.map Sn.x = outS (O.take j) u) ∧ Hid (∀ r ∈ rs, ResT wr r.A r.m r.x ∧ r.m ≤ 3200 ∧ Sw r.A r.m r.c) ∧ Below w.heap.size w wr) (fun _ iv _ => no - (intOf iv).toNat)
  case atStart => exact ⟨0, [], Nat.zero_le _, rfl, World.ownsRow_nil w _ _ _, Lib.hid rfl, Lib.hid rfl, Lib.hid (fun r hr => by cases hr), Below.refl _ _⟩
  case round =>
    obtain ⟨j, rs, hj, rfl, hg, HL, HX, HR, BW⟩ := hrel
    by_cases hlt : j < no
    · obtain ⟨b1, o1, nm, A1, m1, d1, bs, rfl, HY, p1, p2, hi1⟩ := (hO.on BW).at hlt
      have hm1 : m1 ≤ 100000 := by rw [← hi1.1]; exact HB.out _ (List.mem_of_getElem? HY.out)
      have HPP : Hid (∀ q ∈ bs, 0 ≤ q ∧ q.toNat < nn) := Lib.hid (HP.out _ (List.mem_of_getElem? HY.out))
      have HM : Hid (outS (O.take (j + 1)) u = outS (O.take j) u ++ [numS bs u m1]) := Lib.hid (by
        unfold outS
        rw [List.take_add_one, HY.out, List.map_append, ← hi1.1]
        rfl)
      go_upto_region 5 with fail
      obtain ⟨w4, e_w4⟩ : ∃ w', wr.alloc (.cells #[.string nm, .slice A1 m1 d1] 94) = w' := ⟨_, rfl⟩
      have z0 : Bx w4 wr.heap.size [.string nm, .slice A1 m1 d1] := e_w4 ▸ Bx.made_k wr rfl #[.string nm, .slice A1 m1 d1] 94
      have b4 : Below wr.heap.size wr w4 := e_w4 ▸ below_lit _ _
      rw [e_w4]
      clear e_w4 p1 p2
      have BW4 := Below.step BW b4
      have hi4 := hi1.on b4
      have hu4 := hu.on BW4
      have hg4 : Grow w4 w.heap.size 55 _ (rs.map snC) := row_on hg b4
      have z0c1 := z0.2 1 _ rfl
      have HR4 := Lib.hid (fun r hr => (⟨(HR.out r hr).1.tk (TK.below b4), (HR.out r hr).2⟩ : ResT w4 r.A r.m r.x ∧ r.m ≤ 3200 ∧ Sw r.A r.m r.c))
      clear hg hi1 b4 BW HR
      go_wp2_with fail
      refine (number_as hi4 hu4 hm1 HPP.out).mono ?_
      rintro en w5 ⟨A5, m5, c5, rfl, hres, sw5, hm5, hlow5, htg5, b5⟩
      have BW5 := Below.step BW4 b5
      have hg5 : Grow w5 w.heap.size 55 _ (rs.map snC) := row_on hg4 b5
      have hsz := BW5.size
      have hll : (rs.map snC).length + 1 ≤ 1000000 := (by rw [List.length_map, HL.out]; omega)
      clear z0c1
      go_wp2_with (at_builtin; refine wpList_push2 _ rfl _ _ 42 rfl elm_nat (by omega) w.heap.size _ _ rfl hg5 (.slice A5 m5 c5) rfl rfl hll hsz ?_; intro v' w6 hg6 hb6 ht6)
      go_roundw
      case rel =>
        refine ⟨j + 1, rs ++ [⟨A5, m5, c5, numS bs u m1⟩], by omega, by go_num, by rw [List.map_append]; exact hg6, Lib.hid (by rw [List.length_append, HL.out]; rfl), Lib.hid ?_, Lib.hid fun r hr => ?_, BW5.trans hb6⟩
        · rw [List.map_append, HX.out, HM.out]
          rfl
        · rcases List.mem_append.1 hr with hr | hr
          · exact ⟨((HR4.out r hr).1.tk (TK.below b5)).tk (ht6 _ nat_ne), (HR4.out r hr).2⟩
          · rw [List.mem_singleton.1 hr]
            exact ⟨(hres.tg htg5).tk (ht6 _ nat_ne), hm5, sw5⟩
      case measure => simp [intOf]; omega
    · obtain rfl : j = no := by omega
      have htg := hg
      obtain ⟨A', c', rfl, sw, hl, hr⟩ := Grow.at hg (List.length_map snC)
      replace htg := htg.tag
      go_wp2_with fail
      go_ret
      refine ⟨A', _, c', rfl, ⟨rs, ⟨hr, htg⟩, ?_, HR.out⟩, sw, BW⟩
      have := HX.out
      rwa [List.take_of_length_le (by rw [hO.1]; exact Nat.le_refl _)] at this
theorem u8_size : (Try.prog.info? 5).map (·.size) = some 1 := by kernel_rfl
theorem goInt_nat (n : Nat) : goInt n = .int .i64 (n : Int) := rfl
/-- the whole of the call's own block is copied over. -/
theorem wpList_copy_all {P : Program} {w : World} {ops : Array Oper} {rest : List Oper} {o : Oper} {a : Act} {Q : Exit → Act → World → Prop} (hgd : o.guard = none) (d s : Operand) (dT sT : TypeId)
    (ho : o.op = .call { callee := .builtin .copy, args := #[d, s], argTypes := #[dT, sT] }) (elem : TypeId) (hu : P.underlying dT = some (.slice elem)) (hsz : (P.info? elem).map (·.size) = some 1)
    (g n dCap : Nat) (sp : Option Addr) (sCap : Nat) (hd : a.eval d = .slice (some ⟨g, 0, none⟩) n dCap) (hs : a.eval s = .slice sp n sCap)
    (cur : List Value) (t : TypeId) (hg : Own w g t cur) (hl : cur.length = n) (cs : List Value) (hr : Rw w sp n cs) (h1 : ∀ v ∈ cs, v.oneCell' = true)
    (h : ∀ w', Own w' g t cs → w.grownBy w' (some g) → wpList P ops Q rest (a.put o.dst (goInt n)) w') :
    wpList P ops Q (o :: rest) a w := by
  by_cases h0 : n = 0
  · subst h0
    obtain rfl : cs = [] := List.eq_nil_of_length_eq_zero hr.1
    obtain rfl : cur = [] := List.eq_nil_of_length_eq_zero hl
    refine wpList_copy_nothing hgd d s dT sT ho elem hu hsz _ _ _ _ _ _ hd hs rfl ?_
    exact h w hg (Gb.refl w _)
  · obtain ⟨b, off, u, e, _, _⟩ := hr.at (k := 0) (by omega)
    have hcells := hr.cells
    subst e
    have hln : cs.length = n := hr.1
    refine wpList_copy_own hgd d s dT sT ho elem hu hsz g 0 n dCap _ n sCap hd hs cur.toArray t hg cs (by rw [hln]; simp) (hcells _ rfl) (by simp; omega) h1 ?_
    rw [hln]
    refine h _ ?_ ⟨rfl, rfl, rfl, by simp [World.setRow], fun k hk hne => setRow_other w g k _ (fun e => hne (by rw [e]))⟩
    have := setRow_heap w g cur.toArray (cur.toArray.toList.take 0 ++ (cs ++ cur.toArray.toList.drop (0 + n))).toArray t (0, 0) hg
    unfold Own
    rw [this]
    congr 2
    simp
    omega
theorem Si.At.step {B : Nat} {s : Si} {w w' : World} {g : Nat} {v v' : List Int} (h : s.At w g v) (k : s.Ok B) (hg : w.grownBy w' (some g)) (ho : Own w' g 5 (by8 v')) (hl : v'.length = s.nn) (h01 : v01 v') : s.At w' g v' :=
  ⟨h.var.kept hg (fun e => h.ne k (by injection e)), ho, hl, h.low, h.kp.trans (ok' := (· ≠ g)) (Kp.grown hg fun b _ e => e) (fun b hb _ => by have := h.low; omega), h01⟩
theorem Rw.far {w w' : World} {A : Option Addr} {n g : Nat} {vs : List Value} (h : Rw w A n vs) (hne : ∀ b off, A = some ⟨b, off, none⟩ → b ≠ g) (hg : w.grownBy w' (some g)) : Rw w' A n vs := h.keep (ok := (· ≠ g)) hne (Kp.grown hg fun b _ e => e)
theorem reg_a {N : List Nd} {n : Nat} (hf : N.all (formedS n) = true) {r : Nat} {x1 x2 x3 x4 : Int} (hx : N[r]? = some ⟨x1, x2, x3, x4⟩) (h7 : x1 = 7) : ∃ a : Nat, x2 = (a : Int) ∧ a < n := by
  have h5 := List.all_eq_true.1 hf _ (List.mem_of_getElem? hx)
  subst h7
  unfold formedS at h5
  simp only [Bool.and_eq_true] at h5
  have h6 := h5.2.2.1
  unfold usesS manyS at h6
  simp at h6
  unfold placeS at h6
  simp at h6
  exact ⟨x2.toNat, by omega, by omega⟩
set_option maxHeartbeats 4000000 in
/-- CLOCK. -/
theorem clock_as {B : Nat} {s : Si} {w : World} {g : Nat} {v : List Int} (k : s.Ok B) (h : s.At w g v) {A : Option Addr} {c : Nat} {u : List Int} (hu : Rw w A s.nn (by8 u)) (hne : ∀ b off, A = some ⟨b, off, none⟩ → b ≠ g) (h01 : v01 u) :
    Calls Try.prog 82 #[.pointer (some ⟨s.p, 0, none⟩), .slice A s.nn c] w fun en w' => (∃ r, en = .returned r) ∧ s.At w' g (nextS s.N s.R u u s.R.length) ∧ w.grownBy w' (some g) := by
  have HK := Lib.hid k
  have HNE := Lib.hid hne
  have H01 := Lib.hid h01
  have HUL : Hid (u.length = s.nn) := Lib.hid (by have := hu.1; rwa [by8_len] at this)
  have hnr := k.hr
  have hrl : s.R.length = s.nr := k.r.1
  have HRL := Lib.hid hrl
  have HH := Lib.hid h
  have hp := h.var
  have ho := h.now
  have hlen : (by8 v).length = s.nn := by rw [by8_len]; exact h.len
  obtain ⟨c0, c1, c2, c3, c4, c5⟩ := own6  hp
  clear h h01 hrl k
  go_enter Try.func82, Try.ntmps82
  go_wp2_with (refine wpList_copy_all rfl (.tmp 9) (.tmp 10) 27 27 rfl 5 Try.underlying27 u8_size g s.nn _ A _ rfl rfl _ _ ho hlen (by8 u) hu (one_by8 u) ?_; intro w1 ho1 g1; have h1 := HH.out.step HK.out g1 ho1 HUL.out H01.out; obtain ⟨d0, d1, d2, d3, d4, d5⟩ := own6 h1.var)
  clear c0 c1 c2 c3 c4 c5 hp ho hlen
  have hu1 := hu.far HNE.out g1
  go_loopw [17] (fun iv wr => ∃ j : Nat, j ≤ s.nr ∧ iv = .int .i64 j ∧ Hid (s.At wr g (nextS s.N s.R u u j)) ∧ Hid (w.grownBy wr (some g))) (fun iv _ => s.nr - (intOf iv).toNat)
  case atStart => exact ⟨0, Nat.zero_le _, rfl, Lib.hid h1, Lib.hid g1⟩
  case round =>
    clear ho1 g1 h1 hu1
    obtain ⟨j, hj, rfl, HA, HG⟩ := hrel
    by_cases hlt : j < s.nr
    · obtain ⟨b1, o1, q, eR, HX, q1⟩ := (HA.out.rs HK.out).at hlt
      have HRO := Lib.hid (HK.out.rs q (List.mem_of_getElem? HX.out))
      obtain ⟨r, rfl⟩ := Int.eq_ofNat_of_zero_le HRO.out.1
      have hrn : r < s.nn := by have := HRO.out.2.1; rw [Int.toNat_natCast] at this; rw [← HK.out.n.1]; exact this
      obtain ⟨bn, on, x1, x2, x3, x4, eN, HY, n0, n1, n2, n3⟩ := (HA.out.ns HK.out).at hrn
      obtain ⟨a, rfl, han⟩ := reg_a HK.out.f HY.out (by have := HRO.out.2.2; rwa [Int.toNat_natCast, getD_of HY.out] at this)
      obtain ⟨b2, o2, y, eA, HU, y1⟩ := (hu.far HNE.out HG.out).b8 han
      obtain ⟨z, hz⟩ := look_ex ((nextS_len s.N s.R u u j).trans HUL.out) hrn
      have oc := (HA.out.now.cell r).trans (by8_at hz)
      have of := HA.out.now.free r
      have GS := Lib.hid (grown_set wr ⟨g, r, none⟩ (.int .u8 y))
      have HS : Hid (s.At (wr.setCell ⟨g, r, none⟩ (.int .u8 y)) g (nextS s.N s.R u u (j + 1))) := Lib.hid (by
        have e : nextS s.N s.R u u (j + 1) = (nextS s.N s.R u u j).set r y := by
          rw [nextS, getD_of HX.out, Int.toNat_natCast, getD_of HY.out]
          congr 1
          unfold atI
          rw [Int.toNat_natCast]
          exact getD_of HU.out
        rw [e]
        refine HA.out.step HK.out GS.out ?_ ?_ ?_
        · rw [← by8_set]; exact HA.out.now.put r _
        · rw [List.length_set, nextS_len, HUL.out]
        · exact (nextS_01 _ _ H01.out H01.out j).set _ (H01.out y (List.mem_of_getElem? HU.out)))
      obtain ⟨d0, d1, d2, d3, d4, d5⟩ := own6 HA.out.var
      rw [eR] at d4 ⊢
      rw [eN] at d0
      rw [eA]
      have i0 : (0 : Int) ≤ (r : Int) := by omega
      have i1 : (r : Int) < (s.nn : Int) := by omega
      have a0 : (0 : Int) ≤ (a : Int) := by omega
      have a1 : (a : Int) < (s.nn : Int) := by omega
      clear hz eR eN
      go_wp2_with fail
      go_region
      go_wp2_with fail
      go_roundw
      case rel => exact ⟨j + 1, by omega, by go_num, Lib.hid (HS.out.on (Below.refl _ _).drew), Lib.hid (Gb.below (Gb.trans HG.out GS.out) (Below.refl _ _).drew (Nat.le_refl _))⟩
      case measure => simp [intOf]; omega
    · obtain rfl : j = s.nr := by omega
      go_wp2_with fail
      go_end0
      rw [HRL.out]
      exact ⟨⟨_, rfl⟩, HA.out, HG.out⟩
end Go.Proofs.Ytacphhfhahgeaaa
