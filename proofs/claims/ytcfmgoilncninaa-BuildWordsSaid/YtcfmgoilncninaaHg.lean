
/-
  sim: State, outs, clock.
-/
import Derived.Test.YtcfmgoilncninaaHf
import Derived.Laws.CopyOwn
namespace Go.Proofs.Ytcfmgoilncninaa
open Go.RowKit
set_option linter.unusedVariables false
set_option maxRecDepth 4000

theorem i64_info7 : (Try.prog.info? 3).map (fun i => (i.zero, i.size, i.bytes)) = some (some (.int .i64 0), 1, 8) := by kernel_rfl
theorem ivs_snoc (L : List Int) (x : Int) : ivs L ++ [Value.int .i64 x] = ivs (L ++ [x]) := by simp [ivs]
theorem ivs_len7 (L : List Int) : (ivs L).length = L.length := by simp [ivs]
theorem Rw.is {w : World} {A : Option Addr} {n : Nat} {L : List Int} (h : Rw w A n (ivs L)) : Is w A n L := ⟨by rw [← ivs_len7]; exact h.1, fun k x hx => h.2 k _ (by unfold ivs; rw [List.getElem?_map, hx]; rfl)⟩
theorem wrap_01' {a : Int} (h : a = 0 ∨ a = 1) : IntKind.i64.wrap a = a := by rcases h with rfl | rfl <;> rfl
def stV (R v : List Int) : List Int := R.map (atI v)
/-! what is told lies in blocks of its types, and so stays -/
/-- blocks of this type are as they were. -/
def TK (t : TypeId) (w w' : World) : Prop := ∀ (b : Nat) cs f, w.heap[b]? = some (.cells cs t f) → w'.heap[b]? = w.heap[b]?
theorem TK.below {t : TypeId} {w w' : World} (hb : Below w.heap.size w w') : TK t w w' := fun b cs f h => hb.block b (Array.getElem?_eq_some_iff.1 h).1
theorem TK.trans {t : TypeId} {w w' w'' : World} (h : TK t w w') (k : TK t w' w'') : TK t w w'' := fun b cs f e => (k b cs f ((h b cs f e).trans e)).trans (h b cs f e)
theorem TK.grown {t t' : TypeId} {w w' : World} {g : Nat} {cs : List Value} (hg : w.grownBy w' (some g)) (ho : Own w g t' cs) (ht : t ≠ t') : TK t w w' := fun b cs f e => hg.block b (Array.getElem?_eq_some_iff.1 e).1 (fun eq => by
  injection eq with eq
  subst eq
  unfold Own at ho
  rw [ho] at e
  injection e with e
  injection e with _ e _
  exact ht e.symm)
theorem TK.row {t t' : TypeId} {w w' : World} {base size n : Nat} {v : Value} {xs : List Value} (hr : w.ownsRow base t' size v n xs) (hg : w.grownBy w' v.ownBlock) (ht : t ≠ t') : TK t w w' := fun b cs f e => hg.block b (Array.getElem?_eq_some_iff.1 e).1 (fun eq => by
  rcases hr.2 with ⟨rfl, _⟩ | ⟨g, cap, cur, rfl, _, h2, _⟩
  · cases eq
  · injection eq with eq
    subst eq
    rw [h2] at e
    injection e with e
    injection e with _ e _
    exact ht e.symm)
def RwT (t : TypeId) (w : World) (A : Option Addr) (n : Nat) (vs : List Value) : Prop := Rw w A n vs ∧ Tg w A n t
def ResT (w : World) (A : Option Addr) (m x : Nat) : Prop := ∃ ds, RwT 127 w A m (U ds) ∧ Canon ds ∧ val ds = x
def NuT (t : TypeId) (w : World) (A : Option Addr) (n : Nat) (xs : List Nat) : Prop := ∃ rs : List Sn, RwT t w A n (rs.map snC) ∧ rs.map Sn.x = xs ∧ ∀ r ∈ rs, ResT w r.A r.m r.x ∧ r.m ≤ 3200 ∧ Sw r.A r.m r.c
section
variable {t : TypeId} {w w' : World} {A : Option Addr} {n x : Nat} {vs : List Value} {xs : List Nat}
theorem RwT.tk (h : RwT t w A n vs) (hk : TK t w w') : RwT t w' A n vs := by
  refine ⟨⟨h.1.1, fun k u hu => ?_⟩, fun h0 => ?_⟩
  · obtain ⟨b, off, h1, h2, h3⟩ := h.1.2 k u hu
    have hkn : k < n := by have := (List.getElem?_eq_some_iff.1 hu).1; rwa [h.1.1] at this
    obtain ⟨b', off', cs, f, e, hc⟩ := h.2 (by omega)
    have e2 := h1.symm.trans e
    cases e2
    have hb := hk b cs f hc
    refine ⟨b, off, h1, ?_, (World.cell?_of_block hb).trans h3⟩
    exact (Array.getElem?_eq_some_iff.1 (hb.trans hc)).1
  · obtain ⟨b, off, cs, f, e, hc⟩ := h.2 h0
    exact ⟨b, off, cs, f, e, (hk b cs f hc).trans hc⟩
theorem ResT.tk (h : ResT w A n x) (hk : TK 127 w w') : ResT w' A n x := by
  obtain ⟨ds, h1, h2⟩ := h
  exact ⟨ds, h1.tk hk, h2⟩
theorem ResT.res (h : ResT w A n x) : Res w A n x := by
  obtain ⟨ds, h1, h2, h3⟩ := h
  exact ⟨ds, ⟨h1.1, h2.1⟩, h2, h3⟩
theorem Res.tg (h : Res w A n x) (ht : Tg w A n 127) : ResT w A n x := by
  obtain ⟨ds, h1, h2, h3⟩ := h
  exact ⟨ds, ⟨h1.1, ht⟩, h2, h3⟩
theorem NuT.tk (h : NuT t w A n xs) (hk : TK t w w') (hu : TK 127 w w') : NuT t w' A n xs := by
  obtain ⟨rs, h1, h2, h3⟩ := h
  exact ⟨rs, h1.tk hk, h2, fun r hr => ⟨(h3 r hr).1.tk hu, (h3 r hr).2⟩⟩
theorem NuT.on (h : NuT t w A n xs) (hb : Below w.heap.size w w') : NuT t w' A n xs := h.tk (TK.below hb) (TK.below hb)
theorem NuT.len (h : NuT t w A n xs) : xs.length = n := by
  obtain ⟨rs, h1, rfl, h3⟩ := h
  have := h1.1.1
  simpa using this
/-- a row of numbers comes in. -/
theorem NuT.nu (h : NuT t w A n xs) : Nu w A n xs := by
  obtain ⟨rs, h1, h2, h3⟩ := h
  exact ⟨rs, h1.1, h2, fun r hr => by
    obtain ⟨g1, g2, g3⟩ := h3 r hr
    obtain ⟨ds, e1, e2, e3⟩ := g1.res
    exact ⟨⟨ds, e1, g3.1, g3.2.1, e3⟩, by omega⟩⟩
end
/-- append(out, x) of one cell: what is of other types stays. -/
theorem wpList_push2 {P : Program} (w : World) {ops : Array Oper} {rest : List Oper} {o : Oper} {a : Act} {Q : Exit → Act → World → Prop} (hgd : o.guard = none) (s x : Operand) (t : TypeId)
    (ho : o.op = .call { callee := .builtin .append, args := #[s, x], argTypes := #[t, t] }) {e : TypeId} {bytes : Nat} (hE : Elm P t e 1 bytes) (hby : bytes ≤ 64)
    (base : Nat) (v : Value) (xs : List Value) (hs : a.eval s = v) (hown : Grow w base e v xs) (u : Value) (hu : u.oneCell' = true) (hx : a.eval x = .slice (some ⟨w.heap.size, 0, none⟩) 1 1)
    (hn : xs.length + 1 ≤ 1000000) (hbase : base ≤ w.heap.size)
    (h : ∀ v' w', Grow w' base e v' (xs ++ [u]) → Below base w w' → (∀ t', t' ≠ e → TK t' w w') → wpList P ops Q rest (a.put o.dst v') w') : wpList P ops Q (o :: rest) a (w.alloc (.cells #[u] e)) := by
  have b1 : Below w.heap.size w (w.alloc (.cells #[u] e)) := below_lit _ _
  have hz : Bx (w.alloc (.cells #[u] e)) w.heap.size [u] := Bx.made_k w rfl #[u] e
  have hr1 := row_on hown b1
  refine wpList_app (A := some ⟨w.heap.size, 0, none⟩) (m := 1) (c := 1) hgd s x t ho hE (by omega) hby base v xs.length xs hs hr1 [u] hx (fun e => by cases e) rfl ?_ (by intro u' hu'; rw [List.mem_singleton.1 hu']; exact hu) hn (Nat.le_trans hbase b1.size) ?_
  · intro ad had j u' hj
    cases had
    rw [add_plain, Nat.zero_add]
    exact hz.2 j u' hj
  · intro v' w' hg hG
    refine h v' w' (by unfold Grow; rw [List.length_append]; exact hg) ?_ fun t' ht => (TK.below b1).trans (TK.row hr1 hG ht)
    exact (b1.mono hbase).grown hG (Nat.le_trans hbase b1.size) fun k hk => (hr1.lt k hk).1
theorem elm_nat : Elm Try.prog 46 23 1 24 := by
  obtain ⟨i, h1, h2, h3, h4⟩ := Go.info_parts (P := Try.prog) (e := 23) (z := .slice none 0 0) (size := 1) (bytes := 24) (by kernel_rfl)
  refine ⟨Try.underlying46, i, _, h1, h2, h3, h4, rfl, fun u hu => ?_⟩
  have hu2 : u ∈ (.slice none 0 0 : Value).cells.toList := hu
  simp [Value.cells] at hu2
  subst hu2
  rfl
theorem nat_ne : (127 : TypeId) ≠ 23 := by decide
theorem u8_size : (Try.prog.info? 5).map (·.size) = some 1 := by kernel_rfl
theorem goInt_nat (n : Nat) : goInt n = .int .i64 (n : Int) := rfl
/-- the whole of the call's own block is copied over. -/
theorem wpList_copy_all {P : Program} {w : World} {ops : Array Oper} {rest : List Oper} {o : Oper} {a : Act} {Q : Exit → Act → World → Prop} (hgd : o.guard = none) (d s : Operand) (dT sT : TypeId)
    (ho : o.op = .call { callee := .builtin .copy, args := #[d, s], argTypes := #[dT, sT] }) (elem : TypeId) (hu : P.underlying dT = some (.slice elem)) (hsz : (P.info? elem).map (·.size) = some 1)
    (g n dCap : Nat) (sp : Option Addr) (sCap : Nat) (hd : a.eval d = .slice (some ⟨g, 0, none⟩) n dCap) (hs : a.eval s = .slice sp n sCap)
    (cur : List Value) (t : TypeId) (hg : Own w g t cur) (hl : cur.length = n) (cs : List Value) (hr : Rw w sp n cs) (h1 : ∀ v ∈ cs, v.oneCell' = true)
    (h : ∀ w', Own w' g t cs → w.grownBy w' (some g) → wpList P ops Q rest (a.put o.dst (goInt n)) w') :
    wpList P ops Q (o :: rest) a w := by
  by_cases h0 : n = 0
  · subst h0
    obtain rfl : cs = [] := List.eq_nil_of_length_eq_zero hr.1
    obtain rfl : cur = [] := List.eq_nil_of_length_eq_zero hl
    refine wpList_copy_nothing hgd d s dT sT ho elem hu hsz _ _ _ _ _ _ hd hs rfl ?_
    exact h w hg (Gb.refl w _)
  · obtain ⟨b, off, u, e, _, _⟩ := hr.at (k := 0) (by omega)
    have hcells := hr.cells
    subst e
    have hln : cs.length = n := hr.1
    refine wpList_copy_own hgd d s dT sT ho elem hu hsz g 0 n dCap _ n sCap hd hs cur.toArray t hg cs (by rw [hln]; simp) (hcells _ rfl) (by simp; omega) h1 ?_
    rw [hln]
    refine h _ ?_ ⟨rfl, rfl, rfl, by simp [World.setRow], fun k hk hne => setRow_other w g k _ (fun e => hne (by rw [e]))⟩
    have := setRow_heap w g cur.toArray (cur.toArray.toList.take 0 ++ (cs ++ cur.toArray.toList.drop (0 + n))).toArray t (0, 0) hg
    unfold Own
    rw [this]
    congr 2
    simp
    omega
theorem Rw.far {w w' : World} {A : Option Addr} {n g : Nat} {vs : List Value} (h : Rw w A n vs) (hne : ∀ b off, A = some ⟨b, off, none⟩ → b ≠ g) (hg : w.grownBy w' (some g)) : Rw w' A n vs := h.keep (ok := (· ≠ g)) hne (Kp.grown hg fun b _ e => e)
theorem reg_a {N : List Nd} {n : Nat} (hf : N.all (formedS n) = true) {r : Nat} {x1 x2 x3 x4 : Int} (hx : N[r]? = some ⟨x1, x2, x3, x4⟩) (h7 : x1 = 7) : ∃ a : Nat, x2 = (a : Int) ∧ a < n := by
  have h5 := List.all_eq_true.1 hf _ (List.mem_of_getElem? hx)
  subst h7
  unfold formedS at h5
  simp only [Bool.and_eq_true] at h5
  have h6 := h5.2.2.1
  unfold usesS manyS at h6
  simp at h6
  unfold placeS at h6
  simp at h6
  exact ⟨x2.toNat, by omega, by omega⟩
end Go.Proofs.Ytcfmgoilncninaa
