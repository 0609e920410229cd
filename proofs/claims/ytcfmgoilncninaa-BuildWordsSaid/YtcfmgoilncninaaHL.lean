/-
  Layer 7: the walk of SimWhole.
  Layer 7: the walk of SimAgain.
  A script among the arguments, opened: cycle by cycle its numbers.
-/
import Derived.Test.YtcfmgoilncninaaHk
import Derived.Test.YtcfmgoilncninaaHi
import Derived.OpenShut
import Derived.ShutString
import Derived.ChangeOld
import Derived.Test.YtcfmgoilncninaaGC
namespace Go.Proofs.Ytcfmgoilncninaa
open Go.RowKit
set_option linter.unusedVariables false
set_option maxRecDepth 4000

theorem nowS_congr (N : List Nd) (I : List Pt) (G R : List Int) (xss yss : List (List Nat)) : ∀ j, (∀ i < j, xss.getD i [] = yss.getD i []) → nowS N I G R xss j = nowS N I G R yss j
  | 0, _ => rfl
  | j + 1, h => by rw [nowS, nowS, nowS_congr N I G R xss yss j (fun i hi => h i (by omega)), h j (by omega)]
theorem toldS_congr (N : List Nd) (I O : List Pt) (G R : List Int) (xss yss : List (List Nat)) (j : Nat) (h : ∀ i < j + 1, xss.getD i [] = yss.getD i []) : toldS N I O G R xss j = toldS N I O G R yss j := by
  unfold toldS
  rw [nowS_congr N I G R xss yss j (fun i hi => h i (by omega)), h j (by omega)]
/-- of the first cycles what goes out is the same. -/
theorem runA_take {N : List Nd} {I O : List Pt} {xss l : List (List Nat)} (h : runA N I O xss = (l, 0)) (k : Nat) (hk : k ≤ xss.length) : runA N I O (xss.take k) = (l.take k, 0) ∧ l.length = xss.length := by
  unfold runA at h ⊢
  obtain ⟨d, e, hl⟩ : ∃ d e, levelS N I O = (d, e) := ⟨_, _, rfl⟩
  rw [hl] at h ⊢
  cases d with
  | none =>
    dsimp only at h
    injection h with h1 h2
    exact absurd h2 (no_of hl)
  | some dd =>
    dsimp only at h ⊢
    unfold runX at h ⊢
    split at h
    · rename_i ha
      injection h with h1 h2
      subst h1
      refine ⟨?_, by simp⟩
      rw [if_pos (List.all_eq_true.2 fun x hx => List.all_eq_true.1 ha x (List.mem_of_mem_take hx))]
      congr 1
      rw [List.length_take, Nat.min_eq_left hk, ← List.map_take, List.take_range, Nat.min_eq_left hk]
      refine List.map_congr_left fun j hj => ?_
      have hj := List.mem_range.1 hj
      refine toldS_congr _ _ _ _ _ _ _ j fun i hi => ?_
      rw [List.getD_eq_getElem?_getD, List.getD_eq_getElem?_getD, List.getElem?_take, if_pos (by omega)]
    · injection h with h1 h2
      cases h2
theorem runA_no {N : List Nd} {I O : List Pt} {xss l : List (List Nat)} {e : Int} (h : runA N I O xss = (l, e)) (he : e ≠ 0) : l = [] := by
  unfold runA at h
  split at h
  · injection h with h1 h2
    exact h1.symm
  · unfold runX at h
    split at h
    · injection h with h1 h2
      exact absurd h2.symm he
    · injection h with h1 h2
      exact h1.symm
theorem runA_len {N : List Nd} {I O : List Pt} {xss l : List (List Nat)} {e : Int} (h : runA N I O xss = (l, e)) : ∀ x ∈ l, x.length = O.length := by
  intro x hx
  unfold runA at h
  split at h
  · injection h with h1 h2
    subst h1
    cases hx
  · unfold runX at h
    split at h
    · injection h with h1 h2
      subst h1
      obtain ⟨j, _, rfl⟩ := List.mem_map.1 hx
      unfold toldS outS
      rw [List.length_map]
    · injection h with h1 h2
      subst h1
      cases hx
theorem bx3 {w : World} {s : Nat} {a b c : Value} (z : Bx w s [a, b, c]) : w.cell? ⟨s, 0, none⟩ = some a ∧ w.cell? ⟨s, 1, none⟩ = some b ∧ w.cell? ⟨s, 2, none⟩ = some c := ⟨z.2 0 _ rfl, z.2 1 _ rfl, z.2 2 _ rfl⟩
/-- one cell, carried on. -/
def Cl (w : World) (b o : Nat) (u : Value) : Prop := b < w.heap.size ∧ w.cell? ⟨b, o, none⟩ = some u
theorem Cl.on {w w' : World} {b o : Nat} {u : Value} (h : Cl w b o u) (hb : Below w.heap.size w w') : Cl w' b o u := ⟨Nat.lt_of_lt_of_le h.1 hb.size, (hb.cell (p := ⟨b, o, none⟩) h.1).trans h.2⟩
end Go.Proofs.Ytcfmgoilncninaa

namespace Go.Proofs.Ytcfmgoilncninaa
open Go.RowKit
set_option linter.unusedVariables false
set_option maxRecDepth 4000

theorem runA_at {N : List Nd} {I O : List Pt} {xss l : List (List Nat)} (h : runA N I O xss = (l, 0)) {dd : List Nat} (hl : levelS N I O = (some dd, 0)) {G R : List Int} (hG : G = nI (gatesS N (ordU (fun i => dd.getD i 0) dd.length dd.length))) (hR : R = nI (regsS N (ordU (fun i => dd.getD i 0) dd.length dd.length))) : l.length = xss.length ∧ ∀ j xs, xss[j]? = some xs → fitsS I xs = true ∧ l[j]? = some (outS O (valsS N I G (nowS N I G R xss j) xs)) ∧ nowS N I G R xss (j + 1) = nextS N R (valsS N I G (nowS N I G R xss j) xs) (valsS N I G (nowS N I G R xss j) xs) R.length := by
  unfold runA at h
  rw [hl] at h
  dsimp only at h
  rw [← hG, ← hR] at h
  unfold runX at h
  split at h
  · rename_i ha
    injection h with h1 h2
    subst h1
    refine ⟨by simp, fun j xs hj => ⟨List.all_eq_true.1 ha xs (List.mem_of_getElem? hj), ?_, by rw [nowS, getD_of hj]⟩⟩
    have hjl := (List.getElem?_eq_some_iff.1 hj).1
    rw [List.getElem?_map, List.getElem?_range hjl]
    show some (toldS N I O G R xss j) = _
    unfold toldS
    rw [getD_of hj]
  · injection h with h1 h2
    cases h2
theorem runA_err {N : List Nd} {I O : List Pt} {xss l : List (List Nat)} {d : Option (List Nat)} {e e' : Int} (h : runA N I O xss = (l, e)) (hl : levelS N I O = (d, e')) (he : e' ≠ 0) : e = e' := by
  unfold runA at h
  rw [hl] at h
  cases d with
  | none =>
    injection h with h1 h2
    exact h2.symm
  | some dd => exact absurd (od_of hl).1 he
end Go.Proofs.Ytcfmgoilncninaa

namespace Go.Proofs.Ytcfmgoilncninaa
open Go.RowKit Go.ChangeShapes Go.WideShapes
set_option linter.unusedVariables false
set_option maxRecDepth 4000

theorem row_arg7 {W : World} {x : Addr} {len cap : Nat} {zs : List Int} (hl : len ≤ cap) (hm : cap ≤ maxLen) (hz : zs.length = cap) (hcell : ∀ i, i < zs.length → W.cell? (x.add i) = some (.int .u32 (zs.getD i 0))) (hwf : ∀ n ∈ zs, (Lit.int .u32 n).wf = true) :
    ∃ v, Arg W (some x) len cap v := by
  have hb : ∀ n ∈ zs, 0 ≤ n ∧ n < 4294967296 := fun n hn => by
    have := hwf n hn
    simp [Lit.wf, IntKind.min, IntKind.max, IntKind.signed, IntKind.bits] at this
    omega
  have hnat : ∀ n ∈ zs, ((n.toNat : Nat) : Int) = n := fun n hn => by have := hb n hn; omega
  refine ⟨_, (zs.take len).map Int.toNat, ⟨⟨?_, ?_⟩, ?_⟩, hl, hm, rfl⟩
  · rw [U_len, List.length_map, List.length_take, hz]
    omega
  · intro i u hu
    rw [U_at, List.getElem?_map, List.getElem?_take] at hu
    split at hu
    · rename_i hi
      have hil : i < zs.length := by omega
      rw [List.getElem?_eq_getElem hil] at hu
      simp only [Option.map_some, Option.some.injEq] at hu
      rw [hnat _ (List.getElem_mem hil)] at hu
      have hc := hcell i hil
      rw [List.getD_eq_getElem?_getD, List.getElem?_eq_getElem hil, Option.getD_some, hu] at hc
      obtain ⟨b, off, spot⟩ := x
      have hc0 := hcell 0 (by omega)
      have hspot : spot = none := by simpa [Addr.add] using World.cell?_spot hc0
      subst hspot
      have hadd : (⟨b, off, none⟩ : Addr).add i = ⟨b, off + i, none⟩ := by
        unfold Addr.add
        split
        · rename_i e; subst e; rfl
        · rfl
      rw [hadd] at hc
      refine ⟨b, off, rfl, ?_, hc⟩
      rcases Nat.lt_or_ge b W.heap.size with h1 | h1
      · exact h1
      · simp only [World.cell?] at hc
        rw [Array.getElem?_eq_none h1] at hc
        cases hc
    · simp at hu
  · intro y hy
    obtain ⟨n, hn, rfl⟩ := List.mem_map.1 hy
    have := hb n (List.mem_of_mem_take hn)
    omega
theorem u8_wf {y : Int} (h : (Lit.int .u8 y).wf = true) : 0 ≤ y ∧ y ≤ 255 := by
  simp [Lit.wf, IntKind.min, IntKind.max, IntKind.signed, IntKind.bits] at h
  omega
section
variable {H : Type} {enc : TypeId × Value → H} {w : World}
theorem bytes_u32 : Try.prog.bytesOf 127 = 4 := by kernel_rfl
theorem bytes_nat : Try.prog.bytesOf 23 = 24 := by kernel_rfl
theorem bytes_nats : Try.prog.bytesOf 46 = 24 := by kernel_rfl
theorem cells_u32 : Try.prog.cellsOf 127 = 1 := by kernel_rfl
theorem cells_nat : Try.prog.cellsOf 23 = 1 := by kernel_rfl
theorem cells_nats : Try.prog.cellsOf 46 = 1 := by kernel_rfl
theorem open_num6 {fuel : Nat} {v : Value} {x : DataW H × List MemPlace} (h : DataW.trod enc Try.prog w 0 (fun _ => true) true fuel 23 [v] = some x) (hz : ∀ n ∈ x.1.weights Try.prog 23, n ≤ RB) :
    ∃ A n c y, v = .slice A n c ∧ Arg w A n c y ∧ n ≤ RB ∧ Sw A n c := by
  rcases open_ints Try.underlying23 Try.underlying127 cells_u32 h with ⟨hcs, _⟩ | ⟨a, l, c, zs, hcs, _, hl, hm, hzl, hx, hcell, hwz⟩
  · cases hcs
    exact ⟨none, 0, 0, 0, rfl, (Res.none_ w).arg (by omega), by omega, Sw.nil_⟩
  · cases hcs
    simp only [if_true] at hzl
    obtain ⟨y, hy⟩ := row_arg7 hl hm hzl hcell hwz
    have hc : c ≤ RB := by
      have := hz (c * Try.prog.bytesOf 127) (by
        rw [hx]
        simp only [DataW.weights, Try.underlying23, List.mem_cons, List.length_map, lits, List.length_take, List.length_drop, hzl]
        exact .inl (by congr 1; omega))
      rw [bytes_u32] at this
      omega
    exact ⟨some a, l, c, y, rfl, hy, by omega, ⟨hl, hm, fun e => by cases e⟩⟩
theorem open_row6 {fuel : Nat} {v : Value} {x : DataW H × List MemPlace} (h : DataW.trod enc Try.prog w 0 (fun _ => true) true fuel 46 [v] = some x) (hz : ∀ n ∈ x.1.weights Try.prog 46, n ≤ RB) :
    ∃ A n c xs, v = .slice A n c ∧ Nu w A n xs ∧ n ≤ RB ∧ Sw A n c := by
  rcases Go.Deep.open_slice Try.underlying46 h with ⟨hcs, _⟩ | ⟨a, l, c, m, fu, D, Pl, hcs, _, hl, hm, hmm, hx, hel⟩
  · cases hcs
    exact ⟨none, 0, 0, [], rfl, ⟨[], Rw.nil_, rfl, fun r hr => by cases hr⟩, by omega, Sw.nil_⟩
  · cases hcs
    simp only [if_true] at hmm
    subst hmm
    have hc : m ≤ RB := by
      have := hz (m * Try.prog.bytesOf 23) (by
        rw [hx]
        simp only [DataW.weights, Try.underlying46, List.mem_cons, List.length_map, List.length_range]
        exact .inl (by congr 1; omega))
      rw [bytes_nat] at this
      omega
    have hel' : ∀ k < l, ∀ n ∈ (D k).weights Try.prog 23, n ≤ RB := fun k hk n hn => hz n (by
      rw [hx]
      simp only [DataW.weights, Try.underlying46, List.mem_cons, List.mem_append]
      exact .inr (.inl (weights_all (List.mem_map.2 ⟨k, List.mem_range.2 hk, rfl⟩) n hn)))
    obtain ⟨L, hL1, hL2⟩ := list_ex (Q := fun (k : Nat) (r : Sn) => (∃ b off, some a = some ⟨b, off, none⟩ ∧ b < w.heap.size ∧ w.cell? ⟨b, off + k, none⟩ = some (snC r)) ∧ Arg w r.A r.m r.c r.x ∧ r.m ≤ 140737488351232) l (fun k hk => by
      have hs : a.spot = none := by
        obtain ⟨cs, h1, _⟩ := hel 0 (by omega)
        rw [cells_nat] at h1
        obtain ⟨_, hcl, hce⟩ := World.cells?_some h1
        have g0 := hce 0 (by omega)
        rw [Go.Deep.add_add, Nat.zero_mul, List.getElem?_eq_getElem (by omega)] at g0
        exact spot_of g0
      obtain ⟨cs, h1, h2⟩ := hel k (by omega)
      rw [cells_nat] at h1
      obtain ⟨_, hcl, hce⟩ := World.cells?_some h1
      obtain ⟨c0, rfl⟩ : ∃ c0, cs = [c0] := by
        match cs, hcl with
        | [c0], _ => exact ⟨c0, rfl⟩
      obtain ⟨A', m', c', y, rfl, ha, hr, _⟩ := open_num6 h2 (hel' k hk)
      have g0 := hce 0 (by omega)
      rw [Go.Deep.add_add, Nat.mul_one, Nat.add_zero] at g0
      obtain ⟨b, o, rfl, hb, q0⟩ := one_at hs g0
      exact ⟨⟨A', m', c', y⟩, ⟨b, o, rfl, hb, q0⟩, ha, hr⟩)
    exact ⟨some a, l, m, L.map Sn.x, rfl, ⟨L, ⟨by rw [List.length_map]; exact hL1, fun k u hu => by
      rw [List.getElem?_map] at hu
      cases e : L[k]? with
      | none => rw [e] at hu; cases hu
      | some r =>
        rw [e] at hu
        cases hu
        exact (hL2 k r e).1⟩, rfl, fun r hr => by
      obtain ⟨k, hk⟩ := List.mem_iff_getElem?.1 hr
      exact (hL2 k r hk).2⟩, by omega, ⟨hl, hm, fun e => by cases e⟩⟩
end
end Go.Proofs.Ytcfmgoilncninaa
