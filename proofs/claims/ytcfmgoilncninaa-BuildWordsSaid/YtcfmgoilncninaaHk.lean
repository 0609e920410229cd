
/-
  Layer 7: the laws' awake is true.
-/
import Derived.Test.YtcfmgoilncninaaHj
import Derived.Test.YtcfmgoilncninaaGt
import Derived.Test.YtcfmgoilncninaaLexT
import Derived.Test.YtcfmgoilncninaaGC
namespace Go.Proofs.Ytcfmgoilncninaa
open Go.RowKit
set_option linter.unusedVariables false
set_option maxRecDepth 4000

def N7 : List Nd := [⟨1, 0, 0, 0⟩, ⟨7, 2, 0, 0⟩, ⟨5, 0, 1, 0⟩]
def I7 : List Pt := [⟨⟨#[97]⟩, [0]⟩]
def O7 : List Pt := [⟨⟨#[122]⟩, [1]⟩]
def S7 : List (List Nat) := [[1], [1], [0], [1]]
theorem wr_N7 : wrongS N7 I7 O7 = 0 := by decide +kernel
theorem wr_B7 : wrongS [⟨9, 0, 0, 0⟩] [] [] = 2 := by decide +kernel
theorem lv_N7 : levS N7 = some [0, 0, 1] := by
  have h : All N7 (fun i => [0, 0, 1].getD i 0) := by
    intro i hi
    have hi : i < 3 := hi
    rcases (show i = 0 ∨ i = 1 ∨ i = 2 by omega) with rfl | rfl | rfl
    all_goals exact ⟨_, rfl, by decide, by decide⟩
  rw [levS_is h]
  rfl
theorem ls_N7 : levelS N7 I7 O7 = (some [0, 0, 1], 0) := by
  unfold levelS
  rw [wr_N7, lv_N7]
  rfl
theorem ls_B7 : levelS [⟨9, 0, 0, 0⟩] [] [] = (none, 2) := by
  unfold levelS
  rw [wr_B7]
  rfl
theorem run_N7 : runA N7 I7 O7 S7 = ([[0], [1], [0], [0]], 0) := by
  unfold runA
  rw [ls_N7]
  decide +kernel
def g7 : List Int := [2]
def r7 : List Int := [1]
theorem g_N7 : nI (gatesS N7 (ordU (fun i => [0, 0, 1].getD i 0) [0, 0, 1].length [0, 0, 1].length)) = [2] := by decide +kernel
theorem r_N7 : nI (regsS N7 (ordU (fun i => [0, 0, 1].getD i 0) [0, 0, 1].length [0, 0, 1].length)) = [1] := by decide +kernel
theorem fit2 : fitsS I7 [2] = false := by decide +kernel
theorem fit1 : fitsS I7 [1] = true := by decide +kernel
theorem out_len (u : List Int) : (outS O7 u).length = 1 := rfl
theorem st_1 : stV [1] (nextS N7 [1] (valsS N7 I7 [2] (now0 N7) [1]) (valsS N7 I7 [2] (now0 N7) [1]) ([1] : List Int).length) = [1] := by decide +kernel
theorem st_0 : stV [1] (now0 N7) = [0] := by decide +kernel
theorem arg_lit {w : World} {s : Nat} {xi : Int} (x : Nat) (z : Bx w s [.int .u32 xi]) (he : xi = (x : Int)) (hx : x < 4294967296) : Arg w (some ⟨s, 0, none⟩) 1 1 x := by
  subst he
  refine ⟨[x], ⟨⟨rfl, fun i u hu => ⟨s, 0, rfl, z.1, ?_⟩⟩, Dg.mk hx Dg.nil⟩, Nat.le_refl _, by unfold maxLen; omega, by simp [val]⟩
  rw [Nat.zero_add]
  exact z.2 i u hu
theorem arg_nil {w : World} : Arg w none 0 0 0 := ⟨[], ⟨Sl.nil_, Dg.nil⟩, Nat.le_refl _, by unfold maxLen; omega, rfl⟩
theorem nu_lit {w : World} {s : Nat} {A : Option Addr} {m c x : Nat} (z : Bx w s [.slice A m c]) (h : Arg w A m c x) (hm : m ≤ 1) : Nu w (some ⟨s, 0, none⟩) 1 [x] :=
  ⟨[⟨A, m, c, x⟩], ⟨rfl, fun k u hu => ⟨s, 0, rfl, z.1, by rw [Nat.zero_add]; exact z.2 k u hu⟩⟩, rfl, fun r hr => by rw [List.mem_singleton.1 hr]; exact ⟨h, by dsimp only; omega⟩⟩
theorem nn_lit {w : World} {s : Nat} (rs : List Sm) (z : Bx w s (rs.map smC)) (h : ∀ r ∈ rs, Nu w r.A r.m r.xs ∧ Sw r.A r.m r.c ∧ r.m ≤ 140737488351232) : Nn w (some ⟨s, 0, none⟩) rs.length (rs.map Sm.xs) :=
  ⟨rs, ⟨List.length_map .., fun k u hu => ⟨s, 0, rfl, z.1, by rw [Nat.zero_add]; exact z.2 k u hu⟩⟩, rfl, h⟩
theorem Bx.isI {w : World} {s : Nat} {x : Int} (h : Bx w s [.int .i64 x]) : Is w (some ⟨s, 0, none⟩) 1 [x] := Bx.is (L := [x]) h
theorem RwT.on {t : TypeId} {w w' : World} {A : Option Addr} {n : Nat} {vs : List Value} (h : RwT t w A n vs) (hb : Below w.heap.size w w') : RwT t w' A n vs := h.tk (TK.below hb)
theorem ResT.on {w w' : World} {A : Option Addr} {n x : Nat} (h : ResT w A n x) (hb : Below w.heap.size w w') : ResT w' A n x := h.tk (TK.below hb)
section
variable {t : TypeId} {w : World} {b off n : Nat} {u0 u1 u2 u3 : Value} {vs : List Value}
theorem RwT.cellk (h : RwT t w (some ⟨b, off, none⟩) n vs) {k : Nat} {u : Value} (hu : vs[k]? = some u) : w.cell? ⟨b, off + k, none⟩ = some u := by
  obtain ⟨b', o', e, _, hc⟩ := h.1.2 k u hu
  cases e
  exact hc
theorem RwT.c0 (h : RwT t w (some ⟨b, off, none⟩) n (u0 :: vs)) : w.cell? ⟨b, off, none⟩ = some u0 := h.cellk (k := 0) rfl
theorem RwT.c1 (h : RwT t w (some ⟨b, off, none⟩) n (u0 :: u1 :: vs)) : w.cell? ⟨b, off + 1, none⟩ = some u1 := h.cellk (k := 1) rfl
theorem RwT.c2 (h : RwT t w (some ⟨b, off, none⟩) n (u0 :: u1 :: u2 :: vs)) : w.cell? ⟨b, off + 2, none⟩ = some u2 := h.cellk (k := 2) rfl
theorem RwT.c3 (h : RwT t w (some ⟨b, off, none⟩) n (u0 :: u1 :: u2 :: u3 :: vs)) : w.cell? ⟨b, off + 3, none⟩ = some u3 := h.cellk (k := 3) rfl
end
theorem row_open {t : TypeId} {w : World} {A : Option Addr} {m x : Nat} (h : NuT t w A m [x]) : m = 1 ∧ ∃ b o B k d, A = some ⟨b, o, none⟩ ∧ RwT t w (some ⟨b, o, none⟩) 1 [.slice B k d] ∧ ResT w B k x ∧ k ≤ 3200 ∧ Sw B k d := by
  obtain ⟨rs, h1, h2, h3⟩ := h
  obtain ⟨r, rfl⟩ : ∃ r, rs = [r] := by
    have hl : rs.length = 1 := by have := congrArg List.length h2; simpa using this
    match rs, hl with
    | [r], _ => exact ⟨r, rfl⟩
  obtain rfl : m = 1 := h1.1.1.symm
  obtain ⟨b, o, e, _, _⟩ := h1.1.2 0 _ rfl
  subst e
  injection h2 with h2 _
  have g := h3 r (List.mem_singleton.2 rfl)
  rw [h2] at g
  exact ⟨rfl, b, o, r.A, r.m, r.c, rfl, h1, g.1, g.2.1, g.2.2⟩
theorem rows_open {t t2 : TypeId} {w : World} {A : Option Addr} {m x0 x1 x2 x3 : Nat} (h : NnT t t2 w A m [[x0], [x1], [x2], [x3]]) : m = 4 ∧ ∃ b o r0 r1 r2 r3, A = some ⟨b, o, none⟩ ∧ RwT t w (some ⟨b, o, none⟩) 4 [smC r0, smC r1, smC r2, smC r3] ∧ NuT t2 w r0.A r0.m [x0] ∧ NuT t2 w r1.A r1.m [x1] ∧ NuT t2 w r2.A r2.m [x2] ∧ NuT t2 w r3.A r3.m [x3] := by
  obtain ⟨rs, h1, h2, h3⟩ := h
  obtain ⟨r0, r1, r2, r3, rfl⟩ : ∃ r0 r1 r2 r3, rs = [r0, r1, r2, r3] := by
    have hl : rs.length = 4 := by have := congrArg List.length h2; simpa using this
    match rs, hl with
    | [r0, r1, r2, r3], _ => exact ⟨r0, r1, r2, r3, rfl⟩
  obtain rfl : m = 4 := h1.1.1.symm
  obtain ⟨b, o, e, _, _⟩ := h1.1.2 0 _ rfl
  subst e
  simp only [List.map_cons, List.map_nil, List.cons.injEq, and_true] at h2
  refine ⟨rfl, b, o, r0, r1, r2, r3, rfl, h1, ?_, ?_, ?_, ?_⟩
  · rw [← h2.1]; exact (h3 r0 (by simp)).1
  · rw [← h2.2.1]; exact (h3 r1 (by simp)).1
  · rw [← h2.2.2.1]; exact (h3 r2 (by simp)).1
  · rw [← h2.2.2.2]; exact (h3 r3 (by simp)).1
theorem ResT.arg {w : World} {A : Option Addr} {n c x : Nat} (h : ResT w A n x) (sw : Sw A n c) : Arg w A n c x := by
  obtain ⟨ds, e1, e2, e3⟩ := h.res
  exact ⟨ds, e1, sw.1, sw.2.1, e3⟩
theorem ResT.zero {w : World} {A : Option Addr} {m : Nat} (h : ResT w A m 0) : m = 0 := by
  obtain ⟨ds, h1, h2, h3⟩ := h
  have := canon_unique ds [] h2 Canon.nil (by rw [h3]; rfl)
  subst this
  exact h1.1.1.symm
end Go.Proofs.Ytcfmgoilncninaa
