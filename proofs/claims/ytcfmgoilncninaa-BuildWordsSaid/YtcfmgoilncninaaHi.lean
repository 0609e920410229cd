
/-
  sim: Run.
-/
import Derived.Test.YtcfmgoilncninaaHh
namespace Go.Proofs.Ytcfmgoilncninaa
open Go.RowKit
set_option linter.unusedVariables false
set_option maxRecDepth 4000

/-- a row of rows of numbers: how its elements lie, and what they are. -/
structure Sm where
  A : Option Addr
  m : Nat
  c : Nat
  xs : List Nat
def smC (r : Sm) : Value := .slice r.A r.m r.c
/-- a script comes in. -/
def Nn (w : World) (A : Option Addr) (n : Nat) (xss : List (List Nat)) : Prop := ∃ rs : List Sm, Rw w A n (rs.map smC) ∧ rs.map Sm.xs = xss ∧ ∀ r ∈ rs, Nu w r.A r.m r.xs ∧ Sw r.A r.m r.c ∧ r.m ≤ 140737488351232
/-- rows of numbers, as they are told. -/
def NnT (t t2 : TypeId) (w : World) (A : Option Addr) (n : Nat) (xss : List (List Nat)) : Prop := ∃ rs : List Sm, RwT t w A n (rs.map smC) ∧ rs.map Sm.xs = xss ∧ ∀ r ∈ rs, NuT t2 w r.A r.m r.xs ∧ Sw r.A r.m r.c
section
variable {w w' : World} {A : Option Addr} {n : Nat} {xss : List (List Nat)} {t t2 : TypeId}
theorem Nn.on (h : Nn w A n xss) (hb : Below w.heap.size w w') : Nn w' A n xss := by
  obtain ⟨rs, h1, h2, h3⟩ := h
  exact ⟨rs, h1.on hb, h2, fun r hr => ⟨(h3 r hr).1.on hb, (h3 r hr).2⟩⟩
theorem Nn.len (h : Nn w A n xss) : xss.length = n := by
  obtain ⟨rs, h1, rfl, h3⟩ := h
  have := h1.1
  simpa using this
theorem Nn.at (h : Nn w A n xss) {k : Nat} (hk : k < n) : ∃ b off A' m c xs, A = some ⟨b, off, none⟩ ∧ b < w.heap.size ∧ Hid (xss[k]? = some xs) ∧ w.cell? ⟨b, off + k, none⟩ = some (.slice A' m c) ∧ Nu w A' m xs ∧ m ≤ 140737488351232 ∧ Sw A' m c := by
  obtain ⟨rs, h1, rfl, h3⟩ := h
  obtain ⟨r, hr⟩ := look_ex (by have := h1.1; simpa using this) hk
  obtain ⟨b, off, e, hb, hc⟩ := h1.2 k (smC r) (by rw [List.getElem?_map, hr]; rfl)
  have g := h3 r (List.mem_of_getElem? hr)
  exact ⟨b, off, r.A, r.m, r.c, r.xs, e, hb, Lib.hid (by rw [List.getElem?_map, hr]; rfl), hc, g.1, g.2.2, g.2.1⟩
theorem Nn.take (h : Nn w A n xss) {k : Nat} (hk : k ≤ n) : Nn w A k (xss.take k) := by
  obtain ⟨rs, h1, h2, h3⟩ := h
  refine ⟨rs.take k, ⟨?_, fun i u hu => ?_⟩, by rw [List.map_take, h2], fun r hr => h3 r (List.mem_of_mem_take hr)⟩
  · rw [List.length_map, List.length_take]
    have := h1.1
    rw [List.length_map] at this
    omega
  · rw [List.map_take, List.getElem?_take] at hu
    split at hu
    · exact h1.2 i u hu
    · cases hu
theorem NnT.tk (h : NnT t t2 w A n xss) (h1 : TK t w w') (h2 : TK t2 w w') (h3 : TK 127 w w') : NnT t t2 w' A n xss := by
  obtain ⟨rs, g1, g2, g3⟩ := h
  exact ⟨rs, g1.tk h1, g2, fun r hr => ⟨(g3 r hr).1.tk h2 h3, (g3 r hr).2⟩⟩
theorem NnT.on (h : NnT t t2 w A n xss) (hb : Below w.heap.size w w') : NnT t t2 w' A n xss := h.tk (TK.below hb) (TK.below hb) (TK.below hb)
theorem NnT.len (h : NnT t t2 w A n xss) : xss.length = n := by
  obtain ⟨rs, h1, rfl, h3⟩ := h
  have := h1.1.1
  simpa using this
theorem NnT.at (h : NnT t t2 w A n xss) {k : Nat} (hk : k < n) : ∃ b off A' m c xs, A = some ⟨b, off, none⟩ ∧ b < w.heap.size ∧ Hid (xss[k]? = some xs) ∧ w.cell? ⟨b, off + k, none⟩ = some (.slice A' m c) ∧ NuT t2 w A' m xs ∧ Sw A' m c := by
  obtain ⟨rs, h1, rfl, h3⟩ := h
  obtain ⟨r, hr⟩ := look_ex (by have := h1.1.1; simpa using this) hk
  obtain ⟨b, off, e, hb, hc⟩ := h1.1.2 k (smC r) (by rw [List.getElem?_map, hr]; rfl)
  have g := h3 r (List.mem_of_getElem? hr)
  exact ⟨b, off, r.A, r.m, r.c, r.xs, e, hb, Lib.hid (by rw [List.getElem?_map, hr]; rfl), hc, g.1, g.2⟩
theorem NnT.nil_ : NnT t t2 w none 0 [] := ⟨[], ⟨Rw.nil_, Tg.nil_⟩, rfl, fun r hr => by cases hr⟩
end
/-! what Run tells -/
section
variable (N : List Nd) (I O : List Pt) (G R : List Int) (xss : List (List Nat))
def nowS : Nat → List Int
  | 0 => now0 N
  | j + 1 => nextS N R (valsS N I G (nowS j) (xss.getD j [])) (valsS N I G (nowS j) (xss.getD j [])) R.length
def toldS (j : Nat) : List Nat := outS O (valsS N I G (nowS N I G R xss j) (xss.getD j []))
def runX : List (List Nat) × Int := if xss.all (fitsS I) then ((List.range xss.length).map (toldS N I O G R xss), 0) else ([], 5)
end
noncomputable def runA (N : List Nd) (I O : List Pt) (xss : List (List Nat)) : List (List Nat) × Int := match (levelS N I O).1 with
  | none => ([], (levelS N I O).2)
  | some dd => runX N I O (nI (gatesS N (ordU (fun i => dd.getD i 0) dd.length dd.length))) (nI (regsS N (ordU (fun i => dd.getD i 0) dd.length dd.length))) xss
theorem ty_ne : (127 : TypeId) ≠ 46 ∧ (23 : TypeId) ≠ 46 ∧ (46 : TypeId) ≠ 5 ∧ (23 : TypeId) ≠ 5 ∧ (127 : TypeId) ≠ 5 := by decide
def RunP (w : World) (l : List (List Nat)) (e : Int) (en : Ending) (w' : World) : Prop := ∃ A m c, en = .returned (.tuple #[.slice A m c, .int .i64 e]) ∧ NnT 46 23 w' A m l ∧ Sw A m c ∧ Below w.heap.size w w'
end Go.Proofs.Ytcfmgoilncninaa
