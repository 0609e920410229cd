
/-
  Layer 7: the laws' awake is true.
-/
import Derived.Test.YtacphhfhahgeaaaHj
import Derived.Test.YtacphhfhahgeaaaGt
import Derived.Test.YtacphhfhahgeaaaLexT
import Derived.Test.YtacphhfhahgeaaaGca
namespace Go.Proofs.Ytacphhfhahgeaaa
open Go.RowKit
set_option linter.unusedVariables false
set_option maxRecDepth 4000

def N7 : List Nd := [⟨1, 0, 0, 0⟩, ⟨7, 2, 0, 0⟩, ⟨5, 0, 1, 0⟩]
def I7 : List Pt := [⟨⟨#[97]⟩, [0]⟩]
def O7 : List Pt := [⟨⟨#[122]⟩, [1]⟩]
def S7 : List (List Nat) := [[1], [1], [0], [1]]
theorem wr_N7 : wrongS N7 I7 O7 = 0 := by decide +kernel
theorem wr_B7 : wrongS [⟨9, 0, 0, 0⟩] [] [] = 2 := by decide +kernel
theorem lv_N7 : levS N7 = some [0, 0, 1] := by
  have h : All N7 (fun i => [0, 0, 1].getD i 0) := by
    intro i hi
    have hi : i < 3 := hi
    rcases (show i = 0 ∨ i = 1 ∨ i = 2 by omega) with rfl | rfl | rfl
    all_goals exact ⟨_, rfl, by decide, by decide⟩
  rw [levS_is h]
  rfl
theorem ls_N7 : levelS N7 I7 O7 = (some [0, 0, 1], 0) := by
  unfold levelS
  rw [wr_N7, lv_N7]
  rfl
theorem ls_B7 : levelS [⟨9, 0, 0, 0⟩] [] [] = (none, 2) := by
  unfold levelS
  rw [wr_B7]
  rfl
theorem run_N7 : runA N7 I7 O7 S7 = ([[0], [1], [0], [0]], 0) := by
  unfold runA
  rw [ls_N7]
  decide +kernel
def g7 : List Int := [2]
def r7 : List Int := [1]
theorem g_N7 : nI (gatesS N7 (ordU (fun i => [0, 0, 1].getD i 0) [0, 0, 1].length [0, 0, 1].length)) = [2] := by decide +kernel
theorem r_N7 : nI (regsS N7 (ordU (fun i => [0, 0, 1].getD i 0) [0, 0, 1].length [0, 0, 1].length)) = [1] := by decide +kernel
theorem fit2 : fitsS I7 [2] = false := by decide +kernel
theorem fit1 : fitsS I7 [1] = true := by decide +kernel
theorem out_len (u : List Int) : (outS O7 u).length = 1 := rfl
theorem st_1 : stV [1] (nextS N7 [1] (valsS N7 I7 [2] (now0 N7) [1]) (valsS N7 I7 [2] (now0 N7) [1]) ([1] : List Int).length) = [1] := by decide +kernel
theorem st_0 : stV [1] (now0 N7) = [0] := by decide +kernel
theorem arg_lit {w : World} {s : Nat} {xi : Int} (x : Nat) (z : Bx w s [.int .u32 xi]) (he : xi = (x : Int)) (hx : x < 4294967296) : Arg w (some ⟨s, 0, none⟩) 1 1 x := by
  subst he
  refine ⟨[x], ⟨⟨rfl, fun i u hu => ⟨s, 0, rfl, z.1, ?_⟩⟩, Dg.mk hx Dg.nil⟩, Nat.le_refl _, by unfold maxLen; omega, by simp [val]⟩
  rw [Nat.zero_add]
  exact z.2 i u hu
theorem arg_nil {w : World} : Arg w none 0 0 0 := ⟨[], ⟨Sl.nil_, Dg.nil⟩, Nat.le_refl _, by unfold maxLen; omega, rfl⟩
theorem nu_lit {w : World} {s : Nat} {A : Option Addr} {m c x : Nat} (z : Bx w s [.slice A m c]) (h : Arg w A m c x) (hm : m ≤ 1) : Nu w (some ⟨s, 0, none⟩) 1 [x] :=
  ⟨[⟨A, m, c, x⟩], ⟨rfl, fun k u hu => ⟨s, 0, rfl, z.1, by rw [Nat.zero_add]; exact z.2 k u hu⟩⟩, rfl, fun r hr => by rw [List.mem_singleton.1 hr]; exact ⟨h, by dsimp only; omega⟩⟩
theorem nn_lit {w : World} {s : Nat} (rs : List Sm) (z : Bx w s (rs.map smC)) (h : ∀ r ∈ rs, Nu w r.A r.m r.xs ∧ Sw r.A r.m r.c ∧ r.m ≤ 140737488351232) : Nn w (some ⟨s, 0, none⟩) rs.length (rs.map Sm.xs) :=
  ⟨rs, ⟨List.length_map .., fun k u hu => ⟨s, 0, rfl, z.1, by rw [Nat.zero_add]; exact z.2 k u hu⟩⟩, rfl, h⟩
theorem Bx.isI {w : World} {s : Nat} {x : Int} (h : Bx w s [.int .i64 x]) : Is w (some ⟨s, 0, none⟩) 1 [x] := Bx.is (L := [x]) h
theorem RwT.on {t : TypeId} {w w' : World} {A : Option Addr} {n : Nat} {vs : List Value} (h : RwT t w A n vs) (hb : Below w.heap.size w w') : RwT t w' A n vs := h.tk (TK.below hb)
theorem ResT.on {w w' : World} {A : Option Addr} {n x : Nat} (h : ResT w A n x) (hb : Below w.heap.size w w') : ResT w' A n x := h.tk (TK.below hb)
section
variable {t : TypeId} {w : World} {b off n : Nat} {u0 u1 u2 u3 : Value} {vs : List Value}
theorem RwT.cellk (h : RwT t w (some ⟨b, off, none⟩) n vs) {k : Nat} {u : Value} (hu : vs[k]? = some u) : w.cell? ⟨b, off + k, none⟩ = some u := by
  obtain ⟨b', o', e, _, hc⟩ := h.1.2 k u hu
  cases e
  exact hc
theorem RwT.c0 (h : RwT t w (some ⟨b, off, none⟩) n (u0 :: vs)) : w.cell? ⟨b, off, none⟩ = some u0 := h.cellk (k := 0) rfl
theorem RwT.c1 (h : RwT t w (some ⟨b, off, none⟩) n (u0 :: u1 :: vs)) : w.cell? ⟨b, off + 1, none⟩ = some u1 := h.cellk (k := 1) rfl
theorem RwT.c2 (h : RwT t w (some ⟨b, off, none⟩) n (u0 :: u1 :: u2 :: vs)) : w.cell? ⟨b, off + 2, none⟩ = some u2 := h.cellk (k := 2) rfl
theorem RwT.c3 (h : RwT t w (some ⟨b, off, none⟩) n (u0 :: u1 :: u2 :: u3 :: vs)) : w.cell? ⟨b, off + 3, none⟩ = some u3 := h.cellk (k := 3) rfl
end
theorem row_open {t : TypeId} {w : World} {A : Option Addr} {m x : Nat} (h : NuT t w A m [x]) : m = 1 ∧ ∃ b o B k d, A = some ⟨b, o, none⟩ ∧ RwT t w (some ⟨b, o, none⟩) 1 [.slice B k d] ∧ ResT w B k x ∧ k ≤ 3200 ∧ Sw B k d := by
  obtain ⟨rs, h1, h2, h3⟩ := h
  obtain ⟨r, rfl⟩ : ∃ r, rs = [r] := by
    have hl : rs.length = 1 := by have := congrArg List.length h2; simpa using this
    match rs, hl with
    | [r], _ => exact ⟨r, rfl⟩
  obtain rfl : m = 1 := h1.1.1.symm
  obtain ⟨b, o, e, _, _⟩ := h1.1.2 0 _ rfl
  subst e
  injection h2 with h2 _
  have g := h3 r (List.mem_singleton.2 rfl)
  rw [h2] at g
  exact ⟨rfl, b, o, r.A, r.m, r.c, rfl, h1, g.1, g.2.1, g.2.2⟩
theorem rows_open {t t2 : TypeId} {w : World} {A : Option Addr} {m x0 x1 x2 x3 : Nat} (h : NnT t t2 w A m [[x0], [x1], [x2], [x3]]) : m = 4 ∧ ∃ b o r0 r1 r2 r3, A = some ⟨b, o, none⟩ ∧ RwT t w (some ⟨b, o, none⟩) 4 [smC r0, smC r1, smC r2, smC r3] ∧ NuT t2 w r0.A r0.m [x0] ∧ NuT t2 w r1.A r1.m [x1] ∧ NuT t2 w r2.A r2.m [x2] ∧ NuT t2 w r3.A r3.m [x3] := by
  obtain ⟨rs, h1, h2, h3⟩ := h
  obtain ⟨r0, r1, r2, r3, rfl⟩ : ∃ r0 r1 r2 r3, rs = [r0, r1, r2, r3] := by
    have hl : rs.length = 4 := by have := congrArg List.length h2; simpa using this
    match rs, hl with
    | [r0, r1, r2, r3], _ => exact ⟨r0, r1, r2, r3, rfl⟩
  obtain rfl : m = 4 := h1.1.1.symm
  obtain ⟨b, o, e, _, _⟩ := h1.1.2 0 _ rfl
  subst e
  simp only [List.map_cons, List.map_nil, List.cons.injEq, and_true] at h2
  refine ⟨rfl, b, o, r0, r1, r2, r3, rfl, h1, ?_, ?_, ?_, ?_⟩
  · rw [← h2.1]; exact (h3 r0 (by simp)).1
  · rw [← h2.2.1]; exact (h3 r1 (by simp)).1
  · rw [← h2.2.2.1]; exact (h3 r2 (by simp)).1
  · rw [← h2.2.2.2]; exact (h3 r3 (by simp)).1
theorem ResT.arg {w : World} {A : Option Addr} {n c x : Nat} (h : ResT w A n x) (sw : Sw A n c) : Arg w A n c x := by
  obtain ⟨ds, e1, e2, e3⟩ := h.res
  exact ⟨ds, e1, sw.1, sw.2.1, e3⟩
theorem cmp_one {A1 A2 : Option Addr} {n1 c1 n2 c2 : Nat} {w : World} (h1 : Arg w A1 n1 c1 1) (h2 : Arg w A2 n2 c2 1) (s1 : n1 ≤ 2000000) (s2 : n2 ≤ 2000000) :
    Calls Try.prog 74 #[.slice A1 n1 c1, .slice A2 n2 c2] w fun en w' => en = .returned (.int .i64 0) ∧ Below w.heap.size w w' := by
  refine (cmp_any h1 h2 s1 s2).mono ?_
  rintro en w' ⟨d, rfl, rfl⟩
  exact ⟨rfl, below_drewN (Below.refl _ _) d⟩
theorem ResT.zero {w : World} {A : Option Addr} {m : Nat} (h : ResT w A m 0) : m = 0 := by
  obtain ⟨ds, h1, h2, h3⟩ := h
  have := canon_unique ds [] h2 Canon.nil (by rw [h3]; rfl)
  subst this
  exact h1.1.1.symm
set_option maxRecDepth 20000 in
set_option maxHeartbeats 8000000 in
theorem awake7_any (w : World) : Calls Try.prog 15 #[] w fun en w' => en = .returned (.bool true) ∧ Below w.heap.size w w' := by
  go_enter Try.func15, Try.ntmps15
  go_upto_region 2 with fail
  obtain ⟨w1, e_w1⟩ : ∃ w', w.alloc (.cells #[.int .i64 1, .int .i64 0, .int .i64 0, .int .i64 0, .int .i64 7, .int .i64 2, .int .i64 0, .int .i64 0, .int .i64 5, .int .i64 0, .int .i64 1, .int .i64 0] 50) = w' := ⟨_, rfl⟩
  have b : Below w.heap.size w w1 := e_w1 ▸ below_lit _ _
  have hs_w1 : w1.heap.size = w.heap.size + 1 := e_w1 ▸ size_lit w _ rfl
  have xn : Bx w1 w.heap.size [.int .i64 1, .int .i64 0, .int .i64 0, .int .i64 0, .int .i64 7, .int .i64 2, .int .i64 0, .int .i64 0, .int .i64 5, .int .i64 0, .int .i64 1, .int .i64 0] := e_w1 ▸ Bx.made_k w rfl #[.int .i64 1, .int .i64 0, .int .i64 0, .int .i64 0, .int .i64 7, .int .i64 2, .int .i64 0, .int .i64 0, .int .i64 5, .int .i64 0, .int .i64 1, .int .i64 0] 50
  rw [e_w1]
  clear e_w1
  have BW := b
  clear b
  obtain ⟨w2, e_w2⟩ : ∃ w', w1.alloc (.cells #[.int .i64 0] 3) = w' := ⟨_, rfl⟩
  have b : Below w1.heap.size w1 w2 := e_w2 ▸ below_lit _ _
  have hs_w2 : w2.heap.size = (w.heap.size + 1) + 1 := e_w2 ▸ size_lit w1 _ hs_w1
  have xa : Bx w2 (w.heap.size + 1) [.int .i64 0] := e_w2 ▸ Bx.made_k w1 hs_w1 #[.int .i64 0] 3
  rw [e_w2]
  clear e_w2
  replace xn := xn.on b
  replace BW := Below.step BW b
  clear b
  obtain ⟨w3, e_w3⟩ : ∃ w', w2.alloc (.cells #[.string ⟨#[97]⟩, .slice (some ⟨(w.heap.size + 1), 0, none⟩) 1 1] 94) = w' := ⟨_, rfl⟩
  have b : Below w2.heap.size w2 w3 := e_w3 ▸ below_lit _ _
  have hs_w3 : w3.heap.size = ((w.heap.size + 1) + 1) + 1 := e_w3 ▸ size_lit w2 _ hs_w2
  have xi : Bx w3 ((w.heap.size + 1) + 1) [.string ⟨#[97]⟩, .slice (some ⟨(w.heap.size + 1), 0, none⟩) 1 1] := e_w3 ▸ Bx.made_k w2 hs_w2 #[.string ⟨#[97]⟩, .slice (some ⟨(w.heap.size + 1), 0, none⟩) 1 1] 94
  rw [e_w3]
  clear e_w3
  replace xn := xn.on b
  replace xa := xa.on b
  replace BW := Below.step BW b
  clear b
  obtain ⟨w4, e_w4⟩ : ∃ w', w3.alloc (.cells #[.int .i64 1] 3) = w' := ⟨_, rfl⟩
  have b : Below w3.heap.size w3 w4 := e_w4 ▸ below_lit _ _
  have hs_w4 : w4.heap.size = (((w.heap.size + 1) + 1) + 1) + 1 := e_w4 ▸ size_lit w3 _ hs_w3
  have xb : Bx w4 (((w.heap.size + 1) + 1) + 1) [.int .i64 1] := e_w4 ▸ Bx.made_k w3 hs_w3 #[.int .i64 1] 3
  rw [e_w4]
  clear e_w4
  replace xn := xn.on b
  replace xa := xa.on b
  replace xi := xi.on b
  replace BW := Below.step BW b
  clear b
  obtain ⟨w5, e_w5⟩ : ∃ w', w4.alloc (.cells #[.string ⟨#[122]⟩, .slice (some ⟨(((w.heap.size + 1) + 1) + 1), 0, none⟩) 1 1] 94) = w' := ⟨_, rfl⟩
  have b : Below w4.heap.size w4 w5 := e_w5 ▸ below_lit _ _
  have hs_w5 : w5.heap.size = ((((w.heap.size + 1) + 1) + 1) + 1) + 1 := e_w5 ▸ size_lit w4 _ hs_w4
  have xo : Bx w5 ((((w.heap.size + 1) + 1) + 1) + 1) [.string ⟨#[122]⟩, .slice (some ⟨(((w.heap.size + 1) + 1) + 1), 0, none⟩) 1 1] := e_w5 ▸ Bx.made_k w4 hs_w4 #[.string ⟨#[122]⟩, .slice (some ⟨(((w.heap.size + 1) + 1) + 1), 0, none⟩) 1 1] 94
  rw [e_w5]
  clear e_w5
  replace xn := xn.on b
  replace xa := xa.on b
  replace xi := xi.on b
  replace xb := xb.on b
  replace BW := Below.step BW b
  clear b
  obtain ⟨w6, e_w6⟩ : ∃ w', w5.alloc (.cells #[.slice (some ⟨w.heap.size, 0, none⟩) 3 3, .slice (some ⟨((w.heap.size + 1) + 1), 0, none⟩) 1 1, .slice (some ⟨((((w.heap.size + 1) + 1) + 1) + 1), 0, none⟩) 1 1] 25) = w' := ⟨_, rfl⟩
  have b : Below w5.heap.size w5 w6 := e_w6 ▸ below_lit _ _
  have hs_w6 : w6.heap.size = (((((w.heap.size + 1) + 1) + 1) + 1) + 1) + 1 := e_w6 ▸ size_lit w5 _ hs_w5
  have zn : Bx w6 (((((w.heap.size + 1) + 1) + 1) + 1) + 1) [.slice (some ⟨w.heap.size, 0, none⟩) 3 3, .slice (some ⟨((w.heap.size + 1) + 1), 0, none⟩) 1 1, .slice (some ⟨((((w.heap.size + 1) + 1) + 1) + 1), 0, none⟩) 1 1] := e_w6 ▸ Bx.made_k w5 hs_w5 #[.slice (some ⟨w.heap.size, 0, none⟩) 3 3, .slice (some ⟨((w.heap.size + 1) + 1), 0, none⟩) 1 1, .slice (some ⟨((((w.heap.size + 1) + 1) + 1) + 1), 0, none⟩) 1 1] 25
  rw [e_w6]
  clear e_w6
  replace xn := xn.on b
  replace xa := xa.on b
  replace xi := xi.on b
  replace xb := xb.on b
  replace xo := xo.on b
  replace BW := Below.step BW b
  clear b
  have h : Nt w6 (some ⟨w.heap.size, 0, none⟩) 3 3 (some ⟨((w.heap.size + 1) + 1), 0, none⟩) 1 1 (some ⟨((((w.heap.size + 1) + 1) + 1) + 1), 0, none⟩) 1 1 N7 I7 O7 := ⟨Bx.ns (L := N7) xn, xi.ps1 (Bx.is (L := [0]) xa) ⟨by omega, fun e => by cases e⟩ (by unfold maxLen; omega), xo.ps1 (Bx.is (L := [1]) xb) ⟨by omega, fun e => by cases e⟩ (by unfold maxLen; omega), Sw.one _ _ (by omega), Sw.one _ _ (by omega), by omega, by omega, fun p hp => by simp [I7, O7] at hp; rcases hp with rfl | rfl <;> simp⟩
  clear xn xa xi xb xo
  clear hs_w1 hs_w2 hs_w3 hs_w4 hs_w5 hs_w6
  obtain ⟨a5, ha5⟩ : ∃ a, (((((w.heap.size + 1) + 1) + 1) + 1) + 1) = a := ⟨_, rfl⟩
  rw [ha5] at zn ⊢
  clear ha5
  obtain ⟨a4, ha4⟩ : ∃ a, ((((w.heap.size + 1) + 1) + 1) + 1) = a := ⟨_, rfl⟩
  rw [ha4] at h zn ⊢
  clear ha4
  obtain ⟨a3, ha3⟩ : ∃ a, (((w.heap.size + 1) + 1) + 1) = a := ⟨_, rfl⟩
  rw [ha3] at ⊢
  clear ha3
  obtain ⟨a2, ha2⟩ : ∃ a, ((w.heap.size + 1) + 1) = a := ⟨_, rfl⟩
  rw [ha2] at h zn ⊢
  clear ha2
  obtain ⟨a1, ha1⟩ : ∃ a, (w.heap.size + 1) = a := ⟨_, rfl⟩
  rw [ha1] at ⊢
  clear ha1
  have znc0 := zn.2 0 _ rfl
  have znc1 := zn.2 1 _ rfl
  have znc2 := zn.2 2 _ rfl
  go_wp2_with fail
  clear znc0 znc1 znc2
  obtain ⟨w7, e_w7⟩ : ∃ w', w6.alloc (.cells #[.int .u32 1] 111) = w' := ⟨_, rfl⟩
  have b : Below w6.heap.size w6 w7 := e_w7 ▸ below_lit _ _
  have hs_w7 : w7.heap.size = w6.heap.size + 1 := e_w7 ▸ size_lit w6 _ rfl
  have xu0 : Bx w7 w6.heap.size [.int .u32 1] := e_w7 ▸ Bx.made_k w6 rfl #[.int .u32 1] 111
  rw [e_w7]
  clear e_w7
  replace zn := zn.on b
  replace h := h.on b
  replace BW := Below.step BW b
  clear b
  have xu0a := arg_lit 1 xu0 rfl (by omega)
  clear xu0
  obtain ⟨w8, e_w8⟩ : ∃ w', w7.alloc (.cells #[.slice (some ⟨w6.heap.size, 0, none⟩) 1 1] 55) = w' := ⟨_, rfl⟩
  have b : Below w7.heap.size w7 w8 := e_w8 ▸ below_lit _ _
  have hs_w8 : w8.heap.size = (w6.heap.size + 1) + 1 := e_w8 ▸ size_lit w7 _ hs_w7
  have xr0 : Bx w8 (w6.heap.size + 1) [.slice (some ⟨w6.heap.size, 0, none⟩) 1 1] := e_w8 ▸ Bx.made_k w7 hs_w7 #[.slice (some ⟨w6.heap.size, 0, none⟩) 1 1] 55
  rw [e_w8]
  clear e_w8
  replace zn := zn.on b
  replace h := h.on b
  replace xu0a := xu0a.on b
  replace BW := Below.step BW b
  clear b
  have xr0n := nu_lit xr0 xu0a (by omega)
  clear xr0
  clear xu0a
  obtain ⟨w9, e_w9⟩ : ∃ w', w8.alloc (.cells #[.int .u32 1] 111) = w' := ⟨_, rfl⟩
  have b : Below w8.heap.size w8 w9 := e_w9 ▸ below_lit _ _
  have hs_w9 : w9.heap.size = ((w6.heap.size + 1) + 1) + 1 := e_w9 ▸ size_lit w8 _ hs_w8
  have xu1 : Bx w9 ((w6.heap.size + 1) + 1) [.int .u32 1] := e_w9 ▸ Bx.made_k w8 hs_w8 #[.int .u32 1] 111
  rw [e_w9]
  clear e_w9
  replace zn := zn.on b
  replace h := h.on b
  replace xr0n := xr0n.on b
  replace BW := Below.step BW b
  clear b
  have xu1a := arg_lit 1 xu1 rfl (by omega)
  clear xu1
  obtain ⟨w10, e_w10⟩ : ∃ w', w9.alloc (.cells #[.slice (some ⟨((w6.heap.size + 1) + 1), 0, none⟩) 1 1] 55) = w' := ⟨_, rfl⟩
  have b : Below w9.heap.size w9 w10 := e_w10 ▸ below_lit _ _
  have hs_w10 : w10.heap.size = (((w6.heap.size + 1) + 1) + 1) + 1 := e_w10 ▸ size_lit w9 _ hs_w9
  have xr1 : Bx w10 (((w6.heap.size + 1) + 1) + 1) [.slice (some ⟨((w6.heap.size + 1) + 1), 0, none⟩) 1 1] := e_w10 ▸ Bx.made_k w9 hs_w9 #[.slice (some ⟨((w6.heap.size + 1) + 1), 0, none⟩) 1 1] 55
  rw [e_w10]
  clear e_w10
  replace zn := zn.on b
  replace h := h.on b
  replace xr0n := xr0n.on b
  replace xu1a := xu1a.on b
  replace BW := Below.step BW b
  clear b
  have xr1n := nu_lit xr1 xu1a (by omega)
  clear xr1
  clear xu1a
  obtain ⟨w11, e_w11⟩ : ∃ w', w10.alloc (.cells #[.slice none 0 0] 55) = w' := ⟨_, rfl⟩
  have b : Below w10.heap.size w10 w11 := e_w11 ▸ below_lit _ _
  have hs_w11 : w11.heap.size = ((((w6.heap.size + 1) + 1) + 1) + 1) + 1 := e_w11 ▸ size_lit w10 _ hs_w10
  have xr2 : Bx w11 ((((w6.heap.size + 1) + 1) + 1) + 1) [.slice none 0 0] := e_w11 ▸ Bx.made_k w10 hs_w10 #[.slice none 0 0] 55
  rw [e_w11]
  clear e_w11
  replace zn := zn.on b
  replace h := h.on b
  replace xr0n := xr0n.on b
  replace xr1n := xr1n.on b
  replace BW := Below.step BW b
  clear b
  have xr2n := nu_lit xr2 arg_nil (by omega)
  clear xr2
  obtain ⟨w12, e_w12⟩ : ∃ w', w11.alloc (.cells #[.int .u32 1] 111) = w' := ⟨_, rfl⟩
  have b : Below w11.heap.size w11 w12 := e_w12 ▸ below_lit _ _
  have hs_w12 : w12.heap.size = (((((w6.heap.size + 1) + 1) + 1) + 1) + 1) + 1 := e_w12 ▸ size_lit w11 _ hs_w11
  have xu3 : Bx w12 (((((w6.heap.size + 1) + 1) + 1) + 1) + 1) [.int .u32 1] := e_w12 ▸ Bx.made_k w11 hs_w11 #[.int .u32 1] 111
  rw [e_w12]
  clear e_w12
  replace zn := zn.on b
  replace h := h.on b
  replace xr0n := xr0n.on b
  replace xr1n := xr1n.on b
  replace xr2n := xr2n.on b
  replace BW := Below.step BW b
  clear b
  have xu3a := arg_lit 1 xu3 rfl (by omega)
  clear xu3
  obtain ⟨w13, e_w13⟩ : ∃ w', w12.alloc (.cells #[.slice (some ⟨(((((w6.heap.size + 1) + 1) + 1) + 1) + 1), 0, none⟩) 1 1] 55) = w' := ⟨_, rfl⟩
  have b : Below w12.heap.size w12 w13 := e_w13 ▸ below_lit _ _
  have hs_w13 : w13.heap.size = ((((((w6.heap.size + 1) + 1) + 1) + 1) + 1) + 1) + 1 := e_w13 ▸ size_lit w12 _ hs_w12
  have xr3 : Bx w13 ((((((w6.heap.size + 1) + 1) + 1) + 1) + 1) + 1) [.slice (some ⟨(((((w6.heap.size + 1) + 1) + 1) + 1) + 1), 0, none⟩) 1 1] := e_w13 ▸ Bx.made_k w12 hs_w12 #[.slice (some ⟨(((((w6.heap.size + 1) + 1) + 1) + 1) + 1), 0, none⟩) 1 1] 55
  rw [e_w13]
  clear e_w13
  replace zn := zn.on b
  replace h := h.on b
  replace xr0n := xr0n.on b
  replace xr1n := xr1n.on b
  replace xr2n := xr2n.on b
  replace xu3a := xu3a.on b
  replace BW := Below.step BW b
  clear b
  have xr3n := nu_lit xr3 xu3a (by omega)
  clear xr3
  clear xu3a
  obtain ⟨w14, e_w14⟩ : ∃ w', w13.alloc (.cells #[.slice (some ⟨(w6.heap.size + 1), 0, none⟩) 1 1, .slice (some ⟨(((w6.heap.size + 1) + 1) + 1), 0, none⟩) 1 1, .slice (some ⟨((((w6.heap.size + 1) + 1) + 1) + 1), 0, none⟩) 1 1, .slice (some ⟨((((((w6.heap.size + 1) + 1) + 1) + 1) + 1) + 1), 0, none⟩) 1 1] 42) = w' := ⟨_, rfl⟩
  have b : Below w13.heap.size w13 w14 := e_w14 ▸ below_lit _ _
  have hs_w14 : w14.heap.size = (((((((w6.heap.size + 1) + 1) + 1) + 1) + 1) + 1) + 1) + 1 := e_w14 ▸ size_lit w13 _ hs_w13
  have xs : Bx w14 (((((((w6.heap.size + 1) + 1) + 1) + 1) + 1) + 1) + 1) [.slice (some ⟨(w6.heap.size + 1), 0, none⟩) 1 1, .slice (some ⟨(((w6.heap.size + 1) + 1) + 1), 0, none⟩) 1 1, .slice (some ⟨((((w6.heap.size + 1) + 1) + 1) + 1), 0, none⟩) 1 1, .slice (some ⟨((((((w6.heap.size + 1) + 1) + 1) + 1) + 1) + 1), 0, none⟩) 1 1] := e_w14 ▸ Bx.made_k w13 hs_w13 #[.slice (some ⟨(w6.heap.size + 1), 0, none⟩) 1 1, .slice (some ⟨(((w6.heap.size + 1) + 1) + 1), 0, none⟩) 1 1, .slice (some ⟨((((w6.heap.size + 1) + 1) + 1) + 1), 0, none⟩) 1 1, .slice (some ⟨((((((w6.heap.size + 1) + 1) + 1) + 1) + 1) + 1), 0, none⟩) 1 1] 42
  rw [e_w14]
  clear e_w14
  replace zn := zn.on b
  replace h := h.on b
  replace xr0n := xr0n.on b
  replace xr1n := xr1n.on b
  replace xr2n := xr2n.on b
  replace xr3n := xr3n.on b
  replace BW := Below.step BW b
  clear b
  have hs : Nn w14 (some ⟨(((((((w6.heap.size + 1) + 1) + 1) + 1) + 1) + 1) + 1), 0, none⟩) 4 S7 := nn_lit (s := (((((((w6.heap.size + 1) + 1) + 1) + 1) + 1) + 1) + 1)) [⟨some ⟨(w6.heap.size + 1), 0, none⟩, 1, 1, [1]⟩, ⟨some ⟨(((w6.heap.size + 1) + 1) + 1), 0, none⟩, 1, 1, [1]⟩, ⟨some ⟨((((w6.heap.size + 1) + 1) + 1) + 1), 0, none⟩, 1, 1, [0]⟩, ⟨some ⟨((((((w6.heap.size + 1) + 1) + 1) + 1) + 1) + 1), 0, none⟩, 1, 1, [1]⟩] xs (fun r hr => by
    simp only [List.mem_cons, List.not_mem_nil, or_false] at hr
    rcases hr with rfl | rfl | rfl | rfl
    · exact ⟨xr0n, Sw.one _ _ (by dsimp only; omega), by dsimp only; omega⟩
    · exact ⟨xr1n, Sw.one _ _ (by dsimp only; omega), by dsimp only; omega⟩
    · exact ⟨xr2n, Sw.one _ _ (by dsimp only; omega), by dsimp only; omega⟩
    · exact ⟨xr3n, Sw.one _ _ (by dsimp only; omega), by dsimp only; omega⟩)
  clear xs xr0n xr1n xr2n xr3n
  refine (run_any h (Sw.one _ _ (by omega)) (fun p hp => by simp [I7, O7] at hp; rcases hp with rfl | rfl <;> simp) hs (by omega) run_N7).mono ?_
  rintro en w15 ⟨Al, ml, cl, rfl, hl, swl, b⟩
  clear hs
  replace zn := zn.on b
  replace h := h.on b
  replace BW := Below.step BW b
  clear b
  clear hs_w7 hs_w8 hs_w9 hs_w10 hs_w11 hs_w12 hs_w13 hs_w14
  obtain ⟨rfl, bL, oL, r0, r1, r2, r3, rfl, RL, n0, n1, n2, n3⟩ := rows_open hl
  clear hl
  obtain ⟨A0, m0, d0, x0⟩ := r0
  dsimp only at n0
  obtain ⟨rfl, b0, o0, B0, k0, e0, rfl, R0, V0, hk0, sk0⟩ := row_open n0
  clear n0
  obtain ⟨A1, m1, d1, x1⟩ := r1
  dsimp only at n1
  obtain ⟨rfl, b1, o1, B1, k1, e1, rfl, R1, V1, hk1, sk1⟩ := row_open n1
  clear n1
  obtain ⟨A2, m2, d2, x2⟩ := r2
  dsimp only at n2
  obtain ⟨rfl, b2, o2, B2, k2, e2, rfl, R2, V2, hk2, sk2⟩ := row_open n2
  clear n2
  obtain ⟨A3, m3, d3, x3⟩ := r3
  dsimp only at n3
  obtain ⟨rfl, b3, o3, B3, k3, e3, rfl, R3, V3, hk3, sk3⟩ := row_open n3
  clear n3
  unfold smC at RL
  dsimp only at RL
  obtain rfl : k0 = 0 := V0.zero
  obtain rfl : k2 = 0 := V2.zero
  obtain rfl : k3 = 0 := V3.zero
  clear V0 V2 V3
  have znc0 := zn.2 0 _ rfl
  have znc1 := zn.2 1 _ rfl
  have znc2 := zn.2 2 _ rfl
  go_wp2_with fail
  refine (new_as h (Sw.one _ _ (by omega)) (fun p hp => by simp [I7, O7] at hp; rcases hp with rfl | rfl <;> simp) ls_N7).mono ?_
  rintro en w16 ⟨s, g, rfl, k, hA, e1, e2, e3, e4, e5, e6, b⟩
  rw [g_N7] at e5
  rw [r_N7] at e6
  clear znc0 znc1 znc2
  have hg0 : w.heap.size ≤ g := by have h1 := k.low; have h2 := k.hp; have h3 := hA.low; have h4 := BW.size; omega
  have hp0 : w.heap.size ≤ s.p := Nat.le_trans BW.size k.low
  replace zn := zn.on b
  replace h := h.on b
  replace RL := RL.on b
  replace R0 := R0.on b
  replace R1 := R1.on b
  replace R2 := R2.on b
  replace R3 := R3.on b
  replace V1 := V1.on b
  replace BW := Below.step BW b
  clear b
  clear h zn
  go_wp2_with fail
  obtain ⟨w17, e_w17⟩ : ∃ w', w16.alloc (.cells #[.int .i64 9, .int .i64 0, .int .i64 0, .int .i64 0] 50) = w' := ⟨_, rfl⟩
  have b : Below w16.heap.size w16 w17 := e_w17 ▸ below_lit _ _
  have hs_w17 : w17.heap.size = w16.heap.size + 1 := e_w17 ▸ size_lit w16 _ rfl
  have xl : Bx w17 w16.heap.size [.int .i64 9, .int .i64 0, .int .i64 0, .int .i64 0] := e_w17 ▸ Bx.made_k w16 rfl #[.int .i64 9, .int .i64 0, .int .i64 0, .int .i64 0] 50
  rw [e_w17]
  clear e_w17
  replace RL := RL.on b
  replace R0 := R0.on b
  replace R1 := R1.on b
  replace R2 := R2.on b
  replace R3 := R3.on b
  replace V1 := V1.on b
  replace hA := hA.on b
  replace BW := Below.step BW b
  clear b
  have h9 : Nt w17 (some ⟨w16.heap.size, 0, none⟩) 1 1 none 0 0 none 0 0 [⟨9, 0, 0, 0⟩] [] [] := ⟨Bx.ns (L := [⟨9, 0, 0, 0⟩]) xl, Ps.nil_, Ps.nil_, Sw.nil_, Sw.nil_, by omega, by omega, fun p hp => by cases hp⟩
  clear xl
  clear hs_w17
  refine (new_no h9 ls_B7 (by decide)).mono ?_
  rintro en w18 ⟨rfl, b⟩
  replace RL := RL.on b
  replace R0 := R0.on b
  replace R1 := R1.on b
  replace R2 := R2.on b
  replace R3 := R3.on b
  replace V1 := V1.on b
  replace hA := hA.on b
  replace BW := Below.step BW b
  clear b
  clear h9
  have RLc0 := RL.c0
  have RLc1 := RL.c1
  have RLc2 := RL.c2
  have RLc3 := RL.c3
  have Rc0 := R0.c0
  have Rc1 := R1.c0
  have Rc2 := R2.c0
  have Rc3 := R3.c0
  go_wp2_with fail
  clear RLc0 RLc1 RLc2 RLc3 Rc0 Rc1 Rc2 Rc3
  obtain ⟨w19, e_w19⟩ : ∃ w', w18.alloc (.cells #[.int .u32 2] 111) = w' := ⟨_, rfl⟩
  have b : Below w18.heap.size w18 w19 := e_w19 ▸ below_lit _ _
  have hs_w19 : w19.heap.size = w18.heap.size + 1 := e_w19 ▸ size_lit w18 _ rfl
  have xu : Bx w19 w18.heap.size [.int .u32 2] := e_w19 ▸ Bx.made_k w18 rfl #[.int .u32 2] 111
  rw [e_w19]
  clear e_w19
  replace RL := RL.on b
  replace R0 := R0.on b
  replace R1 := R1.on b
  replace R2 := R2.on b
  replace R3 := R3.on b
  replace V1 := V1.on b
  replace hA := hA.on b
  replace BW := Below.step BW b
  clear b
  have xua := arg_lit 2 xu rfl (by omega)
  clear xu
  obtain ⟨w20, e_w20⟩ : ∃ w', w19.alloc (.cells #[.slice (some ⟨w18.heap.size, 0, none⟩) 1 1] 55) = w' := ⟨_, rfl⟩
  have b : Below w19.heap.size w19 w20 := e_w20 ▸ below_lit _ _
  have hs_w20 : w20.heap.size = (w18.heap.size + 1) + 1 := e_w20 ▸ size_lit w19 _ hs_w19
  have xr : Bx w20 (w18.heap.size + 1) [.slice (some ⟨w18.heap.size, 0, none⟩) 1 1] := e_w20 ▸ Bx.made_k w19 hs_w19 #[.slice (some ⟨w18.heap.size, 0, none⟩) 1 1] 55
  rw [e_w20]
  clear e_w20
  replace RL := RL.on b
  replace R0 := R0.on b
  replace R1 := R1.on b
  replace R2 := R2.on b
  replace R3 := R3.on b
  replace V1 := V1.on b
  replace hA := hA.on b
  replace xua := xua.on b
  replace BW := Below.step BW b
  clear b
  have xrn := nu_lit xr xua (by omega)
  clear xr
  clear xua
  have xrn2 := xrn
  clear xrn
  refine (step_no k hA xrn2 (by omega) (by rw [e3]; exact fit2)).mono ?_
  rintro en w21 ⟨rfl, b⟩
  clear xrn2
  replace RL := RL.on b
  replace R0 := R0.on b
  replace R1 := R1.on b
  replace R2 := R2.on b
  replace R3 := R3.on b
  replace V1 := V1.on b
  replace hA := hA.on b
  replace BW := Below.step BW b
  clear b
  clear hs_w20 hs_w19
  go_wp2_with fail
  obtain ⟨w22, e_w22⟩ : ∃ w', w21.alloc (.cells #[.int .u32 1] 111) = w' := ⟨_, rfl⟩
  have b : Below w21.heap.size w21 w22 := e_w22 ▸ below_lit _ _
  have hs_w22 : w22.heap.size = w21.heap.size + 1 := e_w22 ▸ size_lit w21 _ rfl
  have xu : Bx w22 w21.heap.size [.int .u32 1] := e_w22 ▸ Bx.made_k w21 rfl #[.int .u32 1] 111
  rw [e_w22]
  clear e_w22
  replace RL := RL.on b
  replace R0 := R0.on b
  replace R1 := R1.on b
  replace R2 := R2.on b
  replace R3 := R3.on b
  replace V1 := V1.on b
  replace hA := hA.on b
  replace BW := Below.step BW b
  clear b
  have xua := arg_lit 1 xu rfl (by omega)
  clear xu
  obtain ⟨w23, e_w23⟩ : ∃ w', w22.alloc (.cells #[.slice (some ⟨w21.heap.size, 0, none⟩) 1 1] 55) = w' := ⟨_, rfl⟩
  have b : Below w22.heap.size w22 w23 := e_w23 ▸ below_lit _ _
  have hs_w23 : w23.heap.size = (w21.heap.size + 1) + 1 := e_w23 ▸ size_lit w22 _ hs_w22
  have xr : Bx w23 (w21.heap.size + 1) [.slice (some ⟨w21.heap.size, 0, none⟩) 1 1] := e_w23 ▸ Bx.made_k w22 hs_w22 #[.slice (some ⟨w21.heap.size, 0, none⟩) 1 1] 55
  rw [e_w23]
  clear e_w23
  replace RL := RL.on b
  replace R0 := R0.on b
  replace R1 := R1.on b
  replace R2 := R2.on b
  replace R3 := R3.on b
  replace V1 := V1.on b
  replace hA := hA.on b
  replace xua := xua.on b
  replace BW := Below.step BW b
  clear b
  have xrn := nu_lit xr xua (by omega)
  clear xr
  clear xua
  have xrn2 := xrn
  clear xrn
  refine (peek_as k hA xrn2 (by omega) (by rw [e3]; exact fit1)).mono ?_
  rintro en w24 ⟨Ap, mp, cp, rfl, hrp, swp, b⟩
  clear xrn2
  rw [e4] at hrp
  obtain rfl : mp = 1 := hrp.len.symm
  clear hrp
  replace RL := RL.on b
  replace R0 := R0.on b
  replace R1 := R1.on b
  replace R2 := R2.on b
  replace R3 := R3.on b
  replace V1 := V1.on b
  replace hA := hA.on b
  replace BW := Below.step BW b
  clear b
  clear hs_w23 hs_w22
  go_wp2_with fail
  obtain ⟨w25, e_w25⟩ : ∃ w', w24.alloc (.cells #[.int .u32 1] 111) = w' := ⟨_, rfl⟩
  have b : Below w24.heap.size w24 w25 := e_w25 ▸ below_lit _ _
  have hs_w25 : w25.heap.size = w24.heap.size + 1 := e_w25 ▸ size_lit w24 _ rfl
  have xu : Bx w25 w24.heap.size [.int .u32 1] := e_w25 ▸ Bx.made_k w24 rfl #[.int .u32 1] 111
  rw [e_w25]
  clear e_w25
  replace RL := RL.on b
  replace R0 := R0.on b
  replace R1 := R1.on b
  replace R2 := R2.on b
  replace R3 := R3.on b
  replace V1 := V1.on b
  replace hA := hA.on b
  replace BW := Below.step BW b
  clear b
  have xua := arg_lit 1 xu rfl (by omega)
  clear xu
  obtain ⟨w26, e_w26⟩ : ∃ w', w25.alloc (.cells #[.slice (some ⟨w24.heap.size, 0, none⟩) 1 1] 55) = w' := ⟨_, rfl⟩
  have b : Below w25.heap.size w25 w26 := e_w26 ▸ below_lit _ _
  have hs_w26 : w26.heap.size = (w24.heap.size + 1) + 1 := e_w26 ▸ size_lit w25 _ hs_w25
  have xr : Bx w26 (w24.heap.size + 1) [.slice (some ⟨w24.heap.size, 0, none⟩) 1 1] := e_w26 ▸ Bx.made_k w25 hs_w25 #[.slice (some ⟨w24.heap.size, 0, none⟩) 1 1] 55
  rw [e_w26]
  clear e_w26
  replace RL := RL.on b
  replace R0 := R0.on b
  replace R1 := R1.on b
  replace R2 := R2.on b
  replace R3 := R3.on b
  replace V1 := V1.on b
  replace hA := hA.on b
  replace xua := xua.on b
  replace BW := Below.step BW b
  clear b
  have xrn := nu_lit xr xua (by omega)
  clear xr
  clear xua
  have xrn2 := xrn
  clear xrn
  refine (simStep_as k hA xrn2 (by omega) (by rw [e3]; exact fit1)).mono ?_
  rintro en w27 ⟨Ao, mo, co, rfl, hro, swo, hA2, G⟩
  clear xrn2 hro
  have on := hA.now
  replace RL := RL.tk (TK.grown G on (by decide))
  replace R0 := R0.tk (TK.grown G on (by decide))
  replace R1 := R1.tk (TK.grown G on (by decide))
  replace R2 := R2.tk (TK.grown G on (by decide))
  replace R3 := R3.tk (TK.grown G on (by decide))
  replace V1 := V1.tk (TK.grown G on (by decide))
  replace BW := BW.grown G BW.size fun k hk => by injection hk with hk; omega
  clear hA G on
  have hA := hA2
  clear hA2
  clear hs_w26 hs_w25
  go_wp2_with fail
  refine (state_as k hA).mono ?_
  rintro en w28 ⟨Ak, mk, ck, rfl, hk, swk, hlk, b⟩
  rw [e2, e3, e5, e6, st_1] at hk
  have hpk : ∀ b off, Ak = some ⟨b, off, none⟩ → b ≠ s.p := fun b off e => by have h1 := hlk b off e; have h2 := hA.var.lt; omega
  clear hlk
  replace RL := RL.on b
  replace R0 := R0.on b
  replace R1 := R1.on b
  replace R2 := R2.on b
  replace R3 := R3.on b
  replace V1 := V1.on b
  replace hA := hA.on b
  replace BW := Below.step BW b
  clear b
  go_wp2_with fail
  refine (resetAt_as k hA).mono ?_
  rintro en w29 ⟨⟨u, rfl⟩, g2, hA2, G⟩
  have on := hA.var
  replace RL := RL.tk (TK.grown G on (by decide))
  replace R0 := R0.tk (TK.grown G on (by decide))
  replace R1 := R1.tk (TK.grown G on (by decide))
  replace R2 := R2.tk (TK.grown G on (by decide))
  replace R3 := R3.tk (TK.grown G on (by decide))
  replace V1 := V1.tk (TK.grown G on (by decide))
  replace hk := hk.keep (ok := (· ≠ s.p)) hpk (Kp.grown G fun b _ e => e)
  replace BW := BW.grown G BW.size fun k hk => by injection hk with hk; omega
  clear hA G on hpk
  have hA := hA2
  clear hA2
  rw [e2] at hA
  go_wp2_with fail
  have hmk : mk ≤ 1000000 := by have := hk.1; simp at this; omega
  try dsimp only [List.append]
  refine region_two [0, 1, 2, 3, 4, 5, 6, 7, 8, 9, 10, 11, 12, 13, 14, 15, 16, 17, 18, 19, 20, 21, 22, 23, 24, 25, 26, 27, 28, 29, 30, 31, 32, 33, 34, 35, 36, 37, 38, 39, 40, 41, 42, 43, 44, 45, 46, 47, 48, 49, 50, 51, 52, 53, 54, 55, 56, 57, 58, 59, 60, 61, 62, 63, 64, 65, 66, 67, 68, 69, 70] 71 72 [72, 73, 74, 75] [71, 73, 74, 75] (by kernel_rfl) (by kernel_rfl) (by kernel_rfl) (by kernel_rfl) (by kernel_rfl) (by kernel_rfl) (by kernel_rfl) ?_
  dsimp only [pick, nth]
  replace RL := RL.on ((Below.refl _ _).drew : Below w29.heap.size w29 w29.drew)
  replace R0 := R0.on ((Below.refl _ _).drew : Below w29.heap.size w29 w29.drew)
  replace R1 := R1.on ((Below.refl _ _).drew : Below w29.heap.size w29 w29.drew)
  replace R2 := R2.on ((Below.refl _ _).drew : Below w29.heap.size w29 w29.drew)
  replace R3 := R3.on ((Below.refl _ _).drew : Below w29.heap.size w29 w29.drew)
  replace V1 := V1.on ((Below.refl _ _).drew : Below w29.heap.size w29 w29.drew)
  replace hA := hA.on ((Below.refl _ _).drew : Below w29.heap.size w29 w29.drew)
  replace hk := hk.on ((Below.refl _ _).drew : Below w29.heap.size w29 w29.drew)
  replace BW := Below.step BW ((Below.refl _ _).drew : Below w29.heap.size w29 w29.drew)
  obtain ⟨w30, e_w30⟩ : ∃ w', w29.drew = w' := ⟨_, rfl⟩
  rw [e_w30] at RL R0 R1 R2 R3 V1 hA hk BW ⊢
  clear e_w30
  have lf0 := fun s : Wd w30 => (RL.on s.below).c0
  have lf1 := fun s : Wd w30 => (RL.on s.below).c1
  have lf2 := fun s : Wd w30 => (RL.on s.below).c2
  have lf3 := fun s : Wd w30 => (RL.on s.below).c3
  have lf4 := fun s : Wd w30 => (R0.on s.below).c0
  have lf5 := fun s : Wd w30 => (R1.on s.below).c0
  have lf6 := fun s : Wd w30 => (R2.on s.below).c0
  have lf7 := fun s : Wd w30 => (R3.on s.below).c0
  refine lexK_plain 8 (by kernel_rfl) ?_
  dsimp only [List.take, List.drop]
  repeat go_big_quiet_step (fail)
  refine wpQuiet_nil ?_
  clear lf0 lf1 lf2 lf3 lf4 lf5 lf6 lf7
  refine lexK_call (by kernel_rfl) (by kernel_rfl) (fun w31 b K hK => ?_)
  replace RL := RL.on b
  replace R0 := R0.on b
  replace R1 := R1.on b
  replace R2 := R2.on b
  replace R3 := R3.on b
  replace V1 := V1.on b
  replace hA := hA.on b
  replace hk := hk.on b
  replace BW := Below.step BW b
  clear b
  go_simp
  refine hK _ _ (Below.refl _ _) ?_
  clear hK K
  have lf0 := fun s : Wd w31 => (RL.on s.below).c0
  have lf1 := fun s : Wd w31 => (RL.on s.below).c1
  have lf2 := fun s : Wd w31 => (RL.on s.below).c2
  have lf3 := fun s : Wd w31 => (RL.on s.below).c3
  have lf4 := fun s : Wd w31 => (R0.on s.below).c0
  have lf5 := fun s : Wd w31 => (R1.on s.below).c0
  have lf6 := fun s : Wd w31 => (R2.on s.below).c0
  have lf7 := fun s : Wd w31 => (R3.on s.below).c0
  refine lexK_plain 8 (by kernel_rfl) ?_
  dsimp only [List.take, List.drop]
  repeat go_big_quiet_step (fail)
  refine wpQuiet_nil ?_
  clear lf0 lf1 lf2 lf3 lf4 lf5 lf6 lf7
  refine lexK_call (by kernel_rfl) (by kernel_rfl) (fun w32 b K hK => ?_)
  replace RL := RL.on b
  replace R0 := R0.on b
  replace R1 := R1.on b
  replace R2 := R2.on b
  replace R3 := R3.on b
  replace V1 := V1.on b
  replace hA := hA.on b
  replace hk := hk.on b
  replace BW := Below.step BW b
  clear b
  go_simp
  refine (of_any 1 (by omega) _).mono ?_
  rintro en w33 ⟨Af, nf, rfl, hf, hnf, b⟩
  dsimp only
  refine hK _ _ b ?_
  clear hK K
  replace RL := RL.on b
  replace R0 := R0.on b
  replace R1 := R1.on b
  replace R2 := R2.on b
  replace R3 := R3.on b
  replace V1 := V1.on b
  replace hA := hA.on b
  replace hk := hk.on b
  replace BW := Below.step BW b
  clear b
  refine lexK_call (by kernel_rfl) (by kernel_rfl) (fun w34 b K hK => ?_)
  replace RL := RL.on b
  replace R0 := R0.on b
  replace R1 := R1.on b
  replace R2 := R2.on b
  replace R3 := R3.on b
  replace V1 := V1.on b
  replace hA := hA.on b
  replace hk := hk.on b
  replace hf := hf.on b
  replace BW := Below.step BW b
  clear b
  go_simp
  refine (cmp_one (V1.arg sk1) (hf.arg (by omega)) (by omega) (by omega)).mono ?_
  rintro en w35 ⟨rfl, b⟩
  dsimp only
  refine hK _ _ b ?_
  clear hK K
  replace RL := RL.on b
  replace R0 := R0.on b
  replace R1 := R1.on b
  replace R2 := R2.on b
  replace R3 := R3.on b
  replace V1 := V1.on b
  replace hA := hA.on b
  replace hk := hk.on b
  replace hf := hf.on b
  replace BW := Below.step BW b
  clear b
  have lf0 := fun s : Wd w35 => (RL.on s.below).c0
  have lf1 := fun s : Wd w35 => (RL.on s.below).c1
  have lf2 := fun s : Wd w35 => (RL.on s.below).c2
  have lf3 := fun s : Wd w35 => (RL.on s.below).c3
  have lf4 := fun s : Wd w35 => (R0.on s.below).c0
  have lf5 := fun s : Wd w35 => (R1.on s.below).c0
  have lf6 := fun s : Wd w35 => (R2.on s.below).c0
  have lf7 := fun s : Wd w35 => (R3.on s.below).c0
  refine lexK_plain 8 (by kernel_rfl) ?_
  dsimp only [List.take, List.drop]
  repeat go_big_quiet_step (fail)
  refine wpQuiet_nil ?_
  clear lf0 lf1 lf2 lf3 lf4 lf5 lf6 lf7
  refine lexK_call (by kernel_rfl) (by kernel_rfl) (fun w36 b K hK => ?_)
  replace RL := RL.on b
  replace R0 := R0.on b
  replace R1 := R1.on b
  replace R2 := R2.on b
  replace R3 := R3.on b
  replace V1 := V1.on b
  replace hA := hA.on b
  replace hk := hk.on b
  replace hf := hf.on b
  replace BW := Below.step BW b
  clear b
  go_simp
  refine hK _ _ (Below.refl _ _) ?_
  clear hK K
  have lf0 := fun s : Wd w36 => (RL.on s.below).c0
  have lf1 := fun s : Wd w36 => (RL.on s.below).c1
  have lf2 := fun s : Wd w36 => (RL.on s.below).c2
  have lf3 := fun s : Wd w36 => (RL.on s.below).c3
  have lf4 := fun s : Wd w36 => (R0.on s.below).c0
  have lf5 := fun s : Wd w36 => (R1.on s.below).c0
  have lf6 := fun s : Wd w36 => (R2.on s.below).c0
  have lf7 := fun s : Wd w36 => (R3.on s.below).c0
  refine lexK_plain 8 (by kernel_rfl) ?_
  dsimp only [List.take, List.drop]
  repeat go_big_quiet_step (fail)
  refine wpQuiet_nil ?_
  clear lf0 lf1 lf2 lf3 lf4 lf5 lf6 lf7
  refine lexK_call (by kernel_rfl) (by kernel_rfl) (fun w37 b K hK => ?_)
  replace RL := RL.on b
  replace R0 := R0.on b
  replace R1 := R1.on b
  replace R2 := R2.on b
  replace R3 := R3.on b
  replace V1 := V1.on b
  replace hA := hA.on b
  replace hk := hk.on b
  replace hf := hf.on b
  replace BW := Below.step BW b
  clear b
  go_simp
  refine hK _ _ (Below.refl _ _) ?_
  clear hK K
  have lf0 := fun s : Wd w37 => (RL.on s.below).c0
  have lf1 := fun s : Wd w37 => (RL.on s.below).c1
  have lf2 := fun s : Wd w37 => (RL.on s.below).c2
  have lf3 := fun s : Wd w37 => (RL.on s.below).c3
  have lf4 := fun s : Wd w37 => (R0.on s.below).c0
  have lf5 := fun s : Wd w37 => (R1.on s.below).c0
  have lf6 := fun s : Wd w37 => (R2.on s.below).c0
  have lf7 := fun s : Wd w37 => (R3.on s.below).c0
  refine lexK_plain 16 (by kernel_rfl) ?_
  dsimp only [List.take, List.drop]
  repeat go_big_quiet_step (fail)
  refine wpQuiet_nil ?_
  clear lf0 lf1 lf2 lf3 lf4 lf5 lf6 lf7
  refine lexK_call (by kernel_rfl) (by kernel_rfl) (fun w38 b K hK => ?_)
  replace RL := RL.on b
  replace R0 := R0.on b
  replace R1 := R1.on b
  replace R2 := R2.on b
  replace R3 := R3.on b
  replace V1 := V1.on b
  replace hA := hA.on b
  replace hk := hk.on b
  replace hf := hf.on b
  replace BW := Below.step BW b
  clear b
  go_simp
  refine hK _ _ (Below.refl _ _) ?_
  clear hK K
  have lf0 := fun s : Wd w38 => (RL.on s.below).c0
  have lf1 := fun s : Wd w38 => (RL.on s.below).c1
  have lf2 := fun s : Wd w38 => (RL.on s.below).c2
  have lf3 := fun s : Wd w38 => (RL.on s.below).c3
  have lf4 := fun s : Wd w38 => (R0.on s.below).c0
  have lf5 := fun s : Wd w38 => (R1.on s.below).c0
  have lf6 := fun s : Wd w38 => (R2.on s.below).c0
  have lf7 := fun s : Wd w38 => (R3.on s.below).c0
  refine lexK_plain 12 (by kernel_rfl) ?_
  dsimp only [List.take, List.drop]
  repeat go_big_quiet_step (fail)
  refine wpQuiet_nil ?_
  clear lf0 lf1 lf2 lf3 lf4 lf5 lf6 lf7
  refine lexK_call (by kernel_rfl) (by kernel_rfl) (fun w39 b K hK => ?_)
  replace RL := RL.on b
  replace R0 := R0.on b
  replace R1 := R1.on b
  replace R2 := R2.on b
  replace R3 := R3.on b
  replace V1 := V1.on b
  replace hA := hA.on b
  replace hk := hk.on b
  replace hf := hf.on b
  replace BW := Below.step BW b
  clear b
  go_simp
  refine hK _ _ (below_lit _ _) ?_
  clear hK K
  obtain ⟨w40, e_w40⟩ : ∃ w', w39.alloc (.cells #[.int .i64 1] 3) = w' := ⟨_, rfl⟩
  have li : Bx w40 w39.heap.size [.int .i64 1] := e_w40 ▸ Bx.made_k w39 rfl #[.int .i64 1] 3
  have b : Below w39.heap.size w39 w40 := e_w40 ▸ below_lit _ _
  rw [e_w40]
  clear e_w40
  replace RL := RL.on b
  replace R0 := R0.on b
  replace R1 := R1.on b
  replace R2 := R2.on b
  replace R3 := R3.on b
  replace V1 := V1.on b
  replace hA := hA.on b
  replace hk := hk.on b
  replace hf := hf.on b
  replace BW := Below.step BW b
  clear b
  refine lexK_call (by kernel_rfl) (by kernel_rfl) (fun w41 b K hK => ?_)
  replace RL := RL.on b
  replace R0 := R0.on b
  replace R1 := R1.on b
  replace R2 := R2.on b
  replace R3 := R3.on b
  replace V1 := V1.on b
  replace hA := hA.on b
  replace hk := hk.on b
  replace hf := hf.on b
  replace li := li.on b
  replace BW := Below.step BW b
  clear b
  go_simp
  refine (rints_as hk (Bx.isI li) hmk true (by rfl)).mono ?_
  rintro en w42 ⟨rfl, b⟩
  dsimp only
  refine hK _ _ b ?_
  clear hK K
  replace RL := RL.on b
  replace R0 := R0.on b
  replace R1 := R1.on b
  replace R2 := R2.on b
  replace R3 := R3.on b
  replace V1 := V1.on b
  replace hA := hA.on b
  replace hk := hk.on b
  replace hf := hf.on b
  replace li := li.on b
  replace BW := Below.step BW b
  clear b
  have lf0 := fun s : Wd w42 => (RL.on s.below).c0
  have lf1 := fun s : Wd w42 => (RL.on s.below).c1
  have lf2 := fun s : Wd w42 => (RL.on s.below).c2
  have lf3 := fun s : Wd w42 => (RL.on s.below).c3
  have lf4 := fun s : Wd w42 => (R0.on s.below).c0
  have lf5 := fun s : Wd w42 => (R1.on s.below).c0
  have lf6 := fun s : Wd w42 => (R2.on s.below).c0
  have lf7 := fun s : Wd w42 => (R3.on s.below).c0
  refine lexK_plain 3 (by kernel_rfl) ?_
  dsimp only [List.take, List.drop]
  repeat go_big_quiet_step (fail)
  refine wpQuiet_nil ?_
  clear lf0 lf1 lf2 lf3 lf4 lf5 lf6 lf7
  refine lexK_nil (fun w43 b => ?_)
  replace RL := RL.on b
  replace R0 := R0.on b
  replace R1 := R1.on b
  replace R2 := R2.on b
  replace R3 := R3.on b
  replace V1 := V1.on b
  replace hA := hA.on b
  replace hk := hk.on b
  replace hf := hf.on b
  replace li := li.on b
  replace BW := Below.step BW b
  clear b
  refine ⟨?_, ?_⟩
  · refine lex_call (by kernel_rfl) (by kernel_rfl) (fun w44 b K hK => ?_)
    replace RL := RL.on b
    replace R0 := R0.on b
    replace R1 := R1.on b
    replace R2 := R2.on b
    replace R3 := R3.on b
    replace V1 := V1.on b
    replace hA := hA.on b
    replace hk := hk.on b
    replace hf := hf.on b
    replace li := li.on b
    replace BW := Below.step BW b
    clear b
    go_simp
    refine (state_as k hA).mono ?_
    rintro en w45 ⟨As, ms, cs, rfl, hs, sws, hls, b⟩
    dsimp only
    refine hK _ _ b ?_
    clear hK K
    replace RL := RL.on b
    replace R0 := R0.on b
    replace R1 := R1.on b
    replace R2 := R2.on b
    replace R3 := R3.on b
    replace V1 := V1.on b
    replace hA := hA.on b
    replace hk := hk.on b
    replace hf := hf.on b
    replace li := li.on b
    replace BW := Below.step BW b
    clear b
    rw [e6, st_0] at hs
    have hms : ms ≤ 1000000 := by have := hs.1; simp at this; omega
    refine lex_call (by kernel_rfl) (by kernel_rfl) (fun w46 b K hK => ?_)
    replace RL := RL.on b
    replace R0 := R0.on b
    replace R1 := R1.on b
    replace R2 := R2.on b
    replace R3 := R3.on b
    replace V1 := V1.on b
    replace hA := hA.on b
    replace hk := hk.on b
    replace hf := hf.on b
    replace li := li.on b
    replace hs := hs.on b
    replace BW := Below.step BW b
    clear b
    go_simp
    refine hK _ _ (below_lit _ _) ?_
    clear hK K
    obtain ⟨w47, e_w47⟩ : ∃ w', w46.alloc (.cells #[.int .i64 0] 3) = w' := ⟨_, rfl⟩
    have lj : Bx w47 w46.heap.size [.int .i64 0] := e_w47 ▸ Bx.made_k w46 rfl #[.int .i64 0] 3
    have b : Below w46.heap.size w46 w47 := e_w47 ▸ below_lit _ _
    rw [e_w47]
    clear e_w47
    replace RL := RL.on b
    replace R0 := R0.on b
    replace R1 := R1.on b
    replace R2 := R2.on b
    replace R3 := R3.on b
    replace V1 := V1.on b
    replace hA := hA.on b
    replace hk := hk.on b
    replace hf := hf.on b
    replace li := li.on b
    replace hs := hs.on b
    replace BW := Below.step BW b
    clear b
    refine lex_call (by kernel_rfl) (by kernel_rfl) (fun w48 b K hK => ?_)
    replace RL := RL.on b
    replace R0 := R0.on b
    replace R1 := R1.on b
    replace R2 := R2.on b
    replace R3 := R3.on b
    replace V1 := V1.on b
    replace hA := hA.on b
    replace hk := hk.on b
    replace hf := hf.on b
    replace li := li.on b
    replace hs := hs.on b
    replace lj := lj.on b
    replace BW := Below.step BW b
    clear b
    go_simp
    refine (rints_as hs (Bx.isI lj) hms true (by rfl)).mono ?_
    rintro en w49 ⟨rfl, b⟩
    dsimp only
    refine hK _ _ b ?_
    clear hK K
    replace RL := RL.on b
    replace R0 := R0.on b
    replace R1 := R1.on b
    replace R2 := R2.on b
    replace R3 := R3.on b
    replace V1 := V1.on b
    replace hA := hA.on b
    replace hk := hk.on b
    replace hf := hf.on b
    replace li := li.on b
    replace hs := hs.on b
    replace lj := lj.on b
    replace BW := Below.step BW b
    clear b
    have lf0 := fun s : Wd w49 => (RL.on s.below).c0
    have lf1 := fun s : Wd w49 => (RL.on s.below).c1
    have lf2 := fun s : Wd w49 => (RL.on s.below).c2
    have lf3 := fun s : Wd w49 => (RL.on s.below).c3
    have lf4 := fun s : Wd w49 => (R0.on s.below).c0
    have lf5 := fun s : Wd w49 => (R1.on s.below).c0
    have lf6 := fun s : Wd w49 => (R2.on s.below).c0
    have lf7 := fun s : Wd w49 => (R3.on s.below).c0
    refine lex_plain 2 (by kernel_rfl) ?_
    dsimp only [List.take, List.drop]
    repeat go_big_quiet_step (fail)
    refine wpQuiet_nil ?_
    clear lf0 lf1 lf2 lf3 lf4 lf5 lf6 lf7
    refine lex_nil (fun w50 b => ?_)
    replace RL := RL.on b
    replace R0 := R0.on b
    replace R1 := R1.on b
    replace R2 := R2.on b
    replace R3 := R3.on b
    replace V1 := V1.on b
    replace hA := hA.on b
    replace hk := hk.on b
    replace hf := hf.on b
    replace li := li.on b
    replace hs := hs.on b
    replace lj := lj.on b
    replace BW := Below.step BW b
    clear b
    dsimp only [NoPanic]
    go_wp2_with fail
    go_ret
    exact ⟨rfl, BW⟩
  · refine lex_call (by kernel_rfl) (by kernel_rfl) (fun w51 b K hK => ?_)
    replace RL := RL.on b
    replace R0 := R0.on b
    replace R1 := R1.on b
    replace R2 := R2.on b
    replace R3 := R3.on b
    replace V1 := V1.on b
    replace hA := hA.on b
    replace hk := hk.on b
    replace hf := hf.on b
    replace li := li.on b
    replace BW := Below.step BW b
    clear b
    go_simp
    refine hK _ _ (below_lit _ _) ?_
    clear hK K
    obtain ⟨w52, e_w52⟩ : ∃ w', w51.alloc (.cells #[.int .i64 0] 3) = w' := ⟨_, rfl⟩
    have lj : Bx w52 w51.heap.size [.int .i64 0] := e_w52 ▸ Bx.made_k w51 rfl #[.int .i64 0] 3
    have b : Below w51.heap.size w51 w52 := e_w52 ▸ below_lit _ _
    rw [e_w52]
    clear e_w52
    replace RL := RL.on b
    replace R0 := R0.on b
    replace R1 := R1.on b
    replace R2 := R2.on b
    replace R3 := R3.on b
    replace V1 := V1.on b
    replace hA := hA.on b
    replace hk := hk.on b
    replace hf := hf.on b
    replace li := li.on b
    replace BW := Below.step BW b
    clear b
    refine lex_call (by kernel_rfl) (by kernel_rfl) (fun w53 b K hK => ?_)
    replace RL := RL.on b
    replace R0 := R0.on b
    replace R1 := R1.on b
    replace R2 := R2.on b
    replace R3 := R3.on b
    replace V1 := V1.on b
    replace hA := hA.on b
    replace hk := hk.on b
    replace hf := hf.on b
    replace li := li.on b
    replace lj := lj.on b
    replace BW := Below.step BW b
    clear b
    go_simp
    refine (state_as k hA).mono ?_
    rintro en w54 ⟨As, ms, cs, rfl, hs, sws, hls, b⟩
    dsimp only
    refine hK _ _ b ?_
    clear hK K
    replace RL := RL.on b
    replace R0 := R0.on b
    replace R1 := R1.on b
    replace R2 := R2.on b
    replace R3 := R3.on b
    replace V1 := V1.on b
    replace hA := hA.on b
    replace hk := hk.on b
    replace hf := hf.on b
    replace li := li.on b
    replace lj := lj.on b
    replace BW := Below.step BW b
    clear b
    rw [e6, st_0] at hs
    have hms : ms ≤ 1000000 := by have := hs.1; simp at this; omega
    refine lex_call (by kernel_rfl) (by kernel_rfl) (fun w55 b K hK => ?_)
    replace RL := RL.on b
    replace R0 := R0.on b
    replace R1 := R1.on b
    replace R2 := R2.on b
    replace R3 := R3.on b
    replace V1 := V1.on b
    replace hA := hA.on b
    replace hk := hk.on b
    replace hf := hf.on b
    replace li := li.on b
    replace lj := lj.on b
    replace hs := hs.on b
    replace BW := Below.step BW b
    clear b
    go_simp
    refine (rints_as hs (Bx.isI lj) hms true (by rfl)).mono ?_
    rintro en w56 ⟨rfl, b⟩
    dsimp only
    refine hK _ _ b ?_
    clear hK K
    replace RL := RL.on b
    replace R0 := R0.on b
    replace R1 := R1.on b
    replace R2 := R2.on b
    replace R3 := R3.on b
    replace V1 := V1.on b
    replace hA := hA.on b
    replace hk := hk.on b
    replace hf := hf.on b
    replace li := li.on b
    replace lj := lj.on b
    replace hs := hs.on b
    replace BW := Below.step BW b
    clear b
    have lf0 := fun s : Wd w56 => (RL.on s.below).c0
    have lf1 := fun s : Wd w56 => (RL.on s.below).c1
    have lf2 := fun s : Wd w56 => (RL.on s.below).c2
    have lf3 := fun s : Wd w56 => (RL.on s.below).c3
    have lf4 := fun s : Wd w56 => (R0.on s.below).c0
    have lf5 := fun s : Wd w56 => (R1.on s.below).c0
    have lf6 := fun s : Wd w56 => (R2.on s.below).c0
    have lf7 := fun s : Wd w56 => (R3.on s.below).c0
    refine lex_plain 2 (by kernel_rfl) ?_
    dsimp only [List.take, List.drop]
    repeat go_big_quiet_step (fail)
    refine wpQuiet_nil ?_
    clear lf0 lf1 lf2 lf3 lf4 lf5 lf6 lf7
    refine lex_nil (fun w57 b => ?_)
    replace RL := RL.on b
    replace R0 := R0.on b
    replace R1 := R1.on b
    replace R2 := R2.on b
    replace R3 := R3.on b
    replace V1 := V1.on b
    replace hA := hA.on b
    replace hk := hk.on b
    replace hf := hf.on b
    replace li := li.on b
    replace lj := lj.on b
    replace hs := hs.on b
    replace BW := Below.step BW b
    clear b
    dsimp only [NoPanic]
    go_wp2_with fail
    go_ret
    exact ⟨rfl, BW⟩
end Go.Proofs.Ytacphhfhahgeaaa
