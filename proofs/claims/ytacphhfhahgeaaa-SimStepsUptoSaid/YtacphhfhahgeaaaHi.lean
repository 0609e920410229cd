
/-
  sim: Run.
-/
import Derived.Test.YtacphhfhahgeaaaHh
namespace Go.Proofs.Ytacphhfhahgeaaa
open Go.RowKit
set_option linter.unusedVariables false
set_option maxRecDepth 4000

/-- a row of rows of numbers: how its elements lie, and what they are. -/
structure Sm where
  A : Option Addr
  m : Nat
  c : Nat
  xs : List Nat
def smC (r : Sm) : Value := .slice r.A r.m r.c
/-- a script comes in. -/
def Nn (w : World) (A : Option Addr) (n : Nat) (xss : List (List Nat)) : Prop := ∃ rs : List Sm, Rw w A n (rs.map smC) ∧ rs.map Sm.xs = xss ∧ ∀ r ∈ rs, Nu w r.A r.m r.xs ∧ Sw r.A r.m r.c ∧ r.m ≤ 140737488351232
/-- rows of numbers, as they are told. -/
def NnT (t t2 : TypeId) (w : World) (A : Option Addr) (n : Nat) (xss : List (List Nat)) : Prop := ∃ rs : List Sm, RwT t w A n (rs.map smC) ∧ rs.map Sm.xs = xss ∧ ∀ r ∈ rs, NuT t2 w r.A r.m r.xs ∧ Sw r.A r.m r.c
section
variable {w w' : World} {A : Option Addr} {n : Nat} {xss : List (List Nat)} {t t2 : TypeId}
theorem Nn.on (h : Nn w A n xss) (hb : Below w.heap.size w w') : Nn w' A n xss := by
  obtain ⟨rs, h1, h2, h3⟩ := h
  exact ⟨rs, h1.on hb, h2, fun r hr => ⟨(h3 r hr).1.on hb, (h3 r hr).2⟩⟩
theorem Nn.len (h : Nn w A n xss) : xss.length = n := by
  obtain ⟨rs, h1, rfl, h3⟩ := h
  have := h1.1
  simpa using this
theorem Nn.at (h : Nn w A n xss) {k : Nat} (hk : k < n) : ∃ b off A' m c xs, A = some ⟨b, off, none⟩ ∧ b < w.heap.size ∧ Hid (xss[k]? = some xs) ∧ w.cell? ⟨b, off + k, none⟩ = some (.slice A' m c) ∧ Nu w A' m xs ∧ m ≤ 140737488351232 ∧ Sw A' m c := by
  obtain ⟨rs, h1, rfl, h3⟩ := h
  obtain ⟨r, hr⟩ := look_ex (by have := h1.1; simpa using this) hk
  obtain ⟨b, off, e, hb, hc⟩ := h1.2 k (smC r) (by rw [List.getElem?_map, hr]; rfl)
  have g := h3 r (List.mem_of_getElem? hr)
  exact ⟨b, off, r.A, r.m, r.c, r.xs, e, hb, Lib.hid (by rw [List.getElem?_map, hr]; rfl), hc, g.1, g.2.2, g.2.1⟩
theorem Nn.take (h : Nn w A n xss) {k : Nat} (hk : k ≤ n) : Nn w A k (xss.take k) := by
  obtain ⟨rs, h1, h2, h3⟩ := h
  refine ⟨rs.take k, ⟨?_, fun i u hu => ?_⟩, by rw [List.map_take, h2], fun r hr => h3 r (List.mem_of_mem_take hr)⟩
  · rw [List.length_map, List.length_take]
    have := h1.1
    rw [List.length_map] at this
    omega
  · rw [List.map_take, List.getElem?_take] at hu
    split at hu
    · exact h1.2 i u hu
    · cases hu
theorem NnT.tk (h : NnT t t2 w A n xss) (h1 : TK t w w') (h2 : TK t2 w w') (h3 : TK 111 w w') : NnT t t2 w' A n xss := by
  obtain ⟨rs, g1, g2, g3⟩ := h
  exact ⟨rs, g1.tk h1, g2, fun r hr => ⟨(g3 r hr).1.tk h2 h3, (g3 r hr).2⟩⟩
theorem NnT.on (h : NnT t t2 w A n xss) (hb : Below w.heap.size w w') : NnT t t2 w' A n xss := h.tk (TK.below hb) (TK.below hb) (TK.below hb)
theorem NnT.len (h : NnT t t2 w A n xss) : xss.length = n := by
  obtain ⟨rs, h1, rfl, h3⟩ := h
  have := h1.1.1
  simpa using this
theorem NnT.at (h : NnT t t2 w A n xss) {k : Nat} (hk : k < n) : ∃ b off A' m c xs, A = some ⟨b, off, none⟩ ∧ b < w.heap.size ∧ Hid (xss[k]? = some xs) ∧ w.cell? ⟨b, off + k, none⟩ = some (.slice A' m c) ∧ NuT t2 w A' m xs ∧ Sw A' m c := by
  obtain ⟨rs, h1, rfl, h3⟩ := h
  obtain ⟨r, hr⟩ := look_ex (by have := h1.1.1; simpa using this) hk
  obtain ⟨b, off, e, hb, hc⟩ := h1.1.2 k (smC r) (by rw [List.getElem?_map, hr]; rfl)
  have g := h3 r (List.mem_of_getElem? hr)
  exact ⟨b, off, r.A, r.m, r.c, r.xs, e, hb, Lib.hid (by rw [List.getElem?_map, hr]; rfl), hc, g.1, g.2⟩
theorem NnT.nil_ : NnT t t2 w none 0 [] := ⟨[], ⟨Rw.nil_, Tg.nil_⟩, rfl, fun r hr => by cases hr⟩
end
/-! what Run tells -/
section
variable (N : List Nd) (I O : List Pt) (G R : List Int) (xss : List (List Nat))
def nowS : Nat → List Int
  | 0 => now0 N
  | j + 1 => nextS N R (valsS N I G (nowS j) (xss.getD j [])) (valsS N I G (nowS j) (xss.getD j [])) R.length
def toldS (j : Nat) : List Nat := outS O (valsS N I G (nowS N I G R xss j) (xss.getD j []))
def runX : List (List Nat) × Int := if xss.all (fitsS I) then ((List.range xss.length).map (toldS N I O G R xss), 0) else ([], 5)
end
noncomputable def runA (N : List Nd) (I O : List Pt) (xss : List (List Nat)) : List (List Nat) × Int := match (levelS N I O).1 with
  | none => ([], (levelS N I O).2)
  | some dd => runX N I O (nI (gatesS N (ordU (fun i => dd.getD i 0) dd.length dd.length))) (nI (regsS N (ordU (fun i => dd.getD i 0) dd.length dd.length))) xss
theorem elm_nats : Elm Try.prog 26 42 1 24 := by
  obtain ⟨i, h1, h2, h3, h4⟩ := Go.info_parts (P := Try.prog) (e := 42) (z := .slice none 0 0) (size := 1) (bytes := 24) (by kernel_rfl)
  refine ⟨Try.underlying26, i, _, h1, h2, h3, h4, rfl, fun u hu => ?_⟩
  have hu2 : u ∈ (.slice none 0 0 : Value).cells.toList := hu
  simp [Value.cells] at hu2
  subst hu2
  rfl
theorem Si.At.on2 {B B2 : Nat} {s : Si} {w w' : World} {g : Nat} {v : List Int} (h : s.At w g v) (k : s.Ok B) (hb : Below B2 w w') (hg : g < B2) : s.At w' g v := by
  have h1 := h.low
  have h2 := k.hp
  exact ⟨h.var.below hb (by omega), h.now.below hb hg, h.len, h.low, h.kp.trans (Kp.below (ok := (· < B2)) hb fun b _ e => e) (fun b hb _ => by omega), h.bin⟩
theorem ty_ne : (111 : TypeId) ≠ 42 ∧ (55 : TypeId) ≠ 42 ∧ (42 : TypeId) ≠ 5 ∧ (55 : TypeId) ≠ 5 ∧ (111 : TypeId) ≠ 5 := by decide
def RunP (w : World) (l : List (List Nat)) (e : Int) (en : Ending) (w' : World) : Prop := ∃ A m c, en = .returned (.tuple #[.slice A m c, .int .i64 e]) ∧ NnT 42 55 w' A m l ∧ Sw A m c ∧ Below w.heap.size w w'
set_option maxHeartbeats 1000000 in
theorem run_no {An Ai Ao : Option Addr} {nn cn ni ci no co : Nat} {N : List Nd} {I O : List Pt} {w : World} (h : Nt w An nn cn Ai ni ci Ao no co N I O) {As : Option Addr} {ns cs : Nat} {d : Option (List Nat)} {e : Int} (hl : levelS N I O = (d, e)) (he : (e != 0) = true) :
    Calls Try.prog 73 #[.agg #[.slice An nn cn, .slice Ai ni ci, .slice Ao no co], .slice As ns cs] w (RunP w [] e) := by
  have HL := Lib.hid hl
  clear hl
  go_enter Try.func73, Try.ntmps73
  go_upto_region 1 with fail
  obtain ⟨w1, e_w1⟩ : ∃ w', w.alloc (.cells #[.slice An nn cn, .slice Ai ni ci, .slice Ao no co] 25) = w' := ⟨_, rfl⟩
  have z0 : Bx w1 w.heap.size [.slice An nn cn, .slice Ai ni ci, .slice Ao no co] := e_w1 ▸ Bx.made_k w rfl #[.slice An nn cn, .slice Ai ni ci, .slice Ao no co] 25
  have b1 : Below w.heap.size w w1 := e_w1 ▸ below_lit _ _
  rw [e_w1]
  clear e_w1
  have z0c0 := z0.2 0 _ rfl
  have z0c1 := z0.2 1 _ rfl
  have z0c2 := z0.2 2 _ rfl
  go_wp2_with fail
  refine (new_no (h.on b1) HL.out he).mono ?_
  rintro en w2 ⟨rfl, b2⟩
  go_wp2_with fail
  go_ret2
  exact ⟨none, 0, 0, rfl, NnT.nil_, Sw.nil_, Below.step b1 b2⟩
set_option maxRecDepth 20000 in
set_option maxHeartbeats 4000000 in
theorem run_is {An Ai Ao : Option Addr} {nn cn ni ci no co : Nat} {N : List Nd} {I O : List Pt} {w : World} (h : Nt w An nn cn Ai ni ci Ao no co N I O) (sn : Sw An nn cn) (hb : ∀ p ∈ I ++ O, p.bits.length ≤ 100000) {dd : List Nat} (hl : levelS N I O = (some dd, 0)) {As : Option Addr} {ns cs : Nat} {xss : List (List Nat)} (hs : Nn w As ns xss) (hns : ns ≤ 100000) {l : List (List Nat)} {e : Int} (hr : runX N I O (nI (gatesS N (ordU (fun i => dd.getD i 0) dd.length dd.length))) (nI (regsS N (ordU (fun i => dd.getD i 0) dd.length dd.length))) xss = (l, e)) :
    Calls Try.prog 73 #[.agg #[.slice An nn cn, .slice Ai ni ci, .slice Ao no co], .slice As ns cs] w (RunP w l e) := by
  have HL := Lib.hid hl
  have HBB := Lib.hid hb
  clear hl hb
  go_enter Try.func73, Try.ntmps73
  go_upto_region 1 with fail
  obtain ⟨w1, e_w1⟩ : ∃ w', w.alloc (.cells #[.slice An nn cn, .slice Ai ni ci, .slice Ao no co] 25) = w' := ⟨_, rfl⟩
  have z0 : Bx w1 w.heap.size [.slice An nn cn, .slice Ai ni ci, .slice Ao no co] := e_w1 ▸ Bx.made_k w rfl #[.slice An nn cn, .slice Ai ni ci, .slice Ao no co] 25
  have b1 : Below w.heap.size w w1 := e_w1 ▸ below_lit _ _
  rw [e_w1]
  clear e_w1
  have z0c0 := z0.2 0 _ rfl
  have z0c1 := z0.2 1 _ rfl
  have z0c2 := z0.2 2 _ rfl
  go_wp2_with fail
  refine (new_as (h.on b1) sn HBB.out HL.out).mono ?_
  rintro en w2 ⟨s, g, rfl, k, hA, e1, e2, e3, e4, e5, e6, b2⟩
  have BW2 := Below.step b1 b2
  rw [← e5, ← e6, ← e2, ← e3, ← e4] at hr
  rw [← e2] at hA
  have HRX := Lib.hid hr
  have hlen := hs.len
  have HLN := Lib.hid hlen
  have hgl := hA.now.lt
  have hg0 : w.heap.size ≤ g := by have := k.low; have := k.hp; have := hA.low; have := b1.size; omega
  have hw2 : w.heap.size ≤ w2.heap.size := BW2.size
  clear e1 e2 e3 e4 e5 e6 z0c0 z0c1 z0c2 z0 b1 b2 h hr hlen
  have HK := Lib.hid k
  clear k
  go_wp2_with fail
  go_loopw [8, 23] (fun tv iv wr => ∃ (j : Nat) (rs : List Sm), j ≤ ns ∧ iv = .int .i64 j ∧ Hid (Grow wr w2.heap.size 42 tv (rs.map smC)) ∧ Hid (rs.length = j) ∧ Hid (rs.map Sm.xs = (List.range j).map (toldS s.N s.I s.O s.G s.R xss)) ∧ Hid (∀ r ∈ rs, NuT 55 wr r.A r.m r.xs ∧ Sw r.A r.m r.c) ∧ Hid (∀ i < j, fitsS s.I (xss.getD i []) = true) ∧ Hid (s.At wr g (nowS s.N s.I s.G s.R xss j)) ∧ Below w.heap.size w wr ∧ w2.heap.size ≤ wr.heap.size) (fun _ iv _ => ns - (intOf iv).toNat)
  case atStart => exact ⟨0, [], Nat.zero_le _, rfl, Lib.hid (World.ownsRow_nil _ _ _ _), Lib.hid rfl, Lib.hid rfl, Lib.hid (fun r hr => by cases hr), Lib.hid (fun i hi => by omega), Lib.hid hA, BW2, Nat.le_refl _⟩
  case round =>
    clear hA BW2
    obtain ⟨j, rs, hj, rfl, HG, HL1, HX, HR, HF, HA, BW, hsz⟩ := hrel
    by_cases hlt : j < ns
    · obtain ⟨b1, o1, A1, m1, d1, xs, rfl, hb1, HY, q1, hx, hm1, sw1⟩ := (hs.on BW).at hlt
      have HGD : Hid (xss.getD j [] = xs) := Lib.hid (getD_of HY.out)
      obtain ⟨f, hf⟩ : ∃ f, fitsS s.I xs = f := ⟨_, rfl⟩
      cases f
      case false =>
        have HRE : Hid (l = [] ∧ e = 5) := Lib.hid (by
          have := HRX.out
          unfold runX at this
          rw [if_neg (by
            intro h
            have := List.all_eq_true.1 h xs (List.mem_of_getElem? HY.out)
            rw [hf] at this
            cases this)] at this
          injection this with h1 h2
          exact ⟨h1.symm, h2.symm⟩)
        go_wp2_with fail
        refine (step_no HK.out HA.out hx hm1 hf).mono ?_
        rintro en w3 ⟨rfl, b3⟩
        go_wp2_with fail
        go_ret2
        obtain ⟨rfl, rfl⟩ := HRE.out
        exact ⟨none, 0, 0, rfl, NnT.nil_, Sw.nil_, Below.step BW b3⟩
      case true =>
        go_wp2_with fail
        refine (simStep_as HK.out HA.out hx hm1 hf).mono ?_
        rintro en w3 ⟨A3, m3, c3, rfl, hr3, sw3, hA3, g3⟩
        have HG3 : Hid (Grow w3 w2.heap.size 42 _ (rs.map smC)) := Lib.hid (HG.out.kept g3 fun b e e2 => by
          injection e2 with e2
          have := (HG.out.own b e).1
          omega)
        have HR3 := Lib.hid (fun r hr => (⟨(HR.out r hr).1.tk (TK.grown g3 HA.out.now ty_ne.2.2.2.1) (TK.grown g3 HA.out.now ty_ne.2.2.2.2), (HR.out r hr).2⟩ : NuT 55 w3 r.A r.m r.xs ∧ Sw r.A r.m r.c))
        have B3 : Below w.heap.size w w3 := BW.grown g3 BW.size fun k hk => by injection hk with hk; omega
        have hll : (rs.map smC).length + 1 ≤ 1000000 := (by rw [List.length_map, HL1.out]; omega)
        have hsz3 : w2.heap.size ≤ w3.heap.size := Nat.le_trans hsz g3.size
        have HFJ : Hid (∀ i < j + 1, fitsS s.I (xss.getD i []) = true) := Lib.hid fun i hi => by
          by_cases e : i = j
          · subst e; rw [HGD.out]; exact hf
          · exact HF.out i (by omega)
        have HT : Hid (toldS s.N s.I s.O s.G s.R xss j = outS s.O (valsS s.N s.I s.G (nowS s.N s.I s.G s.R xss j) xs)) := Lib.hid (by unfold toldS; rw [HGD.out])
        have HNX : Hid (s.At w3 g (nowS s.N s.I s.G s.R xss (j + 1))) := Lib.hid (by rw [nowS, HGD.out]; exact hA3)
        clear hf q1 hA3
        go_wp2_with (at_builtin; refine wpList_push2 _ rfl _ _ 26 rfl elm_nats (by omega) w2.heap.size _ _ rfl HG3.out (.slice A3 m3 c3) rfl rfl hll hsz3 ?_; intro v' w6 hg6 hb6 ht6)
        go_roundw
        case rel =>
          refine ⟨j + 1, rs ++ [⟨A3, m3, c3, outS s.O (valsS s.N s.I s.G (nowS s.N s.I s.G s.R xss j) xs)⟩], by omega, by go_num, Lib.hid (by rw [List.map_append]; exact hg6), Lib.hid (by rw [List.length_append, HL1.out]; rfl), Lib.hid ?_, Lib.hid fun r hr => ?_, HFJ, Lib.hid (HNX.out.on2 HK.out hb6 hgl), B3.trans (hb6.mono hw2), Nat.le_trans hsz3 hb6.size⟩
          · rw [List.map_append, HX.out, List.range_succ, List.map_append, List.map_cons, List.map_cons, HT.out]
            rfl
          · rcases List.mem_append.1 hr with hr | hr
            · exact ⟨(HR3.out r hr).1.tk (ht6 _ ty_ne.2.1) (ht6 _ ty_ne.1), (HR3.out r hr).2⟩
            · rw [List.mem_singleton.1 hr]
              exact ⟨hr3.tk (ht6 _ ty_ne.2.1) (ht6 _ ty_ne.1), sw3⟩
        case measure => simp [intOf]; omega
    · obtain rfl : j = ns := by omega
      have hg := HG.out
      obtain ⟨A', c', rfl, sw, hl, hr⟩ := Grow.at hg (List.length_map smC)
      have htg := hg.tag
      have HRE : Hid (l = (List.range j).map (toldS s.N s.I s.O s.G s.R xss) ∧ e = 0) := Lib.hid (by
        have := HRX.out
        unfold runX at this
        rw [if_pos (by
          rw [List.all_eq_true]
          intro x hx
          obtain ⟨i, hi⟩ := List.mem_iff_getElem?.1 hx
          have := HF.out i (by rw [← HLN.out]; exact (List.getElem?_eq_some_iff.1 hi).1)
          rwa [getD_of hi] at this)] at this
        injection this with h1 h2
        rw [HLN.out] at h1
        exact ⟨h1.symm, h2.symm⟩)
      clear hg
      go_wp2_with fail
      go_ret2
      obtain ⟨rfl, rfl⟩ := HRE.out
      exact ⟨A', _, c', rfl, ⟨rs, ⟨hr, htg⟩, HX.out, HR.out⟩, sw, BW⟩
/-- RUN. -/
theorem run_any {An Ai Ao : Option Addr} {nn cn ni ci no co : Nat} {N : List Nd} {I O : List Pt} {w : World} (h : Nt w An nn cn Ai ni ci Ao no co N I O) (sn : Sw An nn cn) (hb : ∀ p ∈ I ++ O, p.bits.length ≤ 100000) {As : Option Addr} {ns cs : Nat} {xss : List (List Nat)} (hs : Nn w As ns xss) (hns : ns ≤ 100000) {l : List (List Nat)} {e : Int} (hr : runA N I O xss = (l, e)) :
    Calls Try.prog 73 #[.agg #[.slice An nn cn, .slice Ai ni ci, .slice Ao no co], .slice As ns cs] w (RunP w l e) := by
  unfold runA at hr
  obtain ⟨d, e', hl⟩ : ∃ d e', levelS N I O = (d, e') := ⟨_, _, rfl⟩
  rw [hl] at hr
  cases d with
  | none =>
    dsimp only at hr
    injection hr with h1 h2
    subst h1 h2
    exact run_no h hl (by have := no_of hl; simpa using this)
  | some dd =>
    obtain ⟨rfl, _⟩ := od_of hl
    exact run_is h sn hb hl hs hns hr
end Go.Proofs.Ytacphhfhahgeaaa
