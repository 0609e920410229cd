/-
  What the proofs of OptSame need: Yx Yy.
-/
import Derived.Test.YtcehklnonhalhaaSPHR
import Derived.Test.YtcehklnonhalhaaSPJB
import Derived.Test.YtcehklnonhalhaaSPYr
import Derived.Test.YtcehklnonhalhaaSPLexG
set_option linter.unusedVariables false
namespace Go.Proofs.Ytcehklnonhalhaa
open Go.RowKit
set_option maxRecDepth 4000
theorem wpList_app9 {P : Program} {w : World} {ops : Array Oper} {rest : List Oper} {o : Oper} {a : Act} {Q : Exit → Act → World → Prop} (hgd : o.guard = none) (s x : Operand) (t : TypeId)
  (ho : o.op = .call { callee := .builtin .append, args := #[s, x], argTypes := #[t, t] }) {e : TypeId} {size bytes : Nat} (hE : Elm P t e size bytes) (hsz : 0 < size) (hby : bytes ≤ 64)
  (base : Nat) (v : Value) (n : Nat) (xs : List Value) (hs : a.eval s = v) (hown : w.ownsRow base e size v n xs) {A : Option Addr} {m c : Nat} (news : List Value) (hx : a.eval x = .slice A m c) (hA : A = none → m = 0 ∧ c = 0)
  (hl : news.length = m * size) (hnews : ∀ ad, A = some ad → ∀ j u, news[j]? = some u → w.cell? (ad.add j) = some u) (h1 : ∀ u ∈ news, u.oneCell' = true) (hn : n + m ≤ 2000000) (hbase : base ≤ w.heap.size)
  (h : ∀ v' w', w'.ownsRow base e size v' (n + m) (xs ++ news) → w.grownBy w' v.ownBlock → wpList P ops Q rest (a.put o.dst v') w') : wpList P ops Q (o :: rest) a w := by
 obtain ⟨ht, i, z, hi, hz, h3, h4, h5, _⟩ := hE
 cases A with
 | none =>
  obtain ⟨rfl, rfl⟩ := hA rfl
  obtain rfl : news = [] := List.eq_nil_of_length_eq_zero (by simpa using hl)
  refine wpList_append_own_none hgd s x t ho base e i size ht hi v n xs hs hown hx ?_
  have := h v w (by simpa using hown) ⟨rfl, rfl, rfl, Nat.le_refl _, fun _ _ _ => rfl⟩
  exact this
 | some ad =>
  refine wpList_append_own w hgd s x t ho base e i z size bytes ht hi hz h3 h4 h5 hsz v n xs hs hown ad m c news hx hl (hnews ad rfl) h1 (by unfold maxLen; omega) ?_ hbase fun v' w' g1 g2 _ => h v' w' g1 g2
  have : (n + m) * bytes ≤ 2000000 * 64 := Nat.mul_le_mul hn hby
  omega
theorem wpList_push9 {P : Program} (w : World) {ops : Array Oper} {rest : List Oper} {o : Oper} {a : Act} {Q : Exit → Act → World → Prop} (hgd : o.guard = none) (s x : Operand) (t : TypeId)
  (ho : o.op = .call { callee := .builtin .append, args := #[s, x], argTypes := #[t, t] }) {e : TypeId} {bytes : Nat} (hE : Elm P t e 1 bytes) (hby : bytes ≤ 64)
  (base : Nat) (v : Value) (xs : List Value) (hs : a.eval s = v) (hown : Grow w base e v xs) (u : Value) (hu : u.oneCell' = true) (hx : a.eval x = .slice (some ⟨w.heap.size, 0, none⟩) 1 1)
  (hn : xs.length + 1 ≤ 2000000) (hbase : base ≤ w.heap.size)
  (h : ∀ v' w', Grow w' base e v' (xs ++ [u]) → Below base w w' → (∀ t', t' ≠ e → TK t' w w') → wpList P ops Q rest (a.put o.dst v') w') : wpList P ops Q (o :: rest) a (w.alloc (.cells #[u] e)) := by
 have b1 : Below w.heap.size w (w.alloc (.cells #[u] e)) := below_lit _ _
 have hz : Bx (w.alloc (.cells #[u] e)) w.heap.size [u] := Bx.made_k w rfl #[u] e
 have hr1 := row_on hown b1
 refine wpList_app9 (A := some ⟨w.heap.size, 0, none⟩) (m := 1) (c := 1) hgd s x t ho hE (by omega) hby base v xs.length xs hs hr1 [u] hx (fun e => by cases e) rfl ?_ (by intro u' hu'; rw [List.mem_singleton.1 hu']; exact hu) hn (Nat.le_trans hbase b1.size) ?_
 ·intro ad had j u' hj
  cases had
  rw [add_plain, Nat.zero_add]
  exact hz.2 j u' hj
 ·intro v' w' hg hG
  refine h v' w' (by unfold Grow; rw [List.length_append]; exact hg) ?_ fun t' ht => (TK.below b1).trans (TK.row hr1 hG ht)
  exact (b1.mono hbase).grown hG (Nat.le_trans hbase b1.size) fun k hk => (hr1.lt k hk).1
set_option maxHeartbeats 1000000 in
theorem partsE_raw {A : Option Addr} {n c : Nat} {rs : List Sn} {w : World} (h : Rw w A n (rs.map snC)) (hn : n ≤ 1048576) :
  Calls Try.prog 38 #[.slice A n c] w fun en w' => ∃ A' c', en = .returned (.slice A' n c') ∧ RwT 66 w' A' n (rs.map snC) ∧ Sw A' n c' ∧ Below w.heap.size w w' := by
 have hln : rs.length = n := by have := h.1; rwa [List.length_map] at this
 have HLN := Lib.hid hln
 clear hln
 go_enter Try.func38, Try.ntmps38
 go_wp2_with fail
 go_loopw [3, 8] (fun sv iv wr => ∃ j : Nat, j ≤ n ∧ iv = .int .i64 j ∧ Grow wr w.heap.size 66 sv ((rs.take j).map snC) ∧ Below w.heap.size w wr) (fun _ iv _ => n - (intOf iv).toNat)
 case atStart => exact ⟨0, Nat.zero_le _, rfl, Grow.made w _ (Nat.le_refl _), (Below.refl _ _).alloc (Nat.le_refl _) _⟩
 case round =>
  obtain ⟨j, hj, rfl, hg, BW⟩ := hrel
  by_cases hlt : j < n
  ·obtain ⟨⟨A1, m1, d1, x1⟩, hr⟩ := look_ex HLN.out hlt
   obtain ⟨b1, o1, e1, _, q1⟩ := (h.on BW).2 j (.slice A1 m1 d1) (by rw [List.getElem?_map, hr]; rfl)
   subst e1
   have HX := Lib.hid hr
   have i0 : (0 : Int) ≤ (j : Int) := by omega
   have i1 : (j : Int) < (n : Int) := by omega
   have hsz := BW.size
   have hll : ((rs.take j).map snC).length + 1 ≤ 2000000 := by rw [List.length_map, List.length_take]; omega
   clear hr
   go_wp2_with (at_builtin; refine wpList_push9 _ rfl _ _ 65 rfl elm_parts (by omega) w.heap.size _ _ rfl hg (.slice A1 m1 d1) rfl rfl hll hsz ?_; intro v' w1 hg1 hb1 _)
   go_roundw
   case rel =>
    refine ⟨j + 1, by omega, by go_num, ?_, BW.trans hb1⟩
    rw [List.take_add_one, HX.out, List.map_append]
    exact hg1
   case measure => simp [intOf]; omega
  ·obtain rfl : j = n := by omega
   rw [List.take_of_length_le (by rw [HLN.out]; exact Nat.le_refl _)] at hg
   obtain ⟨A', c', rfl, sw, hl, hr⟩ := Grow.at (n := j) hg (by rw [List.length_map]; exact HLN.out)
   have htg := hg.tag
   clear hg
   go_wp2_with fail
   go_ret
   exact ⟨A', c', rfl, ⟨hr, htg⟩, sw, BW⟩
theorem scr_app (A B : List (Sm × List Sn)) : scr (A ++ B) = scr A ++ scr B := by unfold scr; rw [List.map_append]
theorem Le.same {b c : Nat} {w w2 : World} {A A2 : Option Addr} {n : Nat} {T T2 : List (Sm × List Sn)} (h : NnE b w A n T) (h2 : NnE b w2 A2 n T2) (he : T2.map Prod.snd = T.map Prod.snd) (hl : Le c T2) : Le c T := fun t ht => by
 obtain ⟨i, hi⟩ := List.mem_iff_getElem?.1 ht
 have e : (T2.map Prod.snd)[i]? = some t.2 := by rw [he, List.getElem?_map, hi]; rfl
 rw [List.getElem?_map] at e
 cases e2 : T2[i]? with
 | none => rw [e2] at e; cases e
 | some t2 =>
  rw [e2] at e
  injection e with e
  have e : t2.2 = t.2 := e
  obtain ⟨l1, l2⟩ := hl t2 (List.mem_of_getElem? e2)
  have k1 := (h.2 t ht).1.1
  have k2 := (h2.2 t2 (List.mem_of_getElem? e2)).1.1
  rw [e] at k2 l2
  exact ⟨by omega, l2⟩
set_option maxHeartbeats 2000000 in
theorem scriptE_as {A : Option Addr} {n c : Nat} {T : List (Sm × List Sn)} {w : World} (h : NnE 1048576 w A n T) (hn : n ≤ 1048576) :
  Calls Try.prog 16 #[.slice A n c] w fun en w' => ∃ A' c' T', en = .returned (.slice A' n c') ∧ NnE 1048576 w' A' n T' ∧ T'.map Prod.snd = T.map Prod.snd ∧ scr T' = scr T ∧ Below w.heap.size w w' := by
 have HTL := Lib.hid h.len
 go_enter Try.func16, Try.ntmps16
 go_wp2_with fail
 go_loopw [3, 8] (fun sv iv wr => ∃ (j : Nat) (rs : List (Sm × List Sn)), j ≤ n ∧ iv = .int .i64 j ∧ Hid (Grow wr w.heap.size 65 sv (rs.map fun t => smC t.1)) ∧ Hid (rs.length = j) ∧ Hid (rs.map Prod.snd = (T.take j).map Prod.snd) ∧ Hid (scr rs = scr (T.take j)) ∧ Hid (∀ t ∈ rs, RwT 66 wr t.1.A t.1.m (t.2.map snC) ∧ t.2.map Sn.x = t.1.xs ∧ Sw t.1.A t.1.m t.1.c ∧ t.1.m ≤ 1048576 ∧ ∀ s ∈ t.2, Arg w s.A s.m s.c s.x ∧ s.m ≤ 1048576) ∧ Hid (Below w.heap.size w wr)) (fun _ iv _ => n - (intOf iv).toNat)
 case atStart => exact ⟨0, [], Nat.zero_le _, rfl, Lib.hid (Grow.made w _ (Nat.le_refl _)), Lib.hid rfl, Lib.hid rfl, Lib.hid rfl, Lib.hid (fun r hr => by cases hr), Lib.hid ((Below.refl _ _).alloc (Nat.le_refl _) _)⟩
 case round =>
  obtain ⟨j, rs, hj, rfl, HG, HL, HX, HS, HR, BW⟩ := hrel
  by_cases hlt : j < n
  ·obtain ⟨⟨⟨A1, m1, d1, xs⟩, ss⟩, hT⟩ := look_ex HTL.out hlt
   obtain ⟨b1, o1, e1, hb1, q1⟩ := h.1.2 j (.slice A1 m1 d1) (by rw [List.getElem?_map, hT]; rfl)
   subst e1
   have HT := Lib.hid hT
   obtain ⟨g1, g2, g3, g4, g5⟩ := h.2 _ (List.mem_of_getElem? hT)
   dsimp only at g1 g2 g3 g4 g5
   have HG2 := Lib.hid g2
   have HG5 := Lib.hid g5
   have q1' := (BW.out.cell (p := ⟨b1, o1 + j, none⟩) hb1).trans q1
   have i0 : (0 : Int) ≤ (j : Int) := by omega
   have i1 : (j : Int) < (n : Int) := by omega
   have hsz := BW.out.size
   clear hT g2 g5 q1
   go_wp2_with fail
   refine (partsE_raw (g1.on BW.out) g4).mono ?_
   rintro en w5 ⟨A5, c5, rfl, hr5, sw5, b5⟩
   have HG5' : Hid (Grow w5 w.heap.size 65 _ (rs.map fun t => smC t.1)) := Lib.hid (row_on HG.out b5)
   have hsz5 := Nat.le_trans hsz b5.size
   have hll : (rs.map fun t => smC t.1).length + 1 ≤ 2000000 := by rw [List.length_map, HL.out]; omega
   have HB5 := Lib.hid b5
   clear q1' b5
   go_wp2_with (at_builtin; refine wpList_push9 _ rfl _ _ 29 rfl elm_outs (by omega) w.heap.size _ _ rfl HG5'.out (.slice A5 m1 c5) rfl rfl hll hsz5 ?_; intro v' w6 hg6 hb6 ht6)
   go_roundw
   case rel =>
    refine ⟨j + 1, rs ++ [(⟨A5, m1, c5, xs⟩, ss)], by omega, by go_num, Lib.hid (by rw [List.map_append]; exact hg6), Lib.hid (by rw [List.length_append, HL.out]; rfl), Lib.hid ?_, Lib.hid ?_, Lib.hid fun r hr => ?_, Lib.hid ((Below.step BW.out HB5.out).trans hb6)⟩
    ·rw [List.map_append, HX.out, List.take_add_one, HT.out, List.map_append]
     rfl
    ·rw [scr_app, HS.out, List.take_add_one, HT.out, scr_app]
     rfl
    ·rcases List.mem_append.1 hr with hr | hr
     ·obtain ⟨k1, k2, k3, k4, k5⟩ := HR.out r hr
      exact ⟨(k1.tk (TK.below HB5.out)).tk (ht6 _ llu_ne.2.1), k2, k3, k4, k5⟩
     ·rw [List.mem_singleton.1 hr]
      exact ⟨hr5.tk (ht6 _ llu_ne.2.1), HG2.out, sw5, g4, HG5.out⟩
   case measure => simp [intOf]; omega
  ·obtain rfl : j = n := by omega
   obtain ⟨A', c', rfl, sw, hl, hr⟩ := Grow.at (n := j) HG.out (by rw [List.length_map]; exact HL.out)
   go_wp2_with fail
   go_ret
   have hT : T.take j = T := List.take_of_length_le (by rw [HTL.out]; exact Nat.le_refl _)
   refine ⟨A', c', rs, rfl, ⟨hr, fun t ht => ?_⟩, by rw [HX.out, hT], by rw [HS.out, hT], BW.out⟩
   obtain ⟨k1, k2, k3, k4, k5⟩ := HR.out t ht
   exact ⟨k1.1, k2, k3, k4, fun s hs => ⟨(k5 s hs).1.on BW.out, (k5 s hs).2⟩⟩
set_option maxHeartbeats 2000000 in
theorem large9_as {An Ai Ao : Option Addr} {nn cn ni ci no co : Nat} {N : List Nd} {I O : List Pt} {w : World} (h : NetIn w An nn cn Ai ni ci Ao no co N I O) {As : Option Addr} {ns cs : Nat} {T : List (Sm × List Sn)} (hs : NnE 1048576 w As ns T) (hns : ns ≤ 1048576) :
  Calls Try.prog 15 #[.agg #[.slice An nn cn, .slice Ai ni ci, .slice Ao no co], .slice As ns cs] w fun en w' => ∃ v, en = .returned (.bool v) ∧ (v = false → largeS nn ni no I O 60 = false ∧ ns ≤ 20 ∧ Le 1000 T) ∧ Below w.heap.size w w' := by
 have HTL := Lib.hid hs.len
 go_enter Try.func15, Try.ntmps15
 go_upto_region 1 with fail
 obtain ⟨w1, e_w1, z0, b1⟩ := zmB w [.slice An nn cn, .slice Ai ni ci, .slice Ao no co] 25
 rw [e_w1]
 clear e_w1
 go_wp2_with fail
 go_loopw [5, 6] (fun cv iv wr => ∃ (i c : Nat), i ≤ ns ∧ iv = .int .i64 i ∧ cv = .int .i64 c ∧ Hid (c ≤ i * 1099512676352 ∧ Le c (T.take i)) ∧ Below w1.heap.size w1 wr) (fun _ iv _ => ns - (intOf iv).toNat)
 case atStart => exact ⟨0, 0, Nat.zero_le _, rfl, rfl, Lib.hid ⟨by omega, fun t ht => by simp at ht⟩, Below.refl _ _⟩
 case round =>
  obtain ⟨i, c, hi, rfl, rfl, HC, BR⟩ := hrel
  have BW := Below.step b1 BR
  by_cases hlt : i < ns
  ·obtain ⟨⟨⟨A2, m2, d2, xs⟩, ss⟩, hT⟩ := look_ex HTL.out hlt
   obtain ⟨b2, o2, e2, hb2, q2⟩ := (hs.on BW).1.2 i (.slice A2 m2 d2) (by rw [List.getElem?_map, hT]; rfl)
   subst e2
   have HT := Lib.hid hT
   obtain ⟨g1, g2, g3, g4, g5⟩ := (hs.on BW).2 _ (List.mem_of_getElem? hT)
   dsimp only at g1 g3 g4 g5
   have HSL : Hid (ss.length = m2) := Lib.hid (by have := g1.1; rwa [List.length_map] at this)
   have HG5 := Lib.hid g5
   have hc1 : c ≤ 1152922604118474752 := by have := HC.out.1; omega
   have i0 : (0 : Int) ≤ (i : Int) := by omega
   have i1 : (i : Int) < (ns : Int) := by omega
   clear hT g2 g3 g5
   go_wp2_with fail
   obtain ⟨wo, rfl⟩ : ∃ x, x = wr := ⟨_, rfl⟩
   go_loopw [5, 7] (fun cv kv wr => ∃ (k c' : Nat), k ≤ m2 ∧ kv = .int .i64 k ∧ cv = .int .i64 c' ∧ Hid (c' ≤ c + k * 1048577 ∧ c + k ≤ c' ∧ ∀ s ∈ ss.take k, s.m ≤ c') ∧ wr = wo) (fun _ kv _ => m2 - (intOf kv).toNat)
   case atStart => exact ⟨0, c, Nat.zero_le _, rfl, rfl, Lib.hid ⟨by omega, by omega, fun s hs => by simp at hs⟩, rfl⟩
   case round =>
    obtain ⟨k, c2, hk, rfl, rfl, HK, rfl⟩ := hrel
    by_cases hlk : k < m2
    ·obtain ⟨⟨A3, m3, d3, x3⟩, hS⟩ := look_ex HSL.out hlk
     obtain ⟨b3, o3, e3, hb3, q3⟩ := g1.2 k (.slice A3 m3 d3) (by rw [List.getElem?_map, hS]; rfl)
     subst e3
     have hm3 : m3 ≤ 1048576 := (HG5.out _ (List.mem_of_getElem? hS)).2
     have HS := Lib.hid hS
     have hc2 : c2 ≤ c + 1099512676352 := by have := HK.out.1; omega
     clear hS
     have k0 : (0 : Int) ≤ (k : Int) := by omega
     have k1 : (k : Int) < (m2 : Int) := by omega
     have e1 : IntKind.i64.wrap ((m3 : Int) + 1) = (m3 : Int) + 1 := by rw [IntKind.wrap_i64]; omega
     have e4 : IntKind.i64.wrap ((k : Int) + 1) = (k : Int) + 1 := by rw [IntKind.wrap_i64]; omega
     have e5 : IntKind.i64.wrap ((c2 : Int) + ((m3 : Int) + 1)) = ((c2 + (m3 + 1) : Nat) : Int) := by rw [IntKind.wrap_i64]; omega
     have HN : Hid (c2 + (m3 + 1) ≤ c + (k + 1) * 1048577 ∧ c + (k + 1) ≤ c2 + (m3 + 1) ∧ ∀ s ∈ ss.take (k + 1), s.m ≤ c2 + (m3 + 1)) := Lib.hid (by
      obtain ⟨p1, p2, p3⟩ := HK.out
      refine ⟨by omega, by omega, fun s hs => ?_⟩
      rw [List.take_add_one, HS.out] at hs
      rcases List.mem_append.1 hs with hs | hs
      ·have := p3 s hs; omega
      ·simp at hs
       subst hs
       dsimp only
       omega)
     go_wp2_with fail
     go_roundw
     case rel => exact ⟨k + 1, c2 + (m3 + 1), by omega, by go_num, by first | exact ⟨rfl, HN, rfl⟩ | exact ⟨HN, rfl⟩ | simp [HN]⟩
     case measure => simp [intOf]; omega
    ·obtain rfl : k = m2 := by omega
     have HN : Hid (c2 ≤ (i + 1) * 1099512676352 ∧ Le c2 (T.take (i + 1))) := Lib.hid (by
      obtain ⟨p1, p2, p3⟩ := HK.out
      rw [List.take_of_length_le (by rw [HSL.out]; exact Nat.le_refl _)] at p3
      have h1 := HC.out.1
      refine ⟨by omega, fun t ht => ?_⟩
      rw [List.take_add_one, HT.out] at ht
      rcases List.mem_append.1 ht with ht | ht
      ·obtain ⟨u1, u2⟩ := HC.out.2 t ht
       exact ⟨by omega, fun s hs => by have := u2 s hs; omega⟩
      ·simp at ht
       subst ht
       exact ⟨by dsimp only; omega, p3⟩)
     have e2 : IntKind.i64.wrap ((i : Int) + 1) = (i : Int) + 1 := by rw [IntKind.wrap_i64]; omega
     go_wp2_with fail
     go_roundw
     case rel => exact ⟨i + 1, c2, by omega, by go_num, rfl, HN, BR⟩
     case measure => simp [intOf]; omega
  ·obtain rfl : i = ns := by omega
   obtain ⟨v, hv⟩ : ∃ v, largeS nn ni no I O 60 = v := ⟨_, rfl⟩
   have HV := Lib.hid hv
   have z1 := z0.on BR
   obtain ⟨z1c0, z1c1, z1c2⟩ := z1.zb3
   clear hv
   go_wp2_with fail
   refine ((h.on BW).large v HV.out).mono ?_
   rintro en w3 ⟨rfl, b3⟩
   have BW3 := Below.step BW b3
   clear z1c0 z1c1 z1c2
   cases v
   case true =>
    go_wp2_with fail
    go_ret
    exact ⟨true, rfl, fun e => (by cases e), BW3⟩
   case false =>
    by_cases h20 : 20 < i
    ·have e20 : decide ((20 : Int) < (i : Int)) = true := by simp; omega
     go_wp2_with fail
     go_ret
     exact ⟨true, rfl, fun e => (by cases e), BW3⟩
    ·have e20 : decide ((20 : Int) < (i : Int)) = false := by simp; omega
     obtain ⟨u, hu⟩ : ∃ u, decide ((1000 : Int) < (c : Int)) = u := ⟨_, rfl⟩
     have HU := Lib.hid hu
     go_wp2_with fail
     go_ret
     refine ⟨u, rfl, fun e => ⟨HV.out, by omega, fun t ht => ?_⟩, BW3⟩
     have hle := HC.out.2
     rw [List.take_of_length_le (by rw [HTL.out]; exact Nat.le_refl _)] at hle
     have hcu := HU.out
     rw [e] at hcu
     have hcu := of_decide_eq_false hcu
     obtain ⟨u1, u2⟩ := hle t ht
     exact ⟨by omega, fun s hs => by have := u2 s hs; omega⟩
set_option maxRecDepth 4000
structure CAt (w : World) (b o : Nat) (v : Value) : Prop where
  lt : b < w.heap.size
  c : w.cell? ⟨b, o, none⟩ = some v
theorem CAt.on {w w' : World} {b o : Nat} {v : Value} (h : CAt w b o v) (hb : Below w.heap.size w w') : CAt w' b o v := ⟨Nat.lt_of_lt_of_le h.lt hb.size, (hb.cell (p := ⟨b, o, none⟩) h.lt).trans h.c⟩
def Pa (L M : List Pt) : Prop := M.length = L.length ∧ ∀ (j : Nat) (p q : Pt), L[j]? = some p → M[j]? = some q → q.name = p.name ∧ q.bits.length = p.bits.length
theorem Pa.self (L : List Pt) : Pa L L := ⟨rfl, fun j p q h k => by rw [h] at k; injection k with k; rw [k]; exact ⟨rfl, rfl⟩⟩
theorem Pa.map (f : Pt → Pt) (hf : ∀ p, (f p).name = p.name ∧ (f p).bits.length = p.bits.length) (L : List Pt) : Pa L (L.map f) := ⟨List.length_map .., fun j p q h k => by
 rw [List.getElem?_map, h] at k
 injection k with k
 rw [← k]
 exact hf p⟩
set_option maxHeartbeats 2000000 in
theorem rports7_as {A C : Option Addr} {n c d : Nat} {L M : List Pt} {w : World} (hL : Ps w A n L) (hM : Ps w C n M) (hs : Pa L M) (hn : n ≤ 1000000) :
  Calls Try.prog 44 #[.slice A n c, .slice C n d] w fun e w' => e = .returned (.bool true) ∧ Below w.heap.size w w' := by
 have HS := Lib.hid hs
 clear hs
 go_enter Try.func44, Try.ntmps44
 have e1 : (((n : Nat) : Int) != (n : Int)) = false := by simp
 go_wp2_with fail
 go_loopw [5] (fun i wr => ∃ j : Nat, j ≤ n ∧ i = .int .i64 j ∧ Below w.heap.size w wr) (fun i _ => n - (intOf i).toNat)
 case atStart => exact ⟨0, Nat.zero_le _, rfl, Below.refl _ _⟩
 case round =>
  obtain ⟨j, hj, rfl, BW⟩ := hrel
  by_cases hlt : j < n
  ·obtain ⟨b0, off, nm, A', m, c', bs, eA, hbw, HX, k1, k2, hi⟩ := (hL.on BW).at0 hlt
   obtain ⟨b1, off1, nq, C', m1, d', bt, eC, hbw1, HY, l1, l2, hi1⟩ := (hM.on BW).at0 hlt
   subst eA
   have hjn : (j : Int) < (n : Int) := by omega
   have hj0 : (0 : Int) ≤ (j : Int) := by omega
   try subst eC
   obtain ⟨h1, h2⟩ := HS.out.2 j _ _ HX.out HY.out
   dsimp only at h1 h2
   subst h1
   obtain rfl : m1 = m := by rw [← hi.1, ← hi1.1, h2]
   clear hi hi1 HX HY h2
   have hu' : (nq.toList != nq.toList) = false := by simp
   have hm' : (((m1 : Nat) : Int) != (m1 : Int)) = false := by simp
   go_upto_region 6 with fail
   go_region
   go_wp2_with fail
   go_roundw
   case rel => exact ⟨j + 1, by omega, by go_num, BW.drew⟩
   case measure => simp [intOf]; omega
  ·obtain rfl : j = n := by omega
   go_wp2_with fail
   go_ret
   exact ⟨rfl, BW⟩
theorem rrunX_rows {N : List Nd} {I O : List Pt} {L : List Int} {xss l : List (List Nat)} {e : Int} (h : rrunX N I O L xss = (l, e)) : l.length ≤ xss.length ∧ ∀ xs ∈ l, xs.length = O.length := by
 unfold rrunX at h
 split at h
 ·injection h with h1 h2
  subst h1
  refine ⟨by simp, fun xs hx => ?_⟩
  obtain ⟨j, _, rfl⟩ := List.mem_map.1 hx
  unfold rtold outS
  simp
 ·injection h with h1 h2
  subst h1
  exact ⟨by simp, fun xs hx => by cases hx⟩
set_option maxRecDepth 20000 in
set_option maxHeartbeats 8000000 in
theorem alike_as {An Ai Ao : Option Addr} {nn cn ni ci no co : Nat} {N : List Nd} {I O : List Pt} {Bn Bi Bo : Option Addr} {nm dn di do' : Nat} {M : List Nd} {I2 O2 : List Pt} {w : World} (h : Nt w An nn cn Ai ni ci Ao no co N I O) (k : Nt w Bn nm dn Bi ni di Bo no do' M I2 O2)
  (hb : ∀ p ∈ I ++ O, p.bits.length ≤ 100000) (kb : ∀ p ∈ I2 ++ O2, p.bits.length ≤ 100000) (hf : N.all (formedS nn) = true) (hbt : (I ++ O).all (bitsS nn) = true) (kf : M.all (formedS nm) = true) (kbt : (I2 ++ O2).all (bitsS nm) = true) {f g : Nat → Nat} (ha : All N f) (ka : All M g) (hI : Pa I I2) (hO : Pa O O2)
  {As : Option Addr} {ms cs : Nat} {xss : List (List Nat)} (hs : NnB 30000 w As ms xss) (hms : ms ≤ 1000) (hrun : ∀ L L2, Odr N L → Odr M L2 → rrunX M I2 O2 (nI L2) xss = rrunX N I O (nI L) xss) :
  Calls Try.prog 19 #[.agg #[.slice An nn cn, .slice Ai ni ci, .slice Ao no co], .agg #[.slice Bn nm dn, .slice Bi ni di, .slice Bo no do'], .slice As ms cs] w fun en w' => en = .returned (.bool true) ∧ Below w.heap.size w w' := by
 have HRUN := Lib.hid hrun
 have HB := Lib.hid hb
 have KB := Lib.hid kb
 have HF := Lib.hid hf
 have KF := Lib.hid kf
 have HQ : Hid (∀ p ∈ I ++ O, ∀ q ∈ p.bits, ∃ r : Nat, q = (r : Int) ∧ r < nn) := Lib.hid fun p hp q hq => by
  obtain ⟨g1, g2⟩ := places_ok (List.all_eq_true.1 hbt) p hp q hq
  exact ⟨q.toNat, by omega, g2⟩
 have KQ : Hid (∀ p ∈ I2 ++ O2, ∀ q ∈ p.bits, ∃ r : Nat, q = (r : Int) ∧ r < nm) := Lib.hid fun p hp q hq => by
  obtain ⟨g1, g2⟩ := places_ok (List.all_eq_true.1 kbt) p hp q hq
  exact ⟨q.toNat, by omega, g2⟩
 have C1 : ∀ w', Nt w' An nn cn Ai ni ci Ao no co N I O → Calls Try.prog 43 #[.agg #[.slice An nn cn, .slice Ai ni ci, .slice Ao no co]] w' fun en w2 => ∃ (A : Option Addr) (c : Nat) (L : List Nat), en = .returned (.tuple #[.slice A L.length c, .bool true]) ∧ Is w2 A L.length (nI L) ∧ Sw A L.length c ∧ Odr N L ∧ Below w'.heap.size w' w2 := fun w' h' => fast_as h' hf hbt ha
 have C2 : ∀ w', Nt w' Bn nm dn Bi ni di Bo no do' M I2 O2 → Calls Try.prog 43 #[.agg #[.slice Bn nm dn, .slice Bi ni di, .slice Bo no do']] w' fun en w2 => ∃ (A : Option Addr) (c : Nat) (L : List Nat), en = .returned (.tuple #[.slice A L.length c, .bool true]) ∧ Is w2 A L.length (nI L) ∧ Sw A L.length c ∧ Odr M L ∧ Below w'.heap.size w' w2 := fun w' h' => fast_as h' kf kbt ka
 have HI := Lib.hid hI
 have HO := Lib.hid hO
 clear hrun hb kb hf kf hbt kbt ha ka hI hO
 go_enter Try.func19, Try.ntmps19
 go_upto_region 1 with fail
 obtain ⟨w1, e_w1, z0, b1⟩ := zmB w [.slice An nn cn, .slice Ai ni ci, .slice Ao no co] 25
 have hs1 : w1.heap.size = w.heap.size + 1 := e_w1 ▸ size_lit w _ rfl
 rw [e_w1]
 clear e_w1
 obtain ⟨w2, e_w2⟩ : ∃ w', w1.alloc (.cells #[.slice Bn nm dn, .slice Bi ni di, .slice Bo no do'] 25) = w' := ⟨_, rfl⟩
 have z1 : Bx w2 (w.heap.size + 1) [.slice Bn nm dn, .slice Bi ni di, .slice Bo no do'] := e_w2 ▸ Bx.made_k w1 hs1 #[.slice Bn nm dn, .slice Bi ni di, .slice Bo no do'] 25
 have b2 : Below w1.heap.size w1 w2 := e_w2 ▸ below_lit _ _
 rw [e_w2]
 clear e_w2 hs1
 obtain ⟨s1, hs0⟩ : ∃ s1, w.heap.size + 1 = s1 := ⟨_, rfl⟩
 rw [hs0] at z1 ⊢
 clear hs0
 replace z0 := z0.on b2
 have BW := Below.step b1 b2
 replace h := h.on BW
 replace k := k.on BW
 replace hs := hs.on BW
 clear b1 b2
 obtain ⟨c0, c1, c2⟩ := z0.zb3
 go_upto_region 2 with (go_at_call 43; (with_reducible refine (C1 _ h).mono ?_); (rintro en w3 ⟨A1, c1', L1, rfl, hL1, sw1, ho1, b⟩; clear c0 c1 c2; replace z0 := z0.on b; replace z1 := z1.on b; replace h := h.on b; replace k := k.on b; replace hs := hs.on b; replace BW := Below.step BW b; clear b))
 obtain ⟨c0, c1, c2⟩ := z1.zb3
 go_upto_region 3 with (go_at_call 43; (with_reducible refine (C2 _ k).mono ?_); (rintro en w4 ⟨A2, c2', L2, rfl, hL2, sw2, ho2, b⟩; clear c0 c1 c2; replace z0 := z0.on b; replace z1 := z1.on b; replace h := h.on b; replace k := k.on b; replace hs := hs.on b; replace hL1 := hL1.on b; replace BW := Below.step BW b; clear b))
 have HR := Lib.hid (HRUN.out L1 L2 ho1 ho2)
 have HL1 : Hid ((∀ q ∈ nI L1, ∃ r : Nat, q = (r : Int) ∧ r < nn) ∧ L1.length ≤ 100000) := Lib.hid ⟨fun q hq => ⟨q.toNat, by
  unfold nI at hq
  obtain ⟨r, _, rfl⟩ := List.mem_map.1 hq
  omega, by have := nI_lt ho1 q hq; rw [h.n.1] at this; exact this⟩, by have := nodup_le N.length L1 ho1.nd (fun x hx => (ho1.mem x).1 hx); have := h.hn; have := h.n.1; omega⟩
 have HL2 : Hid ((∀ q ∈ nI L2, ∃ r : Nat, q = (r : Int) ∧ r < nm) ∧ L2.length ≤ 100000) := Lib.hid ⟨fun q hq => ⟨q.toNat, by
  unfold nI at hq
  obtain ⟨r, _, rfl⟩ := List.mem_map.1 hq
  omega, by have := nI_lt ho2 q hq; rw [k.n.1] at this; exact this⟩, by have := nodup_le M.length L2 ho2.nd (fun x hx => (ho2.mem x).1 hx); have := k.hn; have := k.n.1; omega⟩
 clear C1 C2 HRUN ho1 ho2
 have hns := h.hs
 have HOL : Hid (O.length ≤ 1000) := Lib.hid (by rw [h.o.1]; omega)
 have HXL : Hid (xss.length = ms) := Lib.hid hs.len
 have c0 := z0.2 1 _ rfl; have c1 := z0.2 2 _ rfl; have c2 := z1.2 1 _ rfl; have c3 := z1.2 2 _ rfl
 go_wp2_with fail
 refine (rports7_as h.i k.i HI.out (by omega)).mono ?_
 rintro en w5 ⟨rfl, b⟩
 clear c0 c1 c2 c3
 replace z0 := z0.on b; replace z1 := z1.on b; replace h := h.on b; replace k := k.on b; replace hs := hs.on b; replace hL1 := hL1.on b; replace hL2 := hL2.on b; replace BW := Below.step BW b
 clear b
 have c0 := z0.2 1 _ rfl; have c1 := z0.2 2 _ rfl; have c2 := z1.2 1 _ rfl; have c3 := z1.2 2 _ rfl
 go_wp2_with fail
 refine (rports7_as h.o k.o HO.out (by omega)).mono ?_
 rintro en w6 ⟨rfl, b⟩
 clear c0 c1 c2 c3
 replace z0 := z0.on b; replace z1 := z1.on b; replace h := h.on b; replace k := k.on b; replace hs := hs.on b; replace hL1 := hL1.on b; replace hL2 := hL2.on b; replace BW := Below.step BW b
 clear b
 obtain ⟨l, e, hl⟩ : ∃ l e, rrunX N I O (nI L1) xss = (l, e) := ⟨_, _, rfl⟩
 have HRA := Lib.hid hl
 have HRB : Hid (rrunX M I2 O2 (nI L2) xss = (l, e)) := Lib.hid (by rw [HR.out]; exact hl)
 clear hl HR
 obtain ⟨c0, c1, c2⟩ := z0.zb3
 go_wp2_with fail
 refine (rthrough_as h.n h.i h.o h.hn (by omega) (by omega) HB.out HQ.out HF.out hL1 HL1.out.2 HL1.out.1 hs (by omega) HRA.out).mono ?_
 rintro en w7 ⟨A7, m7, c7, rfl, hn7, sw7, b⟩
 clear c0 c1 c2
 replace z1 := z1.on b; replace k := k.on b; replace hs := hs.on b; replace hL2 := hL2.on b; replace BW := Below.step BW b
 clear b h z0 hL1
 obtain ⟨c0, c1, c2⟩ := z1.zb3
 go_wp2_with fail
 refine (rthrough_as k.n k.i k.o k.hn (by omega) (by omega) KB.out KQ.out KF.out hL2 HL2.out.2 HL2.out.1 hs (by omega) HRB.out).mono ?_
 rintro en w8 ⟨A8, m8, c8, rfl, hn8, sw8, b⟩
 clear c0 c1 c2
 replace hn7 := hn7.on b; replace BW := Below.step BW b
 clear b k z1 hL2 hs
 obtain rfl : m8 = m7 := by rw [← hn7.len, ← hn8.len]
 have HMX : Hid (∀ xs ∈ l, xs.length ≤ 1000) := Lib.hid fun xs hx => by rw [(rrunX_rows HRA.out).2 xs hx]; exact HOL.out
 have hm8 : m8 ≤ 1000 := by
  have h1 := (rrunX_rows HRA.out).1
  rw [hn7.len, HXL.out] at h1
  omega
 have e0 : (e != e) = false := by simp
 have e1 : (((m8 : Nat) : Int) != (m8 : Int)) = false := by simp
 go_wp2_with fail
 clear e0 e1
 go_loopw [15] (fun iv wr => ∃ i : Nat, i ≤ m8 ∧ iv = .int .i64 i ∧ Below w8.heap.size w8 wr) (fun iv _ => m8 - (intOf iv).toNat)
 case atStart => exact ⟨0, Nat.zero_le _, rfl, Below.refl _ _⟩
 case round =>
  obtain ⟨i, hi, rfl, BR⟩ := hrel
  by_cases hlt : i < m8
  ·obtain ⟨b5, o5, A5, m5, d5, xs5, rfl, hb5, HX5, q5, n5, s5⟩ := (hn7.on BR).at hlt
   obtain ⟨b7, o7, A9, m9, d9, xs7, rfl, hb7, HX7, q7, n7, s7⟩ := (hn8.on BR).at hlt
   have hX := HX5.out.symm.trans HX7.out
   injection hX with hX
   subst hX
   obtain rfl : m9 = m5 := by rw [← n5.len, ← n7.len]
   have hm5 : m9 ≤ 100000 := by
    have := HMX.out xs5 (List.mem_of_getElem? HX5.out)
    rw [n5.len] at this
    omega
   have k5 : CAt wr b5 (o5 + i) (.slice A5 m9 d5) := ⟨hb5, q5⟩
   have k7 : CAt wr b7 (o7 + i) (.slice A9 m9 d9) := ⟨hb7, q7⟩
   have i0 : (0 : Int) ≤ (i : Int) := by omega
   have i1 : (i : Int) < (m8 : Int) := by omega
   clear q5 q7 hb5 hb7 HX5 HX7
   go_upto_region 12 with fail
   try dsimp only [List.append]
   refine LexG.region_plan LexG.below_ok 0 [0, 1, 2, 3, 4, 5, 6, 7, 8, 9] (by kernel_rfl) (by kernel_rfl) (by kernel_rfl) (by kernel_rfl) (by kernel_rfl) ?_
   dsimp only [LexG.pick, LexG.nth]
   have bd : Below wr.heap.size wr wr.drew := (Below.refl _ _).drew
   replace k5 := k5.on bd
   replace k7 := k7.on bd
   replace n5 := n5.on bd
   replace n7 := n7.on bd
   replace BR := Below.step BR bd
   obtain ⟨w9, e9⟩ : ∃ w', wr.drew = w' := ⟨_, rfl⟩
   rw [e9] at k5 k7 n5 n7 BR ⊢
   clear e9 bd
   have lf0 := fun s : LexG.Wd (fun w w' => Below w.heap.size w w') w9 => (k5.on s.rel).2
   have lf1 := fun s : LexG.Wd (fun w w' => Below w.heap.size w w') w9 => (k7.on s.rel).2
   refine LexG.lex_plain 8 (by kernel_rfl) ?_
   dsimp only [List.take, List.drop]
   repeat go_big_quiet_step (fail)
   refine wpQuiet_nil ?_
   clear lf0 lf1
   refine LexG.lex_call (by kernel_rfl) (by kernel_rfl) (fun K hK => ?_)
   go_simp
   refine (same7_eq n5 n7 hm5).mono ?_
   rintro en w10 ⟨rfl, b⟩
   dsimp only
   refine hK _ _ b ?_
   clear hK K
   replace BR := Below.step BR b
   refine LexG.lex_plain 1 (by kernel_rfl) ?_
   dsimp only [List.take, List.drop]
   repeat go_big_quiet_step (fail)
   refine wpQuiet_nil ?_
   refine LexG.lex_nil ?_
   dsimp only [NoPanic]
   go_wp2_with fail
   go_roundw
   case rel => exact ⟨i + 1, by omega, by go_num, BR⟩
   case measure => simp [intOf]; omega
  ·obtain rfl : i = m8 := by omega
   go_wp2_with fail
   go_ret
   exact ⟨rfl, Below.step BW BR⟩
end Go.Proofs.Ytcehklnonhalhaa
